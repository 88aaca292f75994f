import PyProof.Rows.All
import Wide.All
import OpenK.AllK
import Wide.FinOn
import Lean
import PyProof.EqAt
import PyProof.EqKinds
import PyProof.TupleCall
import KE.KLam
import KE.KSortKey
import PyProof.ListRange
import PyProof.CollectIter
import PyProof.Rows.RuleB_bool
import PySem.Challenge.RW_cratefit_k73_what_lies_over
set_option Elab.async false
set_option linter.all false
set_option maxRecDepth 100000
set_option hygiene false
namespace L2
open PySem PySem.Spec PyProof.Rows
abbrev i4:=Sum Int Str
def a0v:i4→Value→Bool
 | .inl k,v=>Value.isInt k v
 | .inr x,v=>Value.isStrOf x v
def b47(w:World):i4→Int
 | .inl k=>hashInt k
 | .inr x=>hashStr w x
theorem v3:∀{k:i4} {v:Value},a0v k v=true→(∃i t,k=Sum.inl i∧v=Value.int i t)∨(∃x t,k=Sum.inr x∧v=Value.str x t)
 | .inl i,v,h=>by
  obtain⟨t,e⟩:=Value.isInt_shape (k:=i) (v:=v) h
  exact .inl ⟨i,t,rfl,e⟩
 | .inr x,v,h=>by
  obtain⟨t,e⟩:=Value.isStrOf_shape (x:=x) (v:=v) h
  exact .inr ⟨x,t,rfl,e⟩
theorem a7t(i:Int)(t:Tok):a0v (.inl i) (.int i t)=true:=by simp[a0v,Value.isInt]
theorem a7u(x:Str)(t:Tok):a0v (.inr x) (.str x t)=true:=by simp[a0v,Value.isStrOf]
theorem b2B(a b:Int):decide ((Sum.inl a:i4)=Sum.inl b)=(a == b):=by
 by_cases e:a=b
 ·subst e;simp
 ·have h:¬(Sum.inl a:i4)=Sum.inl b:=fun q=>e (Sum.inl.inj q)
  rw[decide_eq_false h]
  exact(beq_eq_false_iff_ne.mpr e).symm
theorem b2C(a b:Str):decide ((Sum.inr a:i4)=Sum.inr b)=decide (a=b):=by
 by_cases e:a=b
 ·subst e;simp
 ·have h:¬(Sum.inr a:i4)=Sum.inr b:=fun q=>e (Sum.inr.inj q)
  rw[decide_eq_false h,decide_eq_false e]
theorem b2D(a:Int)(b:Str):decide ((Sum.inl a:i4)=Sum.inr b)=false:=decide_eq_false (fun q=>nomatch q)
theorem b2E(a:Str)(b:Int):decide ((Sum.inr a:i4)=Sum.inl b)=false:=decide_eq_false (fun q=>nomatch q)
def v9(prog:Program)(w:World):PySem.KeyKind prog w i4 where
 is:=a0v
 hash:=b47 w
 inj:=fun v a b ha hb=>by
  rcases v3 ha with⟨i,t,rfl,rfl⟩ | ⟨x,t,rfl,rfl⟩
  ·rcases v3 hb with⟨j,u,rfl,e⟩ | ⟨y,u,rfl,e⟩
   ·injection e with e1 _;rw[e1]
   ·exact nomatch e
  ·rcases v3 hb with⟨j,u,rfl,e⟩ | ⟨y,u,rfl,e⟩
   ·exact nomatch e
   ·injection e with e1 _;rw[e1]
 byValue:=fun k v h=>by
  rcases v3 h with⟨i,t,rfl,rfl⟩ | ⟨x,t,rfl,rfl⟩<;>rfl
 pyHash:=fun hv h=>by
  rcases v3 hv with⟨i,t,rfl,rfl⟩ | ⟨x,t,rfl,rfl⟩
  ·exact wpAny_pyHash_int h
  ·exact wpAny_pyHash_str h
 eqBool:=fun hu hv h=>by
  rcases v3 hu with⟨i,t,rfl,rfl⟩ | ⟨x,t,rfl,rfl⟩
  ·rcases v3 hv with⟨j,u,rfl,rfl⟩ | ⟨y,u,rfl,rfl⟩
   ·rw[b2B]at h;exact wpAny_eqBool_int h
   ·rw[b2D]at h;exact SeqAt.EqAt.int_str i t y u _ _ _ _ h
  ·rcases v3 hv with⟨j,u,rfl,rfl⟩ | ⟨y,u,rfl,rfl⟩
   ·rw[b2E]at h;exact SeqAt.EqAt.str_int x t j u _ _ _ _ h
   ·rw[b2C]at h;exact wpAny_eqBool_str h
 «strs» := fun k x t v h=>by
  rcases v3 h with⟨i,u,rfl,e⟩ | ⟨y,u,rfl,e⟩
  ·exact nomatch e
  ·injection e with e1 _
   subst e1
   cases v<;>rfl
theorem a5u(prog:Program)(w:World)(i:Int)(t:Tok):(v9 prog w).is (.inl i) (.int i t)=true:=a7t i t
theorem a5v(prog:Program)(w:World)(x:Str)(t:Tok):(v9 prog w).is (.inr x) (.str x t)=true:=a7u x t
inductive V where
 | non | bl (b:Bool) | int (i:Int) | str (x:Str) | byt (b:Array UInt8) | flt (b:UInt64) | ref (a:Addr) | ty (n:String)
 deriving DecidableEq
def RelV:V→Value→Prop
 | .non,u=>u=Value.none
 | .bl b,u=>u=Value.bool b
 | .int i,u=>∃t,u=Value.int i t
 | .str x,u=>∃t,u=Value.str x t
 | .byt b,u=>∃t,u=Value.bytes b t
 | .flt b,u=>∃t,u=Value.float b t
 | .ref a,u=>u=Value.ref a
 | .ty n,u=>u=Value.type n
abbrev Vals:List V→List Value→Prop:=Paired RelV
theorem Vals.length{xs:List V}{us:List Value}(r:Vals xs us):xs.length=us.length:=Paired.length r
theorem Vals.get:∀{xs:List V} {us:List Value} {i:Nat} {x:V},Vals xs us→xs[i]? = some x→∃u,us[i]? = some u∧RelV x u
 | _,_,_,_,.nil,e=>by simp at e
 | _,_,0,_,.cons r _,e=>by simp at e;subst e;exact⟨_,rfl,r⟩
 | _,_,i+1,x,.cons _ t,e=>by
  obtain⟨u,h1,h2⟩:=Vals.get (i:=i) (x:=x) t (by simpa using e)
  exact⟨u,by simpa using h1,h2⟩
theorem Vals.set{x:V}{u:Value}(r:RelV x u):∀{xs:List V} {us:List Value} (i:Nat),Vals xs us→Vals (xs.set i x) (us.set i u)
 | _,_,_,.nil=>.nil
 | _,_,0,.cons _ t=>.cons r t
 | _,_,i+1,.cons q t=>.cons q (Vals.set r i t)
theorem Vals.append:∀{xs ys:List V} {us ws:List Value},Vals xs us→Vals ys ws→Vals (xs++ys) (us++ws)
 | _,_,_,_,.nil,s=>s
 | _,_,_,_,.cons r t,s=>.cons r (Vals.append t s)
theorem Vals.take:∀{xs:List V} {us:List Value} (n:Nat),Vals xs us→Vals (xs.take n) (us.take n)
 | _,_,0,_=>.nil
 | _,_,_+1,.nil=>.nil
 | _,_,n+1,.cons r t=>.cons r (Vals.take n t)
theorem Vals.drop:∀{xs:List V} {us:List Value} (n:Nat),Vals xs us→Vals (xs.drop n) (us.drop n)
 | _,_,0,r=>r
 | _,_,_+1,.nil=>.nil
 | _,_,n+1,.cons _ t=>Vals.drop n t
def RelO:Option V→Option Value→Prop
 | some v,some u=>RelV v u
 | none,none=>True
 | _,_=>False
def KV{κ:Type}:List (κ×V)→List (κ×Value)→Prop:=Paired fun(p:κ×V) (q:κ×Value)=>p.1=q.1∧RelV p.2 q.2
def kV:i4→V
 | .inl i=>.int i
 | .inr x=>.str x
inductive HO where
 /-- a list -/
 | lst (xs:List V)
 /-- a tuple (never changes) -/
 | tup (xs:List V)
 /-- a dict whose keys are ints and texts; one whose keys are tuples of ints and texts (the empty one is both) -/
 | dK (kvs:List (i4×V)) | dT (kvs:List (List i4×V))
 /-- a set of ints: its members, its size -/
 | set (S:Int→Bool) (n:Nat)
 /-- an instance of the class at C, its dict at dx, its attributes -/
 | ins (C dx:Addr) (fs:List (Str×V))
 /-- the dict of the instance at x -/
 | own (x:Addr)
 /-- the dict of an exception -/
 | xd (fs:List (Str×V))
 /-- a bound method, f of x -/
 | met (f x:Addr)
 /-- a range object lo, lo + 1, .. below hi -/
 | rng (lo hi:Int)
 /-- a thing that is known to the object (the script; a dict while a loop walks it): read, never written while it is so -/
 | frz (o:Obj) (u:HO)
 /-- a code object's table -/
 | tbl (ps:Array Value)
 /-- any other thing, by what is true of its one object (a def of one's own: SetO a S n := HO.ext fun h => ..) -/
 | ext (φ:Heap→Prop)
abbrev Hp:=Addr→Option HO
def upd(H:Hp)(a:Addr)(o:HO):Hp:=fun b=>if b=a then some o else H b
theorem i0{H:Hp}{a:Addr}{o:HO}:upd H a o a=some o:=by unfold upd;rw[if_pos rfl]
theorem b9{H:Hp}{a b:Addr}{o:HO}(h:b≠a):upd H a o b=H b:=by unfold upd;rw[if_neg h]
theorem a9_{H:Hp}{a b:Addr}{o u:HO}(h:H a=some o)(h':H b=some u)(d:o≠u):a≠b:=by
 intro e;subst e;rw[h]at h';exact d (Option.some.inj h')
theorem g8{H:Hp}{a b:Addr}{o:HO}(h:H a=some o)(h':H b=none):a≠b:=by
 intro e;subst e;rw[h]at h';cases h'
section
variable (P:Program)(w:World)
def ObjOk(H:Hp)(h:Heap)(a:Addr):HO→Prop
 | .lst xs=>xs.length≤sizeLine∧∃(its:List Value) (n:Nat),Vals xs its∧h.get? a=some { cls:=.type "list",data:=.seq its.toArray n }
 | .tup xs=>xs.length≤sizeLine∧∃its:List Value,Vals xs its∧IsTup h a its.toArray
 | .dK kvs=>kvs.length≤sizeLine∧(a == sysModules)=false∧∃vs,KV kvs vs∧h.DictOf (v9 P w) a vs
 | .dT kvs=>kvs.length≤sizeLine∧(a == sysModules)=false∧∃xs:List (List i4×Addr×Value),
   Paired (fun(p:List i4×V) (q:List i4×Addr×Value)=>p.1=q.1∧H q.2.1=some (.tup (p.1.map kV))∧RelV p.2 q.2.2) kvs xs ∧
   ∃o es ep,h.get? a=some o∧o.ExactDict∧o.data=.dict es ep∧es.toList=xs.map (entryOfKey (tupleKind (v9 P w)))∧(xs.map (·.1)).Nodup
 | .set S n=>h.SetOf (intKind P w) a S n
 | .ins C dx fs=>H dx=some (.own a)∧fs.length≤1000∧dx≠a∧h.get? a=some (W.instObj C dx) ∧
   ∃mA,h.Ns1 dx mA∧(∀f,RelO (fs.lookup f) (mA f))∧PySem.Within mA (fs.map (·.1))
 | .own _=>∃o,h.get? a=some o
 | .xd fs=>∃mA,h.Ns1 a mA∧∀f,RelO (fs.lookup f) (mA f)
 | .rng lo hi=>∃t u v,h.get? a=some { cls:=.type "range",data:=.fields #[.int lo t,.int hi u,.int 1 v] }
 | .frz o u=>h.get? a=some o∧ObjOk H h a u
 | .tbl qs=>∃ps:Array Value,h.get? a=some { cls:=.none,data:=.fields ps }∧TriplesOk ps.toList∧∀pos cv,codeAmong pos ps.toList=some cv→∃c oc u,cv=Value.ref c∧H c=some (.frz oc u)∧∃vs q t t2,oc.data=.fields vs∧vs[1]? = some (Value.str q t2)∧qs[0]? = some (Value.str q t)
 | .met f x=>h.get? a=some (W.methodObj (.ref f) (.ref x))
 | .ext φ=>φ h∧(∃o,h.get? a=some o)∧∀h1 h2:Heap,φ h1→(∀o,h1.get? a=some o→h2.get? a=some o)→φ h2
def HOk(H:Hp)(h:Heap):Prop:=∀a o,H a=some o→ObjOk P w H h a o
end
section
variable {P:Program}{w:World}{H H':Hp}{h h':Heap}{a:Addr}{o:HO}
theorem ObjOk.lt(x:ObjOk P w H h a o):a<h.objs.size:=by
 cases o with
 | lst xs=>obtain⟨_,_,_,_,e⟩:=x;exact Heap.lt_size e
 | tup xs=>obtain⟨_,_,_,p⟩:=x;exact p.lt
 | dK kvs=>obtain⟨_,_,_,_,o,_,_,e,_⟩:=x;exact Heap.lt_size e
 | dT kvs=>obtain⟨_,_,_,_,o,_,_,e,_⟩:=x;exact Heap.lt_size e
 | set S n=>obtain⟨o,_,_,_,e,_⟩:=x;exact Heap.lt_size e
 | ins C dx fs=>obtain⟨_,_,_,e,_⟩:=x;exact Heap.lt_size e
 | own y=>obtain⟨_,e⟩:=x;exact Heap.lt_size e
 | xd fs=>obtain⟨_,⟨_,_,_,e,_⟩,_⟩:=x;exact Heap.lt_size e
 | rng lo hi=>obtain⟨_,_,_,e⟩:=x;exact Heap.lt_size e
 | frz ob u=>obtain⟨e,_⟩:=x;exact Heap.lt_size e
 | tbl ps=>obtain⟨_,e,_⟩:=x;exact Heap.lt_size e
 | met f y=>exact Heap.lt_size (show h.get? a=some _ from x)
 | ext φ=>obtain⟨_,⟨_,e⟩,_⟩:=x;exact Heap.lt_size e
theorem Paired.mapP{α β:Type}{F G:α→β→Prop}:∀{l₁:List α} {l₂:List β},Paired F l₁ l₂→(∀a b,F a b→G a b)→Paired G l₁ l₂
 | _,_,.nil,_=>.nil
 | _,_,.cons r t,f=>.cons (f _ _ r) (Paired.mapP t f)
theorem ObjOk.stay(x:ObjOk P w H h a o)(k:∀b u,(b=a∨H b=some (.own a))→h.get? b=some u→h'.get? b=some u)
  (ho:∀b,H b=some (.own a)→H' b=some (.own a)) (ht:∀b xs,H b=some (.tup xs)→H' b=some (.tup xs)) (hz:∀b ob u,H b=some (.frz ob u)→H' b=some (.frz ob u)):ObjOk P w H' h' a o:=by
 induction o with
 | lst xs=>obtain⟨z,its,n,r,e⟩:=x;exact⟨z,its,n,r,k _ _ (.inl rfl) e⟩
 | tup xs=>obtain⟨z,its,r,ob,e,c⟩:=x;exact⟨z,its,r,ob,k _ _ (.inl rfl) e,c⟩
 | dK kvs=>obtain⟨z,y,vs,r,ob,es,ep,e,c⟩:=x;exact⟨z,y,vs,r,ob,es,ep,k _ _ (.inl rfl) e,c⟩
 | dT kvs =>
  obtain⟨z,y,xs,r,ob,es,ep,e,c⟩:=x
  exact⟨z,y,xs,Paired.mapP r fun p q z=>⟨z.1,ht _ _ z.2.1,z.2.2⟩,ob,es,ep,k _ _ (.inl rfl) e,c⟩
 | set S n=>obtain⟨ob,es,ep,t,e,c⟩:=x;exact⟨ob,es,ep,t,k _ _ (.inl rfl) e,c⟩
 | ins C dx fs =>
  obtain⟨d,z,ne,e,mA,⟨od,es,ep,e2,c⟩,r⟩:=x
  exact⟨ho _ d,z,ne,k _ _ (.inl rfl) e,mA,⟨od,es,ep,k _ _ (.inr d) e2,c⟩,r⟩
 | own y=>obtain⟨ob,e⟩:=x;exact⟨ob,k _ _ (.inl rfl) e⟩
 | xd fs=>obtain⟨mA,⟨od,es,ep,e,c⟩,r⟩:=x;exact⟨mA,⟨od,es,ep,k _ _ (.inl rfl) e,c⟩,r⟩
 | rng lo hi=>obtain⟨t,u,v,e⟩:=x;exact⟨t,u,v,k _ _ (.inl rfl) e⟩
 | frz ob u ih=>obtain⟨e,q⟩:=x;exact⟨k _ _ (.inl rfl) e,ih q⟩
 | tbl qs =>
  obtain⟨ps,e,tr,al⟩:=x
  refine⟨ps,k a _ (.inl rfl) e,tr,fun pos cv q=>?_⟩
  obtain⟨c,oc,u,e1,e3,r⟩:=al pos cv q
  exact⟨c,oc,u,e1,hz _ _ _ e3,r⟩
 | met f y =>
  have e:h.get? a=some (W.methodObj (.ref f) (.ref y)):=x
  show h'.get? a=some (W.methodObj (.ref f) (.ref y))
  exact k a _ (.inl rfl) e
 | ext φ=>obtain⟨p,⟨o,e⟩,st⟩:=x;exact⟨st _ _ p fun o q=>k _ _ (.inl rfl) q,⟨o,k _ _ (.inl rfl) e⟩,st⟩
theorem HOk.lt(x:HOk P w H h)(e:H a=some o):a<h.objs.size:=(x a o e).lt
theorem HOk.fresh(x:HOk P w H h)(e:h.objs.size≤a):H a=none:=by
 cases q:H a with
 | none=>rfl
 | some u=>exact absurd (Nat.lt_of_lt_of_le (x.lt q) e) (Nat.lt_irrefl _)
theorem HOk.kept(x:HOk P w H h)(k:∀b u,h.get? b=some u→h'.get? b=some u):HOk P w H h':=fun a o e =>
 (x a o e).stay (fun b u _ q=>k b u q) (fun _ q=>q) (fun _ _ q=>q) fun _ _ _ q=>q
theorem HOk.laid(x:HOk P w H h)(k:∀b u,h.get? b=some u→h'.get? b=some u)(hp:h.objs.size≤a)(new:ObjOk P w (upd H a o) h' a o):HOk P w (upd H a o) h':=fun b u e=>by
 have hn:=x.fresh hp
 by_cases hb:b=a
 ·subst hb;rw[i0]at e;cases e;exact new
 ·rw[b9 hb]at e
  exact(x b u e).stay (fun c v _ q=>k c v q) (fun c q=>by rw[b9 (g8 q hn)];exact q) (fun c xs q=>by rw[b9 (g8 q hn)];exact q) fun c ob u q=>by rw[b9 (g8 q hn)];exact q
end
def Rd(H:Hp)(a:Addr)(u:HO):Prop:=H a=some u∨∃o,H a=some (.frz o u)
theorem Rd.of{H:Hp}{a:Addr}{u:HO}(h:H a=some u):Rd H a u:=.inl h
theorem Rd.ok{P:Program}{w:World}{H:Hp}{h:Heap}{a:Addr}{u:HO}(r:Rd H a u)(x:HOk P w H h):ObjOk P w H h a u:=by
 rcases r with r | ⟨o,r⟩
 ·exact x a u r
 ·obtain⟨_,q⟩:=x a _ r
  exact q
def Mut:Option HO→Prop
 | some (.lst _)=>True
 | some (.dK _)=>True
 | some (.dT _)=>True
 | some (.set _ _)=>True
 | some (.ins _ _ _)=>True
 | some (.ext _)=>True
 | _=>False
section
variable {P:Program}{w:World}{H:Hp}{h h':Heap}{x e:Addr}{o':HO}
theorem HOk.write(ok:HOk P w H h)(mu:Mut (H x))(he:e=x∨H e=some (.own x))(k:∀b u,b≠e→h.get? b=some u→h'.get? b=some u)(heo:∃u,h'.get? e=some u)
  (new:ObjOk P w (upd H x o') h' x o'):HOk P w (upd H x o') h':=fun b u q=>by
 have nown:∀c y,H c=some (.own y)→c≠x:=fun c y r z=>by subst z;rw[r]at mu;exact mu
 have ntup:∀c xs,H c=some (.tup xs)→c≠x:=fun c xs r z=>by subst z;rw[r]at mu;exact mu
 by_cases hb:b=x
 ·subst hb;rw[i0]at q;cases q;exact new
 ·rw[b9 hb]at q
  by_cases hbe:b=e
  ·have q':H b=some (.own x):=by
    rcases he with z | z
    ·exact absurd (hbe.trans z) hb
    ·rw[hbe];exact z
   rw[q]at q';cases q'
   obtain⟨v,hv⟩:=heo
   exact⟨v,by rw[hbe];exact hv⟩
  ·refine(ok b u q).stay (fun c v hc r=>k c v ?_ r) (fun c r=>by rw[b9 (nown c b r)];exact r) (fun c xs r=>by rw[b9 (ntup c xs r)];exact r) fun c ob u r=>by rw[b9 (fun z=>by subst z;rw[r]at mu;exact mu)];exact r
   rcases hc with rfl | hc
   ·exact hbe
   ·rintro rfl
    rcases he with z | z
    ·exact nown c b hc z
    ·rw[hc]at z;cases z;exact hb rfl
end
structure Un(fs ex:List Addr)(H H':Hp)(h h':Heap):Prop where
 keep:∀b o,h.get? b=some o→H b=none→b ∉ fs→b ∉ ex→h'.get? b=some o
 slot:∀b o,h.get? b=some o→H b=none→b∈fs→b ∉ ex→∃sl,h'.get? b=some { o with slots:=sl }
 free:∀b o,h.get? b=some o→H b=none→b ∉ ex→H' b=none
 there:∀b o,h.get? b=some o→b ∉ ex→∃o',h'.get? b=some o'
 tups:∀b xs,H b=some (.tup xs)→H' b=some (.tup xs)
 frzs:∀b o u,H b=some (.frz o u)→H' b=some (.frz o u)
 tbls:∀b ps,H b=some (.tbl ps)→∃more,H' b=some (.tbl (ps++more))
section
variable {fs fs' ex ex':List Addr}{H H1 H2:Hp}{h h1 h2 h':Heap}{a x e:Addr}{o:HO}
theorem Un.any(u:Un fs ex H H1 h h1){b:Addr}{ob:Obj}(q:h.get? b=some ob)(n:H b=none)(hx:b ∉ ex):∃sl,h1.get? b=some { ob with slots:=sl }:=by
 by_cases hb:b∈fs
 ·exact u.slot b ob q n hb hx
 ·exact⟨ob.slots,u.keep b ob q n hb hx⟩
theorem Un.trans(a:Un fs ex H H1 h h1)(b:Un fs ex H1 H2 h1 h2):Un fs ex H H2 h h2 where
 keep:=fun c ob q n hc hx=>b.keep c ob (a.keep c ob q n hc hx) (a.free c ob q n hx) hc hx
 slot:=fun c ob q n hc hx=>by
  obtain⟨sl,e1⟩:=a.slot c ob q n hc hx
  obtain⟨sl',e2⟩:=b.slot c _ e1 (a.free c ob q n hx) hc hx
  exact⟨sl',e2⟩
 free:=fun c ob q n hx=>by
  obtain⟨o',e1⟩:=a.there c ob q hx
  exact b.free c o' e1 (a.free c ob q n hx) hx
 there:=fun c ob q hx=>by
  obtain⟨o',e1⟩:=a.there c ob q hx
  exact b.there c o' e1 hx
 tups:=fun c xs q=>b.tups c xs (a.tups c xs q)
 frzs:=fun c ob xs q=>b.frzs c ob xs (a.frzs c ob xs q)
 tbls:=fun c ps q=>by
  obtain⟨m1,e1⟩:=a.tbls c ps q
  obtain⟨m2,e2⟩:=b.tbls c _ e1
  exact⟨m1++m2,by rw[e2,Array.append_assoc]⟩
theorem Un.kept(k:∀b u,h.get? b=some u→h'.get? b=some u):Un fs ex H H h h' :=
 ⟨fun b ob q _ _ _=>k b ob q,fun b ob q _ _ _=>⟨ob.slots,k b ob q⟩,fun _ _ _ n _=>n,fun b ob q _=>⟨ob,k b ob q⟩,fun _ _ q=>q,fun _ _ _ q=>q,fun _ ps q=>⟨#[],by rw[q];simp⟩⟩
theorem Un.refl:Un fs ex H H h h:=Un.kept fun _ _ q=>q
theorem Un.laid(k:∀b u,h.get? b=some u→h'.get? b=some u)(hp:h.objs.size≤a)(hn:H a=none):Un fs ex H (upd H a o) h h' where
 keep:=fun b u q _ _ _=>k b u q
 slot:=fun b u q _ _ _=>⟨u.slots,k b u q⟩
 free:=fun b u q n _=>by rw[b9 (Nat.ne_of_lt (Nat.lt_of_lt_of_le (Heap.lt_size q) hp))];exact n
 there:=fun b u q _=>⟨u,k b u q⟩
 tups:=fun b xs q=>by rw[b9 (g8 q hn)];exact q
 frzs:=fun b u xs q=>by rw[b9 (g8 q hn)];exact q
 tbls:=fun b ps q=>⟨#[],by rw[b9 (g8 q hn),q];simp⟩
theorem Un.write(mu:Mut (H x))(he:e=x∨H e=some (.own x))(k:∀b u,b≠e→h.get? b=some u→h'.get? b=some u)(heo:∃u,h'.get? e=some u):Un fs ex H (upd H x o) h h':=by
 have hx:∀b,H b=none→b≠x:=fun b n z=>by subst z;rw[n]at mu;exact mu
 have hb:∀b,H b=none→b≠e:=fun b n z=>by
  subst z
  rcases he with r | r
  ·exact hx b n r
  ·rw[n]at r;cases r
 have hm:∀b u,H b=some u→¬Mut (some u)→b≠x:=fun b u q nm z=>by subst z;rw[q]at mu;exact nm mu
 refine⟨fun b u q n _ _=>k b u (hb b n) q,fun b u q n _ _=>⟨u.slots,k b u (hb b n) q⟩,fun b u q n _=>by rw[b9 (hx b n)];exact n,fun b u q _=>?_,
  fun b xs q=>by rw[b9 (hm b _ q fun z=>z)];exact q,fun b u xs q=>by rw[b9 (hm b _ q fun z=>z)];exact q,fun b ps q=>⟨#[],by rw[b9 (hm b _ q fun z=>z),q];simp⟩⟩
 by_cases hbe:b=e
 ·subst hbe;exact heo
 ·exact⟨u,k b u hbe q⟩
theorem Un.mono(u:Un fs ex H H1 h h1)(hs:∀b∈fs,b∈fs')(hx:∀b∈ex,b∈ex'):Un fs' ex' H H1 h h1 :=
 ⟨fun b ob q n hb he=>u.keep b ob q n (fun z=>hb (hs b z)) fun z=>he (hx b z),fun _ _ q n _ he=>u.any q n fun z=>he (hx _ z),fun b ob q n he=>u.free b ob q n fun z=>he (hx b z),fun b ob q he=>u.there b ob q fun z=>he (hx b z),u.tups,u.frzs,u.tbls⟩
end
def trk(h:Heap)(H:Hp):List Addr:=(List.range h.objs.size).filter fun a=>(H a).isSome
def a0b(h:Heap)(H:Hp):Heap:=W.hideAll h (trk h H)
theorem a7w(h:Heap)(H:Hp):(a0b h H).objs.size=h.objs.size:=W.hideAll_size _ _
theorem a8O{h:Heap}{H:Hp}{b:Addr}{o:Obj}(e:h.get? b=some o)(n:H b=none):(a0b h H).get? b=some o :=
 W.hideAll_get _ e fun hm=>by
  have q:(H b).isSome=true:=(List.mem_filter.mp hm).2
  rw[n]at q;simp at q
theorem b0Q{h:Heap}{H:Hp}{b:Addr}{o:Obj}(e:(a0b h H).get? b=some o):h.get? b=some o∧H b=none:=by
 have e':h.get? b=some o:=W.of_hideAll (trk h H) e
 refine⟨e',?_⟩
 cases q:H b with
 | none=>rfl
 | some x =>
  have hm:b∈trk h H:=List.mem_filter.mpr ⟨List.mem_range.mpr (Heap.lt_size e'),by simp[q]⟩
  have z:(a0b h H).get? b=none:=W.hideAll_none (trk h H) hm
  rw[z]at e;cases e
def b0R(g h:Heap)(L:Addr):List (Addr×Obj):=(List.range h.objs.size).filterMap fun a=>if a=L∨(g.get? a).isSome=true then none else(h.get? a).map fun o=>(a,o)
def k7(g h:Heap)(L d:Addr):List (Addr×Obj):=(b0R g h L).filter fun p=>decide (p.1≠d)
structure Mod(K:W.Frag)(mg:Str→Option Value)(base:Heap):Prop where
 kin:K.In base
 glob:base.Ns mainGlobals mg
 blt:∃mb,base.Ns builtinsNs mb∧∀x:Str,x≠"__name__"→mb x=bootBuiltins x
 nolimit:base.NoLimit
structure Cx where
 prog:Program
 w:World
 K:W.Frag
 mg:Str→Option Value
 base:Heap
 A:Around
 N:List Str
 s₀:Shared
 H₀:Hp
 env:Env
 outer:List Env
 stack:List Env
 ex:List Addr
 fn:Str→Bool
 calm:Bool
 pn:List (Addr×Obj)
 xe:Value→Shared→Prop
def B8(l:List Env):List Addr:=l.filterMap (·.frame)
abbrev Cx.fs(X:Cx):List Addr:=B8 X.outer
def Vis(sc:Scope)(x:Str):Prop:=sc.names.lookup x=some .local∨sc.names.lookup x=some .cell∨sc.names.lookup x=some .free
def Loc(sc:Scope)(x:Str):Prop:=sc.names.lookup x=some .local∨sc.names.lookup x=some .cell
def b48(env:Env)(h:Heap)(m:Str→Option Value)(x:Str)(u:Value):Prop :=
 (env.kindOf x=some .local∧m x=some u)∨((env.kindOf x=some .cell∨env.kindOf x=some .free)∧∃c,env.cells.lookup x=some c∧h.IsCell c (some u))
structure Cx.Ok(X:Cx):Prop where
 mod:Mod X.K X.mg X.base
 kind:X.env.scope.kind=.function
 glob:X.env.globals=mainGlobals
 blt:X.env.builtins=builtinsNs
 above:X.s₀.heap.objs.size≤X.env.locals
 inj:∀x y c,X.env.cells.lookup x=some c→X.env.cells.lookup y=some c→x=y
 has:∀x,(X.env.kindOf x=some .cell∨X.env.kindOf x=some .free)→∃c,X.env.cells.lookup x=some c
 cab:∀x c,X.fn x=true→X.env.cells.lookup x=some c→X.s₀.heap.objs.size≤c
 hd:X.calm=true→X.A.handled=none
 frames:X.A.frames=some X.stack
 stk:X.stack=X.outer∨(X.stack=X.env::X.outer∧X.env.frame=some X.env.locals)
 exf:∀b∈X.ex,b≠X.env.locals∧∀x c,X.env.cells.lookup x=some c→c≠b
 bs:∀b o,X.base.get? b=some o→X.s₀.heap.get? b=some o∧X.H₀ b=none
 bsz:X.base.objs.size≤X.s₀.heap.objs.size
 noex:∀b o,X.base.get? b=some o→b ∉ X.ex
 exfs:∀b∈X.ex,b ∉ X.fs
 funs:X.s₀.heap.FunFrames X.base X.outer
 frf:∀b∈X.fs,X.H₀ b=none
structure Inv(X:Cx)(pins:List (Addr×Obj))(σ:List (Option V))(H:Hp)(s:Shared):Prop where
 ok:X.Ok
 os:s.os=X.s₀.os
 bare:AllBare s.gens
 base:Un X.fs X.ex X.H₀ H X.s₀.heap s.heap
 loc:∃m,s.heap.Ns X.env.locals m∧∀(i:Nat) (x:Str) (v:V),X.N[i]? = some x→σ[i]? = some (some v)→Vis X.env.scope x→∃u,RelV v u∧b48 X.env s.heap m x u
 cell:∀x c,X.env.cells.lookup x=some c→∃v,s.heap.IsCell c v
 free:H X.env.locals=none
 freeC:∀x c,X.env.cells.lookup x=some c→H c=none
 pin:∀p∈X.pn++pins,s.heap.get? p.1=some p.2∧H p.1=none∧p.1≠X.env.locals∧p.1 ∉ X.fs∧∀v,p.2.data≠.cell v
 hok:HOk X.prog X.w H s.heap
 len:σ.length=X.N.length
section
variable {X:Cx}{pins:List (Addr×Obj)}{σ:List (Option V)}{H H':Hp}{s:Shared}{h':Heap}
theorem Cx.Ok.nofr(ok:X.Ok){b:Addr}{o:Obj}(e:X.base.get? b=some o):b ∉ X.fs:=fun hb=>by
 have:=(ok.funs.mem hb).1
 rw[e]at this;cases this
theorem Inv.bs(I:Inv X pins σ H s):∀b o,X.base.get? b=some o→s.heap.get? b=some o∧H b=none:=fun b o e =>
 ⟨I.base.keep b o (I.ok.bs b o e).1 (I.ok.bs b o e).2 (I.ok.nofr e) (I.ok.noex b o e),I.base.free b o (I.ok.bs b o e).1 (I.ok.bs b o e).2 (I.ok.noex b o e)⟩
theorem Inv.bk(I:Inv X pins σ H s):∀b o,X.base.get? b=some o→s.heap.get? b=some o:=fun b o e=>(I.bs b o e).1
theorem Inv.mod(I:Inv X pins σ H s):Mod X.K X.mg X.base:=I.ok.mod
theorem Inv.kIn(I:Inv X pins σ H s):X.K.In s.heap:=I.ok.mod.kin.keeps I.bk
theorem Inv.nolimit(I:Inv X pins σ H s):s.heap.NoLimit:=I.ok.mod.nolimit.keeps I.bk
theorem Inv.fr(I:Inv X pins σ H s):∃m,Fr X.base X.env.locals s.heap m :=
 let ⟨m,hn,_⟩:=I.loc
 ⟨m,hn,I.bk,Nat.le_trans I.ok.bsz I.ok.above⟩
theorem Inv.lt(I:Inv X pins σ H s):X.env.locals<s.heap.objs.size:=let ⟨_,hn,_⟩:=I.loc;hn.lt
theorem Inv.sz(I:Inv X pins σ H s):X.s₀.heap.objs.size≤s.heap.objs.size:=Nat.le_trans I.ok.above (Nat.le_of_lt I.lt)
theorem Inv.nofs(I:Inv X pins σ H s){a:Addr}(h:s.heap.objs.size≤a):a ∉ X.fs:=fun hb=>by
 obtain⟨_,o,ho,_⟩:=I.ok.funs.mem hb
 exact absurd (Nat.lt_of_lt_of_le (Heap.lt_size ho) (Nat.le_trans I.sz h)) (Nat.lt_irrefl _)
theorem Inv.cne(I:Inv X pins σ H s):∀x c,X.env.cells.lookup x=some c→c≠X.env.locals:=fun x c e z=>by
 obtain⟨v,o,ho,hd⟩:=I.cell x c e
 obtain⟨m,⟨o',es,ep,ho',hd',_⟩,_⟩:=I.loc
 rw[z,ho']at ho;cases ho;rw[hd']at hd;cases hd
theorem Inv.funs(I:Inv X pins σ H s):s.heap.FunFrames X.base X.outer:=by
 have all:∀(l:List Env),(∀b∈B8 l,b∈X.fs)→X.s₀.heap.FunFrames X.base l→s.heap.FunFrames X.base l:=by
  intro l
  induction l with
  | nil=>intro _ _;trivial
  | cons env r ih =>
   intro hs hl
   obtain⟨hk,⟨L,o,hf,hn,ho,hd⟩,hr⟩:=hl
   have hL:L∈X.fs:=hs L (by unfold B8;rw[List.filterMap_cons,hf];exact List.mem_cons_self)
   obtain⟨sl,e⟩:=I.base.slot L o ho (I.ok.frf L hL) hL fun z=>I.ok.exfs L z hL
   exact⟨hk,⟨L,_,hf,hn,e,hd⟩,ih (fun b hb=>hs b (by unfold B8;rw[List.filterMap_cons,hf];exact List.mem_cons_of_mem _ hb)) hr⟩
 exact all X.outer (fun _ hb=>hb) I.ok.funs
theorem Inv.stack(I:Inv X pins σ H s):s.heap.FunFrames X.base X.stack:=by
 rcases I.ok.stk with e | ⟨e,hf⟩
 ·rw[e];exact I.funs
 ·rw[e]
  obtain⟨m,hn,_⟩:=I.loc
  refine .cons (by rw[I.ok.kind];decide) hf hn ?_ I.funs
  exact Heap.get?_none_of_le (Nat.le_trans I.ok.bsz I.ok.above)
theorem Inv.stkSub(I:Inv X pins σ H s):∀b∈B8 X.stack,b∈X.env.locals::X.fs:=fun b hb=>by
 rcases I.ok.stk with e | ⟨e,hf⟩
 ·rw[e]at hb;exact List.mem_cons_of_mem _ hb
 ·rw[e]at hb
  unfold B8 at hb
  rw[List.filterMap_cons,hf]at hb
  exact hb
theorem Inv.stkFree(I:Inv X pins σ H s):∀b∈B8 X.stack,H b=none:=fun b hb=>by
 rcases List.mem_cons.mp (I.stkSub b hb)with e | hb
 ·rw[e];exact I.free
 ·obtain⟨_,o,ho,_⟩:=I.ok.funs.mem hb
  exact I.base.free b o ho (I.ok.frf b hb) fun z=>I.ok.exfs b z hb
theorem Inv.step{g':Array GenState}{t':Nat}{d':Drawn}{ch:List Addr}(I:Inv X pins σ H s)
  (hch:∀b∈ch,(b∈X.ex∨X.s₀.heap.objs.size≤b)∧b≠X.env.locals∧(∀x c,X.env.cells.lookup x=some c→c≠b)∧∀p∈X.pn++pins,p.1≠b)
  (keep:∀b o,b≠X.env.locals→b ∉ X.fs→b ∉ ch→s.heap.get? b=some o→H b=none→h'.get? b=some o)
  (slot:∀b o,b≠X.env.locals→b∈X.fs→b ∉ ch→s.heap.get? b=some o→H b=none→∃sl,h'.get? b=some { o with slots:=sl }) (free:∀b o,b ∉ ch→s.heap.get? b=some o→H b=none→H' b=none)
  (there:∀b o,b ∉ ch→s.heap.get? b=some o→∃o',h'.get? b=some o')
  (tups:∀b xs,H b=some (.tup xs)→H' b=some (.tup xs)) (frzs:∀b o u,H b=some (.frz o u)→H' b=some (.frz o u)) (tbls:∀b ps,H b=some (.tbl ps)→∃more,H' b=some (.tbl (ps++more)))
  (ns:∀m,s.heap.Ns X.env.locals m→h'.Ns X.env.locals m) (hok:HOk X.prog X.w H' h') (hg:AllBare g') :
  Inv X pins σ H' { s with heap:=h',gens:=g',drawn:=d',toks:=t' }:=by
 have neL:∀b o,X.s₀.heap.get? b=some o→b≠X.env.locals:=fun b o e=>Nat.ne_of_lt (Nat.lt_of_lt_of_le (Heap.lt_size e) I.ok.above)
 have neC:∀b o,X.s₀.heap.get? b=some o→b ∉ X.ex→b ∉ ch:=fun b o e hx hb=>by
  rcases(hch b hb).1 with z | z
  ·exact hx z
  ·exact absurd (Nat.lt_of_lt_of_le (Heap.lt_size e) z) (Nat.lt_irrefl _)
 have cellK:∀x c,X.env.cells.lookup x=some c→∀v,s.heap.IsCell c v→h'.IsCell c v:=fun x c e v ⟨o,ho,hd⟩=>by
  have nch:c ∉ ch:=fun z=>(hch c z).2.2.1 x c e rfl
  by_cases hc:c∈X.fs
  ·obtain⟨sl,q⟩:=slot c o (I.cne x c e) hc nch ho (I.freeC x c e)
   exact⟨_,q,hd⟩
  ·exact⟨o,keep c o (I.cne x c e) hc nch ho (I.freeC x c e),hd⟩
 refine⟨I.ok,I.os,hg,⟨fun b o e n hb hx=>?_,fun b o e n hb hx=>?_,fun b o e n hx=>?_,fun b o e hx=>?_,fun b xs e=>tups b xs (I.base.tups b xs e),fun b o xs e=>frzs b o xs (I.base.frzs b o xs e),fun b ps e=>?_⟩,?_,fun x c e=>?_,?_,fun x c e=>?_,fun p hp=>?_,hok,I.len⟩
 ·exact keep b o (neL b o e) hb (neC b o e hx) (I.base.keep b o e n hb hx) (I.base.free b o e n hx)
 ·obtain⟨sl,e1⟩:=I.base.slot b o e n hb hx
  obtain⟨sl',e2⟩:=slot b _ (neL b o e) hb (neC b o e hx) e1 (I.base.free b o e n hx)
  exact⟨sl',e2⟩
 ·obtain⟨o',e1⟩:=I.base.there b o e hx
  exact free b o' (neC b o e hx) e1 (I.base.free b o e n hx)
 ·obtain⟨o',e1⟩:=I.base.there b o e hx
  exact there b o' (neC b o e hx) e1
 ·obtain⟨m1,e1⟩:=I.base.tbls b ps e
  obtain⟨m2,e2⟩:=tbls b _ e1
  exact⟨m1++m2,by rw[e2,Array.append_assoc]⟩
 ·obtain⟨m,hn,hl⟩:=I.loc
  refine⟨m,ns m hn,fun i x v e1 e2 e3=>?_⟩
  obtain⟨u,r,l⟩:=hl i x v e1 e2 e3
  refine⟨u,r,?_⟩
  rcases l with l | ⟨k,c,e,z⟩
  ·exact .inl l
  ·exact .inr ⟨k,c,e,cellK x c e _ z⟩
 ·obtain⟨v,z⟩:=I.cell x c e
  exact⟨v,cellK x c e v z⟩
 ·obtain⟨m,⟨o,_,_,ho,_⟩,_⟩:=I.loc
  exact free _ o (fun z=>(hch _ z).2.1 rfl) ho I.free
 ·obtain⟨v,o,ho,hd⟩:=I.cell x c e
  exact free c o (fun z=>(hch c z).2.2.1 x c e rfl) ho (I.freeC x c e)
 ·obtain⟨e,n,ne,nf,d⟩:=I.pin p hp
  have nch:p.1 ∉ ch:=fun z=>(hch p.1 z).2.2.2 p hp rfl
  exact⟨keep p.1 p.2 ne nf nch e n,free p.1 p.2 nch e n,ne,nf,d⟩
theorem Inv.un{t':Nat}(I:Inv X pins σ H s)(u:Un X.fs [] H H' s.heap h')(hok:HOk X.prog X.w H' h'):Inv X pins σ H' { s with heap:=h',toks:=t' }:=by
 obtain⟨m,⟨o,es,ep,ho,r⟩,_⟩:=id I.loc
 obtain⟨sl,hL⟩:=u.any ho I.free (by simp)
 exact I.step (g':=s.gens) (d':=s.drawn) (ch:=[]) (fun _ z=>nomatch z) (fun b o _ hb _ e n=>u.keep b o e n hb (by simp)) (fun b o _ hb _ e n=>u.slot b o e n hb (by simp)) (fun b o _ e n=>u.free b o e n (by simp)) (fun b o _ e=>u.there b o e (by simp)) u.tups u.frzs u.tbls (fun m' hm=>by
  obtain⟨o',es',ep',ho',r'⟩:=hm
  rw[ho]at ho';cases ho'
  exact⟨_,es',ep',hL,r'⟩) hok I.bare
theorem Inv.call{g':Array GenState}{t':Nat}{d':Drawn}{ch:List Addr}(I:Inv X pins σ H s)(u:Un (B8 X.stack) ch H H' s.heap h')(hok:HOk X.prog X.w H' h')(hg:AllBare g')
  (hch:∀b∈ch,(b∈X.ex∨X.s₀.heap.objs.size≤b)∧b≠X.env.locals∧(∀x c,X.env.cells.lookup x=some c→c≠b)∧∀p∈X.pn++pins,p.1≠b) :
  Inv X pins σ H' { s with heap:=h',gens:=g',drawn:=d',toks:=t' }:=by
 obtain⟨m,⟨o,es,ep,ho,r⟩,_⟩:=id I.loc
 obtain⟨sl,hL⟩:=u.any ho I.free fun z=>(hch _ z).2.1 rfl
 exact I.step (ch:=ch) hch (fun b o hL hb hc e n=>u.keep b o e n (fun z=>(List.mem_cons.mp (I.stkSub b z)).elim hL hb) hc) (fun b o _ _ hc e n=>u.any e n hc) (fun b o hc e n=>u.free b o e n hc) (fun b o hc e=>u.there b o e hc) u.tups u.frzs u.tbls (fun m' hm=>by
  obtain⟨o',es',ep',ho',r'⟩:=hm
  rw[ho]at ho';cases ho'
  exact⟨_,es',ep',hL,r'⟩) hok hg
theorem Inv.turned{t':Nat}{it:Addr}(I:Inv X pins σ H s)(k:∀b o,b≠it→s.heap.get? b=some o→h'.get? b=some o)(hn:H it=none)(hL:it≠X.env.locals)
  (h1:it∈X.ex∨X.s₀.heap.objs.size≤it) (h2:∀x c,X.env.cells.lookup x=some c→c≠it) (h3:∀p∈X.pn++pins,p.1≠it):Inv X pins σ H { s with heap:=h',toks:=t' }:=by
 have nit:∀b u,H b=some u→b≠it:=fun b u e z=>by rw[z,hn]at e;cases e
 refine I.step (g':=s.gens) (d':=s.drawn) (ch:=[it]) (fun b hb=>?_) (fun b o _ _ hc e _=>k b o (fun z=>hc (by simp[z])) e) (fun b o _ _ hc e _=>⟨o.slots,k b o (fun z=>hc (by simp[z])) e⟩) (fun _ _ _ _ n=>n)
  (fun b o hc e=>⟨o,k b o (fun z=>hc (by simp[z])) e⟩) (fun _ _ e=>e) (fun _ _ _ e=>e) (fun b ps e=>⟨#[],by rw[e];simp⟩) (fun m hm=>?_) (fun b u e=>?_) I.bare
 ·have e:b=it:=by simpa using hb
  subst e
  exact⟨h1,hL,h2,h3⟩
 ·obtain⟨o,es,ep,ho,r⟩:=hm
  exact⟨o,es,ep,k _ o (Ne.symm hL) ho,r⟩
 ·refine(I.hok b u e).stay (fun c v hc q=>k c v ?_ q) (fun _ q=>q) (fun _ _ q=>q) fun _ _ _ q=>q
  rcases hc with z | z
  ·rw[z];exact nit b u e
  ·exact nit c _ z
theorem Inv.tok(I:Inv X pins σ H s)(t:Nat):Inv X pins σ H { s with toks:=t }:=I.un (h':=s.heap) (t':=t) Un.refl I.hok
theorem Inv.kept{t':Nat}(I:Inv X pins σ H s)(k:∀b u,s.heap.get? b=some u→h'.get? b=some u):Inv X pins σ H { s with heap:=h',toks:=t' }:=I.un (Un.kept k) (I.hok.kept k)
theorem Inv.laid{a:Addr}{o:HO}{t':Nat}(I:Inv X pins σ H s)(k:∀b u,s.heap.get? b=some u→h'.get? b=some u)(hp:s.heap.objs.size≤a)(new:ObjOk X.prog X.w (upd H a o) h' a o) :
  Inv X pins σ (upd H a o) { s with heap:=h',toks:=t' }:=I.un (Un.laid k hp (I.hok.fresh hp)) (I.hok.laid k hp new)
theorem Inv.write{x e:Addr}{o:HO}{t':Nat}(I:Inv X pins σ H s)(mu:Mut (H x))(he:e=x∨H e=some (.own x))(k:∀b u,b≠e→s.heap.get? b=some u→h'.get? b=some u)(heo:∃u,h'.get? e=some u)
  (new:ObjOk X.prog X.w (upd H x o) h' x o):Inv X pins σ (upd H x o) { s with heap:=h',toks:=t' }:=I.un (Un.write mu he k heo) (I.hok.write mu he k heo new)
theorem Inv.weak{σ':List (Option V)}(I:Inv X pins σ H s)(hl:σ'.length=σ.length)(w:∀(i:Nat) v,σ'[i]? = some (some v)→σ[i]? = some (some v)):Inv X pins σ' H s :=
 ⟨I.ok,I.os,I.bare,I.base,let ⟨m,hn,hl'⟩:=I.loc; ⟨m,hn,fun i x v e1 e2 e3=>hl' i x v e1 (w i v e2) e3⟩,I.cell,I.free,I.freeC,I.pin,I.hok,hl.trans I.len⟩
theorem Inv.pins_of{pins':List (Addr×Obj)}(I:Inv X pins σ H s)(h:∀p∈pins',s.heap.get? p.1=some p.2∧H p.1=none∧p.1≠X.env.locals∧p.1 ∉ X.fs∧∀v,p.2.data≠.cell v):Inv X pins' σ H s :=
 ⟨I.ok,I.os,I.bare,I.base,I.loc,I.cell,I.free,I.freeC,fun p hp=>(List.mem_append.mp hp).elim (fun z=>I.pin p (List.mem_append_left _ z)) (h p),I.hok,I.len⟩
theorem a4n{N:List Str}(hN:N.Nodup){i j:Nat}{x:Str}(a:N[i]? = some x)(b:N[j]? = some x):i=j:=by
 obtain⟨h1,e1⟩:=List.getElem?_eq_some_iff.mp a
 obtain⟨h2,e2⟩:=List.getElem?_eq_some_iff.mp b
 exact(List.getElem_inj hN).mp (e1.trans e2.symm)
theorem a3o{M:Model}{A:Around}{E:Value→Shared→Prop}{i:Nat}{x:Str}{v:V}{u:Value}{Q:Unit→Shared→Prop}(I:Inv X pins σ H s)(hN:X.N.Nodup)(hi:X.N[i]? = some x)(hx:Loc X.env.scope x)(r:RelV v u)
  (h:∀s',Inv X pins (σ.set i (some v)) H s'→(∃a,Heap.SameBut a s.heap s'.heap∧(a=X.env.locals∨X.env.cells.lookup x=some a))→Q () s') (hf:X.fn x=true∨X.env.scope.names.lookup x=some .local:=by first | exact .inl rfl | exact .inr rfl | assumption):wpAny M A (storeName X.env x u) Q E s:=by
 obtain⟨m,hn,hl⟩:=id I.loc
 have hcls:(X.env.scope.kind == .class || (X.env.scope.kind == .module && X.env.locals != X.env.globals))=false:=by rw[I.ok.kind];rfl
 have hiσ:i<σ.length:=by rw[I.len];exact(List.getElem?_eq_some_iff.mp hi).1
 have cne:=I.cne
 have tracked:∀{a:Addr} {h':Heap},(∃o,s.heap.get? a=some o∧H a=none)→Heap.SameBut a s.heap h'→HOk X.prog X.w H h':=fun{a h'} ha hs b ob e=>by
  obtain⟨_,_,hfree⟩:=ha
  refine(I.hok b ob e).stay (fun c w' hc q=>(hs.2 c ?_).trans q) (fun _ q=>q) (fun _ _ q=>q) fun _ _ _ q=>q
  rintro rfl
  rcases hc with rfl | hc
  ·rw[hfree]at e;cases e
  ·rw[hfree]at hc;cases hc
 rcases hx with hk | hk
 ·refine wpAny_storeName_local hk hn (fun h' hn' hs=>?_) hcls
  obtain⟨oL,_,_,hoL,_⟩:=id hn
  refine h _ ⟨I.ok,I.os,I.bare,⟨fun b o e n hb hx=>?_,fun b o e n hb hx=>?_,I.base.free,fun b o e hx=>?_,I.base.tups,I.base.frzs,I.base.tbls⟩,⟨_,hn',fun j y v' e1 e2 e3=>?_⟩,fun y c e=>?_,I.free,I.freeC,fun p hp=>?_,tracked ⟨oL,hoL,I.free⟩ hs,by simpa using I.len⟩ ⟨_,hs,.inl rfl⟩
  ·exact(hs.2 b (Nat.ne_of_lt (Nat.lt_of_lt_of_le (Heap.lt_size e) I.ok.above))).trans (I.base.keep b o e n hb hx)
  ·obtain⟨sl,e1⟩:=I.base.slot b o e n hb hx
   exact⟨sl,(hs.2 b (Nat.ne_of_lt (Nat.lt_of_lt_of_le (Heap.lt_size e) I.ok.above))).trans e1⟩
  ·obtain⟨o',e1⟩:=I.base.there b o e hx
   exact⟨o',(hs.2 b (Nat.ne_of_lt (Nat.lt_of_lt_of_le (Heap.lt_size e) I.ok.above))).trans e1⟩
  ·by_cases hj:j=i
   ·subst hj
    rw[hi]at e1;cases e1
    rw[List.getElem?_set_self hiσ]at e2
    cases e2
    exact⟨u,r,.inl ⟨hk,by simp⟩⟩
   ·rw[List.getElem?_set_ne (Ne.symm hj)]at e2
    obtain⟨u',r',q⟩:=hl j y v' e1 e2 e3
    refine⟨u',r',?_⟩
    rcases q with⟨k,e⟩ | ⟨k,c,e,z⟩
    ·refine .inl ⟨k,?_⟩
     have:y≠x:=fun e=>hj (a4n hN e1 (e▸hi))
     simp[this,e]
    ·exact .inr ⟨k,c,e,z.sameBut hs (cne y c e)⟩
  ·obtain⟨w',z⟩:=I.cell y c e
   exact⟨w',z.sameBut hs (cne y c e)⟩
  ·obtain⟨e,n,ne,nf,d⟩:=I.pin p hp
   exact⟨(hs.2 p.1 ne).trans e,n,ne,nf,d⟩
 ·have hfn:X.fn x=true:=by
   rcases hf with z | z
   ·exact z
   ·rw[z]at hk;cases hk
  obtain⟨c,hc⟩:=I.ok.has x (.inl hk)
  obtain⟨w',z⟩:=I.cell x c hc
  refine wpAny_storeName_cell I.ok.kind hk hc z (fun h' hc' hs=>?_)
  obtain⟨oc,hoc,hocd⟩:=id z
  refine h { s with heap:=h' } ⟨I.ok,I.os,I.bare,⟨fun b o e n hb hx=>?_,fun b o e n hb hx=>?_,I.base.free,fun b o e hx=>?_,I.base.tups,I.base.frzs,I.base.tbls⟩,⟨m,hn.sameBut hs (Ne.symm (cne x c hc)),fun j y v' e1 e2 e3=>?_⟩,fun y c' e=>?_,I.free,I.freeC,fun p hp=>?_,tracked ⟨oc,hoc,I.freeC x c hc⟩ hs,by simpa using I.len⟩ ⟨c,hs,.inr hc⟩
  ·exact(hs.2 b (Nat.ne_of_lt (Nat.lt_of_lt_of_le (Heap.lt_size e) (I.ok.cab x c hfn hc)))).trans (I.base.keep b o e n hb hx)
  ·obtain⟨sl,e1⟩:=I.base.slot b o e n hb hx
   exact⟨sl,(hs.2 b (Nat.ne_of_lt (Nat.lt_of_lt_of_le (Heap.lt_size e) (I.ok.cab x c hfn hc)))).trans e1⟩
  ·obtain⟨o',e1⟩:=I.base.there b o e hx
   exact⟨o',(hs.2 b (Nat.ne_of_lt (Nat.lt_of_lt_of_le (Heap.lt_size e) (I.ok.cab x c hfn hc)))).trans e1⟩
  ·by_cases hj:j=i
   ·subst hj
    rw[hi]at e1;cases e1
    rw[List.getElem?_set_self hiσ]at e2
    cases e2
    exact⟨u,r,.inr ⟨.inl hk,c,hc,hc'⟩⟩
   ·rw[List.getElem?_set_ne (Ne.symm hj)]at e2
    obtain⟨u',r',q⟩:=hl j y v' e1 e2 e3
    refine⟨u',r',?_⟩
    rcases q with q | ⟨k,c',e,z'⟩
    ·exact .inl q
    ·refine .inr ⟨k,c',e,z'.sameBut hs ?_⟩
     rintro rfl
     exact hj (a4n hN e1 (I.ok.inj _ _ _ e hc▸hi))
  ·by_cases hcc:c'=c
   ·subst hcc;exact⟨_,hc'⟩
   ·obtain⟨w2,z2⟩:=I.cell y c' e
    exact⟨w2,z2.sameBut hs hcc⟩
  ·obtain⟨e,n,ne,nf,d⟩:=I.pin p hp
   refine⟨(hs.2 p.1 ?_).trans e,n,ne,nf,d⟩
   intro q
   rw[q,hoc]at e
   have q':oc=p.2:=Option.some.inj e
   exact d w' (by rw[← q'];exact hocd)
theorem a4o{M:Model}{A:Around}{E:Value→Shared→Prop}{i:Nat}{x:Str}{v:V}{u:Value}{Q:Unit→Shared→Prop}(I:Inv X pins σ H s)(hN:X.N.Nodup)(hi:X.N[i]? = some x)(hx:Loc X.env.scope x)(r:RelV v u)
  (h:∀s',Inv X pins (σ.set i (some v)) H s'→Q () s') (hf:X.fn x=true∨X.env.scope.names.lookup x=some .local:=by first | exact .inl rfl | exact .inr rfl | assumption):wpAny M A (storeName X.env x u) Q E s :=
 a3o I hN hi hx r (fun s' I' _=>h s' I') hf
theorem Inv.call'{s':Shared}{ch:List Addr}(I:Inv X pins σ H s)(ho:s'.os=s.os)(u:Un (B8 X.stack) ch H H' s.heap s'.heap)(hok:HOk X.prog X.w H' s'.heap)(hg:AllBare s'.gens)
  (hch:∀b∈ch,(b∈X.ex∨X.s₀.heap.objs.size≤b)∧b≠X.env.locals∧(∀x c,X.env.cells.lookup x=some c→c≠b)∧∀p∈X.pn++pins,p.1≠b):Inv X pins σ H' s':=by
 obtain⟨h',g',d',t',o'⟩:=s'
 have e:o'=s.os:=ho
 subst e
 exact I.call (g':=g') (t':=t') (d':=d') u hok hg hch
end
abbrev XK:=Value→Option Addr→Hp→Prop
abbrev St:=List (Option V)
abbrev VK:=V→Hp→Prop
abbrev TE:=St→Hp→VK→Prop
abbrev TT:=St→Hp→(Bool→Hp→Prop)→Prop
abbrev TA:=St→Hp→(List V→Hp→Prop)→Prop
structure Ends where
 nx:St→Hp→Prop
 rt:VK
 bk:St→Hp→Prop:=fun _ _=>False
 ct:St→Hp→Prop:=fun _ _=>False
abbrev TS:=Ends→St→Hp→Prop
def EP(X:Cx)(pins:List (Addr×Obj))(σ:St)(Q:VK)(u:Value)(s':Shared):Prop:=∃v H',Inv X pins σ H' s'∧RelV v u∧Q v H'
def TP(X:Cx)(pins:List (Addr×Obj))(σ:St)(Q:Bool→Hp→Prop)(b:Bool)(s':Shared):Prop:=∃H',Inv X pins σ H' s'∧Q b H'
def AP(X:Cx)(pins:List (Addr×Obj))(σ:St)(Q:List V→Hp→Prop)(us:List Value)(s':Shared):Prop:=∃vs H',Inv X pins σ H' s'∧Vals vs us∧Q vs H'
def SP(X:Cx)(pins:List (Addr×Obj))(D:Ends)(f:Flow)(s':Shared):Prop :=
 match f with
 | .next=>∃σ' H',Inv X pins σ' H' s'∧D.nx σ' H'
 | .brk=>∃σ' H',Inv X pins σ' H' s'∧D.bk σ' H'
 | .cont=>∃σ' H',Inv X pins σ' H' s'∧D.ct σ' H'
 | .ret u=>∃v σ' H',Inv X pins σ' H' s'∧RelV v u∧D.rt v H'
def PE(X:Cx)(e:Expr)(t:TE):Prop :=
 ∀(pins:List (Addr×Obj)) (s:Shared) (σ:St) (H:Hp) (Q:VK),Inv X pins σ H s→t σ H Q→wpAny (model X.prog X.w) X.A (eval e X.env) (EP X pins σ Q) X.xe s
def PT(X:Cx)(e:Expr)(t:TT):Prop :=
 ∀(pins:List (Addr×Obj)) (s:Shared) (σ:St) (H:Hp) (Q:Bool→Hp→Prop),Inv X pins σ H s→t σ H Q→wpAny (model X.prog X.w) X.A (isTrue e X.env (eval e X.env)) (TP X pins σ Q) X.xe s
def PW(X:Cx)(e:Expr)(t:TT):Prop :=
 ∀(whole:Sem Value) (pins:List (Addr×Obj)) (s:Shared) (σ:St) (H:Hp) (Q:Bool→Hp→Prop),Inv X pins σ H s→t σ H Q→wpAny (model X.prog X.w) X.A (isTrue e X.env whole) (TP X pins σ Q) X.xe s
theorem PW.pt{X:Cx}{e:Expr}{t:TT}(h:PW X e t):PT X e t:=h _
def PA(X:Cx)(es:List Expr)(t:TA):Prop :=
 ∀(pos:Pos) (pins:List (Addr×Obj)) (s:Shared) (σ:St) (H:Hp) (Q:List V→Hp→Prop),Inv X pins σ H s→t σ H Q→wpAny (model X.prog X.w) X.A (spliced (backTo pos (starEach es X.env))) (AP X pins σ Q) X.xe s
def PS(X:Cx)(st:Stmt)(t:TS):Prop :=
 ∀(pins:List (Addr×Obj)) (s:Shared) (σ:St) (H:Hp) (D:Ends),Inv X pins σ H s→t D σ H→wpAny (model X.prog X.w) X.A (exec st X.env) (SP X pins D) X.xe s
def PSs(X:Cx)(st:List Stmt)(t:TS):Prop :=
 ∀(pins:List (Addr×Obj)) (s:Shared) (σ:St) (H:Hp) (D:Ends),Inv X pins σ H s→t D σ H→wpAny (model X.prog X.w) X.A (execs st X.env) (SP X pins D) X.xe s
theorem i7{α:Type}{t:Sem α}{Q Q':α→Shared→Prop}{M:Model}{A:Around}{E:Value→Shared→Prop}{s:Shared}(h:wpAny M A t Q E s)(hQ:∀a s,Q a s→Q' a s):wpAny M A t Q' E s:=wpAny_mono h hQ fun _ _ x=>x
section
variable {X:Cx}
def B9(i:Nat):TE:=fun σ H Q=>∃v,σ[i]? = some (some v)∧Q v H
def tC(v:V):TE:=fun _ H Q=>Q v H
theorem b2G{i:Nat}{x:Str}{pos:Pos}(hN:X.N[i]? = some x)(hv:Vis X.env.scope x)(hd:(x == ("__debug__" : Str))=false:=by decide)(hcd:(x == ("__classdict__" : Str))=false:=by decide):PE X (.Name x pos) (B9 i):=by
 intro pins s σ H Q I h
 obtain⟨v,e,h⟩:=h
 obtain⟨m,hn,hl⟩:=I.loc
 obtain⟨u,r,l⟩:=hl i x v hN e hv
 have fin:EP X pins σ Q u s:=⟨v,H,I,r,h⟩
 rcases l with⟨hk,hm⟩ | ⟨hk,c,hc,hcell⟩
 ·exact wpAny_Name (wpAny_loadName_local I.ok.kind hk hn hm fin) hd
 ·rcases hk with hk | hk
  ·exact wpAny_Name (wpAny_loadName_cell I.ok.kind hk hc hcell fin) hd
  ·exact wpAny_Name (wpAny_loadName_free I.ok.kind hk hc hcell fin hcd) hd
theorem c8{i j pos}:PE X (.Constant (.int i) j pos) (tC (.int i)):=fun _ _ _ H _ I h=>wpAny_Constant_int ⟨.int i,H,I.tok _,⟨_,rfl⟩,h⟩
theorem Y2{b j pos}:PE X (.Constant (.bool b) j pos) (tC (.bl b)):=fun _ _ _ H _ I h=>Constant_bool ⟨.bl b,H,I,rfl,h⟩
theorem b2H{x j pos}:PE X (.Constant (.str x) j pos) (tC (.str x)):=fun _ _ _ H _ I h=>Calls.Constant_str ⟨.str x,H,I.tok _,⟨_,rfl⟩,h⟩
def Gl(X:Cx)(x:Str):Prop:=X.env.kindOf x=some .globalImplicit
theorem a5W{E:Value→Shared→Prop}{pins:List (Addr×Obj)}{s:Shared}{σ:St}{H:Hp}{x:Str}{u:Value}{pos:Pos}{Q:Value→Shared→Prop}(I:Inv X pins σ H s)(hg:Gl X x)(hm:X.mg x=some u)(h:Q u s)
  (hd:(x == ("__debug__" : Str))=false:=by decide):wpAny (model X.prog X.w) X.A (eval (.Name x pos) X.env) Q E s :=
 Calls.Name_function_global I.ok.kind hg (Calls.loadGlobal_global (by rw[I.ok.glob];exact I.mod.glob.keeps I.bk) hm h) hd
theorem M5{E:Value→Shared→Prop}{pins:List (Addr×Obj)}{s:Shared}{σ:St}{H:Hp}{x:Str}{u:Value}{pos:Pos}{Q:Value→Shared→Prop}(I:Inv X pins σ H s)(hg:Gl X x)(hm:X.mg x=none)(hv:bootBuiltins x=some u)(h:Q u s)
  (hn:x≠"__name__" := by decide) (hd:(x == ("__debug__" : Str))=false:=by decide):wpAny (model X.prog X.w) X.A (eval (.Name x pos) X.env) Q E s:=by
 obtain⟨mb,h1,h2⟩:=I.mod.blt
 exact Calls.Name_function_global I.ok.kind hg (Calls.loadGlobal_builtin (by rw[I.ok.glob];exact I.mod.glob.keeps I.bk) hm (by rw[I.ok.blt];exact h1.keeps I.bk) ((h2 x hn).trans hv) h) hd
theorem a2U{x:Str}{v:V}{u:Value}{pos:Pos}(hg:Gl X x)(hm:X.mg x=none)(hv:bootBuiltins x=some u)(r:RelV v u)(hn:x≠"__name__" := by decide)(hd:(x == ("__debug__" : Str))=false:=by decide):PE X (.Name x pos) (tC v) :=
 fun _ _ _ H _ I h=>M5 I hg hm hv ⟨v,H,I,r,h⟩ hn hd
variable {a b:Expr}{ta tb:TE}{pos:Pos}
def tB(t:TE):TT:=fun σ H Q=>t σ H fun x H1=>∃c,x=.bl c∧Q c H1
theorem V9{e:Expr}{t:TE}(h:PE X e t)(he:∀whole,isTrue e X.env whole=(do let v ← whole;standAt e.pos;holding [v] (truthy v)):=by intro _;rfl):PT X e (tB t):=by
 intro pins s σ H Q I hw
 refine isTrue_plain (i7 (h pins s σ H _ I hw) fun v s1 ⟨x,H1,I1,r1,q1⟩=>?_) (he _)
 obtain⟨d,rfl,q⟩:=q1
 cases r1
 exact wpAny_truthy_bool ⟨H1,I1,q⟩
variable {tA tB':TT}{k7:List Expr}
def b2I(t u:TT):TT:=fun σ H Q=>t σ H fun c H1=>if c=true then u σ H1 Q else Q false H1
def tOr(t u:TT):TT:=fun σ H Q=>t σ H fun c H1=>if c=true then Q true H1 else u σ H1 Q
def b2J(t:TT):TT:=fun σ H Q=>t σ H fun c H1=>Q (!c) H1
theorem a1w(ha:PT X a tA):PW X (.BoolOp .And [a] pos) tA:=by
 intro wh pins s σ H Q I h
 refine isTrue_and (i7 (ha pins s σ H Q I h) fun c s1 e=>?_)
 cases c with
 | true=>exact isTrue_and_nil e
 | false=>exact e
theorem a7x(ha:PT X a tA):PW X (.BoolOp .Or [a] pos) tA:=by
 intro wh pins s σ H Q I h
 refine isTrue_or (i7 (ha pins s σ H Q I h) fun c s1 e=>?_)
 cases c with
 | false=>exact isTrue_or_nil e
 | true=>exact e
theorem W0(ha:PT X a tA)(hb:PW X (.BoolOp .And (b::k7) pos) tB'):PW X (.BoolOp .And (a::b::k7) pos) (b2I tA tB'):=by
 intro wh pins s σ H Q I h
 refine isTrue_and (i7 (ha pins s σ H _ I h) fun c s1 ⟨H1,I1,q1⟩=>?_)
 cases c with
 | true=>exact hb wh pins s1 σ H1 Q I1 q1
 | false=>exact⟨H1,I1,q1⟩
theorem b0c(ha:PT X a tA)(hb:PW X (.BoolOp .Or (b::k7) pos) tB'):PW X (.BoolOp .Or (a::b::k7) pos) (tOr tA tB'):=by
 intro wh pins s σ H Q I h
 refine isTrue_or (i7 (ha pins s σ H _ I h) fun c s1 ⟨H1,I1,q1⟩=>?_)
 cases c with
 | true=>exact⟨H1,I1,q1⟩
 | false=>exact hb wh pins s1 σ H1 Q I1 q1
theorem a0h(ha:PT X a tA):PT X (.UnaryOp .Not a pos) (b2J tA):=by
 intro pins s σ H Q I h
 exact isTrue_not (ha pins s σ H (fun c H1=>Q (!c) H1) I h)
def b0d(ta tb:TE):TE:=fun σ H Q=>ta σ H fun x H1=>∃c,x=.bl c∧if c=true then tb σ H1 Q else Q (.bl false) H1
def b0e(ta:TE):TE:=fun σ H Q=>ta σ H fun x H1=>∃c,x=.bl c∧Q (.bl (!c)) H1
theorem a7y{op}{t:TE}(h:PE X a t):PE X (.BoolOp op [a] pos) t:=fun pins s σ H Q I hw=>BoolOp_one (h pins s σ H Q I hw)
theorem a7z(ha:PE X a ta)(hb:PE X (.BoolOp .And (b::k7) pos) tb):PE X (.BoolOp .And (a::b::k7) pos) (b0d ta tb):=by
 intro pins s σ H Q I h
 refine BoolOp_and (i7 (ha pins s σ H _ I h) fun v s1 ⟨x,H1,I1,r1,q1⟩=>?_)
 obtain⟨c,rfl,q1⟩:=q1
 cases r1
 refine wpAny_truthy_bool ?_
 cases c with
 | true=>exact hb pins s1 σ H1 Q I1 q1
 | false=>exact⟨.bl false,H1,I1,rfl,q1⟩
theorem b2K(ha:PE X a ta):PE X (.UnaryOp .Not a pos) (b0e ta):=by
 intro pins s σ H Q I h
 refine UnaryOp_ (i7 (ha pins s σ H _ I h) fun v s1 ⟨x,H1,I1,r1,q1⟩=>?_)
 obtain⟨c,rfl,q1⟩:=q1
 cases r1
 exact not_of (wpAny_truthy_bool ⟨.bl (!c),H1,I1,rfl,q1⟩)
end
def SqL(K:W.Frag)(H:Hp)(a:Addr)(xs:List V):Prop :=
 Rd H a (.lst xs) ∨
  ∃(o:Obj) (its:Array Value) (n:Nat),K.lookup a=some o∧o.cls=.type "list"∧o.dict=none∧o.data=.seq its n∧its.size≤sizeLine∧Vals xs its.toList
def SqT(K:W.Frag)(H:Hp)(a:Addr)(xs:List V):Prop :=
 Rd H a (.tup xs) ∨
  ∃(o:Obj) (its:Array Value) (n:Nat),K.lookup a=some o∧o.cls=.type "tuple"∧o.data=.seq its n∧its.size≤sizeLine∧Vals xs its.toList
def b49:Value→Option V
 | .none=>some .non
 | .bool b=>some (.bl b)
 | .int i _=>some (.int i)
 | .str x _=>some (.str x)
 | .bytes b _=>some (.byt b)
 | .float b _=>some (.flt b)
 | .ref a=>some (.ref a)
 | .type n=>some (.ty n)
 | _=>none
theorem RelV.abs{x:V}{u:Value}(r:RelV x u):b49 u=some x:=by
 cases x with
 | non=>cases r;rfl
 | bl _=>cases r;rfl
 | int _=>obtain⟨t,rfl⟩:=r;rfl
 | str _=>obtain⟨t,rfl⟩:=r;rfl
 | byt _=>obtain⟨t,rfl⟩:=r;rfl
 | flt _=>obtain⟨t,rfl⟩:=r;rfl
 | ref _=>cases r;rfl
 | ty _=>cases r;rfl
theorem RelV.inj{x y:V}{u:Value}(r:RelV x u)(q:RelV y u):x=y:=Option.some.inj (r.abs.symm.trans q.abs)
theorem Vals.inj:∀{xs ys:List V} {us:List Value},Vals xs us→Vals ys us→xs=ys
 | _,_,_,.nil,.nil=>rfl
 | _,_,_,.cons r t,.cons r' t'=>by rw[r.inj r',Vals.inj t t']
section
variable {X:Cx}{pins:List (Addr×Obj)}{σ:St}{H:Hp}{s:Shared}{a:Addr}{xs ys:List V}
theorem SqL.of{K:W.Frag}(h:H a=some (.lst xs)):SqL K H a xs:=.inl (.inl h)
theorem SqT.of{K:W.Frag}(h:H a=some (.tup xs)):SqT K H a xs:=.inl (.inl h)
theorem Inv.list(I:Inv X pins σ H s)(h:SqL X.K H a xs):∃its:List Value,Vals xs its∧PlainL s.heap a its.toArray∧xs.length≤sizeLine:=by
 rcases h with h | ⟨o,its,n,hk,hc,hd,hs,hz,r⟩
 ·obtain⟨z,its,n,r,e⟩:=h.ok I.hok
  exact⟨its,r,⟨_,n,e,rfl,rfl,rfl⟩,z⟩
 ·refine⟨its.toList,r,⟨o,n,I.kIn a o hk,hc,hd,by simpa using hs⟩,?_⟩
  have e:=r.length
  simp only[Array.length_toList]at e
  omega
theorem Inv.tuple(I:Inv X pins σ H s)(h:SqT X.K H a xs):∃its:List Value,Vals xs its∧IsTup s.heap a its.toArray∧xs.length≤sizeLine:=by
 rcases h with h | ⟨o,its,n,hk,hc,hs,hz,r⟩
 ·obtain⟨z,its,r,p⟩:=h.ok I.hok
  exact⟨its,r,p,z⟩
 ·refine⟨its.toList,r,⟨o,I.kIn a o hk,hc,n,by simpa using hs⟩,?_⟩
  have e:=r.length
  simp only[Array.length_toList]at e
  omega
theorem Inv.list_inj(I:Inv X pins σ H s)(h:SqL X.K H a xs)(h':SqL X.K H a ys):xs=ys:=by
 obtain⟨its,r,⟨o,n,e,_,_,d⟩,_⟩:=I.list h
 obtain⟨its',r',⟨o',n',e',_,_,d'⟩,_⟩:=I.list h'
 rw[e]at e';cases e'
 rw[d]at d'
 injection d' with d1 _
 have:its=its':=by simpa using congrArg Array.toList d1
 subst this
 exact r.inj r'
end
abbrev Cx.wish(X:Cx)(E:Value→Shared→Prop):Cx:={ X with xe:=E }
abbrev Cx.nox(X:Cx):Cx:=X.wish fun _ _=>False
theorem Cx.Ok.wish{X:Cx}(ok:X.Ok)(E:Value→Shared→Prop):(X.wish E).Ok :=
 ⟨ok.mod,ok.kind,ok.glob,ok.blt,ok.above,ok.inj,ok.has,ok.cab,ok.hd,ok.frames,ok.stk,ok.exf,ok.bs,ok.bsz,ok.noex,ok.exfs,ok.funs,ok.frf⟩
theorem Cx.Ok.unwish{X:Cx}{E:Value→Shared→Prop}(ok:(X.wish E).Ok):X.Ok :=
 ⟨ok.mod,ok.kind,ok.glob,ok.blt,ok.above,ok.inj,ok.has,ok.cab,ok.hd,ok.frames,ok.stk,ok.exf,ok.bs,ok.bsz,ok.noex,ok.exfs,ok.funs,ok.frf⟩
section
variable {X:Cx}{pins:List (Addr×Obj)}{σ:St}{H:Hp}{s:Shared}{E:Value→Shared→Prop}
theorem Inv.wish(I:Inv X pins σ H s)(E:Value→Shared→Prop):Inv (X.wish E) pins σ H s:=⟨I.ok.wish E,I.os,I.bare,I.base,I.loc,I.cell,I.free,I.freeC,I.pin,I.hok,I.len⟩
theorem Inv.unwish(I:Inv (X.wish E) pins σ H s):Inv X pins σ H s:=⟨I.ok.unwish,I.os,I.bare,I.base,I.loc,I.cell,I.free,I.freeC,I.pin,I.hok,I.len⟩
theorem SP.unwish{D:Ends}{f:Flow}{s':Shared}(h:SP (X.wish E) pins D f s'):SP X pins D f s':=by
 cases f with
 | next=>obtain⟨σ',H',I,q⟩:=h;exact⟨σ',H',I.unwish,q⟩
 | brk=>obtain⟨σ',H',I,q⟩:=h;exact⟨σ',H',I.unwish,q⟩
 | cont=>obtain⟨σ',H',I,q⟩:=h;exact⟨σ',H',I.unwish,q⟩
 | ret u=>obtain⟨v,σ',H',I,r,q⟩:=h;exact⟨v,σ',H',I.unwish,r,q⟩
theorem PE.nox{e:Expr}{t:TE}(h:PE X.nox e t):PE X e t:=fun pins s σ H Q I hw =>
 wpAny_mono (h pins s σ H Q (I.wish _) hw) (fun _ _ ⟨v,H',I',r,q⟩=>⟨v,H',I'.unwish,r,q⟩) fun _ _ z=>False.elim z
theorem PT.nox{e:Expr}{t:TT}(h:PT X.nox e t):PT X e t:=fun pins s σ H Q I hw =>
 wpAny_mono (h pins s σ H Q (I.wish _) hw) (fun _ _ ⟨H',I',q⟩=>⟨H',I'.unwish,q⟩) fun _ _ z=>False.elim z
theorem PSs.nox{st:List Stmt}{t:TS}(h:PSs X.nox st t):PSs X st t:=fun pins s σ H D I hw =>
 wpAny_mono (h pins s σ H D (I.wish _) hw) (fun _ _ q=>q.unwish) fun _ _ z=>False.elim z
end
section
variable {X:Cx}{st:Stmt}{k7:List Stmt}{t u:TS}{e:Expr}{te:TE}{pos:Pos}
def b0f:TS:=fun D σ H=>D.nx σ H
def b2L(t u:TS):TS:=fun D σ H=>t { D with nx:=u D } σ H
theorem B0:PSs X [] b0f:=fun _ _ σ H _ I h=>wpAny_execs_nil ⟨σ,H,I,h⟩
theorem c9(h1:PS X st t)(h2:PSs X k7 u):PSs X (st::k7) (b2L t u):=by
 intro pins s σ H D I h
 refine wpAny_execs_cons (i7 (h1 pins s σ H { D with nx:=u D } I h) fun f s1 q=>?_)
 cases f with
 | next =>
  obtain⟨σ',H',I',q⟩:=q
  exact h2 pins s1 σ' H' D I' q
 | ret v=>exact q
 | brk=>exact q
 | cont=>exact q
theorem i3(h1:PS X st t):PSs X [st] t:=by
 intro pins s σ H D I h
 refine wpAny_execs_cons (i7 (h1 pins s σ H D I h) fun f s1 q=>?_)
 cases f with
 | next=>exact wpAny_execs_nil q
 | ret v=>exact q
 | brk=>exact q
 | cont=>exact q
theorem Inv.quiet{pins:List (Addr×Obj)}{σ:St}{H:Hp}{s:Shared}(I:Inv X pins σ H s):interactive X.env=false:=by simp[interactive,I.ok.kind]
def a6E(te:TE):TS:=fun D σ H=>te σ H fun _ H1=>D.nx σ H1
theorem a0i(he:PE X e te)(hs:swapsWith e none pos.line X.env=pure false:=by rfl):PS X (.Expr e pos) (a6E te):=by
 intro pins s σ H D I h
 exact wpAny_Expr_any (i7 (he pins s σ H _ I h) fun v s1 ⟨x,H1,I1,r1,q1⟩=>⟨σ,H1,I1,q1⟩) I.quiet hs
def a6F(te:TE):TS:=fun D σ H=>te σ H D.rt
theorem r6(he:PE X e te):PS X (.Return (some e) pos) (a6F te):=by
 intro pins s σ H D I h
 exact wpAny_Return_some (i7 (he pins s σ H _ I h) fun v s1 ⟨x,H1,I1,r1,q1⟩=>⟨x,σ,H1,I1,r1,q1⟩)
def b2M(c:TT)(t u:TS):TS:=fun D σ H=>c σ H fun b H1=>if b=true then t D σ H1 else u D σ H1
theorem K5{c:Expr}{a b:List Stmt}{tc:TT}(hc:PT X c tc)(ha:PSs X a t)(hb:PSs X b u):PS X (.If c a b pos) (b2M tc t u):=by
 intro pins s σ H D I h
 refine wpAny_If (i7 (hc pins s σ H _ I h) fun d s1 ⟨H1,I1,q1⟩=>?_)
 cases d with
 | true=>exact ha pins s1 σ H1 D I1 q1
 | false=>exact hb pins s1 σ H1 D I1 q1
end
abbrev TG:=V→St→Hp→(St→Hp→Prop)→Prop
abbrev TGs:=List V→St→Hp→(St→Hp→Prop)→Prop
def PG(X:Cx)(target:Expr)(t:TG):Prop :=
 ∀(pins:List (Addr×Obj)) (s:Shared) (σ:St) (H:Hp) (v:V) (u:Value) (Q:St→Hp→Prop),Inv X pins σ H s→RelV v u→t v σ H Q →
  wpAny (model X.prog X.w) X.A (assign target X.env u) (fun _ s'=>∃σ' H',Inv X pins σ' H' s'∧Q σ' H') X.xe s
def PGs(X:Cx)(ts:List Expr)(t:TGs):Prop :=
 ∀(pins:List (Addr×Obj)) (s:Shared) (σ:St) (H:Hp) (vs:List V) (us:List Value) (Q:St→Hp→Prop),Inv X pins σ H s→Vals vs us→t vs σ H Q →
  wpAny (model X.prog X.w) X.A (assignInOrder ((assignEach ts X.env).map (·.2)) us) (fun _ s'=>∃σ' H',Inv X pins σ' H' s'∧Q σ' H') X.xe s
abbrev a8P:=V→V→V→Hp→(Hp→Prop)→Prop
def b2N(X:Cx)(t:a8P):Prop :=
 ∀(pins:List (Addr×Obj)) (s:Shared) (σ:St) (H:Hp) (o i v:V) (ov iv u:Value) (Q:Hp→Prop),Inv X pins σ H s→RelV o ov→RelV i iv→RelV v u→t o i v H Q →
  wpAny (model X.prog X.w) X.A (setItem ov iv u) (fun _ s'=>∃H',Inv X pins σ H' s'∧Q H') X.xe s
section
variable {X:Cx}{pos:Pos}
def Y3(i:Nat):TG:=fun v σ H Q=>Q (σ.set i (some v)) H
theorem g7{i:Nat}{x:Str}(hN:X.N.Nodup)(hi:X.N[i]? = some x)(hx:Loc X.env.scope x)(hf:X.fn x=true∨X.env.scope.names.lookup x=some .local:=by first | exact .inl rfl | exact .inr rfl | assumption):PG X (.Name x pos) (Y3 i):=by
 intro pins s σ H v u Q I r h
 exact wpAny_assign_Name (a4o I hN hi hx r (fun s' I'=>⟨_,H,I',h⟩) hf)
def b2O:TGs:=fun vs σ H Q=>vs=[]∧Q σ H
def b0g(t:TG)(u:TGs):TGs:=fun vs σ H Q=>∃v r,vs=v::r∧t v σ H fun σ' H'=>u r σ' H' Q
theorem K6:PGs X [] b2O:=by
 intro pins s σ H vs us Q I r h
 obtain⟨e,h⟩:=h
 subst e
 cases r
 exact assignInOrder_nil ⟨σ,H,I,h⟩
theorem k9{e:Expr}{es:List Expr}{t:TG}{u:TGs}(h1:PG X e t)(h2:PGs X es u)
  (hs:(assignEach (e::es) X.env).map (·.2)=assign e X.env::(assignEach es X.env).map (·.2):=by rfl):PGs X (e::es) (b0g t u):=by
 intro pins s σ H vs us Q I r h
 obtain⟨v,vr,e1,h⟩:=h
 subst e1
 cases r with
 | cons r rr =>
  rw[hs]
  refine assignInOrder_cons (i7 (h1 pins s σ H _ _ _ I r h) fun _ s1 ⟨σ1,H1,I1,q1⟩=>?_)
  exact h2 pins s1 σ1 H1 _ _ Q I1 rr q1
def a8Q(K:W.Frag)(n:Nat)(t:TGs):TG:=fun v σ H Q=>∃a xs,v=.ref a∧SqT K H a xs∧xs.length=n∧t xs σ H Q
theorem b2P{es:List Expr}{k:Nat}{t:TGs}{n:Nat}(hc:X.calm=true)(h:PGs X es t)
  (hn:(assignEach es X.env).length=n:=by rfl) (hst:(assignEach es X.env).findIdx? (·.1)=none:=by rfl):PG X (.Tuple es k pos) (a8Q X.K n t):=by
 intro pins s σ H v u Q I r hw
 obtain⟨a,xs,e1,hq,hl,hw⟩:=hw
 subst e1
 cases r
 obtain⟨its,rv,ht,hz⟩:=I.tuple hq
 refine assign_Tuple_tuple (I.ok.hd hc) ht (by simp[hn,← hl,rv.length]) hst fun h' hx=>?_
 have I1:Inv X pins σ H { s with heap:=h' }:=I.kept (t':=s.toks) fun b o e=>hx b o (Nat.ne_of_lt (Heap.lt_size e)) e
 exact h pins _ σ H xs _ Q I1 (by simpa using rv) hw
def b2Q(to ti:TE)(t:a8P):TG:=fun v σ H Q=>to σ H fun o H1=>ti σ H1 fun i H2=>t o i v H2 fun H3=>Q σ H3
theorem b2R{o i:Expr}{to ti:TE}{t:a8P}(ho:PE X o to)(hi:PE X i ti)(hs:b2N X t)
  (ha:∀v,assign (.Subscript o i pos) X.env v=(do
   let ov ← holding [v] (eval o X.env)
   let iv ← holding [v,ov] (eval i X.env)
   standAt pos
   holding [v,ov,iv] (setItem ov iv v)
   release [v,ov,iv] []):=by intro _;rfl):PG X (.Subscript o i pos) (b2Q to ti t):=by
 intro pins s σ H v u Q I r h
 rw[ha]
 refine wpAny_bind (wpAny_holding (i7 (ho pins s σ H _ I h) fun ov s1 ⟨x,H1,I1,r1,q1⟩=>?_))
 refine wpAny_bind (wpAny_holding (i7 (hi pins s1 σ H1 _ I1 q1) fun iv s2 ⟨y,H2,I2,r2,q2⟩=>?_))
 refine wpAny_bind (wpAny_standAt (wpAny_bind (wpAny_holding (i7 (hs pins s2 σ H2 x y v ov iv u _ I2 r1 r2 r q2) fun _ s3 ⟨H3,I3,q3⟩=>?_))))
 exact wpAny_release ⟨σ,H3,I3,q3⟩
def a0w(te:TE)(g:TG):TS:=fun D σ H=>te σ H fun x H1=>g x σ H1 D.nx
theorem a0j{tg e:Expr}{te:TE}{g:TG}(he:PE X e te)(hg:PG X tg g)(hs:swapsWithSole [tg] e pos.line X.env=pure false:=by rfl)(hw:swappedStores [tg] e X.env=pure none:=by rfl)
  (h1:(assignEach [tg] X.env).map (·.2)=[assign tg X.env]:=by rfl):PS X (.Assign [tg] e pos) (a0w te g):=by
 intro pins s σ H D I h
 refine wpAny_Assign_stores (i7 (he pins s σ H _ I h) fun v s1 ⟨x,H1,I1,r1,q1⟩=>?_) hs hw
 rw[h1]
 exact i7 (hg pins s1 σ H1 x v _ I1 r1 q1) fun _ s2 q=>q
theorem m7{i:Nat}{x:Str}{e:Expr}{te:TE}{pos':Pos}(hN:X.N.Nodup)(hi:X.N[i]? = some x)(hx:Loc X.env.scope x)(he:PE X e te)(hs:swapsWith e (some (.Name x pos')) pos.line X.env=pure false:=by rfl)(hf:X.fn x=true∨X.env.scope.names.lookup x=some .local:=by first | exact .inl rfl | exact .inr rfl | assumption) :
  PS X (.Assign [.Name x pos'] e pos) (a0w te (Y3 i)):=by
 intro pins s σ H D I h
 refine wpAny_Assign_Name (i7 (he pins s σ H _ I h) fun v s1 ⟨y,H1,I1,r1,q1⟩=>?_) hs
 exact a4o I1 hN hi hx r1 (fun s2 I2=>⟨_,H1,I2,q1⟩) hf
end
section
variable {X:Cx}{pos:Pos}
def a7B(c:TT)(tb:TS):TS:=fun D σ H=>∃W:Nat→St→Hp→Prop,(∃m,W m σ H)∧∀m σ H,W m σ H →
 c σ H fun b H1=>if b=true then ∃N:St→Hp→Prop,(∀σ' H',N σ' H'→∃m',m'<m∧W m' σ' H')∧tb { D with nx:=N,ct:=N,bk:=D.nx } σ H1 else D.nx σ H1
theorem a8R{c:Expr}{body:List Stmt}{tc:TT}{tb:TS}(hp:PassesOwn (model X.prog X.w) X.A X.env X.xe)(hc:PT X c tc)(hb:PSs X body tb):PS X (.While c body [] pos) (a7B tc tb):=by
 intro pins s σ H D I h
 obtain⟨W,⟨m0,w0⟩,turn⟩:=h
 refine wpAny_While (codeAny_whileLoop (fun n s'=>∃σ' H',Inv X pins σ' H' s'∧W n σ' H') ?_ m0 ⟨σ,H,I,w0⟩)
 rintro n s1 ⟨σ1,H1,I1,w1⟩
 refine wpAny_passesOwn hp (i7 (hc pins s1 σ1 H1 _ I1 (turn n σ1 H1 w1)) fun b s2 ⟨H2,I2,q2⟩=>?_)
 cases b with
 | true =>
  obtain⟨N,hN,q2⟩:=q2
  rw[if_pos rfl]
  refine wpAny_passesOwn hp (i7 (hb pins s2 σ1 H2 _ I2 q2) fun f s3 q3=>?_)
  cases f with
  | next =>
   obtain⟨σ3,H3,I3,n3⟩:=q3
   obtain⟨m',hm,w3⟩:=hN σ3 H3 n3
   exact⟨m',hm,σ3,H3,I3,w3⟩
  | cont =>
   obtain⟨σ3,H3,I3,n3⟩:=q3
   obtain⟨m',hm,w3⟩:=hN σ3 H3 n3
   exact⟨m',hm,σ3,H3,I3,w3⟩
  | brk=>exact q3
  | ret v=>exact q3
 | false =>
  rw[if_neg Bool.false_ne_true]
  exact wpAny_execs_nil ⟨σ1,H2,I2,q2⟩
end
structure It where
 go:Nat→Hp→Prop
 yld:Nat→Hp→V→Hp→Prop
 stop:Nat→Hp→Prop
def FpOk(X:Cx)(pins:List (Addr×Obj))(H:Hp)(b:Addr):Prop :=
 H b=none∧b≠X.env.locals∧b ∉ X.fs∧(b∈X.ex∨X.s₀.heap.objs.size≤b)∧(∀x c,X.env.cells.lookup x=some c→c≠b)∧∀p∈X.pn++pins,p.1≠b
theorem Inv.fpOk{X:Cx}{pins:List (Addr×Obj)}{σ:St}{H H':Hp}{s:Shared}{b:Addr}(I:Inv X pins σ H s)(hb:s.heap.objs.size≤b)(hn:H' b=none):FpOk X pins H' b:=by
 refine⟨hn,Nat.ne_of_gt (Nat.lt_of_lt_of_le I.lt hb),I.nofs hb,.inr (Nat.le_trans I.sz hb),fun x c e z=>?_,fun p hp z=>?_⟩
 ·obtain⟨v,q⟩:=I.cell x c e
  exact absurd (Nat.lt_of_lt_of_le q.lt (by rw[z];exact hb)) (Nat.lt_irrefl _)
 ·exact absurd (Nat.lt_of_lt_of_le (Heap.lt_size (I.pin p hp).1) (by rw[z];exact hb)) (Nat.lt_irrefl _)
structure Turn(P:Program)(w:World)(K:W.Frag)(tg:Expr)(J:It)(fp:List Addr)(it:Addr)(tn:Nat→Heap→Prop):Prop where
 mem:it∈fp
 obj:∀i h,tn i h→∀b∈fp,∃o,h.get? b=some o∧∀v,o.data≠.cell v
 keep:∀i h h',tn i h→(∀b∈fp,∀o,h.get? b=some o→h'.get? b=some o)→tn i h'
 item:∀(X:Cx),X.prog=P→X.w=w→X.K=K→X.calm=true→∀(i:Nat) (pins:List (Addr×Obj)) (s:Shared) (σ:St) (H:Hp) (E:Value→Shared→Prop),Inv X pins σ H s→(∀b∈fp,FpOk X pins H b)→tn i s.heap→J.go i H →
  wpAny (model P w) X.A (pyNext (.ref it)) (fun r s1=>∃u,r=some u ∧
   wpAny (model P w) X.A (letOwnedTupleGo tg (.ref it) u) (fun _ s2=>∃x H',Inv X pins σ H' s2∧RelV x u∧J.yld i H x H'∧tn (i+1) s2.heap∧∀b∈fp,H' b=none) E s1) E s
 done:∀(X:Cx),X.prog=P→X.w=w→X.K=K→X.calm=true→∀(i:Nat) (pins:List (Addr×Obj)) (s:Shared) (σ:St) (H:Hp) (E:Value→Shared→Prop),Inv X pins σ H s→(∀b∈fp,FpOk X pins H b)→tn i s.heap→J.stop i H →
  wpAny (model P w) X.A (pyNext (.ref it)) (fun r s1=>r=none∧Inv X pins σ H s1) E s
 self:∀(A:Around) (i:Nat) (s:Shared) (Q:Value→Shared→Prop) (E:Value→Shared→Prop),tn i s.heap→Q (.ref it) s→wpAny (model P w) A (pyIter (.ref it)) Q E s
abbrev TI:=St→Hp→(It→Hp→Prop)→Prop
def PIE(X:Cx)(pins:List (Addr×Obj))(σ:St)(tg:Expr)(R:It→Hp→Prop)(itv:Value)(s2:Shared):Prop :=
 ∃(it:Addr) (fp:List Addr) (tn:Nat→Heap→Prop) (J:It) (H':Hp),itv=.ref it∧Inv X pins σ H' s2∧Turn X.prog X.w X.K tg J fp it tn∧tn 0 s2.heap∧(∀b∈fp,FpOk X pins H' b)∧R J H'
def PI(X:Cx)(tg iter:Expr)(wi:TI):Prop :=
 ∀(pins:List (Addr×Obj)) (s:Shared) (σ:St) (H:Hp) (R:It→Hp→Prop),Inv X pins σ H s→wi σ H R →
  wpAny (model X.prog X.w) X.A (eval iter X.env) (fun v s1=>wpAny (model X.prog X.w) X.A (pyIter v) (PIE X pins σ tg R) X.xe s1) X.xe s
theorem a6G{M:Model}{A:Around}{E:Value→Shared→Prop}{s:Shared}{tg:Expr}{it:Addr}{u:Value}{o:Obj}{n:String}{vs:Array Value}{Q:Unit→Shared→Prop}(ho:s.heap.get? it=some o)(hc:o.cls=.type n)(hd:o.data=.fields vs)
  (hn:["enumerate","zip","dict_itemiterator","dict_reverseitemiterator","odict_iterator","itertools.zip_longest","itertools.pairwise"].contains n=false) (hQ:Q () s):wpAny M A (letOwnedTupleGo tg (.ref it) u) Q E s:=by
 unfold letOwnedTupleGo
 cases tg<;>first
  | exact wpAny_pure hQ
  | (cases u<;>first
    | exact wpAny_pure hQ
    | (refine wpAny_bind (wpAny_load ho ?_)
       rw[hc,hd]
       show wpAny M A (if(["enumerate","zip","dict_itemiterator","dict_reverseitemiterator","odict_iterator","itertools.zip_longest","itertools.pairwise"].contains n && vs[0]? == some (rawInt _))=true then _ else _) Q E s
       rw[if_neg (by intro h;rw[hn,Bool.false_and]at h;cases h)]
       exact wpAny_pure hQ))
def Itl(K:W.Frag)(a:Addr):It :=
 ⟨fun i H=>∃xs x,SqL K H a xs∧xs[i]? = some x,fun i H x H'=>H'=H∧∀xs,SqL K H a xs→xs[i]? = some x,fun i H=>∃xs,SqL K H a xs∧xs.length≤i⟩
def Itr(lo:Int)(n:Nat):It:=⟨fun i _=>i<n,fun i H x H'=>H'=H∧x=.int (lo+i),fun i _=>n≤i⟩
theorem a7C{P:Program}{w:World}{K:W.Frag}{tg:Expr}(a it:Addr):Turn P w K tg (Itl K a) [it] it (fun i h=>h.IsListIter it a i) where
 mem:=by simp
 obj:=fun i h st b hb=>by
  have e:b=it:=by simpa using hb
  subst e
  obtain⟨o,e,c,d⟩:=st
  exact⟨o,e,fun v z=>by rw[d]at z;cases z⟩
 keep:=fun i h h' st k=>st.at fun o e=>k it (by simp) o e
 item:=by
  intro X hP hw hK hc i pins s σ H E I hf st hg
  subst hP hw hK
  obtain⟨xs,x,hq,hx⟩:=hg
  obtain⟨its,rv,p,hz⟩:=I.list hq
  obtain⟨u,hu,ru⟩:=rv.get hx
  obtain⟨f0,f1,f2,f3,f4,f5⟩:=hf it (by simp)
  refine wpAny_pyNext_list_item st p.isList (x:=u) (by simpa using hu) fun h' st' sb=>?_
  have I1:Inv X pins σ H { s with heap:=h' }:=I.turned (t':=s.toks) (fun b o hb e=>(sb.2 b hb).trans e) f0 f1 f3 f4 f5
  obtain⟨o,e,c,d⟩:=id st'
  exact⟨u,rfl,a6G (s:={ s with heap:=h' }) e c d (by decide) ⟨x,H,I1,ru,⟨rfl,fun ys hy=>by rw[I.list_inj hy hq];exact hx⟩,st',fun b hb=>(hf b hb).1⟩⟩
 done:=by
  intro X hP hw hK hc i pins s σ H E I hf st hg
  subst hP hw hK
  obtain⟨xs,hq,hx⟩:=hg
  obtain⟨its,rv,p,hz⟩:=I.list hq
  obtain⟨f0,f1,f2,f3,f4,f5⟩:=hf it (by simp)
  have hl:=rv.length
  exact wpAny_pyNext_list_end (I.ok.hd hc) st p.isList (by simp;omega) fun h' eb=>⟨rfl,I.turned (t':=s.toks) (fun b o hb e=>eb b o hb e) f0 f1 f3 f4 f5⟩
 self:=fun _ _ _ _ _ st h=>wpAny_pyIter_listiter st h
theorem a6H{P:Program}{w:World}{K:PySem.W.Frag}{tg:Expr}(it:Addr)(lo:Int)(n:Nat):Turn P w K tg (Itr lo n) [it] it (fun i h=>IsRangeIter h it (lo+(i:Nat)*1) ((n:Int)-(i:Nat)) 1) where
 mem:=by simp
 obj:=fun i h st b hb=>by
  have e:b=it:=by simpa using hb
  subst e
  exact⟨_,st,fun v z=>by
   have z':Data.fields _=Data.cell v:=z
   cases z'⟩
 keep:=fun i h h' st k=>k it (by simp) _ st
 item:=by
  intro X hP hw hK hc i pins s σ H E I hf st hg
  subst hP hw hK
  obtain⟨f0,f1,f2,f3,f4,f5⟩:=hf it (by simp)
  have W:=Walks.range (prog:=X.prog) (w:=X.w) (I.ok.hd hc) it lo 1 n
  refine W.item i s _ _ hg st fun v h' tk hv st' kk=>?_
  obtain⟨t,rfl⟩:=hv
  have I1:Inv X pins σ H { s with heap:=h',toks:=tk }:=I.turned (fun b o hb e=>kk b o (by simpa using hb) e) f0 f1 f3 f4 f5
  refine⟨_,rfl,a6G (s:={ s with heap:=h',toks:=tk }) (n := "range_iterator") st' rfl rfl (by decide) ⟨.int (lo+i),H,I1,⟨t,?_⟩,⟨rfl,rfl⟩,st',fun b hb=>(hf b hb).1⟩⟩
  rw[Int.mul_one]
 done:=by
  intro X hP hw hK hc i pins s σ H E I hf st hg
  subst hP hw hK
  obtain⟨f0,f1,f2,f3,f4,f5⟩:=hf it (by simp)
  exact wpAny_pyNext_range_end (I.ok.hd hc) st (by have:n≤i:=hg;omega) fun h' eb=>⟨rfl,I.turned (t':=s.toks) (fun b o hb e=>eb b o hb e) f0 f1 f3 f4 f5⟩
 self:=fun _ _ _ _ _ st h=>wpAny_pyIter_rangeiter st h
section
variable {X:Cx}{tg:Expr}
def a2h(K:W.Frag)(tl:TE):TI:=fun σ H R=>tl σ H fun x H1=>∃a,x=.ref a∧(∃xs,SqL K H1 a xs)∧R (Itl K a) H1
theorem C0{l:Expr}{tl:TE}(hl:PE X l tl):PI X tg l (a2h X.K tl):=by
 intro pins s σ H R I h
 refine i7 (hl pins s σ H _ I h) fun v s1 ⟨x,H1,I1,r1,q1⟩=>?_
 obtain⟨a,e,⟨xs,hq⟩,q⟩:=q1
 subst e
 cases r1
 obtain⟨its,rv,p,hz⟩:=I1.list hq
 refine wpAny_pyIter_list p.isList ?_
 refine⟨s1.heap.objs.size,[s1.heap.objs.size],_,_,H1,rfl,I1.kept (t':=s1.toks) fun b o e=>Heap.get?_push_of_some _ e,a7C a _,⟨_,Heap.get?_push_size _ rfl,rfl,rfl⟩,fun b hb=>?_,q⟩
 have e:b=s1.heap.objs.size:=by simpa using hb
 subst e
 exact I1.fpOk (Nat.le_refl _) (I1.hok.fresh (Nat.le_refl _))
theorem a4p{pins:List (Addr×Obj)}{σ:St}{H:Hp}{s:Shared}{R:It→Hp→Prop}{E:Value→Shared→Prop}{lo hi:Int}{t u v:Tok}{tk:Nat}(I:Inv X pins σ H s)(h1 : -(2 ^ 62)≤lo)(h2:lo<2 ^ 62)(h3 : -(2 ^ 62)≤hi)(h4:hi<2 ^ 62)
  (q:R (Itr lo (hi-lo).toNat) H):wpAny (model X.prog X.w) X.A (pyIter (.ref s.heap.objs.size)) (PIE X pins σ tg R) E { s with heap:=s.heap.push { cls:=.type "range",data:=.fields #[.int lo t,.int hi u,.int 1 v] },toks:=tk }:=by
 refine wpAny_pyIter_range (IsRange.new ..) (small_one h1 h2 h3 h4) ?_
 have I1:Inv X pins σ H { s with heap:=s.heap.push { cls:=.type "range",data:=.fields #[.int lo t,.int hi u,.int 1 v] },toks:=tk }:=I.kept fun b o e=>Heap.get?_push_of_some _ e
 refine⟨(s.heap.push { cls:=.type "range",data:=.fields #[.int lo t,.int hi u,.int 1 v] }).objs.size,[(s.heap.push { cls:=.type "range",data:=.fields #[.int lo t,.int hi u,.int 1 v] }).objs.size],_,_,H,rfl,
  I1.kept (t':=tk) fun b o e=>Heap.get?_push_of_some _ e,a6H _ lo (hi-lo).toNat,?_,fun b hb=>?_,q⟩
 ·have e1:lo+((0:Nat):Int)*1=lo:=by simp
  have e2:(((hi-lo).toNat:Nat):Int)-((0:Nat):Int)=Builtin.Range.rangeSize lo hi 1:=by rw[rangeSize_one];split<;>omega
  show IsRangeIter _ _ (lo+((0:Nat):Int)*1) ((((hi-lo).toNat:Nat):Int)-((0:Nat):Int)) 1
  rw[e1,e2]
  exact Heap.get?_push_size _ rfl
 ·have e:b=(s.heap.push { cls:=.type "range",data:=.fields #[.int lo t,.int hi u,.int 1 v] }).objs.size:=by simpa using hb
  subst e
  exact I1.fpOk (Nat.le_refl _) (I1.hok.fresh (Nat.le_refl _))
def a6I(ta:TA):TI:=fun σ H R=>ta σ H fun vs H1=>∃j:Int,vs=[.int j]∧-(2 ^ 62)≤j∧j<2 ^ 62∧R (Itr 0 j.toNat) H1
def b0h(ta:TA):TI:=fun σ H R=>ta σ H fun vs H1=>∃i j:Int,vs=[.int i,.int j]∧(-(2 ^ 62)≤i∧i<2 ^ 62∧-(2 ^ 62)≤j∧j<2 ^ 62)∧R (Itr i (j-i).toNat) H1
theorem J3{a:Expr}{ta:TA}{p pos:Pos}(hg:Gl X "range")(hm:X.mg "range" = none)(ha:PA X [a] ta)(hs:starEach [a] X.env=[(false,eval a X.env)]:=by rfl):PI X tg (.Call (.Name "range" p) [a] [] pos) (a6I ta):=by
 intro pins s σ H R I h
 refine Call_ (M5 I hg hm boot_range (PyProof.Rows.callWith_type1 (i7 (ha pos pins s σ H _ I h) fun us s1 ⟨vs,H1,I1,r1,q1⟩=>?_) hs rfl))
 obtain⟨j,e,q1,q2,q⟩:=q1
 subst e
 cases r1 with
 | cons r rr =>
  cases rr
  obtain⟨t,rfl⟩:=r
  exact call_range_1 (a4p I1 (by omega) (by omega) q1 q2 (by simpa using q))
theorem a7D{a b:Expr}{ta:TA}{p pos:Pos}(hg:Gl X "range")(hm:X.mg "range" = none)(ha:PA X [a,b] ta)(hs:starEach [a,b] X.env=[(false,eval a X.env),(false,eval b X.env)]:=by rfl)(hs2:starEach [b] X.env=[(false,eval b X.env)]:=by rfl) :
  PI X tg (.Call (.Name "range" p) [a,b] [] pos) (b0h ta):=by
 intro pins s σ H R I h
 refine Call_ (M5 I hg hm boot_range (PyProof.Rows.callWith_type1 (i7 (ha pos pins s σ H _ I h) fun us s1 ⟨vs,H1,I1,r1,q1⟩=>?_) (by rw[hs,hs2]) (by rw[hs2];rfl)))
 obtain⟨i,j,e,⟨q1,q2,q3,q4⟩,q⟩:=q1
 subst e
 cases r1 with
 | cons r rr =>
  cases rr with
  | cons r' rr =>
   cases rr
   obtain⟨t,rfl⟩:=r
   obtain⟨t',rfl⟩:=r'
   exact call_range_2 (a4p I1 q1 q2 q3 q4 q)
def a2V(wi:TI)(g:TG)(tb:TS):TS:=fun D σ H=>wi σ H fun J H1=>∃W:Nat→Nat→St→Hp→Prop,(∃m,W 0 m σ H1)∧∀i m σ H,W i m σ H →
 (J.stop i H∧D.nx σ H)∨(J.go i H∧∃N:St→Hp→Prop,(∀σ' H',N σ' H'→∃m',m'<m∧W (i+1) m' σ' H')∧∀x H',J.yld i H x H'→g x σ H' fun σ2 H2=>tb { D with nx:=N,ct:=N,bk:=D.nx } σ2 H2)
def a04(fp:List Addr)(h:Heap):List (Addr×Obj):=fp.filterMap fun b=>(h.get? b).map fun o=>(b,o)
theorem U6{fp:List Addr}{h:Heap}{b:Addr}{o:Obj}(hb:b∈fp)(e:h.get? b=some o):(b,o)∈a04 fp h:=List.mem_filterMap.mpr ⟨b,hb,by rw[e];rfl⟩
theorem a7E{fp:List Addr}{h:Heap}{p:Addr×Obj}(hp:p∈a04 fp h):p.1∈fp∧h.get? p.1=some p.2:=by
 obtain⟨b,hb,e⟩:=List.mem_filterMap.mp hp
 cases q:h.get? b with
 | none=>rw[q]at e;cases e
 | some o =>
  rw[q]at e
  have e':(b,o)=p:=Option.some.inj e
  subst e'
  exact⟨hb,q⟩
theorem Inv.pinned{pins:List (Addr×Obj)}{σ:St}{H:Hp}{s:Shared}{fp:List Addr}(I:Inv X pins σ H s)(hf:∀b∈fp,FpOk X pins H b)(ho:∀b∈fp,∃o,s.heap.get? b=some o∧∀v,o.data≠.cell v):Inv X (pins++a04 fp s.heap) σ H s :=
 I.pins_of fun p hp=>(List.mem_append.mp hp).elim (fun z=>I.pin p (List.mem_append_right _ z)) fun z=>by
  obtain⟨hb,e⟩:=a7E z
  obtain⟨f0,f1,f2,_⟩:=hf p.1 hb
  obtain⟨o,e',d⟩:=ho p.1 hb
  rw[e]at e';cases e'
  exact⟨e,f0,f1,f2,d⟩
theorem Inv.unpinned{pins pl:List (Addr×Obj)}{σ:St}{H:Hp}{s:Shared}(I:Inv X (pins++pl) σ H s):Inv X pins σ H s:=I.pins_of fun p hp=>I.pin p (List.mem_append_right _ (List.mem_append_left _ hp))
theorem M6{iter:Expr}{body:List Stmt}{wi:TI}{g:TG}{tb:TS}{pos:Pos}(hp:PassesOwn (model X.prog X.w) X.A X.env X.xe)(hc:X.calm=true)(hi:PI X tg iter wi)(hg:PG X tg g)(hb:PSs X body tb)
  (hs:∀x,foldedSetIterable iter X.env x=pure x:=by intro _;rfl):PS X (.For tg iter body [] pos) (a2V wi g tb):=by
 intro pins s σ H D I h
 refine wpAny_For (i7 (hi pins s σ H _ I h) fun v s1 h1=>i7 h1 fun itv s2 h2=>?_) hs
 obtain⟨it,fp,tn,J,H2,e,I2,T,st2,f2,W,⟨m0,w0⟩,turn⟩:=h2
 subst e
 -- what stays true of the iterator's objects through the loop
 have stat:∀{H':Hp},(∀b∈fp,H' b=none)→∀b∈fp,FpOk X pins H' b:=fun hn b hb=>⟨hn b hb,(f2 b hb).2⟩
 refine codeAny_forLoop_any (fun n s'=>∃i σ' H',Inv X pins σ' H' s'∧tn i s'.heap∧(∀b∈fp,H' b=none)∧W i n σ' H') ?_ m0 ⟨0,σ,H2,I2,st2,fun b hb=>(f2 b hb).1,w0⟩
 rintro n s3 ⟨i,σ3,H3,I3,st3,fr3,w3⟩
 rcases turn i n σ3 H3 w3 with⟨stop,qn⟩ | ⟨go,N,hN,step⟩
 ·refine wpAny_passesOwn hp (i7 (T.done X rfl rfl rfl hc i pins s3 σ3 H3 X.xe I3 (stat fr3) st3 stop) fun r s4 ⟨hr,I4⟩=>?_)
  subst hr
  exact wpAny_execs_nil ⟨σ3,H3,I4,qn⟩
 ·refine wpAny_passesOwn hp (i7 (T.item X rfl rfl rfl hc i pins s3 σ3 H3 X.xe I3 (stat fr3) st3 go) fun r s4 ⟨u,hr,h4⟩=>?_)
  subst hr
  refine wpAny_passesOwn hp (i7 h4 fun _ s5 ⟨x,H5,I5,r5,y5,st5,fr5⟩=>?_)
  have I5':=I5.pinned (stat fr5) (T.obj _ _ st5)
  refine wpAny_passesOwn hp (i7 (hg _ s5 σ3 H5 x u _ I5' r5 (step x H5 y5)) fun _ s6 ⟨σ6,H6,I6,q6⟩=>?_)
  refine wpAny_passesOwn hp (i7 (hb _ s6 σ6 H6 _ I6 q6) fun f s7 q7=>?_)
  have again:∀{σ7:St} {H7:Hp},Inv X (pins++a04 fp s5.heap) σ7 H7 s7→N σ7 H7→∃m,m<n∧∃i σ' H',Inv X pins σ' H' s7∧tn i s7.heap∧(∀b∈fp,H' b=none)∧W i m σ' H':=fun{σ7 H7} I7 n7=>by
   obtain⟨m',hm,w7⟩:=hN σ7 H7 n7
   refine⟨m',hm,i+1,σ7,H7,I7.unpinned,T.keep _ _ _ st5 fun b hb o e=>(I7.pin (b,o) (List.mem_append_right _ (List.mem_append_right _ (U6 hb e)))).1,fun b hb=>?_,w7⟩
   obtain⟨o,e,d⟩:=T.obj _ _ st5 b hb
   exact(I7.pin (b,o) (List.mem_append_right _ (List.mem_append_right _ (U6 hb e)))).2.1
  cases f with
  | next=>obtain⟨σ7,H7,I7,n7⟩:=q7;exact again I7 n7
  | cont=>obtain⟨σ7,H7,I7,n7⟩:=q7;exact again I7 n7
  | brk=>obtain⟨σ7,H7,I7,q7⟩:=q7;exact⟨σ7,H7,I7.unpinned,q7⟩
  | ret v=>obtain⟨x7,σ7,H7,I7,r7,q7⟩:=q7;exact⟨x7,σ7,H7,I7.unpinned,r7,q7⟩
end
theorem a8S{K:PySem.W.Frag}{a:Addr}{xs:List V}{g:TG}{tb:TS}{D:Ends}{σ:St}{H:Hp}(Pv:Nat→St→Hp→Prop)(h0:Pv 0 σ H)(hl:∀i σ H,i≤xs.length→Pv i σ H→SqL K H a xs)
  (hs:∀i x σ H,xs[i]? = some x→Pv i σ H→g x σ H fun σ2 H2=>tb { D with nx:=Pv (i+1),ct:=Pv (i+1),bk:=D.nx } σ2 H2) (hd:∀σ H,Pv xs.length σ H→D.nx σ H) :
  ∃W:Nat→Nat→St→Hp→Prop,(∃m,W 0 m σ H)∧∀i m σ H,W i m σ H →
   ((Itl K a).stop i H∧D.nx σ H)∨((Itl K a).go i H∧∃N:St→Hp→Prop,(∀σ' H',N σ' H'→∃m',m'<m∧W (i+1) m' σ' H')∧∀x H',(Itl K a).yld i H x H'→g x σ H' fun σ2 H2=>tb { D with nx:=N,ct:=N,bk:=D.nx } σ2 H2):=by
 refine⟨fun i m σ H=>m=xs.length-i∧i≤xs.length∧Pv i σ H,⟨xs.length,by simp,Nat.zero_le _,h0⟩,?_⟩
 rintro i m σ H ⟨rfl,hi,p⟩
 have q:=hl i σ H hi p
 by_cases hlt:i<xs.length
 ·refine .inr ⟨⟨xs,xs[i],q,by simp[hlt]⟩,Pv (i+1),fun σ' H' p'=>⟨xs.length-(i+1),by omega,rfl,hlt,p'⟩,fun x H' y=>?_⟩
  obtain⟨e,y⟩:=y
  subst e
  exact hs i x σ _ (y xs q) p
 ·have e:i=xs.length:=by omega
  subst e
  exact .inl ⟨⟨xs,q,Nat.le_refl _⟩,hd σ H p⟩
theorem a7F{lo:Int}{n:Nat}{g:TG}{tb:TS}{D:Ends}{σ:St}{H:Hp}(Pv:Nat→St→Hp→Prop)(h0:Pv 0 σ H)
  (hs:∀i σ H,i<n→Pv i σ H→g (.int (lo+i)) σ H fun σ2 H2=>tb { D with nx:=Pv (i+1),ct:=Pv (i+1),bk:=D.nx } σ2 H2) (hd:∀σ H,Pv n σ H→D.nx σ H) :
  ∃W:Nat→Nat→St→Hp→Prop,(∃m,W 0 m σ H)∧∀i m σ H,W i m σ H →
   ((Itr lo n).stop i H∧D.nx σ H)∨((Itr lo n).go i H∧∃N:St→Hp→Prop,(∀σ' H',N σ' H'→∃m',m'<m∧W (i+1) m' σ' H')∧∀x H',(Itr lo n).yld i H x H'→g x σ H' fun σ2 H2=>tb { D with nx:=N,ct:=N,bk:=D.nx } σ2 H2):=by
 refine⟨fun i m σ H=>m=n-i∧i≤n∧Pv i σ H,⟨n,by simp,Nat.zero_le _,h0⟩,?_⟩
 rintro i m σ H ⟨rfl,hi,p⟩
 by_cases hlt:i<n
 ·refine .inr ⟨hlt,Pv (i+1),fun σ' H' p'=>⟨n-(i+1),by omega,rfl,hlt,p'⟩,fun x H' y=>?_⟩
  obtain⟨e,y⟩:=y
  subst e y
  exact hs i σ _ hlt p
 ·have e:i=n:=by omega
  subst e
  exact .inl ⟨Nat.le_refl _,hd σ H p⟩
abbrev R2:=V→V→Hp→VK→Prop
def M1(X:Cx)(f:Value→Value→Sem Value)(r:R2):Prop :=
 ∀(pins:List (Addr×Obj)) (s:Shared) (σ:St) (H:Hp) (x y:V) (v u:Value) (Q:VK),Inv X pins σ H s→RelV x v→RelV y u→r x y H Q →
  wpAny (model X.prog X.w) X.A (f v u) (EP X pins σ Q) X.xe s
def UnR(X:Cx)(f:Value→Sem Value)(r:V→Hp→VK→Prop):Prop :=
 ∀(pins:List (Addr×Obj)) (s:Shared) (σ:St) (H:Hp) (x:V) (v:Value) (Q:VK),Inv X pins σ H s→RelV x v→r x H Q →
  wpAny (model X.prog X.w) X.A (f v) (EP X pins σ Q) X.xe s
def J0(X:Cx)(f:Value)(r:List V→Hp→VK→Prop):Prop :=
 ∀(pins:List (Addr×Obj)) (s:Shared) (σ:St) (H:Hp) (xs:List V) (us:List Value) (Q:VK),Inv X pins σ H s→Vals xs us→r xs H Q →
  wpAny (model X.prog X.w) X.A (call f us) (EP X pins σ Q) X.xe s
def tOp(r:R2)(ta tb:TE):TE:=fun σ H Q=>ta σ H fun x H1=>tb σ H1 fun y H2=>r x y H2 Q
def tUn(r:V→Hp→VK→Prop)(ta:TE):TE:=fun σ H Q=>ta σ H fun x H1=>r x H1 Q
def rI(C:Int→Int→Prop)(g:Int→Int→V):R2:=fun x y H Q=>∃i j,x=.int i∧y=.int j∧C i j∧Q (g i j) H
def rI0(g:Int→Int→V):R2:=fun x y H Q=>∃i j,x=.int i∧y=.int j∧Q (g i j) H
def rU(g:Int→V):V→Hp→VK→Prop:=fun x H Q=>∃i,x=.int i∧Q (g i) H
section
variable {X:Cx}{a b c:Expr}{ta tb tc:TE}{pos:Pos}
theorem a8T(ha:PE X a ta)(hb:PE X b tb){pins:List (Addr×Obj)}{s:Shared}{σ:St}{H:Hp}{R:V→V→Hp→Prop}(I:Inv X pins σ H s)
  (h:ta σ H fun x H1=>tb σ H1 fun y H2=>R x y H2) {Q:Value→Shared→Prop} {f:Value→Value→Sem Value}
  (hf:∀v u s2 x y H2,Inv X pins σ H2 s2→RelV x v→RelV y u→R x y H2→wpAny (model X.prog X.w) X.A (f v u) Q X.xe s2) :
  wpAny (model X.prog X.w) X.A (eval a X.env) (fun v s₁=>wpAny (model X.prog X.w) X.A (eval b X.env) (fun u s₂=>wpAny (model X.prog X.w) X.A (f v u) Q X.xe s₂) X.xe s₁) X.xe s:=by
 refine i7 (ha pins s σ H _ I h) fun v s1 ⟨x,H1,I1,r1,q1⟩=>?_
 refine i7 (hb pins s1 σ H1 _ I1 q1) fun u s2 ⟨y,H2,I2,r2,q2⟩=>?_
 exact hf v u s2 x y H2 I2 r1 r2 q2
theorem g5{op:Operator}{r:R2}(ho:M1 X (binaryOp op) r)(ha:PE X a ta)(hb:PE X b tb):PE X (.BinOp a op b pos) (tOp r ta tb):=by
 intro pins s σ H Q I h
 exact wpAny_BinOp (a8T ha hb I h fun v u s2 x y H2 I2 rx ry q=>ho pins s2 σ H2 x y v u Q I2 rx ry q)
theorem a6J{op:UnaryOp}{r:V→Hp→VK→Prop}(ho:UnR X (unaryOp op) r)(ha:PE X a ta):PE X (.UnaryOp op a pos) (tUn r ta):=by
 intro pins s σ H Q I h
 exact UnaryOp_ (i7 (ha pins s σ H _ I h) fun v s1 ⟨x,H1,I1,r1,q1⟩=>ho pins s1 σ H1 x v Q I1 r1 q1)
theorem opI{f:Value→Value→Sem Value}{C:Int→Int→Prop}{g:Int→Int→Int}
  (rule:∀(i j:Int) (t u:Tok) (s:Shared) (Q:Value→Shared→Prop) (E:Value→Shared→Prop),C i j→Q (.int (g i j) s.toks) { s with toks:=s.toks+1 }→wpAny (model X.prog X.w) X.A (f (.int i t) (.int j u)) Q E s) :
  M1 X f (rI C fun i j=>.int (g i j)):=by
 intro pins s σ H x y v u Q I rx ry h
 obtain⟨i,j,rfl,rfl,hc,q⟩:=h
 obtain⟨t,rfl⟩:=rx
 obtain⟨t',rfl⟩:=ry
 exact rule i j t t' s _ _ hc ⟨.int (g i j),H,I.tok _,⟨_,rfl⟩,q⟩
theorem b2U{f:Value→Value→Sem Value}{g:Int→Int→Int}
  (rule:∀(i j:Int) (t u:Tok) (s:Shared) (Q:Value→Shared→Prop) (E:Value→Shared→Prop),Q (.int (g i j) s.toks) { s with toks:=s.toks+1 }→wpAny (model X.prog X.w) X.A (f (.int i t) (.int j u)) Q E s) :
  M1 X f (rI0 fun i j=>.int (g i j)):=by
 intro pins s σ H x y v u Q I rx ry h
 obtain⟨i,j,rfl,rfl,q⟩:=h
 obtain⟨t,rfl⟩:=rx
 obtain⟨t',rfl⟩:=ry
 exact rule i j t t' s _ _ ⟨.int (g i j),H,I.tok _,⟨_,rfl⟩,q⟩
theorem b2V{f:Value→Value→Sem Value}{g:Int→Int→Bool}
  (rule:∀(i j:Int) (t u:Tok) (s:Shared) (Q:Value→Shared→Prop) (E:Value→Shared→Prop),Q (.bool (g i j)) s→wpAny (model X.prog X.w) X.A (f (.int i t) (.int j u)) Q E s) :
  M1 X f (rI0 fun i j=>.bl (g i j)):=by
 intro pins s σ H x y v u Q I rx ry h
 obtain⟨i,j,rfl,rfl,q⟩:=h
 obtain⟨t,rfl⟩:=rx
 obtain⟨t',rfl⟩:=ry
 exact rule i j t t' s _ _ ⟨.bl (g i j),H,I,rfl,q⟩
def a2W(i j:Int):Prop:=0≤j∧j≤1000000∧i.natAbs<2 ^ 64
def CMul(i j:Int):Prop:=(-(2 ^ 64)<i∧i<2 ^ 64)∨(-(2 ^ 64)<j∧j<2 ^ 64)
theorem CMul.ok{i j:Int}(h:CMul i j):IntMulOk i j:=by
 rcases h with⟨h1,h2⟩ | ⟨h1,h2⟩
 ·exact .of_left (intBits_le_64 h1 h2)
 ·exact .of_right (intBits_le_64 h1 h2)
theorem A3:M1 X (binaryOp .Add) (rI0 fun i j=>.int (i+j)):=b2U fun _ _ _ _ _ _ _ q=>add_int q
theorem M7:M1 X (binaryOp .Sub) (rI0 fun i j=>.int (i-j)):=b2U fun _ _ _ _ _ _ _ q=>sub_int q
theorem w9:M1 X (binaryOp .Mod) (rI (fun _ j=>0<j) fun i j=>.int (i%j)):=opI fun i j _ _ _ _ _ hc q=>by
 have h1:(0:Int)<j:=hc
 exact mod_int' (by omega) (by rw[Int.fmod_eq_emod_of_nonneg i (by omega)];exact q)
theorem a7G:M1 X (binaryOp .Pow) (rI a2W fun i j=>.int (i ^ j.toNat)):=opI fun _ _ _ _ _ _ _ hc q=>pow_int_small hc.1 hc.2.1 hc.2.2 q
theorem unI{f:Value→Sem Value}{g:Int→Int}
  (rule:∀(i:Int) (t:Tok) (s:Shared) (Q:Value→Shared→Prop) (E:Value→Shared→Prop),Q (.int (g i) s.toks) { s with toks:=s.toks+1 }→wpAny (model X.prog X.w) X.A (f (.int i t)) Q E s) :
  UnR X f (rU fun i=>.int (g i)):=by
 intro pins s σ H x v Q I rx h
 obtain⟨i,rfl,q⟩:=h
 obtain⟨t,rfl⟩:=rx
 exact rule i t s _ _ ⟨.int (g i),H,I.tok _,⟨_,rfl⟩,q⟩
theorem a4q:UnR X (unaryOp .USub) (rU fun i=>.int (-i)):=unI fun _ _ _ _ _ q=>neg_int q
end
def a6K:V→V→Bool
 | .non,.non=>true | .non,.int _=>true | .int _,.non=>true | .non,.bl _=>true | .bl _,.non=>true | .non,.str _=>true | .str _,.non=>true
 | .int _,.int _=>true | .bl _,.bl _=>true | .str _,.str _=>true | .byt _,.byt _=>true
 | .int _,.str _=>true | .str _,.int _=>true | .bl _,.str _=>true | .str _,.bl _=>true
 | _,_=>false
def rEq:R2:=fun x y H Q=>a6K x y=true∧Q (.bl (decide (x=y))) H
def rNe:R2:=fun x y H Q=>a6K x y=true∧Q (.bl (!decide (x=y))) H
theorem a5X{i j:Int}:decide (V.int i=V.int j)=(i == j):=by
 rw[Bool.eq_iff_iff]
 simp
theorem a7H{i j:Bool}:decide (V.bl i=V.bl j)=(i == j):=by
 rw[Bool.eq_iff_iff]
 simp
theorem a5Y{i j:Str}:decide (V.str i=V.str j)=(i == j):=by
 rw[Bool.eq_iff_iff]
 simp
theorem a5Z{i j:Array UInt8}:decide (V.byt i=V.byt j)=(i.toList == j.toList):=by
 rw[Bool.eq_iff_iff]
 cases i
 cases j
 simp
section
variable {X:Cx}{a b c:Expr}{ta tb tc:TE}{pos:Pos}
theorem l4{pins:List (Addr×Obj)}{σ:St}{H:Hp}{s:Shared}{Q:VK}{k k':Bool}(I:Inv X pins σ H s)(q:Q (.bl k) H)(e:k=k'):EP X pins σ Q (.bool k') s:=by
 subst e
 exact⟨.bl k,H,I,rfl,q⟩
theorem Y4:M1 X (compareOp .Eq) rEq:=by
 intro pins s σ H x y v u Q I rx ry h
 obtain⟨hs,q⟩:=h
 cases x with
 | non =>
  cases rx
  cases y with
  | non=>cases ry;exact PySem.EqNone.eq_none_none (l4 I q (by simp))
  | bl j=>cases ry;exact PySem.EqNone.eq_none_bool (l4 I q (by simp))
  | int j=>obtain⟨t',rfl⟩:=ry;exact PySem.EqNone.eq_none_int (l4 I q (by simp))
  | str j=>obtain⟨t',rfl⟩:=ry;exact PySem.EqNone.eq_none_str (l4 I q (by simp))
  | _=>exact absurd (show false=true from hs) Bool.false_ne_true
 | bl i =>
  cases rx
  cases y with
  | non=>cases ry;exact PySem.EqNone.eq_bool_none (l4 I q (by simp))
  | bl j=>cases ry;exact eq_bool (l4 I q a7H)
  | str j=>obtain⟨t',rfl⟩:=ry;exact PySem.EqMixed.eq_bool_str (l4 I q (by simp))
  | _=>exact absurd (show false=true from hs) Bool.false_ne_true
 | int i =>
  obtain⟨t,rfl⟩:=rx
  cases y with
  | non=>cases ry;exact PySem.EqNone.eq_int_none (l4 I q (by simp))
  | int j=>obtain⟨t',rfl⟩:=ry;exact eq_int (l4 I q a5X)
  | str j=>obtain⟨t',rfl⟩:=ry;exact PySem.EqMixed.eq_int_str (l4 I q (by simp))
  | _=>exact absurd (show false=true from hs) Bool.false_ne_true
 | str i =>
  obtain⟨t,rfl⟩:=rx
  cases y with
  | non=>cases ry;exact PySem.EqNone.eq_str_none (l4 I q (by simp))
  | bl j=>cases ry;exact PySem.EqMixed.eq_str_bool (l4 I q (by simp))
  | int j=>obtain⟨t',rfl⟩:=ry;exact PySem.EqMixed.eq_str_int (l4 I q (by simp))
  | str j=>obtain⟨t',rfl⟩:=ry;exact eq_str (l4 I q a5Y)
  | _=>exact absurd (show false=true from hs) Bool.false_ne_true
 | byt i =>
  obtain⟨t,rfl⟩:=rx
  cases y with
  | byt j=>obtain⟨t',rfl⟩:=ry;exact W.eq_bytes (l4 I q a5Z)
  | _=>exact absurd (show false=true from hs) Bool.false_ne_true
 | _=>cases y<;>exact absurd (show false=true from hs) Bool.false_ne_true
theorem a34:M1 X (compareOp .NotEq) rNe:=by
 intro pins s σ H x y v u Q I rx ry h
 obtain⟨hs,q⟩:=h
 cases x with
 | non =>
  cases rx
  cases y with
  | non=>cases ry;exact PySem.EqNone.ne_none_none (l4 I q (by simp))
  | bl j=>cases ry;exact PySem.EqNone.ne_none_bool (l4 I q (by simp))
  | int j=>obtain⟨t',rfl⟩:=ry;exact PySem.EqNone.ne_none_int (l4 I q (by simp))
  | str j=>obtain⟨t',rfl⟩:=ry;exact PySem.EqNone.ne_none_str (l4 I q (by simp))
  | _=>exact absurd (show false=true from hs) Bool.false_ne_true
 | bl i =>
  cases rx
  cases y with
  | non=>cases ry;exact PySem.EqNone.ne_bool_none (l4 I q (by simp))
  | bl j=>cases ry;exact ne_bool (l4 I q (congrArg not a7H))
  | str j=>obtain⟨t',rfl⟩:=ry;exact PySem.EqMixed.ne_bool_str (l4 I q (by simp))
  | _=>exact absurd (show false=true from hs) Bool.false_ne_true
 | int i =>
  obtain⟨t,rfl⟩:=rx
  cases y with
  | non=>cases ry;exact PySem.EqNone.ne_int_none (l4 I q (by simp))
  | int j=>obtain⟨t',rfl⟩:=ry;exact ne_int (l4 I q (congrArg not a5X))
  | str j=>obtain⟨t',rfl⟩:=ry;exact PySem.EqMixed.ne_int_str (l4 I q (by simp))
  | _=>exact absurd (show false=true from hs) Bool.false_ne_true
 | str i =>
  obtain⟨t,rfl⟩:=rx
  cases y with
  | non=>cases ry;exact PySem.EqNone.ne_str_none (l4 I q (by simp))
  | bl j=>cases ry;exact PySem.EqMixed.ne_str_bool (l4 I q (by simp))
  | int j=>obtain⟨t',rfl⟩:=ry;exact PySem.EqMixed.ne_str_int (l4 I q (by simp))
  | str j=>obtain⟨t',rfl⟩:=ry;exact ne_str (l4 I q (congrArg not a5Y))
  | _=>exact absurd (show false=true from hs) Bool.false_ne_true
 | byt i =>
  obtain⟨t,rfl⟩:=rx
  cases y with
  | byt j=>obtain⟨t',rfl⟩:=ry;exact W.ne_bytes (l4 I q (congrArg not a5Z))
  | _=>exact absurd (show false=true from hs) Bool.false_ne_true
 | _=>cases y<;>exact absurd (show false=true from hs) Bool.false_ne_true
theorem a35:M1 X (compareOp .Lt) (rI0 fun i j=>.bl (decide (i<j))):=b2V fun _ _ _ _ _ _ _ q=>lt_int q
theorem a36:M1 X (compareOp .Gt) (rI0 fun i j=>.bl (decide (j<i))):=b2V fun _ _ _ _ _ _ _ q=>gt_int q
theorem t4(b:Expr){op:CmpOp}(h:op≠.In:=by decide)(h2:op≠.NotIn:=by decide):behindInMarks op b=false:=by
 have e1:(op == CmpOp.In)=false:=by cases op<;>first | rfl | exact absurd rfl h
 have e2:(op == CmpOp.NotIn)=false:=by cases op<;>first | rfl | exact absurd rfl h2
 cases b<;>simp[behindInMarks,e1,e2]
theorem a0k{op:CmpOp}{r:R2}(ho:M1 X (compareOp op) r)(ha:PE X a ta)(hb:PE X b tb)(hm:behindInMarks op b=false):PE X (.Compare a [op] [b] pos) (tOp r ta tb):=by
 intro pins s σ H Q I h
 exact wpAny_Compare1 (a8T ha hb I h fun v u s2 x y H2 I2 rx ry q=>ho pins s2 σ H2 x y v u Q I2 rx ry q) hm
def b0j(t:TE):TT:=fun σ H Q=>t σ H fun x H'=>∃k,x=.bl k∧Q k H'
theorem p8{op:CmpOp}{r:R2}(ho:M1 X (compareOp op) r)(ha:PE X a ta)(hb:PE X b tb)(hm:behindInMarks op b=false):PT X (.Compare a [op] [b] pos) (b0j (tOp r ta tb)):=by
 intro pins s σ H Q I h
 refine wpAny_isTrue_Compare1 (i7 (ha pins s σ H _ I h) fun v s1 ⟨x,H1,I1,r1,q1⟩=>i7 (hb pins s1 σ H1 _ I1 q1) fun u s2 ⟨y,H2,I2,r2,q2⟩ =>
  i7 (ho pins s2 σ H2 x y v u _ I2 r1 r2 q2) fun c s3 ⟨z,H3,I3,r3,k,e,q3⟩=>?_) hm
 subst e
 cases r3
 exact wpAny_truthy_bool ⟨H3,I3,q3⟩
theorem a2j:(sizeLine:Nat)<2 ^ 63:=by rw[sizeLine_eq];decide
theorem b0k{x:V}{us:List Value}(r:Vals [x] us):∃u,us=[u]∧RelV x u:=by
 cases r with
 | cons r1 r2=>cases r2;exact⟨_,rfl,r1⟩
theorem a6L{x y:V}{us:List Value}(r:Vals [x,y] us):∃u w',us=[u,w']∧RelV x u∧RelV y w':=by
 cases r with
 | cons r1 r2 =>
  cases r2 with
  | cons r3 r4=>cases r4;exact⟨_,_,rfl,r1,r3⟩
theorem a3p(hc:X.calm=true):J0 X (.builtin "max") (fun xs H Q=>∃i j,xs=[.int i,.int j]∧Q (.int (if j > i then j else i)) H):=by
 intro pins s σ H xs us Q I r h
 obtain⟨i,j,rfl,q⟩:=h
 obtain⟨u,w',rfl,⟨t,rfl⟩,⟨t',rfl⟩⟩:=a6L r
 refine max_two_ints (I.ok.hd hc) fun h' tk k=>⟨_,H,I.kept k,?_,q⟩
 by_cases hj:j > i
 ·rw[if_pos hj,if_pos hj];exact⟨_,rfl⟩
 ·rw[if_neg hj,if_neg hj];exact⟨_,rfl⟩
theorem a06(hc:X.calm=true):J0 X (.builtin "min") (fun xs H Q=>∃i j,xs=[.int i,.int j]∧Q (.int (if j<i then j else i)) H):=by
 intro pins s σ H xs us Q I r h
 obtain⟨i,j,rfl,q⟩:=h
 obtain⟨u,w',rfl,⟨t,rfl⟩,⟨t',rfl⟩⟩:=a6L r
 refine min_two_ints (I.ok.hd hc) fun h' tk k=>⟨_,H,I.kept k,?_,q⟩
 by_cases hj:j<i
 ·rw[if_pos hj,if_pos hj];exact⟨_,rfl⟩
 ·rw[if_neg hj,if_neg hj];exact⟨_,rfl⟩
end
structure ObjM(h:Heap)(x dx C:Addr)(mA:Str→Option Value):Prop where
 obj:h.get? x=some (W.instObj C dx)
 ns:h.Ns1 dx mA
 ne:dx≠x
theorem a7I{h:Heap}{dx:Addr}{mA:Str→Option Value}(n:h.Ns1 dx mA):∃od,h.get? dx=some od∧∀name,W.lookIn name od=some (mA name):=by
 obtain⟨o,es,ep,ho,hd,hk,_,hm⟩:=n
 refine⟨o,ho,fun name=>?_⟩
 have e:=hm name
 unfold nsFind findBy at e
 rw[← Array.find?_toList]at e
 unfold W.lookIn
 rw[hd]
 dsimp only
 split
 ·rename_i y q
  rw[q]at e
  exact congrArg some e
 ·rename_i q
  rw[q]at e
  have a:es.toList.any (·.refKey)=false:=by
   rw[List.any_eq_false]
   intro y hy
   obtain⟨z,t,hkey⟩:=hk y (Array.mem_toList_iff.mp hy)
   simp[DictEntry.refKey,hkey]
  have a':¬es.toList.any (·.refKey)=true:=by rw[a];exact Bool.false_ne_true
  rw[if_neg a']
  exact congrArg some e
theorem ObjM.look{h:Heap}{x dx C:Addr}{mA:Str→Option Value}(I:ObjM h x dx C mA):∃od,W.InstAt h x (W.instObj C dx) C (some od)∧∀name,W.lookIn name od=some (mA name) :=
 let ⟨od,ho,hl⟩:=a7I I.ns
 ⟨od,⟨I.obj,rfl,rfl,ho⟩,hl⟩
section
variable {P:Program}{w:World}{H H':Hp}{h h':Heap}{a C dx:Addr}{fs fs':List (Str×V)}
theorem b0S(hok:HOk P w H h)(e:H a=some (.ins C dx fs)):∃mA,ObjM h a dx C mA∧(∀f,RelO (fs.lookup f) (mA f))∧PySem.Within mA (fs.map (·.1))∧fs.length≤1000∧H dx=some (.own a):=by
 obtain⟨d,z,ne,ob,mA,n,r,q⟩:=(show ObjOk P w H h a (.ins C dx fs)from hok a _ e)
 exact⟨mA,⟨ob,n,ne⟩,r,q,z,d⟩
end
structure Cls(K:W.Frag)(C:Addr):Prop where
 pg:W.plainGet K C Str.empty=true
 hd:W.hasDictIn K C=true
 po:W.plainOver K C=true
 sa:W.findIn K (.ref C) "__setattr__" = some (some (.builtin "object.__setattr__"))
theorem Cls.get{K:W.Frag}{C:Addr}(c:Cls K C)(f:Str):W.plainGet K C f=true:=c.pg
section
variable {X:Cx}{pins:List (Addr×Obj)}{σ:St}{H:Hp}{s:Shared}{a C dx:Addr}{fs:List (Str×V)}{f:Str}{v:V}{A:Around}{E:Value→Shared→Prop}
theorem Inv.made(I:Inv X pins σ H s):Inv X pins σ (upd (upd H s.heap.objs.size (.own (s.heap.objs.size+1))) (s.heap.objs.size+1) (.ins C s.heap.objs.size []))
  { s with heap:=(s.heap.push W.emptyDict).push (W.instObj C s.heap.objs.size) }:=by
 have e1:(s.heap.push W.emptyDict).get? s.heap.objs.size=some W.emptyDict:=Heap.get?_push_size s.heap rfl
 have e2:((s.heap.push W.emptyDict).push (W.instObj C s.heap.objs.size)).get? (s.heap.objs.size+1)=some (W.instObj C s.heap.objs.size):=by
  have:=Heap.get?_push_size (s.heap.push W.emptyDict) (o:=W.instObj C s.heap.objs.size) rfl
  rwa [Heap.size_push]at this
 have e3:(s.heap.push W.emptyDict).Ns s.heap.objs.size (fun _=>none):=⟨W.emptyDict,#[],_,e1,rfl,(fun e he=>absurd he (by simp)),fun _=>rfl⟩
 have I1:=I.laid (a:=s.heap.objs.size) (o:=.own (s.heap.objs.size+1)) (h':=s.heap.push W.emptyDict) (t':=s.toks) (fun b u q=>Heap.get?_push_of_some _ q) (Nat.le_refl _) ⟨_,e1⟩
 refine I1.laid (a:=s.heap.objs.size+1) (o:=.ins C s.heap.objs.size []) (t':=s.toks) (fun b u q=>Heap.get?_push_of_some _ q) (Nat.le_of_eq (Heap.size_push _ _)) ?_
 have ne:s.heap.objs.size≠s.heap.objs.size+1:=Nat.ne_of_lt (Nat.lt_succ_self _)
 refine⟨by rw[b9 ne,i0],Nat.zero_le _,ne,e2,fun _=>none,(Heap.Ns1.of_empty e3).at fun o q=>Heap.get?_push_of_some _ q,fun _=>True.intro,fun y hy=>absurd rfl hy⟩
end
section
variable {X:Cx}{pins:List (Addr×Obj)}{σ:St}{H:Hp}{s:Shared}{A:Around}{E:Value→Shared→Prop}{Q:Value→Shared→Prop}{c:Value}{b:Bool}
inductive TyOf(K:W.Frag)(H:Hp):V→Value→Prop where
 | non:TyOf K H .non (.type "NoneType")
 | bl (x:Bool):TyOf K H (.bl x) (.type "bool")
 | int (i:Int):TyOf K H (.int i) (.type "int")
 | str (x:Str):TyOf K H (.str x) (.type "str")
 | flt (x:UInt64):TyOf K H (.flt x) (.type "float")
 | lst {a:Addr} {xs:List V} (e:H a=some (.lst xs)):TyOf K H (.ref a) (.type "list")
 | frz {a:Addr} {o:Obj} {xs:List V} (e:H a=some (.frz o (.lst xs))):TyOf K H (.ref a) (.type "list")
 | tup {a:Addr} {xs:List V} (e:H a=some (.tup xs)):TyOf K H (.ref a) (.type "tuple")
 | dK {a:Addr} {kvs:List (i4×V)} (e:H a=some (.dK kvs)):TyOf K H (.ref a) (.type "dict")
 | dT {a:Addr} {kvs:List (List i4×V)} (e:H a=some (.dT kvs)):TyOf K H (.ref a) (.type "dict")
 | ins {a C dx:Addr} {fs:List (Str×V)} (e:H a=some (.ins C dx fs)) (cl:Cls K C) (ha:W.findIn K (.ref C) "__class__" = some (some (.builtin "object.__class__")))
   (hn:W.specialIn K (.builtin "object.__class__") "__get__" = some (some (.builtin "getset_descriptor.__get__"))) (htk:W.takesIn K (.builtin "object.__class__")=some true)
   (hm:W.mroIn K C (.type "object")=some true):TyOf K H (.ref a) (.ref C)
end
structure Room(k:Nat)(A:Around):Prop where
 hd:A.handled=none
 dp:A.depth+3*k+5<recursionLimit
 un:A.units+16*k+200<cLine
theorem Room.mono{j k:Nat}{A:Around}(r:Room k A)(h:j≤k):Room j A:=⟨r.hd,by have:=r.dp;omega,by have:=r.un;omega⟩
theorem Room.deeper{k:Nat}{A:Around}(r:Room (k+1) A)(env:Env):Room k (A.deeper env) :=
 ⟨r.hd,by have:=r.dp;show A.depth+1+3*k+5<_;omega,by have:=r.un;show A.units+3+16*k+200<_;omega⟩
theorem Room.in1{k:Nat}{A:Around}(r:Room (k+1) A):Room k A.in1 :=
 ⟨r.hd,by have:=r.dp;show A.depth+3*k+5<_;omega,by have:=r.un;show A.units+1+16*k+200<_;omega⟩
theorem Room.depth{k:Nat}{A:Around}(r:Room k A):A.depth<recursionLimit:=by have:=r.dp;omega
theorem Room.units{k:Nat}{A:Around}(r:Room k A):A.units+64<cLine:=by have:=r.un;omega
def W1:TA:=fun _ H Q=>Q [] H
def N5(ta:TE)(tr:TA):TA:=fun σ H Q=>ta σ H fun x H1=>tr σ H1 fun xs H2=>Q (x::xs) H2
section
variable {X:Cx}{e:Expr}{es:List Expr}{te:TE}{t:TA}{pos:Pos}
theorem c6:PA X [] W1:=fun _ _ _ _ H Q I h=>Calls.spliced_nil ⟨[],H,I,.nil,h⟩
theorem a6(ha:PE X e te)(hr:PA X es t)(hs:starEach (e::es) X.env=(false,eval e X.env)::starEach es X.env:=by rfl):PA X (e::es) (N5 te t):=by
 intro pos pins s σ H Q I h
 rw[hs]
 show wpAny _ _ (spliced ((false,eval e X.env)::backTo pos (starEach es X.env))) _ _ s
 refine Calls.spliced_cons (i7 (ha pins s σ H _ I h) fun u s1 ⟨x,H1,I1,r1,q1⟩=>?_)
 exact i7 (hr pos pins s1 σ H1 _ I1 q1) fun us s2 ⟨xs,H2,I2,r2,q2⟩=>⟨x::xs,H2,I2,.cons r1 r2,q2⟩
def b2W(t:TA):TE:=fun σ H Q=>t σ H fun xs H1=>xs.length≤sizeLine∧∀p,H1 p=none→Q (.ref p) (upd H1 p (.tup xs))
def b2X(t:TA):TE:=fun σ H Q=>t σ H fun xs H1=>xs.length≤sizeLine∧∀p,H1 p=none→Q (.ref p) (upd H1 p (.lst xs))
theorem C3{x1}(h:PA X es t):PE X (.Tuple es x1 pos) (b2W t):=by
 intro pins s σ H Q I hq
 refine wpAny_Tuple_spliced (i7 (h pos pins s σ H _ I hq) fun us s1 ⟨xs,H1,I1,r,z,q⟩=>⟨by rw[← r.length];exact z,?_⟩)
 have hf:H1 s1.heap.objs.size=none:=I1.hok.fresh (Nat.le_refl _)
 refine⟨.ref s1.heap.objs.size,upd H1 s1.heap.objs.size (.tup xs),I1.laid (t':=s1.toks) (fun b u e=>Heap.get?_push_of_some _ e) (Nat.le_refl _) ?_,rfl,q _ hf⟩
 exact⟨z,us,r,⟨_,Heap.get?_push_size _ rfl,rfl,_,rfl⟩⟩
theorem a07(h:PA X es t):PE X (.List es pos) (b2X t):=by
 intro pins s σ H Q I hq
 refine wpAny_List_spliced (i7 (h pos pins s σ H _ I hq) fun us s1 ⟨xs,H1,I1,r,z,q⟩=>⟨by rw[← r.length];exact z,?_⟩)
 have hf:H1 s1.heap.objs.size=none:=I1.hok.fresh (Nat.le_refl _)
 refine⟨.ref s1.heap.objs.size,upd H1 s1.heap.objs.size (.lst xs),I1.laid (t':=s1.toks) (fun b u e=>Heap.get?_push_of_some _ e) (Nat.le_refl _) ?_,rfl,q _ hf⟩
 exact⟨z,us,0,r,Heap.get?_push_size _ rfl⟩
end
abbrev Sp:=List V→Hp→VK→XK→Prop
abbrev Y5:=List Env→Hp→Shared→XK→Value→Shared→Prop
structure Env0(P:Program)(w:World)(K:W.Frag)(mg:Str→Option Value)(base:Heap)(A:Around)(outer:List Env)(s:Shared)(H:Hp):Prop where
 frames:A.frames=some outer
 mod:Mod K mg base
 bs:∀b o,base.get? b=some o→s.heap.get? b=some o∧H b=none
 bsz:base.objs.size≤s.heap.objs.size
 funs:s.heap.FunFrames base outer
 frf:∀b∈B8 outer,H b=none
 hok:HOk P w H s.heap
 bare:AllBare s.gens
def CE(outer:List Env)(P:Program)(w:World)(H:Hp)(s:Shared)(Q:VK)(u:Value)(s':Shared):Prop :=
 ∃v H',s'.os=s.os∧AllBare s'.gens∧Un (B8 outer) [] H H' s.heap s'.heap∧HOk P w H' s'.heap∧RelV v u∧Q v H'
def CR(CX:Y5)(outer:List Env)(P:Program)(w:World)(H:Hp)(s:Shared)(Q:VK)(E:XK)(r:Result)(s':Shared):Prop :=
 match r with
 | .ok (.ret u)=>CE outer P w H s Q u s'
 | .ok _=>False
 | .error e=>CX outer H s E e s'
structure FnOk(P:Program)(w:World)(K:W.Frag)(mg:Str→Option Value)(base:Heap)(CX:Y5)(k:Nat)(f:Addr)(fd:FuncData)(ps:List Str)(sp:Sp):Prop where
 len:∀vs H Q E,sp vs H Q E→vs.length=ps.length
 run:∀(A:Around) (outer:List Env) (s:Shared) (H:Hp) (args:Args) (us:List Value) (vs:List V) (Q:VK) (E:XK),Room k A→Env0 P w K mg base A outer s H→BindsTo s fd args (ps.zip us)→Vals vs us→sp vs H Q E →
  codeAny (model P w) A (.call (.ref f) args) (CR CX outer P w H s Q E) s
theorem FnOk.mono{P:Program}{w:World}{K:W.Frag}{mg:Str→Option Value}{base:Heap}{CX:Y5}{j k:Nat}{f:Addr}{fd:FuncData}{ps:List Str}{sp:Sp}(F:FnOk P w K mg base CX j f fd ps sp)(h:j≤k) :
  FnOk P w K mg base CX k f fd ps sp:=⟨F.len,fun A outer s H args us vs Q E hr=>F.run A outer s H args us vs Q E (hr.mono h)⟩
theorem FnOk.imp{P:Program}{w:World}{K:W.Frag}{mg:Str→Option Value}{base:Heap}{CX:Y5}{k:Nat}{f:Addr}{fd:FuncData}{ps:List Str}{sp sp':Sp}(F:FnOk P w K mg base CX k f fd ps sp)
  (h:∀vs H Q E,sp' vs H Q E→sp vs H Q E):FnOk P w K mg base CX k f fd ps sp' :=
 ⟨fun vs H Q E q=>F.len vs H Q E (h _ _ _ _ q),fun A outer s H args us vs Q E hr he hb hv hs=>F.run A outer s H args us vs Q E hr he hb hv (h _ _ _ _ hs)⟩
theorem Env0.in1{P:Program}{w:World}{K:W.Frag}{mg:Str→Option Value}{base:Heap}{A:Around}{outer:List Env}{s:Shared}{H:Hp}(e:Env0 P w K mg base A outer s H) :
  Env0 P w K mg base A.in1 outer s H:=⟨e.frames,e.mod,e.bs,e.bsz,e.funs,e.frf,e.hok,e.bare⟩
section
variable {X:Cx}{pins:List (Addr×Obj)}{σ:St}{H:Hp}{s s':Shared}
theorem Inv.env0(I:Inv X pins σ H s):Env0 X.prog X.w X.K X.mg X.base X.A X.stack s H :=
 ⟨I.ok.frames,I.ok.mod,I.bs,Nat.le_trans I.ok.bsz I.sz,I.stack,I.stkFree,I.hok,I.bare⟩
theorem Inv.after{Q:VK}{u:Value}(I:Inv X pins σ H s)(h:CE X.stack X.prog X.w H s Q u s'):EP X pins σ Q u s':=by
 obtain⟨v,H',os,bare,un,hok,r,q⟩:=h
 obtain⟨hh,g,d,t,os'⟩:=s'
 obtain rfl:os'=s.os:=os
 exact⟨v,H',I.call (h':=hh) (g':=g) (d':=d) (t':=t) (ch:=[]) un hok bare (fun b z=>absurd z (by simp)),r,q⟩
end
def a0x(sp:Sp)(dvs:List V)(E:XK)(t:TA):TE:=fun σ H Q=>t σ H fun vs H1=>sp (vs++dvs) H1 Q E
def Binds(K:W.Frag)(fd:FuncData)(ps:List Str)(ds:List Value):Prop :=
 ∀(s:Shared) (us:List Value),K.In s.heap→(us++ds).length=ps.length→BindsTo s fd ⟨us,[]⟩ (ps.zip (us++ds))
theorem Binds.all{K:W.Frag}{fd:FuncData}{ps:List Str}(h:∀us:List Value,us.length=ps.length→bindArgs fd ⟨us,[]⟩=pure (ps.zip us)):Binds K fd ps []:=fun s us _ hl=>by
 rw[List.append_nil]at hl ⊢
 exact .of_eq (h us hl)
def a0l(CX:Y5)(X:Cx)(E:XK):Prop:=∀(pins:List (Addr×Obj)) (σ:St) (H:Hp) (s:Shared) (e:Value) (s':Shared),Inv X pins σ H s→CX X.stack H s E e s'→X.xe e s'
section
variable {X:Cx}{CX:Y5}{k:Nat}{f C:Addr}{fd:FuncData}{ps:List Str}{sp:Sp}{dvs:List V}{ds:List Value}{E:XK}{x m:Str}{p pos apos:Pos}{e o:Expr}{es:List Expr}{ta:TE}{t:TA}
theorem b2Y{pins:List (Addr×Obj)}{σ:St}{H:Hp}{s:Shared}{Q:VK}{us:List Value}{vs:List V}(F:FnOk X.prog X.w X.K X.mg X.base CX k f fd ps sp)(hr:Room k X.A)(hb:Binds X.K fd ps ds)(hd:Vals dvs ds)(hx:a0l CX X E)
  (I:Inv X pins σ H s) (r:Vals vs us) (h:sp (vs++dvs) H Q E):wpAny (model X.prog X.w) X.A (call (.ref f) us) (EP X pins σ Q) X.xe s:=by
 have r2:Vals (vs++dvs) (us++ds):=r.append hd
 have hl:(us++ds).length=ps.length:=by rw[← r2.length];exact F.len _ _ _ _ h
 refine wpAny_call (codeAny_mono (F.run X.A X.stack s H ⟨us,[]⟩ (us++ds) (vs++dvs) Q E hr I.env0 (hb s us I.kIn hl) r2 h) fun r s' hq=>?_)
 cases r with
 | error e=>exact hx pins σ H s e s' I hq
 | ok fl =>
  cases fl with
  | ret u=>exact I.after hq
  | next=>exact False.elim hq
  | brk=>exact False.elim hq
  | cont=>exact False.elim hq
theorem b0T(F:FnOk X.prog X.w X.K X.mg X.base CX k f fd ps sp)(hr:Room k X.A)(hg:Gl X x)(hm:X.mg x=some (.ref f))(hk:W.keepIn X.K (.ref f)=true)(hb:Binds X.K fd ps ds)(hd:Vals dvs ds)(hx:a0l CX X E)
  (ha:PA X (e::es) t) (hdb:(x == ("__debug__" : Str))=false:=by decide) (he:starEach (e::es) X.env=(false,eval e X.env)::starEach es X.env:=by rfl) (hpl:(backTo pos (starEach es X.env)).any (·.1)=false:=by rfl) :
  PE X (.Call (.Name x p) (e::es) [] pos) (a0x sp dvs E t):=by
 intro pins s σ H Q I h
 refine wpAny_Call_Name_kw (a5W I hg hm ?_ hdb)
 refine W.callWith_K (h₀:=X.base) I.ok.mod.kin hk (i7 (ha pos pins s σ H _ I h) fun us s1 ⟨vs,H1,I1,r,q⟩=>⟨I1.kIn,?_⟩) he hpl
 exact b2Y F hr hb hd hx I1 r q
end
def PK(X:Cx)(kws:List Keyword)(t:TA):Prop :=
 ∀(pos:Pos) (pins:List (Addr×Obj)) (s:Shared) (σ:St) (H:Hp) (Q:List V→Hp→Prop),Inv X pins σ H s→t σ H Q→wpAny (model X.prog X.w) X.A (evalAll ((backToKw pos (keywordEach kws X.env)).map (·.2))) (AP X pins σ Q) X.xe s
section
variable {X:Cx}{CX:Y5}{k:Nat}{f C:Addr}{fd:FuncData}{ps ks:List Str}{sp:Sp}{E:XK}{x m:Str}{p pos apos kpos:Pos}{e o:Expr}{es:List Expr}{kws:List Keyword}{te ta:TE}{t tk:TA}{nm:Option Str}
theorem b2Z:PK X [] W1:=fun _ _ _ _ H Q I h=>wpAny_evalAll_nil ⟨[],H,I,.nil,h⟩
theorem b0U(ha:PE X e te)(hr:PK X kws t):PK X (⟨nm,e,kpos⟩ :: kws) (N5 te t):=by
 intro pos pins s σ H Q I h
 show wpAny _ _ (evalAll ((do let v ← eval e X.env;standAt pos;pure v)::(backToKw pos (keywordEach kws X.env)).map (·.2))) _ _ s
 refine wpAny_evalAll_cons (wpAny_bind (i7 (ha pins s σ H _ I h) fun u s1 ⟨x,H1,I1,r1,q1⟩=>wpAny_bind (wpAny_standAt (wpAny_pure ?_))))
 exact i7 (hr pos pins s1 σ H1 _ I1 q1) fun us s2 ⟨xs,H2,I2,r2,q2⟩=>⟨x::xs,H2,I2,.cons r1 r2,q2⟩
variable {g:List Value→List Value→List Value}{gV:List V→List V→List V}
end
structure FnScope(N P:List Str)(sc:Scope):Prop where
 kind:sc.kind=.function
 co:sc.isCoroutine=false
 gen:sc.isGenerator=false
 nd:N.Nodup
 pre:N.take P.length=P
 par:∀x∈P,sc.names.lookup x=some .local∨sc.names.lookup x=some .cell
 nofree:∀y∈sc.names,y.2≠.free
theorem a3q{kindOf:Str→Option NameKind}{x:Str}:∀{binds:List (Str×Value)} {m:Str→Option Value},(∀v,(x,v) ∉ binds)→bindL kindOf binds m x=m x
 | [],_,_=>rfl
 | (n,v)::r,m,h=>by
  unfold bindL
  rw[a3q fun w hw=>h w (List.mem_cons_of_mem _ hw)]
  split
  ·have:x≠n:=by rintro rfl;exact h v List.mem_cons_self
   simp[this]
  ·rfl
theorem a3r{kindOf:Str→Option NameKind}{x:Str}:∀{binds:List (Str×Value)} {m:Str→Option Value},(∀v,(x,v) ∉ binds)→bindC kindOf binds m x=m x
 | [],_,_=>rfl
 | (n,v)::r,m,h=>by
  unfold bindC
  rw[a3r fun w hw=>h w (List.mem_cons_of_mem _ hw)]
  split
  ·rfl
  ·have:x≠n:=by rintro rfl;exact h v List.mem_cons_self
   simp[this]
theorem a3s{kindOf:Str→Option NameKind}{x:Str}{v:Value}:∀{P:List Str} {vs:List Value} {i:Nat} {m:Str→Option Value},P.Nodup→P[i]? = some x→vs[i]? = some v→kindOf x=some .local →
  bindL kindOf (P.zip vs) m x=some v
 | [],_,_,_,_,h,_,_=>by simp at h
 | _::_,[],_,_,_,_,h,_=>by simp at h
 | p::P,w::vs,0,m,nd,h1,h2,hk=>by
  simp at h1 h2;subst h1;subst h2
  show bindL kindOf ((p,w)::P.zip vs) m p=_
  unfold bindL
  rw[a3q fun v hv=>(List.nodup_cons.mp nd).1 (List.of_mem_zip hv).1,if_pos hk]
  simp
 | p::P,w::vs,i+1,m,nd,h1,h2,hk=>by
  show bindL kindOf ((p,w)::P.zip vs) m x=_
  unfold bindL
  exact a3s (i:=i) (List.nodup_cons.mp nd).2 (by simpa using h1) (by simpa using h2) hk
theorem a3t{kindOf:Str→Option NameKind}{x:Str}{v:Value}:∀{P:List Str} {vs:List Value} {i:Nat} {m:Str→Option Value},P.Nodup→P[i]? = some x→vs[i]? = some v→kindOf x≠some .local →
  bindC kindOf (P.zip vs) m x=some v
 | [],_,_,_,_,h,_,_=>by simp at h
 | _::_,[],_,_,_,_,h,_=>by simp at h
 | p::P,w::vs,0,m,nd,h1,h2,hk=>by
  simp at h1 h2;subst h1;subst h2
  show bindC kindOf ((p,w)::P.zip vs) m p=_
  unfold bindC
  rw[a3r fun v hv=>(List.nodup_cons.mp nd).1 (List.of_mem_zip hv).1,if_neg hk]
  simp
 | p::P,w::vs,i+1,m,nd,h1,h2,hk=>by
  show bindC kindOf ((p,w)::P.zip vs) m x=_
  unfold bindC
  exact a3t (i:=i) (List.nodup_cons.mp nd).2 (by simpa using h1) (by simpa using h2) hk
def start(N:List Str)(vs:List V):St:=vs.map some++List.replicate (N.length-vs.length) none
def O9(CX:Y5)(P:Program)(w:World)(K:W.Frag)(mg:Str→Option Value)(base:Heap)(N:List Str)(qual:Str)(scope:Scope)(f:Addr)(cd:Value)(A:Around)(outer:List Env)(s:Shared)(H:Hp)(E:XK):Cx where
 prog:=P
 w:=w
 K:=K
 mg:=mg
 base:=base
 A:=A.deeper (envOfC qual scope s.heap.objs.size f cd)
 N:=N
 s₀:=s
 H₀:=H
 env:=envOfC qual scope s.heap.objs.size f cd
 outer:=outer
 stack:=envOfC qual scope s.heap.objs.size f cd::outer
 ex:=[]
 calm:=true
 fn:=fun _=>true
 pn:=[]
 xe:=fun e s'=>wpAny (model P w) (A.deeper (envOfC qual scope s.heap.objs.size f cd)) (leaving (envOfC qual scope s.heap.objs.size f cd) e) (fun _ s''=>CX outer H s E e s'') (fun e' s''=>CX outer H s E e' s'') s'
theorem a4r{sc:Scope}{n:Nat}{x:Str}(h:sc.names.lookup x=some .cell):∃c,(cellsFrom n sc.names []).lookup x=some c:=by
 have q:=W.cellsFrom_some sc.names n [] (.inl h)
 exact Option.isSome_iff_exists.mp q
theorem a7J{CX:Y5}{P:Program}{w:World}{K:W.Frag}{mg:Str→Option Value}{base:Heap}{N ps:List Str}{qual:Str}{scope:Scope}{f:Addr}{cd:Value}{A:Around}{outer:List Env}{s s1:Shared}{H:Hp}{E:XK}{us:List Value}{vs:List V}
  (S:FnScope N ps scope) (hd:A.handled=none) (e0:Env0 P w K mg base A outer s H) (hl:vs.length=ps.length) (r:Vals vs us)
  (x:InCallC s s.heap.objs.size (bindL (envOfC qual scope s.heap.objs.size f cd).kindOf (ps.zip us) fun _=>none) (cellsFrom (s.heap.objs.size+1) scope.names []) (bindC (envOfC qual scope s.heap.objs.size f cd).kindOf (ps.zip us) fun _=>none) s1) :
  Inv (O9 CX P w K mg base N qual scope f cd A outer s H E) [] (start N vs) H s1:=by
 have hpl:ps.length≤N.length:=by have:=congrArg List.length S.pre;rw[List.length_take]at this;omega
 obtain⟨h1,tk,rfl,hk⟩:=x.done
 have noA:∀b:Addr,b ∉ (O9 CX P w K mg base N qual scope f cd A outer s H E).ex:=fun b z=>absurd (show b∈([]:List Addr)from z) (by simp)
 refine⟨⟨e0.mod,S.kind,rfl,rfl,Nat.le_refl _,fun y z c h1 h2=>?_,fun y hy=>?_,fun y c _ h=>?_,fun _=>hd,Around.frames_deeper e0.frames,.inr ⟨rfl,rfl⟩,fun b z=>absurd z (noA b),e0.bs,e0.bsz,fun b _ _=>noA b,fun b z=>absurd z (noA b),e0.funs,e0.frf⟩,
  rfl,e0.bare,Un.kept hk,⟨_,x.toInCall.ns,fun i y v h1 h2 h3=>?_⟩,fun y c h=>⟨_,x.cell y c h⟩,e0.hok.fresh (Nat.le_refl _),fun y c h=>?_,fun p hp=>absurd (show p∈([]:List (Addr×Obj))from hp) (by simp),e0.hok.kept hk,?_⟩
 ·exact name_of_addr x.apart (PySem.mem_of_lookup h1) (PySem.mem_of_lookup h2)
 ·have hy:scope.names.lookup y=some .cell∨scope.names.lookup y=some .free:=hy
  rcases hy with hy | hy
  ·exact a4r hy
  ·exact absurd rfl (S.nofree _ (PySem.mem_of_lookup hy))
 ·exact Nat.le_of_lt (x.above y c (PySem.mem_of_lookup h))
 ·have hi:i<vs.length:=by
   unfold start at h2
   by_cases hi:i<vs.length
   ·exact hi
   ·rw[List.getElem?_append_right (by simpa using hi)]at h2
    rw[List.getElem?_replicate]at h2
    split at h2<;>cases h2
  have ha:vs[i]? = some v:=by
   unfold start at h2
   rw[List.getElem?_append_left (by simpa using hi),List.getElem?_map]at h2
   cases e:vs[i]? with
   | none=>rw[e]at h2;cases h2
   | some a=>rw[e]at h2;cases h2;rfl
  obtain⟨u,hu,rv⟩:=r.get ha
  have hp:ps[i]? = some y:=by
   rw[← S.pre,List.getElem?_take_of_lt (by omega)];exact h1
  have ndP:ps.Nodup:=by rw[← S.pre];exact S.nd.sublist (List.take_sublist _ _)
  refine⟨u,rv,?_⟩
  rcases S.par y (List.mem_of_getElem? hp)with k | k
  ·exact .inl ⟨k,a3s ndP hp hu k⟩
  ·obtain⟨c,e⟩:=a4r (n:=s.heap.objs.size+1) k
   refine .inr ⟨.inl k,c,e,?_⟩
   have q:=x.cell y c e
   rw[a3t ndP hp hu (by show scope.names.lookup y≠_;rw[k];decide)]at q
   exact q
 ·exact e0.hok.fresh (Nat.le_of_lt (x.above y c (PySem.mem_of_lookup h)))
 ·unfold start
  show _=N.length
  rw[List.length_append,List.length_map,List.length_replicate]
  omega
theorem a2k{CX:Y5}{P:Program}{w:World}{K:W.Frag}{mg:Str→Option Value}{base:Heap}{k:Nat}{f:Addr}{name qual:Str}{params:Arguments}{body:List Stmt}{scope:Scope}{dV kV doc pm cdv ct oc:Value}{an od:Option Addr}
  {osl:Array (Option Value)} {N ps:List Str} {sp:Sp} (lk:K.lookup f=some ⟨oc,od,.func (W.fnOf name qual params body scope dV kV doc pm an cdv ct),osl⟩) (hcd:W.codeIn K cdv qual=true) (S:FnScope N ps scope)
  (len:∀vs H Q E,sp vs H Q E→vs.length=ps.length)
  (hbody:∀(A:Around) (outer:List Env) (s:Shared) (H:Hp) (vs:List V) (Q:VK) (E:XK),Room k (A.deeper (envOfC qual scope s.heap.objs.size f cdv))→sp vs H Q E →
   ∃t,PSs (O9 CX P w K mg base N qual scope f cdv A outer s H E) body t∧t { nx:=fun _ H'=>Q .non H',rt:=Q } (start N vs) H) :
  FnOk P w K mg base CX (k+1) f (W.fnOf name qual params body scope dV kV doc pm an cdv ct) ps sp:=by
 refine⟨len,fun A outer s H args us vs Q E hr e0 hb r hsp=>?_⟩
 have hl:=len _ _ _ _ hsp
 have KX:K.In s.heap:=e0.mod.kin.keeps fun b o e=>(e0.bs b o e).1
 have lim:s.heap.NoLimit:=e0.mod.nolimit.keeps fun b o e=>(e0.bs b o e).1
 have hkind:∀y∈ps.zip us,scope.names.lookup y.1=some .local∨(scope.names.lookup y.1=some .cell∧((cellsFrom (s.heap.objs.size+1) scope.names []).lookup y.1).isSome=true):=fun⟨n,v⟩ hy=>by
  rcases S.par n (List.of_mem_zip hy).1 with q | q
  ·exact .inl q
  ·exact .inr ⟨q,W.cellsFrom_some _ _ _ (.inl q)⟩
 refine codeAny_call_function hr.depth (KX _ _ lk) rfl S.co S.gen rfl (W.codeRec_of KX hcd) (hb _ _ _ _ ?_)
 refine wpAny_newFunctionEnv_cells S.kind hkind fun env he s1 x=>?_
 subst he
 refine⟨lim.keeps x.toInCall.keep,codeAny_func ?_⟩
 obtain⟨t,ht,hq⟩:=hbody A outer s H vs Q E (hr.deeper _) hsp
 have I:Inv (O9 CX P w K mg base N qual scope f cdv A outer s H E) [] (start N vs) H s1:=a7J S hr.hd e0 hl r x
 refine wpAny_mono (ht [] s1 (start N vs) H _ I hq) (fun fl s' hs=>?_) fun e s' hs=>hs
 have fin:∀{σ':St} {H':Hp} {v:V} {u:Value},Inv (O9 CX P w K mg base N qual scope f cdv A outer s H E) [] σ' H' s'→RelV v u→Q v H'→CE outer P w H s Q u s' :=
  fun{σ' H' v u} J rv q=>⟨v,H',J.os,J.bare,J.base,J.hok,rv,q⟩
 cases fl with
 | ret u =>
  obtain⟨v,σ',H',J,rv,q⟩:=hs
  exact fin J rv q
 | next =>
  obtain⟨σ',H',J,q⟩:=hs
  exact fin (v:=V.non) (u:=Value.none) J rfl q
 | brk =>
  obtain⟨_,_,_,q⟩:=hs
  exact False.elim q
 | cont =>
  obtain⟨_,_,_,q⟩:=hs
  exact False.elim q
section
variable {X:Cx}{x:Str}{p pos:Pos}{e:Expr}{es:List Expr}{t:TA}{id T:String}{r:List V→Hp→VK→Prop}
def tCB(r:List V→Hp→VK→Prop)(t:TA):TE:=fun σ H Q=>t σ H fun vs H1=>r vs H1 Q
theorem i9(hc:J0 X (.builtin id) r)(hg:Gl X x)(hm:X.mg x=none)(hv:bootBuiltins x=some (.builtin id))(ha:PA X (e::es) t)(hn:x≠"__name__" := by decide)(hdb:(x == ("__debug__" : Str))=false:=by decide)
  (he:starEach (e::es) X.env=(false,eval e X.env)::starEach es X.env:=by rfl) (hpl:(backTo pos (starEach es X.env)).any (·.1)=false:=by rfl):PE X (.Call (.Name x p) (e::es) [] pos) (tCB r t):=by
 intro pins s σ H Q I h
 refine wpAny_Call_Name_kw (M5 I hg hm hv ?_ hn hdb)
 exact PyProof.Rows.callWith_builtin1 (i7 (ha pos pins s σ H _ I h) fun us s1 ⟨vs,H1,I1,r1,q1⟩=>hc pins s1 σ H1 vs us Q I1 r1 q1) he hpl
theorem Y6(hc:J0 X (.type T) r)(hg:Gl X x)(hm:X.mg x=none)(hv:bootBuiltins x=some (.type T))(ha:PA X (e::es) t)(hn:x≠"__name__" := by decide)(hdb:(x == ("__debug__" : Str))=false:=by decide)
  (he:starEach (e::es) X.env=(false,eval e X.env)::starEach es X.env:=by rfl) (hpl:(backTo pos (starEach es X.env)).any (·.1)=false:=by rfl):PE X (.Call (.Name x p) (e::es) [] pos) (tCB r t):=by
 intro pins s σ H Q I h
 refine wpAny_Call_Name_kw (M5 I hg hm hv ?_ hn hdb)
 exact PyProof.Rows.callWith_type1 (i7 (ha pos pins s σ H _ I h) fun us s1 ⟨vs,H1,I1,r1,q1⟩=>hc pins s1 σ H1 vs us Q I1 r1 q1) he hpl
end
end L2
namespace HT
open PySem PyProof.Rows
def lexLt:List Int→List Int→Bool
 | [],[]=>false
 | [],_::_=>true
 | _::_,[]=>false
 | x::xs,y::ys=>if x=y then lexLt xs ys else decide (x<y)
theorem lexLt_cons(x y:Int)(xs ys:List Int):lexLt (x::xs) (y::ys)=if x=y then lexLt xs ys else decide (x<y):=rfl
section
variable {prog:Program}{w:World}{A:Around}{E:Value→Shared→Prop}{s:Shared}
def sIx(n d:Nat):Option Int→Nat
 | none=>d
 | some v=>if v<0 then(v+(n:Int)).toNat else min v.toNat n
theorem sIx_nat(n d k:Nat):sIx n d (some (k:Int))=min k n:=by
 show(if(k:Int)<0 then((k:Int)+(n:Int)).toNat else min (k:Int).toNat n)=min k n
 rw[if_neg (by omega),Int.toNat_natCast]
end
end HT
namespace L2
open PySem PySem.Spec PyProof.Rows
abbrev TO:=St→Hp→(Option Int→Hp→Prop)→Prop
def PO(X:Cx)(e:Option Expr)(t:TO):Prop :=
 ∀(pins:List (Addr×Obj)) (s:Shared) (σ:St) (H:Hp) (Q:Option Int→Hp→Prop),Inv X pins σ H s→t σ H Q →
  wpAny (model X.prog X.w) X.A (evalPart e X.env) (fun u s'=>∃o H',Inv X pins σ H' s'∧IsPart u o∧Q o H') X.xe s
def a50:TO:=fun _ H Q=>Q none H
def b0l(t:TE):TO:=fun σ H Q=>t σ H fun x H1=>∃i,x=.int i∧Q (some i) H1
section
variable {X:Cx}{e:Expr}{te:TE}{lo hi:Option Expr}{tl th:TO}{pos p2:Pos}
theorem b0V:PO X none a50:=by
 intro pins s σ H Q I h
 rw[evalPart_none]
 exact wpAny_pure ⟨none,H,I,.none,h⟩
theorem a2X(h:PE X e te):PO X (some e) (b0l te):=by
 intro pins s σ H Q I hw
 rw[evalPart_some]
 refine i7 (h pins s σ H _ I hw) fun u s1 ⟨x,H1,I1,r1,q1⟩=>?_
 obtain⟨i,rfl,q⟩:=q1
 obtain⟨t,rfl⟩:=r1
 exact⟨some i,H1,I1,.int i t,q⟩
def SlR(X:Cx)(r:V→Option Int→Option Int→Hp→VK→Prop):Prop :=
 ∀(pins:List (Addr×Obj)) (s:Shared) (σ:St) (H:Hp) (x:V) (v vl vu:Value) (lo hi:Option Int) (sl:Addr) (Q:VK),Inv X pins σ H s→RelV x v→s.heap.IsSliceOf sl vl vu .none→IsPart vl lo→IsPart vu hi→r x lo hi H Q →
  ∃T id,typeLookup (.type T) "__getitem__" = pure (some (.builtin id))∧s.TypeIs v T∧wpAny (model X.prog X.w) X.A (getItem v (.ref sl)) (EP X pins σ Q) X.xe s
def tSl(r:V→Option Int→Option Int→Hp→VK→Prop)(te:TE)(tl th:TO):TE:=fun σ H Q=>te σ H fun x H1=>tl σ H1 fun l H2=>th σ H2 fun u H3=>r x l u H3 Q
theorem a4s{r:V→Option Int→Option Int→Hp→VK→Prop}(hr:SlR X r)(he:PE X e te)(hl:PO X lo tl)(hu:PO X hi th):PE X (.Subscript e (.Slice lo hi none p2) pos) (tSl r te tl th):=by
 intro pins s σ H Q I h
 refine Subscript_ (i7 (he pins s σ H _ I h) fun v s1 ⟨x,H1,I1,r1,q1⟩=>?_)
 refine wpAny_Slice (i7 (hl pins s1 σ H1 _ I1 q1) fun vl s2 ⟨l,H2,I2,pl,q2⟩=>i7 (hu pins s2 σ H2 _ I2 q2) fun vu s3 ⟨u,H3,I3,pu,q3⟩=>?_)
 rw[evalPart_none]
 refine wpAny_pure ?_
 have I4:Inv X pins σ H3 { s3 with heap:=s3.heap.push { cls:=.type "slice",data:=.fields #[vl,vu,.none] } }:=I3.kept (t':=s3.toks) fun b ob q=>Heap.get?_push_of_some _ q
 obtain⟨T,id,hT,ht,hg⟩:=hr pins { s3 with heap:=s3.heap.push { cls:=.type "slice",data:=.fields #[vl,vu,.none] } } σ H3 x v vl vu l u s3.heap.objs.size Q I4 r1 (Heap.IsSliceOf.new ..) pl pu q3
 show wpAny (model X.prog X.w) X.A (subscriptTail e (.Slice lo hi none p2) v (.ref s3.heap.objs.size)) (EP X pins σ Q) X.xe { s3 with heap:=s3.heap.push { cls:=.type "slice",data:=.fields #[vl,vu,.none] } }
 exact tail_any (ops:=[.ref s3.heap.objs.size,v]) ht hT hg (by with_unfolding_all rfl)
def a2Y(xs:List V)(lo hi:Option Int):List V:=(xs.drop (HT.sIx xs.length 0 lo)).take (HT.sIx xs.length xs.length hi-HT.sIx xs.length 0 lo)
theorem a5w(xs:List V)(lo hi:Option Int):(a2Y xs lo hi).length≤xs.length:=by
 unfold a2Y
 rw[List.length_take,List.length_drop]
 omega
end
def Q6(n:Nat)(i:Int):Option Nat:=if 0≤i then(if i<n then some i.toNat else none)else if -(n:Int)≤i then some (i+n).toNat else none
def atI{α:Type}(xs:List α)(i:Int):Option α:=(Q6 xs.length i).bind fun j=>xs[j]?
theorem a51{n:Nat}{i:Int}{j:Nat}(h:Q6 n i=some j):seqIndex? i n=some j∧j<n∧-(n:Int)≤i∧i<n:=by
 unfold Q6 at h
 by_cases h0:0≤i
 ·rw[if_pos h0]at h
  by_cases h1:i<n
  ·rw[if_pos h1]at h
   have e:i.toNat=j:=Option.some.inj h
   exact⟨by rw[seqIndex_of h0 h1,e],by omega,by omega,h1⟩
  ·rw[if_neg h1]at h;cases h
 ·rw[if_neg h0]at h
  by_cases h1 : -(n:Int)≤i
  ·rw[if_pos h1]at h
   have e:(i+n).toNat=j:=Option.some.inj h
   exact⟨by rw[seqIndex_neg (by omega) h1,e],by omega,h1,by omega⟩
  ·rw[if_neg h1]at h;cases h
theorem a52{α:Type}{xs:List α}{i:Int}{v:α}(h:atI xs i=some v):∃j,seqIndex? i xs.length=some j∧xs[j]? = some v∧j<xs.length∧-(xs.length:Int)≤i∧i<xs.length:=by
 unfold atI at h
 cases e:Q6 xs.length i with
 | none=>rw[e]at h;cases h
 | some j =>
  rw[e]at h
  obtain⟨h1,h2,h3,h4⟩:=a51 e
  exact⟨j,h1,h,h2,h3,h4⟩
theorem a8U{α:Type}(xs:List α)(v:α):atI (xs++[v]) (-1)=some v:=by
 have hl:(xs++[v]).length=xs.length+1:=by simp
 have e:Q6 (xs++[v]).length (-1)=some xs.length:=by
  unfold Q6
  rw[hl,if_neg (by decide),if_pos (by omega)]
  congr 1
  omega
 unfold atI
 rw[e]
 show(xs++[v])[xs.length]? = some v
 simp
def b0W(b:Expr):Prop:=∀o i,subscripted b false o i=operate [o,i] (getItem o i)
def IxR(X:Cx)(r:R2):Prop :=
 ∀(value slice:Expr) (pins:List (Addr×Obj)) (s:Shared) (σ:St) (H:Hp) (x y:V) (v u:Value) (Q:VK),Inv X pins σ H s→RelV x v→RelV y u→r x y H Q →
  subscripted slice false v u=operate [v,u] (getItem v u)→wpAny (model X.prog X.w) X.A (subscriptTail value slice v u) (EP X pins σ Q) X.xe s
def MtR(X:Cx)(id:String)(r:V→List V→Hp→VK→Prop):Prop :=
 ∀(pins:List (Addr×Obj)) (s:Shared) (σ:St) (H:Hp) (x:V) (xs:List V) (v:Value) (us:List Value) (Q:VK),Inv X pins σ H s→RelV x v→Vals xs us→r x xs H Q →
  wpAny (model X.prog X.w) X.A (call (.builtin id) (v::us)) (EP X pins σ Q) X.xe s
section
variable {X:Cx}{a b:Expr}{ta tb:TE}{pos:Pos}
theorem j5{r:R2}(hr:IxR X r)(ha:PE X a ta)(hb:PE X b tb)(hs:b0W b):PE X (.Subscript a b pos) (tOp r ta tb):=by
 intro pins s σ H Q I h
 exact Subscript_ (a8T ha hb I h fun v u s2 x y H2 I2 rx ry q=>hr a b pins s2 σ H2 x y v u Q I2 rx ry q (hs _ _))
def a8V(K:W.Frag):R2:=fun x y H Q=>∃p xs i v,x=.ref p∧y=.int i∧SqL K H p xs∧atI xs i=some v∧Q v H
def a8W(K:W.Frag):R2:=fun x y H Q=>∃p xs i v,x=.ref p∧y=.int i∧SqT K H p xs∧atI xs i=some v∧Q v H
theorem b0X:IxR X (a8V X.K):=by
 intro value slice pins s σ H x y v u Q I rx ry h hs
 obtain⟨p,xs,i,z,rfl,rfl,hq,he,q⟩:=h
 cases rx
 obtain⟨t,rfl⟩:=ry
 obtain⟨its,r,pl,hz⟩:=I.list hq
 obtain⟨j,h1,h2,h3,h4,h5⟩:=a52 he
 obtain⟨w,ew,rw'⟩:=r.get h2
 have hl:=r.length
 have hn:=a2j
 have fin:EP X pins σ Q w s:=⟨z,H,I,rw',q⟩
 by_cases h0:0≤i
 ·have hj:i.toNat=j:=by
   rw[seqIndex_of h0 h5]at h1
   exact Option.some.inj h1
  exact item_listR pl.isList h0 (by omega) (by rw[hj];simpa using ew) fin hs
 ·have hj:(i+(its.toArray.size:Int)).toNat=j:=by
   rw[seqIndex_neg (by omega) h4]at h1
   rw[List.size_toArray,← hl]
   exact Option.some.inj h1
  exact subscriptTail_builtinR (x:=w) pl.isList.typeIs slot_list_getitem.lookup
   (wpAny_getItem_list_neg (Q:=fun r s'=>r=w∧EP X pins σ Q r s') pl.isList (by omega) (by rw[List.size_toArray]<;>omega) (by omega) (by rw[hj];simpa using ew) ⟨rfl,fin⟩) hs
theorem b21:IxR X (a8W X.K):=by
 intro value slice pins s σ H x y v u Q I rx ry h hs
 obtain⟨p,xs,i,z,rfl,rfl,hq,he,q⟩:=h
 cases rx
 obtain⟨t,rfl⟩:=ry
 obtain⟨its,r,pl,hz⟩:=I.tuple hq
 obtain⟨j,h1,h2,h3,h4,h5⟩:=a52 he
 obtain⟨w,ew,rw'⟩:=r.get h2
 have hl:=r.length
 have hn:=a2j
 have fin:EP X pins σ Q w s:=⟨z,H,I,rw',q⟩
 exact subscriptTail_builtinR (x:=w) pl.typeIs slot_tuple_getitem.lookup
  (getItem_tuple (j:=j) (Q:=fun r s'=>r=w∧EP X pins σ Q r s') pl (by omega) (by omega) (by rw[List.size_toArray,← hl];exact h1) (by simpa using ew) ⟨rfl,fin⟩) hs
theorem a6M(its:List Value)(n j:Nat)(u:Value):Obj.mapSeq (·.setIfInBounds j u) { cls:=.type "list",data:=.seq its.toArray n }={ cls:=.type "list",data:=.seq (its.set j u).toArray n }:=by
 simp[Obj.mapSeq]
theorem Inv.lst{pins:List (Addr×Obj)}{σ:St}{H:Hp}{s:Shared}{p:Addr}{xs:List V}(I:Inv X pins σ H s)(h:H p=some (.lst xs)) :
  ∃(its:List Value) (n:Nat),Vals xs its∧s.heap.get? p=some { cls:=.type "list",data:=.seq its.toArray n }∧xs.length≤sizeLine:=by
 obtain⟨z,its,n,r,e⟩:=I.hok p _ h
 exact⟨its,n,r,e,z⟩
theorem Inv.lstUpd{pins:List (Addr×Obj)}{σ:St}{H:Hp}{s:Shared}{p:Addr}{xs ys:List V}{its its':List Value}{n n':Nat}{f:Obj→Obj}(I:Inv X pins σ H s)(h:H p=some (.lst xs))
  (ho:s.heap.get? p=some { cls:=.type "list",data:=.seq its.toArray n }) (hf:f { cls:=.type "list",data:=.seq its.toArray n }={ cls:=.type "list",data:=.seq its'.toArray n' }) (r:Vals ys its') (hz:ys.length≤sizeLine) (t:Nat) :
  Inv X pins σ (upd H p (.lst ys)) { s with heap:=s.heap.update p f,toks:=t }:=by
 have e:(s.heap.update p f).get? p=some { cls:=.type "list",data:=.seq its'.toArray n' }:=by
  rw[Heap.get?_update_self f ho (by rw[hf]<;>rfl),hf]
 refine I.write (x:=p) (e:=p) (by rw[h];trivial) (.inl rfl) (fun b u hb q=>(Heap.get?_update_other _ _ (Ne.symm hb)).trans q) ⟨_,e⟩ ?_
 exact⟨hz,its',n',r,e⟩
def b0m:V→V→V→Hp→(Hp→Prop)→Prop:=fun o i v H Q=>∃p xs k j,o=.ref p∧i=.int k∧H p=some (.lst xs)∧Q6 xs.length k=some j∧Q (upd H p (.lst (xs.set j v)))
theorem a8X:b2N X b0m:=by
 intro pins s σ H o i v ov iv u Q I ro ri rv h
 obtain⟨p,xs,k,j,rfl,rfl,hp,hj,q⟩:=h
 cases ro
 obtain⟨t,rfl⟩:=ri
 obtain⟨its,n,r,ho,hz⟩:=I.lst hp
 obtain⟨h1,h2,h3,h4⟩:=a51 hj
 have hl:=r.length
 have hn:=a2j
 have I':Inv X pins σ (upd H p (.lst (xs.set j v))) { s with heap:=s.heap.update p (Obj.mapSeq (·.setIfInBounds j u)) } :=
  I.lstUpd hp ho (a6M its n j u) (r.set rv j) (by rw[List.length_set];exact hz) s.toks
 by_cases h0:0≤k
 ·have hk:k.toNat=j:=by
   rw[seqIndex_of h0 h4]at h1
   exact Option.some.inj h1
  exact W.ki_setAt ho h0 (by omega) (by rw[List.size_toArray,← hl];exact h4) (by rw[hk];exact⟨_,I',q⟩)
 ·have hk:(k+(its.toArray.size:Int)).toNat=j:=by
   rw[seqIndex_neg (by omega) h3]at h1
   rw[List.size_toArray,← hl]
   exact Option.some.inj h1
  exact W.ki_setBack ho (by omega) (by rw[List.size_toArray,← hl];exact h3) (by omega) (by rw[hk];exact⟨_,I',q⟩)
theorem a4t(lo hi:Option Int)(n:Nat):(sliceBounds lo hi none n).1=((HT.sIx n 0 lo:Nat):Int)∧(sliceBounds lo hi none n).2.1=((HT.sIx n n hi:Nat):Int)∧(sliceBounds lo hi none n).2.2=1:=by
 refine⟨?_,?_,rfl⟩
 ·cases lo with
  | none=>simp[sliceBounds,HT.sIx]
  | some i =>
   simp only[sliceBounds,HT.sIx,Option.getD_none,show(1:Int) > 0 by decide,if_true]
   by_cases h:i<0
   ·simp only[h,if_true]<;>omega
   ·simp only[h,if_false]<;>omega
 ·cases hi with
  | none=>simp[sliceBounds,HT.sIx]
  | some i =>
   simp only[sliceBounds,HT.sIx,Option.getD_none,show(1:Int) > 0 by decide,if_true]
   by_cases h:i<0
   ·simp only[h,if_true]<;>omega
   ·simp only[h,if_false]<;>omega
theorem a3Y(its:List Value)(lo hi:Option Int):slicePick its.toArray lo hi none=((its.drop (HT.sIx its.length 0 lo)).take (HT.sIx its.length its.length hi-HT.sIx its.length 0 lo)).toArray:=by
 obtain⟨h1,h2,h3⟩:=a4t lo hi its.toArray.size
 unfold slicePick
 rw[h1,h2,h3]
 simp only[sliceRange_one,pick_run,List.size_toArray]<;>rfl
def a8Y(K:W.Frag):V→Option Int→Option Int→Hp→VK→Prop:=fun x lo hi H Q=>∃a xs,x=.ref a∧SqL K H a xs∧∀p,H p=none→Q (.ref p) (upd H p (.lst (a2Y xs lo hi)))
theorem b0Y:SlR X (a8Y X.K):=by
 intro pins s σ H x v vl vu lo hi sl Q I rx hs pl pu h
 obtain⟨a,xs,rfl,hx,q⟩:=h
 cases rx
 obtain⟨its,r,ht,hz⟩:=I.list hx
 have hlen:=r.length
 refine⟨"list",_,slot_list_getitem.lookup,ht.isList.typeIs,?_⟩
 refine wpAny_getItem_list_slice ht.isList hs pl pu .none (by simp) ?_ (by rw[List.size_toArray]<;>omega)
 rw[a3Y,← hlen]
 refine⟨.ref s.heap.objs.size,_,I.laid (t':=s.toks) (o:=.lst (a2Y xs lo hi)) (fun b ob q=>Heap.get?_push_of_some _ q) (Nat.le_refl _) ?_,rfl,q _ (I.hok.fresh (Nat.le_refl _))⟩
 exact⟨Nat.le_trans (a5w xs lo hi) hz,_,0,(r.drop (HT.sIx xs.length 0 lo)).take (HT.sIx xs.length xs.length hi-HT.sIx xs.length 0 lo),Heap.get?_push_size _ rfl⟩
def R9:V→Bool
 | .non=>true
 | .bl _=>true
 | .int _=>true
 | .str _=>true
 | _=>false
def eqV:V→V→Bool
 | .non,.non=>true
 | .bl a,.bl b=>a == b
 | .bl a,.int b=>(if a then 1 else 0) == b
 | .int a,.bl b=>a == (if b then 1 else 0)
 | .int a,.int b=>a == b
 | .str a,.str b=>a == b
 | _,_=>false
theorem a7L{A:Around}{s:Shared}{y x:V}{u v:Value}(ry:RelV y u)(rx:RelV x v)(fy:R9 y=true)(fx:R9 x=true):SeqAt.EqAt A s u v (eqV y x):=by
 cases y with
 | non =>
  cases ry
  cases x with
  | non=>cases rx;exact SeqAt.EqAt.same _
  | bl b=>cases rx;exact SeqAt.EqAt.none_bool b
  | int b=>obtain⟨t,rfl⟩:=rx;exact SeqAt.EqAt.none_int b t
  | str b=>obtain⟨t,rfl⟩:=rx;exact SeqAt.EqAt.none_str b t
  | _=>exact absurd (show false=true from fx) Bool.false_ne_true
 | bl a =>
  cases ry
  cases x with
  | non=>cases rx;exact SeqAt.EqAt.bool_none a
  | bl b=>cases rx;exact SeqAt.EqAt.bool_bool a b
  | int b=>obtain⟨t,rfl⟩:=rx;exact SeqAt.EqAt.bool_int a b t
  | str b=>obtain⟨t,rfl⟩:=rx;exact SeqAt.EqAt.bool_str a b t
  | _=>exact absurd (show false=true from fx) Bool.false_ne_true
 | int a =>
  obtain⟨t',rfl⟩:=ry
  cases x with
  | non=>cases rx;exact SeqAt.EqAt.int_none a t'
  | bl b=>cases rx;exact SeqAt.EqAt.int_bool a t' b
  | int b=>obtain⟨t,rfl⟩:=rx;exact SeqAt.EqAt.int_int a t' b t
  | str b=>obtain⟨t,rfl⟩:=rx;exact SeqAt.EqAt.int_str a t' b t
  | _=>exact absurd (show false=true from fx) Bool.false_ne_true
 | str a =>
  obtain⟨t',rfl⟩:=ry
  cases x with
  | non=>cases rx;exact SeqAt.EqAt.str_none a t'
  | bl b=>cases rx;exact SeqAt.EqAt.str_bool a t' b
  | int b=>obtain⟨t,rfl⟩:=rx;exact SeqAt.EqAt.str_int a t' b t
  | str b=>obtain⟨t,rfl⟩:=rx;exact SeqAt.EqAt.str_str a t' b t
  | _=>exact absurd (show false=true from fx) Bool.false_ne_true
 | _=>exact absurd (show false=true from fy) Bool.false_ne_true
def W2(x:V)(u:Value):Bool:=match u with
 | .none=>eqV .non x
 | .bool b=>eqV (.bl b) x
 | .int i _=>eqV (.int i) x
 | .str z _=>eqV (.str z) x
 | _=>false
theorem a7M{x y:V}{u:Value}(r:RelV y u)(f:R9 y=true):W2 x u=eqV y x:=by
 cases y with
 | non=>cases r;rfl
 | bl b=>cases r;rfl
 | int i=>obtain⟨t,rfl⟩:=r;rfl
 | str z=>obtain⟨t,rfl⟩:=r;rfl
 | _=>exact absurd (show false=true from f) Bool.false_ne_true
theorem a0m{x:V}:∀{xs:List V} {us:List Value},Vals xs us→xs.all R9=true→us.any (W2 x)=xs.any fun y=>eqV y x
 | _,_,.nil,_=>rfl
 | y::xs,u::us,.cons r t,f=>by
  rw[List.all_cons,Bool.and_eq_true]at f
  rw[List.any_cons,List.any_cons,a7M r f.1,a0m t f.2]
theorem W3{A:Around}{s:Shared}{x:V}{v:Value}(rx:RelV x v)(fx:R9 x=true):∀{xs:List V} {us:List Value},Vals xs us→xs.all R9=true→∀u∈us,SeqAt.EqAt A s u v (W2 x u)
 | _,_,.nil,_=>fun u hu=>by cases hu
 | y::xs,u::us,.cons r t,f=>fun u' hu=>by
  rw[List.all_cons,Bool.and_eq_true]at f
  rcases List.mem_cons.mp hu with rfl | hu
  ·rw[a7M r f.1];exact a7L r rx f.1 fx
  ·exact W3 rx fx t f.2 u' hu
def inV(x:V)(xs:List V):Bool:=xs.any fun y=>eqV y x
def rIn(K:W.Frag)(neg:Bool):R2:=fun x y H Q=>∃p xs,y=.ref p∧(SqL K H p xs∨SqT K H p xs)∧R9 x=true∧xs.all R9=true∧Q (.bl (if neg then !inV x xs else inV x xs)) H
theorem a7O:M1 X (compareOp .In) (rIn X.K false):=by
 intro pins s σ H x y v u Q I rx ry h
 obtain⟨p,xs,rfl,hq,fx,fs,q⟩:=h
 cases ry
 rcases hq with hq | hq
 ·obtain⟨its,r,pl,hz⟩:=I.list hq
  refine SeqAt.in_listAt (W2 x) pl.isList (fun w hw=>W3 rx fx r fs w (by simpa using hw)) ⟨.bl _,H,I,rfl,?_⟩
  rw[show its.toArray.any (W2 x)=its.any (W2 x) by simp,a0m r fs]
  exact q
 ·obtain⟨its,r,pl,hz⟩:=I.tuple hq
  refine SeqAt.in_tupleAt (W2 x) pl (fun w hw=>W3 rx fx r fs w (by simpa using hw)) ⟨.bl _,H,I,rfl,?_⟩
  rw[show its.toArray.any (W2 x)=its.any (W2 x) by simp,a0m r fs]
  exact q
theorem a4u:M1 X (compareOp .NotIn) (rIn X.K true):=by
 intro pins s σ H x y v u Q I rx ry h
 obtain⟨p,xs,rfl,hq,fx,fs,q⟩:=h
 cases ry
 rcases hq with hq | hq
 ·obtain⟨its,r,pl,hz⟩:=I.list hq
  refine SeqAt.notIn_listAt (W2 x) pl.isList (fun w hw=>W3 rx fx r fs w (by simpa using hw)) ⟨.bl _,H,I,rfl,?_⟩
  rw[show its.toArray.any (W2 x)=its.any (W2 x) by simp,a0m r fs]
  exact q
 ·obtain⟨its,r,pl,hz⟩:=I.tuple hq
  refine SeqAt.notIn_tupleAt (W2 x) pl (fun w hw=>W3 rx fx r fs w (by simpa using hw)) ⟨.bl _,H,I,rfl,?_⟩
  rw[show its.toArray.any (W2 x)=its.any (W2 x) by simp,a0m r fs]
  exact q
theorem a4v:J0 X (.builtin "len") (fun xs H Q=>∃p ys,xs=[.ref p]∧(SqL X.K H p ys∨SqT X.K H p ys)∧Q (.int ys.length) H):=by
 intro pins s σ H xs us Q I r h
 obtain⟨p,ys,rfl,hq,q⟩:=h
 obtain⟨u,rfl,rx⟩:=b0k r
 cases rx
 have hn:=a2j
 rcases hq with hq | hq
 ·obtain⟨its,r',pl,hz⟩:=I.list hq
  have hlen:=r'.length
  exact Calls.call_len_list pl.isList (by simp only[List.size_toArray]<;>omega) ⟨.int ys.length,H,I.tok _,⟨s.toks+1,by rw[List.size_toArray,hlen]⟩,q⟩
 ·obtain⟨its,r',pl,hz⟩:=I.tuple hq
  have hlen:=r'.length
  exact len_tuple pl (by simp only[List.size_toArray]<;>omega) ⟨.int ys.length,H,I.tok _,⟨s.toks+1,by rw[List.size_toArray,hlen]⟩,q⟩
theorem a4w:J0 X (.type "list") (fun xs H Q=>∃p ys,xs=[.ref p]∧(SqL X.K H p ys∨SqT X.K H p ys)∧∀l,H l=none→Q (.ref l) (upd H l (.lst ys))):=by
 intro pins s σ H xs us Q I r h
 obtain⟨p,ys,rfl,hq,q⟩:=h
 obtain⟨u,rfl,rx⟩:=b0k r
 cases rx
 have fin:∀(its:List Value),Vals ys its→ys.length≤sizeLine→∀(h':Heap) (c':Nat),(∀b o',s.heap.get? b=some o'→h'.get? b=some o') →
   h'.get? s.heap.objs.size=some { cls:=.type "list",dict:=none,data:=.seq its.toArray c',slots := #[] }→EP X pins σ Q (.ref s.heap.objs.size) { s with heap:=h' }:=fun its r' hz h' c' kp e =>
  ⟨.ref s.heap.objs.size,_,I.laid (t':=s.toks) kp (Nat.le_refl _) (show ObjOk X.prog X.w _ h' _ (.lst ys)from⟨hz,its,c',r',e⟩),rfl,q _ (I.hok.fresh (Nat.le_refl _))⟩
 rcases hq with hq | hq
 ·obtain⟨its,r',pl,hz⟩:=I.list hq
  have hlen:=r'.length
  obtain⟨o,ho,hc,n,hd⟩:=pl.isList
  exact call_list_seq p (.inl rfl) ho hc hd (fun h' c' kp e=>fin its r' hz h' c' kp e) (by simp only[List.size_toArray]<;>omega)
 ·obtain⟨its,r',pl,hz⟩:=I.tuple hq
  have hlen:=r'.length
  obtain⟨o,ho,hc,n,hd⟩:=pl
  exact call_list_seq p (.inr rfl) ho hc hd (fun h' c' kp e=>fin its r' hz h' c' kp e) (by simp only[List.size_toArray]<;>omega)
def tyV(K:W.Frag)(T:String)(x:V)(H:Hp):Prop:=match x with
 | .str _=>T = "str"
 | .int _=>T = "int"
 | .ref p=>(T = "list"∧∃xs,SqL K H p xs)∨(T = "tuple"∧∃o,K.lookup p=some o∧o.cls=.type "tuple"∧o.dict=none) ∨
   (T = "dict"∧((∃kvs,H p=some (.dK kvs))∨∃kvs,H p=some (.dT kvs)))∨(T = "set"∧∃S n,H p=some (.set S n))
 | _=>False
theorem b23{pins:List (Addr×Obj)}{σ:St}{H:Hp}{s:Shared}{T:String}{x:V}{v:Value}(I:Inv X pins σ H s)(r:RelV x v)(ty:tyV X.K T x H) :
  s.TypeIs v T∧∀a,v=.ref a→∃ob,s.heap.get? a=some ob∧ob.dict=none:=by
 cases x with
 | str z =>
  obtain⟨t,rfl⟩:=r
  cases (show T = "str" from ty)
  exact⟨typeIs_str s z t,fun _ e=>nomatch e⟩
 | int i =>
  obtain⟨t,rfl⟩:=r
  cases (show T = "int" from ty)
  exact⟨typeIs_int s i t,fun _ e=>nomatch e⟩
 | ref p =>
  cases r
  rcases ty with⟨rfl,xs,hq⟩ | ⟨rfl,o,hk,hc,hd⟩ | ⟨rfl,hk⟩ | ⟨rfl,S,n,hk⟩
  ·obtain⟨its,_,pl,_⟩:=I.list hq
   refine⟨pl.isList.typeIs,fun a e=>?_⟩
   cases e
   obtain⟨o,n,e,c,hd,_⟩:=pl
   exact⟨o,e,hd⟩
  ·refine⟨⟨o,I.kIn p o hk,hc⟩,fun a e=>?_⟩
   cases e
   exact⟨o,I.kIn _ o hk,hd⟩
  ·have z:∃o,s.heap.get? p=some o∧o.ExactDict:=by
    rcases hk with⟨kvs,hk⟩ | ⟨kvs,hk⟩
    ·obtain⟨_,_,_,_,o,_,_,e,ex,_⟩:=I.hok p _ hk
     exact⟨o,e,ex⟩
    ·obtain⟨_,_,_,_,o,_,_,e,ex,_⟩:=I.hok p _ hk
     exact⟨o,e,ex⟩
   obtain⟨o,e,ex⟩:=z
   refine⟨⟨o,e,ex.1⟩,fun a e2=>?_⟩
   cases e2
   exact⟨o,e,ex.2.1⟩
  ·obtain⟨o,_,_,_,e,ex,_⟩:=I.hok p _ hk
   refine⟨⟨o,e,ex.1⟩,fun a e2=>?_⟩
   cases e2
   exact⟨o,e,ex.2.1⟩
 | _=>exact False.elim ty
def tBM(K:W.Frag)(T:String)(r:V→List V→Hp→VK→Prop)(to:TE)(t:TA):TE:=fun σ H Q=>to σ H fun x H1=>tyV K T x H1∧t σ H1 fun xs H2=>r x xs H2 Q
variable {o e:Expr}{es:List Expr}{to:TE}{t:TA}{name:Str}{apos cpos:Pos}{T id:String}{r:V→List V→Hp→VK→Prop}
theorem b4h(pa:PlainAttrs T)(slot:Slot T name id)(hty:typeOf (.builtin id)=pure (.type "method_descriptor"))(hm:MtR X id r)(ho:PE X o to)(ha:PA X (e::es) t)
  (hbase:attributeBase o name X.env (eval o X.env)=eval o X.env:=by rfl)
  (hfew:((backTo cpos (starEach (e::es) X.env)).all (fun x=>!x.1) && (backToKw cpos (keywordEach [] X.env)).all (fun x=>x.1.isSome)
   && decide ((e::es).length+([]:List Keyword).length+(if([]:List Keyword).isEmpty then 0 else 1)<30))=true:=by rfl)
  (hline:(apos.endLine == cpos.line)=true:=by rfl) (hs:starEach (e::es) X.env=(false,eval e X.env)::starEach es X.env:=by rfl) (hplain:(backTo cpos (starEach es X.env)).any (·.1)=false:=by rfl) :
  PE X (.Call (.Attribute o name apos) (e::es) [] cpos) (tBM X.K T r to t):=by
 intro pins s σ H Q I h
 refine wpAny_Call_method_late hbase hfew hline rfl (i7 (ho pins s σ H _ I h) fun v s1 ⟨x,H1,I1,r1,ty,q1⟩=>?_)
 obtain⟨h1,h2⟩:=b23 I1 r1 ty
 refine⟨T,id,pa,slot,hty,h1,h2,?_⟩
 have hA:=ha cpos pins s1 σ H1 _ I1 q1
 rw[hs]at hA ⊢
 refine Calls.callWith_builtin (by show(false || (backTo cpos (starEach es X.env)).any (·.1))=false;rw[hplain]<;>rfl) (Calls.evalArgs_plain ?_)
 exact i7 hA fun us s2 ⟨vs,H2,I2,r2,q2⟩=>hm pins s2 σ H2 x vs v us Q I2 r1 r2 q2
end
def MtM(X:Cx)(id:String)(r:V→List V→Hp→VK→Prop):Prop :=
 ∀(pins:List (Addr×Obj)) (s:Shared) (σ:St) (H:Hp) (x:V) (xs:List V) (v:Value) (us:List Value) (Q:VK),Inv X pins σ H s→RelV x v→Vals xs us→r x xs H Q →
  wpAny (model X.prog X.w) X.A (call (.builtin id) (v::us)) (EP X pins σ Q) X.xe s
theorem Vals.one:∀{x:V} {us:List Value},Vals [x] us→∃u,us=[u]∧RelV x u
 | _,_,.cons r .nil=>⟨_,rfl,r⟩
theorem Vals.zero:∀{us:List Value},Vals [] us→us=[]
 | _,.nil=>rfl
theorem Vals.eraseIdx:∀{xs:List V} {us:List Value} (i:Nat),Vals xs us→Vals (xs.eraseIdx i) (us.eraseIdx i)
 | _,_,_,.nil=>.nil
 | _,_,0,.cons _ t=>t
 | _,_,i+1,.cons r t=>.cons r (Vals.eraseIdx i t)
theorem Vals.reverse{xs:List V}{us:List Value}(h:Vals xs us):Vals xs.reverse us.reverse:=by
 induction h with
 | nil=>exact .nil
 | cons r t ih=>rw[List.reverse_cons,List.reverse_cons];exact Vals.append ih (.cons r .nil)
theorem a3u{α:Type}:∀(l:List α) (i:Nat),(l.eraseIdx i).length≤l.length
 | [],_=>Nat.le_refl _
 | _::_,0=>Nat.le_succ _
 | _::r,i+1=>Nat.succ_le_succ (a3u r i)
section
variable {X:Cx}{pins:List (Addr×Obj)}{σ:St}{H:Hp}{s:Shared}{l b:Addr}{xs ys zs:List V}
theorem Inv.lset{its its':List Value}{n:Nat}{f:Array Value→Array Value}{t':Nat}(I:Inv X pins σ H s)(hH:H l=some (.lst xs))
  (e:s.heap.get? l=some { cls:=.type "list",data:=.seq its.toArray n }) (hf:f its.toArray=its'.toArray) (hv:Vals ys its') (hz:ys.length≤sizeLine) :
  Inv X pins σ (upd H l (.lst ys)) { s with heap:=s.heap.update l (Obj.mapSeq f),toks:=t' }:=by
 have q:=PySem.IsL.update e f
 rw[hf]at q
 refine I.write (x:=l) (e:=l) (by rw[hH];exact trivial) (.inl rfl) (fun b' u hb hu=>(Heap.get?_update_other s.heap (Obj.mapSeq f) (Ne.symm hb)).trans hu) ⟨_,q⟩ ?_
 exact⟨hz,its',_,hv,q⟩
theorem Inv.lnew{its:List Value}{t':Nat}(I:Inv X pins σ H s)(hv:Vals ys its)(hz:ys.length≤sizeLine) :
  Inv X pins σ (upd H s.heap.objs.size (.lst ys)) { s with heap:=s.heap.push { cls:=.type "list",data:=.seq its.toArray },toks:=t' } :=
 I.laid (fun _ _ q=>Heap.get?_push_of_some _ q) (Nat.le_refl _) ⟨hz,its,0,hv,Heap.get?_push_size _ rfl⟩
theorem Inv.fresh(I:Inv X pins σ H s):H s.heap.objs.size=none:=I.hok.fresh (Nat.le_refl _)
theorem Inv.lstM(I:Inv X pins σ H s)(hH:H l=some (.lst xs)):xs.length≤sizeLine∧∃(its:List Value) (n:Nat),Vals xs its∧xs.length=its.length∧s.heap.get? l=some { cls:=.type "list",data:=.seq its.toArray n }:=by
 obtain⟨z,its,n,r,e⟩:=I.hok l _ hH
 exact⟨z,its,n,r,r.length,e⟩
end
section
variable {X:Cx}
def a53:V→List V→Hp→VK→Prop:=fun x vs H Q=>∃l xs y,x=.ref l∧vs=[y]∧H l=some (.lst xs)∧xs.length<sizeLine∧Q .non (upd H l (.lst (xs++[y])))
theorem T1:MtM X "list.append" a53:=by
 intro pins s σ H x vs v us Q I rx rv h
 obtain⟨l,xs,y,rfl,rfl,hH,hz,q⟩:=h
 cases rx
 obtain⟨u,rfl,ru⟩:=rv.one
 obtain⟨z,its,n,r,hl,e⟩:=I.lstM hH
 refine call_meets F.slot_list_append ⟨_,e,rfl⟩ F.entry_list_append (F.args_list_append_2 _ _) (PySem.list_append l its.toArray n u (by rw[List.size_toArray];omega)) ⟨e,?_⟩
 refine⟨.non,_,I.lset (its':=its++[u]) hH e (by simp) (r.append (.cons ru .nil)) ?_,rfl,q⟩
 rw[List.length_append,List.length_singleton]
 omega
def a7P:V→List V→Hp→VK→Prop:=fun x vs H Q=>∃l xs i k y,x=.ref l∧vs=[.int i]∧H l=some (.lst xs)∧-(2 ^ 63)≤i∧i<2 ^ 63∧seqIndex? i xs.length=some k∧xs[k]? = some y∧Q y (upd H l (.lst (xs.eraseIdx k)))
theorem a8Z:MtM X "list.pop" a7P:=by
 intro pins s σ H x vs v us Q I rx rv h
 obtain⟨l,xs,i,k,y,rfl,rfl,hH,h1,h2,hk,hy,q⟩:=h
 cases rx
 obtain⟨u,rfl,ru⟩:=rv.one
 obtain⟨t,rfl⟩:=ru
 obtain⟨z,its,n,r,hl,e⟩:=I.lstM hH
 obtain⟨w,hw,rw'⟩:=r.get hy
 refine call_meets F.slot_list_pop ⟨_,e,rfl⟩ F.entry_list_pop (F.args_list_pop_2 _ _)
  (MeetsSeq.list_pop_at l its.toArray n i t k w (fitsIndex_both h1 h2) (by rw[List.size_toArray,← hl];exact hk) (by rw[← Array.getElem?_toList];exact hw) (by rw[List.size_toArray];omega)) ⟨e,?_⟩
 refine⟨y,_,I.lset (its':=its.eraseIdx k) hH e ?_ (r.eraseIdx k) ?_,rw',q⟩
 ·show its.toArray.eraseIdxIfInBounds k=(its.eraseIdx k).toArray
  rw[List.eraseIdxIfInBounds_toArray]
 ·have:=a3u xs k
  omega
end
end L2
namespace Att
open PySem PySem.W PySem.Calls PyProof.Rows
theorem a2m{P:Params}{h:Heap}:∀(ns:List Int) (vs:List Value),WellAll P h vs (ns.map WData.int)→IntsAre vs ns:=by
 intro ns
 induction ns with
 | nil =>
  intro vs w
  rw[List.map_nil]at w
  cases w
  exact .nil
 | cons n ns ih =>
  intro vs w
  rw[List.map_cons]at w
  cases w with
  | cons a b =>
   cases a
   exact .cons _ _ (ih _ b)
theorem script_of{l:OpenLaw}{n:Nat}(hn:l.most=some n){P:Params}{h:Heap}{args:List WData}{vals:List Value}
  (hpre:l.row.toRowW.claim.pre args=true) (hwl:WellAll P h vals args) :
  ∃a vs ns,vals=[Value.ref a]∧args=[WData.list (ns.map WData.int)]∧h.get? a=some { cls:=.type "list",data:=.seq vs.toArray }∧IntsAre vs ns∧ns.length≤n:=by
 have hsh:WShape.hasAll [] args [.list .int]=true:=(pre_splitW hpre).1
 have hc:l.pre.holds [] { args:=args }=true:=(pre_splitW hpre).2
 obtain⟨d,r,rfl,h1,h2⟩:=hasAllW_cons hsh
 obtain rfl:=hasAllW_nil h2
 obtain⟨xs,rfl,h3⟩:=hasW_list h1
 obtain⟨ns,rfl⟩:=items_int h3
 have hlen:ns.length≤n:=by
  unfold OpenLaw.pre at hc
  have h4:(WTm.not (.lt (.lit (.int (n:Int))) (.len (.arg 0)))).holds [] { args:=[.list (ns.map .int)] }=true:=by
   have h4:=(holds_andW hc).1
   rw[hn]at h4
   exact h4
  have h5:=condW_of h4 (w_not (w_lt w_lit (w_len_list (w_arg rfl))))
  rw[List.length_map]at h5
  refine Nat.le_of_not_lt fun q=>?_
  have q':(n:Int)<((ns.length:Nat):Int):=by omega
  first
   | (rw[decide_eq_true q']at h5;exact absurd h5 (by decide))
   | (simp at h5;omega)
 cases hwl with
 | cons w1 w2 =>
  cases w2
  cases w1 with
  | list ho hall=>exact⟨_,_,ns,rfl,rfl,ho,a2m ns _ hall,hlen⟩
theorem post_true(l:OpenLaw)(args:List WData):l.row.toRowW.claim.post args (.bool true) args=true :=
 postW_of (r:=l.row.toRowW) (X:=(true == true))
  (show WShape.has [] (.bool true) .bool=true by first | rfl | decide | simp[WShape.has,WShape.arms,WShape.armsAll])
  (show(WTm.eq .res (.lit (.bool true))).value [] { args:=args,res:=some (.bool true),after:=args }=some (.bool (true == true))from w_eq_bool (w_res rfl) w_lit) rfl
end Att
namespace L2
open PySem PySem.Spec PyProof.Rows
theorem a3v:∀{vs:List Value} {ns:List Int},IntsAre vs ns→Vals (ns.map V.int) vs
 | _,_,.nil=>.nil
 | _,_,.cons n t h=>.cons ⟨t,rfl⟩ (a3v h)
def b4_(H:Hp):Prop:=∀b,H b=none∨∃o xs,H b=some (.frz o (.lst xs))
def l9(s:Stmt):Arguments:=match s with
 | .FunctionDef _ a _ _ _ _ _ _ _ _=>a
 | _=>{ posonlyargs:=[],args:=[],vararg:=none,kwonlyargs:=[],kw_defaults:=[],kwarg:=none,defaults:=[] }
def j7(s:Stmt):List Stmt:=match s with
 | .FunctionDef _ _ b _ _ _ _ _ _ _=>b
 | _=>[]
def a7(s:Stmt):Scope:=match s with
 | .FunctionDef _ _ _ _ _ _ sc _ _ _=>sc
 | _=>{ kind:=.function,names:=[],isGenerator:=false,isCoroutine:=false }
abbrev CX0:Y5:=fun _ _ _ _ _ _=>False
abbrev E0:XK:=fun _ _ _=>False
structure Fun(K:W.Frag)(x qual:Str)(st:Stmt)(f:Addr)(fd:FuncData):Prop where
 ex:∃(oc:Value) (od:Option Addr) (kV doc pm:Value) (an:Option Addr) (cdv ct:Value) (osl:Array (Option Value)),
  fd=W.fnOf x qual (l9 st) (j7 st) (a7 st) .none kV doc pm an cdv ct∧K.lookup f=some ⟨oc,od,.func fd,osl⟩∧W.codeIn K cdv qual=true
 kp:W.keepIn K (.ref f)=true
section
variable {P:Program}{w:World}{K:W.Frag}{mg:Str→Option Value}{base:Heap}
theorem Fun.ok{x qual:Str}{st:Stmt}{f:Addr}{fd:FuncData}{N ps:List Str}{k:Nat}{sp:Sp}(F:Fun K x qual st f fd)(S:FnScope N ps (a7 st))(len:∀vs H Q E,sp vs H Q E→vs.length=ps.length)
  (hbody:∀(cdv:Value) (A:Around) (outer:List Env) (s:Shared) (H:Hp) (vs:List V) (Q:VK) (E:XK),Room k (A.deeper (envOfC qual (a7 st) s.heap.objs.size f cdv))→sp vs H Q E →
   ∃t,PSs (O9 CX0 P w K mg base N qual (a7 st) f cdv A outer s H E).nox (j7 st) t∧t { nx:=fun _ H'=>Q .non H',rt:=Q } (start N vs) H):FnOk P w K mg base CX0 (k+1) f fd ps sp:=by
 obtain⟨oc,od,kV,doc,pm,an,cdv,ct,osl,rfl,lk,hcd⟩:=F.ex
 refine a2k lk hcd S len fun A outer s H vs Q E hr hsp=>?_
 obtain⟨t,h,q⟩:=hbody cdv A outer s H vs Q E hr hsp
 exact⟨t,h.nox,q⟩
theorem Fun.binds{x qual:Str}{st:Stmt}{f:Addr}{fd:FuncData}{ps:List Str}(F:Fun K x qual st f fd)
  (h:∀(kV doc pm:Value) (an:Option Addr) (cdv ct:Value) (us:List Value),us.length=ps.length→bindArgs (W.fnOf x qual (l9 st) (j7 st) (a7 st) .none kV doc pm an cdv ct) ⟨us,[]⟩=pure (ps.zip us)):Binds K fd ps []:=by
 obtain⟨oc,od,kV,doc,pm,an,cdv,ct,osl,rfl,lk,hcd⟩:=F.ex
 exact .all (h kV doc pm an cdv ct)
theorem y6{x qual:Str}{st:Stmt}{f:Addr}{oc:Value}{od an:Option Addr}{osl:Array (Option Value)}{kV doc pm cdv ct:Value}(l:K.lookup f=some ⟨oc,od,.func (W.fnOf x qual (l9 st) (j7 st) (a7 st) .none kV doc pm an cdv ct),osl⟩)
  (c:W.codeIn K cdv qual=true) (k:W.keepIn K (.ref f)=true):Fun K x qual st f (W.fnOf x qual (l9 st) (j7 st) (a7 st) .none kV doc pm an cdv ct):=⟨⟨oc,od,kV,doc,pm,an,cdv,ct,osl,rfl,l,c⟩,k⟩
end
theorem a7Q{n:Nat}(h:n≤1000):n<sizeLine:=Nat.lt_of_le_of_lt h (by decide)
section
variable {X:Cx}
theorem pv(i:Nat){x:Str}{pos:Pos}(hN:X.N[i]? = some x:=by rfl)(hv:Vis X.env.scope x:=by first | exact Or.inl rfl | exact Or.inr (Or.inl rfl) | exact Or.inr (Or.inr rfl))(hd:(x == ("__debug__" : Str))=false:=by decide)
  (hcd:(x == ("__classdict__" : Str))=false:=by decide):PE X (.Name x pos) (B9 i):=b2G hN hv hd hcd
end
def Same(H H':Hp):Prop:=∀b o,H b=some o→H' b=some o
theorem Same.refl(H:Hp):Same H H:=fun _ _ h=>h
theorem Same.trans{H H1 H2:Hp}(a:Same H H1)(b:Same H1 H2):Same H H2:=fun c o h=>b c o (a c o h)
theorem Same.free{H H':Hp}(e:Same H H'){l:Addr}(h:H' l=Option.none):H l=Option.none:=by
 cases q:H l with
 | none=>rfl
 | some o =>
  rw[e l o q]at h
  cases h
theorem Same.seq{K:W.Frag}{H H':Hp}{a:Addr}{xs:List V}(e:Same H H')(h:SqL K H a xs):SqL K H' a xs:=by
 rcases h with(h | ⟨o,h⟩) | h
 ·exact .inl (.inl (e _ _ h))
 ·exact .inl (.inr ⟨o,e _ _ h⟩)
 ·exact .inr h
end L2
set_option maxHeartbeats 4000000
namespace L2
open PySem PySem.Spec PyProof.Rows
theorem ObjOk.there{P:Program}{w:World}{H:Hp}{h:Heap}{a:Addr}{o:HO}(x:ObjOk P w H h a o):∃ob,h.get? a=some ob:=by
 cases o with
 | lst xs=>obtain⟨_,_,_,_,e⟩:=x;exact⟨_,e⟩
 | tup xs=>obtain⟨_,_,_,p⟩:=x;obtain⟨o,e,_⟩:=p;exact⟨_,e⟩
 | dK kvs=>obtain⟨_,_,_,_,o,_,_,e,_⟩:=x;exact⟨_,e⟩
 | dT kvs=>obtain⟨_,_,_,_,o,_,_,e,_⟩:=x;exact⟨_,e⟩
 | set S n=>obtain⟨o,_,_,_,e,_⟩:=x;exact⟨_,e⟩
 | ins C dx fs=>obtain⟨_,_,_,e,_⟩:=x;exact⟨_,e⟩
 | own y=>obtain⟨_,e⟩:=x;exact⟨_,e⟩
 | xd fs=>obtain⟨_,⟨_,_,_,e,_⟩,_⟩:=x;exact⟨_,e⟩
 | rng lo hi=>obtain⟨_,_,_,e⟩:=x;exact⟨_,e⟩
 | frz ob u=>obtain⟨e,_⟩:=x;exact⟨_,e⟩
 | tbl ps=>obtain⟨_,e,_⟩:=x;exact⟨_,e⟩
 | met f y=>exact⟨_,(show h.get? a=some _ from x)⟩
 | ext φ=>obtain⟨_,⟨_,e⟩,_⟩:=x;exact⟨_,e⟩
def Imp(X:Cx)(pins:List (Addr×Obj))(H:Hp)(b:Addr):Prop:=H b≠none∨(b ∉ X.ex∧∃o,X.s₀.heap.get? b=some o)∨∃p∈X.pn++pins,p.1=b
def a1Y:Option Addr→Value
 | none=>.none
 | some a=>.ref a
def TrX(h B:Heap)(e:Addr)(cls:Value)(cx:Option Addr)(fl:Value):Prop :=
 ∃oe vs T oT ts,(h.get? e=some oe∧oe.cls=cls∧oe.data=.fields vs)∧(vs[1]? = some (.ref T)∧vs[2]? = some (a1Y cx))∧(B.get? T=none∧T≠e)∧h.get? T=some oT∧oT.data=.fields ts∧ts[3]? = some fl
theorem W4(T:Addr):(Value.ref T != Value.none)=true:=by simp
inductive Ph where | new | fly | any
def XTr(B h:Heap)(a:Addr)(cls:Value)(cx:Option Addr):Ph→Prop
 | .new=>∃oe vs,h.get? a=some oe∧oe.cls=cls∧oe.data=.fields vs∧vs[1]? = some .none∧vs[2]? = some (a1Y cx)
 | .fly=>TrX h B a cls cx .none
 | .any=>∃fl,TrX h B a cls cx fl
theorem XTr.there{B h:Heap}{a:Addr}{cls:Value}{cx:Option Addr}{ph:Ph}(x:XTr B h a cls cx ph):∃oe vs,h.get? a=some oe∧oe.cls=cls∧oe.data=.fields vs∧vs[2]? = some (a1Y cx):=by
 cases ph with
 | new=>obtain⟨oe,vs,h1,h2,h3,_,h4⟩:=x;exact⟨oe,vs,h1,h2,h3,h4⟩
 | fly=>obtain⟨oe,vs,_,_,_,⟨h1,h2,h3⟩,⟨_,h4⟩,_⟩:=x;exact⟨oe,vs,h1,h2,h3,h4⟩
 | any=>obtain⟨_,oe,vs,_,_,_,⟨h1,h2,h3⟩,⟨_,h4⟩,_⟩:=x;exact⟨oe,vs,h1,h2,h3,h4⟩
section
variable {M:Model}{A:Around}{E:Value→Shared→Prop}{s:Shared}
def a2n(B:Heap)(l:List Env)(e:Addr)(cls:Value)(cx:Option Addr)(fl:Value)(h h':Heap):Prop:=B.StaysIn h'∧h'.FunFrames B l∧TrX h' B e cls cx fl∧h.UpToSlots h'
theorem a54{B:Heap}{env:Env}{outer:List Env}{L e:Addr}{oe:Obj}{vs:Array Value}{head:Value}{cx:Option Addr}{nx:Bool}{Q:Unit→Shared→Prop}(fr:A.frames=some (env::outer))(ff:s.heap.FunFrames B (env::outer))(hf:env.frame=some L)
  (ge:s.heap.get? e=some oe) (st:B.StaysIn s.heap) (be:B.get? e=none) (de:oe.data=.fields vs) (z1:1<vs.size) (z2:vs[2]? = some (a1Y cx)) (q:∀h',a2n B (env::outer) e oe.cls cx (rawInt L) s.heap h'→Q () { s with heap:=h' }) :
  wpAny M A (do let a ← frameOf env;let pl ← entryPlaceOf L nx;let b ← EntryCells.newEntry head a .none (rawInt L) .none pl;setField (.ref e) 1 b) Q E s:=by
 have nf:∀b o,s.heap.get? b=some o→(∀ws,o.data≠.fields ws)→b≠e:=fun b o gb nb zb=>by subst zb;rw[ge]at gb;cases gb;exact nb vs de
 have out:e ∉ (env::outer).filterMap (·.frame):=fun m=>by obtain⟨_,o,go,no⟩:=ff.mem m;exact nf e o go no rfl
 refine wpAny_bind (wpAny_frameOf_fun fr ff hf fun h1 only=>wpAny_bind (wpAny_entryPlaceOf fun pl place=>?_))
 unfold EntryCells.newEntry newFields
 refine wpAny_bind (wpAny_newObj_type ?_ (place.sizeOk5 _ _ _ _ _))
 have ge1:h1.get? e=some oe:=(only.2.1 e out).trans ge
 have st1:B.StaysIn h1:=fun b o gb=>(only.2.1 b fun m=>by have:=(ff.mem m).1;rw[this]at gb;cases gb).trans (st b o gb)
 have ne1:h1.objs.size≠e:=fun z=>absurd (Heap.lt_size ge1) (by rw[z];exact Nat.lt_irrefl _)
 refine wpAny_setField (Heap.get?_push_of_some _ ge1) de z1 (q _ ?_)
 have far:∀{ob:Obj} {g:Obj→Obj} {b:Addr} {o:Obj},b≠e→h1.get? b=some o→((h1.push ob).update e g).get? b=some o:=fun ne gb=>(Heap.get?_update_other _ _ (Ne.symm ne)).trans (Heap.get?_push_of_some _ gb)
 refine⟨fun b o gb=>far (fun z=>by rw[z,be]at gb;cases gb) (st1 b o gb),ff.of_keeps fun b o gb nb=>?_,?_,fun b o gb nb=>?_⟩
 ·obtain⟨sl,g⟩:=only.2.2 b o gb;exact⟨_,far (nf b o gb nb) g,rfl⟩
 ·have dd:=Obj.data_mapFields de (·.setIfInBounds 1 (Value.ref h1.objs.size))
  refine⟨_,_,h1.objs.size,_,_,⟨Heap.get?_update_self _ (Heap.get?_push_of_some _ ge1) (Obj.isFreed_of_fields dd),Obj.cls_mapFields _ _,dd⟩,⟨by simp[z1],by rw[Array.getElem?_setIfInBounds_ne (by decide)];exact z2⟩,⟨st1.fresh,ne1⟩,(Heap.get?_update_other _ _ (Ne.symm ne1)).trans (Heap.get?_push_size h1 rfl),rfl,?_⟩
  first | (simp;done) | (rcases place with rfl | ⟨_,_,_,_,_,_,_,rfl⟩<;>simp)
 ·obtain⟨sl,g⟩:=only.2.2 b o gb;exact⟨sl,far (nf b o gb nb) g⟩
theorem a6N{B:Heap}{env:Env}{outer:List Env}{L e:Addr}{oe:Obj}{vs:Array Value}{cx:Option Addr}{Q:Unit→Shared→Prop}(fr:A.frames=some (env::outer))(ff:s.heap.FunFrames B (env::outer))(hf:env.frame=some L)
  (ge:s.heap.get? e=some oe) (st:B.StaysIn s.heap) (be:B.get? e=none) (de:oe.data=.fields vs) (z1:vs[1]? = some .none) (z2:vs[2]? = some (a1Y cx)) (q:∀h',a2n B (env::outer) e oe.cls cx (rawInt L) s.heap h'→Q () { s with heap:=h' }):wpAny M A (noteFrame (.ref e) env) Q E s:=by
 unfold noteFrame
 simp only[hf]
 refine wpAny_bind (wpAny_field ge de z1 ?_)
 rw[if_neg (by decide)]
 exact a54 fr ff hf ge st be de (Array.getElem?_eq_some_iff.mp z1).1 z2 q
theorem b0Z{B:Heap}{env:Env}{outer:List Env}{L e:Addr}{cls:Value}{cx:Option Addr}{Q:Unit→Shared→Prop}(fr:A.frames=some (env::outer))(ff:s.heap.FunFrames B (env::outer))(hf:env.frame=some L)
  {fl:Value} (t:TrX s.heap B e cls cx fl) (nl:¬(fl == rawInt L)=true) (st:B.StaysIn s.heap) (be:B.get? e=none) (q:∀h',a2n B (env::outer) e cls cx (rawInt L) s.heap h'→Q () { s with heap:=h' }):wpAny M A (noteFrame (.ref e) env) Q E s:=by
 obtain⟨oe,vs,T,oT,ts,⟨ge,rfl,de⟩,⟨z1,z2⟩,⟨bT,nT⟩,gT,dT,z3⟩:=t
 unfold noteFrame
 simp only[hf]
 refine wpAny_bind (wpAny_field ge de z1 ?_)
 rw[if_pos (W4 T)]
 refine wpAny_bind (wpAny_field gT dT z3 ?_)
 rw[if_neg nl]
 refine wpAny_bind (wpAny_setField gT dT (Array.getElem?_eq_some_iff.mp z3).1 ?_)
 have far:∀{g:Obj→Obj} b,b≠T→(s.heap.update T g).get? b=s.heap.get? b:=fun b ne=>Heap.get?_update_other _ _ (Ne.symm ne)
 have nf:∀b o,s.heap.get? b=some o→(∀ws,o.data≠.fields ws)→b≠T:=fun b o gb nb zb=>by subst zb;rw[gT]at gb;cases gb;exact nb ts dT
 refine a54 fr (ff.of_keeps fun b o gb nb=>⟨o,(far b (nf b o gb nb)).trans gb,rfl⟩) hf ((far e (Ne.symm nT)).trans ge) (fun b o gb=>(far b fun z=>by rw[z,bT]at gb;cases gb).trans (st b o gb)) be de (Array.getElem?_eq_some_iff.mp z1).1 z2 fun h' x=>q h' ⟨x.1,x.2.1,x.2.2.1,fun b o gb nb=>?_⟩
 exact x.2.2.2 b o ((far b (nf b o gb nb)).trans gb) nb
theorem a6O{B:Heap}{env:Env}{L e:Addr}{cls:Value}{cx:Option Addr}{fl:Value}{Q:Unit→Shared→Prop}(hf:env.frame=some L)(t:TrX s.heap B e cls cx fl)(el:(fl == rawInt L)=true)(q:Q () s):wpAny M A (noteFrame (.ref e) env) Q E s:=by
 obtain⟨oe,vs,T,oT,ts,⟨ge,rfl,de⟩,⟨z1,z2⟩,⟨bT,nT⟩,gT,dT,z3⟩:=t
 unfold noteFrame
 simp only[hf]
 refine wpAny_bind (wpAny_field ge de z1 ?_)
 rw[if_pos (W4 T)]
 refine wpAny_bind (wpAny_field gT dT z3 ?_)
 rw[if_pos el]
 exact wpAny_pure q
theorem a4x{B:Heap}{l:List Env}{e:Addr}{cls fl:Value}{cx fr:Option Addr}{Q:Unit→Shared→Prop}(st:B.StaysIn s.heap)(ff:s.heap.FunFrames B l)(t:TrX s.heap B e cls cx fl)
  (q:∀h',a2n B l e cls cx (fr.elim Value.none fun f=>rawInt f) s.heap h'→Q () { s with heap:=h' }):wpAny M A (setFlight (.ref e) fr) Q E s:=by
 obtain⟨oe,vs,T,oT,ts,⟨ge,rfl,de⟩,⟨z1,z2⟩,⟨bT,nT⟩,gT,dT,z3⟩:=t
 have z4:3<ts.size:=(Array.getElem?_eq_some_iff.mp z3).1
 have far:∀{g:Obj→Obj} b,b≠T→(s.heap.update T g).get? b=s.heap.get? b:=fun b ne=>Heap.get?_update_other _ _ (Ne.symm ne)
 have nf:∀b o,s.heap.get? b=some o→(∀ws,o.data≠.fields ws)→b≠T:=fun b o gb nb zb=>by subst zb;rw[gT]at gb;cases gb;exact nb ts dT
 unfold setFlight
 refine wpAny_bind (wpAny_field ge de z1 ?_)
 rw[if_pos (W4 T)]
 refine wpAny_setField gT dT z4 (q _ ⟨fun b o gb=>(far b fun z=>by rw[z,bT]at gb;cases gb).trans (st b o gb),ff.of_keeps fun b o gb nb=>⟨o,(far b (nf b o gb nb)).trans gb,rfl⟩,?_,fun b o gb nb=>⟨o.slots,(far b (nf b o gb nb)).trans gb⟩⟩)
 have dd:=Obj.data_mapFields dT (·.setIfInBounds 3 (fr.elim Value.none fun f=>rawInt f))
 exact⟨oe,vs,T,_,_,⟨(far e (Ne.symm nT)).trans ge,rfl,de⟩,⟨z1,z2⟩,⟨bT,nT⟩,Heap.get?_update_self _ gT (Obj.isFreed_of_fields dd),dd,by simp[z4]⟩
end
structure XAt(X:Cx)(pins:List (Addr×Obj))(H:Hp)(s:Shared)(a:Addr)(cls:Value)(cx:Option Addr)(B:Heap)(ph:Ph):Prop where
 free:H a=none
 stays:B.StaysIn s.heap
 fresh:B.get? a=none
 frames:s.heap.FunFrames B X.stack
 cov:∀b o,s.heap.get? b=some o→Imp X pins H b→b ∉ B8 X.stack→B.get? b=some o
 tr:XTr B s.heap a cls cx ph
section
variable {X:Cx}{pins:List (Addr×Obj)}{σ:St}{H:Hp}{s:Shared}{a:Addr}{cls:Value}{cx:Option Addr}{B h':Heap}{ph:Ph}
theorem Imp.there(I:Inv X pins σ H s){b:Addr}(i:Imp X pins H b):∃o,s.heap.get? b=some o:=by
 rcases i with i | ⟨hx,o,i⟩ | ⟨p,hp,e⟩
 ·cases q:H b with
  | none=>exact absurd q i
  | some u=>exact(I.hok b u q).there
 ·exact I.base.there b o i hx
 ·exact⟨p.2,by rw[← e];exact(I.pin p hp).1⟩
theorem Inv.exc(I:Inv X pins σ H s)(cov:∀b o,s.heap.get? b=some o→Imp X pins H b→b ∉ B8 X.stack→B.get? b=some o)(st:B.StaysIn h')(ups:s.heap.UpToSlots h') :
  Inv X pins σ H { s with heap:=h' }:=by
 have fr:∀b,b∈B8 X.stack→∀o,s.heap.get? b=some o→∃sl,h'.get? b=some { o with slots:=sl }:=fun b hb o e=>by
  obtain⟨_,o',e',d⟩:=I.stack.mem hb
  rw[e]at e';cases e'
  exact ups b o e d
 have nfr:∀b,b ∉ X.fs→b≠X.env.locals→b ∉ B8 X.stack:=fun b h1 h2 z=>(List.mem_cons.mp (I.stkSub b z)).elim h2 h1
 have neL:∀b o,X.s₀.heap.get? b=some o→b≠X.env.locals:=fun b o e=>Nat.ne_of_lt (Nat.lt_of_lt_of_le (Heap.lt_size e) I.ok.above)
 have cellK:∀c v,s.heap.IsCell c v→h'.IsCell c v:=fun c v ⟨o,ho,hd⟩=>by
  obtain⟨sl,q⟩:=ups c o ho (fun vs z=>by rw[hd]at z;cases z)
  exact⟨_,q,hd⟩
 refine⟨I.ok,I.os,I.bare,⟨fun b o e n hb hx=>?_,fun b o e n hb hx=>?_,I.base.free,fun b o e hx=>?_,I.base.tups,I.base.frzs,I.base.tbls⟩,?_,fun x c e=>?_,I.free,I.freeC,fun p hp=>?_,?_,I.len⟩
 ·exact st _ _ (cov b o (I.base.keep b o e n hb hx) (.inr (.inl ⟨hx,o,e⟩)) (nfr b hb (neL b o e)))
 ·obtain⟨sl,e1⟩:=I.base.slot b o e n hb hx
  have hb':b∈B8 X.stack:=by
   rcases I.ok.stk with q | ⟨q,hf⟩
   ·rw[q];exact hb
   ·rw[q];unfold B8;rw[List.filterMap_cons,hf];exact List.mem_cons_of_mem _ hb
  obtain⟨sl',e2⟩:=fr b hb' _ e1
  exact⟨sl',e2⟩
 ·obtain⟨o',e1⟩:=I.base.there b o e hx
  by_cases hb:b∈B8 X.stack
  ·obtain⟨sl,q⟩:=fr b hb _ e1
   exact⟨_,q⟩
  ·exact⟨o',st _ _ (cov b o' e1 (.inr (.inl ⟨hx,o,e⟩)) hb)⟩
 ·obtain⟨m,hn,hl⟩:=I.loc
  refine⟨m,ups.ns hn,fun i x v e1 e2 e3=>?_⟩
  obtain⟨u,r,l⟩:=hl i x v e1 e2 e3
  refine⟨u,r,?_⟩
  rcases l with l | ⟨k,c,e,z⟩
  ·exact .inl l
  ·exact .inr ⟨k,c,e,cellK c _ z⟩
 ·obtain⟨v,z⟩:=I.cell x c e
  exact⟨v,cellK c v z⟩
 ·obtain⟨e,n,ne,nf,d⟩:=I.pin p hp
  exact⟨st _ _ (cov p.1 p.2 e (.inr (.inr ⟨p,hp,rfl⟩)) (nfr p.1 nf ne)),n,ne,nf,d⟩
 ·intro b u e
  refine(I.hok b u e).stay (fun c v hc q=>?_) (fun _ q=>q) (fun _ _ q=>q) fun _ _ _ q=>q
  have hc':H c≠none:=by
   rcases hc with z | z
   ·rw[z,e];exact fun q=>nomatch q
   ·rw[z];exact fun q=>nomatch q
  exact st _ _ (cov c v q (.inl hc') fun z=>hc' (I.stkFree c z))
theorem XAt.cov'(x:XAt X pins H s a cls cx B ph)(I:Inv X pins σ H s)(st:B.StaysIn h'):∀b o,h'.get? b=some o→Imp X pins H b→b ∉ B8 X.stack→B.get? b=some o:=fun b o e i n=>by
 obtain⟨o1,e1⟩:=i.there I
 have q:=x.cov b o1 e1 i n
 have q2:=st _ _ q
 rw[e]at q2;cases q2
 exact q
variable {M:Model}{A:Around}{E:Value→Shared→Prop}{Q:Unit→Shared→Prop}
theorem a80{e:Value}{env env0:Env}(h:env0.frame=env.frame):noteFrame e env=noteFrame e env0:=by
 unfold noteFrame PySem.frameOf
 rw[h]
theorem a55{env0:Env}{out0:List Env}{F:Addr}(hA:A.frames=some X.stack)(hs:X.stack=env0::out0)(h0:env0.frame=X.env.frame)(hf:X.env.frame=some F)(I:Inv X pins σ H s)(x:XAt X pins H s a cls cx B ph)
  (hQ:∀h',Inv X pins σ H { s with heap:=h' }→XAt X pins H { s with heap:=h' } a cls cx B .any→Q () { s with heap:=h' }):wpAny M A (noteFrame (.ref a) X.env) Q E s:=by
 have hfr:A.frames=some (env0::out0):=by rw[hA,hs]
 have hl:s.heap.FunFrames B (env0::out0):=by rw[← hs];exact x.frames
 rw[a80 h0]
 have hf:env0.frame=some F:=h0.trans hf
 have fin:∀{fl:Value} h',a2n B (env0::out0) a cls cx fl s.heap h'→Q () { s with heap:=h' }:=fun h' ⟨k1,k2,k3,k4⟩ =>
  hQ h' (I.exc x.cov k1 k4) ⟨x.free,k1,x.fresh,by rw[hs];exact k2,x.cov' I k1,_,k3⟩
 have on:∀fl,TrX s.heap B a cls cx fl→wpAny M A (noteFrame (.ref a) env0) Q E s:=fun fl t=>by
  by_cases z:(fl == rawInt F)=true
  ·exact a6O hf t z (hQ s.heap I ⟨x.free,x.stays,x.fresh,x.frames,x.cov,fl,t⟩)
  ·exact b0Z hfr hl hf t z x.stays x.fresh fin
 cases ph with
 | new =>
  obtain⟨oe,vs,he,hc,hd,h1,h2⟩:=x.tr
  refine a6N hfr hl hf he x.stays x.fresh hd h1 h2 fun h' hN=>?_
  rw[hc]at hN
  exact fin h' hN
 | fly=>exact on _ x.tr
 | any=>obtain⟨fl,t⟩:=x.tr;exact on fl t
theorem b00(I:Inv X pins σ H s)(x:XAt X pins H s a cls cx B ph)(hn:ph≠.new)
  (hQ:∀h',Inv X pins σ H { s with heap:=h' }→XAt X pins H { s with heap:=h' } a cls cx B .fly→Q () { s with heap:=h' }):wpAny M A (setFlight (.ref a) none) Q E s:=by
 have go:∀fl,TrX s.heap B a cls cx fl→wpAny M A (setFlight (.ref a) none) Q E s:=fun fl ht =>
  a4x x.stays x.frames ht fun h' ⟨k1,k2,k3,k4⟩=>hQ h' (I.exc x.cov k1 k4) ⟨x.free,k1,x.fresh,k2,x.cov' I k1,k3⟩
 cases ph with
 | new=>exact absurd rfl hn
 | fly=>exact go _ x.tr
 | any=>obtain⟨fl,t⟩:=x.tr;exact go fl t
end
def t8(P:Program)(w:World):Y5:=fun outer H s E e s' =>
 ∃(a:Addr) (cls:Value) (cx:Option Addr) (H':Hp) (B:Heap),e=.ref a∧s'.os=s.os∧AllBare s'.gens∧Un (B8 outer) [] H H' s.heap s'.heap∧HOk P w H' s'.heap∧B.StaysIn s'.heap∧B.get? a=none∧s'.heap.FunFrames B outer ∧
  TrX s'.heap B a cls cx .none∧H' a=none∧(∀b o,s'.heap.get? b=some o→(H' b≠none∨∃o',s.heap.get? b=some o')→b ∉ B8 outer→B.get? b=some o)∧E cls cx H'
def XAcc(X:Cx)(E:XK):Prop:=∀(pins:List (Addr×Obj)) (σ:St) (H:Hp) (s:Shared) (a:Addr) (cls:Value) (cx:Option Addr) (B:Heap) (ph:Ph),Inv X pins σ H s→XAt X pins H s a cls cx B ph→E cls cx H→X.xe (.ref a) s
theorem V5{P:Program}{w:World}{K:W.Frag}{mg:Str→Option Value}{base:Heap}{N:List Str}{qual:Str}{scope:Scope}{f:Addr}{cd:Value}{A:Around}{outer:List Env}{s:Shared}{H:Hp}{E:XK} :
  XAcc (O9 (t8 P w) P w K mg base N qual scope f cd A outer s H E) E:=by
 intro pins σ H1 s1 a cls cx B ph I x e
 show wpAny (model P w) (A.deeper (envOfC qual scope s.heap.objs.size f cd)) (leaving (envOfC qual scope s.heap.objs.size f cd) (.ref a)) _ _ s1
 unfold leaving
 refine wpAny_bind (a55 (X:=O9 (t8 P w) P w K mg base N qual scope f cd A outer s H E) I.ok.frames rfl rfl rfl I x fun h1 I1 x1=>?_)
 refine b00 I1 x1 (fun z=>nomatch z) fun h2 I2 x2=>?_
 refine⟨a,cls,cx,H1,B,rfl,I2.os,I2.bare,I2.base,I2.hok,x2.stays,x2.fresh,x2.frames.2.2,x2.tr,x2.free,fun b o e1 i n=>?_,e⟩
 have nl:b≠(envOfC qual scope s.heap.objs.size f cd).locals:=fun z=>by
  rcases i with i | ⟨o',i⟩
  ·exact i (by rw[z];exact I2.free)
  ·have:=Heap.lt_size i
   rw[z]at this
   exact absurd this (Nat.lt_irrefl _)
 refine x2.cov b o e1 (i.elim .inl fun z=>.inr (.inl ⟨List.not_mem_nil,z⟩)) fun z=>?_
 rcases List.mem_cons.mp (I2.stkSub b z)with q | q
 ·exact nl q
 ·exact n q
theorem XAcc.passes{X:Cx}{E:XK}(acc:XAcc X E):a0l (t8 X.prog X.w) X E:=by
 intro pins σ H s e s' I h
 obtain⟨a,cls,cx,H',B,rfl,os,bare,un,hok,st,fr,ff,tr,free,cov,hE⟩:=h
 have I':Inv X pins σ H' s':=I.call' (ch:=[]) os un hok bare (fun b z=>absurd z (by simp))
 refine acc pins σ H' s' a cls cx B .fly I' ⟨free,st,fr,ff,fun b o e i n=>cov b o e ?_ n,tr⟩ hE
 rcases i with i | ⟨hx,o',i⟩ | ⟨p,hp,q⟩
 ·exact .inl i
 ·exact .inr (I.base.there b o' i hx)
 ·exact .inr ⟨p.2,by rw[← q];exact(I.pin p hp).1⟩
end L2
namespace PySem.W
open PySem PySem.Spec PySem.Calls PyProof.Rows
structure ExcT(K:Frag)(C:Addr):Prop where
 ga:findIn K (.ref C) "__getattribute__" = some (some (.builtin "BaseException.__getattribute__"))
 gt:findIn K (.ref C) "__getattr__" = some none
 cl:findIn K (.ref C) "__class__" = some (some (.builtin "object.__class__"))
 mo:mroIn K C (.type "object")=some true
 sb:subIn K (.ref C) (.type "BaseException")=some true
section
variable {prog:Program}{w:World}{A:Around}{E:Value→Shared→Prop}{h:Heap}{g:Array GenState}{d:Drawn}{t:Nat}{os:OsState}{K:Frag}{x C:Addr}{o:Obj}{R:Result→Shared→Prop}
theorem a3Z{tp:Value}(X:K.In h)(hx:h.get? x=some o)(hc:o.cls=.ref C)(hm:mroIn K C (.type "object")=some true)
  (q:R (.ok (.ret (.ref C))) ⟨h,g,d,t,os⟩):codeAny (model prog w) A (.call (.builtin "getset_descriptor.__get__") ⟨[.builtin "object.__class__",.ref x,tp],[]⟩) R ⟨h,g,d,t,os⟩:=by
 have L0:Looks (model prog w) h (typeOf (.ref x)) (.ref C):=hc▸(Looks.ld hx).andThen .now
 have L1:=looks_mroIn (M:=model prog w) X hm
 refine codeAny_call_builtin KF.slot_gs.plain KF.entry_gs (KF.slot_gs.check _ _ _ _ _ _ _ _ KF.type_class (KF.args_gs _ _ _) ?_)
 unfold Builtin.«getset_descriptor.__get__» Builtin.Getset_descriptor.descrGet
 rw[dga_obj]
 refine wpAny_bind (wpAny_pure ?_)
 unfold Builtin.Getset_descriptor.descrGetter Builtin.Getset_descriptor.descrCheckInstance Builtin.Getset_descriptor.descrNameAndClass isInstance
 simp only[KF.owner_class]
 repeat lk
 refine⟨Code.quiet_builtin _ (by decide +kernel),codeAny_builtin KF.entry_class ?_⟩
 unfold Builtin.«object.__class__» shownTypeOf
 repeat lk
 exact q
theorem a2o{tk:Tok}{Q:Fin→Shared→Prop}(X:K.In h)(T:ExcT K C)(hx:h.get? x=some o)(hc:o.cls=.ref C)(q:Q (.done (.ret (.ref C))) ⟨h,g,d,t,os⟩) :
  wpAny (model prog w) A (Builtin.«object.__getattribute__» ⟨[.ref x,.str "__class__" tk],[]⟩) Q E ⟨h,g,d,t,os⟩:=by
 have L0:Looks (model prog w) h (typeOf (.ref x)) (.ref C):=hc▸(Looks.ld hx).andThen .now
 have L1:=looks_findIn (M:=model prog w) X T.cl
 have hT5:(⟨h,g,d,t,os⟩:Shared).TypeIs (.builtin "object.__class__") "getset_descriptor" := F.typeOf_object_class
 have f5:=F.typeOf_object_class
 have f6:=F.slot_gs_get.lookup
 have f7:=F.slot_gs_set.lookup
 repeat (any_goals (first | assumption | (with_reducible refine L0.at ?_) | (with_reducible refine wpAny_bind (L0.at ?_)) | (with_reducible refine L1.at ?_) | (with_reducible refine wpAny_bind (L1.at ?_)) | wp_step))
 refine a3Z X hx hc T.mo ?_
 repeat (any_goals (first | assumption | wp_step))
theorem a4y{M:Model}{nameV:Value}{Q:Unit→Shared→Prop}(X:K.In h)(T:ExcT K C)(hx:h.get? x=some o)(hc:o.cls=.ref C)(hq:Q () ⟨h,g,d,t,os⟩):wpAny M A (checkBuiltinCall "BaseException.__getattribute__" ⟨[.ref x,nameV],[]⟩) Q E ⟨h,g,d,t,os⟩:=by
 have hk:builtinKind "BaseException.__getattribute__" = some .slot:=by decide +kernel
 have hsplit:splitId "BaseException.__getattribute__" = some ("BaseException","__getattribute__"):=by decide +kernel
 have L0:Looks M h (typeOf (.ref x)) (.ref C):=hc▸(Looks.ld hx).andThen .now
 have L1:=looks_subIn (M:=M) X T.sb
 have L2:Looks M h (isInstance (.ref x) (.type "BaseException")) true:=L0.andThen L1
 have ha:=F.args_bexc_ga (.ref x) nameV
 simp only[checkBuiltinCall,hk,hsplit]
 refine wpAny_bind (L2.at ?_)
 repeat (first | assumption | wp_step)
theorem a4z{tk:Tok}{Q:Value→Shared→Prop}(X:K.In h)(T:ExcT K C)(hx:h.get? x=some o)(hc:o.cls=.ref C)(hq:Q (.ref C) ⟨h,g,d,t,os⟩):wpAny (model prog w) A (getAttrBy (.ref x) (.str "__class__" tk) false) Q E ⟨h,g,d,t,os⟩:=by
 have L0:Looks (model prog w) h (typeOf (.ref x)) (.ref C):=hc▸(Looks.ld hx).andThen .now
 have L1:=looks_findIn (M:=model prog w) X T.ga
 have L2:=looks_findIn (M:=model prog w) X T.gt
 have f3:=F.attr_ValueError.ga.bind (.ref x)
 have hx2:(Value.builtin "BaseException.__getattribute__" == Value.builtin "object.__getattribute__")=false:=by decide +kernel
 have hx1:(onTheHeap (Value.ref C) && Value.builtin "BaseException.__getattribute__" == Value.builtin "object.__getattribute__")=false:=by rw[hx2];rfl
 repeat (any_goals (first | assumption | (with_reducible refine L0.at ?_) | (with_reducible refine wpAny_bind (L0.at ?_)) | (with_reducible refine L1.at ?_) | (with_reducible refine wpAny_bind (L1.at ?_)) | (with_reducible refine L2.at ?_) | (with_reducible refine wpAny_bind (L2.at ?_)) | wp_step))
 refine codeAny_call_builtin F.attr_ValueError.ga.plain F.entry_bexc_ga (a4y X T hx hc (a2o X T hx hc ?_))
 repeat (any_goals (first | assumption | wp_step))
theorem a2Z{Q:Option Value→Shared→Prop}(X:K.In h)(T:ExcT K C)(hx:h.get? x=some o)(hc:o.cls=.ref C)(hq:Q (some (.ref C)) ⟨h,g,d,t+1,os⟩):wpAny (model prog w) A (getAttr? (.ref x) "__class__") Q E ⟨h,g,d,t,os⟩:=by
 unfold getAttr? getAttrBy?
 repeat (any_goals (first | assumption | with_reducible apply a4z X T hx hc | wp_step))
end
def b24(x C:Addr)(h:Heap):Prop:=∃o vs,h.get? x=some o∧o.cls=.ref C∧o.data=.fields vs
theorem kitx_exc{K:Frag}{x C:Addr}(T:ExcT K C):KitX K (.ref x) (.ref C) (b24 x C) where
 ty:=fun _ _ _ ⟨_,_,hx,hc,_⟩=>hc▸(Looks.ld hx).andThen .now
 it:=fun M h X _=>by
  have hm:=T.mo
  unfold mroIn at hm
  obtain⟨cd,hcd⟩:∃cd,clsIn K C=some cd:=by
   cases q:clsIn K C with
   | none=>rw[q]at hm;cases hm
   | some cd=>exact⟨cd,rfl⟩
  unfold clsIn at hcd
  split at hcd
  ·rename_i c' d' cd' sl' ho
   intro A' Q' E' s' k q
   unfold isType loadHead
   exact wpAny_bind (wpAny_loadPart (k _ _ (X _ _ ho)) (wpAny_pure q))
  ·cases hcd
 ne:=fun h tp dd its n sl X htp=>by
  have hm:=T.mo
  unfold mroIn at hm
  obtain⟨cd,hcd⟩:∃cd,clsIn K C=some cd:=by
   cases q:clsIn K C with
   | none=>rw[q]at hm;cases hm
   | some cd=>exact⟨cd,rfl⟩
  refine Bool.eq_false_iff.mpr fun q=>?_
  have e:C=tp:=Value.ref.inj (beq_iff_eq.mp q)
  subst e
  unfold clsIn at hcd
  split at hcd
  ·rename_i c' d' cd' sl' ho
   have z:=(X _ _ ho).symm.trans htp
   cases z
  ·cases hcd
 ca:=fun{_ _ _ _ _ s} X ⟨_,_,hx,hc,_⟩ k=>by
  obtain⟨h,g,d,t,os⟩:=s
  exact a2Z X T hx hc k
end PySem.W
namespace L2
open PySem PySem.Spec PyProof.Rows
abbrev TJ:=St→Hp→Str→(Str→Hp→Prop)→Prop
def a4A:List Value:=[.type "ValueError",.type "Exception",.type "BaseException",.type "object"]
theorem b01{K:W.Frag}{h₀:Heap}{C:Addr}(KX:K.In h₀)(q:W.excIn K C a4A "ValueError.__new__" = true) :
  ∃bm N nm q bs hdct sn sub ab col dd k0 k1 k2 k3 k5 mN,h₀.get? C=some (excClassObj nm q C N bs bm hdct sn sub ab col dd k0 k1 k2 k3 k5 "ValueError.__new__")∧h₀.Ns N mN∧mN "__init__" = none∧OwnTail h₀ a4A bm:=by
 unfold W.excIn at q
 split at q
 ·rename_i dd cd sl ho
  split at q
  ·rename_i C' bm k0 k1 k2 k3 n k5 hm hs
   simp only[Bool.and_eq_true,beq_iff_eq,Bool.not_eq_true']at q
   obtain⟨⟨⟨⟨⟨rfl,rfl⟩,hdel⟩,ht⟩,hok⟩,hni⟩:=q
   obtain⟨nm,bs,mro,ns,qn,hd,sn,sub,ab,col,del⟩:=cd
   dsimp only at hm hdel hok hni
   subst hm hdel
   have hsl:sl = #[k0,k1,k2,k3,some (.builtin "ValueError.__new__"),k5]:=by
    obtain⟨l⟩:=sl
    simp only at hs
    rw[hs]
   subst hsl
   exact⟨bm,ns,nm,qn,bs,hd,sn,sub,ab,col,dd,k0,k1,k2,k3,k5,_,KX _ _ ho,.of_isNs (W.isNs_of_in KX hok),W.nsMap_none_of_in KX hok hni,W.tail_of_in KX ht⟩
  ·cases q
 ·cases q
section
variable {X:Cx}{E:XK}
theorem XAt.first{pins:List (Addr×Obj)}{σ:St}{H:Hp}{s:Shared}{h':Heap}{a:Addr}{cls:Value}{cx:Option Addr}{oe:Obj}{vs:Array Value}(I:Inv X pins σ H s)(k:∀b o,s.heap.get? b=some o→h'.get? b=some o)
  (n:s.heap.get? a=none) (g:h'.get? a=some oe) (hc:oe.cls=cls) (hd:oe.data=.fields vs) (z1:vs[1]? = some .none) (z2:vs[2]? = some (a1Y cx)) :
  Inv X pins σ H { s with heap:=h' }∧XAt X pins H { s with heap:=h' } a cls cx (W.hideAll s.heap (B8 X.stack)) .new:=by
 have I':Inv X pins σ H { s with heap:=h' }:=I.kept (t':=s.toks) k
 have fr:H a=none:=by
  cases q:H a with
  | none=>rfl
  | some u=>obtain⟨o,e⟩:=(I.hok a u q).there;rw[n]at e;cases e
 refine⟨I',fr,fun b o e=>k b o (W.of_hideAll _ e),?_,(W.funFrames_hide I.stack fun env he b hb=>List.mem_filterMap.mpr ⟨env,he,hb⟩).of_keeps fun b o e _=>⟨o,k b o e,rfl⟩,fun b o e i n=>?_,⟨oe,vs,g,hc,hd,z1,z2⟩⟩
 ·cases q:(W.hideAll s.heap (B8 X.stack)).get? a with
  | none=>rfl
  | some o=>have:=W.of_hideAll _ q;rw[n]at this;cases this
 ·obtain⟨o1,e1⟩:=i.there I
  have e2:=k _ _ e1
  rw[e]at e2;cases e2
  exact W.hideAll_get _ e1 n
theorem XAt.made{pins:List (Addr×Obj)}{σ:St}{H:Hp}{s:Shared}{h':Heap}{a:Addr}{cls:Value}{vs:List Value}(I:Inv X pins σ H s)(m:Heap.MadeExcOf s.heap h' a cls vs) :
  Inv X pins σ H { s with heap:=h' }∧XAt X pins H { s with heap:=h' } a cls none (W.hideAll s.heap (B8 X.stack)) .new:=by
 obtain⟨t,he,_,_⟩:=m.there
 exact XAt.first I m.keeps m.new he rfl rfl rfl rfl
def a7R(C:Addr)(E:XK)(ta:TA):TS:=fun _ σ H=>ta σ H fun vs H1=>vs.length≤sizeLine∧E (.ref C) none H1
theorem a81{x:Str}{C:Addr}{e₀:Expr}{k7:List Expr}{np cpos pos:Pos}{ta:TA}(acc:XAcc X E)(q:W.excIn X.K C a4A "ValueError.__new__" = true)(hg:Gl X x)(hm:X.mg x=some (.ref C))(ha:PA X (e₀::k7) ta)
  (hc:X.calm=true:=by rfl) (hex:X.ex=[]:=by rfl)
  (he:starEach (e₀::k7) X.env=(false,eval e₀ X.env)::starEach k7 X.env:=by rfl) (hplain:(backTo cpos (starEach k7 X.env)).any (·.1)=false:=by rfl) (hd:(x == ("__debug__" : Str))=false:=by decide) :
  PS X (.Raise (some (.Call (.Name x np) (e₀::k7) [] cpos)) none pos) (a7R C E ta):=by
 intro pins s σ H D I h
 obtain⟨tl,N,nm,qn,bs,hdct,sn,sub,ab,col,dd,k0,k1,k2,k3,k5,mN,hC,hN,hni,T⟩:=b01 I.mod.kin q
 have hp:=ha cpos pins s σ H _ I h
 rw[he]at hp
 refine wpAny_Raise_call_subT (C:=C) (nm:=nm) (q:=qn) (N:=N) (bs:=bs) (bm:=tl) (hdct:=hdct) (sn:=sn) (sub:=sub) (ab:=ab) (col:=col) (dd:=dd) (k0:=k0) (k1:=k1) (k2:=k2) (k3:=k3) (k5:=k5)
  PySem.F.excBase_ValueError (mN:=mN) (T.hasType PySem.F.excBase_ValueError.hasBase) (I.ok.hd hc) (by rw[he];show(false || (backTo cpos (starEach k7 X.env)).any (·.1))=false;rw[hplain];rfl) hni (a5W I hg hm ⟨rfl,?_⟩ hd)
 rw[he]
 refine Calls.evalArgs_plain (i7 hp fun us s2 ⟨vs,H2,I2,rv,z,hE⟩=>⟨rfl,by rw[← rv.length];exact z,I2.bk _ _ hC,hN.keeps I2.bk,T.keeps I2.bk,fun h' e m=>?_⟩)
 obtain⟨I3,x3⟩:=XAt.made I2 m
 exact acc pins σ H2 _ e _ none _ .new I3 x3 hE
end
def a6P(a:Addr)(cls:Value)(cx:Option Addr):HO:=.ext fun h=>∃o vs,h.get? a=some o∧o.cls=cls∧o.data=.fields vs∧vs[2]? = some (a1Y cx)
section
variable {X:Cx}{pins:List (Addr×Obj)}{σ:St}{H:Hp}{s:Shared}{a:Addr}{cls:Value}{cx:Option Addr}{B:Heap}{ph:Ph}
theorem XAt.nofr(x:XAt X pins H s a cls cx B ph):a ∉ B8 X.stack:=fun z=>by
 obtain⟨oe,vs,e,_,d,_⟩:=x.tr.there
 obtain⟨_,o,e',d'⟩:=x.frames.mem z
 rw[e]at e';cases e'
 exact d' vs d
end
theorem y8{X:Cx}{P:Program}{w:World}:a0l (t8 P w) X E0:=fun _ _ _ _ _ _ _ h=>by
 obtain⟨_,_,_,_,_,_,_,_,_,_,_,_,_,_,_,_,hE⟩:=h
 exact hE.elim
section
variable {P:Program}{w:World}{K:W.Frag}{mg:Str→Option Value}{base:Heap}
theorem Fun.okE{x qual:Str}{st:Stmt}{f:Addr}{fd:FuncData}{N ps:List Str}{k:Nat}{sp:Sp}(F:Fun K x qual st f fd)(S:FnScope N ps (a7 st))(len:∀vs H Q E,sp vs H Q E→vs.length=ps.length)
  (hbody:∀(cdv:Value) (A:Around) (outer:List Env) (s:Shared) (H:Hp) (vs:List V) (Q:VK) (E:XK),Room k (A.deeper (envOfC qual (a7 st) s.heap.objs.size f cdv))→sp vs H Q E →
   ∃t,PSs (O9 (t8 P w) P w K mg base N qual (a7 st) f cdv A outer s H E) (j7 st) t∧t { nx:=fun _ H'=>Q .non H',rt:=Q } (start N vs) H):FnOk P w K mg base (t8 P w) (k+1) f fd ps sp:=by
 obtain⟨oc,od,kV,doc,pm,an,cdv,ct,osl,rfl,lk,hcd⟩:=F.ex
 exact a2k lk hcd S len fun A outer s H vs Q E hr hsp=>hbody cdv A outer s H vs Q E hr hsp
structure FunD(K:W.Frag)(x qual:Str)(st:Stmt)(dT:Addr)(f:Addr)(fd:FuncData):Prop where
 ex:∃(oc:Value) (od:Option Addr) (kV doc pm:Value) (an:Option Addr) (cdv ct:Value) (osl:Array (Option Value)),
  fd=W.fnOf x qual (l9 st) (j7 st) (a7 st) (.ref dT) kV doc pm an cdv ct∧K.lookup f=some ⟨oc,od,.func fd,osl⟩∧W.codeIn K cdv qual=true
 kp:W.keepIn K (.ref f)=true
theorem FunD.okE{x qual:Str}{st:Stmt}{dT f:Addr}{fd:FuncData}{N ps:List Str}{k:Nat}{sp:Sp}(F:FunD K x qual st dT f fd)(S:FnScope N ps (a7 st))(len:∀vs H Q E,sp vs H Q E→vs.length=ps.length)
  (hbody:∀(cdv:Value) (A:Around) (outer:List Env) (s:Shared) (H:Hp) (vs:List V) (Q:VK) (E:XK),Room k (A.deeper (envOfC qual (a7 st) s.heap.objs.size f cdv))→sp vs H Q E →
   ∃t,PSs (O9 (t8 P w) P w K mg base N qual (a7 st) f cdv A outer s H E) (j7 st) t∧t { nx:=fun _ H'=>Q .non H',rt:=Q } (start N vs) H):FnOk P w K mg base (t8 P w) (k+1) f fd ps sp:=by
 obtain⟨oc,od,kV,doc,pm,an,cdv,ct,osl,rfl,lk,hcd⟩:=F.ex
 exact a2k lk hcd S len fun A outer s H vs Q E hr hsp=>hbody cdv A outer s H vs Q E hr hsp
theorem FunD.binds{x qual:Str}{st:Stmt}{dT f:Addr}{fd:FuncData}{ps:List Str}{ds:List Value}{items:List Value}{o:Obj}{nn:Nat}(F:FunD K x qual st dT f fd)(ho:K.lookup dT=some o)(hs:o.data=.seq items.toArray nn)
  (h:∀(kV doc pm:Value) (an:Option Addr) (cdv ct:Value) (us:List Value),(us++ds).length=ps.length→∃k:Option (Array Value)→Sem (List (Str×Value)),
   bindArgs (W.fnOf x qual (l9 st) (j7 st) (a7 st) (.ref dT) kV doc pm an cdv ct) ⟨us,[]⟩=seqItems? (.ref dT) >>= k∧k (some items.toArray)=pure (ps.zip (us++ds))):Binds K fd ps ds:=by
 obtain⟨oc,od,kV,doc,pm,an,cdv,ct,osl,rfl,lk,hcd⟩:=F.ex
 intro s us KX hl
 obtain⟨k,h1,h2⟩:=h kV doc pm an cdv ct us hl
 exact W.binds_K KX rfl ho hs h1 h2
end
structure RoomW(k:Nat)(A:Around):Prop where
 dp:A.depth+3*k+5<recursionLimit
 un:A.units+16*k+200<cLine
theorem Room.w{k:Nat}{A:Around}(r:Room k A)(h:Option Value):RoomW k (A.mark h):=⟨r.dp,r.un⟩
theorem RoomW.deeper{k:Nat}{A:Around}(r:RoomW (k+1) A)(env:Env):RoomW k (A.deeper env) :=
 ⟨by have:=r.dp;show A.depth+1+3*k+5<_;omega,by have:=r.un;show A.units+3+16*k+200<_;omega⟩
def b25:V→Option Value
 | .ty n=>some (.type n)
 | .ref a=>some (.ref a)
 | _=>none
theorem b02{y:V}{c u:Value}(e:b25 y=some c)(r:RelV y u):u=c:=by
 cases y with
 | ty n=>cases e;exact r
 | ref a=>cases e;exact r
 | _=>cases e
inductive TyX(K:W.Frag)(H:Hp):V→Value→Prop where
 | of {x:V} {t:Value} (h:TyOf K H x t):TyX K H x t
 | exc {a C:Addr} {cx:Option Addr} (h:H a=some (a6P a (.ref C) cx)) (T:W.ExcT K C):TyX K H (.ref a) (.ref C)
section
variable {X:Cx}{pins:List (Addr×Obj)}{σ:St}{H:Hp}{s:Shared}{A:Around}{E:Value→Shared→Prop}{Q:Value→Shared→Prop}
theorem TyX.kit{x:V}{u t:Value}(I:Inv X pins σ H s)(rx:RelV x u)(ty:TyX X.K H x t):∃Φ:Heap→Prop,W.KitX X.K u t Φ∧Φ s.heap∧u≠.builtin "__main__.__loader__#opaque" := by
 cases ty with
 | @exc a C cx h T =>
  cases (show u=Value.ref a from rx)
  obtain⟨⟨o,vs,h1,h2,h3,_⟩,_⟩:=(show ObjOk X.prog X.w H s.heap a (a6P a (.ref C) cx)from I.hok a _ h)
  exact⟨_,W.kitx_exc T,⟨o,vs,h1,h2,h3⟩,fun z=>nomatch z⟩
 | of h =>
 cases h with
 | non=>cases (show u=Value.none from rx);exact⟨_,W.kitx_none,True.intro,fun z=>nomatch z⟩
 | bl y=>cases (show u=Value.bool y from rx);exact⟨_,W.kitx_bool,True.intro,fun z=>nomatch z⟩
 | int i=>obtain⟨t,q⟩:=(show ∃t,u=Value.int i t from rx);cases q;exact⟨_,W.kitx_int,True.intro,fun z=>nomatch z⟩
 | str y=>obtain⟨t,q⟩:=(show ∃t,u=Value.str y t from rx);cases q;exact⟨_,W.kitx_str,True.intro,fun z=>nomatch z⟩
 | flt y=>obtain⟨t,q⟩:=(show ∃t,u=Value.float y t from rx);cases q;exact⟨_,W.kitx_float,True.intro,fun z=>nomatch z⟩
 | @lst a xs ea =>
  cases (show u=Value.ref a from rx)
  obtain⟨_,_,n,_,h1⟩:=(show ObjOk X.prog X.w H s.heap a (.lst xs)from I.hok a _ ea)
  exact⟨_,W.kitx_list,⟨_,h1,rfl⟩,fun z=>nomatch z⟩
 | @frz a ob xs ea =>
  cases (show u=Value.ref a from rx)
  obtain⟨_,_,_,n,_,h1⟩:=(show ObjOk X.prog X.w H s.heap a (.frz ob (.lst xs))from I.hok a _ ea)
  exact⟨_,W.kitx_list,⟨_,h1,rfl⟩,fun z=>nomatch z⟩
 | @tup a xs ea =>
  cases (show u=Value.ref a from rx)
  obtain⟨_,_,_,p⟩:=(show ObjOk X.prog X.w H s.heap a (.tup xs)from I.hok a _ ea)
  obtain⟨o,h1,h2,_⟩:=p
  exact⟨_,W.kitx_tuple,⟨o,h1,h2⟩,fun z=>nomatch z⟩
 | @dK a kvs ea =>
  cases (show u=Value.ref a from rx)
  obtain⟨_,_,vs,_,p⟩:=(show ObjOk X.prog X.w H s.heap a (.dK kvs)from I.hok a _ ea)
  obtain⟨o,es,ep,h1,h2,_⟩:=p
  exact⟨_,W.kitx_dict,⟨o,h1,h2.1⟩,fun z=>nomatch z⟩
 | @dT a kvs ea =>
  cases (show u=Value.ref a from rx)
  obtain⟨_,_,xs,_,o,es,ep,h1,h2,_⟩:=(show ObjOk X.prog X.w H s.heap a (.dT kvs)from I.hok a _ ea)
  exact⟨_,W.kitx_dict,⟨o,h1,h2.1⟩,fun z=>nomatch z⟩
 | @ins a C dx fs ea cl ha hn htk hm =>
  cases (show u=Value.ref a from rx)
  obtain⟨mA,O,_⟩:=b0S I.hok ea
  obtain⟨od,J,_⟩:=O.look
  exact⟨_,W.kitx_own (cl.get _) cl.hd ha hn htk hm,J,fun z=>nomatch z⟩
def a82(K:W.Frag):List V→Hp→VK→Prop:=fun xs H Q=>∃x y t c b,xs=[x,y]∧b25 y=some c∧TyX K H x t∧W.kitOne K t c=some b∧Q (.bl b) H
theorem a83:J0 X (.builtin "isinstance") (a82 X.K):=by
 intro pins s σ H xs us Q I r h
 obtain⟨x,y,t,c,b,rfl,e1,e2,e3,q⟩:=h
 obtain⟨u,v,rfl,r1,r2⟩:=a6L r
 obtain rfl:=b02 e1 r2
 obtain⟨Φ,Z,p,n⟩:=e2.kit I r1
 exact W.kia_one Z I.kIn p e3 n fun tk=>⟨.bl b,H,I.tok _,rfl,q⟩
end
def a84:List V→List V→Bool
 | [],[]=>true
 | x::xs,y::ys=>eqV x y && a84 xs ys
 | _,_=>false
section
variable {X:Cx}{pins:List (Addr×Obj)}{σ:St}{H:Hp}{s:Shared}
theorem Q7:M1 X (binaryOp .Mult) (rI IntMulOk fun i j=>.int (i*j)):=opI fun _ _ _ _ _ _ _ hc q=>mul_int q hc
theorem E2:M1 X (binaryOp .FloorDiv) (rI (fun _ j=>0<j∧j.natAbs.log2<9000) fun i j=>.int (i/j)):=opI fun i j _ _ _ _ _ hc q=>by
 have h0:j≠0:=by have:=hc.1;omega
 refine floordiv_int h0 ?_ (.inl (PyProof.noPylong_of_log2 hc.2))
 rw[Int.fdiv_eq_ediv_of_nonneg _ (Int.le_of_lt hc.1)]
 exact q
end
open PySem.W PySem.Calls
theorem a5x{ns:List Int}(h:WData.layableAll [WData.list (ns.map WData.int)]=true):∀n∈ns,Builtin.Int.intBits n≤2 ^ 20:=fun n hn=>by
 have h1:(WData.list (ns.map WData.int)).layable=true:=layableW_arg h _ (List.mem_singleton.mpr rfl)
 have h2:=layableW_item h1 (WData.int n) (List.mem_map.mpr ⟨n,hn,rfl⟩)
 have h3:=(layableW_iff.mp h2).2.2
 simpa only[WData.weight,Builtin.Int.intBits]using h3
theorem b4i{P:Program}{w:World}{outer:List Env}(H:Hp)(s:Shared)(e:Value)(s':Shared)(h:t8 P w outer H s (fun _ _ _=>False) e s'):False:=by
 obtain⟨_,_,_,_,_,_,_,_,_,_,_,_,_,_,_,_,hE⟩:=h
 exact hE
structure Own(P:Program)(w:World)(K:W.Frag)(mg:Str→Option Value)(base:Heap)(k:Nat)(x:Str)(ps:List Str)(sp:Sp):Prop where
 ex:∃f fd,FnOk P w K mg base (t8 P w) k f fd ps sp∧Binds K fd ps []∧W.keepIn K (.ref f)=true∧mg x=some (.ref f)
structure OwnD(P:Program)(w:World)(K:W.Frag)(mg:Str→Option Value)(base:Heap)(k:Nat)(x:Str)(ps:List Str)(sp:Sp)(d:V):Prop where
 ex:∃f fd du,FnOk P w K mg base (t8 P w) k f fd ps sp∧Binds K fd ps []∧Binds K fd ps [du]∧RelV d du∧W.keepIn K (.ref f)=true∧mg x=some (.ref f)
section
variable {X:Cx}{k k':Nat}{ps:List Str}{sp:Sp}{x:Str}{p pos:Pos}{e:Expr}{es:List Expr}{t:TA}{E:XK}{d:V}
theorem u6(G:Own X.prog X.w X.K X.mg X.base k x ps sp)(hr:Room k' X.A)(hk:k≤k')(hx:a0l (t8 X.prog X.w) X E)(ha:PA X (e::es) t)(hg:Gl X x:=by rfl)
  (hdb:(x == ("__debug__" : Str))=false:=by decide) (he:starEach (e::es) X.env=(false,eval e X.env)::starEach es X.env:=by rfl) (hpl:(backTo pos (starEach es X.env)).any (·.1)=false:=by rfl) :
  PE X (.Call (.Name x p) (e::es) [] pos) (a0x sp [] E t):=by
 obtain⟨f,fd,F,b,kp,m⟩:=G.ex
 exact b0T F (hr.mono hk) hg m kp b .nil hx ha hdb he hpl
end
theorem b26:bootBuiltins "int" = some (.type "int"):=by decide +kernel
theorem b03:bootBuiltins "bool" = some (.type "bool"):=by decide +kernel
theorem a1x:bootBuiltins "list" = some (.type "list"):=by decide +kernel
theorem T8:bootBuiltins "isinstance" = some (.builtin "isinstance"):=by decide +kernel
theorem x4:bootBuiltins "len" = some (.builtin "len"):=by decide +kernel
theorem Q8{H:Hp}{p:Addr}(h:H p=none)(o:HO):Same H (upd H p o):=fun b u q=>by rw[b9 (g8 q h)];exact q
def Scr(K:W.Frag)(H:Hp)(a:Addr)(xs:List V):Prop:=(∃o,H a=some (.frz o (.lst xs))) ∨
  ∃(o:Obj) (its:Array Value) (n:Nat),K.lookup a=some o∧o.cls=.type "list"∧o.dict=none∧o.data=.seq its n∧its.size≤sizeLine∧Vals xs its.toList
theorem Scr.seq{K:W.Frag}{H:Hp}{a:Addr}{xs:List V}(h:Scr K H a xs):SqL K H a xs:=h.elim (fun z=>.inl (.inr z)) .inr
theorem Scr.of{K:W.Frag}{H:Hp}{a:Addr}{xs:List V}(h:SqL K H a xs)(o:b4_ H):Scr K H a xs:=by
 rcases h with(h | h) | h
 ·rcases o a with z | ⟨o,ys,z⟩
  ·rw[h]at z;cases z
  ·rw[h]at z;cases z
 ·exact .inl h
 ·exact .inr h
theorem Scr.same{K:W.Frag}{H H':Hp}{a:Addr}{xs:List V}(g:Same H H')(h:Scr K H a xs):Scr K H' a xs:=h.elim (fun⟨o,z⟩=>.inl ⟨o,g _ _ z⟩) .inr
theorem Scr.upd{K:W.Frag}{H:Hp}{a l:Addr}{xs ys:List V}{o:HO}(hl:H l=some (.lst ys))(h:Scr K H a xs):Scr K (L2.upd H l o) a xs:=h.elim (fun⟨ob,z⟩=>.inl ⟨ob,by rw[b9 (a9_ z hl (by intro q;cases q))];exact z⟩) .inr
theorem small{n:Nat}(h:n≤1000):n≤sizeLine:=Nat.le_of_lt (a7Q h)
section
variable {prog:Program}{w:World}{A:Around}{R:Result→Shared→Prop}{s:Shared}
theorem a5y{elt target iter:Expr}{ifs:List Expr}{scope:Scope}{pos:Pos}{it acc:Value}{env:Env}{N:Value→Shared→Prop}(hN:N=notedBy (model prog w) A env fun e s'=>R (.error e) s')(I:Nat→Shared→Prop)
  (turn:∀n s,I n s→wpAny (model prog w) A (pyNext it) (fun r s₁=>match r with
   | none=>R (.ok .next) s₁
   | some v=>wpAny (model prog w) A (letOwnedTupleGo target it v) (fun _ s₁'=>wpAny (model prog w) A (assign target env v) (fun _ s₂ =>
     wpAny (model prog w) A (forIn ifs true fun c r=>if r=true then do let ok ← isTrue c env (eval c env);pure (ForInStep.yield ok)else pure (ForInStep.yield r)) (fun ok s₃ =>
      if ok=true then wpAny (model prog w) A (eval elt env) (fun x s₄ =>
       wpAny (model prog w) A (call (.builtin "list.append") [acc,x]) (fun _ s₅=>∃m,m<n∧I m s₅) N s₄) N s₃
      else ∃m,m<n∧I m s₃) N s₂) N s₁') N s₁) N s)
  (n:Nat) (h:I n s) :
  codeAny (model prog w) A (.compLoop (.ListComp elt [⟨target,iter,ifs,0⟩] scope pos) 0 it acc env) R s:=by
 subst hN
 refine codeAny_loop rfl I (fun k z q=>?_) n h
 show wpAny _ A ((compTurn (.ListComp elt [⟨target,iter,ifs,0⟩] scope pos) 0 it acc env).onRaise (fun ex=>do noteFrame ex env;theTreesLotGoes ex)) _ _ z
 refine wpAny_noted ?_
 rw[compTurn_list]
 refine wpAny_bind (wpAny_standAt (wpAny_bind (i7 (turn k z q) fun r z1 q1=>?_)))
 cases r with
 | none=>exact wpAny_pure q1
 | some v =>
  refine wpAny_bind (i7 q1 fun _ z2 q2=>?_)
  refine wpAny_bind (i7 q2 fun _ z3 q3=>?_)
  refine wpAny_bind (i7 q3 fun ok z4 q4=>?_)
  cases ok with
  | false=>exact wpAny_pure ⟨rfl,q4⟩
  | true=>exact wpAny_bind (wpAny_bind (i7 q4 fun x z5 q5=>wpAny_bind (i7 q5 fun _ z6 q6=>wpAny_pure (wpAny_pure ⟨rfl,q6⟩))))
end
def y3(cells:List (Str×Addr)):List (Str×NameKind)→List (Str×Addr)→List (Str×Addr)
 | [],acc=>acc
 | (n,k)::r,acc=>if k == .free then(match cells.lookup n with
   | some c=>y3 cells r ((n,c)::acc)
   | none=>y3 cells r acc)else y3 cells r acc
theorem Y7{cells:List (Str×Addr)}{x:Str}{c:Addr}:∀{names:List (Str×NameKind)} {acc:List (Str×Addr)},(∀d,acc.lookup x=some d→cells.lookup x=some d)→(y3 cells names acc).lookup x=some c→cells.lookup x=some c
 | [],acc,h,e=>h c e
 | (n,k)::r,acc,h,e=>by
  unfold y3 at e
  split at e
  ·split at e
   ·rename_i c' hc'
    refine Y7 (fun d q=>?_) e
    rw[List.lookup_cons]at q
    split at q
    ·rename_i hx
     have hx':x=n:=by simpa using hx
     cases q
     rw[hx'];exact hc'
    ·exact h d q
   ·exact Y7 h e
  ·exact Y7 h e
theorem S0{cells:List (Str×Addr)}{x:Str}:∀{names:List (Str×NameKind)} {acc:List (Str×Addr)},(∃d,acc.lookup x=some d)→∃d,(y3 cells names acc).lookup x=some d
 | [],acc,h=>h
 | (n,k)::r,acc,h=>by
  unfold y3
  split
  ·split
   ·refine S0 ?_
    rw[List.lookup_cons]
    split
    ·exact⟨_,rfl⟩
    ·exact h
   ·exact S0 h
  ·exact S0 h
theorem J4{cells:List (Str×Addr)}{x:Str}:∀{names:List (Str×NameKind)} {acc:List (Str×Addr)},(x,NameKind.free)∈names→(∃c,cells.lookup x=some c)→∃d,(y3 cells names acc).lookup x=some d
 | [],acc,h,_=>by simp at h
 | (n,k)::r,acc,h,hc=>by
  unfold y3
  rcases List.mem_cons.mp h with e | h
  ·cases e
   obtain⟨c,hc⟩:=hc
   rw[if_pos (by rfl),hc]
   exact S0 ⟨c,by simp[List.lookup_cons]⟩
  ·split
   ·split
    ·exact J4 h hc
    ·exact J4 h hc
   ·exact J4 h hc
theorem a0y{env:Env}:∀(names:List (Str×NameKind)) (acc:List (Str×Addr)),(∀y∈names,y.2=.free→∃c,env.cells.lookup y.1=some c) →
  (forIn names acc fun(x:Str×NameKind) (cs:List (Str×Addr))=>if(x.2 == NameKind.free)=true then do let a ← cellOf env x.1;pure (ForInStep.yield ((x.1,a)::cs))else pure (ForInStep.yield cs):Sem (List (Str×Addr)))=pure (y3 env.cells names acc)
 | [],acc,_=>rfl
 | (n,k)::r,acc,h=>by
  rw[List.forIn_cons]
  unfold y3
  by_cases hk:(k == NameKind.free)=true
  ·obtain⟨c,hc⟩:=h (n,k) List.mem_cons_self (by simpa using hk)
   have e:cellOf env n=pure c:=by unfold cellOf;rw[hc]
   rw[if_pos hk,if_pos hk,hc,e]
   exact a0y r _ fun y hy=>h y (List.mem_cons_of_mem _ hy)
  ·rw[if_neg hk,if_neg hk]
   exact a0y r acc fun y hy=>h y (List.mem_cons_of_mem _ hy)
theorem S3{scope:Scope}{env:Env}(h:∀y∈scope.names,y.2=.free→∃c,env.cells.lookup y.1=some c):closureFor scope env=pure (y3 env.cells scope.names []):=by
 have:=a0y (env:=env) scope.names [] h
 unfold closureFor
 exact(congrArg (· >>= pure) this).trans (by first | rfl | simp)
theorem K7{env:Env}:∀{names:List (Str×NameKind)} {x:Str} {k':NameKind},
  (names.map fun(n,k)=>if(k == NameKind.free && env.scope.kind == .function && env.kindOf n == some .cell)then(n,NameKind.cell)else(n,k)).lookup x=some k' →
  ∃k,names.lookup x=some k∧(k'=k∨(k=.free∧k'=.cell))
 | [],_,_,h=>by simp at h
 | (n,k)::r,x,k',h=>by
  rw[List.map_cons]at h
  dsimp only at h
  by_cases hc:(k == NameKind.free && env.scope.kind == .function && env.kindOf n == some .cell)=true
  ·rw[if_pos hc,List.lookup_cons]at h
   rw[List.lookup_cons]
   split at h
   ·rename_i hx
    cases h
    have hk:k=.free:=by
     have:=(Bool.and_eq_true _ _▸(Bool.and_eq_true _ _▸hc).1).1
     simpa using this
    exact⟨k,rfl,.inr ⟨hk,rfl⟩⟩
   ·rename_i hx
    obtain⟨k2,q1,q2⟩:=K7 h
    exact⟨k2,q1,q2⟩
  ·rw[if_neg hc,List.lookup_cons]at h
   rw[List.lookup_cons]
   split at h
   ·rename_i hx
    cases h
    exact⟨k,rfl,.inl rfl⟩
   ·rename_i hx
    obtain⟨k2,q1,q2⟩:=K7 h
    exact⟨k2,q1,q2⟩
theorem G4{env:Env}:∀{names:List (Str×NameKind)} {x:Str},names.lookup x=some .free →
  (names.map fun(n,k)=>if(k == NameKind.free && env.scope.kind == .function && env.kindOf n == some .cell)then(n,NameKind.cell)else(n,k)).lookup x=some .cell ∨
  (names.map fun(n,k)=>if(k == NameKind.free && env.scope.kind == .function && env.kindOf n == some .cell)then(n,NameKind.cell)else(n,k)).lookup x=some .free
 | [],_,h=>by simp at h
 | (n,k)::r,x,h=>by
  rw[List.map_cons]
  dsimp only
  rw[List.lookup_cons]at h
  by_cases hc:(k == NameKind.free && env.scope.kind == .function && env.kindOf n == some .cell)=true
  ·rw[if_pos hc,List.lookup_cons]
   split at h
   ·rename_i hx
    left;rfl
   ·rename_i hx
    exact G4 (env:=env) h
  ·rw[if_neg hc,List.lookup_cons]
   split at h
   ·rename_i hx
    right;exact h
   ·rename_i hx
    exact G4 (env:=env) h
structure CompSc(Sc scope:Scope)(N Nc:List Str)(k:Nat)(js:List Nat):Prop where
 cell:∀y∈scope.names,y.2≠.cell
 kind:scope.kind=.function
 names:∀y∈scope.names,y.2=.local→scope.names.lookup y.1=some .local
 free:∀y∈scope.names,y.2=.free→Sc.names.lookup y.1=some .cell∨Sc.names.lookup y.1=some .free
 nd:Nc.Nodup
 len:Nc.length=k+js.length
 cap:(Nc.drop k).map some=js.map fun j=>N[j]?
 caps:∀x∈Nc.drop k,scope.names.lookup x=some .free
def l5(k:Nat)(js:List Nat)(σ:St):St:=List.replicate k none++js.map fun j=>(σ[j]?).getD none
theorem C8{names:List (Str×NameKind)}{x:Str}{k:NameKind}(h:names.lookup x=some k):(x,k)∈names:=PySem.mem_of_lookup h
abbrev m4(X:Cx)(scope:Scope)(Nc:List Str)(C:Addr)(s3:Shared)(H3:Hp)(fp:List Addr)(xe:Value→Shared→Prop):Cx :=
 { X with N:=Nc,s₀:=s3,H₀:=H3,env:=compEnvC scope (y3 X.env.cells scope.names []) C X.env,outer:=X.stack,ex:=fp,fn:=fun _=>false,pn:=[],xe:=xe }
section
variable {X:Cx}{pins:List (Addr×Obj)}{σ:St}{H3:Hp}{s3:Shared}{scope:Scope}{Nc:List Str}{k:Nat}{js:List Nat}{fp:List Addr}{xe:Value→Shared→Prop}{h₁:Heap}{m₀:Str→Option Value}{tk:Nat}
theorem a0z(I:Inv X pins σ H3 s3)(S:CompSc X.env.scope scope X.N Nc k js):∀y∈scope.names,y.2=.free→∃c,X.env.cells.lookup y.1=some c:=fun y hy hk=>I.ok.has y.1 (S.free y hy hk)
theorem A0{x:Str}{c:Addr}(e:(y3 X.env.cells scope.names []).lookup x=some c):X.env.cells.lookup x=some c:=Y7 (fun d q=>by simp at q) e
theorem a85(I:Inv X pins σ H3 s3)(S:CompSc X.env.scope scope X.N Nc k js)(hf:∀b∈fp,FpOk X pins H3 b)(hfo:∀b∈fp,b<s3.heap.objs.size)(hns:h₁.Ns s3.heap.objs.size m₀)(old:∀b o,s3.heap.get? b=some o→h₁.get? b=some o) :
  Inv (m4 X scope Nc s3.heap.objs.size s3 H3 fp xe) [] (l5 k js σ) H3 { s3 with heap:=h₁,toks:=tk }:=by
 have ok:=I.ok
 have hb0:∀b o,X.base.get? b=some o→b<X.s₀.heap.objs.size:=fun b o e=>Nat.lt_of_lt_of_le (Heap.lt_size e) ok.bsz
 refine⟨⟨ok.mod,S.kind,ok.glob,ok.blt,Nat.le_refl _,fun x y c h1 h2=>ok.inj x y c (A0 h1) (A0 h2),fun x hx=>?_,(fun x c z=>nomatch z),ok.hd,ok.frames,.inl rfl,fun b hb=>⟨Nat.ne_of_lt (hfo b hb),fun x c e=>(hf b hb).2.2.2.2.1 x c (A0 e)⟩,I.bs,Nat.le_trans ok.bsz I.sz,fun b o e hb=>?_,fun b hb z=>?_,I.stack,I.stkFree⟩,
  rfl,I.bare,Un.kept old,⟨m₀,hns,fun i x v e1 e2 e3=>?_⟩,fun x c e=>?_,I.hok.fresh (Nat.le_refl _),fun x c e=>I.freeC x c (A0 e),fun p hp=>absurd (show p∈([]:List (Addr×Obj))from hp) (by simp),I.hok.kept old,?_⟩
 ·have hx:(relabel scope X.env).names.lookup x=some .cell∨(relabel scope X.env).names.lookup x=some .free:=hx
  have hfree:scope.names.lookup x=some .free:=by
   rcases hx with hx | hx
   ·obtain⟨k2,q1,q2⟩:=K7 (env:=X.env) hx
    rcases q2 with q2 | ⟨q2,_⟩
    ·subst q2;exact absurd rfl (S.cell _ (C8 q1))
    ·rw[q2]at q1;exact q1
   ·obtain⟨k2,q1,q2⟩:=K7 (env:=X.env) hx
    rcases q2 with q2 | ⟨q2,q3⟩
    ·subst q2;exact q1
    ·cases q3
  exact J4 (C8 hfree) (ok.has x (S.free _ (C8 hfree) rfl))
 ·rcases(hf b hb).2.2.2.1 with z | z
  ·exact ok.noex b o e z
  ·exact absurd (Nat.lt_of_lt_of_le (hb0 b o e) z) (Nat.lt_irrefl _)
 ·rcases List.mem_cons.mp (I.stkSub b z)with q | q
  ·exact(hf b hb).2.1 q
  ·exact(hf b hb).2.2.1 q
 ·have hlen:(List.replicate k (none:Option V)).length=k:=List.length_replicate
  by_cases hi:i<k
  ·unfold l5 at e2
   rw[List.getElem?_append_left (by omega),List.getElem?_replicate]at e2
   split at e2<;>cases e2
  ·unfold l5 at e2
   rw[List.getElem?_append_right (by omega),hlen,List.getElem?_map]at e2
   cases hj:js[i-k]? with
   | none=>rw[hj]at e2;cases e2
   | some j =>
    rw[hj]at e2
    have e2':(σ[j]?).getD none=some v:=Option.some.inj e2
    have hσ:σ[j]? = some (some v):=by
     cases q:σ[j]? with
     | none=>rw[q]at e2';cases e2'
     | some y=>rw[q]at e2';simp at e2';rw[e2']
    have hx:(Nc.drop k)[i-k]? = some x:=by rw[List.getElem?_drop];rw[show k+(i-k)=i by omega];exact e1
    have hNj:X.N[j]? = some x:=by
     have:=congrArg (fun l=>l[i-k]?) S.cap
     simp only[List.getElem?_map,hx,hj,Option.map_some]at this
     exact(Option.some.inj this).symm
    have hfr:scope.names.lookup x=some .free:=S.caps x (List.mem_of_getElem? hx)
    have hk:=S.free _ (C8 hfr) rfl
    obtain⟨m,hn,hl⟩:=I.loc
    obtain⟨u,r,l⟩:=hl j x v hNj hσ (.inr hk)
    refine⟨u,r,.inr ⟨G4 hfr,?_⟩⟩
    rcases l with⟨l1,_⟩ | ⟨_,c,hc,hcell⟩
    ·have l1:X.env.scope.names.lookup x=some .local:=l1
     rcases hk with hk | hk
     ·rw[l1]at hk;cases hk
     ·rw[l1]at hk;cases hk
    ·obtain⟨d,hd⟩:=J4 (cells:=X.env.cells) (acc:=[]) (C8 hfr) ⟨c,hc⟩
     have:=A0 hd
     rw[hc]at this;cases this
     obtain⟨o,ho,hdd⟩:=hcell
     exact⟨c,hd,⟨o,old _ _ ho,hdd⟩⟩
 ·obtain⟨v,o,ho,hd⟩:=I.cell x c (A0 e)
  exact⟨v,o,old _ _ ho,hd⟩
 ·unfold l5
  rw[List.length_append,List.length_replicate,List.length_map]
  exact S.len.symm
end
def PF(X:Cx)(ifs:List Expr)(t:TT):Prop :=
 ∀(pins:List (Addr×Obj)) (s:Shared) (σ:St) (H:Hp) (Q:Bool→Hp→Prop),Inv X pins σ H s→t σ H Q →
  wpAny (model X.prog X.w) X.A (forIn ifs true fun c r=>if r=true then do let ok ← isTrue c X.env (eval c X.env);pure (ForInStep.yield ok)else pure (ForInStep.yield r)) (TP X pins σ Q) X.xe s
def b0o:TT:=fun _ H Q=>Q true H
theorem P0{X:Cx}:PF X [] b0o:=fun pins s σ H Q I h=>wpAny_tests_nil ⟨H,I,h⟩
theorem a2p{X:Cx}{c:Expr}{t:TT}(h:PT X c t):PF X [c] t:=fun pins s σ H Q I q=>wpAny_tests_one (h pins s σ H Q I q)
def J5(J:It)(g:TG)(tf:TT)(te:TE)(k:Nat)(σ0:St)(D:Addr)(Fin:Hp→Prop)(H1:Hp):Prop :=
 ∃W:Nat→Nat→List V→Hp→Prop,(∃m,W 0 m [] (upd H1 D (.lst [])))∧∀i m ys H,W i m ys H →
  (J.stop i H∧Fin H)∨(J.go i H∧∃N:List V→Hp→Prop,(∀ys' H',N ys' H'→∃m',m'<m∧W (i+1) m' ys' H')∧∀x H',J.yld i H x H'→g x σ0 H' fun σ2 H2=>(σ2.drop k=σ0.drop k∧σ2.length=σ0.length)∧tf σ2 H2 fun b H3 =>
   if b=true then te σ2 H3 fun y H4=>H4 D=some (.lst ys)∧ys.length<sizeLine∧N (ys++[y]) (upd H4 D (.lst (ys++[y])))else N ys H3)
section
variable {X:Cx}{pins:List (Addr×Obj)}{σ:St}{H:Hp}{s:Shared}{elt tg iter:Expr}{ifs:List Expr}{scope:Scope}{pos:Pos}{Nc:List Str}{k:Nat}{js:List Nat}{g:TG}{tf:TT}{te:TE}
theorem a0A{J:It}{fp:List Addr}{it:Addr}{tn:Nat→Heap→Prop}{E:Value→Shared→Prop}{RR:Value→Addr→Result→Shared→Prop}{Fin:Addr→Hp→Prop}(hc:X.calm=true)(S:CompSc X.env.scope scope X.N Nc k js)
  (hg:∀C s3 H3 fp xe,PG (m4 X scope Nc C s3 H3 fp xe) tg g) (hf:∀C s3 H3 fp xe,PF (m4 X scope Nc C s3 H3 fp xe) ifs tf)
  (he:∀C D H3,∃xe:Value→Shared→Prop,(∀e s',xe e s'→notedBy (model X.prog X.w) X.A (compEnvC scope (y3 X.env.cells scope.names []) C X.env) (fun e s'=>RR (.ref D) C (.error e) s') e s') ∧
   ∀s3,Inv X pins σ H3 s3→C=s3.heap.objs.size→(∀b∈fp,FpOk X pins H3 b)→PE (m4 X scope Nc C s3 H3 fp xe) elt te)
  (I2:Inv X pins σ H s) (T:Turn X.prog X.w X.K tg J fp it tn) (st2:tn 0 s.heap) (f2:∀b∈fp,FpOk X pins H b) (hR:∀D,H D=none→J5 J g tf te k (l5 k js σ) D (Fin D) H)
  (hRR:∀D C H' s' m',Inv X pins σ H' s'→s'.heap.Ns C m'→H' C=none→C≠X.env.locals→X.s₀.heap.objs.size≤C→(∀x c,X.env.cells.lookup x=some c→c≠C)→(∀p∈X.pn++pins,p.1≠C)→Fin D H'→RR (.ref D) C (.ok .next) s') :
  wpAny (model X.prog X.w) X.A (newList []) (fun acc s₃=>wpAny (model X.prog X.w) X.A (newFunctionEnv scope X.env.globals (y3 X.env.cells scope.names []) [] X.env.qual none .none (some X.env)) (fun cenv s₄ =>
   codeAny (model X.prog X.w) X.A (.compStart (.ListComp elt [⟨tg,iter,ifs,0⟩] scope pos) 0 (.ref it) acc { cenv with scope:=relabel scope X.env }) (RR acc cenv.locals) s₄) E s₃) E s:=by
 refine wpAny_newObj_type (wpAny_newFunctionEnv S.cell (by intro y hy;simp at hy) (fun h₁ hns₁ hsb₁=>?_) S.kind)
 dsimp only at hns₁ hsb₁ ⊢
 have I3:Inv X pins σ (upd H s.heap.objs.size (.lst [])) { s with heap:=s.heap.push { cls:=.type "list",data:=.seq ([]:List Value).toArray },toks:=s.toks }:=I2.lnew (its:=[]) .nil (Nat.zero_le _)
 have hDn:H s.heap.objs.size=none:=I2.fresh
 obtain⟨W,⟨m0,w0⟩,turn⟩:=hR _ hDn
 generalize hs3:({ s with heap:=s.heap.push { cls:=.type "list",data:=.seq ([]:List Value).toArray },toks:=s.toks }:Shared)=s3 at I3
 have e3:s3.heap=s.heap.push { cls:=.type "list",dict:=none,data:=.seq ([]:List Value).toArray }:=by rw[← hs3]
 rw[← e3]at hns₁ hsb₁ ⊢
 have fpo:∀b∈fp,b<s.heap.objs.size:=fun b hb=>by obtain⟨o,e,_⟩:=T.obj _ _ st2 b hb;exact Heap.lt_size e
 have sz3:s3.heap.objs.size=s.heap.objs.size+1:=by rw[e3,Heap.size_push]
 have fpo3:∀b∈fp,b<s3.heap.objs.size:=fun b hb=>by rw[sz3];exact Nat.lt_succ_of_lt (fpo b hb)
 have f3:∀b∈fp,FpOk X pins (upd H s.heap.objs.size (.lst [])) b:=fun b hb=>⟨by rw[b9 (Nat.ne_of_lt (fpo b hb))];exact(f2 b hb).1,(f2 b hb).2⟩
 have old:∀b o,s3.heap.get? b=some o→h₁.get? b=some o:=fun b o e=>hsb₁.extBut b o (Nat.ne_of_lt (Heap.lt_size e)) (Heap.get?_push_of_some _ e)
 have oldS:∀b o,s.heap.get? b=some o→h₁.get? b=some o:=fun b o e=>old b o (by rw[e3];exact Heap.get?_push_of_some _ e)
 obtain⟨xe,hxe,hel⟩:=he s3.heap.objs.size s.heap.objs.size (upd H s.heap.objs.size (.lst []))
 have hel:=hel s3 I3 rfl f3
 have I4:Inv (m4 X scope Nc s3.heap.objs.size s3 (upd H s.heap.objs.size (.lst [])) fp xe) [] (l5 k js σ) (upd H s.heap.objs.size (.lst [])) { s3 with heap:=h₁,toks:=s.toks+([]:List (Str×Value)).length } :=
  a85 I3 S f3 fpo3 hns₁ old
 have st4:tn 0 h₁:=T.keep _ _ _ st2 fun b hb o e=>oldS b o e
 have es3:({ s3 with heap:=h₁,toks:=s.toks+([]:List (Str×Value)).length }:Shared)={ s with heap:=h₁,toks:=s.toks+([]:List (Str×Value)).length }:=by rw[← hs3]
 rw[es3]at I4
 have ok:=I2.ok
 have lk:=I3.lt
 have hCL:s3.heap.objs.size≠X.env.locals:=Nat.ne_of_gt lk
 have stat:∀{H':Hp},(∀b∈fp,H' b=none)→∀b∈fp,FpOk (m4 X scope Nc s3.heap.objs.size s3 (upd H s.heap.objs.size (.lst [])) fp xe) [] H' b:=fun hn b hb =>
  ⟨hn b hb,Nat.ne_of_lt (fpo3 b hb),fun z=>(List.mem_cons.mp (I3.stkSub b z)).elim (fun q=>(f3 b hb).2.1 q) fun q=>(f3 b hb).2.2.1 q,.inl hb,fun x c e=>(f3 b hb).2.2.2.2.1 x c (A0 e),fun p hp=>absurd (show p∈([]:List (Addr×Obj))from hp) (by simp)⟩
 have loop:codeAny (model X.prog X.w) X.A (.compLoop (.ListComp elt [⟨tg,iter,ifs,0⟩] scope pos) 0 (.ref it) (.ref s.heap.objs.size) (compEnvC scope (y3 X.env.cells scope.names []) s3.heap.objs.size X.env))
    (RR (.ref s.heap.objs.size) s3.heap.objs.size) { s with heap:=h₁,toks:=s.toks+([]:List (Str×Value)).length }:=by
  refine a5y rfl (fun n s'=>∃i ys H',Inv (m4 X scope Nc s3.heap.objs.size s3 (upd H s.heap.objs.size (.lst [])) fp xe) [] (l5 k js σ) H' s'∧tn i s'.heap∧(∀b∈fp,H' b=none)∧W i n ys H') ?_ m0 ⟨0,[],_,I4,st4,fun b hb=>(f3 b hb).1,w0⟩
  rintro n s5 ⟨i,ys,H5,I5,st5,fr5,w5⟩
  rcases turn i n ys H5 w5 with⟨stop,fin⟩ | ⟨go,Nx,hNx,step⟩
  ·refine i7 (T.done (m4 X scope Nc s3.heap.objs.size s3 (upd H s.heap.objs.size (.lst [])) fp xe) rfl rfl rfl hc i [] s5 (l5 k js σ) H5 _ I5 (stat fr5) st5 stop) fun r s6 ⟨hr,I6⟩=>?_
   subst hr
   obtain⟨m6,hn6,_⟩:=I6.loc
   have J:Inv X pins σ H5 s6:=I3.call' (ch:=fp) (I6.os.trans rfl) I6.base I6.hok I6.bare fun b hb=>⟨(f3 b hb).2.2.2.1,(f3 b hb).2.1,(f3 b hb).2.2.2.2.1,(f3 b hb).2.2.2.2.2⟩
   refine hRR _ _ H5 s6 m6 J hn6 I6.free hCL (I3.sz) (fun x c e z=>?_) (fun p hp z=>?_) fin
   ·obtain⟨v,q⟩:=I3.cell x c e
    exact absurd q.lt (by rw[z];exact Nat.lt_irrefl _)
   ·exact absurd (Heap.lt_size (I3.pin p hp).1) (by rw[z];exact Nat.lt_irrefl _)
  ·refine i7 (T.item (m4 X scope Nc s3.heap.objs.size s3 (upd H s.heap.objs.size (.lst [])) fp xe) rfl rfl rfl hc i [] s5 (l5 k js σ) H5 _ I5 (stat fr5) st5 go) fun r s6 ⟨u,hr,h6⟩=>?_
   subst hr
   refine i7 h6 fun _ s7 ⟨x,H7,I7,r7,y7,st7,fr7⟩=>?_
   have I7':=I7.pinned (stat fr7) (T.obj _ _ st7)
   refine wpAny_mono (hg _ _ _ _ _ _ s7 _ H7 x u _ I7' r7 (step x H7 y7)) (fun _ s8 ⟨σ8,H8,I8,⟨d8,l8⟩,q8⟩=>?_) fun e s' z=>hxe e s' z
   refine wpAny_mono (hf _ _ _ _ _ _ s8 σ8 H8 _ I8 q8) (fun b s9 ⟨H9,I9,q9⟩=>?_) fun e s' z=>hxe e s' z
   have again:∀{H':Hp} {s':Shared} {ys':List V},Inv (m4 X scope Nc s3.heap.objs.size s3 (upd H s.heap.objs.size (.lst [])) fp xe) ([]++a04 fp s7.heap) σ8 H' s'→Nx ys' H' →
     ∃m,m<n∧∃i ys H',Inv (m4 X scope Nc s3.heap.objs.size s3 (upd H s.heap.objs.size (.lst [])) fp xe) [] (l5 k js σ) H' s'∧tn i s'.heap∧(∀b∈fp,H' b=none)∧W i m ys H':=fun{H' s' ys'} I' hw=>by
    obtain⟨m',hm,w'⟩:=hNx _ _ hw
    refine⟨m',hm,i+1,ys',H',(I'.unpinned).weak l8.symm fun j v e=>?_,T.keep _ _ _ st7 fun b hb o e=>(I'.pin (b,o) (List.mem_append_right _ (List.mem_append_right _ (U6 hb e)))).1,fun b hb=>?_,w'⟩
    ·by_cases hj:j<k
     ·unfold l5 at e
      rw[List.getElem?_append_left (by rw[List.length_replicate];exact hj),List.getElem?_replicate]at e
      split at e<;>cases e
     ·have e':((l5 k js σ).drop k)[j-k]? = some (some v):=by rw[List.getElem?_drop,show k+(j-k)=j by omega];exact e
      rw[← d8,List.getElem?_drop,show k+(j-k)=j by omega]at e'
      exact e'
    ·obtain⟨o,e,d⟩:=T.obj _ _ st7 b hb
     exact(I'.pin (b,o) (List.mem_append_right _ (List.mem_append_right _ (U6 hb e)))).2.1
   cases b with
   | false =>
    rw[if_neg Bool.false_ne_true]at q9 ⊢
    exact again I9 q9
   | true =>
    rw[if_pos rfl]at q9 ⊢
    refine wpAny_mono (hel _ s9 σ8 H9 _ I9 q9) (fun v s10 ⟨y,H10,I10,r10,hD,hz,w'⟩=>?_) fun e s' z=>hxe e s' z
    refine wpAny_mono (T1 (X:=m4 X scope Nc s3.heap.objs.size s3 (upd H s.heap.objs.size (.lst [])) fp xe) _ s10 σ8 H10 (.ref s.heap.objs.size) [y] (.ref s.heap.objs.size) [v] (fun _ H'=>H'=upd H10 s.heap.objs.size (.lst (ys++[y]))) I10 rfl (.cons r10 .nil)
     ⟨_,ys,y,rfl,rfl,hD,hz,rfl⟩) (fun _ s11 ⟨_,H11,I11,_,q11⟩=>?_) fun e s' z=>hxe e s' z
    subst q11
    exact again I11 w'
 exact codeAny_compStart_list loop (T.self _ 0 _ _ _ st4 loop)
end
def Y8(wi:TI)(g:TG)(tf:TT)(te:TE)(k:Nat)(js:List Nat):TE:=fun σ H Q=>wi σ H fun J H1=>∀D,H1 D=none→J5 J g tf te k (l5 k js σ) D (fun H'=>Q (.ref D) H') H1
def a4B(i:Nat)(wi:TI)(g:TG)(tf:TT)(te:TE)(k:Nat)(js:List Nat):TS:=fun N σ H=>wi σ H fun J H1=>∀D,H1 D=none→J5 J g tf te k (l5 k js σ) D (fun H'=>N.nx (σ.set i (some (.ref D))) H') H1
section
variable {X:Cx}{elt tg iter:Expr}{ifs:List Expr}{scope:Scope}{pos:Pos}{Nc:List Str}{k:Nat}{js:List Nat}{wi:TI}{g:TG}{tf:TT}{te:TE}
theorem O0(hc:X.calm=true)(S:CompSc X.env.scope scope X.N Nc k js)(hi:PI X tg iter wi)(hg:∀C s3 H3 fp xe,PG (m4 X scope Nc C s3 H3 fp xe) tg g)(hf:∀C s3 H3 fp xe,PF (m4 X scope Nc C s3 H3 fp xe) ifs tf)
  (he:∀C s3 H3 fp xe,PE (m4 X scope Nc C s3 H3 fp xe) elt te) (hs:∀x,foldedSetIterable iter X.env x=pure x:=by intro _;rfl):PE X (.ListComp elt [⟨tg,iter,ifs,0⟩] scope pos) (Y8 wi g tf te k js):=by
 intro pins s σ H Q I h
 rw[eval_ListComp]
 refine wpAny_comprehension_free (use:=none) rfl hs (S3 (a0z I S)) S.kind S.names (i7 (hi pins s σ H _ I h) fun v s1 h1=>i7 h1 fun itv s2 h2=>?_)
 obtain⟨it,fp,tn,J,H2,rfl,I2,T,st2,f2,hR⟩:=h2
 refine a0A (RR:=fun acc C=>compPost (model X.prog X.w) X.A X.xe none (EP X pins σ Q) acc C) (Fin:=fun D H'=>Q (.ref D) H') hc S hg hf (fun C D H3=>⟨fun _ _=>False,fun _ _ z=>z.elim,fun s3 _ _ _=>he _ _ _ _ _⟩) I2 T st2 f2 hR ?_
 intro D C H' s' m' I' hn hC hCL hsz hcl hpn q
 exact⟨m',hn,fun h' hs'=>⟨.ref D,H',I'.turned (t':=s'.toks) (fun b o hb e=>(hs'.2 b hb).trans e) hC hCL (.inr hsz) hcl hpn,rfl,q⟩⟩
theorem U7{i:Nat}{y:Str}{py spos:Pos}(hc:X.calm=true)(S:CompSc X.env.scope scope X.N Nc k js)(hN:X.N.Nodup)(hy:X.N[i]? = some y)(hi:PI X tg iter wi)(hg:∀C s3 H3 fp xe,PG (m4 X scope Nc C s3 H3 fp xe) tg g)(hf:∀C s3 H3 fp xe,PF (m4 X scope Nc C s3 H3 fp xe) ifs tf)
  (he:∀C s3 H3 fp xe,PE (m4 X scope Nc C s3 H3 fp xe) elt te) (hl:X.env.scope.names.lookup y=some .local:=by rfl) (hs:∀x,foldedSetIterable iter X.env x=pure x:=by intro _;rfl)
  (hsw:swapsWith (.ListComp elt [⟨tg,iter,ifs,0⟩] scope pos) (some (.Name y py)) spos.line X.env=pure true:=by rfl):PS X (.Assign [.Name y py] (.ListComp elt [⟨tg,iter,ifs,0⟩] scope pos) spos) (a4B i wi g tf te k js):=by
 intro pins s σ H N I h
 rw[exec_Assign_Name_used _ _ _ _ hsw]
 refine wpAny_bind (wpAny_standAt (wpAny_bind ?_))
 show wpAny _ X.A (do let _ ← comprehension (.ListComp elt [⟨tg,iter,ifs,0⟩] scope pos) scope X.env _ (newList []) false (eval iter X.env) (some (assign (.Name y py) X.env))) _ _ s
 refine wpAny_bind (i7 (wpAny_comprehension_free (use:=some (assign (.Name y py) X.env)) (Q:=fun _ z=>SP X pins N .next z) rfl hs (S3 (a0z I S)) S.kind S.names
  (i7 (hi pins s σ H _ I h) fun v s1 h1=>i7 h1 fun itv s2 h2=>?_)) fun _ z hq=>wpAny_pure (wpAny_pure hq))
 obtain⟨it,fp,tn,J,H2,rfl,I2,T,st2,f2,hR⟩:=h2
 refine a0A (RR:=fun acc C=>compPost (model X.prog X.w) X.A X.xe (some (assign (.Name y py) X.env)) (fun _ z=>SP X pins N .next z) acc C) (Fin:=fun D H'=>N.nx (σ.set i (some (.ref D))) H') hc S hg hf
  (fun C D H3=>⟨fun _ _=>False,fun _ _ z=>z.elim,fun s3 _ _ _=>he _ _ _ _ _⟩) I2 T st2 f2 hR ?_
 intro D C H' s' m' I' hn hC hCL hsz hcl hpn q
 show wpAny _ X.A (assign (.Name y py) X.env (.ref D)) _ _ s'
 refine wpAny_assign_Name (a3o (v:=.ref D) I' hN hy (.inl hl) rfl (fun s'' I'' ⟨a,hsb,ha⟩=>?_) (.inr hl))
 have hCa:C≠a:=by
  rcases ha with ha | ha
  ·rw[ha];exact hCL
  ·exact fun z=>hcl y a ha z.symm
 exact⟨m',hn.sameBut hsb hCa,fun h' hs'=>⟨_,H',I''.turned (t':=s''.toks) (fun b o hb e=>(hs'.2 b hb).trans e) hC hCL (.inr hsz) hcl hpn,q⟩⟩
end
theorem a7S{K:W.Frag}{a:Addr}{xs:List V}{g:TG}{tf:TT}{te:TE}{k:Nat}{σ0:St}{D:Addr}{Fin:Hp→Prop}{H1:Hp}(Pv:Nat→List V→Hp→Prop)(h0:Pv 0 [] (upd H1 D (.lst [])))(hl:∀i ys H,i≤xs.length→Pv i ys H→SqL K H a xs)
  (hs:∀i x ys H,xs[i]? = some x→Pv i ys H→g x σ0 H fun σ2 H2=>(σ2.drop k=σ0.drop k∧σ2.length=σ0.length)∧tf σ2 H2 fun b H3 =>
   if b=true then te σ2 H3 fun y H4=>H4 D=some (.lst ys)∧ys.length<sizeLine∧Pv (i+1) (ys++[y]) (upd H4 D (.lst (ys++[y])))else Pv (i+1) ys H3)
  (hd:∀ys H,Pv xs.length ys H→Fin H):J5 (Itl K a) g tf te k σ0 D Fin H1:=by
 refine⟨fun i m ys H=>m=xs.length-i∧i≤xs.length∧Pv i ys H,⟨xs.length,by simp,Nat.zero_le _,h0⟩,?_⟩
 rintro i m ys H ⟨rfl,hi,p⟩
 have q:=hl i ys H hi p
 by_cases hlt:i<xs.length
 ·refine .inr ⟨⟨xs,xs[i],q,by simp[hlt]⟩,Pv (i+1),fun ys' H' z=>⟨xs.length-(i+1),by omega,rfl,hlt,z⟩,fun x H' y=>?_⟩
  obtain⟨e,y⟩:=y
  subst e
  exact hs i x ys _ (y xs q) p
 ·have e:i=xs.length:=by omega
  subst e
  exact .inl ⟨⟨xs,q,Nat.le_refl _⟩,hd ys H p⟩
theorem a6Q{lo:Int}{n:Nat}{g:TG}{tf:TT}{te:TE}{k:Nat}{σ0:St}{D:Addr}{Fin:Hp→Prop}{H1:Hp}(Pv:Nat→List V→Hp→Prop)(h0:Pv 0 [] (upd H1 D (.lst [])))
  (hs:∀i ys H,i<n→Pv i ys H→g (.int (lo+i)) σ0 H fun σ2 H2=>(σ2.drop k=σ0.drop k∧σ2.length=σ0.length)∧tf σ2 H2 fun b H3 =>
   if b=true then te σ2 H3 fun y H4=>H4 D=some (.lst ys)∧ys.length<sizeLine∧Pv (i+1) (ys++[y]) (upd H4 D (.lst (ys++[y])))else Pv (i+1) ys H3)
  (hd:∀ys H,Pv n ys H→Fin H):J5 (Itr lo n) g tf te k σ0 D Fin H1:=by
 refine⟨fun i m ys H=>m=n-i∧i≤n∧Pv i ys H,⟨n,by simp,Nat.zero_le _,h0⟩,?_⟩
 rintro i m ys H ⟨rfl,hi,p⟩
 by_cases hlt:i<n
 ·refine .inr ⟨hlt,Pv (i+1),fun ys' H' z=>⟨n-(i+1),by omega,rfl,hlt,z⟩,fun x H' y=>?_⟩
  obtain⟨e,y⟩:=y
  subst e y
  exact hs i ys _ hlt p
 ·have e:i=n:=by omega
  subst e
  exact .inl ⟨Nat.le_refl _,hd ys H p⟩
section
variable {X:Cx}{pins:List (Addr×Obj)}{σ:St}{H:Hp}{s:Shared}
theorem Inv.turnedL{h':Heap}{t':Nat}{ch:List Addr}{p:Addr}{o:HO}(I:Inv X pins σ H s)(k:∀b u,b ∉ ch→s.heap.get? b=some u→h'.get? b=some u)(hf:∀b∈ch,FpOk X pins H b)(hp:s.heap.objs.size≤p)(new:ObjOk X.prog X.w (upd H p o) h' p o) :
  Inv X pins σ (upd H p o) { s with heap:=h',toks:=t' }:=by
 have hn:=I.hok.fresh hp
 have nch:∀b u,H b=some u→b ∉ ch:=fun b u q z=>by rw[(hf b z).1]at q;cases q
 refine I.call (g':=s.gens) (d':=s.drawn) (ch:=ch) ⟨fun b u q _ _ hx=>k b u hx q,fun b u q _ _ hx=>⟨u.slots,k b u hx q⟩,fun b u q n _=>?_,fun b u q hx=>⟨u,k b u hx q⟩,fun b xs q=>?_,fun b u xs q=>?_,fun b ps q=>⟨#[],?_⟩⟩ (fun b u q=>?_) I.bare
  fun b hb=>⟨(hf b hb).2.2.2.1,(hf b hb).2.1,(hf b hb).2.2.2.2.1,(hf b hb).2.2.2.2.2⟩
 ·rw[b9 (Nat.ne_of_lt (Nat.lt_of_lt_of_le (Heap.lt_size q) hp))];exact n
 ·rw[b9 (g8 q hn)];exact q
 ·rw[b9 (g8 q hn)];exact q
 ·rw[b9 (g8 q hn),q];simp
 ·by_cases hb:b=p
  ·subst hb;rw[i0]at q;cases q;exact new
  ·rw[b9 hb]at q
   refine(I.hok b u q).stay (fun c v hc r=>k c v ?_ r) (fun c z=>?_) (fun c xs z=>?_) fun c ob u z=>?_
   ·rcases hc with hc | hc
    ·rw[hc];exact nch b u q
    ·exact nch c _ hc
   ·rw[b9 (g8 z hn)];exact z
   ·rw[b9 (g8 z hn)];exact z
   ·rw[b9 (g8 z hn)];exact z
theorem Inv.turnedN{h':Heap}{t':Nat}{ch:List Addr}(I:Inv X pins σ H s)(k:∀b u,b ∉ ch→s.heap.get? b=some u→h'.get? b=some u)(hf:∀b∈ch,FpOk X pins H b):Inv X pins σ H { s with heap:=h',toks:=t' }:=by
 have nch:∀b u,H b=some u→b ∉ ch:=fun b u q z=>by rw[(hf b z).1]at q;cases q
 refine I.call (g':=s.gens) (d':=s.drawn) (ch:=ch) ⟨fun b u q _ _ hx=>k b u hx q,fun b u q _ _ hx=>⟨u.slots,k b u hx q⟩,fun b u q n _=>n,fun b u q hx=>⟨u,k b u hx q⟩,fun b xs q=>q,fun b u xs q=>q,fun b ps q=>⟨#[],by rw[q];simp⟩⟩ (fun b u q=>?_) I.bare
  fun b hb=>⟨(hf b hb).2.2.2.1,(hf b hb).2.1,(hf b hb).2.2.2.2.1,(hf b hb).2.2.2.2.2⟩
 refine(I.hok b u q).stay (fun c v hc r=>k c v ?_ r) (fun c z=>z) (fun c xs z=>z) fun c ob u z=>z
 rcases hc with hc | hc
 ·rw[hc];exact nch b u q
 ·exact nch c _ hc
end
def Ite(K:W.Frag)(a:Addr):It :=
 ⟨fun i H=>∃xs x,SqL K H a xs∧xs[i]? = some x,fun i H v H'=>∃p x,v=.ref p∧H p=none∧H'=upd H p (.tup [.int i,x])∧∀xs,SqL K H a xs→xs[i]? = some x,fun i H=>∃xs,SqL K H a xs∧xs.length≤i⟩
theorem a7T{P:Program}{w:World}{K:W.Frag}{elts:List Expr}{x1}{tpos:Pos}(a it e:Addr)(hne:e≠it):Turn P w K (.Tuple elts x1 tpos) (Ite K a) [e,it] e (fun i h=>(∃old,IsEnum h e it i old)∧h.IsListIter it a i) where
 mem:=by simp
 obj:=fun i h ⟨⟨old,st⟩,it1⟩ b hb=>by
  rcases List.mem_cons.mp hb with q | hb
  ·subst q
   exact⟨_,st,fun v z=>nomatch (show Data.fields _=Data.cell v from z)⟩
  ·have q:b=it:=by simpa using hb
   subst q
   obtain⟨o,e1,c,d⟩:=it1
   exact⟨o,e1,fun v z=>by rw[d]at z;cases z⟩
 keep:=fun i h h' ⟨⟨old,st⟩,it1⟩ k=>⟨⟨old,k e (by simp) _ st⟩,it1.at fun o q=>k it (by simp) o q⟩
 item:=by
  intro X hP hw hK hc i pins s σ H E I hf st hg
  subst hP hw hK
  obtain⟨⟨old,st⟩,it1⟩:=st
  obtain⟨xs,x,hq,hx⟩:=hg
  obtain⟨its,rv,p,hz⟩:=I.list hq
  obtain⟨u,hu,ru⟩:=rv.get hx
  refine wpAny_pyNext_enum_item st it1 p.isList (x:=u) (by simpa using hu) hne fun h' q1 q2 q3 q4 q5=>⟨_,rfl,?_⟩
  refine wpAny_letOwnedTupleGo_enum (s:={ s with heap:=h',toks:=s.toks+1 }) q1 fun h2 r1 r2=>?_
  have ne1:s.heap.objs.size≠e:=Nat.ne_of_gt (Heap.lt_size st)
  have k2:∀b o,b ∉ [e,it]→s.heap.get? b=some o→h2.get? b=some o:=fun b o hb q=>by
   have hb1:b≠e:=fun z=>hb (by simp[z])
   have hb2:b≠it:=fun z=>hb (by simp[z])
   exact(r2.2 b hb1).trans (q5 b o hb1 hb2 q)
  have I1:Inv X pins σ (upd H s.heap.objs.size (.tup [.int i,x])) { s with heap:=h2,toks:=s.toks+1 }:=I.turnedL k2 hf (Nat.le_refl _)
   ⟨by show 2≤sizeLine;decide,[.int i s.toks,u],.cons ⟨_,rfl⟩ (.cons ru .nil),⟨_,(r2.2 _ ne1).trans q3,rfl,_,rfl⟩⟩
  refine⟨.ref s.heap.objs.size,_,I1,rfl,⟨_,x,rfl,I.fresh,rfl,fun ys hy=>by rw[I.list_inj hy hq];exact hx⟩,⟨⟨_,by rw[show((i+1:Nat):Int)=(i:Int)+1 by omega];exact r1⟩,?_⟩,fun b hb=>?_⟩
  ·exact q2.extBut r2.extBut (Ne.symm hne)
  ·obtain⟨o,e1,_⟩:∃o,s.heap.get? b=some o∧True:=by
    rcases List.mem_cons.mp hb with q | hb
    ·exact⟨_,by rw[q];exact st,trivial⟩
    ·have q:b=it:=by simpa using hb
     obtain⟨o,e1,_⟩:=it1
     exact⟨o,by rw[q];exact e1,trivial⟩
   rw[b9 (Nat.ne_of_lt (Heap.lt_size e1))]
   exact(hf b hb).1
 done:=by
  intro X hP hw hK hc i pins s σ H E I hf st hg
  subst hP hw hK
  obtain⟨⟨old,st⟩,it1⟩:=st
  obtain⟨xs,hq,hx⟩:=hg
  obtain⟨its,rv,p,hz⟩:=I.list hq
  have hl:=rv.length
  exact wpAny_pyNext_enum_end (I.ok.hd hc) st it1 p.isList (by simp;omega) fun h' eb=>⟨rfl,I.turnedN (t':=s.toks) (fun b o hb q=>eb b o (fun z=>hb (by simp[z])) q) hf⟩
 self:=fun _ _ _ _ _ st h=>wpAny_pyIter_enum st.1.choose_spec h
theorem a7U{K:W.Frag}{a:Addr}{xs:List V}{g:TG}{tf:TT}{te:TE}{k:Nat}{σ0:St}{D:Addr}{Fin:Hp→Prop}{H1:Hp}(Pv:Nat→List V→Hp→Prop)(h0:Pv 0 [] (upd H1 D (.lst [])))(hl:∀i ys H,i≤xs.length→Pv i ys H→SqL K H a xs)
  (hs:∀i x ys H p,xs[i]? = some x→Pv i ys H→H p=none→g (.ref p) σ0 (upd H p (.tup [.int i,x])) fun σ2 H2=>(σ2.drop k=σ0.drop k∧σ2.length=σ0.length)∧tf σ2 H2 fun b H3 =>
   if b=true then te σ2 H3 fun y H4=>H4 D=some (.lst ys)∧ys.length<sizeLine∧Pv (i+1) (ys++[y]) (upd H4 D (.lst (ys++[y])))else Pv (i+1) ys H3)
  (hd:∀ys H,Pv xs.length ys H→Fin H):J5 (Ite K a) g tf te k σ0 D Fin H1:=by
 refine⟨fun i m ys H=>m=xs.length-i∧i≤xs.length∧Pv i ys H,⟨xs.length,by simp,Nat.zero_le _,h0⟩,?_⟩
 rintro i m ys H ⟨rfl,hi,p⟩
 have q:=hl i ys H hi p
 by_cases hlt:i<xs.length
 ·refine .inr ⟨⟨xs,xs[i],q,by simp[hlt]⟩,Pv (i+1),fun ys' H' z=>⟨xs.length-(i+1),by omega,rfl,hlt,z⟩,fun v H' y=>?_⟩
  obtain⟨c,x,rfl,hc,rfl,y⟩:=y
  exact hs i x ys _ c (y xs q) p hc
 ·have e:i=xs.length:=by omega
  subst e
  exact .inl ⟨⟨xs,q,Nat.le_refl _⟩,hd ys H p⟩
theorem a4C:bootBuiltins "enumerate" = some (.type "enumerate"):=by decide +kernel
def b0q(K:W.Frag)(ta:TA):TI:=fun σ H R=>ta σ H fun vs H1=>∃a,vs=[.ref a]∧(∃xs,SqL K H1 a xs)∧R (Ite K a) H1
section
variable {X:Cx}
theorem b04{elts:List Expr}{x1}{tpos:Pos}{l:Expr}{ta:TA}{p pos:Pos}(hg:Gl X "enumerate")(hm:X.mg "enumerate" = none)(ha:PA X [l] ta)(hs:starEach [l] X.env=[(false,eval l X.env)]:=by rfl) :
  PI X (.Tuple elts x1 tpos) (.Call (.Name "enumerate" p) [l] [] pos) (b0q X.K ta):=by
 intro pins s σ H R I h
 refine Call_ (M5 I hg hm a4C (PyProof.Rows.callWith_type1 (i7 (ha pos pins s σ H _ I h) fun us s1 ⟨vs,H1,I1,r1,q1⟩=>?_) hs rfl))
 obtain⟨a,e,⟨xs,hq⟩,q⟩:=q1
 subst e
 obtain⟨u,rfl,ru⟩:=r1.one
 cases (show u=Value.ref a from ru)
 obtain⟨its,rv,pl,hz⟩:=I1.list hq
 refine call_enumerate_list pl.isList fun h' q1 q2 q3 q4=>?_
 have I2:Inv X pins σ H1 { s1 with heap:=h' }:=I1.kept (t':=s1.toks) q4
 refine wpAny_pyIter_enum (s:={ s1 with heap:=h' }) q1 ?_
 refine⟨s1.heap.objs.size+1,[s1.heap.objs.size+1,s1.heap.objs.size],_,_,H1,rfl,I2,a7T a s1.heap.objs.size _ (Nat.succ_ne_self _),⟨⟨_,q1⟩,q2⟩,fun b hb=>?_,q⟩
 have hb':s1.heap.objs.size≤b:=by
  rcases List.mem_cons.mp hb with z | z
  ·rw[z];exact Nat.le_succ _
  ·have z:b=s1.heap.objs.size:=by simpa using z
   rw[z];exact Nat.le_refl _
 exact I1.fpOk hb' (I1.hok.fresh hb')
end
section
variable {X:Cx}
theorem a7V:bootBuiltins "max" = some (.builtin "max"):=by decide +kernel
end
section
variable {X:Cx}{K:W.Frag}
theorem j9(hK:X.K=K:=by rfl):IxR X (a8V K):=hK▸b0X
theorem t7(hK:X.K=K:=by rfl):IxR X (a8W K):=hK▸b21
theorem a4D(hK:X.K=K:=by rfl):SlR X (a8Y K):=hK▸b0Y
theorem b27(hK:X.K=K:=by rfl):M1 X (compareOp .In) (rIn K false):=hK▸a7O
theorem a7W(hK:X.K=K:=by rfl):M1 X (compareOp .NotIn) (rIn K true):=hK▸a4u
def a56(K:W.Frag):List V→Hp→VK→Prop:=fun xs H Q=>∃p ys,xs=[.ref p]∧(SqL K H p ys∨SqT K H p ys)∧Q (.int ys.length) H
theorem i8(hK:X.K=K:=by rfl):J0 X (.builtin "len") (a56 K):=hK▸a4v
def a57(K:W.Frag):List V→Hp→VK→Prop:=fun xs H Q=>∃p ys,xs=[.ref p]∧(SqL K H p ys∨SqT K H p ys)∧∀l,H l=none→Q (.ref l) (upd H l (.lst ys))
theorem T9(hK:X.K=K:=by rfl):J0 X (.type "list") (a57 K):=hK▸a4w
theorem a08(hK:X.K=K:=by rfl):J0 X (.builtin "isinstance") (a82 K):=hK▸a83
theorem K8{es:List Expr}{k:Nat}{t:TGs}{n:Nat}{pos:Pos}(hc:X.calm=true)(h:PGs X es t)(hK:X.K=K:=by rfl)(hn:(assignEach es X.env).length=n:=by rfl)(hst:(assignEach es X.env).findIdx? (·.1)=none:=by rfl) :
  PG X (.Tuple es k pos) (a8Q K n t):=hK▸b2P hc h hn hst
variable {o e:Expr}{es:List Expr}{to:TE}{t:TA}{name:Str}{apos cpos:Pos}{T id:String}{r:V→List V→Hp→VK→Prop}
theorem a09(pa:PlainAttrs T)(slot:Slot T name id)(hty:typeOf (.builtin id)=pure (.type "method_descriptor"))(hm:MtR X id r)(ho:PE X o to)(ha:PA X (e::es) t)(hK:X.K=K:=by rfl)
  (hbase:attributeBase o name X.env (eval o X.env)=eval o X.env:=by rfl)
  (hfew:((backTo cpos (starEach (e::es) X.env)).all (fun x=>!x.1) && (backToKw cpos (keywordEach [] X.env)).all (fun x=>x.1.isSome)
   && decide ((e::es).length+([]:List Keyword).length+(if([]:List Keyword).isEmpty then 0 else 1)<30))=true:=by rfl)
  (hline:(apos.endLine == cpos.line)=true:=by rfl) (hs:starEach (e::es) X.env=(false,eval e X.env)::starEach es X.env:=by rfl) (hplain:(backTo cpos (starEach es X.env)).any (·.1)=false:=by rfl) :
  PE X (.Call (.Attribute o name apos) (e::es) [] cpos) (tBM K T r to t):=hK▸b4h pa slot hty hm ho ha hbase hfew hline hs hplain
end
section
variable {X:Cx}
def b28(K:W.Frag):List V→Hp→VK→Prop:=fun xs H Q=>∃(a:Addr) (bs:List Bool),xs=[.ref a]∧SqL K H a (bs.map V.bl)∧Q (.bl (bs.any id)) H
theorem a3w:∀(bs:List Bool),(List.range bs.length).any (fun i=>bs.getD i false)=bs.any id
 | []=>rfl
 | b::r=>by
  rw[List.length_cons,List.range_succ_eq_map,List.any_cons,List.any_map,List.any_cons,← a3w r];rfl
theorem a86{bs:List Bool}{us:List Value}(r:Vals (bs.map V.bl) us){i:Nat}{v:Value}(h:us.toArray[i]? = some v):v=.bool (bs.getD i false):=by
 have h:us[i]? = some v:=by simpa using h
 have hi:i<bs.length:=by
  have:=(List.getElem?_eq_some_iff.mp h).1
  rw[← r.length,List.length_map]at this;exact this
 obtain⟨u,hu,ru⟩:=r.get (i:=i) (x:=.bl (bs.getD i false)) (by rw[List.getElem?_map,List.getElem?_eq_getElem hi];simp[hi])
 rw[h]at hu;cases hu
 exact ru
theorem a5z{prog:Program}{w:World}{A:Around}{bs:List Bool}{us:List Value}(r:Vals (bs.map V.bl) us):TruthOf prog w A (fun i v=>us.toArray[i]? = some v) (fun i=>bs.getD i false):=fun i v s Q E hP hQ=>by
 rw[a86 r hP]
 exact wpAny_truthy_bool hQ
theorem a7X{K:W.Frag}(hc:X.calm=true:=by rfl)(hK:X.K=K:=by rfl):J0 X (.builtin "any") (b28 K):=by
 subst hK
 intro pins s σ H xs us Q I r h
 obtain⟨a,bs,rfl,hq,q⟩:=h
 obtain⟨u,rfl,ru⟩:=r.one
 cases (show u=Value.ref a from ru)
 obtain⟨its,rv,pl,hz⟩:=I.list hq
 have hlt:a<s.heap.objs.size:=by obtain⟨_,e,_⟩:=pl.isList;exact Heap.lt_size e
 refine call_any_walk (wpAny_pyIter_list pl.isList ⟨_,_,_,_,_,_,_,rfl,Walks.list (A:=X.A.in1) (I.ok.hd hc) s.heap.objs.size a (Nat.ne_of_lt hlt) its.toArray,⟨⟨_,Heap.get?_push_size _ rfl,rfl,rfl⟩,pl.isList.push _⟩,a5z rv,fun h' tk hk=>?_⟩)
 have I':Inv X pins σ H { s with heap:=h',toks:=tk }:=I.kept fun b o e=>hk b o (by simpa using Nat.ne_of_lt (Heap.lt_size e)) (Heap.get?_push_of_some _ e)
 refine⟨.bl _,H,I',rfl,?_⟩
 rw[show its.toArray.size=bs.length by rw[List.size_toArray,← rv.length,List.length_map],a3w]
 exact q
theorem b29:bootBuiltins "any" = some (.builtin "any"):=by decide +kernel
end
theorem a1M{h h' B B':Heap}:∀{l:List Env},h.FunFrames B l→(∀b∈B8 l,h'.get? b=h.get? b)→(∀b,B.get? b=none→B'.get? b=none)→h'.FunFrames B' l
 | [],_,_,_=>trivial
 | env::k7,⟨k,⟨L,o,f,b,g,n⟩,r⟩,hk,hb=>by
  refine⟨k,⟨L,o,f,hb L b,(hk L ?_).trans g,n⟩,a1M r (fun c hc=>hk c ?_) hb⟩
  ·exact List.mem_filterMap.mpr ⟨env,List.mem_cons_self,f⟩
  ·obtain⟨e,he,q⟩:=List.mem_filterMap.mp hc
   exact List.mem_filterMap.mpr ⟨e,List.mem_cons_of_mem _ he,q⟩
section
variable {X:Cx}{E:XK}{pins pins':List (Addr×Obj)}{σ σ':St}{H3 H':Hp}{s3 s':Shared}{scope:Scope}{Nc:List Str}{C a:Addr}{fp:List Addr}{xe:Value→Shared→Prop}{cls:Value}{cx:Option Addr}{B:Heap}
theorem a6R(acc:XAcc X E)(I3:Inv X pins σ H3 s3)(hC:C=s3.heap.objs.size)(hfp:∀b∈fp,FpOk X pins H3 b)(I:Inv (m4 X scope Nc C s3 H3 fp xe) pins' σ' H' s')(x:XAt (m4 X scope Nc C s3 H3 fp xe) pins' H' s' a cls cx B .any)(hE:E cls cx H') :
  ∃m,s'.heap.Ns C m∧∀h',Heap.SameBut C s'.heap h'→∀cenv:Env,cenv.locals=C→wpAny (model X.prog X.w) X.A (passOn "comprehension.variables-let-go" (.ref a) cenv:Sem Value) (fun _ _=>False) X.xe { s' with heap:=h' }:=by
 obtain⟨m,hn,_⟩:=id I.loc
 refine⟨m,hn,fun h' hs cenv _=>?_⟩
 have J:Inv X pins σ H' s':=I3.call' (ch:=fp) (I.os.trans rfl) I.base I.hok I.bare fun b hb=>⟨(hfp b hb).2.2.2.1,(hfp b hb).2.1,(hfp b hb).2.2.2.2.1,(hfp b hb).2.2.2.2.2⟩
 have lt3:∀b o,s3.heap.get? b=some o→b≠C:=fun b o g z=>absurd (Heap.lt_size g) (by rw[z,hC];exact Nat.lt_irrefl _)
 have hCL:C≠X.env.locals:=by rw[hC];exact Nat.ne_of_gt I3.lt
 have hsz:X.s₀.heap.objs.size≤C:=by rw[hC];exact I3.sz
 have hcl:∀y c,X.env.cells.lookup y=some c→c≠C:=fun y c e z=>by
  obtain⟨v,o,ho,_⟩:=I3.cell y c e
  exact lt3 c o ho z
 have hpn:∀p∈X.pn++pins,p.1≠C:=fun p hp z=>lt3 p.1 p.2 (I3.pin p hp).1 z
 have hC0:H' C=none:=I.free
 have J':Inv X pins σ H' { s' with heap:=h' }:=J.turned (t':=s'.toks) (fun b o hb e=>(hs.2 b hb).trans e) hC0 hCL (.inr hsz) hcl hpn
 have nC:∀b∈B8 X.stack,b≠C:=fun b hb=>by
  obtain⟨_,o,g,_⟩:=I3.stack.mem hb
  exact lt3 b o g
 obtain⟨fl,oe,vs,T,oT,ts,⟨ge,ec,de⟩,⟨z1,z2⟩,⟨bT,nT⟩,gT,dT,z3⟩:=x.tr
 have nf:∀{b:Addr} {o:Obj} {ws:Array Value},s'.heap.get? b=some o→o.data=.fields ws→b≠C:=fun g d z=>by
  obtain⟨o,es,ep,ho,hd,_⟩:=id hn
  rw[z]at g
  have:s'.heap.get? C=some o:=ho
  rw[g]at this;cases this
  rw[d]at hd;cases hd
 have ge':=(hs.2 a (nf ge de)).trans ge
 have gT':=(hs.2 T (nf gT dT)).trans gT
 have hid:∀{b:Addr},B.get? b=none→(W.hideAll B [C]).get? b=none:=fun{b} q=>by
  cases w:(W.hideAll B [C]).get? b with
  | none=>rfl
  | some o=>rw[W.of_hideAll _ w]at q;cases q
 have st:(W.hideAll B [C]).StaysIn h':=fun b o e=>by
  have hb:b≠C:=fun z=>by rw[z,W.hideAll_none [C] (by simp)]at e;cases e
  exact(hs.2 b hb).trans (x.stays b o (W.of_hideAll _ e))
 have ff:h'.FunFrames (W.hideAll B [C]) X.stack:=a1M x.frames (fun b hb=>hs.2 b (nC b hb)) fun b q=>hid q
 have tr:TrX h' (W.hideAll B [C]) a cls cx fl:=⟨oe,vs,T,oT,ts,⟨ge',ec,de⟩,⟨z1,z2⟩,⟨hid bT,nT⟩,gT',dT,z3⟩
 have xx:XAt X pins H' { s' with heap:=h' } a cls cx (W.hideAll B [C]) .any:=by
  refine⟨x.free,st,hid x.fresh,ff,fun b o e i n=>?_,fl,tr⟩
  have hb:b≠C:=by
   rcases i with i | ⟨_,o',i⟩ | ⟨p,hp,q⟩
   ·exact fun z=>i (by rw[z];exact hC0)
   ·exact Nat.ne_of_lt (Nat.lt_of_lt_of_le (Heap.lt_size i) hsz)
   ·rw[← q];exact hpn p hp
  refine W.hideAll_get _ (x.cov b o ((hs.2 b hb).symm.trans e) ?_ n) (by simpa using hb)
  by_cases hh:H' b=none
  ·refine .inr (.inl ⟨fun hf=>?_,?_⟩)
   ·obtain⟨_,_,_,f4,_,f6⟩:=hfp b hf
    rcases i with i | ⟨hx,o',i⟩ | ⟨p,hp,q⟩
    ·exact i hh
    ·rcases f4 with f4 | f4
     ·exact hx f4
     ·exact absurd (Nat.lt_of_lt_of_le (Heap.lt_size i) f4) (Nat.lt_irrefl _)
    ·exact f6 p hp q
   ·rcases i with i | ⟨hx,o',i⟩ | ⟨p,hp,q⟩
    ·exact absurd hh i
    ·exact I3.base.there b o' i hx
    ·exact⟨p.2,by rw[← q];exact(I3.pin p hp).1⟩
  ·exact .inl hh
 unfold PySem.passOn
 refine wpAny_bind (wpAny_field (s:={ s' with heap:=h' }) ge' de z1 ?_)
 rw[if_neg (by simp)]
 refine wpAny_bind (a4x (s:={ s' with heap:=h' }) st ff tr fun h2 k=>wpAny_throw ?_)
 exact acc pins σ H' _ a cls cx _ .any (J'.exc xx.cov k.1 k.2.2.2) ⟨xx.free,k.1,xx.fresh,k.2.1,xx.cov' J' k.1,_,k.2.2.1⟩ hE
end
def a4E(X:Cx)(scope:Scope)(Nc:List Str)(C:Addr)(H3:Hp)(fp:List Addr)(pins:List (Addr×Obj))(σ:St)(E:XK):Value→Shared→Prop:=fun e s' =>
 ∃s3 a cls cx H' B ph pins' σ',e=.ref a∧Inv X pins σ H3 s3∧C=s3.heap.objs.size∧(∀b∈fp,FpOk X pins H3 b)∧Inv (m4 X scope Nc C s3 H3 fp fun _ _=>False) pins' σ' H' s'∧XAt (m4 X scope Nc C s3 H3 fp fun _ _=>False) pins' H' s' a cls cx B ph∧E cls cx H'
section
variable {X:Cx}{E:XK}{elt tg iter:Expr}{ifs:List Expr}{scope:Scope}{pos:Pos}{Nc:List Str}{k:Nat}{js:List Nat}{wi:TI}{g:TG}{tf:TT}{te:TE}
theorem a87{pins:List (Addr×Obj)}{σ:St}{H3:Hp}{s3:Shared}{C:Addr}{fp:List Addr}(I3:Inv X pins σ H3 s3)(hC:C=s3.heap.objs.size)(hfp:∀b∈fp,FpOk X pins H3 b):XAcc (m4 X scope Nc C s3 H3 fp (a4E X scope Nc C H3 fp pins σ E)) E :=
 fun pins' σ' H' s' a cls cx B ph I x hE=>⟨s3,a,cls,cx,H',B,ph,pins',σ',rfl,I3,hC,hfp,I.wish _,⟨x.free,x.stays,x.fresh,x.frames,x.cov,x.tr⟩,hE⟩
theorem a6S{pins:List (Addr×Obj)}{σ:St}{H3:Hp}{C F:Addr}{fp:List Addr}{env0:Env}{out0:List Env}{R:Value→Shared→Prop}(acc:XAcc X E)(hs0:X.stack=env0::out0)(h0:env0.frame=X.env.frame)(hF:X.env.frame=some F)
  (hR:∀a s',(∃m,s'.heap.Ns C m∧∀h',Heap.SameBut C s'.heap h'→∀cenv:Env,cenv.locals=C→wpAny (model X.prog X.w) X.A (passOn "comprehension.variables-let-go" (.ref a) cenv:Sem Value) (fun _ _=>False) X.xe { s' with heap:=h' })→R (.ref a) s') :
  ∀e s',a4E X scope Nc C H3 fp pins σ E e s'→notedBy (model X.prog X.w) X.A (compEnvC scope (y3 X.env.cells scope.names []) C X.env) R e s':=by
 rintro e s' ⟨s3,a,cls,cx,H',B,ph,pins',σ',rfl,I3,hC,hfp,I,x,hE⟩
 unfold notedBy
 exact a55 (X:=m4 X scope Nc C s3 H3 fp fun _ _=>False) I.ok.frames hs0 h0 hF I x fun h1 I1 x1=>hR a _ (a6R acc I3 hC hfp I1 x1 hE)
theorem a88{env0:Env}{out0:List Env}{F:Addr}(acc:XAcc X E)(hc:X.calm=true)(S:CompSc X.env.scope scope X.N Nc k js)(hi:PI X tg iter wi)(hg:∀C s3 H3 fp xe,PG (m4 X scope Nc C s3 H3 fp xe) tg g)(hf:∀C s3 H3 fp xe,PF (m4 X scope Nc C s3 H3 fp xe) ifs tf)
  (he:∀C s3 H3 fp xe,XAcc (m4 X scope Nc C s3 H3 fp xe) E→PE (m4 X scope Nc C s3 H3 fp xe) elt te) (hs:∀x,foldedSetIterable iter X.env x=pure x:=by intro _;rfl)
  (hs0:X.stack=env0::out0:=by rfl) (h0:env0.frame=X.env.frame:=by rfl) (hF:X.env.frame=some F:=by rfl):PE X (.ListComp elt [⟨tg,iter,ifs,0⟩] scope pos) (Y8 wi g tf te k js):=by
 intro pins s σ H Q I h
 rw[eval_ListComp]
 refine wpAny_comprehension_free (use:=none) rfl hs (S3 (a0z I S)) S.kind S.names (i7 (hi pins s σ H _ I h) fun v s1 h1=>i7 h1 fun itv s2 h2=>?_)
 obtain⟨it,fp,tn,J,H2,rfl,I2,T,st2,f2,hR⟩:=h2
 refine a0A (RR:=fun acc C=>compPost (model X.prog X.w) X.A X.xe none (EP X pins σ Q) acc C) (Fin:=fun D H'=>Q (.ref D) H') hc S hg hf
  (fun C D H3=>⟨a4E X scope Nc C H3 fp pins σ E,a6S acc hs0 h0 hF fun a s' z=>z,fun s3 I3 hC hfp=>he _ _ _ _ _ (a87 I3 hC hfp)⟩) I2 T st2 f2 hR ?_
 intro D C H' s' m' I' hn hC hCL hsz hcl hpn q
 exact⟨m',hn,fun h' hs'=>⟨.ref D,H',I'.turned (t':=s'.toks) (fun b o hb e=>(hs'.2 b hb).trans e) hC hCL (.inr hsz) hcl hpn,rfl,q⟩⟩
end
def Itz(K:W.Frag)(a b:Addr):It :=
 ⟨fun i H=>∃xs ys x y,SqL K H a xs∧SqL K H b ys∧xs[i]? = some x∧ys[i]? = some y,fun i H v H'=>∃p x y,v=.ref p∧H p=none∧H'=upd H p (.tup [x,y])∧(∀xs,SqL K H a xs→xs[i]? = some x)∧∀ys,SqL K H b ys→ys[i]? = some y,
  fun i H=>∃xs ys,SqL K H a xs∧SqL K H b ys∧(xs.length≤i∨ys.length≤i)⟩
theorem a89{P:Program}{w:World}{K:W.Frag}{elts:List Expr}{x1}{tpos:Pos}(l1 l2 z TI TO i1 i2:Addr)(D:ZipApart z TI TO i1 i2 l1 l2):Turn P w K (.Tuple elts x1 tpos) (Itz K l1 l2) [z,TI,TO,i1,i2] z
  (fun i h=>IsZip h z TI TO .none∧IsPair h TI (.ref i1) (.ref i2)∧(∃a b,IsPair h TO a b)∧h.IsListIter i1 l1 i∧h.IsListIter i2 l2 i) where
 mem:=by simp
 obj:=fun i h ⟨hz,hTI,⟨a,b,hTO⟩,h1,h2⟩ c hc=>by
  simp only[List.mem_cons,List.not_mem_nil,or_false]at hc
  rcases hc with rfl | rfl | rfl | rfl | rfl
  ·exact⟨_,hz,fun v z=>nomatch (show Data.fields _=Data.cell v from z)⟩
  ·exact⟨_,hTI,fun v z=>nomatch (show Data.seq _ _=Data.cell v from z)⟩
  ·exact⟨_,hTO,fun v z=>nomatch (show Data.seq _ _=Data.cell v from z)⟩
  ·obtain⟨o,e1,c,d⟩:=h1;exact⟨o,e1,fun v z=>by rw[d]at z;cases z⟩
  ·obtain⟨o,e1,c,d⟩:=h2;exact⟨o,e1,fun v z=>by rw[d]at z;cases z⟩
 keep:=fun i h h' ⟨hz,hTI,⟨a,b,hTO⟩,h1,h2⟩ k=>⟨k z (by simp) _ hz,k TI (by simp) _ hTI,⟨a,b,k TO (by simp) _ hTO⟩,h1.at fun o q=>k i1 (by simp) o q,h2.at fun o q=>k i2 (by simp) o q⟩
 item:=by
  intro X hP hw hK hc i pins s σ H E I hf st hg
  subst hP hw hK
  obtain⟨hz,hTI,⟨a,b,hTO⟩,h1,h2⟩:=st
  obtain⟨xs,ys,x,y,hq,hq',hx,hy⟩:=hg
  obtain⟨its,rv,p,_⟩:=I.list hq
  obtain⟨u,hu,ru⟩:=rv.get hx
  obtain⟨its',rv',p',_⟩:=I.list hq'
  obtain⟨u',hu',ru'⟩:=rv'.get hy
  refine wpAny_pyNext_zip_item D hz hTI hTO h1 h2 p.isList p'.isList (x:=u) (y:=u') (by simpa using hu) (by simpa using hu') fun h' q1 q2 q3 q4 q5 q6 q7=>⟨_,rfl,?_⟩
  refine wpAny_letOwnedTupleGo_zip (s:={ s with heap:=h',toks:=s.toks }) q1 fun h3 r1 r2=>?_
  have nez:s.heap.objs.size≠z:=Nat.ne_of_gt (Heap.lt_size hz)
  have k2:∀c o,c ∉ [z,TI,TO,i1,i2]→s.heap.get? c=some o→h3.get? c=some o:=fun c o hb q =>
   (r2.2 c fun e=>hb (by simp[e])).trans (q7 c o (fun e=>hb (by simp[e])) (fun e=>hb (by simp[e])) (fun e=>hb (by simp[e])) (fun e=>hb (by simp[e])) q)
  have I1:Inv X pins σ (upd H s.heap.objs.size (.tup [x,y])) { s with heap:=h3,toks:=s.toks }:=I.turnedL k2 hf (Nat.le_refl _)
   ⟨by show 2≤sizeLine;decide,[u,u'],.cons ru (.cons ru' .nil),⟨_,(r2.2 _ nez).trans q5,rfl,_,rfl⟩⟩
  refine⟨.ref s.heap.objs.size,_,I1,rfl,⟨_,x,y,rfl,I.fresh,rfl,(fun zs hs=>by rw[I.list_inj hs hq];exact hx),fun zs hs=>by rw[I.list_inj hs hq'];exact hy⟩,
   ⟨r1,(r2.2 _ D.TIz).trans (q7 _ _ D.TIz D.TITO D.TIi1 D.TIi2 hTI),⟨_,_,(r2.2 _ D.TOz).trans q2⟩,q3.extBut r2.extBut D.i1z,q4.extBut r2.extBut D.i2z⟩,fun c hc=>?_⟩
  have:∃o,s.heap.get? c=some o:=by
   simp only[List.mem_cons,List.not_mem_nil,or_false]at hc
   rcases hc with rfl | rfl | rfl | rfl | rfl
   ·exact⟨_,hz⟩
   ·exact⟨_,hTI⟩
   ·exact⟨_,hTO⟩
   ·obtain⟨o,e1,_⟩:=h1;exact⟨o,e1⟩
   ·obtain⟨o,e1,_⟩:=h2;exact⟨o,e1⟩
  obtain⟨o,e1⟩:=this
  rw[b9 (Nat.ne_of_lt (Heap.lt_size e1))]
  exact(hf c hc).1
 done:=by
  intro X hP hw hK hc i pins s σ H E I hf st hg
  subst hP hw hK
  obtain⟨hz,hTI,⟨a,b,hTO⟩,h1,h2⟩:=st
  obtain⟨xs,ys,hq,hq',hx⟩:=hg
  obtain⟨its,rv,p,_⟩:=I.list hq
  obtain⟨its',rv',p',_⟩:=I.list hq'
  have hl:=rv.length
  have hl':=rv'.length
  refine wpAny_pyNext_zip_end (I.ok.hd hc) D hz hTI hTO h1 h2 p.isList p'.isList (hx.imp (fun h=>by simp;omega) fun h=>by simp;omega) fun h' eb=>⟨rfl,I.turnedN (t':=s.toks) (fun c o hb q=>?_) hf⟩
  exact eb c o (fun e=>hb (by simp[e])) (fun e=>hb (by simp[e])) (fun e=>hb (by simp[e])) (fun e=>hb (by simp[e])) q
 self:=fun _ _ _ _ _ st h=>wpAny_pyIter_zip st.1 h
theorem a8_{K:W.Frag}{a b:Addr}{xs ys:List V}{g:TG}{tf:TT}{te:TE}{k:Nat}{σ0:St}{D:Addr}{Fin:Hp→Prop}{H1:Hp}(Pv:Nat→List V→Hp→Prop)(h0:Pv 0 [] (upd H1 D (.lst [])))(hl:∀i zs H,Pv i zs H→SqL K H a xs∧SqL K H b ys)
  (hs:∀i x y zs H p,xs[i]? = some x→ys[i]? = some y→Pv i zs H→H p=none→g (.ref p) σ0 (upd H p (.tup [x,y])) fun σ2 H2=>(σ2.drop k=σ0.drop k∧σ2.length=σ0.length)∧tf σ2 H2 fun b H3 =>
   if b=true then te σ2 H3 fun y H4=>H4 D=some (.lst zs)∧zs.length<sizeLine∧Pv (i+1) (zs++[y]) (upd H4 D (.lst (zs++[y])))else Pv (i+1) zs H3)
  (hd:∀zs H,Pv (min xs.length ys.length) zs H→Fin H):J5 (Itz K a b) g tf te k σ0 D Fin H1:=by
 refine⟨fun i m zs H=>m=min xs.length ys.length-i∧i≤min xs.length ys.length∧Pv i zs H,⟨min xs.length ys.length,by simp,Nat.zero_le _,h0⟩,?_⟩
 rintro i m zs H ⟨rfl,hi,p⟩
 obtain⟨q,q'⟩:=hl i zs H p
 by_cases hlt:i<min xs.length ys.length
 ·have h1:i<xs.length:=by omega
  have h2:i<ys.length:=by omega
  refine .inr ⟨⟨xs,ys,xs[i],ys[i],q,q',by simp[h1],by simp[h2]⟩,Pv (i+1),fun ys' H' z=>⟨_,by omega,rfl,hlt,z⟩,fun v H' y=>?_⟩
  obtain⟨c,x,y',rfl,hc,rfl,e1,e2⟩:=y
  exact hs i x y' zs _ c (e1 xs q) (e2 ys q') p hc
 ·have e:i=min xs.length ys.length:=by omega
  subst e
  exact .inl ⟨⟨xs,ys,q,q',by omega⟩,hd zs H p⟩
theorem b2_:bootBuiltins "zip" = some (.type "zip"):=by decide +kernel
def b3a(K:W.Frag)(ta:TA):TI:=fun σ H R=>ta σ H fun vs H1=>∃a b,vs=[.ref a,.ref b]∧(∃xs,SqL K H1 a xs)∧(∃ys,SqL K H1 b ys)∧R (Itz K a b) H1
section
variable {X:Cx}
theorem b3b{elts:List Expr}{x1}{tpos:Pos}{l l':Expr}{ta:TA}{p pos:Pos}(hg:Gl X "zip")(hm:X.mg "zip" = none)(ha:PA X [l,l'] ta)(hs:starEach [l,l'] X.env=(false,eval l X.env)::starEach [l'] X.env:=by rfl)(hpl:(backTo pos (starEach [l'] X.env)).any (·.1)=false:=by rfl) :
  PI X (.Tuple elts x1 tpos) (.Call (.Name "zip" p) [l,l'] [] pos) (b3a X.K ta):=by
 intro pins s σ H R I h
 refine Call_ (M5 I hg hm b2_ (PyProof.Rows.callWith_type1 (i7 (ha pos pins s σ H _ I h) fun us s1 ⟨vs,H1,I1,r1,q1⟩=>?_) hs hpl))
 obtain⟨a,b,e,⟨xs,hq⟩,⟨ys,hq'⟩,q⟩:=q1
 subst e
 obtain⟨u,u',rfl,ru,ru'⟩:∃u u',us=[u,u']∧RelV (.ref a) u∧RelV (.ref b) u':=by
  cases r1 with
  | cons r t=>cases t with
   | cons r' t'=>cases t';exact⟨_,_,rfl,r,r'⟩
 cases (show u=Value.ref a from ru)
 cases (show u'=Value.ref b from ru')
 obtain⟨its,rv,pl,hz⟩:=I1.list hq
 obtain⟨its',rv',pl',hz'⟩:=I1.list hq'
 refine call_zip_2 pl.isList pl'.isList fun h' q1 q2 q3 q4 q5 q6 q7=>?_
 have I2:Inv X pins σ H1 { s1 with heap:=h' }:=I1.kept (t':=s1.toks) q7
 refine wpAny_pyIter_zip (s:={ s1 with heap:=h' }) q1 ?_
 have la:a<s1.heap.objs.size:=by obtain⟨o,n,e,_⟩:=pl;exact Heap.lt_size e
 have lb:b<s1.heap.objs.size:=by obtain⟨o,n,e,_⟩:=pl';exact Heap.lt_size e
 refine⟨s1.heap.objs.size+4,[s1.heap.objs.size+4,s1.heap.objs.size+2,s1.heap.objs.size+3,s1.heap.objs.size,s1.heap.objs.size+1],_,_,H1,rfl,I2,a89 a b (s1.heap.objs.size+4) (s1.heap.objs.size+2) (s1.heap.objs.size+3) s1.heap.objs.size (s1.heap.objs.size+1) ?_,⟨q1,q2,⟨_,_,q3⟩,q4,q5⟩,fun c hc=>?_,q⟩
 ·constructor<;> (simp only[Addr,ne_eq]at *;omega)
 ·have hb':s1.heap.objs.size≤c:=by
   simp only[List.mem_cons,List.not_mem_nil,or_false]at hc
   rcases hc with rfl | rfl | rfl | rfl | rfl<;> (simp only[Addr]at *;omega)
  exact I1.fpOk hb' (I1.hok.fresh hb')
end
theorem a2q:∀{ns:List Int} {us:List Value},Vals (ns.map V.int) us→∃ps:List (Int×Tok),us=ps.map (fun p=>Value.int p.1 p.2)∧ps.map (·.1)=ns
 | [],_,.nil=>⟨[],rfl,rfl⟩
 | n::ns,_,.cons r t=>by
  obtain⟨tk,rfl⟩:=r
  obtain⟨ps,rfl,e⟩:=a2q t
  exact⟨(n,tk)::ps,rfl,by rw[List.map_cons,e]⟩
def Itg(lo st:Int)(n:Nat):It:=⟨fun i _=>i<n,fun i H x H'=>H'=H∧x=.int (lo+i*st),fun i _=>n≤i⟩
theorem a5A{P:Program}{w:World}{K:PySem.W.Frag}{tg:Expr}(it:Addr)(lo st:Int)(n:Nat):Turn P w K tg (Itg lo st n) [it] it (fun i h=>IsRangeIter h it (lo+(i:Nat)*st) ((n:Int)-(i:Nat)) st) where
 mem:=by simp
 obj:=fun i h st b hb=>by
  have e:b=it:=by simpa using hb
  subst e
  exact⟨_,st,fun v z=>by
   have z':Data.fields _=Data.cell v:=z
   cases z'⟩
 keep:=fun i h h' st k=>k it (by simp) _ st
 item:=by
  intro X hP hw hK hc i pins s σ H E I hf hst hg
  subst hP hw hK
  obtain⟨f0,f1,f2,f3,f4,f5⟩:=hf it (by simp)
  have W:=Walks.range (prog:=X.prog) (w:=X.w) (I.ok.hd hc) it lo st n
  refine W.item i s _ _ hg hst fun v h' tk hv st' kk=>?_
  obtain⟨t,rfl⟩:=hv
  have I1:Inv X pins σ H { s with heap:=h',toks:=tk }:=I.turned (fun b o hb e=>kk b o (by simpa using hb) e) f0 f1 f3 f4 f5
  exact⟨_,rfl,a6G (s:={ s with heap:=h',toks:=tk }) (n := "range_iterator") st' rfl rfl (by decide) ⟨.int (lo+i*st),H,I1,⟨t,rfl⟩,⟨rfl,rfl⟩,st',fun b hb=>(hf b hb).1⟩⟩
 done:=by
  intro X hP hw hK hc i pins s σ H E I hf hst hg
  subst hP hw hK
  obtain⟨f0,f1,f2,f3,f4,f5⟩:=hf it (by simp)
  exact wpAny_pyNext_range_end (I.ok.hd hc) hst (by have:n≤i:=hg;omega) fun h' eb=>⟨rfl,I.turned (t':=s.toks) (fun b o hb e=>eb b o hb e) f0 f1 f3 f4 f5⟩
 self:=fun _ _ _ _ _ st h=>wpAny_pyIter_rangeiter st h
def Gd(n:Nat)(lt:Nat→Nat→Bool){α:Type}:KasT α→(α→Prop)→Prop
 | .ret a,P=>P a
 | .ask i j k,P=>i<n∧j<n∧Gd n lt (k (lt i j)) P
theorem Gd.mono{n:Nat}{lt:Nat→Nat→Bool}{α:Type}{P P':α→Prop}(h:∀a,P a→P' a):∀{t:KasT α},Gd n lt t P→Gd n lt t P'
 | .ret a,g=>h a g
 | .ask i j k,g=>⟨g.1,g.2.1,Gd.mono h g.2.2⟩
theorem Gd.bind{n:Nat}{lt:Nat→Nat→Bool}{α β:Type}{P:β→Prop}{f:α→KasT β}:∀{t:KasT α},Gd n lt t (fun a=>Gd n lt (f a) P)→Gd n lt (t.bind f) P
 | .ret a,g=>g
 | .ask i j k,g=>⟨g.1,g.2.1,Gd.bind (t:=k (lt i j)) g.2.2⟩
theorem Gd.wp{n:Nat}{lt:Nat→Nat→Bool}{α:Type}{cmp:Nat→Nat→(Bool→Shared→Prop)→Shared→Prop}{s:Shared}(hc:∀i j C,i<n→j<n→C (lt i j) s→cmp i j C s){P:α→Prop}{Q:α→Shared→Prop}(q:∀a,P a→Q a s):∀{t:KasT α},Gd n lt t P→t.kasWp cmp Q s
 | .ret a,g=>q a g
 | .ask i j k,g=>hc i j _ g.1 g.2.1 (Gd.wp hc q (t:=k (lt i j)) g.2.2)
def ga(p:Array Nat)(k:Nat):Nat:=p.getD k 0
theorem a2s(p:Array Nat)(k:Nat):ga p k=(p[k]?).getD 0:=by
 unfold ga;simp[Array.getD_eq_getD_getElem?]
structure TPre(lt:Nat→Nat→Bool):Prop where
 irr:∀i,lt i i=false
 tr:∀i j k,lt j i=false→lt k j=false→lt k i=false
 asy:∀i j,lt i j=true→lt j i=false
section
variable {n:Nat}{lt:Nat→Nat→Bool}
def Up(lt:Nat→Nat→Bool)(p:Array Nat)(m:Nat):Prop:=∀i j,i≤j→j<m→lt (ga p j) (ga p i)=false
def Dn(lt:Nat→Nat→Bool)(p:Array Nat)(m:Nat):Prop:=∀i j,i≤j→j<m→lt (ga p i) (ga p j)=false
def Pmn(n:Nat)(p:Array Nat):Prop:=p.toList.Perm (List.range n)
theorem Pmn.size{p:Array Nat}(h:Pmn n p):p.size=n:=by have:=h.length_eq;simpa using this
theorem Pmn.bd{p:Array Nat}(h:Pmn n p){k:Nat}(hk:k<n):ga p k<n:=by
 have hs:=h.size
 have:ga p k∈p.toList:=by
  have e:ga p k=p[k]'(by omega):=by unfold ga;simp[Array.getD,hs,hk]
  rw[e];exact Array.getElem_mem_toList _
 exact List.mem_range.mp (h.mem_iff.mp this)
theorem Pmn.rev{p:Array Nat}(h:Pmn n p)(i j:Nat):Pmn n (kas_rev p i j):=((Array.perm_iff_toList_perm.mp (mirror_perm p i j _)).trans h)
theorem Pmn.bub{p:Array Nat}(h:Pmn n p)(i j:Nat):Pmn n (bubble p i j):=((Array.perm_iff_toList_perm.mp (bubble_perm p i j)).trans h)
theorem a0_{p:Array Nat}{i j:Nat}(hj:j≤p.size)(k:Nat):ga (kas_rev p i j) k=if i≤k∧k<j then ga p (i+j-1-k)else ga p k:=by
 rw[a2s,kas_rev,getElem?_mirror_all hj]
 split<;>rw[a2s]
theorem b3c{p:Array Nat}{src d:Nat}(hs:src<p.size)(hd:d≤src)(k:Nat):ga (bubble p src d) k=if k=src-d then ga p src else if src-d<k∧k≤src then ga p (k-1)else ga p k:=by
 rw[a2s,getElem?_bubble hs d hd]
 split
 ·rw[a2s]
 ·split<;>rw[a2s]
theorem a4F(T:TPre lt){p:Array Nat}(hp:Pmn n p):∀(f k:Nat),1≤k→k+f≤n→Up lt p k→Gd n lt (kas_asc p f k) (fun m=>k≤m∧m≤k+f∧Up lt p m∧(m<k+f→lt (ga p m) (ga p (m-1))=true))
 | 0,k,_,_,u=>⟨Nat.le_refl _,Nat.le_refl _,u,fun z=>absurd z (by omega)⟩
 | f+1,k,h1,h2,u=>by
  refine⟨hp.bd (by omega),hp.bd (by omega),?_⟩
  cases c:lt (p.getD k 0) (p.getD (k-1) 0)with
  | true=>simp only[if_true];exact⟨Nat.le_refl _,by omega,u,fun _=>c⟩
  | false =>
   simp only[Bool.false_eq_true,if_false]
   refine(a4F T hp f (k+1) (by omega) (by omega) fun i j hij hj=>?_).mono fun m h=>⟨by omega,by omega,h.2.2.1,fun z=>h.2.2.2 (by omega)⟩
   by_cases hjk:j<k
   ·exact u i j hij hjk
   ·have e:j=k:=by omega
    subst e
    by_cases hik:i=j
    ·subst hik;exact T.irr _
    ·exact T.tr _ _ _ (u i (j-1) (by omega) (by omega)) c
theorem a1y(T:TPre lt):∀(f:Nat) (p:Array Nat) (k q:Nat),Pmn n p→q+1≤k→k+f≤n→Dn lt p k→(∀i,k-(q+1)≤i→i<k→lt (ga p (k-1)) (ga p i)=false∧lt (ga p i) (ga p (k-1))=false) →
  Gd n lt (kas_desc f p k q) (fun r=>Pmn n r.1∧k≤r.2.1∧r.2.1≤k+f∧r.2.2+1≤r.2.1∧Dn lt r.1 r.2.1∧∀i,r.2.1-(r.2.2+1)≤i→i<r.2.1→lt (ga r.1 (r.2.1-1)) (ga r.1 i)=false∧lt (ga r.1 i) (ga r.1 (r.2.1-1))=false)
 | 0,p,k,q,hp,hq,hk,d,eq=>⟨hp,Nat.le_refl _,Nat.le_refl _,hq,d,eq⟩
 | f+1,p,k,q,hp,hq,hk,d,eq=>by
  refine⟨hp.bd (by omega),hp.bd (by omega),?_⟩
  have ext:∀p':Array Nat,Dn lt p' k→(lt (ga p' (k-1)) (ga p' k)=false)→Dn lt p' (k+1):=fun p' d' c i j hij hj=>by
   by_cases hjk:j<k
   ·exact d' i j hij hjk
   ·have e:j=k:=by omega
    subst e
    by_cases hik:i=j
    ·subst hik;exact T.irr _
    ·exact T.tr _ _ _ c (d' i (j-1) (by omega) (by omega))
  cases c:lt (p.getD k 0) (p.getD (k-1) 0)with
  | true =>
   simp only[if_true]
   have c':lt (ga p (k-1)) (ga p k)=false:=T.asy _ _ c
   have one:∀p':Array Nat,∀i,k+1-(0+1)≤i→i<k+1→lt (ga p' (k+1-1)) (ga p' i)=false∧lt (ga p' i) (ga p' (k+1-1))=false:=fun p' i h1 h2=>by
    have e:i=k+1-1:=by omega
    rw[e];exact⟨T.irr _,T.irr _⟩
   by_cases hq0:q > 0
   ·rw[if_pos hq0]
    have hps:=hp.size
    have gr:=a0_ (p:=p) (i:=k-(q+1)) (j:=k) (by omega)
    have eqv:∀i,i<k→lt (ga (kas_rev p (k-(q+1)) k) i) (ga p i)=false∧lt (ga p i) (ga (kas_rev p (k-(q+1)) k) i)=false:=fun i hi=>by
     rw[gr]
     split
     ·rename_i z
      have a:=eq (k-(q+1)+k-1-i) (by omega) (by omega)
      have b:=eq i z.1 z.2
      exact⟨T.tr _ _ _ b.1 a.2,T.tr _ _ _ a.1 b.2⟩
     ·exact⟨T.irr _,T.irr _⟩
    have gk:ga (kas_rev p (k-(q+1)) k) k=ga p k:=by rw[gr,if_neg (by omega)]
    have dr:Dn lt (kas_rev p (k-(q+1)) k) k:=fun i j hij hj=>T.tr _ _ _ (T.tr _ _ _ (eqv j hj).2 (d i j hij hj)) (eqv i (by omega)).1
    exact(a1y T f _ (k+1) 0 (hp.rev _ _) (by omega) (by omega) (ext _ dr (by rw[gk];exact T.tr _ _ _ c' (eqv (k-1) (by omega)).1)) (one _)).mono fun r h=>⟨h.1,by omega,by omega,h.2.2.2⟩
   ·rw[if_neg hq0]
    exact(a1y T f _ (k+1) 0 hp (by omega) (by omega) (ext _ d c') (one _)).mono fun r h=>⟨h.1,by omega,by omega,h.2.2.2⟩
  | false =>
   simp only[Bool.false_eq_true,if_false]
   refine⟨hp.bd (by omega),hp.bd (by omega),?_⟩
   cases e:lt (p.getD (k-1) 0) (p.getD k 0)with
   | true=>simp only[if_true];exact⟨hp,Nat.le_refl _,Nat.le_add_right _ _,hq,d,eq⟩
   | false =>
    simp only[Bool.false_eq_true,if_false]
    refine(a1y T f p (k+1) (q+1) hp (by omega) (by omega) (ext _ d e) fun i h1 h2=>?_).mono fun r h=>⟨h.1,by omega,by omega,h.2.2.2⟩
    rw[Nat.add_sub_cancel]
    by_cases hik:i=k
    ·subst hik;exact⟨T.irr _,T.irr _⟩
    ·have a:=eq i (by omega) (by omega)
     exact⟨T.tr _ _ _ a.1 c,T.tr _ _ _ e a.2⟩
theorem a4G(T:TPre lt){p:Array Nat}{k:Nat}(hp:Pmn n p)(h1:1≤k)(hk:k≤n)(d:Dn lt p k):Gd n lt (kas_tail3 k n p) (fun r=>Pmn n r.2∧1≤r.1∧r.1≤n∧Up lt r.2 r.1):=by
 have hps:=hp.size
 have gr:=a0_ (p:=p) (i:=0) (j:=k) (by omega)
 refine Gd.bind ((a4F T (hp.rev 0 k) (n-k) k h1 (by omega) fun i j hij hj=>?_).mono fun m h=>⟨hp.rev 0 k,by show 1≤m;omega,by show m≤n;omega,h.2.2.1⟩)
 rw[gr,gr,if_pos (by omega),if_pos (by omega)]
 exact d _ _ (by omega) (by omega)
theorem a1N(T:TPre lt){p:Array Nat}{k:Nat}(hp:Pmn n p)(hk:k+1≤n)(d:Dn lt p (k+1)):Gd n lt (kas_descPart k n p) (fun r=>Pmn n r.2∧1≤r.1∧r.1≤n∧Up lt r.2 r.1):=by
 refine Gd.bind ((a1y T (n-(k+1)) p (k+1) 0 hp (by omega) (by omega) d fun i h1 h2=>?_).mono fun r h=>?_)
 ·have e:i=k+1-1:=by omega
  rw[e];exact⟨T.irr _,T.irr _⟩
 ·obtain⟨p',m,q⟩:=r
  obtain⟨hp',hm1,hm2,hq,d',eq⟩:=h
  dsimp only at *
  have hps:=hp'.size
  split
  ·have gr:=a0_ (p:=p') (i:=m-(q+1)) (j:=m) (by omega)
   have eqv:∀i,i<m→lt (ga (kas_rev p' (m-(q+1)) m) i) (ga p' i)=false∧lt (ga p' i) (ga (kas_rev p' (m-(q+1)) m) i)=false:=fun i hi=>by
    rw[gr]
    split
    ·rename_i z
     have a:=eq (m-(q+1)+m-1-i) (by omega) (by omega)
     have b:=eq i z.1 z.2
     exact⟨T.tr _ _ _ b.1 a.2,T.tr _ _ _ a.1 b.2⟩
    ·exact⟨T.irr _,T.irr _⟩
   exact a4G T (hp'.rev _ _) (by omega) (by omega) fun i j hij hj=>T.tr _ _ _ (T.tr _ _ _ (eqv j hj).2 (d' i j hij hj)) (eqv i (by omega)).1
  ·exact a4G T hp' (by omega) (by omega) d'
theorem a9a(T:TPre lt){p:Array Nat}(hp:Pmn n p)(h1:1≤n):Gd n lt (kas_count n p) (fun r=>Pmn n r.2∧1≤r.1∧r.1≤n∧Up lt r.2 r.1):=by
 have hps:=hp.size
 refine Gd.bind ((a4F T hp (n-1) 1 (Nat.le_refl _) (by omega) fun i j hij hj=>?_).mono fun m h=>?_)
 ·have e:i=j:=by omega
  rw[e];exact T.irr _
 ·obtain⟨hm1,hm2,u,z⟩:=h
  split
  ·exact⟨hp,hm1,by omega,u⟩
  ·rename_i ne
   have hlt:m<n:=by
    have:m≠n:=fun q=>ne (by rw[q];exact beq_self_eq_true _)
    omega
   have zl:=z (by omega)
   split
   ·rename_i m1
    refine⟨hp.bd (by omega),hp.bd (by omega),?_⟩
    cases c:lt (p.getD 0 0) (p.getD (m-1) 0)with
    | true=>simp only[if_true];exact⟨hp,hm1,by omega,u⟩
    | false =>
     simp only[Bool.false_eq_true,if_false]
     have gr:=a0_ (p:=p) (i:=0) (j:=m) (by omega)
     refine a1N T (hp.rev 0 m) (by omega) fun i j hij hj=>?_
     have all:∀a b,a<m→b<m→lt (ga p a) (ga p b)=false:=fun a b ha hb =>
      T.tr _ _ _ (u b (m-1) (by omega) (by omega)) (T.tr _ _ _ c (u 0 a (by omega) ha))
     rw[gr,gr]
     by_cases hjm:j<m
     ·rw[if_pos (by omega),if_pos (by omega)];exact all _ _ (by omega) (by omega)
     ·have e:j=m:=by omega
      subst e
      rw[if_neg (show ¬(0≤j∧j<j) by omega)]
      by_cases hij':i=j
      ·subst hij';rw[if_neg (by omega)];exact T.irr _
      ·rw[if_pos (by omega)]
       exact T.tr _ _ _ (T.asy _ _ zl) (all _ _ (by omega) (by omega))
   ·rename_i m1
    have e:m=1:=by omega
    subst e
    refine a1N T hp (by omega) fun i j hij hj=>?_
    by_cases hij':i=j
    ·subst hij';exact T.irr _
    ·have e1:i=0:=by omega
     have e2:j=1:=by omega
     subst e1 e2
     exact T.asy _ _ zl
theorem a1Z(T:TPre lt){p:Array Nat}(hp:Pmn n p){k:Nat}(hk:k<n)(u:Up lt p k):∀(f l r:Nat),l≤r→r≤k→r-l≤f→(∀i,i<l→lt (ga p k) (ga p i)=false)→(∀i,r≤i→i<k→lt (ga p i) (ga p k)=false) →
  Gd n lt (kas_place p k f l r) (fun m=>m≤k∧(∀i,i<m→lt (ga p k) (ga p i)=false)∧∀i,m≤i→i<k→lt (ga p i) (ga p k)=false)
 | 0,l,r,h1,h2,h3,a,b=>⟨by omega,a,fun i hi=>b i (by omega)⟩
 | f+1,l,r,h1,h2,h3,a,b=>by
  show Gd n lt (if l≥r then _ else _) _
  split
  ·exact⟨by omega,a,fun i hi=>b i (by omega)⟩
  ·refine⟨hp.bd hk,hp.bd (by omega),?_⟩
   cases c:lt (p.getD k 0) (p.getD ((l+r)/2) 0)with
   | true =>
    simp only[if_true]
    refine a1Z T hp hk u f l ((l+r)/2) (by omega) (by omega) (by omega) a fun i hi hik=>?_
    exact T.tr _ _ _ (T.asy _ _ c) (u ((l+r)/2) i hi hik)
   | false =>
    simp only[Bool.false_eq_true,if_false]
    refine a1Z T hp hk u f ((l+r)/2+1) r (by omega) (by omega) (by omega) (fun i hi=>?_) b
    exact T.tr _ _ _ (u i ((l+r)/2) (by omega) (by omega)) c
theorem a7Y(T:TPre lt):∀(f:Nat) (p:Array Nat) (k:Nat),Pmn n p→k+f=n→Up lt p k→Gd n lt (kas_bin f p k) (fun p'=>Pmn n p'∧Up lt p' n)
 | 0,p,k,hp,hk,u=>by
  have e:k=n:=by omega
  subst e;exact⟨hp,u⟩
 | f+1,p,k,hp,hk,u=>by
  have hps:=hp.size
  refine Gd.bind ((a1Z T hp (by omega) u k 0 k (by omega) (by omega) (by omega) (fun i hi=>by omega) (fun i h1 h2=>by omega)).mono fun l h=>?_)
  obtain⟨hl,a,b⟩:=h
  have gb:=b3c (p:=p) (src:=k) (d:=k-l) (by omega) (by omega)
  refine a7Y T f _ (k+1) (hp.bub _ _) (by omega) fun i j hij hj=>?_
  rw[gb,gb]
  have el:k-(k-l)=l:=by omega
  rw[el]
  by_cases e:i=j
  ·subst e;exact T.irr _
  by_cases hjl:j=l
  ·rw[if_pos hjl,if_neg (by omega),if_neg (by omega)];exact a i (by omega)
  ·rw[if_neg hjl]
   by_cases hil:i=l
   ·rw[if_pos hil,if_pos (by omega)];exact b (j-1) (by omega) (by omega)
   ·rw[if_neg hil]
    by_cases h1:l<j∧j≤k
    ·rw[if_pos h1]
     by_cases h2:l<i∧i≤k
     ·rw[if_pos h2];exact u _ _ (by omega) (by omega)
     ·rw[if_neg h2];exact u _ _ (by omega) (by omega)
    ·rw[if_neg h1,if_neg (by omega)];exact u _ _ hij (by omega)
theorem a20(T:TPre lt)(h1:1≤n):Gd n lt (kas_sort n) (fun p=>Pmn n p∧Up lt p n):=by
 refine Gd.bind ((a9a T (p:=List.toArray (List.range n)) (by unfold Pmn;simp) h1).mono fun r h=>?_)
 obtain⟨hp,m1,m2,u⟩:=h
 split
 ·exact a7Y T _ _ _ hp (by omega) (by rw[Nat.max_eq_left m1];exact u)
 ·have e:r.1=n:=by omega
  exact⟨hp,e▸u⟩
end
theorem a1z:∀a:List Int,HT.lexLt a a=false
 | []=>rfl
 | x::xs=>by rw[HT.lexLt_cons,if_pos rfl];exact a1z xs
theorem a1A:∀a b:List Int,HT.lexLt a b=true→HT.lexLt b a=false
 | [],[],h=>by cases h
 | [],_::_,_=>rfl
 | _::_,[],h=>by cases h
 | x::xs,y::ys,h=>by
  rw[HT.lexLt_cons]at h ⊢
  by_cases e:x=y
  ·rw[if_pos e]at h;rw[if_pos e.symm];exact a1A xs ys h
  ·rw[if_neg e]at h;rw[if_neg (Ne.symm e)]
   have:=of_decide_eq_true h
   exact decide_eq_false (by omega)
theorem a2t:∀a b c:List Int,HT.lexLt b a=false→HT.lexLt c b=false→HT.lexLt c a=false
 | [],[],_,_,h=>h
 | [],y::ys,[],_,h=>rfl
 | [],y::ys,z::zs,_,_=>rfl
 | x::xs,[],_,h,_=>by cases h
 | x::xs,y::ys,[],_,h=>by cases h
 | x::xs,y::ys,z::zs,h1,h2=>by
  rw[HT.lexLt_cons]at h1 h2 ⊢
  by_cases e1:y=x
  ·rw[if_pos e1]at h1
   by_cases e2:z=y
   ·rw[if_pos e2]at h2;rw[if_pos (e2.trans e1)];exact a2t xs ys zs h1 h2
   ·rw[if_neg e2]at h2;rw[if_neg (fun q=>e2 (q.trans e1.symm))];rw[← e1];exact h2
  ·rw[if_neg e1]at h1
   have:=of_decide_eq_false h1
   by_cases e2:z=y
   ·rw[if_neg (fun q=>e1 (e2.symm.trans q)),e2];exact h1
   ·rw[if_neg e2]at h2
    have:=of_decide_eq_false h2
    rw[if_neg (by omega)]
    exact decide_eq_false (by omega)
theorem a10(key:Nat→List Int):TPre (fun i j=>HT.lexLt (key i) (key j)):=⟨fun i=>a1z _,fun i j k h1 h2=>a2t _ _ _ h1 h2,fun i j h=>a1A _ _ h⟩
section
variable {prog:Program}{w:World}{A:Around}{E:Value→Shared→Prop}{s:Shared}{b fin:Bool}{Q:Bool→Shared→Prop}
theorem a1O:∀{vs ws:List Value} {ns ms:List Int} (i:Nat),IntsAre vs ns→IntsAre ws ms→fin=decide (ns.length<ms.length)→Q (HT.lexLt ns ms) s→KatLex prog w A true fin Q (vs.zip ws) i s
 | _,_,_,_,i,.nil,.nil,hf,h=>by rw[List.zip_nil_left];refine kat_nil ?_;rw[hf];exact h
 | _,_,_,_,i,.nil,.cons c u t,hf,h=>by
  rw[List.zip_nil_left];refine kat_nil ?_;rw[hf,decide_eq_true (by simp)];exact h
 | _,_,_,_,i,.cons a t r,.nil,hf,h=>by
  rw[List.zip_nil_right];refine kat_nil ?_;rw[hf,decide_eq_false (by simp)];exact h
 | _,_,_,_,i,.cons (ns:=ns) a t r,.cons (ns:=ms) c u r',hf,h=>by
  rw[List.zip_cons_cons]
  rw[HT.lexLt_cons]at h
  refine kat_cons (wpAny_eqBool_int (kat_go (fun e=>?_) fun e=>?_))
  ·rw[if_pos (by simpa using e)]at h
   exact kat_yes (a1O (i+1) r r' (by rw[hf];simp) h)
  ·rw[if_neg (by simpa using e)]at h
   refine kat_no ?_
   by_cases hi:i=0
   ·subst hi
    show wpAny _ _ (oneLt' true _ _) _ _ _
    exact oneLt_int h
   ·have e0:(true && i == 0)=false:=by simpa using hi
    rw[e0]
    exact kat_one _ _ (PyProof.Rows.lt_int h)
def TupKey(h:Heap)(v:Value)(k:List Int):Prop:=∃a o xs m,v=.ref a∧h.get? a=some o∧o.cls=.type "tuple"∧o.data=.seq xs m∧IntsAre xs.toList k∧k≠[]
theorem TupKey.keeps{h h':Heap}{v:Value}{k:List Int}(t:TupKey h v k)(kp:∀a o,h.get? a=some o→h'.get? a=some o):TupKey h' v k:=by
 obtain⟨a,o,xs,m,e,ho,r⟩:=t
 exact⟨a,o,xs,m,e,kp _ _ ho,r⟩
theorem TupKey.lt{v u:Value}{k l:List Int}{C:Bool→Shared→Prop}{E:Value→Shared→Prop}(t:TupKey s.heap v k)(t':TupKey s.heap u l)(h:C (HT.lexLt k l) s):wpAny (model prog w) A (keyLt' (tuples' true) v u) C E s:=by
 obtain⟨a,o,xs,m,rfl,ho,_,hd,hi,_⟩:=t
 obtain⟨a',o',xs',m',rfl,ho',_,hd',hi',_⟩:=t'
 have z1:xs.size=k.length:=by rw[← hi.length];simp
 have z2:xs'.size=l.length:=by rw[← hi'.length];simp
 exact kat_lt ho hd ho' hd' (a1O 0 hi hi' (by rw[z1,z2]) h)
def TKs(h:Heap):List Value→List (List Int)→Prop
 | [],[]=>True
 | v::vs,k::ks=>TupKey h v k∧TKs h vs ks
 | _,_=>False
theorem TKs.keeps{h h':Heap}(kp:∀a o,h.get? a=some o→h'.get? a=some o):∀{vs:List Value} {ks:List (List Int)},TKs h vs ks→TKs h' vs ks
 | [],[],_=>trivial
 | [],_::_,t=>t.elim
 | _::_,[],t=>t.elim
 | v::vs,k::ks,t=>⟨t.1.keeps kp,TKs.keeps kp t.2⟩
theorem TKs.len{h:Heap}:∀{vs:List Value} {ks:List (List Int)},TKs h vs ks→vs.length=ks.length
 | [],[],_=>rfl
 | [],_::_,t=>t.elim
 | _::_,[],t=>t.elim
 | v::vs,k::ks,t=>by simp[t.2.len]
theorem TKs.at{h:Heap}:∀{vs:List Value} {ks:List (List Int)} (i:Nat),TKs h vs ks→i<vs.length→TupKey h (vs.getD i Value.none) (ks.getD i [])
 | [],_,i,_,hi=>absurd hi (Nat.not_lt_zero _)
 | _::_,[],_,t,_=>t.elim
 | v::vs,k::ks,0,t,_=>t.1
 | v::vs,k::ks,i+1,t,hi=>TKs.at (vs:=vs) (ks:=ks) i t.2 (by simpa using hi)
theorem a58:∀{vs:List Value} {ks:List (List Int)},TKs s.heap vs ks→∃fs,KatTups s.heap vs fs∧fs.length=vs.length∧∀v∈fs,∃i t,v=Value.int i t
 | [],[],_=>⟨[],.nil,rfl,fun v h=>by cases h⟩
 | [],_::_,t=>t.elim
 | _::_,[],t=>t.elim
 | v::vs,k::ks,⟨t,r⟩=>by
  obtain⟨fs,h1,h2,h3⟩:=a58 r
  obtain⟨a,o,xs,m,rfl,ho,hc,hd,hi,hn⟩:=t
  obtain⟨xl⟩:=xs
  cases hi with
  | nil=>exact absurd rfl hn
  | cons n tk hr=>exact⟨.int n tk::fs,.cons ho hc hd (by simp) h1,by simp[h2],fun v hv=>by
    rcases List.mem_cons.mp hv with rfl | hv
    ·exact⟨n,tk,rfl⟩
    ·exact h3 v hv⟩
theorem a5B{l:Addr}{vs:List Value}{ks:List (List Int)}{Q:Value→Shared→Prop}(hl:s.heap.IsList l vs.toArray)(hk:TKs s.heap vs ks)(h64:vs.length<64)
  (h:∀(h':Heap) (p:List Nat) (c:Nat),(∀b o,s.heap.get? b=some o→h'.get? b=some o)→h'.get? (s.heap.objs.size+1)=some (seqObj "list" (p.map fun i=>vs.getD i Value.none).toArray c)→p.Perm (List.range vs.length) →
   p.Pairwise (fun i j=>HT.lexLt (ks.getD j []) (ks.getD i [])=false)→Q (.ref (s.heap.objs.size+1)) { s with heap:=h' }) :
  wpAny (model prog w) A (call (.builtin "sorted") [.ref l]) Q E s:=by
 refine Calls.call_function_entry kind_sorted plain_sorted entry_sorted (args_sorted1 _) ?_
 unfold Builtin.«sorted»
 refine wpAny_bind (m:=checkCount "sorted" 1 1 _) (wpAny_pure ?_)
 refine wpAny_bind (collect_list hl ?_ (by rw[sizeLine_eq];omega))
 refine wpAny_bind (wpAny_newList ?_ (by rw[sizeLine_eq];omega))
 have hsz:((s.heap.push (seqObj "list" #[] 0)).update s.heap.objs.size (Obj.mapSeq (· ++ vs.toArray))).objs.size=s.heap.objs.size+1:=by
  rw[Heap.size_update,size_push']
 show wpAny _ _ _ _ _ { s with heap:=((s.heap.push (seqObj "list" #[] 0)).update s.heap.objs.size (Obj.mapSeq (· ++ vs.toArray))).push (seqObj "list" vs.toArray 0) }
 rw[hsz]
 generalize hh1:(((s.heap.push (seqObj "list" #[] 0)).update s.heap.objs.size (Obj.mapSeq (· ++ vs.toArray))).push (seqObj "list" vs.toArray 0))=h1
 have hoL:h1.get? (s.heap.objs.size+1)=some (seqObj "list" vs.toArray 0):=by
  rw[← hh1,← hsz];exact Heap.get?_push_size _ rfl
 have keep:∀b o,s.heap.get? b=some o→h1.get? b=some o:=fun b o q=>by
  have hlt:b<s.heap.objs.size:=Heap.lt_size q
  rw[← hh1,Heap.get?_push_ne _ _ _ (by rw[hsz];exact Nat.ne_of_lt (Nat.lt_succ_of_lt hlt)),Heap.get?_update_ne _ _ _ _ (Nat.ne_of_lt hlt),Heap.get?_push_ne _ _ _ (Nat.ne_of_lt hlt)]
  exact q
 have hz1:h1.objs.size=s.heap.objs.size+2:=by rw[← hh1,size_push',hsz]
 have nD:∀b o,s.heap.get? b=some o→b≠s.heap.objs.size+1:=fun b o q=>Nat.ne_of_lt (Nat.lt_succ_of_lt (Heap.lt_size q))
 generalize hA:s.heap.objs.size+1=D at *
 refine wpAny_bind (wpAny_holding (wpAny_call_entry slot_list_sort ⟨_,hoL,rfl⟩ entry_list_sort ?body (args_list_sort _)))
 case body =>
  have hD:D<h1.objs.size:=Heap.lt_size hoL
  have s1:=Heap.SameBut.update h1 D (Obj.mapSeq fun _=>(#[]:Array Value))
  obtain⟨e1,ho1⟩:∃e1,(h1.update D (Obj.mapSeq fun _=>(#[]:Array Value))).get? D=some (seqObj "list" #[] e1):=⟨_,get?_update_seq hoL fun _ => #[]⟩
  have keep2:∀b o,s.heap.get? b=some o→(((h1.update D (Obj.mapSeq fun _=>(#[]:Array Value))).push (seqObj "tuple" vs.toArray 0)).push (seqObj "list" #[] 0)).get? b=some o:=fun b o q=>by
   have hb:b≠D:=nD b o q
   exact Heap.get?_push_of_some _ (Heap.get?_push_of_some _ ((s1.2 b hb).trans (keep b o q)))
  have ho6:(((h1.update D (Obj.mapSeq fun _=>(#[]:Array Value))).push (seqObj "tuple" vs.toArray 0)).push (seqObj "list" #[] 0)).get? D=some (seqObj "list" #[] e1):=Heap.get?_push_of_some _ (Heap.get?_push_of_some _ ho1)
  rw[list_sort_plain]
  refine wpAny_bind (listItems_at (s:={ s with heap:=h1 }) hoL rfl ?_)
  refine wpAny_bind (listUpdate_at (s:={ s with heap:=h1 }) hoL rfl ?_ (by rw[List.size_toArray,sizeLine_eq];omega) (Nat.zero_le _))
  refine wpAny_bind (seqEpoch_at ho1 rfl ?_)
  refine wpAny_bind (wpAny_newTuple ?_ (by show vs.length≤_;rw[sizeLine_eq];omega))
  refine wpAny_bind (wpAny_newList ?_ (Nat.zero_le _))
  refine wpAny_holding ?_
  show wpAny (model prog w) _ _ _ E { s with heap:=((h1.update D (Obj.mapSeq fun _=>(#[]:Array Value))).push (seqObj "tuple" vs.toArray 0)).push (seqObj "list" #[] 0) }
  dsimp only
  generalize ((h1.update D (Obj.mapSeq fun _=>(#[]:Array Value))).push (seqObj "tuple" vs.toArray 0)).push (seqObj "list" #[] 0)=h2 at keep2 ho6 ⊢
  have last:∀(st':SortSt) (p:List Nat),(arrOf st').map (·.2)=(p.map fun i=>vs.getD i Value.none).toArray→failedOf st'=none→p.Perm (List.range vs.length)→p.Pairwise (fun i j=>HT.lexLt (ks.getD j []) (ks.getD i [])=false) →
    wpAny (model prog w) A.in1.in1 (do
     let touched:=(← seqEpoch D) != e1
     Builtin.List.listUpdate (.ref D) fun _=>(arrOf st').map (·.2)
     if let some e:=failedOf st' then rule "list.sort.comparison-raised";throw e
     if touched then rule "list.sort.modified";raiseError "ValueError" "list modified during sort"
     ret .none:Sem PySem.Fin) (fun fin s'=>∃v,fin=.done (.ret v)∧wpAny (model prog w) A.in1 (pure (.done (.ret (.ref D))):Sem PySem.Fin) (fun fin s'=>∃v,fin=.done (.ret v)∧Q v s') E s') E { s with heap:=h2 }:=by
   intro st' p hout hf hp hs
   have hsz3:((p.map fun i=>vs.getD i Value.none).toArray).size=vs.length:=by rw[List.size_toArray,List.length_map,hp.length_eq,List.length_range]
   have s2:=Heap.SameBut.update h2 D (Obj.mapSeq fun _=>(p.map fun i=>vs.getD i Value.none).toArray)
   obtain⟨c2,hc2⟩:∃c2,(h2.update D (Obj.mapSeq fun _=>(p.map fun i=>vs.getD i Value.none).toArray)).get? D=some (seqObj "list" (p.map fun i=>vs.getD i Value.none).toArray c2):=⟨_,get?_update_seq ho6 fun _=>_⟩
   rw[hout,hf]
   refine wpAny_bind (seqEpoch_at ho6 rfl ?_)
   refine wpAny_bind (listUpdate_at (s:={ s with heap:=h2 }) ho6 rfl ?_ (Nat.zero_le _) (Nat.le_trans (Nat.le_of_eq hsz3) (by rw[sizeLine_eq];omega)))
   simp only[bne_self_eq_false,Bool.false_eq_true,if_false]
   exact wpAny_pure ⟨_,rfl,wpAny_pure ⟨_,rfl,h _ p c2 (fun b o q=>by
    have hb:b≠D:=nD b o q
    exact(s2.2 b hb).trans (keep2 b o q)) hc2 hp hs⟩⟩
  by_cases h2':vs.toArray.size<2
  ·rw[if_pos h2',if_pos h2']
   refine wpAny_bind (wpAny_pure ?_)
   rw[StateT.run_pure]
   refine wpAny_bind (wpAny_pure ?_)
   have hlen:vs.length<2:=by simpa using h2'
   refine last (SortSt.mk' general' (vs.toArray.zip vs.toArray) #[] 7 none) (List.range vs.length) ?_ rfl (List.Perm.refl _) ?_
   ·show(vs.toArray.zip vs.toArray).map (·.2)=_
    match vs,hlen with
    | [],_=>simp
    | [_],_=>simp
   ·match hn:vs.length,hlen with
    | 0,_=>exact .nil
    | 1,_=>exact List.pairwise_singleton _ _
  ·rw[if_neg h2',if_neg h2']
   have hlen:2≤vs.length:=by simp at h2';omega
   have hk2:TKs h2 vs ks:=hk.keeps keep2
   obtain⟨fs,t1,t2,t3⟩:=a58 (s:={ s with heap:=h2 }) hk2
   refine wpAny_bind (kat_kind (T:=.type "int") t1 (by omega) (fun v hv=>by obtain⟨i,t,rfl⟩:=t3 v hv;exact .of_pure rfl) (by decide) ?_)
   have eb:(Value.type "int" != Value.type "tuple")=true:=by decide +kernel
   rw[eb]
   have at2:∀i,i<vs.length→TupKey h2 (vs.getD i Value.none) (ks.getD i []):=fun i hi=>hk2.at i hi
   have gd:=a20 (n:=vs.length) (a10 fun i=>ks.getD i []) (by omega)
   refine wpAny_bind (wpAny_mono (kat_run (κ:=tuples' true) (vs:=vs) (ks:=vs) (Q:=fun st' s'=>∃p:Array Nat,p.size=vs.length∧arrOf st'=p.map (kas_item (vs.toArray.zip vs.toArray))∧failedOf st'=none∧s'={ s with heap:=h2 }∧Pmn vs.length p∧Up (fun i j=>HT.lexLt (ks.getD i []) (ks.getD j [])) p vs.length)
    (G:=fun p s'=>s'={ s with heap:=h2 }∧Pmn vs.length p∧Up (fun i j=>HT.lexLt (ks.getD i []) (ks.getD j [])) p vs.length)
    rfl hlen h64 (fun p' st' s' a1 a2 a3 a4=>⟨p',a1,a2,a3,a4⟩) (gd.wp (fun i j C hi hj hC=>(at2 i hi).lt (at2 j hj) hC) fun p hp=>⟨rfl,hp⟩)) ?_ fun _ _ x=>x)
   rintro⟨⟨⟩,st'⟩ s' ⟨p,hp,har,hf,rfl,hP,hU⟩
   refine last st' p.toList (kat_snds rfl har) hf hP ?_
   rw[List.pairwise_iff_getElem]
   intro i j hi hj hij
   have hU':=hU i j (by omega) (by rw[← hp];simpa using hj)
   simp only[Array.length_toList]at hi hj
   have e1:ga p i=p[i]:=by unfold ga;simp[Array.getD,hi]
   have e2:ga p j=p[j]:=by unfold ga;simp[Array.getD,hj]
   rw[e1,e2]at hU'
   simpa using hU'
end
def VKs(K:W.Frag)(H:Hp):List V→List (List Int)→Prop
 | [],[]=>True
 | v::vs,k::ks=>(∃a,v=.ref a∧SqT K H a (k.map V.int)∧k≠[])∧VKs K H vs ks
 | _,_=>False
def a7Z(K:W.Frag):List V→Hp→VK→Prop:=fun xs H Q=>∃(a:Addr) (ys:List V) (ks:List (List Int)),xs=[.ref a]∧SqL K H a ys∧VKs K H ys ks∧ys.length<64 ∧
 ∀l (p:List Nat),H l=none→p.Perm (List.range ys.length)→p.Pairwise (fun i j=>HT.lexLt (ks.getD j []) (ks.getD i [])=false)→Q (.ref l) (upd H l (.lst (p.map fun i=>ys.getD i .non)))
theorem a1a:bootBuiltins "sorted" = some (.builtin "sorted"):=by decide +kernel
theorem a1b:∀ps:List (Int×Tok),IntsAre (ps.map fun p=>Value.int p.1 p.2) (ps.map (·.1))
 | []=>.nil
 | p::ps=>.cons p.1 p.2 (a1b ps)
theorem Y9:∀{ys:List V} {us:List Value} (p:List Nat),Vals ys us→(∀i∈p,i<ys.length)→Vals (p.map fun i=>ys.getD i .non) (p.map fun i=>us.getD i Value.none)
 | _,_,[],_,_=>.nil
 | ys,us,i::p,r,h=>by
  have hi:=h i (by simp)
  obtain⟨u,e,ru⟩:=r.get (List.getElem?_eq_getElem hi)
  refine .cons ?_ (Y9 p r fun j hj=>h j (by simp[hj]))
  have e1:ys.getD i .non=ys[i]:=by simp[hi]
  have e2:us.getD i Value.none=u:=by simp[e]
  show RelV (ys.getD i .non) (us.getD i Value.none)
  rw[e1,e2];exact ru
section
variable {X:Cx}
theorem a59{pins:List (Addr×Obj)}{σ:St}{H:Hp}{s:Shared}(I:Inv X pins σ H s):∀{ys:List V} {us:List Value} {ks:List (List Int)},Vals ys us→VKs X.K H ys ks→TKs s.heap us ks
 | [],_,[],.nil,_=>trivial
 | [],_,_::_,_,h=>h.elim
 | _::_,_,[],_,h=>h.elim
 | v::ys,_,k::ks,.cons r rs,⟨⟨a,e,hq,hn⟩,h⟩=>by
  refine⟨?_,a59 I rs h⟩
  subst e
  obtain⟨its,rv,⟨o,ho,hc,n,hd⟩,_⟩:=I.tuple hq
  obtain⟨ps,rfl,ep⟩:=a2q rv
  refine⟨a,o,_,n,r,ho,hc,hd,?_,hn⟩
  rw[← ep]
  exact a1b ps
theorem a5C{K:W.Frag}(hK:X.K=K:=by rfl):J0 X (.builtin "sorted") (a7Z K):=by
 subst hK
 intro pins s σ H xs us Q I r h
 obtain⟨a,ys,ks,rfl,hq,hk,h64,q⟩:=h
 obtain⟨u,rfl,ru⟩:=r.one
 cases (show u=Value.ref a from ru)
 obtain⟨its,rv,pl,hz⟩:=I.list hq
 have hlen:=rv.length
 refine a5B pl.isList (a59 I rv hk) (by omega) fun h' p c kp ho hp hs=>?_
 have hf:H (s.heap.objs.size+1)=none:=I.hok.fresh (Nat.le_succ _)
 have hpy:p.Perm (List.range ys.length):=by rw[hlen];exact hp
 refine⟨.ref (s.heap.objs.size+1),_,I.laid (t':=s.toks) (o:=.lst (p.map fun i=>ys.getD i .non)) kp (Nat.le_succ _) ?_,rfl,q _ p hf hpy hs⟩
 refine⟨?_,p.map fun i=>its.getD i Value.none,c,Y9 p rv fun i hi=>List.mem_range.mp (hpy.mem_iff.mp hi),ho⟩
 rw[List.length_map,hpy.length_eq,List.length_range];exact hz
end
namespace F'
end F'
open PySem PySem.Spec PyProof.Rows PySem.W
section
variable {X:Cx}{pins:List (Addr×Obj)}{σ:St}{H:Hp}{s:Shared}{a:Addr}
theorem Inv.trackO{oe:Obj}{vs:Array Value}{k:Nat}{u:HO}(I:Inv X pins σ H s)(ni:¬Imp X pins H a)(e:s.heap.get? a=some oe)(d:oe.data=.seq vs k)(new:ObjOk X.prog X.w (upd H a u) s.heap a u):Inv X pins σ (upd H a u) s:=by
 have fr:H a=none:=by
  cases q:H a with
  | none=>rfl
  | some v=>exact absurd (.inl (by rw[q];exact nofun)) ni
 refine⟨I.ok,I.os,I.bare,⟨I.base.keep,I.base.slot,fun b o e1 n hx=>?_,I.base.there,fun b xs q=>?_,fun b o u q=>?_,fun b ps q=>?_⟩,I.loc,I.cell,?_,fun y c q=>?_,fun p hp=>?_,fun b u q=>?_,I.len⟩
 ·rw[b9 (fun z=>ni (.inr (.inl ⟨by rw[← z];exact hx,o,by rw[← z];exact e1⟩)))]
  exact I.base.free b o e1 n hx
 ·have q1:=I.base.tups b xs q
  rw[b9 (g8 q1 fr)];exact q1
 ·have q1:=I.base.frzs b o u q
  rw[b9 (g8 q1 fr)];exact q1
 ·obtain⟨more,q1⟩:=I.base.tbls b ps q
  exact⟨more,by rw[b9 (g8 q1 fr)];exact q1⟩
 ·rw[b9 fun z=>?_]
  ·exact I.free
  ·obtain⟨m,⟨o,es,ep,ho,hd,_⟩,_⟩:=I.loc
   rw[z,e]at ho;cases ho
   rw[d]at hd;cases hd
 ·rw[b9 fun z=>?_]
  ·exact I.freeC y c q
  ·obtain⟨v,o,ho,hd⟩:=I.cell y c q
   rw[z,e]at ho;cases ho
   rw[d]at hd;cases hd
 ·obtain⟨h1,h2,h3,h4,h5⟩:=I.pin p hp
  exact⟨h1,by rw[b9 (fun z=>ni (.inr (.inr ⟨p,hp,z⟩)))];exact h2,h3,h4,h5⟩
 ·by_cases hb:b=a
  ·subst hb
   rw[i0]at q;cases q
   exact new
  ·rw[b9 hb]at q
   refine(I.hok b u q).stay (fun _ _ _ z=>z) (fun c z=>?_) (fun c xs z=>?_) fun c ob u z=>?_
   ·rw[b9 (g8 z fr)];exact z
   ·rw[b9 (g8 z fr)];exact z
   ·rw[b9 (g8 z fr)];exact z
end
section
variable {X:Cx}
def XAccAt(X:Cx)(σ:St)(E:XK):Prop:=∀(pins:List (Addr×Obj)) (H:Hp) (s:Shared) (a:Addr) (cls:Value) (cx:Option Addr) (B:Heap) (ph:Ph),Inv X pins σ H s→XAt X pins H s a cls cx B ph→E cls cx H→X.xe (.ref a) s
theorem XAccAt.passes{σ:St}{E:XK}(acc:XAccAt X σ E):∀(pins:List (Addr×Obj)) (H:Hp) (s:Shared) (e:Value) (s':Shared),Inv X pins σ H s→t8 X.prog X.w X.stack H s E e s'→X.xe e s':=by
 intro pins H s e s' I h
 obtain⟨a,cls,cx,H',B,rfl,os,bare,un,hok,st,fr,ff,tr,free,cov,hE⟩:=h
 have I':Inv X pins σ H' s':=I.call' (ch:=[]) os un hok bare (fun b z=>absurd z (by simp))
 refine acc pins H' s' a cls cx B .fly I' ⟨free,st,fr,ff,fun b o e i n=>cov b o e ?_ n,tr⟩ hE
 rcases i with i | ⟨hx,o',i⟩ | ⟨p,hp,q⟩
 ·exact .inl i
 ·exact .inr (I.base.there b o' i hx)
 ·exact .inr ⟨p.2,by rw[← q];exact(I.pin p hp).1⟩
end
section
variable {prog:Program}{w:World}{A:Around}{E:Value→Shared→Prop}{s:Shared}{fin:Bool}{Q:Bool→Shared→Prop}
theorem b05{v:Value}(hv:(v == v)=true){E:Value→Shared→Prop}(h:Q true s):wpAny (model prog w) A (eqBool v v) Q E s:=by
 unfold eqBool
 refine wpAny_holding ?_
 rw[if_pos hv]
 exact wpAny_bind (wpAny_rule (wpAny_pure h))
theorem a1P:∀{vs:List Value} (i:Nat),(∀v∈vs,(v == v)=true)→Q fin s→KatLex prog w A true fin Q (vs.zip vs) i s
 | [],i,_,h=>by rw[List.zip_nil_left];exact kat_nil h
 | v::vs,i,hv,h=>by
  rw[List.zip_cons_cons]
  exact kat_cons (b05 (hv v (by simp)) (kat_yes (a1P (i+1) (fun u hu=>hv u (by simp[hu])) h)))
theorem a2u{rs rs':List Value}:∀{vs ws:List Value} {ns ms:List Int} (i:Nat),IntsAre vs ns→IntsAre ws ms→ns.length=ms.length→ns≠ms→Q (HT.lexLt ns ms) s→KatLex prog w A true fin Q ((vs++rs).zip (ws++rs')) i s
 | _,_,_,_,i,.nil,.nil,_,hn,_=>absurd rfl hn
 | _,_,_,_,i,.nil,.cons c u t,hf,_,_=>by simp at hf
 | _,_,_,_,i,.cons a t r,.nil,hf,_,_=>by simp at hf
 | _,_,_,_,i,.cons (ns:=ns) a t r,.cons (ns:=ms) c u r',hf,hn,h=>by
  rw[List.cons_append,List.cons_append,List.zip_cons_cons]
  rw[HT.lexLt_cons]at h
  refine kat_cons (wpAny_eqBool_int (kat_go (fun e=>?_) fun e=>?_))
  ·have e':a=c:=by simpa using e
   rw[if_pos e']at h
   exact kat_yes (a2u (i+1) r r' (by simpa using hf) (fun z=>hn (by rw[e',z])) h)
  ·rw[if_neg (by simpa using e)]at h
   refine kat_no ?_
   by_cases hi:i=0
   ·subst hi
    show wpAny _ _ (oneLt' true _ _) _ _ _
    exact oneLt_int h
   ·have e0:(true && i == 0)=false:=by simpa using hi
    rw[e0]
    exact kat_one _ _ (PyProof.Rows.lt_int h)
def TupPre(h:Heap)(v:Value)(k:List Int):Prop:=∃a o xs m vs rs,v=.ref a∧h.get? a=some o∧o.cls=.type "tuple"∧o.data=.seq xs m∧xs.toList=vs++rs∧IntsAre vs k∧k≠[]∧∀u∈xs.toList,(u == u)=true
theorem TupPre.keeps{h h':Heap}{v:Value}{k:List Int}(t:TupPre h v k)(kp:∀a o,h.get? a=some o→h'.get? a=some o):TupPre h' v k:=by
 obtain⟨a,o,xs,m,vs,rs,e,ho,r⟩:=t
 exact⟨a,o,xs,m,vs,rs,e,kp _ _ ho,r⟩
theorem TupPre.lt{v u:Value}{k l:List Int}{C:Bool→Shared→Prop}(t:TupPre s.heap v k)(t':TupPre s.heap u l)(hl:k.length=l.length)(hn:k≠l)(h:C (HT.lexLt k l) s):wpAny (model prog w) A (keyLt' (tuples' true) v u) C E s:=by
 obtain⟨a,o,xs,m,vs,rs,rfl,ho,_,hd,hx,hi,_⟩:=t
 obtain⟨a',o',xs',m',vs',rs',rfl,ho',_,hd',hx',hi',_⟩:=t'
 refine kat_lt ho hd ho' hd' ?_
 rw[hx,hx']
 exact a2u 0 hi hi' hl hn h
theorem TupPre.lt_self{v:Value}{k:List Int}{C:Bool→Shared→Prop}(t:TupPre s.heap v k)(h:C false s):wpAny (model prog w) A (keyLt' (tuples' true) v v) C E s:=by
 obtain⟨a,o,xs,m,vs,rs,rfl,ho,_,hd,hx,hi,_,hv⟩:=t
 refine kat_lt ho hd ho hd (a1P 0 hv ?_)
 rw[decide_eq_false (Nat.lt_irrefl _)]
 exact h
def TPs(h:Heap):List Value→List (List Int)→Prop
 | [],[]=>True
 | v::vs,k::ks=>TupPre h v k∧TPs h vs ks
 | _,_=>False
theorem TPs.keeps{h h':Heap}(kp:∀a o,h.get? a=some o→h'.get? a=some o):∀{vs:List Value} {ks:List (List Int)},TPs h vs ks→TPs h' vs ks
 | [],[],_=>trivial
 | [],_::_,t=>t.elim
 | _::_,[],t=>t.elim
 | v::vs,k::ks,t=>⟨t.1.keeps kp,TPs.keeps kp t.2⟩
theorem TPs.at{h:Heap}:∀{vs:List Value} {ks:List (List Int)} (i:Nat),TPs h vs ks→i<vs.length→TupPre h (vs.getD i Value.none) (ks.getD i [])
 | [],_,i,_,hi=>absurd hi (Nat.not_lt_zero _)
 | _::_,[],_,t,_=>t.elim
 | v::vs,k::ks,0,t,_=>t.1
 | v::vs,k::ks,i+1,t,hi=>TPs.at (vs:=vs) (ks:=ks) i t.2 (by simpa using hi)
theorem a21:∀{h:Heap} {vs:List Value} {ks:List (List Int)},TPs h vs ks→∃fs,KatTups h vs fs∧fs.length=vs.length∧∀v∈fs,∃i t,v=Value.int i t
 | _,[],[],_=>⟨[],.nil,rfl,fun v h=>by cases h⟩
 | _,[],_::_,t=>t.elim
 | _,_::_,[],t=>t.elim
 | h,v::vs,k::ks,⟨t,r⟩=>by
  obtain⟨fs,h1,h2,h3⟩:=a21 r
  obtain⟨a,o,xs,m,us,rs,rfl,ho,hc,hd,hx,hi,hn,_⟩:=t
  obtain⟨xl⟩:=xs
  cases hi with
  | nil=>exact absurd rfl hn
  | cons n tk hr =>
   simp only at hx
   subst hx
   exact⟨.int n tk::fs,.cons ho hc hd (by simp) h1,by simp[h2],fun v hv=>by
    rcases List.mem_cons.mp hv with rfl | hv
    ·exact⟨n,tk,rfl⟩
    ·exact h3 v hv⟩
theorem a6T{l:Addr}{vs:List Value}{lt:Nat→Nat→Bool}{Q:Value→Shared→Prop}(hl:s.heap.IsList l vs.toArray)(T:TPre lt)(h64:vs.length<64)
  (hk:∀h2:Heap,(∀b o,s.heap.get? b=some o→h2.get? b=some o)→∃fs,KatTups h2 vs fs∧fs.length=vs.length∧∀v∈fs,∃i t,v=Value.int i t)
  (hc:∀h2:Heap,(∀b o,s.heap.get? b=some o→h2.get? b=some o)→∀(A:Around) (i j:Nat) (C:Bool→Shared→Prop) (E:Value→Shared→Prop),i<vs.length→j<vs.length→C (lt i j) { s with heap:=h2 }→wpAny (model prog w) A (keyLt' (tuples' true) (vs.getD i Value.none) (vs.getD j Value.none)) C E { s with heap:=h2 })
  (h:∀(h':Heap) (p:List Nat) (c:Nat),(∀b o,s.heap.get? b=some o→h'.get? b=some o)→h'.get? (s.heap.objs.size+1)=some (seqObj "list" (p.map fun i=>vs.getD i Value.none).toArray c)→p.Perm (List.range vs.length) →
   p.Pairwise (fun i j=>lt j i=false)→Q (.ref (s.heap.objs.size+1)) { s with heap:=h' }) :
  wpAny (model prog w) A (call (.builtin "sorted") [.ref l]) Q E s:=by
 refine Calls.call_function_entry kind_sorted plain_sorted entry_sorted (args_sorted1 _) ?_
 unfold Builtin.«sorted»
 refine wpAny_bind (m:=checkCount "sorted" 1 1 _) (wpAny_pure ?_)
 refine wpAny_bind (collect_list hl ?_ (by rw[sizeLine_eq];omega))
 refine wpAny_bind (wpAny_newList ?_ (by rw[sizeLine_eq];omega))
 have hsz:((s.heap.push (seqObj "list" #[] 0)).update s.heap.objs.size (Obj.mapSeq (· ++ vs.toArray))).objs.size=s.heap.objs.size+1:=by
  rw[Heap.size_update,size_push']
 show wpAny _ _ _ _ _ { s with heap:=((s.heap.push (seqObj "list" #[] 0)).update s.heap.objs.size (Obj.mapSeq (· ++ vs.toArray))).push (seqObj "list" vs.toArray 0) }
 rw[hsz]
 generalize hh1:(((s.heap.push (seqObj "list" #[] 0)).update s.heap.objs.size (Obj.mapSeq (· ++ vs.toArray))).push (seqObj "list" vs.toArray 0))=h1
 have hoL:h1.get? (s.heap.objs.size+1)=some (seqObj "list" vs.toArray 0):=by
  rw[← hh1,← hsz];exact Heap.get?_push_size _ rfl
 have keep:∀b o,s.heap.get? b=some o→h1.get? b=some o:=fun b o q=>by
  have hlt:b<s.heap.objs.size:=Heap.lt_size q
  rw[← hh1,Heap.get?_push_ne _ _ _ (by rw[hsz];exact Nat.ne_of_lt (Nat.lt_succ_of_lt hlt)),Heap.get?_update_ne _ _ _ _ (Nat.ne_of_lt hlt),Heap.get?_push_ne _ _ _ (Nat.ne_of_lt hlt)]
  exact q
 have hz1:h1.objs.size=s.heap.objs.size+2:=by rw[← hh1,size_push',hsz]
 have nD:∀b o,s.heap.get? b=some o→b≠s.heap.objs.size+1:=fun b o q=>Nat.ne_of_lt (Nat.lt_succ_of_lt (Heap.lt_size q))
 generalize hA:s.heap.objs.size+1=D at *
 refine wpAny_bind (wpAny_holding (wpAny_call_entry slot_list_sort ⟨_,hoL,rfl⟩ entry_list_sort ?body (args_list_sort _)))
 case body =>
  have hD:D<h1.objs.size:=Heap.lt_size hoL
  have s1:=Heap.SameBut.update h1 D (Obj.mapSeq fun _=>(#[]:Array Value))
  obtain⟨e1,ho1⟩:∃e1,(h1.update D (Obj.mapSeq fun _=>(#[]:Array Value))).get? D=some (seqObj "list" #[] e1):=⟨_,get?_update_seq hoL fun _ => #[]⟩
  have keep2:∀b o,s.heap.get? b=some o→(((h1.update D (Obj.mapSeq fun _=>(#[]:Array Value))).push (seqObj "tuple" vs.toArray 0)).push (seqObj "list" #[] 0)).get? b=some o:=fun b o q=>by
   have hb:b≠D:=nD b o q
   exact Heap.get?_push_of_some _ (Heap.get?_push_of_some _ ((s1.2 b hb).trans (keep b o q)))
  have ho6:(((h1.update D (Obj.mapSeq fun _=>(#[]:Array Value))).push (seqObj "tuple" vs.toArray 0)).push (seqObj "list" #[] 0)).get? D=some (seqObj "list" #[] e1):=Heap.get?_push_of_some _ (Heap.get?_push_of_some _ ho1)
  rw[list_sort_plain]
  refine wpAny_bind (listItems_at (s:={ s with heap:=h1 }) hoL rfl ?_)
  refine wpAny_bind (listUpdate_at (s:={ s with heap:=h1 }) hoL rfl ?_ (by rw[List.size_toArray,sizeLine_eq];omega) (Nat.zero_le _))
  refine wpAny_bind (seqEpoch_at ho1 rfl ?_)
  refine wpAny_bind (wpAny_newTuple ?_ (by show vs.length≤_;rw[sizeLine_eq];omega))
  refine wpAny_bind (wpAny_newList ?_ (Nat.zero_le _))
  refine wpAny_holding ?_
  show wpAny (model prog w) _ _ _ E { s with heap:=((h1.update D (Obj.mapSeq fun _=>(#[]:Array Value))).push (seqObj "tuple" vs.toArray 0)).push (seqObj "list" #[] 0) }
  dsimp only
  generalize ((h1.update D (Obj.mapSeq fun _=>(#[]:Array Value))).push (seqObj "tuple" vs.toArray 0)).push (seqObj "list" #[] 0)=h2 at keep2 ho6 ⊢
  have last:∀(st':SortSt) (p:List Nat),(arrOf st').map (·.2)=(p.map fun i=>vs.getD i Value.none).toArray→failedOf st'=none→p.Perm (List.range vs.length)→p.Pairwise (fun i j=>lt j i=false) →
    wpAny (model prog w) A.in1.in1 (do
     let touched:=(← seqEpoch D) != e1
     Builtin.List.listUpdate (.ref D) fun _=>(arrOf st').map (·.2)
     if let some e:=failedOf st' then rule "list.sort.comparison-raised";throw e
     if touched then rule "list.sort.modified";raiseError "ValueError" "list modified during sort"
     ret .none:Sem PySem.Fin) (fun fin s'=>∃v,fin=.done (.ret v)∧wpAny (model prog w) A.in1 (pure (.done (.ret (.ref D))):Sem PySem.Fin) (fun fin s'=>∃v,fin=.done (.ret v)∧Q v s') E s') E { s with heap:=h2 }:=by
   intro st' p hout hf hp hs
   have hsz3:((p.map fun i=>vs.getD i Value.none).toArray).size=vs.length:=by rw[List.size_toArray,List.length_map,hp.length_eq,List.length_range]
   have s2:=Heap.SameBut.update h2 D (Obj.mapSeq fun _=>(p.map fun i=>vs.getD i Value.none).toArray)
   obtain⟨c2,hc2⟩:∃c2,(h2.update D (Obj.mapSeq fun _=>(p.map fun i=>vs.getD i Value.none).toArray)).get? D=some (seqObj "list" (p.map fun i=>vs.getD i Value.none).toArray c2):=⟨_,get?_update_seq ho6 fun _=>_⟩
   rw[hout,hf]
   refine wpAny_bind (seqEpoch_at ho6 rfl ?_)
   refine wpAny_bind (listUpdate_at (s:={ s with heap:=h2 }) ho6 rfl ?_ (Nat.zero_le _) (Nat.le_trans (Nat.le_of_eq hsz3) (by rw[sizeLine_eq];omega)))
   simp only[bne_self_eq_false,Bool.false_eq_true,if_false]
   exact wpAny_pure ⟨_,rfl,wpAny_pure ⟨_,rfl,h _ p c2 (fun b o q=>by
    have hb:b≠D:=nD b o q
    exact(s2.2 b hb).trans (keep2 b o q)) hc2 hp hs⟩⟩
  by_cases h2':vs.toArray.size<2
  ·rw[if_pos h2',if_pos h2']
   refine wpAny_bind (wpAny_pure ?_)
   rw[StateT.run_pure]
   refine wpAny_bind (wpAny_pure ?_)
   have hlen:vs.length<2:=by simpa using h2'
   refine last (SortSt.mk' general' (vs.toArray.zip vs.toArray) #[] 7 none) (List.range vs.length) ?_ rfl (List.Perm.refl _) ?_
   ·show(vs.toArray.zip vs.toArray).map (·.2)=_
    match vs,hlen with
    | [],_=>simp
    | [_],_=>simp
   ·match hn:vs.length,hlen with
    | 0,_=>exact .nil
    | 1,_=>exact List.pairwise_singleton _ _
  ·rw[if_neg h2',if_neg h2']
   have hlen:2≤vs.length:=by simp at h2';omega
   obtain⟨fs,t1,t2,t3⟩:=hk h2 keep2
   refine wpAny_bind (kat_kind (T:=.type "int") t1 (by omega) (fun v hv=>by obtain⟨i,t,rfl⟩:=t3 v hv;exact .of_pure rfl) (by decide) ?_)
   have eb:(Value.type "int" != Value.type "tuple")=true:=by decide +kernel
   rw[eb]
   have gd:=a20 (n:=vs.length) T (by omega)
   refine wpAny_bind (wpAny_mono (kat_run (κ:=tuples' true) (vs:=vs) (ks:=vs) (Q:=fun st' s'=>∃p:Array Nat,p.size=vs.length∧arrOf st'=p.map (kas_item (vs.toArray.zip vs.toArray))∧failedOf st'=none∧s'={ s with heap:=h2 }∧Pmn vs.length p∧Up lt p vs.length)
    (G:=fun p s'=>s'={ s with heap:=h2 }∧Pmn vs.length p∧Up lt p vs.length)
    rfl hlen h64 (fun p' st' s' a1 a2 a3 a4=>⟨p',a1,a2,a3,a4⟩) (gd.wp (fun i j C hi hj hC=>hc h2 keep2 _ i j C _ hi hj hC) fun p hp=>⟨rfl,hp⟩)) ?_ fun _ _ x=>x)
   rintro⟨⟨⟩,st'⟩ s' ⟨p,hp,har,hf,rfl,hP,hU⟩
   refine last st' p.toList (kat_snds rfl har) hf hP ?_
   rw[List.pairwise_iff_getElem]
   intro i j hi hj hij
   have hU':=hU i j (by omega) (by rw[← hp];simpa using hj)
   simp only[Array.length_toList]at hi hj
   have e1:ga p i=p[i]:=by unfold ga;simp[Array.getD,hi]
   have e2:ga p j=p[j]:=by unfold ga;simp[Array.getD,hj]
   rw[e1,e2]at hU'
   simpa using hU'
theorem a5D{l:Addr}{vs:List Value}{ks:List (List Int)}{Q:Value→Shared→Prop}(hl:s.heap.IsList l vs.toArray)(hk:TPs s.heap vs ks)(h64:vs.length<64)
  (hd:∀i j,i<vs.length→j<vs.length→i≠j→(ks.getD i []).length=(ks.getD j []).length∧ks.getD i []≠ks.getD j [])
  (h:∀(h':Heap) (p:List Nat) (c:Nat),(∀b o,s.heap.get? b=some o→h'.get? b=some o)→h'.get? (s.heap.objs.size+1)=some (seqObj "list" (p.map fun i=>vs.getD i Value.none).toArray c)→p.Perm (List.range vs.length) →
   p.Pairwise (fun i j=>HT.lexLt (ks.getD j []) (ks.getD i [])=false)→Q (.ref (s.heap.objs.size+1)) { s with heap:=h' }) :
  wpAny (model prog w) A (call (.builtin "sorted") [.ref l]) Q E s:=by
 refine a6T hl (a10 fun i=>ks.getD i []) h64 (fun h2 kp=>a21 (hk.keeps kp)) (fun h2 kp A i j C E hi hj hC=>?_) h
 have hk2:=hk.keeps kp
 by_cases z:i=j
 ·subst z
  refine TupPre.lt_self (s:={ s with heap:=h2 }) (hk2.at i hi) ?_
  rw[a1z]at hC
  exact hC
 ·obtain⟨e,n⟩:=hd i j hi hj z
  exact TupPre.lt (s:={ s with heap:=h2 }) (hk2.at i hi) (hk2.at j hj) e n hC
end
def VPs(K:W.Frag)(H:Hp):List V→List (List Int)→Prop
 | [],[]=>True
 | v::vs,k::ks=>(∃a rs,v=.ref a∧SqT K H a (k.map V.int++rs)∧k≠[]∧∀r∈rs,∃b,r=.ref b)∧VPs K H vs ks
 | _,_=>False
def a70(K:W.Frag):List V→Hp→VK→Prop:=fun xs H Q=>∃(a:Addr) (ys:List V) (ks:List (List Int)),xs=[.ref a]∧SqL K H a ys∧VPs K H ys ks∧ys.length<64∧(∀i j,i<ys.length→j<ys.length→i≠j→(ks.getD i []).length=(ks.getD j []).length∧ks.getD i []≠ks.getD j []) ∧
 ∀l (p:List Nat),H l=none→p.Perm (List.range ys.length)→p.Pairwise (fun i j=>HT.lexLt (ks.getD j []) (ks.getD i [])=false)→Q (.ref l) (upd H l (.lst (p.map fun i=>ys.getD i .non)))
theorem a2v:∀{k:List Int} {rs:List V} {us:List Value},Vals (k.map V.int++rs) us→∃vs ws,us=vs++ws∧IntsAre vs k∧Vals rs ws
 | [],rs,us,r=>⟨[],us,rfl,.nil,r⟩
 | n::k,rs,_,.cons r t=>by
  obtain⟨vs,ws,e,h1,h2⟩:=a2v (k:=k) t
  obtain⟨tk,e2⟩:=r
  exact⟨.int n tk::vs,ws,by rw[e,e2];rfl,.cons n tk h1,h2⟩
theorem a1Q:∀{vs:List Value} {ns:List Int},IntsAre vs ns→∀u∈vs,∃m t,u=Value.int m t
 | _,_,.nil,u,hu=>by cases hu
 | _,_,.cons m t r,u,hu=>by
  rcases List.mem_cons.mp hu with rfl | hu
  ·exact⟨m,t,rfl⟩
  ·exact a1Q r u hu
theorem a9b(n:Int)(t:Tok):(Value.int n t == Value.int n t)=true:=by simp
theorem a9c(a:Addr):(Value.ref a == Value.ref a)=true:=by simp
section
variable {X:Cx}
theorem a22{pins:List (Addr×Obj)}{σ:St}{H:Hp}{s:Shared}(I:Inv X pins σ H s):∀{ys:List V} {us:List Value} {ks:List (List Int)},Vals ys us→VPs X.K H ys ks→TPs s.heap us ks
 | [],_,[],.nil,_=>trivial
 | [],_,_::_,_,h=>h.elim
 | _::_,_,[],_,h=>h.elim
 | v::ys,_,k::ks,.cons r rs,⟨⟨a,zs,e,hq,hn,hz⟩,h⟩=>by
  refine⟨?_,a22 I rs h⟩
  subst e
  obtain⟨its,rv,⟨o,ho,hc,n,hd⟩,_⟩:=I.tuple hq
  obtain⟨vs,ws,e,hi,hw⟩:=a2v rv
  refine⟨a,o,_,n,vs,ws,r,ho,hc,hd,by simpa using e,hi,hn,?_⟩
  intro u hu
  have hu:u∈its:=by simpa using hu
  rw[e]at hu
  rcases List.mem_append.mp hu with hu | hu
  ·obtain⟨m,t,rfl⟩:=a1Q hi u hu
   exact a9b m t
  ·obtain⟨j,hj,e2⟩:=List.mem_iff_getElem.mp hu
   have hl:=hw.length
   have hj2:j<zs.length:=by omega
   obtain⟨w',q1,q2⟩:=hw.get (List.getElem?_eq_getElem hj2)
   obtain⟨b,eb⟩:=hz zs[j] (List.getElem_mem hj2)
   rw[eb]at q2
   rw[List.getElem?_eq_getElem hj,e2]at q1
   cases q1
   cases q2
   exact a9c b
theorem a5E{K:W.Frag}(hK:X.K=K:=by rfl):J0 X (.builtin "sorted") (a70 K):=by
 subst hK
 intro pins s σ H xs us Q I r h
 obtain⟨a,ys,ks,rfl,hq,hk,h64,hd,q⟩:=h
 obtain⟨u,rfl,ru⟩:=r.one
 cases (show u=Value.ref a from ru)
 obtain⟨its,rv,pl,hz⟩:=I.list hq
 have hlen:=rv.length
 refine a5D pl.isList (a22 I rv hk) (by omega) (fun i j hi hj=>hd i j (by omega) (by omega)) fun h' p c kp ho hp hs=>?_
 have hf:H (s.heap.objs.size+1)=none:=I.hok.fresh (Nat.le_succ _)
 have hpy:p.Perm (List.range ys.length):=by rw[hlen];exact hp
 refine⟨.ref (s.heap.objs.size+1),_,I.laid (t':=s.toks) (o:=.lst (p.map fun i=>ys.getD i .non)) kp (Nat.le_succ _) ?_,rfl,q _ p hf hpy hs⟩
 refine⟨?_,p.map fun i=>its.getD i Value.none,c,Y9 p rv fun i hi=>List.mem_range.mp (hpy.mem_iff.mp hi),ho⟩
 rw[List.length_map,hpy.length_eq,List.length_range];exact hz
end
theorem a30{pos:Pos}{a b:Int}{c cv:Value}(l:List Value)(h:TriplesOk l)(e:codeAmong pos (l++[rawInt a,rawInt b,c])=some cv):codeAmong pos l=some cv∨cv=c:=by
 fun_induction TriplesOk l with
 | case1 =>
  simp only[List.nil_append,codeAmong,rawInt]at e
  split at e
  ·exact .inr (Option.some.inj e).symm
  ·cases e
 | case2 a t b u x k7 ih =>
  simp only[List.cons_append,codeAmong]at e ⊢
  split at e
  ·exact .inl (by rename_i z;rw[if_pos z];exact e)
  ·rename_i z;rw[if_neg z];exact ih h e
 | case3=>exact h.elim
def a1B(oc:Obj)(q:Str):Prop:=∃vs t,oc.data=.fields vs∧vs[1]? = some (.str q t)
section
variable {X:Cx}{pins:List (Addr×Obj)}{σ:St}{H:Hp}{s:Shared}{params:Arguments}{body:Expr}{scope:Scope}{lpos:Pos}{c P:Addr}{q:Str}{tq:Tok}{qs:Array Value}{Q:Value→Shared→Prop}{E:Value→Shared→Prop}
abbrev a0c(X:Cx)(params:Arguments)(body:Expr)(scope:Scope)(q:Str)(c':Addr)(pm ctv:Value):Obj:=kla_obj "<lambda>" q params body scope (y3 X.env.cells scope.names []) pm c' ctv
theorem Inv.grown{h':Heap}{tk:Nat}{c':Addr}{oc:Obj}{ps:Array Value}{a b:Int}(I:Inv X pins σ H s)(hT:H P=some (.tbl qs))(hqs:qs[0]? = some (Value.str q tq))(eP:s.heap.get? P=some (tabObj ps))(tr:TriplesOk ps.toList)
  (al:∀pos cv,codeAmong pos ps.toList=some cv→∃c oc u,cv=Value.ref c∧H c=some (.frz oc u)∧∃vs q' t t2,oc.data=.fields vs∧vs[1]? = some (Value.str q' t2)∧qs[0]? = some (Value.str q' t))
  (hx:Heap.ExtBut P s.heap h') (hge:s.heap.objs.size≤c') (hoc:h'.get? c'=some oc) (hq:a1B oc q) (htb:h'.get? P=some (tabObj (ps ++ #[rawInt a,rawInt b,.ref c']))) :
  Inv X pins σ (upd H c' (.frz oc (.own c'))) { s with heap:=h',toks:=tk }:=by
 have hn:H c'=none:=I.hok.fresh hge
 have neP:∀b',H b'=none→b'≠P:=fun b' n z=>by rw[z,hT]at n;cases n
 refine I.un (t':=tk) ⟨fun b o e n _ _=>hx b o (neP b n) e,fun b o e n _ _=>⟨o.slots,hx b o (neP b n) e⟩,fun b o e n _=>by rw[b9 (Nat.ne_of_lt (Nat.lt_of_lt_of_le (Heap.lt_size e) hge))];exact n,fun b o e _=>?_,fun b xs e=>by rw[b9 (g8 e hn)];exact e,fun b o u e=>by rw[b9 (g8 e hn)];exact e,fun b qs e=>⟨#[],by rw[b9 (g8 e hn),e];simp⟩⟩ fun b u e=>?_
 ·by_cases z:b=P
  ·rw[z];exact⟨_,htb⟩
  ·exact⟨o,hx b o z e⟩
 ·by_cases z:b=c'
  ·subst z
   rw[i0]at e;cases e
   exact⟨hoc,oc,hoc⟩
  ·rw[b9 z]at e
   by_cases y:b=P
   ·subst y
    rw[hT]at e;cases e
    refine⟨_,htb,by rw[Array.toList_append];exact TriplesOk_snoc _ _ _ _ tr,fun pos cv e=>?_⟩
    rw[Array.toList_append]at e
    rcases a30 _ tr e with e | rfl
    ·obtain⟨c,o,u,e1,e2,r⟩:=al pos cv e
     exact⟨c,o,u,e1,by rw[b9 (g8 e2 hn)];exact e2,r⟩
    ·obtain⟨vs,t,d1,d2⟩:=hq
     exact⟨c',oc,.own c',rfl,i0,vs,q,tq,t,d1,d2,hqs⟩
   ·refine(I.hok b u e).stay (fun d v hd r=>hx d v ?_ r) (fun d r=>by rw[b9 (g8 r hn)];exact r) (fun d xs r=>by rw[b9 (g8 r hn)];exact r) fun d o u r=>by rw[b9 (g8 r hn)];exact r
    rcases hd with rfl | hd
    ·exact y
    ·intro z;rw[z,hT]at hd;cases hd
theorem a9d(I:Inv X pins σ H s)(hd:defaultsOf params X.env=([],[]))(hcode:X.env.code=.ref c)(C:CodeHd X.base c P)(hbl:X.base.BuiltinsAt X.mg P)(hT:H P=some (.tbl qs))(hqs:qs[0]? = some (Value.str q tq))(hq:q=X.env.qual ++ "<lambda>")
  (hfree:∀y∈scope.names,y.2=.free→X.env.scope.names.lookup y.1=some .cell∨X.env.scope.names.lookup y.1=some .free)
  (h:∀f c' oc u pm ctv H' s',Inv X pins σ H' s'→(∀a o,H a=some o→H' a=some o)→H' f=some (.frz (a0c X params body scope q c' pm ctv) (.own f))→H' c'=some (.frz oc u)→a1B oc q→Q (.ref f) s') :
  wpAny (model X.prog X.w) X.A (eval (.Lambda params body scope lpos) X.env) Q E s:=by
 refine kla_eval hd ?_
 subst hq
 obtain⟨ps,eP,tr,al⟩:=I.hok P _ hT
 have hcl:=S3 (scope:=scope) (env:=X.env) fun y hy hk=>I.ok.has y.1 (hfree y hy hk)
 have hg:s.heap.Ns mainGlobals X.mg:=I.mod.glob.keeps I.bk
 obtain⟨bm,ob,b1,b2,b3,b4,b5,b6,b7,b8⟩:=hbl
 have hb:s.heap.BuiltinsAt X.mg P:=⟨bm,ob,b1,b2,b3,b4,I.bk _ _ b5,b6,b7,b8⟩
 have lay:∀(H1:Hp) (h1:Heap) (tk:Nat) (c':Addr) (oc:Obj) (u:HO) (pm ctv:Value),Inv X pins σ H1 { s with heap:=h1,toks:=tk }→(∀a o,H a=some o→H1 a=some o)→H1 c'=some (.frz oc u)→a1B oc (X.env.qual ++ "<lambda>")→Q (.ref h1.objs.size) { s with heap:=h1.push (a0c X params body scope (X.env.qual ++ "<lambda>") c' pm ctv),toks:=tk }:=by
  intro H1 h1 tk c' oc u pm ctv I1 ex e3 e4
  have hf:H1 h1.objs.size=none:=I1.hok.fresh (Nat.le_refl _)
  have hgt:(h1.push (a0c X params body scope (X.env.qual ++ "<lambda>") c' pm ctv)).get? h1.objs.size=some (a0c X params body scope (X.env.qual ++ "<lambda>") c' pm ctv):=Heap.get?_push_size _ rfl
  have I2:=I1.laid (a:=h1.objs.size) (o:=.frz (a0c X params body scope (X.env.qual ++ "<lambda>") c' pm ctv) (.own h1.objs.size)) (t':=tk) (fun b o e=>Heap.get?_push_of_some (a0c X params body scope (X.env.qual ++ "<lambda>") c' pm ctv) e) (Nat.le_refl _) ⟨hgt,_,hgt⟩
  refine h _ c' oc u pm ctv _ _ I2 (fun a o e=>?_) i0 ?_ e4
  ·rw[b9 (g8 (ex a o e) hf)];exact ex a o e
  ·rw[b9 (g8 e3 hf)];exact e3
 cases e:codeAmong lpos ps.toList with
 | some cv =>
  obtain⟨c',oc,u,rfl,hc',vs,q',t,t2,d1,d2,d3⟩:=al lpos cv e
  have hq:q'=X.env.qual ++ "<lambda>" := by
   rw[hqs]at d3
   injection d3 with d3
   injection d3 with d3
   exact d3.symm
  subst hq
  refine kla_makeFunctionHit (mg:=X.mg) hcl I.ok.glob hg hcode (C.keeps I.bk) eP tr e hb fun ctv h' tk hk hsz=>?_
  exact lay H h' tk c' oc u _ ctv (I.kept hk) (fun _ _ e=>e) hc' ⟨vs,t2,d1,d2⟩
 | none =>
  have hgP:mainGlobals≠P:=fun z=>by
   obtain⟨o,es,ep,e1,hd,_⟩:=hg
   rw[z,eP]at e1;cases e1;cases hd
  refine kla_makeFunction (mg:=X.mg) hcl I.ok.glob hg hcode (C.keeps I.bk) eP tr e hgP hb fun c' ctv h' tk hx hge hlt hrec htb=>?_
  obtain⟨c2,oc,vs,t,e2,hoc,hd,hv⟩:=hrec
  cases e2
  exact lay _ h' tk c' oc (.own c') _ ctv (I.grown (tk:=tk) hT hqs eP tr al hx hge hoc ⟨vs,t,hd,hv⟩ htb) (fun a o e=>by rw[b9 (g8 e (I.hok.fresh hge))];exact e) i0 ⟨vs,t,hd,hv⟩
end
abbrev a4H(X:Cx)(scope:Scope)(q:Str)(L f c':Addr):Env:=envX q scope L f (.ref c') (y3 X.env.cells scope.names [])
abbrev a6U(X:Cx)(A':Around)(scope:Scope)(q:Str)(Nc:List Str)(f c':Addr)(s:Shared)(H:Hp):Cx :=
 { X with A:=A'.deeper (a4H X scope q s.heap.objs.size f c'),N:=Nc,s₀:=s,H₀:=H,env:=a4H X scope q s.heap.objs.size f c',outer:=X.stack,stack:=a4H X scope q s.heap.objs.size f c'::X.stack,ex:=[],fn:=fun _=>false,calm:=true,pn:=[],xe:=fun _ _=>False }
def a37(js:List Nat)(σ:St)(x:V):St:=some x::js.map fun j=>(σ[j]?).getD none
section
variable {X:Cx}{pins:List (Addr×Obj)}{σ:St}{H:Hp}{s:Shared}{A':Around}{params:Arguments}{body:Expr}{scope:Scope}{q kn:Str}{f c':Addr}{Nc:List Str}{js:List Nat}{h₁:Heap}{tk:Nat}{v:Value}{x:V}
theorem b06(I:Inv X pins σ H s)(hA:A'.frames=some X.stack)(hh:A'.handled=none)(S:CompSc X.env.scope scope X.N Nc 1 js)(hk0:Nc[0]? = some kn)(hloc:scope.names.lookup kn=some .local)
  (hns:h₁.Ns s.heap.objs.size (fun y=>([(kn,v)]:List (Str×Value)).reverse.lookup y)) (old:∀b o,s.heap.get? b=some o→h₁.get? b=some o) (rv:RelV x v) :
  Inv (a6U X A' scope q Nc f c' s H) [] (a37 js σ x) H { s with heap:=h₁,toks:=tk }:=by
 have ok:=I.ok
 refine⟨⟨ok.mod,S.kind,rfl,rfl,Nat.le_refl _,fun x y c h1 h2=>ok.inj x y c (A0 h1) (A0 h2),fun y hy=>?_,(fun x c z=>nomatch z),fun _=>hh,Around.frames_deeper hA,.inr ⟨rfl,rfl⟩,fun b hb=>absurd (show b∈([]:List Addr)from hb) (by simp),I.bs,Nat.le_trans ok.bsz I.sz,fun b o e hb=>absurd (show b∈([]:List Addr)from hb) (by simp),fun b hb=>absurd (show b∈([]:List Addr)from hb) (by simp),I.stack,I.stkFree⟩,
  rfl,I.bare,Un.kept old,⟨_,hns,fun i y w e1 e2 e3=>?_⟩,fun y c e=>?_,I.hok.fresh (Nat.le_refl _),fun y c e=>I.freeC y c (A0 e),fun p hp=>absurd (show p∈([]:List (Addr×Obj))from hp) (by simp),I.hok.kept old,?_⟩
 ·have hy:scope.names.lookup y=some .cell∨scope.names.lookup y=some .free:=hy
  rcases hy with hy | hy
  ·exact absurd rfl (S.cell _ (C8 hy))
  ·exact J4 (C8 hy) (ok.has y (S.free _ (C8 hy) rfl))
 ·cases i with
  | zero =>
   have e1:Nc[0]? = some y:=e1
   rw[hk0]at e1;cases e1
   have e2:some (some x)=some (some w):=e2
   cases e2
   refine⟨v,rv,.inl ⟨hloc,?_⟩⟩
   show([(kn,v)]:List (Str×Value)).reverse.lookup kn=some v
   simp
  | succ i =>
   have e2:(js.map fun j=>(σ[j]?).getD none)[i]? = some (some w):=e2
   rw[List.getElem?_map]at e2
   cases hj:js[i]? with
   | none=>rw[hj]at e2;cases e2
   | some j =>
    rw[hj]at e2
    have e2':(σ[j]?).getD none=some w:=Option.some.inj e2
    have hσ:σ[j]? = some (some w):=by
     cases z:σ[j]? with
     | none=>rw[z]at e2';cases e2'
     | some y=>rw[z]at e2';simp at e2';rw[e2']
    have e1:Nc[i+1]? = some y:=e1
    have hx:(Nc.drop 1)[i]? = some y:=by rw[List.getElem?_drop,show 1+i=i+1 by omega];exact e1
    have hNj:X.N[j]? = some y:=by
     have:=congrArg (fun l=>l[i]?) S.cap
     simp only[List.getElem?_map,hx,hj,Option.map_some]at this
     exact(Option.some.inj this).symm
    have hfr:scope.names.lookup y=some .free:=S.caps y (List.mem_of_getElem? hx)
    have hk:=S.free _ (C8 hfr) rfl
    obtain⟨m,hn,hl⟩:=I.loc
    obtain⟨u,r,l⟩:=hl j y w hNj hσ (.inr hk)
    refine⟨u,r,.inr ⟨.inr hfr,?_⟩⟩
    rcases l with⟨l1,_⟩ | ⟨_,c,hc,hcell⟩
    ·have l1:X.env.scope.names.lookup y=some .local:=l1
     rcases hk with hk | hk
     ·rw[l1]at hk;cases hk
     ·rw[l1]at hk;cases hk
    ·obtain⟨d,hd⟩:=J4 (cells:=X.env.cells) (acc:=[]) (C8 hfr) ⟨c,hc⟩
     have:=A0 hd
     rw[hc]at this;cases this
     obtain⟨o,ho,hdd⟩:=hcell
     exact⟨c,hd,⟨o,old _ _ ho,hdd⟩⟩
 ·obtain⟨w,o,ho,hd⟩:=I.cell y c (A0 e)
  exact⟨w,o,old _ _ ho,hd⟩
 ·unfold a37
  rw[List.length_cons,List.length_map]
  have:=S.len
  show _=Nc.length
  omega
theorem a9e{oc:Obj}{u u':HO}{pm ctv:Value}{te:TE}{Qk:VK}(I:Inv X pins σ H s)(hA:A'.frames=some X.stack)(hh:A'.handled=none)(hdp:A'.depth<recursionLimit)(S:CompSc X.env.scope scope X.N Nc 1 js)(hk0:Nc[0]? = some kn)(hloc:scope.names.lookup kn=some .local)
  (hf:H f=some (.frz (a0c X params body scope q c' pm ctv) u')) (hc:H c'=some (.frz oc u)) (hq:a1B oc q) (hbind:bindArgs (kla_fn "<lambda>" q params body scope (y3 X.env.cells scope.names []) pm (.ref c') ctv) ⟨[v],[]⟩=pure [(kn,v)])
  (hco:scope.isCoroutine=false) (hgen:scope.isGenerator=false) (hbody:PE (a6U X A' scope q Nc f c' s H) body te) (rv:RelV x v) (ht:te (a37 js σ x) H Qk) :
  wpAny (model X.prog X.w) A' (call (.ref f) [v]) (fun w s'=>∃y H2,Inv X pins σ H2 s'∧RelV y w∧Qk y H2∧Un (B8 X.stack) [] H H2 s.heap s'.heap) (fun _ _=>False) s:=by
 have ef:s.heap.get? f=some (a0c X params body scope q c' pm ctv):=(I.hok f _ hf).1
 have ec:s.heap.get? c'=some oc:=(I.hok c' _ hc).1
 obtain⟨vs,t,d1,d2⟩:=hq
 refine wpAny_call (kla_callFunE hdp ef rfl hco hgen rfl ⟨c',oc,vs,t,rfl,ec,d1,d2⟩ ?_)
 rw[hbind]
 refine wpAny_pure (wpAny_newFunctionEnv S.cell (by
  intro y hy
  rw[List.mem_singleton.mp hy]
  exact hloc) (fun h₁ hns hsb=>⟨I.nolimit.fresh _ hsb,?_⟩) S.kind)
 have old:∀b o,s.heap.get? b=some o→h₁.get? b=some o:=fun b o e=>hsb.extBut b o (Nat.ne_of_lt (Heap.lt_size e)) (Heap.get?_push_of_some _ e)
 have J:=b06 (q:=q) (f:=f) (c':=c') (tk:=s.toks+([(kn,v)]:List (Str×Value)).length) I hA hh S hk0 hloc hns old rv
 refine kla_codeExpr (wpAny_mono (hbody [] _ _ H _ J ht) (fun w s' hw=>?_) fun _ _ z=>z.elim)
 obtain⟨y,H2,I2,ry,q2⟩:=hw
 exact⟨y,H2,I.call' (ch:=[]) (I2.os.trans rfl) I2.base I2.hok I2.bare (fun b hb=>absurd hb (by simp)),ry,q2,I2.base⟩
end
section
variable {prog:Program}{w:World}{A:Around}{E:Value→Shared→Prop}{s:Shared}
theorem a5F{r:Addr}{a b c:Int}{t u v:Tok}{n:Nat}{Q:List Value→Shared→Prop}(hh:A.handled=none)(hr:IsRange s.heap r a b c t u v)(hsmall:Builtin.Range.small a b c=true)(hn:Builtin.Range.rangeSize a b c=n)(hlen:n≤2 ^ 24)
  (h:∀h' tk acc,(∀b o,s.heap.get? b=some o→h'.get? b=some o)→ItemsOf (fun i v=>∃t,v=.int (a+i*c) t) acc n→Q acc.toList { s with heap:=h',toks:=tk }) :
  wpAny (model prog w) A (collect (.ref r)) Q E s:=by
 unfold collect
 refine wpAny_bind (wpAny_runValue (codeAny_builtin F.entry_proto_collect ?_))
 rw[Around.under_plainId F.plain_proto_collect _]
 show wpAny _ A.in1 (newList [] >>= fun l=>again (.builtin "list.__iadd__" ⟨[l,.ref r],[]⟩)) _ _ s
 refine wpAny_bind (wpAny_newObj_type ?_)
 refine wpAny_pure ⟨plainId_quiet F.plain_list_iadd _,codeAny_builtin F.entry_list_iadd ?_⟩
 rw[Around.under_plainId F.plain_list_iadd _]
 have hS:(s.heap.push { cls:=.type "list",data:=.seq ([]:List Value).toArray }).get? s.heap.objs.size=some { cls:=.type "list",data:=.seq ([]:List Value).toArray }:=Heap.get?_push_size _ rfl
 show wpAny _ A.in1 (Builtin.List.listExtendWith (.ref s.heap.objs.size) (.ref r) (.ref s.heap.objs.size)) _ _ _
 refine wpAny_extend_range (A:=A) (R:=fun r' s'=>match r' with
  | .ok (.ret v)=>wpAny (model prog w) A (match v with
   | .ref a=>do
    let o ← load a
    match o.data with
     | .seq xs _=>pure xs.toList
     | _=>unsupported "internal:collect"
   | _=>unsupported "internal:collect") Q E s'
  | .ok _=>False
  | .error e=>E e s') (s:={ s with heap:=s.heap.push { cls:=.type "list",data:=.seq ([]:List Value).toArray } }) hh (Heap.get?_push_of_some _ hr) hsmall hn hlen s.heap.objs.size (.ref s.heap.objs.size) 0 hS fun h' tk acc c' hk hS' hi=>?_
 show wpAny _ A (load s.heap.objs.size >>= _) _ _ _
 refine wpAny_bind (wpAny_load hS' ?_)
 exact wpAny_pure (h h' tk acc (fun b o e=>hk b o (Nat.ne_of_lt (Heap.lt_size e)) (Heap.get?_push_of_some _ e)) hi)
end
section
variable {X:Cx}{pins:List (Addr×Obj)}{σ:St}{H:Hp}{s:Shared}{A':Around}{E:Value→Shared→Prop}
theorem FpOk.nstk{H':Hp}{b:Addr}(I:Inv X pins σ H s)(f:FpOk X pins H' b):b ∉ B8 X.stack:=fun z=>by
 rcases List.mem_cons.mp (I.stkSub b z)with q | q
 ·exact f.2.1 q
 ·exact f.2.2.1 q
theorem FpOk.to{H':Hp}{b:Addr}(f:FpOk X pins H b)(n:H' b=none):FpOk X pins H' b:=⟨n,f.2⟩
theorem b07{xs:List V}{vs:List Value}(r:Vals xs vs){j:Nat}{u:Value}(h:vs[j]? = some u):∃x,xs[j]? = some x∧RelV x u:=by
 have hj:=(List.getElem?_eq_some_iff.mp h).1
 have hl:=r.length
 obtain⟨u',e,q⟩:=r.get (List.getElem?_eq_getElem (l:=xs) (i:=j) (by omega))
 rw[h]at e;cases e
 exact⟨_,List.getElem?_eq_getElem (by omega),q⟩
theorem a2w{D kS:Addr}{vs:List Value}{xs:List V}{e1 e2:Nat}{kA:Array Value}{st:SortSt}{p:List Nat}{P:PySem.Fin→Shared→Prop}(I:Inv X pins σ H s)(fD:FpOk X pins H D)(fk:FpOk X pins H kS)(ne:kS≠D)(hD:s.heap.get? D=some (seqObj "list" #[] e1))(hk:s.heap.get? kS=some (seqObj "list" kA e2))(rv:Vals xs vs)(h64:vs.length<64)(hkA:kA.size≤vs.length)
  (hout:(arrOf st).map (·.2)=(p.map fun i=>vs.getD i Value.none).toArray) (hf:failedOf st=none) (hp:p.Perm (List.range xs.length))
  (h:∀s',Inv X pins σ (upd H D (.lst (p.map fun i=>xs.getD i .non))) s'→P (.done (.ret .none)) s'):wpAny (model X.prog X.w) A' (ksk_tail D false e1 (.ref kS) st) P E s:=by
 have hlen:=rv.length
 have hsz3:((p.map fun i=>vs.getD i Value.none).toArray).size=vs.length:=by rw[List.size_toArray,List.length_map,hp.length_eq,List.length_range,hlen]
 have s1:=Heap.SameBut.update s.heap kS (Obj.mapSeq fun _=>(#[]:Array Value))
 have na1:(s.heap.update kS (Obj.mapSeq fun _=>(#[]:Array Value))).get? D=some (seqObj "list" #[] e1):=(s1.2 D (Ne.symm ne)).trans hD
 have s2:=Heap.SameBut.update (s.heap.update kS (Obj.mapSeq fun _=>(#[]:Array Value))) D (Obj.mapSeq fun _=>(p.map fun i=>vs.getD i Value.none).toArray)
 obtain⟨c2,hc2⟩:∃c2,((s.heap.update kS (Obj.mapSeq fun _=>(#[]:Array Value))).update D (Obj.mapSeq fun _=>(p.map fun i=>vs.getD i Value.none).toArray)).get? D=some (seqObj "list" (p.map fun i=>vs.getD i Value.none).toArray c2):=⟨_,get?_update_seq na1 fun _=>_⟩
 unfold ksk_tail
 rw[hout,hf]
 dsimp only
 refine wpAny_bind (listUpdate_at hk rfl ?_ (by rw[sizeLine_eq];omega) (Nat.zero_le _))
 refine wpAny_bind (wpAny_letGo ?_)
 refine wpAny_bind (seqEpoch_at na1 rfl ?_)
 refine wpAny_bind (listUpdate_at na1 rfl ?_ (Nat.zero_le _) (Nat.le_trans (Nat.le_of_eq hsz3) (by rw[sizeLine_eq];omega)))
 simp only[bne_self_eq_false,Bool.false_eq_true,if_false]
 refine wpAny_pure (h _ ?_)
 have I2:=I.turnedN (t':=s.toks) (ch:=[kS,D]) (h':=((s.heap.update kS (Obj.mapSeq fun _=>(#[]:Array Value))).update D (Obj.mapSeq fun _=>(p.map fun i=>vs.getD i Value.none).toArray))) (fun b u hb e=>by
  simp only[List.mem_cons,List.not_mem_nil,or_false,not_or]at hb
  exact(s2.2 b hb.2).trans ((s1.2 b hb.1).trans e)) (fun b hb=>by
  simp only[List.mem_cons,List.not_mem_nil,or_false]at hb
  rcases hb with rfl | rfl
  ·exact fk
  ·exact fD)
 refine I2.trackO ?_ hc2 rfl ?_
 ·rintro(z | ⟨z,o,e⟩ | ⟨q,hq,e⟩)
  ·exact z fD.1
  ·rcases fD.2.2.2.1 with y | y
   ·exact z y
   ·exact absurd (Heap.lt_size e) (Nat.not_lt.mpr y)
  ·exact fD.2.2.2.2.2 q hq e
 ·refine⟨?_,p.map fun i=>vs.getD i Value.none,c2,Y9 p rv fun i hi=>List.mem_range.mp (hp.mem_iff.mp hi),hc2⟩
  rw[List.length_map,hp.length_eq,List.length_range,hlen,sizeLine_eq]
  omega
end
section
variable {X:Cx}{pins:List (Addr×Obj)}{σ:St}{H:Hp}{s:Shared}{A':Around}{E:Value→Shared→Prop}
theorem a71{D kS:Addr}{vs keys:List Value}{xs ys:List V}{ks:List (List Int)}{e1 e2:Nat}{P:PySem.Fin→Shared→Prop}(I:Inv X pins σ H s)(fD:FpOk X pins H D)(fk:FpOk X pins H kS)(ne:kS≠D)(hD:s.heap.get? D=some (seqObj "list" #[] e1))(hk:s.heap.get? kS=some (seqObj "list" keys.toArray e2))(rv:Vals xs vs)(rk:Vals ys keys)(hl:keys.length=vs.length)(h64:vs.length<64)
  (vp:VPs X.K H ys ks) (hd:∀i j,i<ys.length→j<ys.length→i≠j→(ks.getD i []).length=(ks.getD j []).length∧ks.getD i []≠ks.getD j [])
  (h:∀(p:List Nat) s',p.Perm (List.range xs.length)→p.Pairwise (fun i j=>HT.lexLt (ks.getD j []) (ks.getD i [])=false)→Inv X pins σ (upd H D (.lst (p.map fun i=>xs.getD i .non))) s'→P (.done (.ret .none)) s') :
  wpAny (model X.prog X.w) A' (ksk_end D false vs.toArray e1 (.ref kS) keys.toArray) P E s:=by
 have hxl:=rv.length
 have hyl:=rk.length
 have tp:TPs s.heap keys ks:=a22 I rk vp
 unfold ksk_end
 simp only[Bool.false_eq_true,if_false]
 by_cases h2':vs.toArray.size<2
 ·rw[if_pos h2',if_pos h2']
  refine wpAny_bind (wpAny_pure ?_)
  rw[StateT.run_pure]
  refine wpAny_bind (wpAny_pure ?_)
  have hlen:vs.length<2:=by simpa using h2'
  refine a2w (st:=SortSt.mk' general' (keys.toArray.zip vs.toArray) #[] 7 none) (p:=List.range xs.length) I fD fk ne hD hk rv h64 (by simp;omega) ?_ rfl (List.Perm.refl _) fun s' J=>h _ s' (List.Perm.refl _) ?_ J
  ·show(keys.toArray.zip vs.toArray).map (·.2)=_
   rw[hxl]
   match vs,keys,hl,hlen with
   | [],[],_,_=>simp
   | [_],[_],_,_=>simp
  ·match hn:xs.length,(show xs.length<2 by omega)with
   | 0,_=>exact .nil
   | 1,_=>exact List.pairwise_singleton _ _
 ·rw[if_neg h2',if_neg h2']
  have hlen:2≤vs.length:=by simp at h2';omega
  obtain⟨fs,t1,t2,t3⟩:=a21 tp
  refine wpAny_bind (kat_kind (T:=.type "int") t1 (by omega) (fun v hv=>by obtain⟨i,t,rfl⟩:=t3 v hv;exact .of_pure rfl) (by decide) ?_)
  have eb:(Value.type "int" != Value.type "tuple")=true:=by decide +kernel
  rw[eb]
  have T:=a10 fun i=>ks.getD i []
  have gd:=a20 (n:=vs.length) T (by omega)
  refine wpAny_bind (wpAny_mono (kat_run (κ:=tuples' true) (vs:=vs) (ks:=keys) (Q:=fun st' s'=>∃p:Array Nat,p.size=vs.length∧arrOf st'=p.map (kas_item (keys.toArray.zip vs.toArray))∧failedOf st'=none∧s'=s∧Pmn vs.length p∧Up (fun i j=>HT.lexLt (ks.getD i []) (ks.getD j [])) p vs.length)
   (G:=fun p s'=>s'=s∧Pmn vs.length p∧Up (fun i j=>HT.lexLt (ks.getD i []) (ks.getD j [])) p vs.length)
   hl hlen h64 (fun p' st' s' a1 a2 a3 a4=>⟨p',a1,a2,a3,a4⟩) (gd.wp (fun i j C hi hj hC=>?_) fun p hp=>⟨rfl,hp⟩)) ?_ fun _ _ x=>x)
  ·by_cases z:i=j
   ·subst z
    refine TupPre.lt_self (tp.at i (by omega)) ?_
    rw[a1z]at hC
    exact hC
   ·obtain⟨e,n⟩:=hd i j (by omega) (by omega) z
    exact TupPre.lt (tp.at i (by omega)) (tp.at j (by omega)) e n hC
  ·rintro⟨⟨⟩,st'⟩ s' ⟨p,hp,har,hf,rfl,hP,hU⟩
   have hPx:p.toList.Perm (List.range xs.length):=by rw[hxl];exact hP
   refine a2w (p:=p.toList) I fD fk ne hD hk rv h64 (by simp;omega) (kat_snds hl har) hf hPx fun s' J=>h _ s' hPx ?_ J
   rw[List.pairwise_iff_getElem]
   intro i j hi hj hij
   have hU':=hU i j (by omega) (by rw[← hp];simpa using hj)
   simp only[Array.length_toList]at hi hj
   have e1:ga p i=p[i]:=by unfold ga;simp[Array.getD,hi]
   have e2:ga p j=p[j]:=by unfold ga;simp[Array.getD,hj]
   rw[e1,e2]at hU'
   simpa using hU'
theorem a72{D f:Addr}{vs:List Value}{xs:List V}{n0:Nat}{W:Nat→List V→Hp→Prop}{P:PySem.Fin→Shared→Prop}(I:Inv X pins σ H s)(hD:s.heap.get? D=some (seqObj "list" vs.toArray n0))(fD:FpOk X pins H D)(rv:Vals xs vs)(h64:vs.length<64)(w0:W 0 [] H)
  (turn:∀i x v ys H' s',xs[i]? = some x→RelV x v→W i ys H'→Inv X pins σ H' s'→(∀b o u,H b=some (.frz o u)→H' b=some (.frz o u))→wpAny (model X.prog X.w) A' (call (.ref f) [v]) (fun w s''=>∃y H2,Inv X pins σ H2 s''∧RelV y w∧W (i+1) (ys++[y]) H2∧Un (B8 X.stack) [] H' H2 s'.heap s''.heap) (fun _ _=>False) s')
  (fin:∀ys H',ys.length=xs.length→W xs.length ys H'→H' D=none→∃ks,VPs X.K H' ys ks∧(∀i j,i<ys.length→j<ys.length→i≠j→(ks.getD i []).length=(ks.getD j []).length∧ks.getD i []≠ks.getD j []) ∧
   ∀(p:List Nat) s',p.Perm (List.range xs.length)→p.Pairwise (fun i j=>HT.lexLt (ks.getD j []) (ks.getD i [])=false)→Inv X pins σ (upd H' D (.lst (p.map fun i=>xs.getD i .non))) s'→P (.done (.ret .none)) s') :
  wpAny (model X.prog X.w) A' (ksk_tree D (.ref f) false) P E s:=by
 have ha:D<s.heap.objs.size:=Heap.lt_size hD
 have s1:=Heap.SameBut.update s.heap D (Obj.mapSeq fun _=>(#[]:Array Value))
 obtain⟨e1,ho1⟩:∃e1,(s.heap.update D (Obj.mapSeq fun _=>(#[]:Array Value))).get? D=some (seqObj "list" #[] e1):=⟨_,get?_update_seq hD fun _ => #[]⟩
 have hkS:((s.heap.update D (Obj.mapSeq fun _=>(#[]:Array Value))).push (seqObj "tuple" vs.toArray 0)).objs.size=s.heap.objs.size+1:=by rw[size_push',Heap.size_update]
 have hxl:=rv.length
 unfold ksk_tree
 refine wpAny_bind (listItems_at hD rfl ?_)
 refine wpAny_bind (listUpdate_at hD rfl ?_ (by rw[List.size_toArray,sizeLine_eq];omega) (Nat.zero_le _))
 refine wpAny_bind (seqEpoch_at ho1 rfl ?_)
 refine wpAny_bind (wpAny_newTuple ?_ (by show vs.length≤_;rw[sizeLine_eq];omega))
 refine wpAny_bind (wpAny_newList ?_ (Nat.zero_le _))
 refine wpAny_holding ?_
 show wpAny (model X.prog X.w) A' (ksk_rest D (.ref f) false vs.toArray e1 (.ref ((s.heap.update D (Obj.mapSeq fun _=>(#[]:Array Value))).push (seqObj "tuple" vs.toArray 0)).objs.size)) P E { s with heap:=((s.heap.update D (Obj.mapSeq fun _=>(#[]:Array Value))).push (seqObj "tuple" vs.toArray 0)).push (seqObj "list" #[] 0) }
 have hkO:(((s.heap.update D (Obj.mapSeq fun _=>(#[]:Array Value))).push (seqObj "tuple" vs.toArray 0)).push (seqObj "list" #[] 0)).get? ((s.heap.update D (Obj.mapSeq fun _=>(#[]:Array Value))).push (seqObj "tuple" vs.toArray 0)).objs.size=some (seqObj "list" #[] 0):=Heap.get?_push_size _ rfl
 have hDO:(((s.heap.update D (Obj.mapSeq fun _=>(#[]:Array Value))).push (seqObj "tuple" vs.toArray 0)).push (seqObj "list" #[] 0)).get? D=some (seqObj "list" #[] e1):=Heap.get?_push_of_some _ (Heap.get?_push_of_some _ ho1)
 have I2:=I.turnedN (t':=s.toks) (ch:=[D]) (h':=((s.heap.update D (Obj.mapSeq fun _=>(#[]:Array Value))).push (seqObj "tuple" vs.toArray 0)).push (seqObj "list" #[] 0)) (fun b u hb e=>Heap.get?_push_of_some _ (Heap.get?_push_of_some _ ((s1.2 b (fun z=>hb (by simp[z]))).trans e))) (fun b hb=>by
  simp only[List.mem_singleton]at hb;rw[hb];exact fD)
 rw[hkS]at hkO ⊢
 have fk:FpOk X pins H (s.heap.objs.size+1):=I.fpOk (Nat.le_succ _) (I.hok.fresh (Nat.le_succ _))
 have ne:s.heap.objs.size+1≠D:=Nat.ne_of_gt (Nat.lt_succ_of_lt ha)
 generalize ((s.heap.update D (Obj.mapSeq fun _=>(#[]:Array Value))).push (seqObj "tuple" vs.toArray 0)).push (seqObj "list" #[] 0)=h2 at *
 generalize s.heap.objs.size+1=kS at *
 have nD:=fD.nstk I
 have nk:=fk.nstk I
 unfold ksk_rest
 refine wpAny_bind (wpAny_rule ?_)
 first
  | rw[List.forIn_toArray]
  | (rw[← Array.forIn_toList];simp only[List.toList_toArray])
  | rw[← Array.forIn_toList]
 refine wpAny_bind (ksk_fold (fun i s'=>∃H' ys kA e,Inv X pins σ H' s'∧W i ys H'∧Vals ys kA∧ys.length=i∧s'.heap.get? kS=some (seqObj "list" kA.toArray e)∧s'.heap.get? D=some (seqObj "list" #[] e1)∧H' kS=none∧H' D=none∧∀b o u,H b=some (.frz o u)→H' b=some (.frz o u)) vs 0 { s with heap:=h2 }
  ⟨H,[],[],0,I2,w0,.nil,rfl,hkO,hDO,fk.1,fD.1,fun _ _ _ e=>e⟩ ?step ?done)
 case step =>
  rintro j v s' hv ⟨H',ys,kA,e,I',wj,rk,ly,ok,od,nk',nd',fz⟩
  simp only[Nat.zero_add]at wj ly ⊢
  obtain⟨x,hx,rx⟩:=b07 rv hv
  have hj:j<vs.length:=(List.getElem?_eq_some_iff.mp hv).1
  have hz:=rk.length
  refine wpAny_bind (wpAny_attempt (wpAny_mono (turn j x v ys H' s' hx rx wj I' fz) (fun u s'' hu=>?_) fun _ _ z=>z.elim))
  obtain⟨y,H3,I3,ry,w3,un⟩:=hu
  have ok3:=un.keep kS _ ok nk' nk (by simp)
  have od3:=un.keep D _ od nd' nD (by simp)
  have s3:=Heap.SameBut.update s''.heap kS (Obj.mapSeq (·.push u))
  obtain⟨c2,hc2⟩:∃c2,(s''.heap.update kS (Obj.mapSeq (·.push u))).get? kS=some (seqObj "list" (kA.toArray.push u) c2):=⟨_,get?_update_seq ok3 (·.push u)⟩
  have nk3:=un.free kS _ ok nk' (by simp)
  have nd3:=un.free D _ od nd' (by simp)
  refine wpAny_bind (listUpdate_at ok3 rfl ?_ (by rw[List.size_toArray,sizeLine_eq];omega) (Nat.le_trans (Nat.le_of_eq (Array.size_push ..)) (by rw[List.size_toArray,sizeLine_eq];omega)))
  refine wpAny_pure ⟨rfl,H3,ys++[y],kA++[u],c2,I3.turnedN (ch:=[kS]) (fun b o hb e=>(s3.2 b (fun z=>hb (by simp[z]))).trans e) (fun b hb=>by
   simp only[List.mem_singleton]at hb;rw[hb];exact fk.to nk3),w3,?_,by rw[List.length_append,ly];rfl,?_,(s3.2 D (Ne.symm ne)).trans od3,nk3,nd3,fun b o u e=>un.frzs _ _ _ (fz b o u e)⟩
  ·exact rk.append (.cons ry .nil)
  ·rw[show(kA++[u]).toArray=kA.toArray.push u by simp];exact hc2
 case done =>
  rintro s' ⟨H',ys,kA,e,I',wj,rk,ly,ok,od,nk',nd',fz⟩
  rw[Nat.zero_add]at wj ly
  rw[← hxl]at wj ly
  obtain⟨ks,vp,hd,q⟩:=fin ys H' ly wj nd'
  refine wpAny_bind (listItems_at ok rfl ?_)
  have:=rk.length
  exact a71 I' (fD.to nd') (fk.to nk') ne od ok rv rk (by omega) h64 vp hd q
end
def TbAt(P:Addr)(q:Str)(H:Hp):Prop:=∃(qs:Array Value) (t:Tok),H P=some (.tbl qs)∧qs[0]? = some (Value.str q t)
theorem TbAt.now{P:Addr}{q:Str}{fs ex:List Addr}{H H':Hp}{h h':Heap}(t:TbAt P q H)(u:Un fs ex H H' h h'):TbAt P q H':=by
 obtain⟨qs,t,e,e2⟩:=t
 obtain⟨more,e3⟩:=u.tbls _ _ e
 refine⟨_,t,e3,?_⟩
 have h0:0<qs.size:=by
  by_cases z:0<qs.size
  ·exact z
  ·rw[Array.getElem?_eq_none (by omega)]at e2;cases e2
 rw[Array.getElem?_append_left h0];exact e2
def a38:List V→Hp→VK→Prop:=fun xs H Q=>∃j:Int,xs=[.int j]∧∀r,H r=none→Q (.ref r) (upd H r (.rng 0 j))
def a73(K:PySem.W.Frag)(te:TE)(js:List Nat)(σ:St)(Q:VK)(vs:List V)(H1:Hp):Prop:=∃(n:Nat) (r:Addr),vs=[.ref r]∧H1 r=some (.rng 0 (n:Int))∧n<64 ∧
 ∀H2:Hp,(∀a o,H1 a=some o→H2 a=some o)→∃W:Nat→List V→Hp→Prop,W 0 [] H2∧(∀i ys H',i<n→W i ys H'→te (a37 js σ (.int (i:Int))) H' fun y H''=>W (i+1) (ys++[y]) H'') ∧
  ∀ys H',ys.length=n→W n ys H'→∃ks,VPs K H' ys ks∧(∀i j,i<ys.length→j<ys.length→i≠j→(ks.getD i []).length=(ks.getD j []).length∧ks.getD i []≠ks.getD j []) ∧
   ∀l (p:List Nat),H' l=none→p.Perm (List.range n)→p.Pairwise (fun i j=>HT.lexLt (ks.getD j []) (ks.getD i [])=false)→Q (.ref l) (upd H' l (.lst (p.map fun(i:Nat)=>V.int (i:Int))))
def a74(K:W.Frag)(ta:TA)(te:TE)(js:List Nat):TE:=fun σ H Q=>ta σ H fun xs H1=>a38 xs H1 fun x H2=>a73 K te js σ Q [x] H2
section
variable {X:Cx}
theorem a5G:J0 X (.type "range") a38:=by
 intro pins s σ H xs us Q I r h
 obtain⟨j,rfl,q⟩:=h
 obtain⟨u,rfl,ru⟩:=r.one
 obtain⟨t,rfl⟩:=ru
 refine call_range_1 ?_
 have hg:(s.heap.push { cls:=.type "range",data:=.fields #[.int 0 s.toks,.int j t,.int 1 (s.toks+1)] }).get? s.heap.objs.size=some { cls:=.type "range",data:=.fields #[.int 0 s.toks,.int j t,.int 1 (s.toks+1)] }:=Heap.get?_push_size _ rfl
 exact⟨.ref _,_,I.laid (t':=s.toks+1+1) (o:=.rng 0 j) (fun b o e=>Heap.get?_push_of_some _ e) (Nat.le_refl _) ⟨_,_,_,hg⟩,rfl,q _ I.fresh⟩
theorem a5H:∀{n:Nat} {acc:Array Value},ItemsOf (fun i v=>∃t,v=.int (0+(i:Int)*1) t) acc n→Vals ((List.range n).map fun(i:Nat)=>V.int (i:Int)) acc.toList:=by
 intro n acc ⟨hs,hv⟩
 have key:∀(l:List Value) (k:Nat),(∀j v,l[j]? = some v→∃t,v=Value.int ((k+j:Nat):Int) t)→Vals ((List.range' k l.length).map fun(i:Nat)=>V.int (i:Int)) l:=by
  intro l
  induction l with
  | nil=>intro k _;exact .nil
  | cons u l ih =>
   intro k h
   rw[List.length_cons,List.range'_succ,List.map_cons]
   refine .cons ?_ (ih (k+1) fun j v e=>?_)
   ·obtain⟨t,rfl⟩:=h 0 u rfl
    exact⟨t,rfl⟩
   ·obtain⟨t,rfl⟩:=h (j+1) v (by simpa using e)
    exact⟨t,by rw[show k+(j+1)=k+1+j by omega]⟩
 have hl:acc.toList.length=n:=by simpa using hs
 have:=key acc.toList 0 fun j v e=>by
  obtain⟨t,rfl⟩:=hv j v (by simpa using e)
  exact⟨t,by congr 1;omega⟩
 rw[hl,← List.range_eq_range']at this
 exact this
theorem a5I:bootBuiltins "sorted" = some (.builtin "sorted"):=by decide +kernel
theorem a5J:bootBuiltins "range" = some (.type "range"):=by decide +kernel
theorem a9f{k:Nat}{e body:Expr}{params:Arguments}{scope:Scope}{p p2 pos pos2 lpos kpos:Pos}{ta:TA}{te:TE}{c P:Addr}{q kn:Str}{Nc:List Str}{js:List Nat}(hr:Room k X.A)(hcalm:X.calm=true)(hg:Gl X "sorted")(hm:X.mg "sorted" = none)(hg2:Gl X "range")(hm2:X.mg "range" = none)(ha:PA X [e] ta)
  (hd:defaultsOf params X.env=([],[])) (hcode:X.env.code=.ref c) (C:CodeHd X.base c P) (hbl:X.base.BuiltinsAt X.mg P) (hq:q=X.env.qual ++ "<lambda>") (hT0:TbAt P q X.H₀) (S:CompSc X.env.scope scope X.N Nc 1 js) (hk0:Nc[0]? = some kn) (hloc:scope.names.lookup kn=some .local)
  (hbd:∀cl pm cv ctv v,bindArgs (kla_fn "<lambda>" q params body scope cl pm cv ctv) ⟨[v],[]⟩=pure [(kn,v)]) (hco:scope.isCoroutine=false) (hgen:scope.isGenerator=false)
  (hbody:∀f c' s' H',PE (a6U X X.A.in1.in1 scope q Nc f c' s' H') body te)
  (he:backTo pos (starEach [Expr.Call (.Name "range" p2) [e] [] pos2] X.env)=(false,eval (.Call (.Name "range" p2) [e] [] pos2) X.env)::backTo pos (starEach [] X.env):=by rfl) (hplain:(backTo pos (starEach [Expr.Call (.Name "range" p2) [e] [] pos2] X.env)).any (·.1)=false:=by rfl)
  (he2:starEach [e] X.env=(false,eval e X.env)::starEach [] X.env:=by rfl) (hpl2:(backTo pos2 (starEach [] X.env)).any (·.1)=false:=by rfl) :
  PE X (.Call (.Name "sorted" p) [.Call (.Name "range" p2) [e] [] pos2] [⟨some "key",.Lambda params body scope lpos,kpos⟩] pos) (a74 X.K ta te js):=by
 intro pins s σ H Q I h
 have hrng:PE X (.Call (.Name "range" p2) [e] [] pos2) (tCB a38 ta):=Y6 a5G hg2 hm2 a5J ha (by decide) (by decide) he2 hpl2
 have hlam:PE X (.Lambda params body scope lpos) (fun σ H Q=>∀f c' oc u pm ctv H',(∀a o,H a=some o→H' a=some o)→H' f=some (.frz (a0c X params body scope q c' pm ctv) (.own f))→H' c'=some (.frz oc u)→a1B oc q→Q (.ref f) H'):=by
  intro pins s σ H Q I h
  obtain⟨qs,tq,hT,hqs⟩:=hT0.now I.base
  exact a9d I hd hcode C hbl hT hqs hq S.free fun f c' oc u pm ctv H' s' I' ex h1 h2 h3=>⟨.ref f,H',I',rfl,h f c' oc u pm ctv H' ex h1 h2 h3⟩
 have hk:=b0U (nm:=some "key") (kpos:=kpos) hlam (b2Z (X:=X))
 have har:PA X [.Call (.Name "range" p2) [e] [] pos2] (N5 (tCB a38 ta) W1):=a6 hrng c6
 refine wpAny_Call_Name_kw (M5 I hg hm a5I ?_)
 refine callWith_kw (i7 (har pos pins s σ H (a73 X.K te js σ Q) I h) fun us s1 ⟨vs,H1,I1,r1,q1⟩=>?_) he hplain
 obtain⟨n,r,rfl,hrr,h64,q2⟩:=q1
 refine i7 (hk pos pins s1 σ H1 (fun zs H2=>∃f c' oc u pm ctv,zs=[.ref f]∧(∀a o,H1 a=some o→H2 a=some o)∧H2 f=some (.frz (a0c X params body scope q c' pm ctv) (.own f))∧H2 c'=some (.frz oc u)∧a1B oc q) I1 fun f c' oc u pm ctv H' ex h1 h2 h3=>⟨f,c',oc,u,pm,ctv,rfl,ex,h1,h2,h3⟩) fun ws s2 ⟨zs,H2,I2,r2,q3⟩=>?_
 obtain⟨f,c',oc,u,pm,ctv,rfl,ex,hf,hc',hcq⟩:=q3
 obtain⟨W,w0,step,fin⟩:=q2 H2 ex
 obtain⟨u1,rfl,ru⟩:=r1.one
 obtain⟨u2,rfl,ru2⟩:=r2.one
 cases (show u1=Value.ref r from ru)
 cases (show u2=Value.ref f from ru2)
 obtain⟨t0,t1,t2,hro⟩:=I2.hok r _ (ex r _ hrr)
 have hh:X.A.handled=none:=I.ok.hd hcalm
 refine call_function_entry_kw kind_sorted plain_sorted entry_sorted (ksk_s1 _ _) ?_
 unfold Builtin.«sorted»
 refine wpAny_bind (m:=checkCount "sorted" 1 1 _) (wpAny_pure ?_)
 have hn:Builtin.Range.rangeSize 0 (n:Int) 1=(n:Int):=by
  unfold Builtin.Range.rangeSize
  rw[if_pos (by omega)]
  by_cases z:(0:Int)<n
  ·rw[if_pos z];omega
  ·rw[if_neg z];omega
 refine wpAny_bind (a5F (A:=X.A.in1) hh hro (small_one (by omega) (by omega) (by omega) (by omega)) hn (by omega) fun h' tk acc kp hi=>?_)
 have rv:Vals ((List.range n).map fun(i:Nat)=>V.int (i:Int)) acc.toList:=a5H hi
 have hal:acc.toList.length=n:=by rw[← rv.length,List.length_map,List.length_range]
 refine wpAny_bind (wpAny_newList ?_ (by rw[sizeLine_eq];omega))
 have I3:Inv X pins σ H2 { s2 with heap:=h',toks:=tk }:=I2.kept kp
 have hD:(h'.push (seqObj "list" acc.toList.toArray 0)).get? h'.objs.size=some (seqObj "list" acc.toList.toArray 0):=Heap.get?_push_size _ rfl
 have fD:FpOk X pins H2 h'.objs.size:=I3.fpOk (Nat.le_refl _) (I3.hok.fresh (Nat.le_refl _))
 have I4:Inv X pins σ H2 { s2 with heap:=h'.push (seqObj "list" acc.toList.toArray 0),toks:=tk }:=I3.kept (t':=tk) fun b o e=>Heap.get?_push_of_some (seqObj "list" acc.toList.toArray 0) e
 show wpAny _ _ _ _ _ { s2 with heap:=h'.push (seqObj "list" acc.toList.toArray 0),toks:=tk }
 refine wpAny_bind (wpAny_holding (wpAny_call_entry_kw slot_list_sort ⟨_,hD,rfl⟩ entry_list_sort ?body (ksk_l1 _ _)))
 case body =>
  show wpAny (model X.prog X.w) X.A.in1.in1 (Builtin.«list.sort» ⟨[.ref h'.objs.size],[(Str.ofString "key",.ref f)]⟩) _ _ _
  rw[ksk_t1]
  have hfr:X.A.in1.in1.frames=some X.stack:=I.ok.frames
  have hdp:X.A.in1.in1.depth<recursionLimit:=by have:=hr.dp;show X.A.depth<_;omega
  refine a72 (W:=W) (xs:=(List.range n).map fun(i:Nat)=>V.int (i:Int)) I4 hD fD rv (by omega) w0 (fun i x v ys H' s' hx rx wi I' fz=>?_) (fun ys H' hl wn hnD=>?_)
  ·rw[List.getElem?_map]at hx
   cases e:(List.range n)[i]? with
   | none=>rw[e]at hx;cases hx
   | some j =>
    rw[e]at hx
    cases hx
    obtain⟨e1,e2⟩:=List.getElem?_eq_some_iff.mp e
    rw[List.getElem_range]at e2
    subst e2
    rw[List.length_range]at e1
    exact a9e I' hfr hh hdp S hk0 hloc (fz _ _ _ hf) (fz _ _ _ hc') hcq (hbd _ _ _ _ _) hco hgen (hbody f c' s' H') rx (step i ys H' e1 wi)
  ·rw[List.length_map,List.length_range]at hl wn
   obtain⟨ks,vp,hd,q⟩:=fin ys H' hl wn
   refine⟨ks,vp,hd,fun p s' hp hs J=>⟨_,rfl,wpAny_pure ⟨_,rfl,.ref h'.objs.size,_,J,rfl,?_⟩⟩⟩
   rw[List.length_map,List.length_range]at hp
   have e:(p.map fun i=>((List.range n).map fun(i:Nat)=>V.int (i:Int)).getD i .non)=p.map fun(i:Nat)=>V.int (i:Int):=by
    refine List.map_congr_left fun i hi=>?_
    have hi:=List.mem_range.mp (hp.mem_iff.mp hi)
    simp[List.getD,hi]
   rw[e]
   exact q _ p hnD hp hs
end
def D7(TB:List (Addr×Str))(H:Hp):Hp:=fun b=>match TB.lookup b with
 | some q=>some (.tbl #[.str q 0])
 | none=>H b
def TbAll(TB:List (Addr×Str))(H:Hp):Prop:=∀P q,TB.lookup P=some q→TbAt P q H
theorem TbAll.now{TB:List (Addr×Str)}{fs ex:List Addr}{H H':Hp}{h h':Heap}(t:TbAll TB H)(u:Un fs ex H H' h h'):TbAll TB H':=fun P q e=>(t P q e).now u
theorem b08(TB:List (Addr×Str))(H:Hp):TbAll TB (D7 TB H):=fun P q e=>⟨#[.str q 0],0,by unfold D7;rw[e],rfl⟩
theorem a75{P:Program}{w:World}{K:W.Frag}{mg mb:Str→Option Value}{CX:Y5}{k:Nat}{fa a:Addr}{fd:FuncData}{x:Str}{sp:Sp}{s₁:Shared}{vs:List Value}{ns:List Int}{TB:List (Addr×Str)}
  (KX:K.In s₁.heap) (hns:s₁.heap.Ns mainGlobals mg) (hb:s₁.heap.Ns builtinsNs mb) (hbb:∀x:Str,x≠"__name__"→mb x=bootBuiltins x) (hlim:s₁.heap.NoLimit) (hg:s₁.gens = #[])
  (ha:s₁.heap.get? a=some { cls:=.type "list",data:=.seq vs.toArray }) (hi:IntsAre vs ns) (hl:ns.length≤sizeLine) (hr:Room k callerA)
  (hT:∀Pa q,TB.lookup Pa=some q→(∃c,s₁.heap.TableAt c Pa #[])∧K.lookup Pa=none)
  (F:∀base:Heap,K.In base→base.Ns mainGlobals mg→(∀b o,s₁.heap.get? b=some o→TB.lookup b=none→b≠a→base.get? b=some o)→FnOk P w K mg base CX k fa fd [x] sp) (hbind:∀(s:Shared) (u:Value),BindsTo s fd ⟨[u],[]⟩ [(x,u)])
  (hsp:∀H:Hp,TbAll TB H→Scr K H a (ns.map V.int)→sp [.ref a] H (fun v _=>v=.bl true) fun _ _ _=>False)
  (hCX:∀H e s',CX [] H s₁ (fun _ _ _=>False) e s'→False) :
  codeAny (model P w) callerA (.call (.ref fa) ⟨[.ref a],[]⟩) (fun r s'=>r=.ok (.ret (.bool true))∧OldK s₁.heap s'.heap∧s'.os=s₁.os∧AllBare s'.gens) s₁:=by
 have rv:=a3v hi
 have lenV:=hi.length
 have tabA:∀{Pa q},TB.lookup Pa=some q→s₁.heap.get? Pa=some (tabObj #[]):=fun{Pa q} e=>by
  obtain⟨⟨c,_,e2⟩,_⟩:=hT Pa q e
  exact e2
 have neA:TB.lookup a=none:=by
  cases e:TB.lookup a with
  | none=>rfl
  | some q=>have:=tabA e;rw[ha]at this;cases this
 have core:∀H0:Hp,Scr K (D7 TB H0) a (ns.map V.int)→HOk P w (D7 TB H0) s₁.heap→(∀b,H0 b=none∨∃o xs,H0 b=some (.frz o (.lst xs)))→(∀b,H0 b≠none→b=a)→(H0 a≠none→K.lookup a=none) →
   codeAny (model P w) callerA (.call (.ref fa) ⟨[.ref a],[]⟩) (fun r s'=>r=.ok (.ret (.bool true))∧OldK s₁.heap s'.heap∧s'.os=s₁.os∧AllBare s'.gens) s₁:=by
  intro H0 hS hok hO hA hK
  have cs:∀b,(∃q,TB.lookup b=some q∧D7 TB H0 b=some (.tbl #[.str q 0]))∨(TB.lookup b=none∧D7 TB H0 b=H0 b):=fun b=>by
   unfold D7
   cases e:TB.lookup b with
   | none=>exact .inr ⟨rfl,rfl⟩
   | some q=>exact .inl ⟨q,rfl,rfl⟩
  have base_of:∀{b:Addr} {o:Obj},s₁.heap.get? b=some o→D7 TB H0 b=none→(a0b s₁.heap (D7 TB H0)).get? b=some o:=fun e n=>a8O e n
  have noA:∀{b:Addr} {o:Obj} {es:Array DictEntry} {ep:Nat},s₁.heap.get? b=some o→o.data=.dict es ep→D7 TB H0 b=none:=fun{b o es ep} e d=>by
   rcases cs b with⟨q,e1,_⟩ | ⟨e1,e2⟩
   ·have:=tabA e1;rw[e]at this;cases this;cases d
   ·rw[e2]
    cases q:H0 b with
    | none=>rfl
    | some u =>
     have e':b=a:=hA b (by rw[q];simp)
     subst e'
     rw[ha]at e;cases e
     cases d
  have nsK:∀{b:Addr} {m:Str→Option Value},s₁.heap.Ns b m→(a0b s₁.heap (D7 TB H0)).Ns b m:=fun{b m} ⟨o,es,ep,e,d,r⟩=>⟨o,es,ep,base_of e (noA e d),d,r⟩
  have hKb:K.In (a0b s₁.heap (D7 TB H0)):=fun b o e=>base_of (KX b o e) (by
   rcases cs b with⟨q,e1,_⟩ | ⟨e1,e2⟩
   ·rw[(hT b q e1).2]at e;cases e
   ·rw[e2]
    cases q:H0 b with
    | none=>rfl
    | some u =>
     have e':b=a:=hA b (by rw[q];simp)
     subst e'
     rw[hK (by rw[q];simp)]at e;cases e)
  have hM:Mod K mg (a0b s₁.heap (D7 TB H0)):=⟨hKb,nsK hns,⟨mb,nsK hb,hbb⟩,let ⟨mc,h1,h2⟩:=hlim; ⟨mc,nsK h1,h2⟩⟩
  have e0:Env0 P w K mg (a0b s₁.heap (D7 TB H0)) callerA [] s₁ (D7 TB H0):=⟨rfl,hM,fun b o e=>b0Q e,Nat.le_of_eq (a7w _ _),trivial,fun b hb=>absurd (show b∈([]:List Addr)from hb) (by simp),hok,.of_eq hg⟩
  have bk:∀b o,s₁.heap.get? b=some o→TB.lookup b=none→b≠a→(a0b s₁.heap (D7 TB H0)).get? b=some o:=fun b o e n na=>base_of e (by
   rcases cs b with⟨q,e1,_⟩ | ⟨e1,e2⟩
   ·rw[n]at e1;cases e1
   ·rw[e2]
    cases q:H0 b with
    | none=>rfl
    | some u=>exact absurd (hA b (by rw[q];simp)) na)
  refine codeAny_mono ((F _ hKb (nsK hns) bk).run callerA [] s₁ (D7 TB H0) ⟨[.ref a],[]⟩ [.ref a] [.ref a] _ _ hr e0 (hbind s₁ (.ref a)) (.cons rfl .nil) (hsp _ (b08 TB H0) hS)) fun r s' h=>?_
  cases r with
  | error e=>exact(hCX _ e s' h).elim
  | ok fl =>
   cases fl with
   | next=>exact False.elim h
   | brk=>exact False.elim h
   | cont=>exact False.elim h
   | ret u =>
    obtain⟨v,H',os,bare,un,hok',r',q⟩:=h
    have q':v=.bl true:=q
    subst q'
    obtain rfl:u=Value.bool true:=r'
    refine⟨rfl,?_,os,bare⟩
    have kpt:∀b o,s₁.heap.get? b=some o→TB.lookup b=none→s'.heap.get? b=some o:=fun b o e n=>by
     rcases cs b with⟨q,e1,_⟩ | ⟨_,e2⟩
     ·rw[n]at e1;cases e1
     ·cases q:H0 b with
      | none=>exact un.keep b o e (by rw[e2,q]) (by intro z;exact absurd (show b∈([]:List Addr)from z) (by simp)) (by simp)
      | some u =>
       rcases hO b with z | ⟨ob,xs,z⟩
       ·rw[q]at z;cases z
       ·rw[← e2]at z
        have z2:=un.frzs b ob _ z
        obtain⟨e1,_⟩:=hok b _ z
        obtain⟨e2,_⟩:=hok' b _ z2
        rw[e]at e1;cases e1
        exact e2
    have tbt:∀b q,TB.lookup b=some q→∃ps,s'.heap.get? b=some (tabObj ps):=fun b q e=>by
     rcases cs b with⟨q',e1,e2⟩ | ⟨e1,_⟩
     ·obtain⟨more,e3⟩:=un.tbls b _ e2
      obtain⟨ps,e4,_⟩:=hok' b _ e3
      exact⟨ps,e4⟩
     ·rw[e]at e1;cases e1
    refine⟨fun b o e=>?_,fun b o e=>?_⟩
    ·cases n:TB.lookup b with
     | none=>exact .inl (kpt b o e n)
     | some q =>
      obtain⟨ps,e4⟩:=tbt b q n
      have e5:=tabA n
      rw[e]at e5;cases e5
      obtain⟨⟨c,ht⟩,_⟩:=hT b q n
      exact .inr (.inl ⟨ht.isCodeTable,rfl,#[],ps,rfl,by rw[e4];simp⟩)
    ·cases n:TB.lookup b with
     | none=>exact⟨o,kpt b o e n⟩
     | some q=>obtain⟨ps,e4⟩:=tbt b q n;exact⟨_,e4⟩
 have tabOk:∀H0 b u,TB.lookup b≠none→D7 TB H0 b=some u→ObjOk P w (D7 TB H0) s₁.heap b u:=fun H0 b u n e=>by
  cases q:TB.lookup b with
  | none=>exact absurd q n
  | some q' =>
   have e':D7 TB H0 b=some (.tbl #[.str q' 0]):=by unfold D7;rw[q]
   rw[e']at e;cases e
   exact⟨#[],tabA q,trivial,fun pos cv z=>by cases z⟩
 cases hk:K.lookup a with
 | some o =>
  have e:=KX a o hk
  rw[ha]at e
  cases e
  refine core (fun _=>none) (.inr ⟨_,vs.toArray,_,hk,rfl,rfl,rfl,by rw[List.size_toArray,lenV];exact hl,by simpa using rv⟩) (fun b u z=>?_) (fun _=>.inl rfl) (fun b z=>absurd rfl z) fun z=>absurd rfl z
  cases n:TB.lookup b with
  | none =>
   have z':D7 TB (fun _=>none) b=none:=by unfold D7;rw[n]
   rw[z']at z;cases z
  | some q=>exact tabOk _ b u (by rw[n];simp) z
 | none =>
  refine core (fun b=>if b=a then some (.frz { cls:=.type "list",data:=.seq vs.toArray } (.lst (ns.map V.int)))else none) (.inl ⟨{ cls:=.type "list",data:=.seq vs.toArray },by unfold D7;rw[neA];exact if_pos rfl⟩) (fun b u z=>?_) (fun b=>?_) (fun b z=>?_) fun _=>hk
  ·cases n:TB.lookup b with
   | some q=>exact tabOk _ b u (by rw[n];simp) z
   | none =>
    have z':D7 TB (fun b=>if b=a then some (.frz { cls:=.type "list",data:=.seq vs.toArray } (.lst (ns.map V.int)))else none) b=(if b=a then some (.frz { cls:=.type "list",data:=.seq vs.toArray } (.lst (ns.map V.int)))else none):=by unfold D7;rw[n]
    rw[z']at z
    by_cases hb:b=a
    ·rw[if_pos hb]at z
     cases z
     subst hb
     exact⟨ha,by rw[List.length_map];exact hl,vs,_,rv,ha⟩
    ·rw[if_neg hb]at z;cases z
  ·by_cases hb:b=a
   ·exact .inr ⟨_,_,if_pos hb⟩
   ·exact .inl (if_neg hb)
  ·by_cases hb:b=a
   ·exact hb
   ·exact absurd (if_neg hb) z
def W5(TB:List (Addr×Str))(sp:Sp):Sp:=fun vs H Q E=>TbAll TB H∧sp vs H Q E
theorem walk_ofT{l:OpenLaw}{n k:Nat}{q:Program}{loose:List Str}{XP:(Str→Option Value)→Heap→Prop}{YP:World→Heap→Prop}{d:DefRec}{K:Params→Frag}{CX:World→Y5}{sp:World→Sp}{x:Str}
  (hn:l.most=some n) (hn2:n≤sizeLine) (hdf:d.params.defaults=[]) (hr:Room k callerA)
  (hY:∀(w:World) (h:Heap),YP w h→(K w.params).In h)
  (F:∀(w:World) (mg mb:Str→Option Value) (fa:Addr) (h:Heap) (mean:ExcName→Option Value),(K w.params).In h→h.Ns mainGlobals mg→mg d.name=some (.ref fa)→Top q (looseW q loose) mean mg mb h →
   ∃(fd:FuncData) (TB:List (Addr×Str)),(∀(s:Shared) (u:Value),BindsTo s fd ⟨[u],[]⟩ [(x,u)])∧(∀Pa qq,TB.lookup Pa=some qq→(∃c,h.TableAt c Pa #[])∧(K w.params).lookup Pa=none) ∧
    ∀base:Heap,(K w.params).In base→base.Ns mainGlobals mg→(∀b o,h.get? b=some o→o.cls≠.none→o.cls≠.type "list"→base.get? b=some o)→FnOk l.prog w (K w.params) mg base (CX w) k fa fd [x] (W5 TB (sp w)))
  (hsp:∀(w:World) (H:Hp) (a:Addr) (ns:List Int),ns.length≤n→(∀m∈ns,Builtin.Int.intBits m≤2 ^ 20)→Scr (K w.params) H a (ns.map V.int)→sp w [.ref a] H (fun v _=>v=.bl true) fun _ _ _=>False)
  (hCX:∀(w:World) (H:Hp) (s:Shared) (e:Value) (s':Shared),CX w [] H s (fun _ _ _=>False) e s'→False) :
  WalkO q loose XP YP l.row.toRowW d [] (fun f vs=>PySem.call f vs):=by
 intro w s₀ s₁ mg mb G Y fa o pm cd doc dV kV ho hd hcd hD hmg hg args vals as hpre hlay hrd hwl hlo
 obtain rfl:dV=.none:=Dflts.none hD hdf
 obtain rfl:kV=.none:=Dflts.noKw hD
 obtain⟨a,vs,ns,rfl,rfl,hobj,hints,hlen⟩:=Att.script_of hn hpre hwl
 have KX:=hY w _ Y
 obtain⟨fd,TB,hb,hT,hF⟩:=F w mg mb fa _ _ KX G.T.g hmg G.T
 refine enter_call (codeAny_mono (a75 (TB:=TB) KX G.T.g G.T.b G.T.builtins G.T.nolimit hg hobj hints (Nat.le_trans hlen hn2) hr hT (fun base k1 k2 k3=>hF base k1 k2 fun b o e c1 c2=>k3 b o e (by
  cases z:TB.lookup b with
  | none=>rfl
  | some q' =>
   obtain⟨⟨c,_,e2⟩,_⟩:=hT b q' z
   rw[e]at e2;cases e2;exact absurd rfl c1) (fun z=>by rw[z,hobj]at e;cases e;exact absurd rfl c2)) hb (fun H hO hS=>⟨hO,hsp w H a ns hlen (a5x hlay) hS⟩) fun H e s'=>hCX w H s₁ e s') fun r s' hq=>?_)
 obtain⟨rfl,h2,h3,h4⟩:=hq
 exact⟨.inl ⟨.bool true,.bool true,[],rfl,fun _=>rfl,.bool true,Att.post_true l _,fun _=>⟨List.Pairwise.nil,fun _ hm=>(nomatch hm)⟩⟩,h2,h3,h4⟩
theorem b3d{q:Program}{loose:List Str}{mean:ExcName→Option Value}{mg mb:Str→Option Value}{h:Heap}{K:Frag}{x:Str}{f c:Addr}{oc oc':Value}{od od':Option Addr}{fd:FuncData}{osl osl':Array (Option Value)}{vs:Array Value}{P:Addr}(T:Top q loose mean mg mb h)(KX:K.In h)(hrec:(recsOf q).any (fun d=>d.name == x)=true)(hm:mg x=some (.ref f))(lk:K.lookup f=some ⟨oc,od,.func fd,osl⟩)(hc:fd.code=.ref c)(lc:K.lookup c=some ⟨oc',od',.fields vs,osl'⟩)(hP:vs.getD 11 .none=.ref P) :
  h.TableAt c P #[]∧∀base:Heap,(∀b o,h.get? b=some o→o.cls≠.none→o.cls≠.type "list"→base.get? b=some o)→CodeHd base c P∧base.BuiltinsAt mg P:=by
 obtain⟨d,hd,e⟩:=List.any_eq_true.mp hrec
 have e:d.name=x:=by simpa using e
 subst e
 obtain⟨a,o,fd',c',P',h1,h2,h3,h4,h5,h6⟩:=T.tab d hd
 rw[hm]at h1;cases h1
 rw[KX _ _ lk]at h2;cases h2
 have h3:Data.func fd=Data.func fd':=h3
 cases h3
 rw[hc]at h4;cases h4
 have C:=CodeHd.of h5 h6
 obtain⟨o,vs',file,tf,flags,tg,inF,text,tt,c1,c2,c3,c4,c5,cr⟩:=C
 have hPP:P'=P:=by
  rw[KX _ _ lc]at c1;cases c1
  have c3:Data.fields vs=Data.fields vs':=c3
  cases c3
  rw[hP]at c5;cases c5;rfl
 subst hPP
 refine⟨h6,fun base kp=>⟨⟨o,vs',file,tf,flags,tg,inF,text,tt,kp _ _ c1 (by rw[c2];decide) (by rw[c2];decide),c2,c3,c4,c5,cr⟩,?_⟩⟩
 obtain⟨bm,ob,b1,b2,b3,b4,b5,b6⟩:=T.bmain
 refine⟨bm,ob,b1,b2,fun z=>?_,fun z=>?_,kp _ _ b3 (by rw[b4];decide) (by rw[b4];decide),b4,b5,b6⟩
 ·obtain⟨o',es,ep,e,hd,_⟩:=T.g
  rw[z,e]at b3;cases b3;rw[hd]at b6;cases b6
 ·rw[z,h6.2]at b3;cases b3;cases b4
end L2
namespace HT
open PySem PyProof.Rows
end HT
namespace L2
open PySem PySem.Spec PyProof.Rows
open PySem.W
def Rise(a:Array Nat):Prop:=a.toList.Pairwise (· < ·)
theorem Rise.lt{a:Array Nat}(h:Rise a){i j:Nat}(hij:i<j)(hj:j<a.size):a.getD i 0<a.getD j 0:=by
 have hi:i<a.size:=Nat.lt_trans hij hj
 have:=List.pairwise_iff_getElem.mp h i j (by simpa using hi) (by simpa using hj) hij
 simpa [Array.getD,hi,hj]using this
structure TbR(led:Bool)(t:SetTable):Prop where
 rise:Rise t.place
 dum:t.dummies = #[]
 led:t.led=led
def b3e(e:Int×Value):Int:=match e.2 with
 | .int k _=>k
 | _=>0
def IsI(e:Int×Value):Prop:=∃k t,e=(hashInt k,Value.int k t)
structure SetR(w:World)(h:Heap)(a:Addr)(L:List Int):Prop where
 ex:∃o es ep t,h.get? a=some o∧o.ExactSet∧o.data=.set es ep t∧(∀e∈es.toList,IsI e)∧(es.toList.map b3e).Nodup∧(∀k,k∈es.toList.map b3e↔k∈L)∧es.size<scanBound∧t.fits es.size=true∧TbR (!w.params.followText "set-order") t
theorem nodup_le:∀(es L:List Int),es.Nodup→(∀x∈es,x∈L)→es.length≤L.length
 | [],L,_,_=>Nat.zero_le _
 | x::es,L,h,m=>by
  rw[List.nodup_cons]at h
  have hx:=m x List.mem_cons_self
  have:=nodup_le es (L.erase x) h.2 fun y hy=>(List.mem_erase_of_ne (show y≠x from fun z=>h.1 (by rw[← z];exact hy))).mpr (m y (List.mem_cons_of_mem _ hy))
  rw[List.length_erase_of_mem hx]at this
  have:0<L.length:=List.length_pos_of_mem hx
  rw[List.length_cons]
  omega
section
variable {prog:Program}{w:World}{A:Around}{E:Value→Shared→Prop}{s:Shared}
theorem SetR.frame{h h':Heap}{a:Addr}{L:List Int}(S:SetR w h a L)(e:∀o,h.get? a=some o→h'.get? a=some o):SetR w h' a L:=by
 obtain⟨o,es,ep,t,ho,r⟩:=S.ex
 exact⟨o,es,ep,t,e o ho,r⟩
end
theorem a4I:∀{vs:List Value} {ns:List Int},IntsAre vs ns→vs.length=ns.length:=by
 intro vs ns h
 induction h with
 | nil=>rfl
 | cons n t _ ih=>simp[ih]
theorem S4{vs:List Value}{ns:List Int}(h:IntsAre vs ns){i:Nat}(hi:i<vs.length):∃t,vs.getD i Value.none=.int (ns.getD i 0) t:=by
 obtain⟨t,e⟩:=h.int_at i vs[i] (List.getElem?_eq_getElem hi)
 refine⟨t,?_⟩
 rw[List.getD_eq_getElem?_getD,List.getElem?_eq_getElem hi]
 exact e
theorem a4J{vs:List Value}{ns:List Int}(h:IntsAre vs ns):∀v∈vs,∃n t,v=Value.int n t:=by
 induction h with
 | nil=>intro v m;cases m
 | cons n t _ ih =>
  intro v m
  rcases List.mem_cons.mp m with rfl | m
  ·exact⟨n,t,rfl⟩
  ·exact ih v m
section
variable {prog:Program}{w:World}{A:Around}{E:Value→Shared→Prop}{s:Shared}
theorem b3f{ks:List Int}{p:List Nat}(hd:ks.Nodup)(hp:p.Perm (List.range ks.length))(hs:p.Pairwise (fun i j=>decide (ks.getD j 0<ks.getD i 0)=false)):(p.map fun i=>ks.getD i 0).Pairwise (· < ·)∧∀k,k∈(p.map fun i=>ks.getD i 0)↔k∈ks:=by
 have hpm:(p.map fun i=>ks.getD i 0).Perm ks:=by
  have:=hp.map fun i=>ks.getD i 0
  refine this.trans (.of_eq ?_)
  apply List.ext_getElem
  ·simp
  ·intro i h1 h2
   simp[h2]
 have hnd:(p.map fun i=>ks.getD i 0).Nodup:=hpm.nodup_iff.mpr hd
 refine⟨?_,fun k=>hpm.mem_iff⟩
 rw[List.pairwise_map]
 rw[List.nodup_iff_pairwise_ne,List.pairwise_map]at hnd
 refine(hs.and hnd).imp ?_
 intro i j ⟨h1,h2⟩
 have:=of_decide_eq_false h1
 omega
theorem a2x:∀{vs:List Value} {ks:List Int} (p:List Nat),IntsAre vs ks→(∀i∈p,i<vs.length)→Vals ((p.map fun i=>ks.getD i 0).map V.int) (p.map fun i=>vs.getD i Value.none)
 | _,_,[],_,_=>.nil
 | vs,ks,i::p,r,h=>by
  obtain⟨t,e⟩:=S4 r (h i (by simp))
  exact .cons ⟨t,e⟩ (a2x p r fun j hj=>h j (by simp[hj]))
end
section
variable {X:Cx}
theorem Inv.laidD{pins:List (Addr×Obj)}{σ:St}{H:Hp}{s s':Shared}{a:Addr}{o:HO}(I:Inv X pins σ H s)(k:∀b u,s.heap.get? b=some u→s'.heap.get? b=some u)(hg:s'.gens=s.gens)(hos:s'.os=s.os)(hp:s.heap.objs.size≤a)(new:ObjOk X.prog X.w (upd H a o) s'.heap a o):Inv X pins σ (upd H a o) s':=by
 have J:=I.laid (t':=s'.toks) k hp new
 have hb:AllBare s'.gens:=by rw[hg];exact I.bare
 obtain⟨ok,os,bare,base,loc,cell,free,freeC,pin,hok,len⟩:=J
 exact⟨ok,hos.trans I.os,hb,base,loc,cell,free,freeC,pin,hok,len⟩
end
end L2
namespace HT
open PySem PyProof.Rows
inductive IB:List Value→List Value→List Int→List Int→Prop
 | nil:IB [] [] [] []
 | int (a:Int) (t:Tok) (c:Int) (u:Tok) {vs ws:List Value} {ns ms:List Int} (h:IB vs ws ns ms):IB (.int a t::vs) (.int c u::ws) (a::ns) (c::ms)
 | bl (p q:Bool) {vs ws:List Value} {ns ms:List Int} (h:IB vs ws ns ms):IB (.bool p::vs) (.bool q::ws) (b2i p::ns) (b2i q::ms)
theorem IB.len{vs ws:List Value}{ns ms:List Int}(h:IB vs ws ns ms):vs.length=ws.length:=by
 induction h with
 | nil=>rfl
 | int _ _ _ _ _ ih=>simp[ih]
 | bl _ _ _ ih=>simp[ih]
end HT
namespace L2
open PySem PySem.Spec PyProof.Rows
open PySem.W
section
variable {n:Nat}{lt:Nat→Nat→Bool}
def Prx(n:Nat)(p:Array Nat)(m:Nat):Prop:=(∀i,i<m→ga p i<m)∧∀i,m≤i→i<n→ga p i=i
theorem Prx.up{p:Array Nat}{m k:Nat}(h:Prx n p m)(hk:m≤k)(hn:k≤n):Prx n p k:=by
 refine⟨fun i hi=>?_,fun i h1 h2=>h.2 i (by omega) h2⟩
 by_cases z:i<m
 ·have:=h.1 i z;omega
 ·rw[h.2 i (by omega) (by omega)];exact hi
structure DR(n:Nat)(lt:Nat→Nat→Bool)(p:Array Nat)(k:Nat):Prop where
 pre:Prx n p k
 d1:∀i j,i<j→j<k→lt (ga p i) (ga p j)=false
 d2:∀i j,i<j→j<k→lt (ga p j) (ga p i)=false→ga p j<ga p i
structure DG(n:Nat)(lt:Nat→Nat→Bool)(p:Array Nat)(k q:Nat):Prop where
 pre:Prx n p (k-(q+1))
 d1:∀i j,i<j→j<k→lt (ga p i) (ga p j)=false
 d2:∀i j,i<j→j<k-(q+1)→lt (ga p j) (ga p i)=false→ga p j<ga p i
 d3:∀i,i<k-(q+1)→lt (ga p (k-1)) (ga p i)=true
 d4:∀i,k-(q+1)≤i→i<k→lt (ga p (k-1)) (ga p i)=false
theorem DR.snoc{p:Array Nat}{k:Nat}(T:TPre lt)(d:DR n lt p k)(h:∀i,i<k→lt (ga p k) (ga p i)=true)(hk:k<n):DG n lt p (k+1) 0:=by
 have e:k+1-(0+1)=k:=by omega
 refine⟨by rw[e];exact d.pre,fun i j hij hj=>?_,fun i j hij hj=>by rw[e]at hj;exact d.d2 i j hij hj,fun i hi=>by rw[e]at hi;rw[Nat.add_sub_cancel];exact h i hi,fun i h1 h2=>?_⟩
 ·by_cases z:j<k
  ·exact d.d1 i j hij z
  ·have e:j=k:=by omega
   subst e
   exact T.asy _ _ (h i hij)
 ·have e:i=k:=by omega
  subst e
  rw[Nat.add_sub_cancel];exact T.irr _
theorem DG.alike{p:Array Nat}{k q:Nat}(T:TPre lt)(d:DG n lt p k q)(hq:q+1≤k){i j:Nat}(h1:k-(q+1)≤i)(h2:i<k)(h3:k-(q+1)≤j)(h4:j<k):lt (ga p i) (ga p j)=false:=by
 have a:lt (ga p i) (ga p (k-1))=false:=by
  by_cases z:i=k-1
  ·rw[z];exact T.irr _
  ·exact d.d1 i (k-1) (by omega) (by omega)
 exact T.tr _ _ _ (d.d4 j h3 h4) a
theorem DG.rev{p:Array Nat}{k q:Nat}(T:TPre lt)(hp:Pmn n p)(d:DG n lt p k q)(hq:q+1≤k)(hk:k≤n):DR n lt (kas_rev p (k-(q+1)) k) k:=by
 have hps:=hp.size
 have gr:=a0_ (p:=p) (i:=k-(q+1)) (j:=k) (by omega)
 have pi:∀i,k-(q+1)≤i→i<n→ga p i=i:=d.pre.2
 refine⟨⟨fun i hi=>?_,fun i h1 h2=>?_⟩,fun i j hij hj=>?_,fun i j hij hj=>?_⟩
 ·rw[gr]
  split
  ·rw[pi _ (by omega) (by omega)];omega
  ·have:=d.pre.1 i (by omega);omega
 ·rw[gr,if_neg (by omega)];exact pi i (by omega) h2
 ·rw[gr,gr]
  by_cases zj:k-(q+1)≤j
  ·rw[if_pos (show k-(q+1)≤j∧j<k by omega)]
   by_cases zi:k-(q+1)≤i
   ·rw[if_pos (by omega)]
    exact d.alike T hq (by omega) (by omega) (by omega) (by omega)
   ·rw[if_neg (by omega)]
    exact d.d1 _ _ (by omega) (by omega)
  ·rw[if_neg (show ¬(k-(q+1)≤j∧j<k) by omega),if_neg (by omega)]
   exact d.d1 _ _ hij hj
 ·rw[gr,gr]
  by_cases zj:k-(q+1)≤j
  ·rw[if_pos (show k-(q+1)≤j∧j<k by omega)]
   by_cases zi:k-(q+1)≤i
   ·rw[if_pos (by omega)]
    intro _
    rw[pi _ (by omega) (by omega),pi _ (by omega) (by omega)]
    omega
   ·rw[if_neg (by omega)]
    intro z
    have a:=d.alike T hq (i:=k-1) (j:=k-(q+1)+k-1-j) (by omega) (by omega) (by omega) (by omega)
    have b:=T.tr _ _ _ z a
    rw[d.d3 i (by omega)]at b
    cases b
  ·rw[if_neg (show ¬(k-(q+1)≤j∧j<k) by omega),if_neg (by omega)]
   exact d.d2 _ _ hij (by omega)
theorem DG.one{p:Array Nat}{k:Nat}(T:TPre lt)(d:DG n lt p k 0)(hk1:1≤k)(hk:k≤n):DR n lt p k:=by
 refine⟨d.pre.up (by omega) hk,d.d1,fun i j hij hj z=>?_⟩
 by_cases e:j=k-1
 ·subst e
  rw[d.d3 i (by omega)]at z
  cases z
 ·exact d.d2 i j hij (by omega) z
end
theorem SqL.ext{K:W.Frag}{H1 H2:Hp}{a:Addr}{xs:List V}(h:SqL K H1 a xs)(ex:∀a o,H1 a=some o→H2 a=some o):SqL K H2 a xs:=by
 rcases h with(h | ⟨o,h⟩) | h
 ·exact .inl (.inl (ex _ _ h))
 ·exact .inl (.inr ⟨o,ex _ _ h⟩)
 ·exact .inr h
def C1:Bool→Keyed→Array Keyed→Nat→Nat→Nat→StateT SortSt Sem (Option Nat):=sortPriv% PySem.Builtin.gallop
abbrev V6(left:Bool)(key:Keyed)(arr:Array Keyed)(base i:Nat):StateT SortSt Sem (Option Bool):=do
 let x ← elem' arr (base+i)
 if left then lt' x key else return (← lt' key x).map (!·)
theorem a6V(left:Bool)(key:Keyed)(arr:Array Keyed)(base n hint:Nat):C1 left key arr base n hint=(do
 let mut lastofs:=0
 let mut ofs:=1
 let mut lo:=0
 let mut hi:=0
 let some right ← V6 left key arr base hint | return none
 if right then
  let maxofs:=n-hint
  for _ in [0:n]do
   if ofs≥maxofs then break
   let some more ← V6 left key arr base (hint+ofs) | return none
   if !more then break
   lastofs:=ofs
   ofs:=2*ofs+1
  lo:=hint+lastofs+1
  hi:=hint+min ofs maxofs
 else
  let maxofs:=hint+1
  for _ in [0:n]do
   if ofs≥maxofs then break
   let some found ← V6 left key arr base (hint-ofs) | return none
   if found then break
   lastofs:=ofs
   ofs:=2*ofs+1
  lo:=hint+1-min ofs maxofs
  hi:=hint-lastofs
 for _ in [0:n]do
  if lo≥hi then break
  let m:=lo+(hi-lo)/2
  let some more ← V6 left key arr base m | return none
  if more then lo:=m+1 else hi:=m
 return some hi):=rfl
structure TPK(lt:Keyed→Keyed→Bool)(Dm:Keyed→Prop):Prop where
 irr:∀x,Dm x→lt x x=false
 tr:∀x y z,Dm x→Dm y→Dm z→lt y x=false→lt z y=false→lt z x=false
 asy:∀x y,Dm x→Dm y→lt x y=true→lt y x=false
section
variable {prog:Program}{w:World}{A:Around}{E:Value→Shared→Prop}{s:Shared}{κ:SortKind}{lt:Keyed→Keyed→Bool}{Dm:Keyed→Prop}
def A6(prog:Program)(w:World)(A:Around)(s:Shared)(κ:SortKind)(lt:Keyed→Keyed→Bool)(Dm:Keyed→Prop):Prop:=∀x y,Dm x→Dm y→∀Q:Bool→Shared→Prop,Q (lt x y) s→wpAny (model prog w) A (keyLt' κ x.1 y.1) Q (fun _ _=>False) s
theorem a1c{x y:Keyed}{st:SortSt}{Q:Option Bool→SortSt→Prop}(C:A6 prog w A s κ lt Dm)(hk:kindOf st=κ)(hx:Dm x)(hy:Dm y)(h:Q (some (lt x y)) st):wpS (model prog w) A E s (lt' x y) Q st:=by
 rw[lt'_eq]
 refine wpS_bind (wpS_get ?_)
 rw[hk]
 refine wpS_bind (wpS_lift (wpAny_attempt (wpAny_mono (C x y hx hy (fun b s'=>s'=s∧b=lt x y) ⟨rfl,rfl⟩) (fun b s' hb=>?_) fun _ _ z=>z.elim)))
 obtain⟨rfl,rfl⟩:=hb
 exact⟨rfl,wpS_pure h⟩
theorem r8{arr:Array Keyed}{i:Nat}{x:Keyed}{st:SortSt}{Q:Keyed→SortSt→Prop}(hx:arr[i]? = some x)(h:Q x st):wpS (model prog w) A E s (elem' arr i) Q st:=by
 rw[elem'_eq,hx]
 exact wpS_pure h
def bey(lt:Keyed→Keyed→Bool)(left:Bool)(key x:Keyed):Bool:=if left=true then lt x key else !lt key x
theorem b09{left:Bool}{key x:Keyed}{arr:Array Keyed}{base i:Nat}{st:SortSt}{Q:Option Bool→SortSt→Prop}(C:A6 prog w A s κ lt Dm)(hk:kindOf st=κ)(hkey:Dm key)(hx:arr[base+i]? = some x)(dx:Dm x)(h:Q (some (bey lt left key x)) st):wpS (model prog w) A E s (V6 left key arr base i) Q st:=by
 refine wpS_bind (r8 hx ?_)
 cases left with
 | true=>exact a1c C hk dx hkey h
 | false=>exact wpS_bind (a1c C hk hkey dx (wpS_pure h))
theorem U0{β:Type}{n:Nat}{f:Nat→β→StateT SortSt Sem (ForInStep β)}(I:Nat→β→SortSt→Prop)(Q':β→SortSt→Prop){Q:β→SortSt→Prop}{c:β}{st:SortSt}
  (hstep:∀i c st,i<n→I i c st→wpS (model prog w) A E s (f i c) (fun r st'=>match r with | .done c'=>Q' c' st' | .yield c'=>I (i+1) c' st') st)
  (hend:∀c st,I n c st→Q' c st) (h:I 0 c st) (hq:∀c st',Q' c st'→Q c st'):wpS (model prog w) A E s (forIn [:n] c f) Q st :=
 wpS_mono (wpS_forRange I (Q:=Q') (fun i c st _ hi hI=>hstep i c st hi hI) (fun c st hI=>hend c st (by rw[show max 0 n=n by omega]at hI;exact hI)) h) hq
theorem a5_{n lo hi:Nat}{st:SortSt}{B:Nat→StateT SortSt Sem (Option Bool)}{Q:Option (Option Nat)×Nat×Nat→SortSt→Prop}(b:Nat→Bool)(ask:∀i (Q':Option Bool→SortSt→Prop),i<n→Q' (some (b i)) st→wpS (model prog w) A E s (B i) Q' st)
  (mono:∀i j,i≤j→j<n→b j=true→b i=true) (h1:lo≤hi) (h2:hi≤n) (h3:∀i,i<lo→b i=true) (h4:∀i,hi≤i→i<n→b i=false) (h:∀k,k≤n→(∀i,i<k→b i=true)→(∀i,k≤i→i<n→b i=false)→∀l,Q (none,l,k) st) :
  wpS (model prog w) A E s (forIn [:n] ((none,lo,hi):Option (Option Nat)×Nat×Nat) fun x __s =>
        if __s.snd.fst≥__s.snd.snd then pure (ForInStep.done (none,__s.snd.fst,__s.snd.snd))
        else do
         let __x ← B (__s.snd.fst+(__s.snd.snd-__s.snd.fst)/2)
         match __x with
          | some more =>
           if more=true then
            pure (ForInStep.yield (none,__s.snd.fst+(__s.snd.snd-__s.snd.fst)/2+1,__s.snd.snd))
           else pure (ForInStep.yield (none,__s.snd.fst,__s.snd.fst+(__s.snd.snd-__s.snd.fst)/2))
          | x=>pure (ForInStep.done (some none,__s.snd.fst,__s.snd.snd))) Q st:=by
 refine wpS_forRange (fun i c st'=>c.1=none∧st'=st∧c.2.1≤c.2.2∧c.2.2≤n∧(∀i,i<c.2.1→b i=true)∧(∀i,c.2.2≤i→i<n→b i=false)∧c.2.2-c.2.1≤n-i) ?_ ?_ ⟨rfl,rfl,h1,h2,h3,h4,by simp;omega⟩
 ·rintro i ⟨c0,lo,hi⟩ st' _ hi2 ⟨e0,rfl,a1,a2,a3,a4,a5⟩
  dsimp only at *
  by_cases z:lo≥hi
  ·rw[if_pos z]
   refine wpS_pure ?_
   have:lo=hi:=by omega
   subst this
   exact h lo a2 a3 a4 lo
  ·rw[if_neg z]
   refine wpS_bind (ask _ _ (by omega) ?_)
   dsimp only
   cases c:b (lo+(hi-lo)/2)with
   | true =>
    rw[if_pos rfl]
    exact wpS_pure ⟨rfl,rfl,by show lo+(hi-lo)/2+1≤hi;omega,a2,fun j hj=>mono j _ (by have:j<lo+(hi-lo)/2+1:=hj;omega) (by omega) c,a4,by show hi-(lo+(hi-lo)/2+1)≤n-(i+1);omega⟩
   | false =>
    rw[if_neg (by simp)]
    refine wpS_pure ⟨rfl,rfl,by show lo≤lo+(hi-lo)/2;omega,by show lo+(hi-lo)/2≤n;omega,a3,fun j hj hn=>?_,by show lo+(hi-lo)/2-lo≤n-(i+1);omega⟩
    have hj:lo+(hi-lo)/2≤j:=hj
    cases d:b j with
    | false=>rfl
    | true=>rw[mono _ j hj hn d]at c;cases c
 ·rintro⟨c0,lo,hi⟩ st' ⟨e0,rfl,a1,a2,a3,a4,a5⟩
  dsimp only at *
  subst e0
  have:lo=hi:=by
   have:max 0 n=n:=by omega
   omega
  subst this
  exact h lo a2 a3 a4 lo
theorem K9{left:Bool}{key:Keyed}{arr:Array Keyed}{base n hint:Nat}{st:SortSt}{Q:Option Nat→SortSt→Prop}(C:A6 prog w A s κ lt Dm)(hk:kindOf st=κ)(hkey:Dm key)(hh:hint<n)(b:Nat→Bool)(hb:∀i,i<n→∃x,arr[base+i]? = some x∧Dm x∧bey lt left key x=b i)(mono:∀i j,i≤j→j<n→b j=true→b i=true)
  (h:∀k,k≤n→(∀i,i<k→b i=true)→(∀i,k≤i→i<n→b i=false)→Q (some k) st):wpS (model prog w) A E s (C1 left key arr base n hint) Q st:=by
 have ask:∀i (Q':Option Bool→SortSt→Prop),i<n→Q' (some (b i)) st→wpS (model prog w) A E s (V6 left key arr base i) Q' st:=fun i Q' hi hq=>by
  obtain⟨x,hx,dx,e⟩:=hb i hi
  exact b09 C hk hkey hx dx (by rw[e];exact hq)
 rw[a6V]
 refine wpS_bind (ask hint _ hh ?_)
 dsimp only
 have neg:∀i j,i≤j→j<n→b i=false→b j=false:=fun i j h1 h2 h3=>by
  cases d:b j with
  | false=>rfl
  | true=>rw[mono i j h1 h2 d]at h3;cases h3
 cases c:b hint with
 | true =>
  rw[if_pos rfl]
  refine wpS_bind (U0 (fun(i:Nat) (c:Option (Option Nat)×Nat×Nat) st'=>c.1=none∧st'=st∧c.2.1<c.2.2∧i+1≤c.2.2∧hint+c.2.1<n∧b (hint+c.2.1)=true) (fun(c:Option (Option Nat)×Nat×Nat) st'=>c.1=none∧st'=st∧c.2.1<c.2.2∧hint+c.2.1<n∧b (hint+c.2.1)=true∧(hint+c.2.2<n→b (hint+c.2.2)=false)) ?_ ?_ ⟨rfl,rfl,by show 0<1;omega,by show 0+1≤1;omega,by show hint+0<n;omega,c⟩ ?_)
  ·rintro i ⟨c0,l,o⟩ st' hi2 ⟨e0,rfl,a1,a2,a3,a4⟩
   dsimp only at *
   by_cases z:o≥n-hint
   ·rw[if_pos z]
    exact wpS_pure ⟨rfl,rfl,a1,a3,a4,fun y=>absurd y (by show ¬hint+o<n;omega)⟩
   ·rw[if_neg z]
    refine wpS_bind (ask _ _ (by omega) ?_)
    dsimp only
    cases d:b (hint+o)with
    | true =>
     rw[if_neg (by simp)]
     exact wpS_pure ⟨rfl,rfl,by show o<2*o+1;omega,by show i+1+1≤2*o+1;omega,by show hint+o<n;omega,d⟩
    | false =>
     rw[if_pos (by simp)]
     exact wpS_pure ⟨rfl,rfl,a1,a3,a4,fun _=>d⟩
  ·rintro⟨c0,l,o⟩ st' ⟨e0,rfl,a1,a2,a3,a4⟩
   dsimp only at *
   refine⟨e0,rfl,a1,a3,a4,fun y=>absurd y ?_⟩
   omega
  ·rintro⟨c0,l,o⟩ st' ⟨e0,rfl,a1,a3,a4,a5⟩
   dsimp only at *
   subst e0
   dsimp only
   refine wpS_bind (a5_ b ask mono (by omega) (by omega) (fun j hj=>mono j (hint+l) (by omega) a3 a4) (fun j hj hn=>neg (hint+o) j (by omega) hn (a5 (by omega))) fun k k1 k2 k3 l=>wpS_pure (h k k1 k2 k3))
 | false =>
  rw[if_neg (by simp)]
  refine wpS_bind (U0 (fun(i:Nat) (c:Option (Option Nat)×Nat×Nat) st'=>c.1=none∧st'=st∧c.2.1<c.2.2∧i+1≤c.2.2∧c.2.1≤hint∧b (hint-c.2.1)=false) (fun(c:Option (Option Nat)×Nat×Nat) st'=>c.1=none∧st'=st∧c.2.1<c.2.2∧c.2.1≤hint∧b (hint-c.2.1)=false∧(c.2.2≤hint→b (hint-c.2.2)=true)) ?_ ?_ ⟨rfl,rfl,by show 0<1;omega,by show 0+1≤1;omega,by show 0≤hint;omega,c⟩ ?_)
  ·rintro i ⟨c0,l,o⟩ st' hi2 ⟨e0,rfl,a1,a2,a3,a4⟩
   dsimp only at *
   by_cases z:o≥hint+1
   ·rw[if_pos z]
    exact wpS_pure ⟨rfl,rfl,a1,a3,a4,fun y=>absurd y (by show ¬o≤hint;omega)⟩
   ·rw[if_neg z]
    refine wpS_bind (ask _ _ (by omega) ?_)
    dsimp only
    cases d:b (hint-o)with
    | true =>
     rw[if_pos rfl]
     exact wpS_pure ⟨rfl,rfl,a1,a3,a4,fun _=>d⟩
    | false =>
     rw[if_neg (by simp)]
     exact wpS_pure ⟨rfl,rfl,by show o<2*o+1;omega,by show i+1+1≤2*o+1;omega,by show o≤hint;omega,d⟩
  ·rintro⟨c0,l,o⟩ st' ⟨e0,rfl,a1,a2,a3,a4⟩
   dsimp only at *
   refine⟨e0,rfl,a1,a3,a4,fun y=>absurd y ?_⟩
   omega
  ·rintro⟨c0,l,o⟩ st' ⟨e0,rfl,a1,a3,a4,a5⟩
   dsimp only at *
   subst e0
   dsimp only
   refine wpS_bind (a5_ b ask mono (by omega) (by omega) (fun j hj=>?_) (fun j hj hn=>neg (hint-l) j hj hn a4) fun k k1 k2 k3 l=>wpS_pure (h k k1 k2 k3))
   by_cases y:o≤hint
   ·exact mono j (hint-o) (by omega) (by omega) (a5 y)
   ·omega
end
def C2:Nat→StateT SortSt Sem Unit:=sortPriv% PySem.Builtin.setMinGallop
theorem a11(g:Nat):C2 g=modify fun s=>SortSt.mk' (kindOf s) (arrOf s) (pendingOf s) g (failedOf s):=rfl
def a12:Array Keyed→Array Keyed→StateT SortSt Sem (Array Keyed):=sortPriv% PySem.Builtin.mergeLo
abbrev E3(a b out:Array Keyed)(ia ib:Nat):Array Keyed:=out++a.extract ia a.size++b.extract ib b.size
abbrev a0B(a b out:Array Keyed)(ia ib:Nat):Array Keyed:=out++b.extract ib b.size++a.extract ia a.size
theorem a5K(a b:Array Keyed):a12 a b=(do
 rule "list.sort.merge-lo"
 let total:=a.size+b.size
 let mut out:Array Keyed := #[← elem' b 0]
 let mut ia:=0
 let mut ib:=1
 if ib == b.size then return E3 a b out ia ib
 if ia+1 == a.size then return a0B a b out ia ib
 let mut minGallop:=gallopOf (← get)
 for _ in [0:total]do
  let mut acount:=0
  let mut bcount:=0
  for _ in [0:total]do
   let some bWins ← lt' (← elem' b ib) (← elem' a ia) | return E3 a b out ia ib
   if bWins then
    out:=out.push (← elem' b ib);ib:=ib+1;bcount:=bcount+1;acount:=0
    if ib == b.size then return E3 a b out ia ib
    if bcount≥minGallop then break
   else
    out:=out.push (← elem' a ia);ia:=ia+1;acount:=acount+1;bcount:=0
    if ia+1 == a.size then return a0B a b out ia ib
    if acount≥minGallop then break
  rule "list.sort.gallop"
  minGallop:=minGallop+1
  for _ in [0:total]do
   if minGallop > 1 then minGallop:=minGallop-1
   C2 minGallop
   let some k ← C1 false (← elem' b ib) a ia (a.size-ia) 0 | return E3 a b out ia ib
   acount:=k
   if k > 0 then
    out:=out++a.extract ia (ia+k);ia:=ia+k
    if ia+1 == a.size then return a0B a b out ia ib
    if ia == a.size then return E3 a b out ia ib
   out:=out.push (← elem' b ib);ib:=ib+1
   if ib == b.size then return E3 a b out ia ib
   let some k ← C1 true (← elem' a ia) b ib (b.size-ib) 0 | return E3 a b out ia ib
   bcount:=k
   if k > 0 then
    out:=out++b.extract ib (ib+k);ib:=ib+k
    if ib == b.size then return E3 a b out ia ib
   out:=out.push (← elem' a ia);ia:=ia+1
   if ia+1 == a.size then return a0B a b out ia ib
   if acount<7 && bcount<7 then break
  minGallop:=minGallop+1
  C2 minGallop
 unsupported "internal:list.sort.merge-bound"):=rfl
def Srt(lt:Keyed→Keyed→Bool)(l:List Keyed):Prop:=l.Pairwise fun x y=>lt y x=false
structure ML(lt:Keyed→Keyed→Bool)(aL bL o ra rb:List Keyed):Prop where
 ex:∃pa pb,aL=pa++ra∧bL=pb++rb∧o.Perm (pa++pb)
 so:Srt lt o
 oa:∀x∈o,∀y∈ra,lt y x=false
 ob:∀x∈o,∀y∈rb,lt y x=false
def p7(lt:Keyed→Keyed→Bool)(aL bL r:List Keyed):Prop:=r.Perm (aL++bL)∧Srt lt r
section
variable {lt:Keyed→Keyed→Bool}{aL bL o ra rb u:List Keyed}{x y:Keyed}
theorem Srt.app{l m:List Keyed}(h1:Srt lt l)(h2:Srt lt m)(h3:∀x∈l,∀y∈m,lt y x=false):Srt lt (l++m):=List.pairwise_append.mpr ⟨h1,h2,h3⟩
theorem Srt.drop{l:List Keyed}(h:Srt lt l)(n:Nat):Srt lt (l.drop n):=List.Pairwise.sublist (List.drop_sublist n l) h
theorem ML.addB(m:ML lt aL bL o ra (y::rb))(hs:Srt lt (y::rb))(h:∀x∈ra,lt x y=false):ML lt aL bL (o++[y]) ra rb:=by
 obtain⟨pa,pb,e1,e2,p⟩:=m.ex
 have hy:=List.pairwise_cons.mp hs
 refine⟨⟨pa,pb++[y],e1,by rw[e2];simp,?_⟩,m.so.app (List.pairwise_singleton _ _) (fun x hx z hz=>?_),fun x hx z hz=>?_,fun x hx z hz=>?_⟩
 ·rw[← List.append_assoc];exact p.append_right [y]
 ·rw[List.mem_singleton.mp hz];exact m.ob x hx y List.mem_cons_self
 ·rcases List.mem_append.mp hx with hx | hx
  ·exact m.oa x hx z hz
  ·rw[List.mem_singleton.mp hx];exact h z hz
 ·rcases List.mem_append.mp hx with hx | hx
  ·exact m.ob x hx z (List.mem_cons_of_mem _ hz)
  ·rw[List.mem_singleton.mp hx];exact hy.1 z hz
theorem ML.addA(m:ML lt aL bL o (x::ra) rb)(hs:Srt lt (x::ra))(h:∀y∈rb,lt y x=false):ML lt aL bL (o++[x]) ra rb:=by
 obtain⟨pa,pb,e1,e2,p⟩:=m.ex
 have hx':=List.pairwise_cons.mp hs
 refine⟨⟨pa++[x],pb,by rw[e1];simp,e2,?_⟩,m.so.app (List.pairwise_singleton _ _) (fun w hw z hz=>?_),fun w hw z hz=>?_,fun w hw z hz=>?_⟩
 ·refine(p.append_right [x]).trans ?_
  rw[List.append_assoc,List.append_assoc]
  exact List.Perm.append_left pa List.perm_append_comm
 ·rw[List.mem_singleton.mp hz];exact m.oa w hw x List.mem_cons_self
 ·rcases List.mem_append.mp hw with hw | hw
  ·exact m.oa w hw z (List.mem_cons_of_mem _ hz)
  ·rw[List.mem_singleton.mp hw];exact hx'.1 z hz
 ·rcases List.mem_append.mp hw with hw | hw
  ·exact m.ob w hw z hz
  ·rw[List.mem_singleton.mp hw];exact h z hz
theorem ML.addAs:∀{u o:List Keyed},ML lt aL bL o (u++ra) rb→Srt lt (u++ra)→(∀x∈u,∀y∈rb,lt y x=false)→ML lt aL bL (o++u) ra rb
 | [],o,m,_,_=>by rw[List.append_nil];exact m
 | x::u,o,m,hs,h=>by
  have:=ML.addAs (u:=u) (ML.addA m hs (h x List.mem_cons_self)) (List.pairwise_cons.mp hs).2 fun z hz=>h z (List.mem_cons_of_mem _ hz)
  rw[List.append_assoc]at this
  exact this
theorem ML.addBs:∀{u o:List Keyed},ML lt aL bL o ra (u++rb)→Srt lt (u++rb)→(∀y∈u,∀x∈ra,lt x y=false)→ML lt aL bL (o++u) ra rb
 | [],o,m,_,_=>by rw[List.append_nil];exact m
 | x::u,o,m,hs,h=>by
  have:=ML.addBs (u:=u) (ML.addB m hs (h x List.mem_cons_self)) (List.pairwise_cons.mp hs).2 fun z hz=>h z (List.mem_cons_of_mem _ hz)
  rw[List.append_assoc]at this
  exact this
theorem ML.finA(m:ML lt aL bL o ra [])(hs:Srt lt ra):p7 lt aL bL (o++ra):=by
 obtain⟨pa,pb,e1,e2,p⟩:=m.ex
 refine⟨?_,m.so.app hs m.oa⟩
 rw[e1,e2,List.append_nil]
 refine(p.append_right ra).trans ?_
 rw[List.append_assoc,List.append_assoc]
 exact List.Perm.append_left pa List.perm_append_comm
theorem ML.finB(m:ML lt aL bL o [] rb)(hs:Srt lt rb):p7 lt aL bL (o++rb):=by
 obtain⟨pa,pb,e1,e2,p⟩:=m.ex
 refine⟨?_,m.so.app hs m.ob⟩
 rw[e1,e2,List.append_nil,← List.append_assoc]
 exact p.append_right rb
theorem ML.finL(m:ML lt aL bL o [x] rb)(hs:Srt lt rb)(h:∀y∈rb,lt x y=false):p7 lt aL bL (o++rb++[x]):=by
 obtain⟨pa,pb,e1,e2,p⟩:=m.ex
 refine⟨?_,(m.so.app hs m.ob).app (List.pairwise_singleton _ _) fun w hw z hz=>?_⟩
 ·rw[e1,e2]
  refine((p.append_right rb).append_right [x]).trans ?_
  simp only[List.append_assoc]
  refine List.Perm.append_left pa ?_
  rw[← List.append_assoc]
  exact List.perm_append_comm
 ·rw[List.mem_singleton.mp hz]
  rcases List.mem_append.mp hw with hw | hw
  ·exact m.oa w hw x List.mem_cons_self
  ·exact h w hw
end
theorem Q9(a:Array Keyed)(i:Nat):(a.extract i a.size).toList=a.toList.drop i:=by
 rw[Array.toList_extract,List.extract_eq_take_drop,List.take_of_length_le (by rw[List.length_drop,Array.length_toList];exact Nat.le_refl _)]
theorem a6a(a:Array Keyed)(i k:Nat):(a.extract i (i+k)).toList=(a.toList.drop i).take k:=by
 rw[Array.toList_extract,List.extract_eq_take_drop]
 congr 1
 omega
def SameG(st st':SortSt):Prop:=kindOf st'=kindOf st∧arrOf st'=arrOf st∧pendingOf st'=pendingOf st∧failedOf st'=failedOf st
theorem SameG.refl(st:SortSt):SameG st st:=⟨rfl,rfl,rfl,rfl⟩
theorem SameG.trans{a b c:SortSt}(h:SameG a b)(g:SameG b c):SameG a c:=⟨g.1.trans h.1,g.2.1.trans h.2.1,g.2.2.1.trans h.2.2.1,g.2.2.2.trans h.2.2.2⟩
structure MI(lt:Keyed→Keyed→Bool)(a b out:Array Keyed)(ia ib:Nat):Prop where
 la:ia+1<a.size
 lb:ib<b.size
 ml:ML lt a.toList b.toList out.toList (a.toList.drop ia) (b.toList.drop ib)
structure MP(lt:Keyed→Keyed→Bool)(Dm:Keyed→Prop)(a b:Array Keyed):Prop where
 T:TPK lt Dm
 da:∀x∈a.toList,Dm x
 db:∀x∈b.toList,Dm x
 sa:Srt lt a.toList
 sb:Srt lt b.toList
 la:∀y∈b.toList,∀x,a.toList[a.size-1]? = some x→lt x y=false
section
variable {lt:Keyed→Keyed→Bool}{Dm:Keyed→Prop}{a b out:Array Keyed}{ia ib:Nat}{x y:Keyed}
theorem a0n{l:List Keyed}{i:Nat}(h:l[i]? = some x):l.drop i=x::l.drop (i+1):=by
 obtain⟨hi,e⟩:=List.getElem?_eq_some_iff.mp h
 rw[List.drop_eq_getElem_cons hi,e]
theorem w8{a:Array Keyed}{i:Nat}(h:i<a.size):∃x,a[i]? = some x∧a.toList[i]? = some x∧x∈a.toList:=by
 refine⟨a[i],by simp[h],?_,Array.getElem_mem_toList h⟩
 rw[List.getElem?_eq_getElem (by simpa using h)]
 simp
theorem B3{l:List Keyed}{i:Nat}{z:Keyed}(h:z∈l.drop i):∃j,i≤j∧l[j]? = some z:=by
 obtain⟨j,hj⟩:=List.mem_iff_getElem?.mp h
 rw[List.getElem?_drop]at hj
 exact⟨i+j,by omega,hj⟩
theorem v5{l:List Keyed}(T:TPK lt Dm)(hD:∀x∈l,Dm x)(hs:Srt lt l){i j:Nat}(hij:i≤j)(hx:l[i]? = some x)(hy:l[j]? = some y):lt y x=false:=by
 obtain⟨hi,e1⟩:=List.getElem?_eq_some_iff.mp hx
 obtain⟨hj,e2⟩:=List.getElem?_eq_some_iff.mp hy
 by_cases z:i=j
 ·subst z
  rw[hx]at hy;cases hy
  exact T.irr _ (hD _ (List.mem_of_getElem? hx))
 ·rw[← e1,← e2]
  exact List.pairwise_iff_getElem.mp hs i j hi hj (by omega)
theorem MI.good_last{ia ib:Nat}(P:MP lt Dm a b)(m:ML lt a.toList b.toList out.toList (a.toList.drop ia) (b.toList.drop ib))(h:ia+1=a.size):p7 lt a.toList b.toList (a0B a b out ia ib).toList:=by
 obtain⟨x,_,hx,_⟩:=w8 (a:=a) (i:=ia) (by omega)
 have e1:a.toList.drop ia=[x]:=by
  rw[a0n hx,List.drop_eq_nil_of_le (by rw[Array.length_toList];omega)]
 show p7 _ _ _ (out++b.extract ib b.size++a.extract ia a.size).toList
 rw[Array.toList_append,Array.toList_append,Q9,Q9,e1]
 rw[e1]at m
 refine m.finL (P.sb.drop ib) fun y hy=>P.la y (List.mem_of_mem_drop hy) x ?_
 rw[show a.size-1=ia by omega]
 exact hx
theorem MI.good_doneB{ia ib:Nat}(P:MP lt Dm a b)(m:ML lt a.toList b.toList out.toList (a.toList.drop ia) (b.toList.drop ib))(h:ib=b.size):p7 lt a.toList b.toList (E3 a b out ia ib).toList:=by
 have e1:b.toList.drop ib=[]:=List.drop_eq_nil_of_le (by rw[Array.length_toList];omega)
 show p7 _ _ _ (out++a.extract ia a.size++b.extract ib b.size).toList
 rw[Array.toList_append,Array.toList_append,Q9,Q9,e1,List.append_nil]
 rw[e1]at m
 exact m.finA (P.sa.drop ia)
theorem MI.good_doneA{ia ib:Nat}(P:MP lt Dm a b)(m:ML lt a.toList b.toList out.toList (a.toList.drop ia) (b.toList.drop ib))(h:ia=a.size):p7 lt a.toList b.toList (E3 a b out ia ib).toList:=by
 have e1:a.toList.drop ia=[]:=List.drop_eq_nil_of_le (by rw[Array.length_toList];omega)
 show p7 _ _ _ (out++a.extract ia a.size++b.extract ib b.size).toList
 rw[Array.toList_append,Array.toList_append,Q9,Q9,e1,List.append_nil]
 rw[e1]at m
 exact m.finB (P.sb.drop ib)
theorem a9g(P:MP lt Dm a b)(m:ML lt a.toList b.toList out.toList (a.toList.drop ia) (b.toList.drop ib))(hy:b.toList[ib]? = some y)(h:∀x,a.toList[ia]? = some x→lt x y=false):ML lt a.toList b.toList (out.push y).toList (a.toList.drop ia) (b.toList.drop (ib+1)):=by
 rw[a0n hy]at m
 rw[Array.toList_push]
 refine m.addB (by rw[← a0n hy];exact P.sb.drop ib) fun z hz=>?_
 obtain⟨j,hj,e⟩:=B3 hz
 obtain⟨hjl,_⟩:=List.getElem?_eq_some_iff.mp e
 have ei:a.toList[ia]? = some a.toList[ia]:=List.getElem?_eq_getElem (by omega)
 exact P.T.tr _ _ _ (P.db y (List.mem_of_getElem? hy)) (P.da _ (List.mem_of_getElem? ei)) (P.da z (List.mem_of_getElem? e)) (h _ ei) (v5 P.T P.da P.sa hj ei e)
theorem b3g(P:MP lt Dm a b)(m:ML lt a.toList b.toList out.toList (a.toList.drop ia) (b.toList.drop ib))(hx:a.toList[ia]? = some x)(h:∀y,b.toList[ib]? = some y→lt y x=false):ML lt a.toList b.toList (out.push x).toList (a.toList.drop (ia+1)) (b.toList.drop ib):=by
 rw[a0n hx]at m
 rw[Array.toList_push]
 refine m.addA (by rw[← a0n hx];exact P.sa.drop ia) fun z hz=>?_
 obtain⟨j,hj,e⟩:=B3 hz
 obtain⟨hjl,_⟩:=List.getElem?_eq_some_iff.mp e
 have ei:b.toList[ib]? = some b.toList[ib]:=List.getElem?_eq_getElem (by omega)
 exact P.T.tr _ _ _ (P.da x (List.mem_of_getElem? hx)) (P.db _ (List.mem_of_getElem? ei)) (P.db z (List.mem_of_getElem? e)) (h _ ei) (v5 P.T P.db P.sb hj ei e)
theorem a0C{l:List Keyed}{i k:Nat}{z:Keyed}(h:z∈(l.drop i).take k):∃j,j<k∧l[i+j]? = some z:=by
 obtain⟨j,hj⟩:=List.mem_iff_getElem?.mp h
 by_cases hk:j<k
 ·rw[List.getElem?_take_of_lt hk,List.getElem?_drop]at hj
  exact⟨j,hk,hj⟩
 ·rw[List.getElem?_eq_none (by rw[List.length_take];omega)]at hj
  cases hj
theorem b4j(P:MP lt Dm a b)(m:ML lt a.toList b.toList out.toList (a.toList.drop ia) (b.toList.drop ib))(hy:b.toList[ib]? = some y)(k:Nat)(h:∀j x,j<k→a.toList[ia+j]? = some x→lt y x=false):ML lt a.toList b.toList (out++a.extract ia (ia+k)).toList (a.toList.drop (ia+k)) (b.toList.drop ib):=by
 have e0:a.toList.drop ia=(a.toList.drop ia).take k++a.toList.drop (ia+k):=by
  rw[show a.toList.drop (ia+k)=(a.toList.drop ia).drop k by rw[List.drop_drop],List.take_append_drop]
 rw[Array.toList_append,a6a]
 refine ML.addAs (by rw[← e0];exact m) (by rw[← e0];exact P.sa.drop ia) fun z hz v hv=>?_
 obtain⟨j,hj,e⟩:=a0C hz
 obtain⟨i,hi,e2⟩:=B3 hv
 exact P.T.tr _ _ _ (P.da z (List.mem_of_getElem? e)) (P.db y (List.mem_of_getElem? hy)) (P.db v (List.mem_of_getElem? e2)) (h j z hj e) (v5 P.T P.db P.sb hi hy e2)
theorem b4k(P:MP lt Dm a b)(m:ML lt a.toList b.toList out.toList (a.toList.drop ia) (b.toList.drop ib))(hx:a.toList[ia]? = some x)(k:Nat)(h:∀j y,j<k→b.toList[ib+j]? = some y→lt x y=false):ML lt a.toList b.toList (out++b.extract ib (ib+k)).toList (a.toList.drop ia) (b.toList.drop (ib+k)):=by
 have e0:b.toList.drop ib=(b.toList.drop ib).take k++b.toList.drop (ib+k):=by
  rw[show b.toList.drop (ib+k)=(b.toList.drop ib).drop k by rw[List.drop_drop],List.take_append_drop]
 rw[Array.toList_append,a6a]
 refine ML.addBs (by rw[← e0];exact m) (by rw[← e0];exact P.sb.drop ib) fun z hz v hv=>?_
 obtain⟨j,hj,e⟩:=a0C hz
 obtain⟨i,hi,e2⟩:=B3 hv
 exact P.T.tr _ _ _ (P.db z (List.mem_of_getElem? e)) (P.da x (List.mem_of_getElem? hx)) (P.da v (List.mem_of_getElem? e2)) (h j z hj e) (v5 P.T P.da P.sa hi hx e2)
end
abbrev GS:=Option (Array Keyed)×Array Keyed×Nat×Nat×Nat×Nat×Nat
abbrev loC(a b out:Array Keyed)(ia ib mg ac bc:Nat):StateT SortSt Sem (ForInStep GS):=do
 let x ← elem' a ia
 if(ia+1+1 == a.size)=true then pure (.done (some (a0B a b (out.push x) (ia+1) ib),out.push x,ia+1,ib,mg,ac,bc))
 else if(decide (ac<7) && decide (bc<7))=true then pure (.done (none,out.push x,ia+1,ib,mg,ac,bc))
 else pure (.yield (none,out.push x,ia+1,ib,mg,ac,bc))
abbrev loB(a b out:Array Keyed)(ia ib mg ac bc:Nat):StateT SortSt Sem (ForInStep GS):=do
 let y ← elem' b ib
 if(ib+1 == b.size)=true then pure (.done (some (E3 a b (out.push y) ia (ib+1)),out.push y,ia,ib+1,mg,ac,bc))
 else do
  let x ← elem' a ia
  let r ← C1 true x b (ib+1) (b.size-(ib+1)) 0
  match r with
  | some k =>
   if k > 0 then
    (if(ib+1+k == b.size)=true then pure (.done (some (E3 a b (out.push y++b.extract (ib+1) (ib+1+k)) ia (ib+1+k)),out.push y++b.extract (ib+1) (ib+1+k),ia,ib+1+k,mg,ac,k))
    else loC a b (out.push y++b.extract (ib+1) (ib+1+k)) ia (ib+1+k) mg ac k)
   else loC a b (out.push y) ia (ib+1) mg ac k
  | _=>pure (.done (some (E3 a b (out.push y) ia (ib+1)),out.push y,ia,ib+1,mg,ac,bc))
abbrev loA(a b out:Array Keyed)(ia ib mg ac bc:Nat):StateT SortSt Sem (ForInStep GS):=do
 let y ← elem' b ib
 let r ← C1 false y a ia (a.size-ia) 0
 match r with
 | some k =>
  if k > 0 then
   (if(ia+k+1 == a.size)=true then pure (.done (some (a0B a b (out++a.extract ia (ia+k)) (ia+k) ib),out++a.extract ia (ia+k),ia+k,ib,mg,k,bc))
   else if(ia+k == a.size)=true then pure (.done (some (E3 a b (out++a.extract ia (ia+k)) (ia+k) ib),out++a.extract ia (ia+k),ia+k,ib,mg,k,bc))
   else loB a b (out++a.extract ia (ia+k)) (ia+k) ib mg k bc)
  else loB a b out ia ib mg k bc
 | _=>pure (.done (some (E3 a b out ia ib),out,ia,ib,mg,ac,bc))
section
variable {prog:Program}{w:World}{A:Around}{E:Value→Shared→Prop}{s:Shared}{κ:SortKind}{lt:Keyed→Keyed→Bool}{Dm:Keyed→Prop}{a b out:Array Keyed}{ia ib mg ac bc p0:Nat}{st0 st:SortSt}
def PQ(lt:Keyed→Keyed→Bool)(a b:Array Keyed)(p0:Nat)(st0:SortSt):ForInStep GS→SortSt→Prop
 | .done c,st'=>SameG st0 st'∧((∃r,c.1=some r∧p7 lt a.toList b.toList r.toList)∨(c.1=none∧MI lt a b c.2.1 c.2.2.1 c.2.2.2.1∧p0≤c.2.2.1+c.2.2.2.1))
 | .yield c,st'=>SameG st0 st'∧c.1=none∧MI lt a b c.2.1 c.2.2.1 c.2.2.2.1∧p0≤c.2.2.1+c.2.2.2.1
theorem b3j(P:MP lt Dm a b)(hg:SameG st0 st)(m:MI lt a b out ia ib)(hp:p0≤ia+ib)(hle:∀x y,a.toList[ia]? = some x→b.toList[ib]? = some y→lt y x=false):wpS (model prog w) A E s (loC a b out ia ib mg ac bc) (PQ lt a b p0 st0) st:=by
 obtain⟨x,hx,hxl,_⟩:=w8 (a:=a) (i:=ia) (by have:=m.la;omega)
 have ml:=b3g P m.ml hxl (fun y hy=>hle x y hxl hy)
 refine wpS_bind (r8 hx ?_)
 by_cases z:(ia+1+1 == a.size)=true
 ·rw[if_pos z]
  exact wpS_pure ⟨hg,.inl ⟨_,rfl,MI.good_last P ml (by simpa using z)⟩⟩
 ·rw[if_neg z]
  have z':ia+1+1≠a.size:=by simpa using z
  have m':MI lt a b (out.push x) (ia+1) ib:=⟨by have:=m.la;omega,m.lb,ml⟩
  split
  ·exact wpS_pure ⟨hg,.inr ⟨rfl,m',by show p0≤ia+1+ib;omega⟩⟩
  ·exact wpS_pure ⟨hg,rfl,m',by show p0≤ia+1+ib;omega⟩
theorem b3k(C:A6 prog w A s κ lt Dm)(P:MP lt Dm a b)(hk:kindOf st=κ)(hg:SameG st0 st)(m:MI lt a b out ia ib)(hp:p0≤ia+ib)(hle:∀x y,a.toList[ia]? = some x→b.toList[ib]? = some y→lt x y=false):wpS (model prog w) A E s (loB a b out ia ib mg ac bc) (PQ lt a b p0 st0) st:=by
 obtain⟨y,hy,hyl,_⟩:=w8 (a:=b) (i:=ib) m.lb
 obtain⟨x,hx,hxl,mx⟩:=w8 (a:=a) (i:=ia) (by have:=m.la;omega)
 have ml:=a9g P m.ml hyl (fun x hx=>hle x y hx hyl)
 have dx:=P.da x mx
 refine wpS_bind (r8 hy ?_)
 by_cases z:(ib+1 == b.size)=true
 ·rw[if_pos z]
  exact wpS_pure ⟨hg,.inl ⟨_,rfl,MI.good_doneB P ml (by simpa using z)⟩⟩
 ·rw[if_neg z]
  have z':ib+1≠b.size:=by simpa using z
  have hlb:ib+1<b.size:=by have:=m.lb;omega
  refine wpS_bind (r8 hx (wpS_bind ?_))
  have at_:∀i,i<b.size-(ib+1)→∃v,b[ib+1+i]? = some v∧b.toList[ib+1+i]? = some v∧v∈b.toList:=fun i hi=>w8 (by omega)
  refine K9 C hk dx (by omega) (fun i=>lt ((b.toList[ib+1+i]?).getD x) x) (fun i hi=>?_) (fun i j hij hj hb=>?_) fun k hk1 hk2 hk3=>?_
  ·obtain⟨v,h1,h2,h3⟩:=at_ i hi
   exact⟨v,h1,P.db v h3,by rw[h2];rfl⟩
  ·obtain⟨v,h1,h2,h3⟩:=at_ i (by omega)
   obtain⟨u,u1,u2,u3⟩:=at_ j hj
   rw[u2]at hb
   rw[h2]
   show lt v x=true
   cases q:lt v x with
   | true=>rfl
   | false =>
    have:=P.T.tr x v u dx (P.db v h3) (P.db u u3) q (v5 P.T P.db P.sb (by omega) h2 u2)
    have hb:lt u x=true:=hb
    rw[this]at hb;cases hb
  ·dsimp only
   have low:∀j v,j<k→b.toList[ib+1+j]? = some v→lt x v=false:=fun j v hj hv=>by
    have:=hk2 j hj
    rw[hv]at this
    exact P.T.asy _ _ (P.db v (List.mem_of_getElem? hv)) dx this
   have high:∀v,b.toList[ib+1+k]? = some v→lt v x=false:=fun v hv=>by
    obtain⟨hl,_⟩:=List.getElem?_eq_some_iff.mp hv
    rw[Array.length_toList]at hl
    have:=hk3 k (Nat.le_refl _) (by omega)
    rw[hv]at this
    exact this
   by_cases k0:k > 0
   ·rw[if_pos k0]
    have ml2:=b4k P ml hxl k low
    by_cases y1:(ib+1+k == b.size)=true
    ·rw[if_pos y1]
     exact wpS_pure ⟨hg,.inl ⟨_,rfl,MI.good_doneB P ml2 (by simpa using y1)⟩⟩
    ·rw[if_neg y1]
     have y1':ib+1+k≠b.size:=by simpa using y1
     exact b3j P hg ⟨m.la,by omega,ml2⟩ (by omega) fun x' y' e1 e2=>by
      rw[hxl]at e1;cases e1
      exact high y' e2
   ·rw[if_neg k0]
    have e0:k=0:=by omega
    subst e0
    exact b3j P hg ⟨m.la,hlb,ml⟩ (by omega) fun x' y' e1 e2=>by
     rw[hxl]at e1;cases e1
     exact high y' e2
theorem b3l(C:A6 prog w A s κ lt Dm)(P:MP lt Dm a b)(hk:kindOf st=κ)(hg:SameG st0 st)(m:MI lt a b out ia ib)(hp:p0≤ia+ib):wpS (model prog w) A E s (loA a b out ia ib mg ac bc) (PQ lt a b p0 st0) st:=by
 obtain⟨y,hy,hyl,my⟩:=w8 (a:=b) (i:=ib) m.lb
 have dy:=P.db y my
 have hla:=m.la
 refine wpS_bind (r8 hy (wpS_bind ?_))
 have at_:∀i,i<a.size-ia→∃v,a[ia+i]? = some v∧a.toList[ia+i]? = some v∧v∈a.toList:=fun i hi=>w8 (by omega)
 refine K9 C hk dy (by omega) (fun i=>!lt y ((a.toList[ia+i]?).getD y)) (fun i hi=>?_) (fun i j hij hj hb=>?_) fun k hk1 hk2 hk3=>?_
 ·obtain⟨v,h1,h2,h3⟩:=at_ i hi
  exact⟨v,h1,P.da v h3,by rw[h2];rfl⟩
 ·obtain⟨v,h1,h2,h3⟩:=at_ i (by omega)
  obtain⟨u,u1,u2,u3⟩:=at_ j hj
  rw[u2]at hb
  rw[h2]
  have hb:(!lt y u)=true:=hb
  have hb':lt y u=false:=by simpa using hb
  show(!lt y v)=true
  rw[P.T.tr v u y (P.da v h3) (P.da u u3) dy (v5 P.T P.da P.sa (by omega) h2 u2) hb']
  rfl
 ·dsimp only
  have low:∀j v,j<k→a.toList[ia+j]? = some v→lt y v=false:=fun j v hj hv=>by
   have:=hk2 j hj
   rw[hv]at this
   have this:(!lt y v)=true:=this
   simpa using this
  have high:∀v,a.toList[ia+k]? = some v→lt v y=false:=fun v hv=>by
   obtain⟨hl,_⟩:=List.getElem?_eq_some_iff.mp hv
   rw[Array.length_toList]at hl
   have:=hk3 k (Nat.le_refl _) (by omega)
   rw[hv]at this
   have this:(!lt y v)=false:=this
   exact P.T.asy _ _ dy (P.da v (List.mem_of_getElem? hv)) (by simpa using this)
  by_cases k0:k > 0
  ·rw[if_pos k0]
   have ml2:=b4j P m.ml hyl k low
   by_cases y1:(ia+k+1 == a.size)=true
   ·rw[if_pos y1]
    exact wpS_pure ⟨hg,.inl ⟨_,rfl,MI.good_last P ml2 (by simpa using y1)⟩⟩
   ·rw[if_neg y1]
    have y1':ia+k+1≠a.size:=by simpa using y1
    by_cases y2:(ia+k == a.size)=true
    ·rw[if_pos y2]
     exact wpS_pure ⟨hg,.inl ⟨_,rfl,MI.good_doneA P ml2 (by simpa using y2)⟩⟩
    ·rw[if_neg y2]
     have y2':ia+k≠a.size:=by simpa using y2
     exact b3k C P hk hg ⟨by omega,m.lb,ml2⟩ (by omega) fun x' y' e1 e2=>by
      rw[hyl]at e2;cases e2
      exact high x' e1
  ·rw[if_neg k0]
   have e0:k=0:=by omega
   subst e0
   exact b3k C P hk hg m (by omega) fun x' y' e1 e2=>by
    rw[hyl]at e2;cases e2
    exact high x' e1
theorem smg{g:Nat}{Q:Unit→SortSt→Prop}(h:∀st',SameG st st'→Q () st'):wpS (model prog w) A E s (C2 g) Q st:=by
 rw[a11]
 exact wpS_modify (h _ ⟨rfl,rfl,rfl,rfl⟩)
theorem a4K{α:Type}{c:Prop} [Decidable c] {m1 m2:StateT SortSt Sem α} {Q:α→SortSt→Prop} (h1:c→wpS (model prog w) A E s m1 Q st) (h2:¬c→wpS (model prog w) A E s m2 Q st):wpS (model prog w) A E s (if c then m1 else m2) Q st:=by
 by_cases z:c
 ·rw[if_pos z];exact h1 z
 ·rw[if_neg z];exact h2 z
abbrev S1:=Option (Array Keyed)×Array Keyed×Nat×Nat×Nat×Nat
theorem a5L{Q:Array Keyed→SortSt→Prop}(C:A6 prog w A s κ lt Dm)(P:MP lt Dm a b)(hk:kindOf st=κ)(ha:1≤a.size)(hb:1≤b.size)(h0:∀x y,a.toList[0]? = some x→b.toList[0]? = some y→lt x y=false)
  (h:∀r st',SameG st st'→p7 lt a.toList b.toList r.toList→Q r st'):wpS (model prog w) A E s (a12 a b) Q st:=by
 rw[a5K]
 refine wpS_bind (wpS_lift (wpAny_rule ⟨rfl,?_⟩))
 obtain⟨y,hy,hyl,my⟩:=w8 (a:=b) (i:=0) hb
 refine wpS_bind (r8 hy ?_)
 dsimp only
 have m0:ML lt a.toList b.toList [] (a.toList.drop 0) (b.toList.drop 0):=⟨⟨[],[],rfl,rfl,.refl _⟩,.nil,fun x hx=>absurd hx List.not_mem_nil,fun x hx=>absurd hx List.not_mem_nil⟩
 have m1:ML lt a.toList b.toList (#[y]:Array Keyed).toList (a.toList.drop 0) (b.toList.drop 1):=a9g (out := #[]) P m0 hyl fun x hx=>h0 x y hx hyl
 by_cases z:(1 == b.size)=true
 ·rw[if_pos z]
  exact wpS_pure (h _ _ (.refl _) (MI.good_doneB P m1 (by simpa using z)))
 rw[if_neg z]
 have z':1≠b.size:=by simpa using z
 by_cases z2:(0+1 == a.size)=true
 ·rw[if_pos z2]
  exact wpS_pure (h _ _ (.refl _) (MI.good_last P m1 (by simpa using z2)))
 rw[if_neg z2]
 have z2':0+1≠a.size:=by simpa using z2
 refine wpS_bind (wpS_get ?_)
 refine wpS_bind (U0 (fun(i:Nat) (c:Option (Array Keyed)×Array Keyed×Nat×Nat×Nat) st'=>c.1=none∧SameG st st'∧MI lt a b c.2.1 c.2.2.1 c.2.2.2.1∧i+1≤c.2.2.1+c.2.2.2.1)
  (fun(c:Option (Array Keyed)×Array Keyed×Nat×Nat×Nat) st'=>∃r,c.1=some r∧SameG st st'∧p7 lt a.toList b.toList r.toList) ?_ ?_ ⟨rfl,.refl _,⟨by show 0+1<a.size;omega,by show 1<b.size;omega,m1⟩,by show 0+1≤0+1;omega⟩ ?_)
 ·rintro i ⟨c0,out,ia,ib,mg⟩ st1 hi ⟨e0,hg,m,hp⟩
  dsimp only at *
  refine wpS_bind (U0 (fun(j:Nat) (c:S1) st'=>c.1=none∧SameG st st'∧MI lt a b c.2.1 c.2.2.1 c.2.2.2.1∧ia+ib+j≤c.2.2.1+c.2.2.2.1)
   (fun(c:S1) st'=>SameG st st'∧((∃r,c.1=some r∧p7 lt a.toList b.toList r.toList)∨(c.1=none∧MI lt a b c.2.1 c.2.2.1 c.2.2.2.1∧ia+ib+1≤c.2.2.1+c.2.2.2.1))) ?_ ?_ ⟨rfl,hg,m,Nat.le_refl _⟩ ?_)
  ·rintro j ⟨d0,out',ja,jb,ac,bc⟩ st2 hj ⟨f0,hg2,m2,hp2⟩
   dsimp only at *
   obtain⟨y2,hy2,hyl2,my2⟩:=w8 (a:=b) (i:=jb) m2.lb
   obtain⟨x2,hx2,hxl2,mx2⟩:=w8 (a:=a) (i:=ja) (by have:=m2.la;omega)
   refine wpS_bind (r8 hy2 (wpS_bind (r8 hx2 (wpS_bind (a1c C (hg2.1.trans hk) (P.db _ my2) (P.da _ mx2) ?_)))))
   dsimp only
   have hla:=m2.la
   have hlb:=m2.lb
   cases bw:lt y2 x2 with
   | true =>
    rw[if_pos rfl]
    have ml:=a9g P m2.ml hyl2 (fun x hx=>by rw[hxl2]at hx;cases hx;exact P.T.asy _ _ (P.db _ my2) (P.da _ mx2) bw)
    refine wpS_bind (r8 hy2 ?_)
    by_cases q:(jb+1 == b.size)=true
    ·rw[if_pos q]
     exact wpS_pure ⟨hg2,.inl ⟨_,rfl,MI.good_doneB P ml (by simpa using q)⟩⟩
    ·rw[if_neg q]
     have q':jb+1≠b.size:=by simpa using q
     have m3:MI lt a b (out'.push y2) ja (jb+1):=⟨hla,by omega,ml⟩
     split
     ·exact wpS_pure ⟨hg2,.inr ⟨rfl,m3,by show ia+ib+1≤ja+(jb+1);omega⟩⟩
     ·exact wpS_pure ⟨rfl,hg2,m3,by show ia+ib+(j+1)≤ja+(jb+1);omega⟩
   | false =>
    rw[if_neg (by simp)]
    have ml:=b3g P m2.ml hxl2 (fun y hy=>by rw[hyl2]at hy;cases hy;exact bw)
    refine wpS_bind (r8 hx2 ?_)
    by_cases q:(ja+1+1 == a.size)=true
    ·rw[if_pos q]
     exact wpS_pure ⟨hg2,.inl ⟨_,rfl,MI.good_last P ml (by simpa using q)⟩⟩
    ·rw[if_neg q]
     have q':ja+1+1≠a.size:=by simpa using q
     have m3:MI lt a b (out'.push x2) (ja+1) jb:=⟨by omega,hlb,ml⟩
     split
     ·exact wpS_pure ⟨hg2,.inr ⟨rfl,m3,by show ia+ib+1≤ja+1+jb;omega⟩⟩
     ·exact wpS_pure ⟨rfl,hg2,m3,by show ia+ib+(j+1)≤ja+1+jb;omega⟩
  ·rintro⟨d0,out',ja,jb,ac,bc⟩ st2 ⟨f0,hg2,m2,hp2⟩
   dsimp only at *
   exact⟨hg2,.inr ⟨f0,m2,by show ia+ib+1≤ja+jb;omega⟩⟩
  ·rintro⟨d0,out',ja,jb,ac,bc⟩ st2 ⟨hg2,⟨r,f0,gr⟩ | ⟨f0,m2,hp2⟩⟩
   ·dsimp only at *
    subst f0
    exact wpS_pure ⟨r,rfl,hg2,gr⟩
   ·dsimp only at *
    subst f0
    dsimp only
    refine wpS_bind (wpS_lift (wpAny_rule ⟨rfl,?_⟩))
    refine wpS_bind (U0 (fun(j:Nat) (c:GS) st'=>SameG st st'∧c.1=none∧MI lt a b c.2.1 c.2.2.1 c.2.2.2.1∧ja+jb≤c.2.2.1+c.2.2.2.1)
     (fun(c:GS) st'=>SameG st st'∧((∃r,c.1=some r∧p7 lt a.toList b.toList r.toList)∨(c.1=none∧MI lt a b c.2.1 c.2.2.1 c.2.2.2.1∧ja+jb≤c.2.2.1+c.2.2.2.1))) ?_ ?_ ⟨hg2,rfl,m2,Nat.le_refl _⟩ ?_)
    ·rintro j ⟨g0,out2,ka,kb,mg2,ac2,bc2⟩ st3 hj ⟨hg3,f0,m3,hp3⟩
     refine a4K (fun _=>?_) (fun _=>?_)
     ·refine wpS_bind (smg fun st4 g4=>?_)
      exact wpS_mono (b3l (mg:=mg2-1) (ac:=ac2) (bc:=bc2) C P ((hg3.trans g4).1.trans hk) (hg3.trans g4) m3 hp3) (fun r st' q=>by cases r<;>exact q)
     ·refine wpS_bind (smg fun st4 g4=>?_)
      exact wpS_mono (b3l (mg:=mg2) (ac:=ac2) (bc:=bc2) C P ((hg3.trans g4).1.trans hk) (hg3.trans g4) m3 hp3) (fun r st' q=>by cases r<;>exact q)
    ·rintro⟨g0,out2,ka,kb,mg2,ac2,bc2⟩ st3 ⟨hg3,f0,m3,hp3⟩
     exact⟨hg3,.inr ⟨f0,m3,hp3⟩⟩
    ·rintro⟨g0,out2,ka,kb,mg2,ac2,bc2⟩ st3 ⟨hg3,⟨r,f0,gr⟩ | ⟨f0,m3,hp3⟩⟩
     ·have f0:g0=some r:=f0
      subst f0
      exact wpS_pure ⟨r,rfl,hg3,gr⟩
     ·have f0:g0=none:=f0
      have hp3:ja+jb≤ka+kb:=hp3
      subst f0
      refine wpS_bind (smg fun st4 g4=>?_)
      exact wpS_pure ⟨rfl,hg3.trans g4,m3,by show i+1+1≤ka+kb;omega⟩
 ·rintro⟨c0,out,ia,ib,mg⟩ st1 ⟨e0,hg,m,hp⟩
  exfalso
  have h1:=m.la
  have h2:=m.lb
  dsimp only at *
  omega
 ·rintro⟨c0,out,ia,ib,mg⟩ st1 ⟨r,e0,hg,gr⟩
  dsimp only at *
  subst e0
  exact wpS_pure (h r st1 hg gr)
end
def a13:Array Keyed→Array Keyed→StateT SortSt Sem (Array Keyed):=sortPriv% PySem.Builtin.mergeHi
abbrev E4(a b out:Array Keyed)(na nb:Nat):Array Keyed:=a.extract 0 na++b.extract 0 nb++out.reverse
abbrev W6(a b out:Array Keyed)(na nb:Nat):Array Keyed:=b.extract 0 nb++a.extract 0 na++out.reverse
theorem a5M(a b:Array Keyed):a13 a b=(do
 rule "list.sort.merge-hi"
 let total:=a.size+b.size
 let mut na:=a.size-1
 let mut nb:=b.size
 let mut out:Array Keyed := #[← elem' a na]
 if na == 0 then return E4 a b out na nb
 if nb == 1 then return W6 a b out na nb
 let mut minGallop:=gallopOf (← get)
 for _ in [0:total]do
  let mut acount:=0
  let mut bcount:=0
  for _ in [0:total]do
   let some aWins ← lt' (← elem' b (nb-1)) (← elem' a (na-1)) | return E4 a b out na nb
   if aWins then
    na:=na-1;out:=out.push (← elem' a na);acount:=acount+1;bcount:=0
    if na == 0 then return E4 a b out na nb
    if acount≥minGallop then break
   else
    nb:=nb-1;out:=out.push (← elem' b nb);bcount:=bcount+1;acount:=0
    if nb == 1 then return W6 a b out na nb
    if bcount≥minGallop then break
  rule "list.sort.gallop"
  minGallop:=minGallop+1
  for _ in [0:total]do
   if minGallop > 1 then minGallop:=minGallop-1
   C2 minGallop
   let some at_ ← C1 false (← elem' b (nb-1)) a 0 na (na-1) | return E4 a b out na nb
   let k:=na-at_
   acount:=k
   if k > 0 then
    out:=out++(a.extract at_ na).reverse;na:=at_
    if na == 0 then return E4 a b out na nb
   nb:=nb-1;out:=out.push (← elem' b nb)
   if nb == 1 then return W6 a b out na nb
   let some at_ ← C1 true (← elem' a (na-1)) b 0 nb (nb-1) | return E4 a b out na nb
   let k:=nb-at_
   bcount:=k
   if k > 0 then
    out:=out++(b.extract at_ nb).reverse;nb:=at_
    if nb == 1 then return W6 a b out na nb
    if nb == 0 then return E4 a b out na nb
   na:=na-1;out:=out.push (← elem' a na)
   if na == 0 then return E4 a b out na nb
   if acount<7 && bcount<7 then break
  minGallop:=minGallop+1
  C2 minGallop
 unsupported "internal:list.sort.merge-bound"):=rfl
structure MR(lt:Keyed→Keyed→Bool)(aL bL o ra rb:List Keyed):Prop where
 ex:∃pa pb,aL=ra++pa∧bL=rb++pb∧o.Perm (pa++pb)
 so:Srt lt o
 oa:∀x∈o,∀y∈ra,lt x y=false
 ob:∀x∈o,∀y∈rb,lt x y=false
section
variable {lt:Keyed→Keyed→Bool}{aL bL o ra rb u:List Keyed}{x y:Keyed}
theorem Srt.left{l m:List Keyed}(h:Srt lt (l++m)):Srt lt l:=(List.pairwise_append.mp h).1
theorem MR.addA(m:MR lt aL bL o (ra++[x]) rb)(hs:Srt lt (ra++[x]))(h:∀y∈rb,lt x y=false):MR lt aL bL (x::o) ra rb:=by
 obtain⟨pa,pb,e1,e2,p⟩:=m.ex
 have hx:=(List.pairwise_append.mp hs).2.2
 refine⟨⟨x::pa,pb,by rw[e1];simp,e2,p.cons x⟩,List.pairwise_cons.mpr ⟨fun z hz=>m.oa z hz x (by simp),m.so⟩,fun w hw z hz=>?_,fun w hw z hz=>?_⟩
 ·rcases List.mem_cons.mp hw with rfl | hw
  ·exact hx z hz w List.mem_cons_self
  ·exact m.oa w hw z (List.mem_append_left _ hz)
 ·rcases List.mem_cons.mp hw with rfl | hw
  ·exact h z hz
  ·exact m.ob w hw z hz
theorem MR.addB(m:MR lt aL bL o ra (rb++[y]))(hs:Srt lt (rb++[y]))(h:∀x∈ra,lt y x=false):MR lt aL bL (y::o) ra rb:=by
 obtain⟨pa,pb,e1,e2,p⟩:=m.ex
 have hy:=(List.pairwise_append.mp hs).2.2
 refine⟨⟨pa,y::pb,e1,by rw[e2];simp,(p.cons y).trans List.perm_middle.symm⟩,List.pairwise_cons.mpr ⟨fun z hz=>m.ob z hz y (by simp),m.so⟩,fun w hw z hz=>?_,fun w hw z hz=>?_⟩
 ·rcases List.mem_cons.mp hw with rfl | hw
  ·exact h z hz
  ·exact m.oa w hw z hz
 ·rcases List.mem_cons.mp hw with rfl | hw
  ·exact hy z hz w List.mem_cons_self
  ·exact m.ob w hw z (List.mem_append_left _ hz)
theorem MR.addAs:∀{u ra:List Keyed},MR lt aL bL o (ra++u) rb→Srt lt (ra++u)→(∀x∈u,∀y∈rb,lt x y=false)→MR lt aL bL (u++o) ra rb
 | [],ra,m,_,_=>by rw[List.append_nil]at m;exact m
 | x::u,ra,m,hs,h=>by
  have e:ra++x::u=(ra++[x])++u:=by simp
  rw[e]at m hs
  exact MR.addA (MR.addAs m hs fun z hz=>h z (List.mem_cons_of_mem _ hz)) hs.left (h x List.mem_cons_self)
theorem MR.addBs:∀{u rb:List Keyed},MR lt aL bL o ra (rb++u)→Srt lt (rb++u)→(∀y∈u,∀x∈ra,lt y x=false)→MR lt aL bL (u++o) ra rb
 | [],rb,m,_,_=>by rw[List.append_nil]at m;exact m
 | x::u,rb,m,hs,h=>by
  have e:rb++x::u=(rb++[x])++u:=by simp
  rw[e]at m hs
  exact MR.addB (MR.addBs m hs fun z hz=>h z (List.mem_cons_of_mem _ hz)) hs.left (h x List.mem_cons_self)
theorem MR.finB(m:MR lt aL bL o [] rb)(hs:Srt lt rb):p7 lt aL bL (rb++o):=by
 obtain⟨pa,pb,e1,e2,p⟩:=m.ex
 refine⟨?_,hs.app m.so fun x hx y hy=>m.ob y hy x hx⟩
 rw[e1,e2,List.nil_append]
 refine(p.append_left rb).trans ?_
 rw[← List.append_assoc,← List.append_assoc]
 exact List.Perm.append_right pb List.perm_append_comm
theorem MR.finA(m:MR lt aL bL o ra [])(hs:Srt lt ra):p7 lt aL bL (ra++o):=by
 obtain⟨pa,pb,e1,e2,p⟩:=m.ex
 refine⟨?_,hs.app m.so fun x hx y hy=>m.oa y hy x hx⟩
 rw[e1,e2,List.nil_append,List.append_assoc]
 exact p.append_left ra
theorem MR.finF(m:MR lt aL bL o ra [y])(hs:Srt lt ra)(h:∀x∈ra,lt x y=false):p7 lt aL bL ([y]++ra++o):=by
 obtain⟨pa,pb,e1,e2,p⟩:=m.ex
 refine⟨?_,?_⟩
 ·rw[e1,e2]
  refine(p.append_left ([y]++ra)).trans ?_
  refine List.Perm.trans ?_ (List.perm_append_comm (l₁:=ra++pa) (l₂:=[y]++pb)).symm
  simp only[List.append_assoc]
  refine List.Perm.append_left [y] ?_
  rw[← List.append_assoc]
  exact List.perm_append_comm
 ·refine Srt.app (List.pairwise_cons.mpr ⟨fun x hx=>h x hx,hs⟩:Srt lt ([y]++ra)) m.so fun x hx z hz=>?_
  rcases List.mem_append.mp hx with hx | hx
  ·rw[List.mem_singleton.mp hx];exact m.ob z hz y List.mem_cons_self
  ·exact m.oa z hz x hx
end
theorem R0(a:Array Keyed)(i:Nat):(a.extract 0 i).toList=a.toList.take i:=by
 rw[Array.toList_extract,List.extract_eq_take_drop,List.drop_zero,Nat.sub_zero]
theorem a14(a:Array Keyed)(i j:Nat):(a.extract i j).toList=(a.toList.drop i).take (j-i):=by
 rw[Array.toList_extract,List.extract_eq_take_drop]
structure MH(lt:Keyed→Keyed→Bool)(a b out:Array Keyed)(na nb:Nat):Prop where
 la:0<na∧na≤a.size
 lb:1<nb∧nb≤b.size
 mr:MR lt a.toList b.toList out.toList.reverse (a.toList.take na) (b.toList.take nb)
structure MPh(lt:Keyed→Keyed→Bool)(Dm:Keyed→Prop)(a b:Array Keyed):Prop where
 T:TPK lt Dm
 da:∀x∈a.toList,Dm x
 db:∀x∈b.toList,Dm x
 sa:Srt lt a.toList
 sb:Srt lt b.toList
 fb:∀x∈a.toList,∀y,b.toList[0]? = some y→lt x y=false
section
variable {lt:Keyed→Keyed→Bool}{Dm:Keyed→Prop}{a b out:Array Keyed}{na nb:Nat}{x y:Keyed}
theorem Srt.take{l:List Keyed}(h:Srt lt l)(n:Nat):Srt lt (l.take n):=List.Pairwise.sublist (List.take_sublist n l) h
theorem a6c{l:List Keyed}{i:Nat}(h:l[i]? = some x):l.take (i+1)=l.take i++[x]:=by
 rw[List.take_add_one,h]
 rfl
theorem y9{l:List Keyed}{n:Nat}{z:Keyed}(h:z∈l.take n):∃j,j<n∧l[j]? = some z:=by
 obtain⟨j,hj⟩:=List.mem_iff_getElem?.mp h
 by_cases hk:j<n
 ·rw[List.getElem?_take_of_lt hk]at hj
  exact⟨j,hk,hj⟩
 ·rw[List.getElem?_eq_none (by rw[List.length_take];omega)]at hj
  cases hj
theorem MH.good_doneA(P:MPh lt Dm a b)(m:MR lt a.toList b.toList out.toList.reverse (a.toList.take na) (b.toList.take nb))(h:na=0):p7 lt a.toList b.toList (E4 a b out na nb).toList:=by
 subst h
 show p7 _ _ _ (a.extract 0 0++b.extract 0 nb++out.reverse).toList
 rw[Array.toList_append,Array.toList_append,R0,R0,Array.toList_reverse,List.take_zero,List.nil_append]
 rw[List.take_zero]at m
 exact m.finB (P.sb.take nb)
theorem MH.good_doneB(P:MPh lt Dm a b)(m:MR lt a.toList b.toList out.toList.reverse (a.toList.take na) (b.toList.take nb))(h:nb=0):p7 lt a.toList b.toList (E4 a b out na nb).toList:=by
 subst h
 show p7 _ _ _ (a.extract 0 na++b.extract 0 0++out.reverse).toList
 rw[Array.toList_append,Array.toList_append,R0,R0,Array.toList_reverse,List.take_zero,List.append_nil]
 rw[List.take_zero]at m
 exact m.finA (P.sa.take na)
theorem MH.good_first(P:MPh lt Dm a b)(hb:1≤b.size)(m:MR lt a.toList b.toList out.toList.reverse (a.toList.take na) (b.toList.take nb))(h:nb=1):p7 lt a.toList b.toList (W6 a b out na nb).toList:=by
 subst h
 obtain⟨y,_,hy,_⟩:=w8 (a:=b) (i:=0) hb
 have e1:b.toList.take 1=[y]:=by rw[a6c hy,List.take_zero];rfl
 show p7 _ _ _ (b.extract 0 1++a.extract 0 na++out.reverse).toList
 rw[Array.toList_append,Array.toList_append,R0,R0,Array.toList_reverse,e1]
 rw[e1]at m
 exact m.finF (P.sa.take na) fun x hx=>P.fb x (List.mem_of_mem_take hx) y hy
theorem Z0{l:List Keyed}{n:Nat}(h0:0<n)(h:l[n-1]? = some x):l.take n=l.take (n-1)++[x]:=by
 have:=a6c h
 rw[show n-1+1=n by omega]at this
 exact this
theorem a9h(P:MPh lt Dm a b)(ha:0<na)(hb:nb≤b.size)(h0:0<nb)(m:MR lt a.toList b.toList out.toList.reverse (a.toList.take na) (b.toList.take nb))(hx:a.toList[na-1]? = some x)(h:∀y,b.toList[nb-1]? = some y→lt x y=false):MR lt a.toList b.toList (out.push x).toList.reverse (a.toList.take (na-1)) (b.toList.take nb):=by
 rw[Z0 ha hx]at m
 rw[Array.toList_push,List.reverse_append]
 refine m.addA (by rw[← Z0 ha hx];exact P.sa.take _) fun z hz=>?_
 obtain⟨j,hj,e⟩:=y9 hz
 obtain⟨v0,_,ei,_⟩:=w8 (a:=b) (i:=nb-1) (by omega)
 exact P.T.tr _ _ _ (P.db z (List.mem_of_getElem? e)) (P.db _ (List.mem_of_getElem? ei)) (P.da x (List.mem_of_getElem? hx)) (v5 P.T P.db P.sb (by omega) e ei) (h _ ei)
theorem b3m(P:MPh lt Dm a b)(hb:0<nb)(ha:na≤a.size)(h0:0<na)(m:MR lt a.toList b.toList out.toList.reverse (a.toList.take na) (b.toList.take nb))(hy:b.toList[nb-1]? = some y)(h:∀x,a.toList[na-1]? = some x→lt y x=false):MR lt a.toList b.toList (out.push y).toList.reverse (a.toList.take na) (b.toList.take (nb-1)):=by
 rw[Z0 hb hy]at m
 rw[Array.toList_push,List.reverse_append]
 refine m.addB (by rw[← Z0 hb hy];exact P.sb.take _) fun z hz=>?_
 obtain⟨j,hj,e⟩:=y9 hz
 obtain⟨v0,_,ei,_⟩:=w8 (a:=a) (i:=na-1) (by omega)
 exact P.T.tr _ _ _ (P.da z (List.mem_of_getElem? e)) (P.da _ (List.mem_of_getElem? ei)) (P.db y (List.mem_of_getElem? hy)) (v5 P.T P.da P.sa (by omega) e ei) (h _ ei)
theorem U8{l:List Keyed}{i n:Nat}(h:i≤n):l.take n=l.take i++(l.drop i).take (n-i):=by
 have e1:=(List.take_append_drop i (l.take n)).symm
 rw[List.take_take,Nat.min_eq_left h,List.drop_take]at e1
 exact e1
theorem b4l(P:MPh lt Dm a b){i:Nat}(hi:i≤na)(m:MR lt a.toList b.toList out.toList.reverse (a.toList.take na) (b.toList.take nb))(hy:b.toList[nb-1]? = some y)(h0:0<nb)(h:∀j x,i≤j→j<na→a.toList[j]? = some x→lt x y=false):MR lt a.toList b.toList (out++(a.extract i na).reverse).toList.reverse (a.toList.take i) (b.toList.take nb):=by
 rw[U8 hi]at m
 rw[Array.toList_append,Array.toList_reverse,List.reverse_append,List.reverse_reverse,a14]
 refine MR.addAs m (by rw[← U8 hi];exact P.sa.take _) fun z hz v hv=>?_
 obtain⟨j,hj,e⟩:=a0C hz
 obtain⟨k,hk,e2⟩:=y9 hv
 exact P.T.tr _ _ _ (P.db v (List.mem_of_getElem? e2)) (P.db y (List.mem_of_getElem? hy)) (P.da z (List.mem_of_getElem? e)) (v5 P.T P.db P.sb (by omega) e2 hy) (h (i+j) z (by omega) (by omega) e)
theorem b4m(P:MPh lt Dm a b){i:Nat}(hi:i≤nb)(m:MR lt a.toList b.toList out.toList.reverse (a.toList.take na) (b.toList.take nb))(hx:a.toList[na-1]? = some x)(h0:0<na)(h:∀j y,i≤j→j<nb→b.toList[j]? = some y→lt y x=false):MR lt a.toList b.toList (out++(b.extract i nb).reverse).toList.reverse (a.toList.take na) (b.toList.take i):=by
 rw[U8 (l:=b.toList) hi]at m
 rw[Array.toList_append,Array.toList_reverse,List.reverse_append,List.reverse_reverse,a14]
 refine MR.addBs m (by rw[← U8 hi];exact P.sb.take _) fun z hz v hv=>?_
 obtain⟨j,hj,e⟩:=a0C hz
 obtain⟨k,hk,e2⟩:=y9 hv
 exact P.T.tr _ _ _ (P.da v (List.mem_of_getElem? e2)) (P.da x (List.mem_of_getElem? hx)) (P.db z (List.mem_of_getElem? e)) (v5 P.T P.da P.sa (by omega) e2 hx) (h (i+j) z (by omega) (by omega) e)
end
abbrev GH:=Option (Array Keyed)×Nat×Nat×Array Keyed×Nat×Nat×Nat
abbrev hiC(a b out:Array Keyed)(na nb mg ac bc:Nat):StateT SortSt Sem (ForInStep GH):=do
 let x ← elem' a (na-1)
 if(na-1 == 0)=true then pure (.done (some (E4 a b (out.push x) (na-1) nb),na-1,nb,out.push x,mg,ac,bc))
 else if(decide (ac<7) && decide (bc<7))=true then pure (.done (none,na-1,nb,out.push x,mg,ac,bc))
 else pure (.yield (none,na-1,nb,out.push x,mg,ac,bc))
abbrev hiB(a b out:Array Keyed)(na nb mg ac bc:Nat):StateT SortSt Sem (ForInStep GH):=do
 let y ← elem' b (nb-1)
 if(nb-1 == 1)=true then pure (.done (some (W6 a b (out.push y) na (nb-1)),na,nb-1,out.push y,mg,ac,bc))
 else do
  let x ← elem' a (na-1)
  let r ← C1 true x b 0 (nb-1) (nb-1-1)
  match r with
  | some i =>
   if nb-1-i > 0 then
    (if(i == 1)=true then pure (.done (some (W6 a b (out.push y++(b.extract i (nb-1)).reverse) na i),na,i,out.push y++(b.extract i (nb-1)).reverse,mg,ac,nb-1-i))
    else if(i == 0)=true then pure (.done (some (E4 a b (out.push y++(b.extract i (nb-1)).reverse) na i),na,i,out.push y++(b.extract i (nb-1)).reverse,mg,ac,nb-1-i))
    else hiC a b (out.push y++(b.extract i (nb-1)).reverse) na i mg ac (nb-1-i))
   else hiC a b (out.push y) na (nb-1) mg ac (nb-1-i)
  | _=>pure (.done (some (E4 a b (out.push y) na (nb-1)),na,nb-1,out.push y,mg,ac,bc))
abbrev hiA(a b out:Array Keyed)(na nb mg ac bc:Nat):StateT SortSt Sem (ForInStep GH):=do
 let y ← elem' b (nb-1)
 let r ← C1 false y a 0 na (na-1)
 match r with
 | some i =>
  if na-i > 0 then
   (if(i == 0)=true then pure (.done (some (E4 a b (out++(a.extract i na).reverse) i nb),i,nb,out++(a.extract i na).reverse,mg,na-i,bc))
   else hiB a b (out++(a.extract i na).reverse) i nb mg (na-i) bc)
  else hiB a b out na nb mg (na-i) bc
 | _=>pure (.done (some (E4 a b out na nb),na,nb,out,mg,ac,bc))
section
variable {prog:Program}{w:World}{A:Around}{E:Value→Shared→Prop}{s:Shared}{κ:SortKind}{lt:Keyed→Keyed→Bool}{Dm:Keyed→Prop}{a b out:Array Keyed}{na nb mg ac bc p0:Nat}{st0 st:SortSt}
def PHi(lt:Keyed→Keyed→Bool)(a b:Array Keyed)(p0:Nat)(st0:SortSt):ForInStep GH→SortSt→Prop
 | .done c,st'=>SameG st0 st'∧((∃r,c.1=some r∧p7 lt a.toList b.toList r.toList)∨(c.1=none∧MH lt a b c.2.2.2.1 c.2.1 c.2.2.1∧c.2.1+c.2.2.1≤p0))
 | .yield c,st'=>SameG st0 st'∧c.1=none∧MH lt a b c.2.2.2.1 c.2.1 c.2.2.1∧c.2.1+c.2.2.1≤p0
theorem b3q(P:MPh lt Dm a b)(hg:SameG st0 st)(m:MH lt a b out na nb)(hp:na+nb≤p0)(hle:∀x y,a.toList[na-1]? = some x→b.toList[nb-1]? = some y→lt x y=false):wpS (model prog w) A E s (hiC a b out na nb mg ac bc) (PHi lt a b p0 st0) st:=by
 have la:=m.la
 have lb:=m.lb
 obtain⟨x,hx,hxl,_⟩:=w8 (a:=a) (i:=na-1) (by omega)
 have mr:=a9h P la.1 lb.2 (by omega) m.mr hxl (fun y hy=>hle x y hxl hy)
 refine wpS_bind (r8 hx ?_)
 by_cases z:(na-1 == 0)=true
 ·rw[if_pos z]
  exact wpS_pure ⟨hg,.inl ⟨_,rfl,MH.good_doneA P mr (by simpa using z)⟩⟩
 ·rw[if_neg z]
  have z':na-1≠0:=by simpa using z
  have m':MH lt a b (out.push x) (na-1) nb:=⟨⟨by omega,by omega⟩,lb,mr⟩
  split
  ·exact wpS_pure ⟨hg,.inr ⟨rfl,m',by show na-1+nb≤p0;omega⟩⟩
  ·exact wpS_pure ⟨hg,rfl,m',by show na-1+nb≤p0;omega⟩
theorem b3r(C:A6 prog w A s κ lt Dm)(P:MPh lt Dm a b)(hk:kindOf st=κ)(hg:SameG st0 st)(m:MH lt a b out na nb)(hp:na+nb≤p0)(hle:∀x y,a.toList[na-1]? = some x→b.toList[nb-1]? = some y→lt y x=false):wpS (model prog w) A E s (hiB a b out na nb mg ac bc) (PHi lt a b p0 st0) st:=by
 have la:=m.la
 have lb:=m.lb
 obtain⟨y,hy,hyl,_⟩:=w8 (a:=b) (i:=nb-1) (by omega)
 obtain⟨x,hx,hxl,mx⟩:=w8 (a:=a) (i:=na-1) (by omega)
 have mr:=b3m P (by omega) la.2 la.1 m.mr hyl (fun x hx=>hle x y hx hyl)
 have dx:=P.da x mx
 refine wpS_bind (r8 hy ?_)
 by_cases z:(nb-1 == 1)=true
 ·rw[if_pos z]
  exact wpS_pure ⟨hg,.inl ⟨_,rfl,MH.good_first P (by omega) mr (by simpa using z)⟩⟩
 ·rw[if_neg z]
  have z':nb-1≠1:=by simpa using z
  refine wpS_bind (r8 hx (wpS_bind ?_))
  have at_:∀i,i<nb-1→∃v,b[0+i]? = some v∧b.toList[i]? = some v∧v∈b.toList:=fun i hi=>by
   rw[Nat.zero_add];exact w8 (by omega)
  refine K9 C hk dx (by omega) (fun i=>lt ((b.toList[i]?).getD x) x) (fun i hi=>?_) (fun i j hij hj hb=>?_) fun k hk1 hk2 hk3=>?_
  ·obtain⟨v,h1,h2,h3⟩:=at_ i hi
   exact⟨v,h1,P.db v h3,by rw[h2];rfl⟩
  ·obtain⟨v,h1,h2,h3⟩:=at_ i (by omega)
   obtain⟨u,u1,u2,u3⟩:=at_ j hj
   rw[u2]at hb
   rw[h2]
   show lt v x=true
   cases q:lt v x with
   | true=>rfl
   | false =>
    have:=P.T.tr x v u dx (P.db v h3) (P.db u u3) q (v5 P.T P.db P.sb (by omega) h2 u2)
    have hb:lt u x=true:=hb
    rw[this]at hb;cases hb
  ·dsimp only
   have low:∀j v,j<k→b.toList[j]? = some v→lt x v=false:=fun j v hj hv=>by
    have:=hk2 j hj
    rw[hv]at this
    exact P.T.asy _ _ (P.db v (List.mem_of_getElem? hv)) dx this
   have high:∀j v,k≤j→j<nb-1→b.toList[j]? = some v→lt v x=false:=fun j v h1 h2 hv=>by
    have:=hk3 j h1 h2
    rw[hv]at this
    exact this
   by_cases k0:nb-1-k > 0
   ·rw[if_pos k0]
    have mr2:=b4m P hk1 mr hxl la.1 high
    by_cases y1:(k == 1)=true
    ·rw[if_pos y1]
     exact wpS_pure ⟨hg,.inl ⟨_,rfl,MH.good_first P (by omega) mr2 (by simpa using y1)⟩⟩
    ·rw[if_neg y1]
     have y1':k≠1:=by simpa using y1
     by_cases y2:(k == 0)=true
     ·rw[if_pos y2]
      exact wpS_pure ⟨hg,.inl ⟨_,rfl,MH.good_doneB P mr2 (by simpa using y2)⟩⟩
     ·rw[if_neg y2]
      have y2':k≠0:=by simpa using y2
      exact b3q P hg ⟨la,⟨by omega,by omega⟩,mr2⟩ (by omega) fun x' y' e1 e2=>by
       rw[hxl]at e1;cases e1
       exact low _ y' (by omega) e2
   ·rw[if_neg k0]
    have e0:k=nb-1:=by omega
    subst e0
    exact b3q P hg ⟨la,⟨by omega,by omega⟩,mr⟩ (by omega) fun x' y' e1 e2=>by
     rw[hxl]at e1;cases e1
     exact low _ y' (by omega) e2
theorem b3s(C:A6 prog w A s κ lt Dm)(P:MPh lt Dm a b)(hk:kindOf st=κ)(hg:SameG st0 st)(m:MH lt a b out na nb)(hp:na+nb≤p0):wpS (model prog w) A E s (hiA a b out na nb mg ac bc) (PHi lt a b p0 st0) st:=by
 have la:=m.la
 have lb:=m.lb
 obtain⟨y,hy,hyl,my⟩:=w8 (a:=b) (i:=nb-1) (by omega)
 have dy:=P.db y my
 refine wpS_bind (r8 hy (wpS_bind ?_))
 have at_:∀i,i<na→∃v,a[0+i]? = some v∧a.toList[i]? = some v∧v∈a.toList:=fun i hi=>by
  rw[Nat.zero_add];exact w8 (by omega)
 refine K9 C hk dy (by omega) (fun i=>!lt y ((a.toList[i]?).getD y)) (fun i hi=>?_) (fun i j hij hj hb=>?_) fun k hk1 hk2 hk3=>?_
 ·obtain⟨v,h1,h2,h3⟩:=at_ i hi
  exact⟨v,h1,P.da v h3,by rw[h2];rfl⟩
 ·obtain⟨v,h1,h2,h3⟩:=at_ i (by omega)
  obtain⟨u,u1,u2,u3⟩:=at_ j hj
  rw[u2]at hb
  rw[h2]
  have hb:(!lt y u)=true:=hb
  have hb':lt y u=false:=by simpa using hb
  show(!lt y v)=true
  rw[P.T.tr v u y (P.da v h3) (P.da u u3) dy (v5 P.T P.da P.sa (by omega) h2 u2) hb']
  rfl
 ·dsimp only
  have low:∀j v,j<k→a.toList[j]? = some v→lt y v=false:=fun j v hj hv=>by
   have:=hk2 j hj
   rw[hv]at this
   have this:(!lt y v)=true:=this
   simpa using this
  have high:∀j v,k≤j→j<na→a.toList[j]? = some v→lt v y=false:=fun j v h1 h2 hv=>by
   have:=hk3 j h1 h2
   rw[hv]at this
   have this:(!lt y v)=false:=this
   exact P.T.asy _ _ dy (P.da v (List.mem_of_getElem? hv)) (by simpa using this)
  by_cases k0:na-k > 0
  ·rw[if_pos k0]
   have mr2:=b4l P hk1 m.mr hyl (by omega) high
   by_cases y2:(k == 0)=true
   ·rw[if_pos y2]
    exact wpS_pure ⟨hg,.inl ⟨_,rfl,MH.good_doneA P mr2 (by simpa using y2)⟩⟩
   ·rw[if_neg y2]
    have y2':k≠0:=by simpa using y2
    exact b3r C P hk hg ⟨⟨by omega,by omega⟩,lb,mr2⟩ (by omega) fun x' y' e1 e2=>by
     rw[hyl]at e2;cases e2
     exact low _ x' (by omega) e1
  ·rw[if_neg k0]
   have e0:k=na:=by omega
   subst e0
   exact b3r C P hk hg m (by omega) fun x' y' e1 e2=>by
    rw[hyl]at e2;cases e2
    exact low _ x' (by omega) e1
abbrev S2:=Option (Array Keyed)×Nat×Nat×Array Keyed×Nat×Nat
theorem a5N{Q:Array Keyed→SortSt→Prop}(C:A6 prog w A s κ lt Dm)(P:MPh lt Dm a b)(hk:kindOf st=κ)(ha:1≤a.size)(hb:1≤b.size)(h0:∀x y,a.toList[a.size-1]? = some x→b.toList[b.size-1]? = some y→lt x y=false)
  (h:∀r st',SameG st st'→p7 lt a.toList b.toList r.toList→Q r st'):wpS (model prog w) A E s (a13 a b) Q st:=by
 rw[a5M]
 refine wpS_bind (wpS_lift (wpAny_rule ⟨rfl,?_⟩))
 obtain⟨x,hx,hxl,mx⟩:=w8 (a:=a) (i:=a.size-1) (by omega)
 refine wpS_bind (r8 hx ?_)
 dsimp only
 have m0:MR lt a.toList b.toList (#[]:Array Keyed).toList.reverse (a.toList.take a.size) (b.toList.take b.size):=⟨⟨[],[],by rw[List.take_of_length_le (by rw[Array.length_toList];exact Nat.le_refl _),List.append_nil],by rw[List.take_of_length_le (by rw[Array.length_toList];exact Nat.le_refl _),List.append_nil],.refl _⟩,.nil,fun x hx=>absurd hx List.not_mem_nil,fun x hx=>absurd hx List.not_mem_nil⟩
 have m1:MR lt a.toList b.toList (#[x]:Array Keyed).toList.reverse (a.toList.take (a.size-1)) (b.toList.take b.size):=a9h (out := #[]) P (by omega) (Nat.le_refl _) (by omega) m0 hxl fun y hy=>h0 x y hxl hy
 by_cases z:(a.size-1 == 0)=true
 ·rw[if_pos z]
  exact wpS_pure (h _ _ (.refl _) (MH.good_doneA P m1 (by simpa using z)))
 rw[if_neg z]
 have z':a.size-1≠0:=by simpa using z
 by_cases z2:(b.size == 1)=true
 ·rw[if_pos z2]
  exact wpS_pure (h _ _ (.refl _) (MH.good_first P (by omega) m1 (by simpa using z2)))
 rw[if_neg z2]
 have z2':b.size≠1:=by simpa using z2
 refine wpS_bind (wpS_get ?_)
 refine wpS_bind (U0 (fun(i:Nat) (c:Option (Array Keyed)×Nat×Nat×Array Keyed×Nat) st'=>c.1=none∧SameG st st'∧MH lt a b c.2.2.2.1 c.2.1 c.2.2.1∧c.2.1+c.2.2.1+i+1≤a.size+b.size)
  (fun(c:Option (Array Keyed)×Nat×Nat×Array Keyed×Nat) st'=>∃r,c.1=some r∧SameG st st'∧p7 lt a.toList b.toList r.toList) ?_ ?_ ⟨rfl,.refl _,⟨⟨by show 0<a.size-1;omega,by show a.size-1≤a.size;omega⟩,⟨by show 1<b.size;omega,Nat.le_refl _⟩,m1⟩,by show a.size-1+b.size+0+1≤a.size+b.size;omega⟩ ?_)
 ·rintro i ⟨c0,na,nb,out,mg⟩ st1 hi ⟨e0,hg,m,hp⟩
  dsimp only at *
  refine wpS_bind (U0 (fun(j:Nat) (c:S2) st'=>c.1=none∧SameG st st'∧MH lt a b c.2.2.2.1 c.2.1 c.2.2.1∧c.2.1+c.2.2.1+j≤na+nb)
   (fun(c:S2) st'=>SameG st st'∧((∃r,c.1=some r∧p7 lt a.toList b.toList r.toList)∨(c.1=none∧MH lt a b c.2.2.2.1 c.2.1 c.2.2.1∧c.2.1+c.2.2.1+1≤na+nb))) ?_ ?_ ⟨rfl,hg,m,Nat.le_refl _⟩ ?_)
  ·rintro j ⟨d0,ja,jb,out',ac,bc⟩ st2 hj ⟨f0,hg2,m2,hp2⟩
   dsimp only at *
   have hla:=m2.la
   have hlb:=m2.lb
   obtain⟨y2,hy2,hyl2,my2⟩:=w8 (a:=b) (i:=jb-1) (by omega)
   obtain⟨x2,hx2,hxl2,mx2⟩:=w8 (a:=a) (i:=ja-1) (by omega)
   refine wpS_bind (r8 hy2 (wpS_bind (r8 hx2 (wpS_bind (a1c C (hg2.1.trans hk) (P.db _ my2) (P.da _ mx2) ?_)))))
   dsimp only
   cases bw:lt y2 x2 with
   | true =>
    rw[if_pos rfl]
    have mr:=a9h P hla.1 hlb.2 (by omega) m2.mr hxl2 (fun y hy=>by rw[hyl2]at hy;cases hy;exact P.T.asy _ _ (P.db _ my2) (P.da _ mx2) bw)
    refine wpS_bind (r8 hx2 ?_)
    by_cases q:(ja-1 == 0)=true
    ·rw[if_pos q]
     exact wpS_pure ⟨hg2,.inl ⟨_,rfl,MH.good_doneA P mr (by simpa using q)⟩⟩
    ·rw[if_neg q]
     have q':ja-1≠0:=by simpa using q
     have m3:MH lt a b (out'.push x2) (ja-1) jb:=⟨⟨by omega,by omega⟩,hlb,mr⟩
     split
     ·exact wpS_pure ⟨hg2,.inr ⟨rfl,m3,by show ja-1+jb+1≤na+nb;omega⟩⟩
     ·exact wpS_pure ⟨rfl,hg2,m3,by show ja-1+jb+(j+1)≤na+nb;omega⟩
   | false =>
    rw[if_neg (by simp)]
    have mr:=b3m P (by omega) hla.2 hla.1 m2.mr hyl2 (fun x hx=>by rw[hxl2]at hx;cases hx;exact bw)
    refine wpS_bind (r8 hy2 ?_)
    by_cases q:(jb-1 == 1)=true
    ·rw[if_pos q]
     exact wpS_pure ⟨hg2,.inl ⟨_,rfl,MH.good_first P (by omega) mr (by simpa using q)⟩⟩
    ·rw[if_neg q]
     have q':jb-1≠1:=by simpa using q
     have m3:MH lt a b (out'.push y2) ja (jb-1):=⟨hla,⟨by omega,by omega⟩,mr⟩
     split
     ·exact wpS_pure ⟨hg2,.inr ⟨rfl,m3,by show ja+(jb-1)+1≤na+nb;omega⟩⟩
     ·exact wpS_pure ⟨rfl,hg2,m3,by show ja+(jb-1)+(j+1)≤na+nb;omega⟩
  ·rintro⟨d0,ja,jb,out',ac,bc⟩ st2 ⟨f0,hg2,m2,hp2⟩
   dsimp only at *
   exact⟨hg2,.inr ⟨f0,m2,by show ja+jb+1≤na+nb;omega⟩⟩
  ·rintro⟨d0,ja,jb,out',ac,bc⟩ st2 ⟨hg2,⟨r,f0,gr⟩ | ⟨f0,m2,hp2⟩⟩
   ·have f0:d0=some r:=f0
    subst f0
    exact wpS_pure ⟨r,rfl,hg2,gr⟩
   ·have f0:d0=none:=f0
    have hp2:ja+jb+1≤na+nb:=hp2
    subst f0
    refine wpS_bind (wpS_lift (wpAny_rule ⟨rfl,?_⟩))
    refine wpS_bind (U0 (fun(j:Nat) (c:GH) st'=>SameG st st'∧c.1=none∧MH lt a b c.2.2.2.1 c.2.1 c.2.2.1∧c.2.1+c.2.2.1≤ja+jb)
     (fun(c:GH) st'=>SameG st st'∧((∃r,c.1=some r∧p7 lt a.toList b.toList r.toList)∨(c.1=none∧MH lt a b c.2.2.2.1 c.2.1 c.2.2.1∧c.2.1+c.2.2.1≤ja+jb))) ?_ ?_ ⟨hg2,rfl,m2,Nat.le_refl _⟩ ?_)
    ·rintro j ⟨g0,ka,kb,out2,mg2,ac2,bc2⟩ st3 hj ⟨hg3,f0,m3,hp3⟩
     refine a4K (fun _=>?_) (fun _=>?_)
     ·refine wpS_bind (smg fun st4 g4=>?_)
      exact wpS_mono (b3s (mg:=mg2-1) (ac:=ac2) (bc:=bc2) C P ((hg3.trans g4).1.trans hk) (hg3.trans g4) m3 hp3) (fun r st' q=>by cases r<;>exact q)
     ·refine wpS_bind (smg fun st4 g4=>?_)
      exact wpS_mono (b3s (mg:=mg2) (ac:=ac2) (bc:=bc2) C P ((hg3.trans g4).1.trans hk) (hg3.trans g4) m3 hp3) (fun r st' q=>by cases r<;>exact q)
    ·rintro⟨g0,ka,kb,out2,mg2,ac2,bc2⟩ st3 ⟨hg3,f0,m3,hp3⟩
     exact⟨hg3,.inr ⟨f0,m3,hp3⟩⟩
    ·rintro⟨g0,ka,kb,out2,mg2,ac2,bc2⟩ st3 ⟨hg3,⟨r,f0,gr⟩ | ⟨f0,m3,hp3⟩⟩
     ·have f0:g0=some r:=f0
      subst f0
      exact wpS_pure ⟨r,rfl,hg3,gr⟩
     ·have f0:g0=none:=f0
      have hp3:ka+kb≤ja+jb:=hp3
      subst f0
      refine wpS_bind (smg fun st4 g4=>?_)
      exact wpS_pure ⟨rfl,hg3.trans g4,m3,by show ka+kb+(i+1)+1≤a.size+b.size;omega⟩
 ·rintro⟨c0,na,nb,out,mg⟩ st1 ⟨e0,hg,m,hp⟩
  exfalso
  have h1:=m.la
  have h2:=m.lb
  dsimp only at *
  omega
 ·rintro⟨c0,na,nb,out,mg⟩ st1 ⟨r,e0,hg,gr⟩
  dsimp only at *
  subst e0
  exact wpS_pure (h r st1 hg gr)
end
theorem a5O(i:Nat):mergeAt' i=(do
 let s ← get
 let (some (sa,na,power),some (sb,nb,_)):=((pendingOf s)[i]?,(pendingOf s)[i+1]?) | unsupported "internal:list.sort.pending"
 set (setPending s (((pendingOf s).setIfInBounds i (sa,na+nb,power)).eraseIdxIfInBounds (i+1)))
 let some k ← C1 false (← elem' (arrOf s) sb) (arrOf s) sa na 0 | return false
 let (sa,na):=(sa+k,na-k)
 if na == 0 then return true
 let some nb ← C1 true (← elem' (arrOf s) (sa+na-1)) (arrOf s) sb nb (nb-1) | return false
 if nb == 0 then return true
 let x:=(arrOf s).extract sa sb
 let y:=(arrOf s).extract sb (sb+nb)
 let merged ← if na≤nb then a12 x y else a13 x y
 modify fun s=>setArr s (merged.toList.zipIdx.foldl (fun a (p,j)=>a.setIfInBounds (sa+j) p) (arrOf s))
 return (failedOf (← get)).isNone):=rfl
theorem a4L(o:Nat):∀(m:List Keyed) (n:Nat) (arr:Array Keyed),o+n+m.length≤arr.size→((m.zipIdx n).foldl (fun a (q:Keyed×Nat)=>a.setIfInBounds (o+q.2) q.1) arr).toList=arr.toList.take (o+n)++m++arr.toList.drop (o+n+m.length)
 | [],n,arr,h=>by simp
 | p::m,n,arr,h=>by
  rw[List.length_cons]at h
  rw[List.zipIdx_cons,List.foldl_cons]
  have ih:=a4L o m (n+1) (arr.setIfInBounds (o+n) p) (by rw[Array.size_setIfInBounds];omega)
  rw[ih,Array.toList_setIfInBounds]
  have hl:o+n<arr.toList.length:=by rw[Array.length_toList];omega
  have e1:(arr.toList.set (o+n) p).take (o+(n+1))=arr.toList.take (o+n)++[p]:=by
   rw[show o+(n+1)=(o+n)+1 by omega]
   exact(List.take_add_one).trans (by rw[List.getElem?_set_self hl,List.take_set_of_le (Nat.le_refl _)];rfl)
  have e2:(arr.toList.set (o+n) p).drop (o+(n+1)+m.length)=arr.toList.drop (o+n+(m.length+1)):=by
   rw[List.drop_set_of_lt (by omega),show o+(n+1)+m.length=o+n+(m.length+1) by omega]
  rw[e1,e2,List.length_cons]
  simp
section
variable {prog:Program}{w:World}{A:Around}{E:Value→Shared→Prop}{s:Shared}{κ:SortKind}{lt:Keyed→Keyed→Bool}{Dm:Keyed→Prop}{st:SortSt}
theorem a4M{arr:Array Keyed}{p u q:List Keyed}{i j:Nat}(e:arr.toList=p++u++q)(hi:p.length=i)(hj:i+u.length=j):(arr.extract i j).toList=u:=by
 rw[a14,e,List.append_assoc,← hi,List.drop_left',← hj]
 ·rw[show i+u.length-p.length=u.length by omega,List.take_left']
  rfl
 ·rfl
theorem Srt.right{l m:List Keyed}(h:Srt lt (l++m)):Srt lt m:=(List.pairwise_append.mp h).2.1
theorem a76{arr:Array Keyed}{p u q:List Keyed}{i j:Nat}(e:arr.toList=p++u++q)(hi:p.length=i)(hj:j<u.length):arr[i+j]? = some u[j]:=by
 have h1:arr.toList[i+j]? = some u[j]:=by
  rw[e,List.append_assoc,List.getElem?_append_right (by omega),show i+j-p.length=j by omega,List.getElem?_append_left hj,List.getElem?_eq_getElem hj]
 rw[← Array.getElem?_toList]
 exact h1
theorem a5P{Q:Bool→SortSt→Prop}{i sa na sb nb pw pw':Nat}{pre U V post:List Keyed}(C:A6 prog w A s κ lt Dm)(T:TPK lt Dm)(hk:kindOf st=κ)(hf:failedOf st=none)
  (hp1:(pendingOf st)[i]? = some (sa,na,pw)) (hp2:(pendingOf st)[i+1]? = some (sb,nb,pw')) (e:(arrOf st).toList=pre++U++(V++post)) (l0:pre.length=sa) (l1:U.length=na) (l2:V.length=nb) (hsb:sa+na=sb) (ha:1≤na) (hb:1≤nb)
  (dU:∀x∈U,Dm x) (dV:∀x∈V,Dm x) (sU:Srt lt U) (sV:Srt lt V)
  (h:∀(arr':Array Keyed) (g:Nat) (W:List Keyed),W.Perm (U++V)→Srt lt W→arr'.toList=pre++W++post→Q true (SortSt.mk' κ arr' (((pendingOf st).setIfInBounds i (sa,na+nb,pw)).eraseIdxIfInBounds (i+1)) g none)) :
  wpS (model prog w) A E s (mergeAt' i) Q st:=by
 rw[a5O]
 refine wpS_bind (wpS_get ?_)
 rw[hp1,hp2]
 dsimp only
 refine wpS_bind (wpS_modify (f:=fun _=>setPending st (((pendingOf st).setIfInBounds i (sa,na+nb,pw)).eraseIdxIfInBounds (i+1))) ?_)
 have e':(arrOf st).toList=(pre++U)++V++post:=by rw[e];simp
 have lU:(pre++U).length=sb:=by rw[List.length_append];omega
 have aU:∀j (hj:j<U.length),(arrOf st)[sa+j]? = some U[j]:=fun j hj=>a76 e l0 hj
 have aV:∀j (hj:j<V.length),(arrOf st)[sb+j]? = some V[j]:=fun j hj=>a76 e' lU hj
 have hV0:0<V.length:=by omega
 have hUl:U.length-1<U.length:=by omega
 have dy:Dm V[0]:=dV _ (List.getElem_mem hV0)
 have dl:Dm U[U.length-1]:=dU _ (List.getElem_mem hUl)
 have done:∀st',SameG (setPending st (((pendingOf st).setIfInBounds i (sa,na+nb,pw)).eraseIdxIfInBounds (i+1))) st'→Srt lt (U++V)→Q true st':=fun st' g hs=>by
  have:=h (arrOf st) (gallopOf st') (U++V) (.refl _) hs (by rw[e];simp)
  obtain⟨g1,g2,g3,g4⟩:=g
  have e5:st'=SortSt.mk' κ (arrOf st) (((pendingOf st).setIfInBounds i (sa,na+nb,pw)).eraseIdxIfInBounds (i+1)) (gallopOf st') none:=by
   have a1:kindOf st'=κ:=g1.trans hk
   have a2:arrOf st'=arrOf st:=g2
   have a3:pendingOf st'=(((pendingOf st).setIfInBounds i (sa,na+nb,pw)).eraseIdxIfInBounds (i+1)):=g3
   have a4:failedOf st'=none:=g4.trans hf
   rw[← a1,← a2,← a3,← a4]
  rw[e5]
  exact this
 have x0:=aV 0 hV0
 rw[Nat.add_zero]at x0
 refine wpS_bind (r8 x0 (wpS_bind ?_))
 refine K9 C hk dy (by omega) (fun j=>!lt V[0] (U[j]?.getD V[0])) (fun j hj=>?_) (fun j k hjk hkn hb=>?_) fun k hk1 hk2 hk3=>?_
 ·have hj':j<U.length:=by omega
  exact⟨U[j],aU j hj',dU _ (List.getElem_mem hj'),by rw[List.getElem?_eq_getElem hj'];rfl⟩
 ·have hk':k<U.length:=by omega
  have hj':j<U.length:=by omega
  rw[List.getElem?_eq_getElem hk']at hb
  rw[List.getElem?_eq_getElem hj']
  have hb:(!lt V[0] U[k])=true:=hb
  have hb':lt V[0] U[k]=false:=by simpa using hb
  show(!lt V[0] U[j])=true
  rw[T.tr U[j] U[k] V[0] (dU _ (List.getElem_mem hj')) (dU _ (List.getElem_mem hk')) dy (v5 T dU sU hjk (List.getElem?_eq_getElem hj') (List.getElem?_eq_getElem hk')) hb']
  rfl
 dsimp only
 have low:∀j x,j<k→U[j]? = some x→lt V[0] x=false:=fun j x hj hx=>by
  have:=hk2 j hj
  rw[hx]at this
  have this:(!lt V[0] x)=true:=this
  simpa using this
 have high:∀j x,k≤j→U[j]? = some x→lt V[0] x=true:=fun j x hj hx=>by
  have hjl:=(List.getElem?_eq_some_iff.mp hx).1
  have:=hk3 j hj (by omega)
  rw[hx]at this
  have this:(!lt V[0] x)=false:=this
  simpa using this
 have v0:V[0]? = some V[0]:=List.getElem?_eq_getElem hV0
 by_cases z1:(na-k == 0)=true
 ·rw[if_pos z1]
  have z1':na-k=0:=by simpa using z1
  refine wpS_pure (done _ (.refl _) (sU.app sV fun x hx y hy=>?_))
  obtain⟨j,hj⟩:=List.mem_iff_getElem?.mp hx
  obtain⟨j2,hj2⟩:=List.mem_iff_getElem?.mp hy
  have hjl:=(List.getElem?_eq_some_iff.mp hj).1
  exact T.tr _ _ _ (dU x hx) dy (dV y hy) (low j x (by omega) hj) (v5 T dV sV (Nat.zero_le _) v0 hj2)
 rw[if_neg z1]
 have z1':na-k≠0:=by simpa using z1
 have ul:U[U.length-1]? = some U[U.length-1]:=List.getElem?_eq_getElem hUl
 have xl:=aU (U.length-1) hUl
 rw[show sa+(U.length-1)=sa+k+(na-k)-1 by omega]at xl
 refine wpS_bind (r8 xl (wpS_bind ?_))
 refine K9 C hk dl (by omega) (fun j=>lt (V[j]?.getD U[U.length-1]) U[U.length-1]) (fun j hj=>?_) (fun j k hjk hkn hb=>?_) fun n hn1 hn2 hn3=>?_
 ·have hj':j<V.length:=by omega
  exact⟨V[j],aV j hj',dV _ (List.getElem_mem hj'),by rw[List.getElem?_eq_getElem hj'];rfl⟩
 ·have hk':k<V.length:=by omega
  have hj':j<V.length:=by omega
  rw[List.getElem?_eq_getElem hk']at hb
  rw[List.getElem?_eq_getElem hj']
  have hb:lt V[k] U[U.length-1]=true:=hb
  show lt V[j] U[U.length-1]=true
  cases q:lt V[j] U[U.length-1]with
  | true=>rfl
  | false =>
   have:=T.tr _ V[j] V[k] dl (dV _ (List.getElem_mem hj')) (dV _ (List.getElem_mem hk')) q (v5 T dV sV hjk (List.getElem?_eq_getElem hj') (List.getElem?_eq_getElem hk'))
   rw[this]at hb;cases hb
 dsimp only
 have vlow:∀j y,j<n→V[j]? = some y→lt y U[U.length-1]=true:=fun j y hj hy=>by
  have:=hn2 j hj
  rw[hy]at this
  exact this
 have vhigh:∀j y,n≤j→V[j]? = some y→lt y U[U.length-1]=false:=fun j y hj hy=>by
  have hjl:=(List.getElem?_eq_some_iff.mp hy).1
  have:=hn3 j hj (by omega)
  rw[hy]at this
  exact this
 have ulast:∀x∈U,lt U[U.length-1] x=false:=fun x hx=>by
  obtain⟨j,hj⟩:=List.mem_iff_getElem?.mp hx
  have hjl:=(List.getElem?_eq_some_iff.mp hj).1
  exact v5 T dU sU (by omega) hj ul
 by_cases z2:(n == 0)=true
 ·rw[if_pos z2]
  have z2':n=0:=by simpa using z2
  refine wpS_pure (done _ (.refl _) (sU.app sV fun x hx y hy=>?_))
  obtain⟨j2,hj2⟩:=List.mem_iff_getElem?.mp hy
  exact T.tr _ _ _ (dU x hx) dl (dV y hy) (ulast x hx) (vhigh j2 y (by omega) hj2)
 rw[if_neg z2]
 have z2':n≠0:=by simpa using z2
 -- the parts
 have eU:U=U.take k++U.drop k:=(List.take_append_drop k U).symm
 have eV:V=V.take n++V.drop n:=(List.take_append_drop n V).symm
 have lk:(U.take k).length=k:=by rw[List.length_take];omega
 have ld:(U.drop k).length=na-k:=by rw[List.length_drop];omega
 have ln:(V.take n).length=n:=by rw[List.length_take];omega
 have exl:(arrOf st).toList=(pre++U.take k)++U.drop k++(V++post):=by
  rw[List.append_assoc pre (U.take k) (U.drop k),List.take_append_drop]
  exact e
 have eyl:(arrOf st).toList=(pre++U)++V.take n++(V.drop n++post):=by
  rw[List.append_assoc (pre++U) (V.take n),← List.append_assoc (V.take n),List.take_append_drop]
  exact e
 have ex:((arrOf st).extract (sa+k) sb).toList=U.drop k:=a4M exl (by rw[List.length_append,l0,lk]) (by rw[ld];omega)
 have ey:((arrOf st).extract sb (sb+n)).toList=V.take n:=a4M eyl lU (by rw[ln])
 have d2U:∀x∈U.drop k,Dm x:=fun x hx=>dU x (List.mem_of_mem_drop hx)
 have d2V:∀x∈V.take n,Dm x:=fun x hx=>dV x (List.mem_of_mem_take hx)
 have gtU:∀x∈U.drop k,lt V[0] x=true:=fun x hx=>by
  obtain⟨j,hj,e⟩:=B3 hx
  exact high j x hj e
 have ltV:∀y∈V.take n,lt y U[U.length-1]=true:=fun y hy=>by
  obtain⟨j,hj,e⟩:=y9 hy
  exact vlow j y hj e
 have xlast:(U.drop k)[(U.drop k).length-1]? = some U[U.length-1]:=by
  rw[List.getElem?_drop,ld,show k+(na-k-1)=U.length-1 by omega];exact ul
 have yfst:(V.take n)[0]? = some V[0]:=by rw[List.getElem?_take_of_lt (by omega)];exact v0
 have sx:((arrOf st).extract (sa+k) sb).size=(U.drop k).length:=by rw[← Array.length_toList,ex]
 have sy:((arrOf st).extract sb (sb+n)).size=(V.take n).length:=by rw[← Array.length_toList,ey]
 have fin:∀(r:Array Keyed) (st':SortSt),SameG (setPending st (((pendingOf st).setIfInBounds i (sa,na+nb,pw)).eraseIdxIfInBounds (i+1))) st'→p7 lt ((arrOf st).extract (sa+k) sb).toList ((arrOf st).extract sb (sb+n)).toList r.toList →
   wpS (model prog w) A E s (do
    modify fun s=>setArr s (r.toList.zipIdx.foldl (fun a (p,j)=>a.setIfInBounds (sa+k+j) p) (arrOf s))
    let __do_lift ← get
    pure (failedOf __do_lift).isNone) Q st':=fun r st' g ⟨gp,gs⟩=>by
  rw[ex,ey]at gp
  obtain⟨g1,g2,g3,g4⟩:=g
  refine wpS_bind (wpS_modify ?_)
  refine wpS_bind (wpS_get (wpS_pure ?_))
  have hrl:r.toList.length=(na-k)+n:=by rw[gp.length_eq,List.length_append,ld,ln]
  have hsz:(arrOf st).size=sa+na+(nb+post.length):=by
   rw[← Array.length_toList,e];simp only[List.length_append];omega
  have fs:=a4L (sa+k) r.toList 0 (arrOf st) (by rw[hrl];omega)
  have e1:(arrOf st).toList.take (sa+k+0)=pre++U.take k:=by
   rw[Nat.add_zero,e,List.append_assoc,List.take_append,l0,show sa+k-sa=k by omega,List.take_of_length_le (by omega),List.take_append,show k-U.length=0 by omega,List.take_zero,List.append_nil]
  have e2:(arrOf st).toList.drop (sa+k+0+r.toList.length)=V.drop n++post:=by
   rw[hrl,show sa+k+0+(na-k+n)=sb+n by omega,e',List.append_assoc,List.drop_append,lU,show sb+n-sb=n by omega,List.drop_eq_nil_of_le (by omega),List.nil_append,List.drop_append,show n-V.length=0 by omega,List.drop_zero]
  rw[e1,e2]at fs
  have hW:=h ((r.toList.zipIdx.foldl (fun a (q:Keyed×Nat)=>a.setIfInBounds (sa+k+q.2) q.1) (arrOf st))) (gallopOf st') (U.take k++r.toList++V.drop n) ?_ ?_ ?_
  ·have e5:setArr st' (r.toList.zipIdx.foldl (fun a (q:Keyed×Nat)=>a.setIfInBounds (sa+k+q.2) q.1) (arrOf st'))=SortSt.mk' κ (r.toList.zipIdx.foldl (fun a (q:Keyed×Nat)=>a.setIfInBounds (sa+k+q.2) q.1) (arrOf st)) (((pendingOf st).setIfInBounds i (sa,na+nb,pw)).eraseIdxIfInBounds (i+1)) (gallopOf st') none:=by
    have a1:kindOf st'=κ:=g1.trans hk
    have a2:arrOf st'=arrOf st:=g2
    have a3:pendingOf st'=_:=g3
    have a4:failedOf st'=none:=g4.trans hf
    show SortSt.mk' (kindOf st') _ (pendingOf st') (gallopOf st') (failedOf st')=_
    rw[a1,a2,a3,a4]
   have e6:(failedOf (setArr st' (r.toList.zipIdx.foldl (fun a (q:Keyed×Nat)=>a.setIfInBounds (sa+k+q.2) q.1) (arrOf st')))).isNone=true:=by
    show(failedOf st').isNone=true
    rw[show failedOf st'=none from g4.trans hf];rfl
   show Q (failedOf (setArr st' (r.toList.zipIdx.foldl (fun a (q:Keyed×Nat)=>a.setIfInBounds (sa+k+q.2) q.1) (arrOf st')))).isNone (setArr st' (r.toList.zipIdx.foldl (fun a (q:Keyed×Nat)=>a.setIfInBounds (sa+k+q.2) q.1) (arrOf st')))
   rw[e6,e5]
   exact hW
  ·refine((gp.append_left (U.take k)).append_right (V.drop n)).trans ?_
   have e7:U.take k++(U.drop k++V.take n)++V.drop n=U++V:=by
    rw[← List.append_assoc (U.take k),List.take_append_drop,List.append_assoc,List.take_append_drop]
   rw[e7]
  ·have inR:∀x∈r.toList,x∈U.drop k∨x∈V.take n:=fun x hx=>List.mem_append.mp (gp.mem_iff.mp hx)
   refine Srt.app (Srt.app (sU.take k) gs fun x hx y hy=>?_) (sV.drop n) fun x hx y hy=>?_
   ·obtain⟨j,hj,ej⟩:=y9 hx
    have dx:=dU x (List.mem_of_mem_take hx)
    rcases inR y hy with q | q
    ·obtain⟨j2,hj2,ej2⟩:=B3 q
     exact v5 T dU sU (by omega) ej ej2
    ·obtain⟨j2,hj2,ej2⟩:=y9 q
     exact T.tr _ _ _ dx dy (d2V y q) (low j x hj ej) (v5 T dV sV (Nat.zero_le _) v0 ej2)
   ·obtain⟨j2,hj2,ej2⟩:=B3 hy
    have dY:=dV y (List.mem_of_mem_drop hy)
    rcases List.mem_append.mp hx with hx | hx
    ·have dx:=dU x (List.mem_of_mem_take hx)
     exact T.tr _ _ _ dx dl dY (ulast x (List.mem_of_mem_take hx)) (vhigh j2 y hj2 ej2)
    ·rcases inR x hx with q | q
     ·exact T.tr _ _ _ (d2U x q) dl dY (ulast x (List.mem_of_mem_drop q)) (vhigh j2 y hj2 ej2)
     ·obtain⟨j3,hj3,ej3⟩:=y9 q
      exact v5 T dV sV (by omega) ej3 ej2
  ·show(List.foldl _ (arrOf st) r.toList.zipIdx).toList=_
   refine Eq.trans fs ?_
   simp
 by_cases z3:na-k≤n
 ·rw[if_pos z3]
  refine wpS_bind (a5L C ⟨T,by rw[ex];exact d2U,by rw[ey];exact d2V,by rw[ex];exact sU.drop k,by rw[ey];exact sV.take n,fun y hy x hx=>?_⟩ hk (by rw[sx,ld];omega) (by rw[sy,ln];omega) (fun x y hx hy=>?_) fin)
  ·rw[ey]at hy
   rw[ex,sx,xlast]at hx
   cases hx
   exact T.asy _ _ (d2V y hy) dl (ltV y hy)
  ·rw[ex]at hx
   rw[ey,yfst]at hy
   cases hy
   exact T.asy _ _ dy (d2U x (List.mem_of_getElem? hx)) (gtU x (List.mem_of_getElem? hx))
 ·rw[if_neg z3]
  refine wpS_bind (a5N C ⟨T,by rw[ex];exact d2U,by rw[ey];exact d2V,by rw[ex];exact sU.drop k,by rw[ey];exact sV.take n,fun x hx y hy=>?_⟩ hk (by rw[sx,ld];omega) (by rw[sy,ln];omega) (fun x y hx hy=>?_) fin)
  ·rw[ex]at hx
   rw[ey,yfst]at hy
   cases hy
   exact T.asy _ _ dy (d2U x hx) (gtU x hx)
  ·rw[ex,sx,xlast]at hx
   cases hx
   rw[ey]at hy
   exact T.asy _ _ (d2V y (List.mem_of_getElem? hy)) dl (ltV y (List.mem_of_getElem? hy))
end
theorem a31(lo nrem:Nat):countRun' lo nrem=(do
 let mut n:=1
 for _ in [1:nrem]do
  let some smaller ← ltAt' (lo+n) (lo+n-1) | return none
  if smaller then break
  n:=n+1
 if n == nrem then return some n
 if n > 1 then
  let some rose ← ltAt' lo (lo+n-1) | return none
  if rose then return some n
  reverseSlice' lo (lo+n)
 rule "list.sort.descending-run"
 n:=n+1
 let mut neq:=0
 for _ in [n:nrem]do
  let some smaller ← ltAt' (lo+n) (lo+n-1) | return none
  if smaller then
   if neq > 0 then reverseSlice' (lo+n-(neq+1)) (lo+n)
   neq:=0
  else
   let some larger ← ltAt' (lo+n-1) (lo+n) | return none
   if larger then break
   neq:=neq+1
  n:=n+1
 if neq > 0 then reverseSlice' (lo+n-(neq+1)) (lo+n)
 reverseSlice' lo (lo+n)
 for _ in [n:nrem]do
  let some smaller ← ltAt' (lo+n) (lo+n-1) | return none
  if smaller then break
  n:=n+1
 return some n):=rfl
theorem a2y(lo n ok:Nat):binarySort' lo n ok=(do
 for k in [max ok 1:n]do
  let mut l:=0
  let mut r:=k
  for _ in [0:k]do
   if l≥r then break
   let m:=(l+r)/2
   let some less ← ltAt' (lo+k) (lo+m) | return false
   if less then r:=m else l:=m+1
  moveDown' (lo+k) (lo+l)
 return true):=rfl
def gk(p:Array Keyed)(k:Nat):Keyed:=p.getD k (Value.none,Value.none)
theorem a1C{p:Array Keyed}{k:Nat}(h:k<p.size):p[k]? = some (gk p k):=by unfold gk;simp[Array.getD,h]
theorem a2z(p:Array Keyed)(k:Nat):gk p k=(p[k]?).getD (Value.none,Value.none):=by unfold gk;simp[Array.getD_eq_getD_getElem?]
abbrev E5(p:Array Keyed)(i j:Nat):Array Keyed:=mirror p i j ((j-i)/2)
theorem a1d{p:Array Keyed}{i j:Nat}(hj:j≤p.size)(k:Nat):gk (E5 p i j) k=if i≤k∧k<j then gk p (i+j-1-k)else gk p k:=by
 rw[a2z,E5,getElem?_mirror_all hj]
 split<;>rw[a2z]
theorem a77{p:Array Keyed}{src d:Nat}(hs:src<p.size)(hd:d≤src)(k:Nat):gk (bubble p src d) k=if k=src-d then gk p src else if src-d<k∧k≤src then gk p (k-1)else gk p k:=by
 rw[a2z,getElem?_bubble hs d hd]
 split
 ·rw[a2z]
 ·split<;>rw[a2z]
structure Rst(a0:Array Keyed)(lo hi:Nat)(a:Array Keyed):Prop where
 pm:a.Perm a0
 out:∀x,(x<lo∨hi≤x)→gk a x=gk a0 x
theorem Rst.refl(a:Array Keyed)(lo hi:Nat):Rst a lo hi a:=⟨.refl _,fun _ _=>rfl⟩
theorem Rst.size{a0 a:Array Keyed}{lo hi:Nat}(h:Rst a0 lo hi a):a.size=a0.size:=h.pm.size_eq
theorem Rst.rev{a0 a:Array Keyed}{lo hi i j:Nat}(h:Rst a0 lo hi a)(hi':lo≤i)(hj:j≤hi)(hs:hi≤a0.size):Rst a0 lo hi (E5 a i j) :=
 ⟨(mirror_perm _ _ _ _).trans h.pm,fun x hx=>by rw[a1d (by rw[h.size];omega),if_neg (by omega)];exact h.out x hx⟩
theorem Rst.bub{a0 a:Array Keyed}{lo hi src d:Nat}(h:Rst a0 lo hi a)(h1:lo≤src-d)(hd:d≤src)(h2:src<hi)(hs:hi≤a0.size):Rst a0 lo hi (bubble a src d) :=
 ⟨(bubble_perm _ _ _).trans h.pm,fun x hx=>by rw[a77 (by rw[h.size];omega) hd,if_neg (by omega),if_neg (by omega)];exact h.out x hx⟩
structure StR(st0:SortSt)(lo hi:Nat)(st:SortSt):Prop where
 k:kindOf st=kindOf st0
 p:pendingOf st=pendingOf st0
 f:failedOf st=failedOf st0
 r:Rst (arrOf st0) lo hi (arrOf st)
def UpK(lt:Keyed→Keyed→Bool)(p:Array Keyed)(lo m:Nat):Prop:=∀i j,i≤j→j<m→lt (gk p (lo+j)) (gk p (lo+i))=false
def DnK(lt:Keyed→Keyed→Bool)(p:Array Keyed)(lo m:Nat):Prop:=∀i j,i≤j→j<m→lt (gk p (lo+i)) (gk p (lo+j))=false
abbrev b5a(lo:Nat):Nat→(Option (Option Nat)×Nat)→StateT SortSt Sem (ForInStep (Option (Option Nat)×Nat)):=fun x __s=>do
 let __x ← ltAt' (lo+__s.snd) (lo+__s.snd-1)
 match __x with
  | some smaller =>
   if smaller=true then pure (ForInStep.done (none,__s.snd))
   else pure (ForInStep.yield (none,__s.snd+1))
  | x=>pure (ForInStep.done (some none,__s.snd))
abbrev b5b(lo:Nat):Nat→(Option (Option Nat)×Nat×Nat)→StateT SortSt Sem (ForInStep (Option (Option Nat)×Nat×Nat)):=fun x __s=>do
 let __x ← ltAt' (lo+__s.snd.fst) (lo+__s.snd.fst-1)
 match __x with
  | some smaller =>
   if smaller=true then
    if __s.snd.snd > 0 then do
     reverseSlice' (lo+__s.snd.fst-(__s.snd.snd+1)) (lo+__s.snd.fst)
     pure (ForInStep.yield (none,__s.snd.fst+1,0))
    else pure (ForInStep.yield (none,__s.snd.fst+1,0))
   else do
    let __x ← ltAt' (lo+__s.snd.fst-1) (lo+__s.snd.fst)
    match __x with
     | some larger =>
      if larger=true then pure (ForInStep.done (none,__s.snd.fst,__s.snd.snd))
      else pure (ForInStep.yield (none,__s.snd.fst+1,__s.snd.snd+1))
     | x=>pure (ForInStep.done (some none,__s.snd.fst,__s.snd.snd))
  | x=>pure (ForInStep.done (some none,__s.snd.fst,__s.snd.snd))
section
variable {prog:Program}{w:World}{A:Around}{E:Value→Shared→Prop}{s:Shared}{κ:SortKind}{lt:Keyed→Keyed→Bool}{Dm:Keyed→Prop}{st0 st:SortSt}{lo n m:Nat}
theorem StR.dmk(R:StR st0 lo m st)(hD:∀x∈(arrOf st0).toList,Dm x){i:Nat}(hi:i<(arrOf st0).size):Dm (gk (arrOf st) i):=by
 refine hD _ (R.r.pm.mem_iff.mp ?_ |> Array.mem_toList_iff.mpr)
 have hs:i<(arrOf st).size:=by rw[R.r.size];exact hi
 have:=a1C hs
 rw[Array.getElem?_eq_getElem hs]at this
 rw[← Option.some.inj this]
 exact Array.getElem_mem hs
theorem a1e{i j:Nat}{Q:Option Bool→SortSt→Prop}(C:A6 prog w A s κ lt Dm)(hk:kindOf st=κ)(hi:i<(arrOf st).size)(hj:j<(arrOf st).size)(di:Dm (gk (arrOf st) i))(dj:Dm (gk (arrOf st) j))(h:Q (some (lt (gk (arrOf st) i) (gk (arrOf st) j))) st):wpS (model prog w) A E s (ltAt' i j) Q st:=by
 rw[ltAt'_eq]
 refine wpS_bind (wpS_get ?_)
 exact wpS_bind (r8 (a1C hi) (wpS_bind (r8 (a1C hj) (a1c C hk di dj h))))
theorem T2{i j:Nat}{Q:Unit→SortSt→Prop}(h:Q () (setArr st (E5 (arrOf st) i j))):wpS (model prog w) A E s (reverseSlice' i j) Q st:=by
 rw[reverseSlice'_eq]
 exact wpS_modify h
theorem StR.rev{hi i j:Nat}(R:StR st0 lo hi st)(h1:lo≤i)(h2:j≤hi)(hs:hi≤(arrOf st0).size):StR st0 lo hi (setArr st (E5 (arrOf st) i j)):=⟨R.k,R.p,R.f,R.r.rev h1 h2 hs⟩
theorem a1f{a:Nat}{Q:Option (Option Nat)×Nat→SortSt→Prop}(C:A6 prog w A s κ lt Dm)(T:TPK lt Dm)(hk:kindOf st0=κ)(hD:∀x∈(arrOf st0).toList,Dm x)(R:StR st0 lo (lo+n) st)(hs:lo+n≤(arrOf st0).size)(h1:1≤a)(h2:a≤n)(u:UpK lt (arrOf st) lo a)
  (h:∀m,a≤m→m≤n→UpK lt (arrOf st) lo m→(m<n→lt (gk (arrOf st) (lo+m)) (gk (arrOf st) (lo+m-1))=true)→Q (none,m) st):wpS (model prog w) A E s (forIn [a:n] (none,a) (b5a lo)) Q st:=by
 have dm:∀i,i<lo+n→Dm (gk (arrOf st) i):=fun i hi=>R.dmk hD (by omega)
 have sz:=R.r.size
 refine wpS_forRange (fun i (c:Option (Option Nat)×Nat) st'=>c.1=none∧c.2=i∧st'=st∧UpK lt (arrOf st) lo i) ?_ ?_ ⟨rfl,rfl,rfl,u⟩
 ·rintro i ⟨c0,c1⟩ st' hi1 hi2 ⟨e0,e1,rfl,u⟩
  dsimp only at e0 e1
  subst e0 e1
  refine wpS_bind (a1e C (R.k.trans hk) (by show lo+c1<_;omega) (by show lo+c1-1<_;omega) (dm _ (by show lo+c1<_;omega)) (dm _ (by show lo+c1-1<_;omega)) ?_)
  dsimp only
  cases c:lt (gk (arrOf st') (lo+c1)) (gk (arrOf st') (lo+c1-1))with
  | true =>
   rw[if_pos rfl]
   exact wpS_pure (h c1 hi1 (by omega) u fun _=>c)
  | false =>
   rw[if_neg (by simp)]
   refine wpS_pure ⟨rfl,rfl,rfl,fun i j hij hj=>?_⟩
   by_cases hjk:j<c1
   ·exact u i j hij hjk
   ·have e:j=c1:=by omega
    subst e
    by_cases hik:i=j
    ·subst hik;exact T.irr _ (dm _ (by omega))
    ·have:=u i (j-1) (by omega) (by omega)
     rw[show lo+(j-1)=lo+j-1 by omega]at this
     exact T.tr _ _ _ (dm _ (by omega)) (dm _ (by omega)) (dm _ (by omega)) this c
 ·rintro⟨c0,c1⟩ st' ⟨e0,e1,rfl,u⟩
  dsimp only at e0 e1
  have e2:max a n=n:=by omega
  rw[e2]at e1 u
  subst e0 e1
  exact h c1 h2 (Nat.le_refl _) u fun z=>absurd z (by omega)
theorem a0D(hs:lo+m≤(arrOf st).size)(d:DnK lt (arrOf st) lo m):UpK lt (arrOf (setArr st (E5 (arrOf st) lo (lo+m)))) lo m:=fun i j hij hj=>by
 have gr:=a1d (p:=arrOf st) (i:=lo) (j:=lo+m) hs
 show lt (gk (E5 (arrOf st) lo (lo+m)) (lo+j)) (gk (E5 (arrOf st) lo (lo+m)) (lo+i))=false
 rw[gr,gr,if_pos (by omega),if_pos (by omega),show lo+(lo+m)-1-(lo+j)=lo+(m-1-j) by omega,show lo+(lo+m)-1-(lo+i)=lo+(m-1-i) by omega]
 exact d _ _ (by omega) (by omega)
def Alk(lt:Keyed→Keyed→Bool)(p:Array Keyed)(lo k q:Nat):Prop:=∀i,k-(q+1)≤i→i<k→lt (gk p (lo+(k-1))) (gk p (lo+i))=false∧lt (gk p (lo+i)) (gk p (lo+(k-1)))=false
theorem a4N{hi k q:Nat}(T:TPK lt Dm)(hD:∀x∈(arrOf st0).toList,Dm x)(R:StR st0 lo hi st)(hs:hi≤(arrOf st0).size)(hk:lo+k≤hi)(hq:q+1≤k)(d:DnK lt (arrOf st) lo k)(al:Alk lt (arrOf st) lo k q) :
  DnK lt (E5 (arrOf st) (lo+k-(q+1)) (lo+k)) lo k∧∀i,i<k→lt (gk (E5 (arrOf st) (lo+k-(q+1)) (lo+k)) (lo+i)) (gk (arrOf st) (lo+(k-1)))=false:=by
 have sz:=R.r.size
 have dm:∀i,i<k→Dm (gk (arrOf st) (lo+i)):=fun i hi=>R.dmk hD (by omega)
 have gr:=a1d (p:=arrOf st) (i:=lo+k-(q+1)) (j:=lo+k) (by omega)
 have at_:∀i,i<k→∃j,j<k∧gk (E5 (arrOf st) (lo+k-(q+1)) (lo+k)) (lo+i)=gk (arrOf st) (lo+j)∧(j=i∨(k-(q+1)≤i∧k-(q+1)≤j)):=fun i hi=>by
  rw[gr]
  split
  ·exact⟨k-(q+1)+k-1-i,by omega,by congr 1;omega,.inr ⟨by omega,by omega⟩⟩
  ·exact⟨i,hi,rfl,.inl rfl⟩
 have eqv:∀i,i<k→lt (gk (E5 (arrOf st) (lo+k-(q+1)) (lo+k)) (lo+i)) (gk (arrOf st) (lo+i))=false∧lt (gk (arrOf st) (lo+i)) (gk (E5 (arrOf st) (lo+k-(q+1)) (lo+k)) (lo+i))=false:=fun i hi=>by
  obtain⟨j,hj,e,z⟩:=at_ i hi
  rw[e]
  rcases z with rfl | ⟨z1,z2⟩
  ·exact⟨T.irr _ (dm _ hi),T.irr _ (dm _ hi)⟩
  ·have a:=al i z1 hi
   have b:=al j z2 hj
   exact⟨T.tr _ _ _ (dm _ hi) (dm _ (by omega)) (dm _ hj) a.1 b.2,T.tr _ _ _ (dm _ hj) (dm _ (by omega)) (dm _ hi) b.1 a.2⟩
 have dr:∀i,i<k→Dm (gk (E5 (arrOf st) (lo+k-(q+1)) (lo+k)) (lo+i)):=fun i hi=>by
  obtain⟨j,hj,e,_⟩:=at_ i hi
  rw[e];exact dm j hj
 refine⟨fun i j hij hj=>?_,fun i hi=>?_⟩
 ·exact T.tr _ _ _ (dr j hj) (dm i (by omega)) (dr i (by omega)) (T.tr _ _ _ (dr j hj) (dm j hj) (dm i (by omega)) (eqv j hj).2 (d i j hij hj)) (eqv i (by omega)).1
 ·exact T.tr _ _ _ (dm _ (by omega)) (dm i hi) (dr i hi) (d i (k-1) (by omega) (by omega)) (eqv i hi).1
theorem a78{a:Nat}{Q:Option (Option Nat)×Nat×Nat→SortSt→Prop}(C:A6 prog w A s κ lt Dm)(T:TPK lt Dm)(hk:kindOf st0=κ)(hD:∀x∈(arrOf st0).toList,Dm x)(R:StR st0 lo (lo+n) st)(hs:lo+n≤(arrOf st0).size)(h1:1≤a)(h2:a≤n)(d:DnK lt (arrOf st) lo a)
  (h:∀k q st',a≤k→k≤n→q+1≤k→StR st0 lo (lo+n) st'→DnK lt (arrOf st') lo k→Alk lt (arrOf st') lo k q→Q (none,k,q) st'):wpS (model prog w) A E s (forIn [a:n] (none,a,0) (b5b lo)) Q st:=by
 refine wpS_forRange (fun i (c:Option (Option Nat)×Nat×Nat) st'=>c.1=none∧c.2.1=i∧c.2.2+1≤i∧StR st0 lo (lo+n) st'∧DnK lt (arrOf st') lo i∧Alk lt (arrOf st') lo i c.2.2) ?_ ?_ ⟨rfl,rfl,h1,R,d,fun i h1 h2=>?_⟩
 ·rintro i ⟨c0,k,q⟩ st1 hi1 hi2 ⟨e0,e1,hq,R1,d1,al⟩
  dsimp only at e0 e1 hq al
  subst e0 e1
  have sz:=R1.r.size
  have dm:∀i,i<lo+n→Dm (gk (arrOf st1) i):=fun i hi=>R1.dmk hD (by omega)
  refine wpS_bind (a1e C (R1.k.trans hk) (by show lo+k<_;omega) (by show lo+k-1<_;omega) (dm _ (by show lo+k<_;omega)) (dm _ (by show lo+k-1<_;omega)) ?_)
  dsimp only
  have ek:lo+k-1=lo+(k-1):=by omega
  rw[ek]
  have ext:∀p':Array Keyed,(∀i,i<k+1→Dm (gk p' (lo+i)))→DnK lt p' lo k→(∀i,i<k→lt (gk p' (lo+i)) (gk p' (lo+k))=false)→DnK lt p' lo (k+1):=fun p' dp d' c i j hij hj=>by
   by_cases hjk:j<k
   ·exact d' i j hij hjk
   ·have e:j=k:=by omega
    subst e
    by_cases hik:i=j
    ·subst hik;exact T.irr _ (dp _ (by omega))
    ·exact c i (by omega)
  have one:∀p':Array Keyed,(∀i,i<k+1→Dm (gk p' (lo+i)))→Alk lt p' lo (k+1) 0:=fun p' dp i h1 h2=>by
   have e:i=k+1-1:=by omega
   rw[e];exact⟨T.irr _ (dp _ (by omega)),T.irr _ (dp _ (by omega))⟩
  cases c:lt (gk (arrOf st1) (lo+k)) (gk (arrOf st1) (lo+(k-1)))with
  | true =>
   rw[if_pos rfl]
   have c':=T.asy _ _ (dm _ (by omega)) (dm _ (by omega)) c
   by_cases hq0:q > 0
   ·rw[if_pos hq0]
    obtain⟨dr,low⟩:=a4N T hD R1 hs (by omega) hq d1 al
    have R2:=R1.rev (i:=lo+k-(q+1)) (j:=lo+k) (by omega) (by omega) hs
    have gr:=a1d (p:=arrOf st1) (i:=lo+k-(q+1)) (j:=lo+k) (by omega)
    have gkk:gk (E5 (arrOf st1) (lo+k-(q+1)) (lo+k)) (lo+k)=gk (arrOf st1) (lo+k):=by rw[gr,if_neg (by omega)]
    have dp:∀i,i<k+1→Dm (gk (E5 (arrOf st1) (lo+k-(q+1)) (lo+k)) (lo+i)):=fun i hi=>R2.dmk hD (by omega)
    refine wpS_bind (T2 (wpS_pure ⟨rfl,rfl,by show 0+1≤k+1;omega,R2,?_,one _ dp⟩))
    exact ext _ dp dr fun i hi=>by
     rw[gkk]
     exact T.tr _ _ _ (dm _ (by omega)) (dm _ (by omega)) (dp i (by omega)) c' (low i hi)
   ·rw[if_neg hq0]
    have dp:∀i,i<k+1→Dm (gk (arrOf st1) (lo+i)):=fun i hi=>dm _ (by omega)
    exact wpS_pure ⟨rfl,rfl,by show 0+1≤k+1;omega,R1,ext _ dp d1 fun i hi=>T.tr _ _ _ (dm _ (by omega)) (dm _ (by omega)) (dm _ (by omega)) c' (d1 i (k-1) (by omega) (by omega)),one _ dp⟩
  | false =>
   rw[if_neg (by simp)]
   refine wpS_bind (a1e C (R1.k.trans hk) (by omega) (by omega) (dm _ (by omega)) (dm _ (by omega)) ?_)
   dsimp only
   cases e:lt (gk (arrOf st1) (lo+(k-1))) (gk (arrOf st1) (lo+k))with
   | true =>
    rw[if_pos rfl]
    exact wpS_pure (h k q st1 hi1 (by omega) hq R1 d1 al)
   | false =>
    rw[if_neg (by simp)]
    refine wpS_pure ⟨rfl,rfl,by show q+1+1≤k+1;omega,R1,ext _ (fun i hi=>dm _ (by omega)) d1 (fun i hi=>T.tr _ _ _ (dm _ (by omega)) (dm _ (by omega)) (dm _ (by omega)) e (d1 i (k-1) (by omega) (by omega))),fun i h1 h2=>?_⟩
    have h1:k+1-(q+1+1)≤i:=h1
    rw[Nat.add_sub_cancel]
    by_cases hik:i=k
    ·subst hik;exact⟨T.irr _ (dm _ (by omega)),T.irr _ (dm _ (by omega))⟩
    ·have a:=al i (by omega) (by omega)
     exact⟨T.tr _ _ _ (dm _ (by omega)) (dm _ (by omega)) (dm _ (by omega)) a.1 c,T.tr _ _ _ (dm _ (by omega)) (dm _ (by omega)) (dm _ (by omega)) e a.2⟩
 ·rintro⟨c0,k,q⟩ st1 ⟨e0,e1,hq,R1,d1,al⟩
  dsimp only at e0 e1 hq al
  have e2:max a n=n:=by omega
  rw[e2]at e1 hq d1 al
  subst e0 e1
  exact h k q st1 h2 (Nat.le_refl _) hq R1 d1 al
 ·have h1':a-(0+1)≤i:=h1
  have e:i=a-1:=by omega
  subst e
  exact⟨T.irr _ (R.dmk hD (by omega)),T.irr _ (R.dmk hD (by omega))⟩
theorem a79{Q:Option Nat→SortSt→Prop}(C:A6 prog w A s κ lt Dm)(T:TPK lt Dm)(hk:kindOf st=κ)(hD:∀x∈(arrOf st).toList,Dm x)(hs:lo+n≤(arrOf st).size)(hn:1≤n)
  (h:∀k st',1≤k→k≤n→StR st lo (lo+n) st'→UpK lt (arrOf st') lo k→Q (some k) st'):wpS (model prog w) A E s (countRun' lo n) Q st:=by
 have R:StR st lo (lo+n) st:=⟨rfl,rfl,rfl,.refl _ _ _⟩
 have dm:∀i,i<lo+n→Dm (gk (arrOf st) i):=fun i hi=>R.dmk hD (by omega)
 rw[a31]
 refine wpS_bind (a1f C T hk hD R hs (Nat.le_refl _) hn (fun i j hij hj=>?_) fun m m1 m2 u z=>?_)
 ·have e:i=j:=by omega
  rw[e];exact T.irr _ (dm _ (by omega))
 dsimp only
 by_cases y:(m == n)=true
 ·rw[if_pos y]
  exact wpS_pure (h m st m1 m2 R u)
 rw[if_neg y]
 have y':m≠n:=by simpa using y
 have zl:=z (by omega)
 rw[show lo+m-1=lo+(m-1) by omega]at zl
 by_cases m0:m > 1
 ·rw[if_pos m0]
  refine wpS_bind (a1e C hk (by omega) (by omega) (dm _ (by omega)) (dm _ (by omega)) ?_)
  dsimp only
  rw[show lo+m-1=lo+(m-1) by omega]
  cases c:lt (gk (arrOf st) lo) (gk (arrOf st) (lo+(m-1)))with
  | true =>
   rw[if_pos rfl]
   exact wpS_pure (h m st m1 m2 R u)
  | false =>
   rw[if_neg (by simp)]
   refine wpS_bind (T2 ?_)
   have R2:=R.rev (i:=lo) (j:=lo+m) (Nat.le_refl _) (by omega) hs
   have gr:=a1d (p:=arrOf st) (i:=lo) (j:=lo+m) (by omega)
   have c0:lt (gk (arrOf st) (lo+0)) (gk (arrOf st) (lo+(m-1)))=false:=c
   have all:∀a b,a<m→b<m→lt (gk (arrOf st) (lo+a)) (gk (arrOf st) (lo+b))=false:=fun a b ha hb =>
    T.tr _ _ _ (dm _ (by omega)) (dm _ (by omega)) (dm _ (by omega)) (u b (m-1) (by omega) (by omega)) (T.tr _ _ _ (dm _ (by omega)) (dm _ (by omega)) (dm _ (by omega)) c0 (u 0 a (by omega) ha))
   have dn:DnK lt (arrOf (setArr st (E5 (arrOf st) lo (lo+m)))) lo (m+1):=fun i j hij hj=>by
    show lt (gk (E5 (arrOf st) lo (lo+m)) (lo+i)) (gk (E5 (arrOf st) lo (lo+m)) (lo+j))=false
    rw[gr,gr]
    by_cases hjm:j<m
    ·rw[if_pos (by omega),if_pos (by omega),show lo+(lo+m)-1-(lo+i)=lo+(m-1-i) by omega,show lo+(lo+m)-1-(lo+j)=lo+(m-1-j) by omega]
     exact all _ _ (by omega) (by omega)
    ·have e:j=m:=by omega
     subst e
     rw[if_neg (show ¬(lo≤lo+j∧lo+j<lo+j) by omega)]
     by_cases hij':i=j
     ·subst hij';rw[if_neg (by omega)];exact T.irr _ (dm _ (by omega))
     ·rw[if_pos (by omega),show lo+(lo+j)-1-(lo+i)=lo+(j-1-i) by omega]
      exact T.tr _ _ _ (dm _ (by omega)) (dm _ (by omega)) (dm _ (by omega)) (T.asy _ _ (dm _ (by omega)) (dm _ (by omega)) zl) (all _ _ (by omega) (by omega))
   refine wpS_bind (wpS_lift (wpAny_rule ⟨rfl,?_⟩))
   refine wpS_bind (a78 C T hk hD R2 hs (by omega) (by omega) dn fun k q st1 k1 k2 hq R1 d1 al=>?_)
   have sz:=R1.r.size
   dsimp only
   by_cases q0:q > 0
   ·rw[if_pos q0]
    obtain⟨dr,_⟩:=a4N T hD R1 hs (by omega) hq d1 al
    have R3:=R1.rev (i:=lo+k-(q+1)) (j:=lo+k) (by omega) (by omega) hs
    have sz3:=R3.r.size
    have R4:=R3.rev (i:=lo) (j:=lo+k) (Nat.le_refl _) (by omega) hs
    refine wpS_bind (T2 (wpS_bind (T2 (wpS_bind (a1f C T hk hD R4 hs (by omega) k2 (a0D (by omega) dr) fun k4 a1 a2 u _=>wpS_pure (h k4 _ (by omega) a2 R4 u))))))
   ·rw[if_neg q0]
    have R4:=R1.rev (i:=lo) (j:=lo+k) (Nat.le_refl _) (by omega) hs
    refine wpS_bind (T2 (wpS_bind (a1f C T hk hD R4 hs (by omega) k2 (a0D (by omega) d1) fun k4 a1 a2 u _=>wpS_pure (h k4 _ (by omega) a2 R4 u))))
 ·rw[if_neg m0]
  have e:m=1:=by omega
  subst e
  have dn:DnK lt (arrOf st) lo (1+1):=fun i j hij hj=>by
   by_cases hij':i=j
   ·subst hij';exact T.irr _ (dm _ (by omega))
   ·have e1:i=0:=by omega
    have e2:j=1:=by omega
    subst e1 e2
    exact T.asy _ _ (dm _ (by omega)) (dm _ (by omega)) zl
  refine wpS_bind (wpS_lift (wpAny_rule ⟨rfl,?_⟩))
  refine wpS_bind (a78 C T hk hD R hs (by omega) (by omega) dn fun k q st1 k1 k2 hq R1 d1 al=>?_)
  have sz:=R1.r.size
  dsimp only
  by_cases q0:q > 0
  ·rw[if_pos q0]
   obtain⟨dr,_⟩:=a4N T hD R1 hs (by omega) hq d1 al
   have R3:=R1.rev (i:=lo+k-(q+1)) (j:=lo+k) (by omega) (by omega) hs
   have sz3:=R3.r.size
   have R4:=R3.rev (i:=lo) (j:=lo+k) (Nat.le_refl _) (by omega) hs
   refine wpS_bind (T2 (wpS_bind (T2 (wpS_bind (a1f C T hk hD R4 hs (by omega) k2 (a0D (by omega) dr) fun k4 a1 a2 u _=>wpS_pure (h k4 _ (by omega) a2 R4 u))))))
  ·rw[if_neg q0]
   have R4:=R1.rev (i:=lo) (j:=lo+k) (Nat.le_refl _) (by omega) hs
   refine wpS_bind (T2 (wpS_bind (a1f C T hk hD R4 hs (by omega) k2 (a0D (by omega) d1) fun k4 a1 a2 u _=>wpS_pure (h k4 _ (by omega) a2 R4 u))))
end
section
variable {prog:Program}{w:World}{A:Around}{E:Value→Shared→Prop}{s:Shared}{κ:SortKind}{lt:Keyed→Keyed→Bool}{Dm:Keyed→Prop}{st0 st:SortSt}{lo n ok hi:Nat}
theorem a9i{Q:Bool→SortSt→Prop}(C:A6 prog w A s κ lt Dm)(T:TPK lt Dm)(hk:kindOf st0=κ)(hD:∀x∈(arrOf st0).toList,Dm x)(R:StR st0 lo hi st)(hs:hi≤(arrOf st0).size)(hn:lo+n≤hi)(h1:1≤ok)(h2:ok≤n)(u:UpK lt (arrOf st) lo ok)
  (h:∀st',StR st0 lo hi st'→UpK lt (arrOf st') lo n→Q true st'):wpS (model prog w) A E s (binarySort' lo n ok) Q st:=by
 rw[a2y]
 rw[show max ok 1=ok by omega]
 refine wpS_bind (wpS_mono (wpS_forRange (fun k (c:Option Bool×Unit) st'=>c.1=none∧StR st0 lo hi st'∧UpK lt (arrOf st') lo k) (Q:=fun(c:Option Bool×Unit) st'=>c.1=none∧StR st0 lo hi st'∧UpK lt (arrOf st') lo n) ?_ ?_ ⟨rfl,R,u⟩) ?_)
 ·rintro k ⟨c0,c1⟩ st1 hk1 hk2 ⟨e0,R1,u1⟩
  have sz:=R1.r.size
  have dm:∀i,i<n→Dm (gk (arrOf st1) (lo+i)):=fun i hi=>R1.dmk hD (by omega)
  refine wpS_bind (U0 (fun(i:Nat) (c:Option Bool×Nat×Nat) st'=>c.1=none∧st'=st1∧c.2.1≤c.2.2∧c.2.2≤k∧(∀i,i<c.2.1→lt (gk (arrOf st1) (lo+k)) (gk (arrOf st1) (lo+i))=false)∧(∀i,c.2.2≤i→i<k→lt (gk (arrOf st1) (lo+i)) (gk (arrOf st1) (lo+k))=false)∧c.2.2-c.2.1≤k-i)
   (fun(c:Option Bool×Nat×Nat) st'=>c.1=none∧st'=st1∧c.2.1≤k∧(∀i,i<c.2.1→lt (gk (arrOf st1) (lo+k)) (gk (arrOf st1) (lo+i))=false)∧(∀i,c.2.1≤i→i<k→lt (gk (arrOf st1) (lo+i)) (gk (arrOf st1) (lo+k))=false)) ?_ ?_ ⟨rfl,rfl,Nat.zero_le _,Nat.le_refl _,fun i hi=>absurd hi (Nat.not_lt_zero _),fun i h1 h2=>by have h1:k≤i:=h1;omega,by show k-0≤k-0;omega⟩ ?_)
  ·rintro i ⟨d0,l,r⟩ st2 hi ⟨f0,rfl,a1,a2,a3,a4,a5⟩
   dsimp only at *
   by_cases z:l≥r
   ·rw[if_pos z]
    exact wpS_pure ⟨rfl,rfl,by show l≤k;omega,a3,fun i h1 h2=>a4 i (by have h1:l≤i:=h1;omega) h2⟩
   ·rw[if_neg z]
    refine wpS_bind (a1e C (R1.k.trans hk) (by omega) (by omega) (dm _ (by omega)) (dm _ (by omega)) ?_)
    dsimp only
    cases c:lt (gk (arrOf st2) (lo+k)) (gk (arrOf st2) (lo+(l+r)/2))with
    | true =>
     rw[if_pos rfl]
     refine wpS_pure ⟨rfl,rfl,by show l≤(l+r)/2;omega,by show(l+r)/2≤k;omega,a3,fun i h1 h2=>?_,by show(l+r)/2-l≤k-(i+1);omega⟩
     have h1:(l+r)/2≤i:=h1
     exact T.tr _ _ _ (dm _ (by omega)) (dm _ (by omega)) (dm _ (by omega)) (T.asy _ _ (dm _ (by omega)) (dm _ (by omega)) c) (u1 ((l+r)/2) i h1 h2)
    | false =>
     rw[if_neg (by simp)]
     refine wpS_pure ⟨rfl,rfl,by show(l+r)/2+1≤r;omega,a2,fun i h1=>?_,a4,by show r-((l+r)/2+1)≤k-(i+1);omega⟩
     have h1:i<(l+r)/2+1:=h1
     exact T.tr _ _ _ (dm _ (by omega)) (dm _ (by omega)) (dm _ (by omega)) (u1 i ((l+r)/2) (by omega) (by omega)) c
  ·rintro⟨d0,l,r⟩ st2 ⟨f0,rfl,a1,a2,a3,a4,a5⟩
   dsimp only at *
   exact⟨f0,rfl,by show l≤k;omega,a3,fun i h1 h2=>a4 i (by have h1:l≤i:=h1;omega) h2⟩
  ·rintro⟨d0,l,r⟩ st2 ⟨f0,rfl,a1,a3,a4⟩
   dsimp only at *
   subst f0
   dsimp only
   rw[moveDown'_eq]
   refine wpS_bind (wpS_modify (wpS_pure ?_))
   have R2:StR st0 lo hi (setArr st2 (bubble (arrOf st2) (lo+k) (lo+k-(lo+l)))):=⟨R1.k,R1.p,R1.f,R1.r.bub (by omega) (by omega) (by omega) hs⟩
   refine⟨rfl,R2,fun i j hij hj=>?_⟩
   have gb:=a77 (p:=arrOf st2) (src:=lo+k) (d:=lo+k-(lo+l)) (by omega) (by omega)
   show lt (gk (bubble (arrOf st2) (lo+k) (lo+k-(lo+l))) (lo+j)) (gk (bubble (arrOf st2) (lo+k) (lo+k-(lo+l))) (lo+i))=false
   rw[gb,gb,show lo+k-(lo+k-(lo+l))=lo+l by omega]
   by_cases e:i=j
   ·subst e
    split
    ·exact T.irr _ (dm _ (by omega))
    ·split
     ·rw[show lo+i-1=lo+(i-1) by omega];exact T.irr _ (dm _ (by omega))
     ·exact T.irr _ (dm _ (by omega))
   by_cases hjl:j=l
   ·rw[if_pos (by omega),if_neg (by omega),if_neg (by omega)];exact a3 i (by omega)
   ·rw[if_neg (show ¬lo+j=lo+l by omega)]
    by_cases hil:i=l
    ·rw[if_pos (by omega),if_pos (by omega),show lo+j-1=lo+(j-1) by omega];exact a4 (j-1) (by omega) (by omega)
    ·rw[if_neg (show ¬lo+i=lo+l by omega)]
     by_cases h1:l<j∧j≤k
     ·rw[if_pos (show lo+l<lo+j∧lo+j≤lo+k by omega),show lo+j-1=lo+(j-1) by omega]
      by_cases h2:l<i∧i≤k
      ·rw[if_pos (show lo+l<lo+i∧lo+i≤lo+k by omega),show lo+i-1=lo+(i-1) by omega];exact u1 _ _ (by omega) (by omega)
      ·rw[if_neg (show ¬(lo+l<lo+i∧lo+i≤lo+k) by omega)];exact u1 _ _ (by omega) (by omega)
     ·rw[if_neg (show ¬(lo+l<lo+j∧lo+j≤lo+k) by omega),if_neg (show ¬(lo+l<lo+i∧lo+i≤lo+k) by omega)];exact u1 _ _ hij (by omega)
 ·rintro⟨c0,c1⟩ st1 ⟨e0,R1,u1⟩
  have e2:max ok n=n:=by omega
  rw[e2]at u1
  exact⟨e0,R1,u1⟩
 ·rintro⟨c0,c1⟩ st1 ⟨e0,R1,u1⟩
  dsimp only at e0
  subst e0
  exact wpS_pure (h st1 R1 u1)
end
def PRun(lt:Keyed→Keyed→Bool):List (Nat×Nat×Nat)→List (List Keyed)→Nat→Prop
 | [],[],_=>True
 | p::ps,S::ss,o=>p.1=o∧p.2.1=S.length∧1≤S.length∧Srt lt S∧PRun lt ps ss (o+S.length)
 | _,_,_=>False
section
variable {lt:Keyed→Keyed→Bool}
theorem PRun.len:∀{pl:List (Nat×Nat×Nat)} {segs:List (List Keyed)} {o:Nat},PRun lt pl segs o→pl.length=segs.length∧pl.length≤segs.flatten.length
 | [],[],_,_=>⟨rfl,Nat.le_refl _⟩
 | p::ps,S::ss,o,h=>by
  obtain⟨_,_,h1,_,h2⟩:=h
  have:=PRun.len h2
  simp only[List.length_cons,List.flatten_cons,List.length_append]
  omega
 | [],_::_,_,h=>h.elim
 | _::_,[],_,h=>h.elim
theorem PRun.snoc:∀{pl:List (Nat×Nat×Nat)} {segs:List (List Keyed)} {o:Nat} {c:Nat×Nat×Nat} {S:List Keyed},PRun lt pl segs o→c.1=o+segs.flatten.length→c.2.1=S.length→1≤S.length→Srt lt S→PRun lt (pl++[c]) (segs++[S]) o
 | [],[],o,c,S,_,h1,h2,h3,h4=>⟨by simpa using h1,h2,h3,h4,trivial⟩
 | p::ps,U::ss,o,c,S,h,h1,h2,h3,h4=>by
  obtain⟨a1,a2,a3,a4,a5⟩:=h
  refine⟨a1,a2,a3,a4,PRun.snoc a5 ?_ h2 h3 h4⟩
  rw[h1];simp only[List.flatten_cons,List.length_append];omega
 | [],_::_,_,_,_,h,_,_,_,_=>h.elim
 | _::_,[],_,_,_,h,_,_,_,_=>h.elim
theorem PRun.pow:∀{pl ql:List (Nat×Nat×Nat)} {segs:List (List Keyed)} {o:Nat},PRun lt pl segs o→pl.map (fun p=>(p.1,p.2.1))=ql.map (fun p=>(p.1,p.2.1))→PRun lt ql segs o
 | [],[],[],_,_,_=>trivial
 | p::ps,q::qs,S::ss,o,h,e=>by
  obtain⟨a1,a2,a3,a4,a5⟩:=h
  simp only[List.map_cons]at e
  injection e with e1 e2
  injection e1 with e1 e3
  exact⟨e1▸a1,e3▸a2,a3,a4,PRun.pow a5 e2⟩
 | [],_::_,_,_,_,e=>by cases e
 | _::_,[],_,_,_,e=>by cases e
 | [],[],_::_,_,h,_=>h.elim
 | _::_,_::_,[],_,h,_=>h.elim
theorem PRun.split:∀{pl:List (Nat×Nat×Nat)} {segs:List (List Keyed)} {o i:Nat},PRun lt pl segs o→i+1<pl.length→∃p1 a b p2 s1 U V s2,pl=p1++a::b::p2∧p1.length=i∧segs=s1++U::V::s2∧a.1=o+s1.flatten.length∧a.2.1=U.length∧b.1=a.1+U.length∧b.2.1=V.length∧1≤U.length∧1≤V.length∧Srt lt U∧Srt lt V ∧
  ∀(W:List Keyed) (c:Nat×Nat×Nat),W.length=U.length+V.length→Srt lt W→c.1=a.1→c.2.1=W.length→PRun lt (p1++c::p2) (s1++W::s2) o
 | p::q::ps,S::S'::ss,o,0,h,_=>by
  obtain⟨a1,a2,a3,a4,b1,b2,b3,b4,b5⟩:=h
  refine⟨[],p,q,ps,[],S,S',ss,rfl,rfl,rfl,by simpa using a1,a2,by omega,b2,a3,b3,a4,b4,fun W c hW hs h1 h2=>⟨by rw[h1];exact a1,h2,by omega,hs,?_⟩⟩
  rw[hW,← Nat.add_assoc]
  exact b5
 | p::ps,S::ss,o,i+1,h,hi=>by
  obtain⟨a1,a2,a3,a4,a5⟩:=h
  obtain⟨p1,a,b,p2,s1,U,V,s2,e1,e2,e3,e4,e5,e6,e7,e8,e9,e10,e11,e12⟩:=PRun.split a5 (i:=i) (by rw[List.length_cons]at hi;omega)
  refine⟨p::p1,a,b,p2,S::s1,U,V,s2,by rw[e1];rfl,by rw[List.length_cons,e2],by rw[e3];rfl,by rw[e4];simp only[List.flatten_cons,List.length_append];omega,e5,e6,e7,e8,e9,e10,e11,fun W c hW hs h1 h2=>⟨a1,a2,a3,a4,e12 W c hW hs h1 h2⟩⟩
 | [p],[S],o,0,h,hi=>by simp at hi
 | [p],S::S'::ss,o,0,h,hi=>by simp at hi
 | p::q::ps,[S],o,0,h,_=>by obtain⟨_,_,_,_,h⟩:=h;exact h.elim
 | [],[],_,_,_,hi=>by simp at hi
 | [],_::_,_,_,h,_=>h.elim
 | _::_,[],_,_,h,_=>h.elim
end
structure SI(lt:Keyed→Keyed→Bool)(st0 st:SortSt)(lo:Nat)(k7:List Keyed):Prop where
 k:kindOf st=kindOf st0
 f:failedOf st=none
 pm:(arrOf st).Perm (arrOf st0)
 run:∃segs,(arrOf st).toList=segs.flatten++k7∧segs.flatten.length=lo∧PRun lt (pendingOf st).toList segs 0
section
variable {prog:Program}{w:World}{A:Around}{E:Value→Shared→Prop}{s:Shared}{κ:SortKind}{lt:Keyed→Keyed→Bool}{Dm:Keyed→Prop}{st0 st:SortSt}{lo:Nat}{k7:List Keyed}
theorem SI.psz(I:SI lt st0 st lo k7):(pendingOf st).size≤lo:=by
 obtain⟨segs,_,e2,pr⟩:=I.run
 have:=pr.len.2
 rw[Array.length_toList]at this
 omega
theorem b0u{i:Nat}{Q:Bool→SortSt→Prop}(C:A6 prog w A s κ lt Dm)(T:TPK lt Dm)(hk:kindOf st0=κ)(hD:∀x∈(arrOf st0).toList,Dm x)(I:SI lt st0 st lo k7)(hi:i+1<(pendingOf st).size)(h:∀st',SI lt st0 st' lo k7→(pendingOf st').size+1=(pendingOf st).size→Q true st'):wpS (model prog w) A E s (mergeAt' i) Q st:=by
 obtain⟨segs,e1,e2,pr⟩:=I.run
 obtain⟨p1,a,b,p2,s1,U,V,s2,f1,f2,f3,f4,f5,f6,f7,f8,f9,f10,f11,f12⟩:=pr.split (i:=i) (by rw[Array.length_toList];exact hi)
 obtain⟨sa,na,pw⟩:=a
 obtain⟨sb,nb,pw'⟩:=b
 dsimp only at f4 f5 f6 f7 f12
 have dmA:∀x∈(arrOf st).toList,Dm x:=fun x hx=>hD x (Array.mem_toList_iff.mpr (I.pm.mem_iff.mp (Array.mem_toList_iff.mp hx)))
 have g1:(pendingOf st)[i]? = some (sa,na,pw):=by
  rw[← Array.getElem?_toList,f1,List.getElem?_append_right (by omega),f2,Nat.sub_self];rfl
 have g2:(pendingOf st)[i+1]? = some (sb,nb,pw'):=by
  rw[← Array.getElem?_toList,f1,List.getElem?_append_right (by omega),f2,show i+1-i=1 by omega];rfl
 have e:(arrOf st).toList=s1.flatten++U++(V++(s2.flatten++k7)):=by
  rw[e1,f3];simp
 refine a5P (pre:=s1.flatten) (U:=U) (V:=V) (post:=s2.flatten++k7) C T (I.k.trans hk) I.f g1 g2 e (by omega) f5.symm f7.symm (by omega) (by omega) (by omega) (fun x hx=>dmA x (by rw[e];simp[hx])) (fun x hx=>dmA x (by rw[e];simp[hx])) f10 f11 fun arr' g W hW hs ea=>?_
 have lW:W.length=U.length+V.length:=by rw[hW.length_eq,List.length_append]
 have ep:(((pendingOf st).setIfInBounds i (sa,na+nb,pw)).eraseIdxIfInBounds (i+1)).toList=p1++(sa,na+nb,pw)::p2:=by
  rw[Array.toList_eraseIdxIfInBounds,Array.toList_setIfInBounds,f1,List.set_append_right _ _ (by omega),f2,Nat.sub_self,List.set_cons_zero,List.eraseIdx_append_of_length_le (by omega),f2,show i+1-i=1 by omega]
  rfl
 refine h _ ⟨I.k.symm▸(by rw[I.k];exact hk.symm),rfl,?_,s1++W::s2,?_,?_,?_⟩ ?_
 ·refine Array.Perm.trans ?_ I.pm
  refine Array.perm_iff_toList_perm.mpr ?_
  show arr'.toList.Perm _
  rw[ea,e]
  refine List.Perm.trans ?_ (List.Perm.of_eq (by simp:s1.flatten++(U++V)++(s2.flatten++k7)=_))
  exact(hW.append_left _).append_right _
 ·show arr'.toList=_
  rw[ea];simp
 ·rw[← e2,f3]
  simp only[List.flatten_append,List.flatten_cons,List.length_append,lW]
  omega
 ·show PRun lt (((pendingOf st).setIfInBounds i (sa,na+nb,pw)).eraseIdxIfInBounds (i+1)).toList _ 0
  rw[ep]
  exact f12 W _ lW hs rfl (by show na+nb=_;omega)
 ·show(((pendingOf st).setIfInBounds i (sa,na+nb,pw)).eraseIdxIfInBounds (i+1)).size+1=_
  rw[← Array.length_toList,ep,← Array.length_toList (xs:=pendingOf st),f1]
  simp
  omega
end
abbrev b5c(pw:Nat):Nat→(Option Unit×Unit)→StateT SortSt Sem (ForInStep (Option Unit×Unit)):=fun x __s_1=>do
 let __do_lift_3 ← get
 match if(pendingOf __do_lift_3).size > 1 then(pendingOf __do_lift_3)[(pendingOf __do_lift_3).size-2]? else none with
  | some (fst,fst_1,older) =>
   if older≤pw then pure (ForInStep.done (none,()))
   else do
    let __do_lift ← mergeAt' ((pendingOf __do_lift_3).size-2)
    if(!__do_lift)=true then pure (ForInStep.done (some (),()))else pure (ForInStep.yield (none,()))
  | x=>pure (ForInStep.done (none,()))
section
variable {prog:Program}{w:World}{A:Around}{E:Value→Shared→Prop}{s:Shared}{κ:SortKind}{lt:Keyed→Keyed→Bool}{Dm:Keyed→Prop}{st0 st:SortSt}{lo n:Nat}{k7:List Keyed}
theorem a7_{N pw:Nat}{Q:Option Unit×Unit→SortSt→Prop}(C:A6 prog w A s κ lt Dm)(T:TPK lt Dm)(hk:kindOf st0=κ)(hD:∀x∈(arrOf st0).toList,Dm x)(I:SI lt st0 st lo k7)(h0:1≤(pendingOf st).size)(h:∀st',SI lt st0 st' lo k7→1≤(pendingOf st').size→Q (none,()) st'):wpS (model prog w) A E s (forIn [:N] (none,()) (b5c pw)) Q st:=by
 refine U0 (fun i (c:Option Unit×Unit) st'=>c.1=none∧SI lt st0 st' lo k7∧1≤(pendingOf st').size) (fun(c:Option Unit×Unit) st'=>c.1=none∧SI lt st0 st' lo k7∧1≤(pendingOf st').size) ?_ (fun c st h=>h) ⟨rfl,I,h0⟩ ?_
 ·rintro i ⟨c0,c1⟩ st1 hi ⟨e0,I1,h1⟩
  refine wpS_bind (wpS_get ?_)
  by_cases z:(pendingOf st1).size > 1
  ·rw[if_pos z]
   have hz:(pendingOf st1).size-2<(pendingOf st1).size:=by omega
   rw[Array.getElem?_eq_getElem hz]
   obtain⟨q1,q2,q3⟩:=(pendingOf st1)[(pendingOf st1).size-2]
   dsimp only
   refine a4K (fun _=>wpS_pure ⟨rfl,I1,h1⟩) (fun _=>?_)
   refine wpS_bind (b0u C T hk hD I1 (by omega) fun st2 I2 h2=>?_)
   exact wpS_pure ⟨rfl,I2,by omega⟩
  ·rw[if_neg z]
   exact wpS_pure ⟨rfl,I1,h1⟩
 ·rintro⟨c0,c1⟩ st1 ⟨e0,I1,h1⟩
  dsimp only at e0
  subst e0
  exact h st1 I1 h1
theorem b0_{a b:Array Keyed}{m:Nat}(hs:a.size=b.size)(h:∀x,x<m→gk a x=gk b x):a.toList.take m=b.toList.take m:=by
 apply List.ext_getElem?
 intro i
 by_cases hi:i<m
 ·rw[List.getElem?_take_of_lt hi,List.getElem?_take_of_lt hi,Array.getElem?_toList,Array.getElem?_toList]
  by_cases hz:i<a.size
  ·rw[a1C hz,a1C (by omega),h i hi]
  ·rw[Array.getElem?_eq_none (by omega),Array.getElem?_eq_none (by omega)]
 ·rw[List.getElem?_eq_none (by rw[List.length_take];omega),List.getElem?_eq_none (by rw[List.length_take];omega)]
theorem SI.add(I:SI lt st0 st lo k7){st1:SortSt}(R:StR st lo (arrOf st).size st1)(hn:1≤n)(hl:lo+n≤(arrOf st).size)(u:UpK lt (arrOf st1) lo n):∃S rest',SI lt st0 st1 lo (S++rest')∧S.length=n∧Srt lt S:=by
 obtain⟨segs,e1,e2,pr⟩:=I.run
 have sz:=R.r.size
 have et:(arrOf st1).toList.take lo=segs.flatten:=by
  rw[b0_ sz (fun x hx=>R.r.out x (.inl hx)),e1,← e2,List.take_left]
 have e3:(arrOf st1).toList=segs.flatten++(arrOf st1).toList.drop lo:=by rw[← et,List.take_append_drop]
 refine⟨((arrOf st1).toList.drop lo).take n,((arrOf st1).toList.drop lo).drop n,⟨R.k.trans I.k,R.f.trans I.f,R.r.pm.trans I.pm,segs,by rw[List.take_append_drop];exact e3,e2,by rw[R.p];exact pr⟩,by rw[List.length_take,List.length_drop,Array.length_toList];omega,?_⟩
 refine List.pairwise_iff_getElem.mpr fun i j hi hj hij=>?_
 have hi':=hi
 have hj':=hj
 rw[List.length_take,List.length_drop,Array.length_toList]at hi' hj'
 have at_:∀k,k<n→∀(h:k<(((arrOf st1).toList.drop lo).take n).length),(((arrOf st1).toList.drop lo).take n)[k]=gk (arrOf st1) (lo+k):=fun k hk h=>by
  have e4:(((arrOf st1).toList.drop lo).take n)[k]? = some (gk (arrOf st1) (lo+k)):=by
   rw[List.getElem?_take_of_lt hk,List.getElem?_drop,Array.getElem?_toList,a1C (by omega)]
  rw[List.getElem?_eq_getElem h]at e4
  exact Option.some.inj e4
 rw[at_ i (by omega) hi,at_ j (by omega) hj]
 exact u i j (by omega) (by omega)
theorem SI.push{S:List Keyed}{pw:Nat}(I:SI lt st0 st lo (S++k7))(hn:S.length=n)(h1:1≤n)(hs:Srt lt S):SI lt st0 (setPending st ((pendingOf st).push (lo,n,pw))) (lo+n) k7:=by
 obtain⟨segs,e1,e2,pr⟩:=I.run
 refine⟨I.k,I.f,I.pm,segs++[S],by show(arrOf st).toList=_;rw[e1];simp,by simp only[List.flatten_append,List.flatten_cons,List.flatten_nil,List.length_append,List.length_nil];omega,?_⟩
 show PRun lt ((pendingOf st).push (lo,n,pw)).toList _ 0
 rw[Array.toList_push]
 exact pr.snoc (by show lo=_;omega) (by show n=_;omega) (by omega) hs
theorem SI.pow{f:Nat×Nat×Nat→Nat×Nat×Nat}{i:Nat}(hf:∀p,((f p).1,(f p).2.1)=(p.1,p.2.1))(I:SI lt st0 st lo k7):SI lt st0 (setPending st ((pendingOf st).modify i f)) lo k7:=by
 obtain⟨segs,e1,e2,pr⟩:=I.run
 refine⟨I.k,I.f,I.pm,segs,e1,e2,?_⟩
 show PRun lt ((pendingOf st).modify i f).toList _ 0
 refine pr.pow ?_
 apply List.ext_getElem?
 intro j
 rw[List.getElem?_map,List.getElem?_map,Array.getElem?_toList,Array.getElem?_toList,Array.getElem?_modify]
 split
 ·rename_i z
  cases q:(pendingOf st)[j]? with
  | none=>rfl
  | some p=>simp[hf p]
 ·rfl
end
section
variable {prog:Program}{w:World}{A:Around}{E:Value→Shared→Prop}{s:Shared}{κ:SortKind}{lt:Keyed→Keyed→Bool}{Dm:Keyed→Prop}{st:SortSt}
theorem a9j{p:Prop} [Decidable p] (a:Nat):(if p then a-1 else a)≤a:=by
 split<;>omega
theorem a5Q{Q:Unit→SortSt→Prop}(C:A6 prog w A s κ lt Dm)(T:TPK lt Dm)(hk:kindOf st=κ)(hf:failedOf st=none)(hp:pendingOf st = #[])(hD:∀x∈(arrOf st).toList,Dm x)
  (h:∀st',(arrOf st').Perm (arrOf st)→failedOf st'=none→Srt lt (arrOf st').toList→Q () st'):wpS (model prog w) A E s sortRuns' Q st:=by
 rw[sortRuns'_eq]
 refine wpS_bind (wpS_get ?_)
 dsimp only
 have I0:SI lt st st 0 (arrOf st).toList:=⟨rfl,hf,.refl _,[],rfl,rfl,by rw[hp];trivial⟩
 refine wpS_bind (U0 (fun(i:Nat) (c:Option Unit×Nat) st'=>c.1=none∧i≤c.2∧c.2≤(arrOf st).size∧∃k7,SI lt st st' c.2 k7) (fun(c:Option Unit×Nat) st'=>c.1=none∧∃k7,SI lt st st' (arrOf st).size k7) ?_ ?_ ⟨rfl,Nat.le_refl _,Nat.zero_le _,_,I0⟩ ?_)
 ·rintro i ⟨c0,lo⟩ st1 hi ⟨e0,h1,h2,k7,I⟩
  dsimp only at e0 h1 h2 I
  by_cases z:lo≥(arrOf st).size
  ·rw[if_pos z]
   have e:lo=(arrOf st).size:=by omega
   subst e
   exact wpS_pure ⟨rfl,k7,I⟩
  ·rw[if_neg z]
   have sz:(arrOf st1).size=(arrOf st).size:=I.pm.size_eq
   have hD1:∀x∈(arrOf st1).toList,Dm x:=fun x hx=>hD x (Array.mem_toList_iff.mpr (I.pm.mem_iff.mp (Array.mem_toList_iff.mp hx)))
   refine wpS_bind (a79 C T (I.k.trans hk) hD1 (by omega) (by omega) fun k st2 k1 k2 R u=>?_)
   dsimp only
   have k2:k≤(arrOf st).size-lo:=k2
   have R:StR st1 lo (lo+((arrOf st).size-lo)) st2:=R
   have u:UpK lt (arrOf st2) lo k:=u
   rw[show lo+((arrOf st).size-lo)=(arrOf st1).size by omega]at R
   -- what follows a run of n
   have go:∀(n:Nat) (st3:SortSt),1≤n→lo+n≤(arrOf st).size→StR st1 lo (arrOf st1).size st3→UpK lt (arrOf st3) lo n →
     ∃S rest',SI lt st st3 lo (S++rest')∧S.length=n∧Srt lt S:=fun n st3 n1 n2 R3 u3=>I.add R3 n1 (by omega) u3
   by_cases zr:k<minRun' (arrOf st).size (arrOf st).size 0
   ·rw[if_pos zr]
    refine wpS_bind (wpS_lift (wpAny_rule ⟨rfl,?_⟩))
    refine wpS_bind (a9i C T (I.k.trans hk) hD1 R (Nat.le_refl _) (by omega) k1 (by omega) u fun st3 R3 u3=>?_)
    rw[if_neg (by simp)]
    obtain⟨S,rest',I3,hS,sS⟩:=go _ st3 (by omega) (by omega) R3 u3
    refine wpS_bind (wpS_get ?_)
    have n1':1≤min ((arrOf st).size-lo) (minRun' (arrOf st).size (arrOf st).size 0):=by omega
    have n2':lo+min ((arrOf st).size-lo) (minRun' (arrOf st).size (arrOf st).size 0)≤(arrOf st).size:=by omega
    generalize min ((arrOf st).size-lo) (minRun' (arrOf st).size (arrOf st).size 0)=n at *
    cases hb:(pendingOf st3).back? with
    | none =>
     dsimp only
     refine wpS_bind (wpS_modify (wpS_pure ⟨rfl,by show i+1≤lo+n;omega,by show lo+n≤_;omega,rest',I3.push hS (by omega) sS⟩))
    | some q =>
     obtain⟨s1,n1,pw0⟩:=q
     dsimp only
     have hps:1≤(pendingOf st3).size:=by
      by_cases y:(pendingOf st3).size=0
      ·rw[Array.back?_eq_getElem?,y]at hb
       rw[Array.getElem?_eq_none (by omega)]at hb
       cases hb
      ·omega
     refine wpS_bind (a7_ C T hk hD I3 hps fun st4 I4 h4=>?_)
     dsimp only
     refine wpS_bind (wpS_modify (wpS_bind (wpS_modify (wpS_pure ⟨rfl,by show i+1≤lo+n;omega,by show lo+n≤_;omega,rest',SI.push (SI.pow (f:=fun x=>(x.1,x.2.1,power' (arrOf st).size (2*s1+n1) (2*s1+n1+n1+n) (arrOf st).size)) (fun p=>rfl) I4) hS (by omega) sS⟩))))
   ·rw[if_neg zr]
    obtain⟨S,rest',I3,hS,sS⟩:=go _ st2 k1 (by omega) R u
    refine wpS_bind (wpS_get ?_)
    cases hb:(pendingOf st2).back? with
    | none =>
     dsimp only
     refine wpS_bind (wpS_modify (wpS_pure ⟨rfl,by show i+1≤lo+k;omega,by show lo+k≤_;omega,rest',I3.push hS (by omega) sS⟩))
    | some q =>
     obtain⟨s1,n1,pw0⟩:=q
     dsimp only
     have hps:1≤(pendingOf st2).size:=by
      by_cases y:(pendingOf st2).size=0
      ·rw[Array.back?_eq_getElem?,y]at hb
       rw[Array.getElem?_eq_none (by omega)]at hb
       cases hb
      ·omega
     refine wpS_bind (a7_ C T hk hD I3 hps fun st4 I4 h4=>?_)
     dsimp only
     refine wpS_bind (wpS_modify (wpS_bind (wpS_modify (wpS_pure ⟨rfl,by show i+1≤lo+k;omega,by show lo+k≤_;omega,rest',SI.push (SI.pow (f:=fun x=>(x.1,x.2.1,power' (arrOf st).size (2*s1+n1) (2*s1+n1+n1+k) (arrOf st).size)) (fun p=>rfl) I4) hS (by omega) sS⟩))))
 ·rintro⟨c0,lo⟩ st1 ⟨e0,h1,h2,k7,I⟩
  dsimp only at e0 h1 h2 I
  have e:lo=(arrOf st).size:=by omega
  subst e
  exact⟨e0,k7,I⟩
 ·rintro⟨c0,lo⟩ st1 ⟨e0,k7,I⟩
  dsimp only at e0
  subst e0
  dsimp only
  refine wpS_bind (U0 (fun(i:Nat) (c:Option Unit×Unit) st'=>c.1=none∧SI lt st st' (arrOf st).size k7∧(pendingOf st').size+i≤(arrOf st).size+1) (fun(c:Option Unit×Unit) st'=>c.1=none∧SI lt st st' (arrOf st).size k7∧(pendingOf st').size≤1) ?_ ?_ ⟨rfl,I,by have:=I.psz;show(pendingOf st1).size+0≤_;omega⟩ ?_)
  ·rintro i ⟨d0,d1⟩ st2 hi ⟨f0,I2,h2⟩
   dsimp only at f0 h2
   refine wpS_bind (wpS_get ?_)
   by_cases z:(pendingOf st2).size≤1
   ·rw[if_pos z]
    exact wpS_pure ⟨rfl,I2,z⟩
   ·rw[if_neg z]
    have key:∀j,j+1<(pendingOf st2).size→wpS (model prog w) A E s (do
      let __do_lift ← mergeAt' j
      if(!__do_lift)=true then pure (ForInStep.done (some (),()))else pure (ForInStep.yield (none,()))) (fun(r:ForInStep (Option Unit×Unit)) st'=>match r with
       | .done c'=>c'.1=none∧SI lt st st' (arrOf st).size k7∧(pendingOf st').size≤1
       | .yield c'=>c'.1=none∧SI lt st st' (arrOf st).size k7∧(pendingOf st').size+(i+1)≤(arrOf st).size+1) st2:=fun j hj =>
     wpS_bind (b0u C T hk hD I2 hj fun st3 I3 h3=>wpS_pure ⟨rfl,I3,by show(pendingOf st3).size+(i+1)≤_;omega⟩)
    refine wpS_mono (key _ ?_) fun r st' q=>by cases r<;>exact q
    exact Nat.lt_of_le_of_lt (Nat.add_le_add_right (a9j _) 1) (by omega)
  ·rintro⟨d0,d1⟩ st2 ⟨f0,I2,h2⟩
   dsimp only at f0 h2
   exact⟨f0,I2,by show(pendingOf st2).size≤1;omega⟩
  ·rintro⟨d0,d1⟩ st2 ⟨f0,I2,h2⟩
   dsimp only at f0
   subst f0
   refine wpS_pure (h st2 I2.pm I2.f ?_)
   obtain⟨segs,e1,e2,pr⟩:=I2.run
   have sz:(arrOf st2).toList.length=(arrOf st).size:=by rw[Array.length_toList];exact I2.pm.size_eq
   have er:k7=[]:=by
    have:=congrArg List.length e1
    rw[List.length_append,sz,e2]at this
    exact List.eq_nil_of_length_eq_zero (by omega)
   have hl:=pr.len.1
   rw[Array.length_toList]at hl
   rw[e1,er,List.append_nil]
   match segs,pr,hl with
   | [],_,_=>exact List.Pairwise.nil
   | [S],pr,_ =>
    match hq:(pendingOf st2).toList,pr with
    | p::ps,pr =>
     obtain⟨_,_,_,hs,_⟩:=pr
     simpa using hs
   | _::_::_,_,hl=>simp at hl;omega
end
theorem a8a{α β:Type}(f:α→β){a:List β}{b:List β}(h:a.Perm b):∀l:List α,b=l.map f→∃m:List α,m.Perm l∧a=m.map f:=by
 induction h with
 | nil=>intro l e;exact⟨l,.refl _,e⟩
 | cons x p ih =>
  intro l e
  cases l with
  | nil=>cases e
  | cons y l =>
   rw[List.map_cons]at e
   injection e with e1 e2
   obtain⟨m,p1,q1⟩:=ih l e2
   exact⟨y::m,p1.cons y,by rw[List.map_cons,e1,q1]⟩
 | swap x y r =>
  intro l e
  match l,e with
  | a::b::l,e =>
   rw[List.map_cons,List.map_cons]at e
   injection e with e1 e2
   injection e2 with e2 e3
   exact⟨b::a::l,.swap _ _ _,by rw[List.map_cons,List.map_cons,e1,e2,e3]⟩
 | trans p q ih1 ih2 =>
  intro l e
  obtain⟨m1,p1,q1⟩:=ih2 l e
  obtain⟨m2,p2,q2⟩:=ih1 m1 q1
  exact⟨m2,p2.trans p1,q2⟩
def U1(x:Keyed):Int:=match x.1 with
 | .int n _=>n
 | _=>0
section
variable {prog:Program}{w:World}{A:Around}{E:Value→Shared→Prop}{s:Shared}
theorem a6W{D:Addr}{h1:Heap}{vs:List Value}{ks:List Int}{Q:Value→Shared→Prop}(hoL:h1.get? D=some (seqObj "list" vs.toArray 0))(hk:IntsAre vs ks)(h64:vs.length<1000)(keep:∀b o,s.heap.get? b=some o→h1.get? b=some o)(nD:∀b o,s.heap.get? b=some o→b≠D)
  (h:∀(h':Heap) (p:List Nat) (c:Nat),(∀b o,s.heap.get? b=some o→h'.get? b=some o)→h'.get? D=some (seqObj "list" (p.map fun i=>vs.getD i Value.none).toArray c)→p.Perm (List.range vs.length) →
   p.Pairwise (fun i j=>decide (ks.getD j 0<ks.getD i 0)=false)→Q (.ref D) { s with heap:=h' }) :
  wpAny (model prog w) A.in1 (holding [.ref D] (call (.builtin "list.sort") [.ref D] []) >>= fun _=>(ret (.ref D):Sem PySem.Fin)) (fun fin s'=>∃v,fin=.done (.ret v)∧Q v s') E { s with heap:=h1 }:=by
 refine wpAny_bind (wpAny_holding (wpAny_call_entry slot_list_sort ⟨_,hoL,rfl⟩ entry_list_sort ?body (args_list_sort _)))
 case body =>
  have hD:D<h1.objs.size:=Heap.lt_size hoL
  have s1:=Heap.SameBut.update h1 D (Obj.mapSeq fun _=>(#[]:Array Value))
  obtain⟨e1,ho1⟩:∃e1,(h1.update D (Obj.mapSeq fun _=>(#[]:Array Value))).get? D=some (seqObj "list" #[] e1):=⟨_,get?_update_seq hoL fun _ => #[]⟩
  have keep2:∀b o,s.heap.get? b=some o→(((h1.update D (Obj.mapSeq fun _=>(#[]:Array Value))).push (seqObj "tuple" vs.toArray 0)).push (seqObj "list" #[] 0)).get? b=some o:=fun b o q=>by
   have hb:b≠D:=nD b o q
   exact Heap.get?_push_of_some _ (Heap.get?_push_of_some _ ((s1.2 b hb).trans (keep b o q)))
  have ho6:(((h1.update D (Obj.mapSeq fun _=>(#[]:Array Value))).push (seqObj "tuple" vs.toArray 0)).push (seqObj "list" #[] 0)).get? D=some (seqObj "list" #[] e1):=Heap.get?_push_of_some _ (Heap.get?_push_of_some _ ho1)
  rw[list_sort_plain]
  refine wpAny_bind (listItems_at (s:={ s with heap:=h1 }) hoL rfl ?_)
  refine wpAny_bind (listUpdate_at (s:={ s with heap:=h1 }) hoL rfl ?_ (by rw[List.size_toArray,sizeLine_eq];omega) (Nat.zero_le _))
  refine wpAny_bind (seqEpoch_at ho1 rfl ?_)
  refine wpAny_bind (wpAny_newTuple ?_ (by show vs.length≤_;rw[sizeLine_eq];omega))
  refine wpAny_bind (wpAny_newList ?_ (Nat.zero_le _))
  refine wpAny_holding ?_
  show wpAny (model prog w) _ _ _ E { s with heap:=((h1.update D (Obj.mapSeq fun _=>(#[]:Array Value))).push (seqObj "tuple" vs.toArray 0)).push (seqObj "list" #[] 0) }
  dsimp only
  generalize ((h1.update D (Obj.mapSeq fun _=>(#[]:Array Value))).push (seqObj "tuple" vs.toArray 0)).push (seqObj "list" #[] 0)=h2 at keep2 ho6 ⊢
  have last:∀(st':SortSt) (p:List Nat),(arrOf st').map (·.2)=(p.map fun i=>vs.getD i Value.none).toArray→failedOf st'=none→p.Perm (List.range vs.length)→p.Pairwise (fun i j=>decide (ks.getD j 0<ks.getD i 0)=false) →
    wpAny (model prog w) A.in1.in1 (do
     let touched:=(← seqEpoch D) != e1
     Builtin.List.listUpdate (.ref D) fun _=>(arrOf st').map (·.2)
     if let some e:=failedOf st' then rule "list.sort.comparison-raised";throw e
     if touched then rule "list.sort.modified";raiseError "ValueError" "list modified during sort"
     ret .none:Sem PySem.Fin) (fun fin s'=>∃v,fin=.done (.ret v)∧wpAny (model prog w) A.in1 (pure (.done (.ret (.ref D))):Sem PySem.Fin) (fun fin s'=>∃v,fin=.done (.ret v)∧Q v s') E s') E { s with heap:=h2 }:=by
   intro st' p hout hf hp hs
   have hsz3:((p.map fun i=>vs.getD i Value.none).toArray).size=vs.length:=by rw[List.size_toArray,List.length_map,hp.length_eq,List.length_range]
   have s2:=Heap.SameBut.update h2 D (Obj.mapSeq fun _=>(p.map fun i=>vs.getD i Value.none).toArray)
   obtain⟨c2,hc2⟩:∃c2,(h2.update D (Obj.mapSeq fun _=>(p.map fun i=>vs.getD i Value.none).toArray)).get? D=some (seqObj "list" (p.map fun i=>vs.getD i Value.none).toArray c2):=⟨_,get?_update_seq ho6 fun _=>_⟩
   rw[hout,hf]
   refine wpAny_bind (seqEpoch_at ho6 rfl ?_)
   refine wpAny_bind (listUpdate_at (s:={ s with heap:=h2 }) ho6 rfl ?_ (Nat.zero_le _) (Nat.le_trans (Nat.le_of_eq hsz3) (by rw[sizeLine_eq];omega)))
   simp only[bne_self_eq_false,Bool.false_eq_true,if_false]
   exact wpAny_pure ⟨_,rfl,wpAny_pure ⟨_,rfl,h _ p c2 (fun b o q=>by
    have hb:b≠D:=nD b o q
    exact(s2.2 b hb).trans (keep2 b o q)) hc2 hp hs⟩⟩
  by_cases h2':vs.toArray.size<2
  ·rw[if_pos h2',if_pos h2']
   refine wpAny_bind (wpAny_pure ?_)
   rw[StateT.run_pure]
   refine wpAny_bind (wpAny_pure ?_)
   have hlen:vs.length<2:=by simpa using h2'
   refine last (SortSt.mk' general' (vs.toArray.zip vs.toArray) #[] 7 none) (List.range vs.length) ?_ rfl (List.Perm.refl _) ?_
   ·show(vs.toArray.zip vs.toArray).map (·.2)=_
    match vs,hlen with
    | [],_=>simp
    | [_],_=>simp
   ·match hn:vs.length,hlen with
    | 0,_=>exact .nil
    | 1,_=>exact List.pairwise_singleton _ _
  ·rw[if_neg h2',if_neg h2']
   have hlen:2≤vs.length:=by simp at h2';omega
   refine wpAny_bind (kas_kind (T:=.type "int") hlen (fun v hv=>by obtain⟨i,t,rfl⟩:=a4J hk v hv;exact .of_pure rfl) (by decide +kernel) (by decide +kernel) ?_)
   have hz:(vs.toArray.zip vs.toArray).toList=(List.range vs.length).map fun i=>(vs.getD i Value.none,vs.getD i Value.none):=by
    apply List.ext_getElem?
    intro i
    rw[List.getElem?_map,ksk_zip,List.toList_toArray]
    by_cases hi:i<vs.length
    ·have h2:vs[i]? = some (vs.getD i Value.none):=by rw[List.getD_eq_getElem?_getD,List.getElem?_eq_getElem hi];rfl
     rw[List.getElem?_range hi]
     exact List.getElem?_zip_eq_some.mpr ⟨h2,h2⟩
    ·rw[List.getElem?_eq_none (by simp;omega),List.getElem?_eq_none (by simp;omega)]
     rfl
   have T:TPK (fun x y=>decide (U1 x<U1 y)) (fun x=>∃n t,x.1=Value.int n t):=⟨fun x _=>by simp,fun x y z _ _ _ h1 h2=>by
    have h1:=of_decide_eq_false h1
    have h2:=of_decide_eq_false h2
    exact decide_eq_false (by omega),fun x y _ _ h=>by
    have h:=of_decide_eq_true h
    exact decide_eq_false (by omega)⟩
   have CO:A6 prog w A.in1.in1 { s with heap:=h2 } oneType' (fun x y=>decide (U1 x<U1 y)) (fun x=>∃n t,x.1=Value.int n t):=fun x y hx hy Q hQ=>by
    obtain⟨n,t,e1⟩:=hx
    obtain⟨m,u,e2⟩:=hy
    have hQ:Q (decide (U1 x<U1 y)) { s with heap:=h2 }:=hQ
    unfold U1 at hQ
    rw[e1,e2]at hQ ⊢
    exact kat_lt_int hQ
   refine wpAny_bind (wpAny_mono (a5Q (E:=E) (st:=SortSt.mk' oneType' (vs.toArray.zip vs.toArray) #[] 7 none) (Q:=fun _ st'=>(arrOf st').Perm (vs.toArray.zip vs.toArray)∧failedOf st'=none∧Srt (fun x y=>decide (U1 x<U1 y)) (arrOf st').toList) CO T rfl rfl rfl (fun x hx=>?_) fun st' a1 a2 a3=>⟨a1,a2,a3⟩) ?_ fun _ _ x=>x)
   ·have hx:x∈(vs.toArray.zip vs.toArray).toList:=hx
    rw[hz]at hx
    obtain⟨i,hi,e⟩:=List.mem_map.mp hx
    obtain⟨t,e2⟩:=S4 hk (List.mem_range.mp hi)
    exact⟨_,t,by rw[← e];exact e2⟩
   ·rintro⟨⟨⟩,st'⟩ s' ⟨rfl,hP,hf,hS⟩
    have hP':=Array.perm_iff_toList_perm.mp hP
    rw[hz]at hP'
    obtain⟨p,hp,ep⟩:=a8a (fun i=>(vs.getD i Value.none,vs.getD i Value.none)) hP' (List.range vs.length) rfl
    have hlt:∀i∈p,i<vs.length:=fun i hi=>List.mem_range.mp (hp.mem_iff.mp hi)
    refine last st' p ?_ hf hp ?_
    ·apply Array.toList_inj.mp
     rw[Array.toList_map,show(arrOf st').toList=_ from ep,List.map_map]
     rfl
    ·rw[show(arrOf st').toList=_ from ep]at hS
     have hS:=List.pairwise_map.mp hS
     exact List.Pairwise.imp_of_mem (fun{a b} ha hb hab=>by
      have hab:decide (U1 (vs.getD b Value.none,vs.getD b Value.none)<U1 (vs.getD a Value.none,vs.getD a Value.none))=false:=hab
      obtain⟨t1,e1⟩:=S4 hk (hlt a ha)
      obtain⟨t2,e2⟩:=S4 hk (hlt b hb)
      unfold U1 at hab
      rw[e1,e2]at hab
      exact hab) hS
end
section
variable {κ:Type} [DecidableEq κ]
def N7(kvs:List (κ×V))(k:κ):Option V:=(kvs.find? fun kv=>decide (kv.1=k)).map (·.2)
def G5(kvs:List (κ×V))(k:κ)(v:V):List (κ×V) :=
 if(kvs.any fun kv=>decide (kv.1=k))=true then kvs.map (fun kv=>if kv.1=k then(kv.1,v)else kv)else kvs++[(k,v)]
def b0v(kvs:List (κ×V))(k:κ):List (κ×V):=kvs.filter fun kv=>decide (kv.1≠k)
theorem a0E{p:κ×V}{r:List (κ×V)}{k:κ}(e:p.1=k):N7 (p::r) k=some p.2:=by simp[N7,List.find?_cons,e]
theorem a0F{p:κ×V}{r:List (κ×V)}{k:κ}(e:¬p.1=k):N7 (p::r) k=N7 r k:=by simp[N7,List.find?_cons,e]
theorem a4O(k:κ):∀kvs:List (κ×V),(kvs.any fun kv=>decide (kv.1=k))=(N7 kvs k).isSome
 | []=>rfl
 | p::r=>by
  rw[List.any_cons]
  by_cases e:p.1=k
  ·simp only[a0E e,decide_eq_true e,Bool.true_or,Option.isSome_some]
  ·rw[a0F e,decide_eq_false e,Bool.false_or];exact a4O k r
theorem a0d(kvs:List (κ×V))(k:κ)(v:V):(G5 kvs k v).length≤kvs.length+1:=by
 unfold G5
 split
 ·rw[List.length_map];omega
 ·rw[List.length_append,List.length_cons,List.length_nil];omega
theorem RelO.isSome_eq{o:Option V}{u:Option Value}(r:RelO o u):o.isSome=u.isSome:=by
 cases o with
 | none=>cases u with
  | none=>rfl
  | some _=>exact(show False from r).elim
 | some _=>cases u with
  | none=>exact(show False from r).elim
  | some _=>rfl
theorem RelO.getD{o:Option V}{u:Option Value}{d:V}{d':Value}(r:RelO o u)(rd:RelV d d'):RelV (o.getD d) (u.getD d'):=by
 cases o with
 | none=>cases u with
  | none=>exact rd
  | some _=>exact(show False from r).elim
 | some _=>cases u with
  | none=>exact(show False from r).elim
  | some _=>exact r
theorem KV.val{kvs:List (κ×V)}{vs:List (κ×Value)}(r:KV kvs vs)(k:κ):RelO (N7 kvs k) (valueAt vs k):=by
 unfold KV at r
 induction r with
 | nil=>exact True.intro
 | @cons p q ps qs h t ih =>
  obtain⟨h1,h2⟩:=h
  by_cases e:p.1=k
  ·have e':q.1=k:=h1.symm.trans e
   have b:valueAt (q::qs) k=some q.2:=by simp[valueAt,List.find?_cons,e']
   rw[a0E e,b];exact h2
  ·have e':¬q.1=k:=fun z=>e (h1.trans z)
   have b:valueAt (q::qs) k=valueAt qs k:=by simp[valueAt,List.find?_cons,e']
   rw[a0F e,b];exact ih
theorem KV.any{kvs:List (κ×V)}{vs:List (κ×Value)}(r:KV kvs vs)(k:κ):(kvs.any fun kv=>decide (kv.1=k))=vs.any fun kv=>decide (kv.1=k):=by
 unfold KV at r
 induction r with
 | nil=>rfl
 | cons h t ih=>rw[List.any_cons,List.any_cons,ih,h.1]
theorem KV.repl{kvs:List (κ×V)}{vs:List (κ×Value)}(r:KV kvs vs)(k:κ){y:V}{u:Value}(ry:RelV y u) :
  KV (kvs.map fun kv=>if kv.1=k then(kv.1,y)else kv) (vs.map fun kv=>if kv.1=k then(kv.1,u)else kv):=by
 unfold KV at r ⊢
 induction r with
 | nil=>exact .nil
 | @cons p q ps qs h t ih =>
  rw[List.map_cons,List.map_cons]
  refine .cons ?_ ih
  obtain⟨h1,h2⟩:=h
  by_cases e:p.1=k
  ·rw[if_pos e,if_pos (h1.symm.trans e)];exact⟨h1,ry⟩
  ·rw[if_neg e,if_neg (fun z=>e (h1.trans z))];exact⟨h1,h2⟩
theorem KV.put{kvs:List (κ×V)}{vs:List (κ×Value)}(r:KV kvs vs)(k:κ){y:V}{u:Value}(ry:RelV y u):KV (G5 kvs k y) (stored vs k u):=by
 unfold G5 stored
 rw[r.any k]
 by_cases e:(vs.any fun kv=>decide (kv.1=k))=true
 ·rw[if_pos e,if_pos e];exact r.repl k ry
 ·rw[if_neg e,if_neg e];exact Paired.snoc r ⟨rfl,ry⟩
theorem KV.drop{kvs:List (κ×V)}{vs:List (κ×Value)}(r:KV kvs vs)(k:κ):KV (b0v kvs k) (without vs k):=by
 unfold KV at r ⊢
 unfold b0v without
 induction r with
 | nil=>exact .nil
 | @cons p q ps qs h t ih =>
  obtain⟨h1,h2⟩:=h
  rw[List.filter_cons,List.filter_cons]
  by_cases e:p.1=k
  ·have a:¬decide (p.1≠k)=true:=by simp[e]
   have b:¬decide (q.1≠k)=true:=by simp[h1.symm.trans e]
   rw[if_neg a,if_neg b];exact ih
  ·have e':¬q.1=k:=fun z=>e (h1.trans z)
   have a:decide (p.1≠k)=true:=by simp[e]
   have b:decide (q.1≠k)=true:=by simp[e']
   rw[if_pos a,if_pos b];exact .cons ⟨h1,h2⟩ ih
theorem KV.keys{kvs:List (κ×V)}{vs:List (κ×Value)}(r:KV kvs vs):kvs.map (·.1)=vs.map (·.1):=by
 unfold KV at r
 induction r with
 | nil=>rfl
 | cons h t ih=>rw[List.map_cons,List.map_cons,ih,h.1]
theorem KV.length{kvs:List (κ×V)}{vs:List (κ×Value)}(r:KV kvs vs):kvs.length=vs.length:=Paired.length r
end
theorem a39{P:Program}{w:World}{k:i4}{u:Value}(r:RelV (kV k) u):(v9 P w).is k u=true:=by
 cases k with
 | inl i=>obtain⟨t,e⟩:=(show ∃t,u=Value.int i t from r);subst e;exact a5u P w i t
 | inr x=>obtain⟨t,e⟩:=(show ∃t,u=Value.str x t from r);subst e;exact a5v P w x t
theorem a3y{P:Program}{w:World}:∀{ks:List i4} {us:List Value},Vals (ks.map kV) us→ItemsAre (v9 P w) ks us
 | [],_,r=>by rw[List.map_nil]at r;cases r;exact .nil
 | k::ks,_,r=>by
  rw[List.map_cons]at r
  cases r with
  | cons h t=>exact .cons (a39 h) (a3y t)
abbrev KT(H:Hp):List (List i4×V)→List (List i4×Addr×Value)→Prop:=Paired fun p q=>p.1=q.1∧H q.2.1=some (.tup (p.1.map kV))∧RelV p.2 q.2.2
theorem KT.val{H:Hp}{kvs:List (List i4×V)}{xs:List (List i4×Addr×Value)}(r:KT H kvs xs)(k:List i4):RelO (N7 kvs k) ((atKey xs k).map (·.2)):=by
 induction r with
 | nil=>exact True.intro
 | @cons p q ps qs h t ih =>
  obtain⟨h1,_,h2⟩:=h
  by_cases e:p.1=k
  ·have e':q.1=k:=h1.symm.trans e
   have b:atKey (q::qs) k=some q.2:=by simp[atKey,List.find?_cons,e']
   rw[a0E e,b];exact h2
  ·have e':¬q.1=k:=fun z=>e (h1.trans z)
   have b:atKey (q::qs) k=atKey qs k:=by simp[atKey,List.find?_cons,e']
   rw[a0F e,b];exact ih
theorem KT.repl{H:Hp}{kvs:List (List i4×V)}{xs:List (List i4×Addr×Value)}(r:KT H kvs xs)(k:List i4){y:V}{u:Value}(ry:RelV y u) :
  KT H (kvs.map fun kv=>if kv.1=k then(kv.1,y)else kv) (xs.map (putAt k u)):=by
 induction r with
 | nil=>exact .nil
 | @cons p q ps qs h t ih =>
  rw[List.map_cons,List.map_cons]
  refine .cons ?_ ih
  obtain⟨h1,h2,h3⟩:=h
  unfold putAt
  by_cases e:p.1=k
  ·rw[if_pos e,if_pos (h1.symm.trans e)];exact⟨h1,h2,ry⟩
  ·rw[if_neg e,if_neg (fun z=>e (h1.trans z))];exact⟨h1,h2,h3⟩
theorem KT.put{H:Hp}{kvs:List (List i4×V)}{xs:List (List i4×Addr×Value)}(r:KT H kvs xs)(k:List i4){b:Addr}{y:V}{u:Value}(hb:H b=some (.tup (k.map kV)))(ry:RelV y u) :
  KT H (G5 kvs k y) (storedH xs k b u):=by
 have e:(kvs.any fun kv=>decide (kv.1=k))=(atKey xs k).isSome:=by
  rw[a4O,(r.val k).isSome_eq,Option.isSome_map]
 unfold G5 storedH
 rw[e]
 by_cases q:(atKey xs k).isSome=true
 ·rw[if_pos q,if_pos q];exact r.repl k ry
 ·rw[if_neg q,if_neg q];exact Paired.snoc r ⟨rfl,hb,ry⟩
theorem KT.keeps{H H':Hp}{kvs:List (List i4×V)}{xs:List (List i4×Addr×Value)}(r:KT H kvs xs)(ht:∀b ys,H b=some (.tup ys)→H' b=some (.tup ys)):KT H' kvs xs :=
 Paired.mapP r fun _ _ z=>⟨z.1,ht _ _ z.2.1,z.2.2⟩
section
variable {P:Program}{w:World}{H:Hp}{h:Heap}{a:Addr}
theorem b0w{u:HO}(ok:HOk P w H h)(e:Rd H a u):ObjOk P w H h a u:=e.ok ok
theorem a6X{kvs:List (i4×V)}(ok:HOk P w H h)(e:Rd H a (.dK kvs)):kvs.length≤sizeLine∧(a == sysModules)=false∧∃vs,KV kvs vs∧h.DictOf (v9 P w) a vs :=
 show ObjOk P w H h a (.dK kvs)from b0w ok e
theorem b0x{kvs:List (i4×V)}(ok:HOk P w H h)(e:H a=some (.dK kvs)):kvs.length≤sizeLine∧(a == sysModules)=false∧∃vs,KV kvs vs∧h.DictOf (v9 P w) a vs:=a6X ok (.inl e)
theorem a4P{ks:List i4}(ok:HOk P w H h)(e:H a=some (.tup (ks.map kV))):(tupleKind (v9 P w)).is h ks a:=by
 obtain⟨_,its,r,o,h1,h2,n,h3⟩:=(show ObjOk P w H h a (.tup (ks.map kV))from ok a _ e)
 exact⟨o,its.toArray,n,h1,h2,h3,by simpa using a3y r⟩
theorem b0y{kvs:List (List i4×V)}(ok:HOk P w H h)(e:Rd H a (.dT kvs)):kvs.length≤sizeLine∧(a == sysModules)=false ∧
  ∃xs,KT H kvs xs∧h.DictOfH (tupleKind (v9 P w)) a xs:=by
 obtain⟨z,y,xs,r,o,es,ep,h1,h2,h3,h4,h5⟩:=(show ObjOk P w H h a (.dT kvs)from b0w ok e)
 refine⟨z,y,xs,r,o,es,ep,h1,h2,h3,h4,fun x hx=>?_,h5⟩
 have all:∀{l:List (List i4×V)} {m:List (List i4×Addr×Value)},KT H l m→∀x∈m,(tupleKind (v9 P w)).is h x.1 x.2.1:=by
  intro l m q
  induction q with
  | nil=>intro x hx;exact nomatch hx
  | @cons p q ps qs hq t ih =>
   intro x hx
   rcases List.mem_cons.mp hx with e | hx
   ·subst e
    exact a4P ok (by rw[← hq.1];exact hq.2.1)
   ·exact ih x hx
 exact all r x hx
theorem b4n{kvs:List (List i4×V)}(ok:HOk P w H h)(e:H a=some (.dT kvs)):kvs.length≤sizeLine∧(a == sysModules)=false ∧
  ∃xs,KT H kvs xs∧h.DictOfH (tupleKind (v9 P w)) a xs:=b0y ok (.inl e)
end
def DGet(H:Hp)(a:Addr)(y:V)(r:Option V):Prop :=
 (∃kvs k,Rd H a (.dK kvs)∧y=kV k∧r=N7 kvs k)∨∃kvs k b,Rd H a (.dT kvs)∧y=.ref b∧H b=some (.tup (k.map kV))∧r=N7 kvs k
def DPut(H:Hp)(a:Addr)(y v:V)(H':Hp):Prop :=
 (∃kvs k,H a=some (.dK kvs)∧y=kV k∧kvs.length<sizeLine∧H'=upd H a (.dK (G5 kvs k v))) ∨
 ∃kvs k b,H a=some (.dT kvs)∧y=.ref b∧H b=some (.tup (k.map kV))∧kvs.length<sizeLine∧H'=upd H a (.dT (G5 kvs k v))
theorem DGet.k{H:Hp}{a:Addr}{kvs:List (i4×V)}{k:i4}(e:H a=some (.dK kvs)):DGet H a (kV k) (N7 kvs k):=.inl ⟨kvs,k,.inl e,rfl,rfl⟩
theorem DGet.t{H:Hp}{a b:Addr}{kvs:List (List i4×V)}{k:List i4}(e:H a=some (.dT kvs))(eb:H b=some (.tup (k.map kV))):DGet H a (.ref b) (N7 kvs k):=.inr ⟨kvs,k,b,.inl e,rfl,eb,rfl⟩
theorem DPut.k{H:Hp}{a:Addr}{kvs:List (i4×V)}{k:i4}{v:V}(e:H a=some (.dK kvs))(hl:kvs.length<sizeLine):DPut H a (kV k) v (upd H a (.dK (G5 kvs k v))):=.inl ⟨kvs,k,e,rfl,hl,rfl⟩
theorem DPut.t{H:Hp}{a b:Addr}{kvs:List (List i4×V)}{k:List i4}{v:V}(e:H a=some (.dT kvs))(eb:H b=some (.tup (k.map kV)))(hl:kvs.length<sizeLine) :
  DPut H a (.ref b) v (upd H a (.dT (G5 kvs k v))):=.inr ⟨kvs,k,b,e,rfl,eb,hl,rfl⟩
section
variable {X:Cx}{pins:List (Addr×Obj)}{σ:St}{H:Hp}{s:Shared}{a:Addr}{y v:V}{u r:Value}{o:Option V}{A:Around}{E:Value→Shared→Prop}
theorem Inv.big(I:Inv X pins σ H s):sysModules<s.heap.objs.size:=by
 have h:mainGlobals<s.heap.objs.size:=(I.mod.glob.keeps I.bk).lt
 exact Nat.lt_trans (by decide) h
theorem b5d{Q:Value→Shared→Prop}(hu:A.units+1<cLine)(I:Inv X pins σ H s)(g:DGet H a y o)(ry:RelV y u)(h:∀s',Inv X pins σ H s'→Q (.bool o.isSome) s') :
  wpAny (model X.prog X.w) A (compareOp .In u (.ref a)) Q E s:=by
 rcases g with⟨kvs,k,e,ey,l⟩ | ⟨kvs,k,b,e,ey,eb,l⟩
 ·subst ey
  obtain⟨z,hd,vs,rel,dd⟩:=a6X I.hok e
  refine wpAny_in_of (a39 ry) hd dd.mapOf ?_
  rw[← (rel.val k).isSome_eq,← l]
  exact h _ (I.tok _)
 ·subst ey
  cases (show u=Value.ref b from ry)
  obtain⟨z,hd,xs,rel,dd⟩:=b0y I.hok e
  refine wpAny_in_heap (tupleKind_room_in1 hu) (a4P I.hok eb) hd dd ?_
  have q:=(rel.val k).isSome_eq
  rw[Option.isSome_map]at q
  rw[← q,← l]
  exact h _ (I.tok _)
theorem a23{h':Heap}{t':Nat}{ob:HO}(I:Inv X pins σ H s)(mu:Mut (H a))(hs:Heap.SameBut a s.heap h')(he:∃q,h'.get? a=some q)(new:ObjOk X.prog X.w (upd H a ob) h' a ob) :
  Inv X pins σ (upd H a ob) { s with heap:=h',toks:=t' } :=
 I.write (x:=a) (e:=a) mu (.inl rfl) (fun b q hb z=>(hs.2 b hb).trans z) he new
theorem a8b{P:Program}{w:World}{H':Hp}{h':Heap}{kvs:List (i4×V)}{vs:List (i4×Value)}(z:kvs.length≤sizeLine)(hd:(a == sysModules)=false)(rel:KV kvs vs)(dd:h'.DictOf (v9 P w) a vs) :
  ObjOk P w H' h' a (.dK kvs):=⟨z,hd,vs,rel,dd⟩
theorem a8c{H':Hp}{Q:Unit→Shared→Prop}(hu:A.units+1<cLine)(I:Inv X pins σ H s)(g:DPut H a y v H')(ry:RelV y u)(rv:RelV v r)(h:∀s',Inv X pins σ H' s'→Q () s') :
  wpAny (model X.prog X.w) A (setItem (.ref a) u r) Q E s:=by
 rcases g with⟨kvs,k,e,ey,l,eH⟩ | ⟨kvs,k,b,e,ey,eb,l,eH⟩
 ·subst ey eH
  obtain⟨z,hd,vs,rel,dd⟩:=b0x I.hok e
  have hz:vs.length≤sizeLine:=by rw[← rel.length];exact z
  have hl:(G5 kvs k v).length≤sizeLine:=by have:=a0d kvs k v;omega
  refine wpAny_setItem_pairs (hsz:=hz) (a39 ry) dd fun h' dd' hs=>h _ ?_
  have he:∃q,h'.get? a=some q:=let ⟨q,_,_,hq,_⟩:=dd'; ⟨q,hq⟩
  exact a23 I (by rw[e];exact True.intro) hs he (a8b hl hd (rel.put k rv) dd')
 ·subst ey eH
  cases (show u=Value.ref b from ry)
  obtain⟨z,hd,xs,rel,dd⟩:=b4n I.hok e
  have hz:xs.length≤sizeLine:=by rw[← Paired.length rel];exact z
  have hl:(G5 kvs k v).length≤sizeLine:=by have:=a0d kvs k v;omega
  refine wpAny_setItem_heap (hsz:=hz) (tupleKind_room_in1 hu) (a4P I.hok eb) dd fun h' dd' hs=>h _ ?_
  obtain⟨q,es,ep,hq,h2,h3,h4,_,h5⟩:=dd'
  refine a23 I (by rw[e];exact True.intro) hs ⟨q,hq⟩ ⟨hl,hd,_,(rel.put k eb rv).keeps fun c ys ec=>?_,q,es,ep,hq,h2,h3,h4,h5⟩
  rw[b9 (a9_ ec e (fun z=>nomatch z))]
  exact ec
end
def b0z(td ty tv:TE):TS:=fun D σ H=>tv σ H fun v H1=>td σ H1 fun x H2=>ty σ H2 fun y H3=>∃a H4,x=.ref a∧DPut H3 a y v H4∧D.nx σ H4
section
variable {X:Cx}{o i e value:Expr}{pos pos' tpos:Pos}{td ty tv:TE}
theorem b1a(hu:X.A.units+1<cLine)(ho:PE X o td)(hi:PE X i ty)(hv:PE X value tv)(hs:swapsWith value (some (.Subscript o i pos')) pos.line X.env=pure false) :
  PS X (.Assign [.Subscript o i pos'] value pos) (b0z td ty tv):=by
 intro pins s σ H D I h
 refine wpAny_Assign_Subscript (i7 (hv pins s σ H _ I h) fun r s1 ⟨v,H1,I1,rv,q1⟩=>i7 (ho pins s1 σ H1 _ I1 q1) fun u s2 ⟨x,H2,I2,rx,q2⟩=>i7 (hi pins s2 σ H2 _ I2 q2) fun iv s3 ⟨y,H3,I3,ry,a,H4,ex,g,q3⟩=>?_) hs
 subst ex
 obtain rfl:u=Value.ref a:=rx
 exact a8c hu I3 g ry rv fun s4 I4=>⟨σ,H4,I4,q3⟩
end
theorem a9k{P:Program}{w:World}{H:Hp}(h:Heap)(hb:sysModules<h.objs.size):ObjOk P w H (h.push { cls:=.type "dict",data:=.dict #[] }) h.objs.size (.dK []) :=
 ⟨Nat.zero_le _,beq_eq_false_iff_ne.mpr (Ne.symm (Nat.ne_of_lt hb)),[],.nil,Heap.DictOf.new h⟩
def a4Q:List (TE×TE)→St→Hp→(List (V×V)→Hp→Prop)→Prop
 | [],_,H,Q=>Q [] H
 | (tk,tv)::r,σ,H,Q=>tk σ H fun x H1=>tv σ H1 fun y H2=>a4Q r σ H2 fun ps H3=>Q ((x,y)::ps) H3
abbrev VV:List (V×V)→List (Value×Value)→Prop:=Paired fun p q=>RelV p.1 q.1∧RelV p.2 q.2
def PPs(X:Cx)(pos:Pos)(keys:List (Option Expr))(values:List Expr)(trs:List (TE×TE)):Prop :=
 ∀(pins:List (Addr×Obj)) (s:Shared) (σ:St) (H:Hp) (Q:List (V×V)→Hp→Prop),Inv X pins σ H s→a4Q trs σ H Q →
  wpAny (model X.prog X.w) X.A (evalPairs (pairTrees keys values X.env pos)) (fun vs s'=>∃ps H',Inv X pins σ H' s'∧VV ps vs∧Q ps H') X.xe s
theorem b1b{X:Cx}{pos:Pos}:PPs X pos [] [] []:=fun pins s σ H Q I h=>pairTrees_nil_walk ⟨[],H,I,.nil,h⟩
theorem a9l{X:Cx}{pos:Pos}{k v:Expr}{ks:List (Option Expr)}{vs:List Expr}{tk tv:TE}{trs:List (TE×TE)}(hk:PE X k tk)(hv:PE X v tv)(hr:PPs X pos ks vs trs) :
  PPs X pos (some k::ks) (v::vs) ((tk,tv)::trs):=fun pins s σ H Q I h =>
 pairTrees_cons_walk (i7 (hk pins s σ H _ I h) fun u s1 ⟨x,H1,I1,rx,q1⟩=>i7 (hv pins s1 σ H1 _ I1 q1) fun w2 s2 ⟨y,H2,I2,ry,q2⟩ =>
  i7 (hr pins s2 σ H2 _ I2 q2) fun ws s3 ⟨ps,H3,I3,rel,q3⟩=>⟨(x,y)::ps,H3,I3,.cons ⟨rx,ry⟩ rel,q3⟩)
def a1g(kvs more:List (i4×V)):List (i4×V):=more.foldl (fun acc kv=>G5 acc kv.1 kv.2) kvs
theorem KV.merge:∀{more:List (i4×V)} {rs:List (i4×Value)} {kvs:List (i4×V)} {vs:List (i4×Value)},KV more rs→KV kvs vs→KV (a1g kvs more) (merged vs rs):=by
 intro more rs kvs vs r
 unfold KV at r
 induction r generalizing kvs vs with
 | nil=>intro q;exact q
 | @cons p q ps qs h t ih =>
  intro r0
  have e:KV (G5 kvs p.1 p.2) (stored vs q.1 q.2):=by
   have:=r0.put p.1 h.2
   rw[← h.1];exact this
  exact ih e
theorem a00:∀(more kvs:List (i4×V)),(a1g kvs more).length≤kvs.length+more.length
 | [],kvs=>by show kvs.length≤kvs.length+0;omega
 | p::r,kvs=>by
  have h1:=a00 r (G5 kvs p.1 p.2)
  have h2:=a0d kvs p.1 p.2
  show(a1g (G5 kvs p.1 p.2) r).length≤_
  rw[List.length_cons];omega
theorem a2A{P:Program}{w:World}:∀{kvs:List (i4×V)} {ws:List (Value×Value)},VV (kvs.map fun kv=>(kV kv.1,kv.2)) ws→∃rs,Carries (v9 P w) ws rs∧KV kvs rs
 | [],_,r=>by rw[List.map_nil]at r;cases r;exact⟨[],True.intro,.nil⟩
 | p::kvs,_,r=>by
  rw[List.map_cons]at r
  cases r with
  | @cons a b as bs h t =>
   obtain⟨rs,c,q⟩:=a2A (P:=P) (w:=w) t
   obtain⟨b1,b2⟩:=b
   exact⟨(p.1,b2)::rs,⟨a39 h.1,rfl,c⟩,.cons ⟨rfl,h.2⟩ q⟩
def b0B(trs:List (TE×TE)):TE:=fun σ H Q=>∀p,H p=none→a4Q trs σ (upd H p (.dK [])) fun ps H2=>H2 p=some (.dK [])∧∃kvs:List (i4×V),ps=kvs.map (fun kv=>(kV kv.1,kv.2))∧kvs.length≤15∧Q (.ref p) (upd H2 p (.dK (a1g [] kvs)))
theorem b1c{X:Cx}{pos:Pos}{keys:List (Option Expr)}{values:List Expr}{trs:List (TE×TE)}(h:PPs X pos keys values trs)(hall:keys.all (·.isSome)=true)(hl:keys.length=values.length)(h0:keys≠[])
  (h15:keys.length≤15):PE X (.Dict keys values pos) (b0B trs):=by
 intro pins s σ H Q I q
 have hn:=I.hok.fresh (Nat.le_refl s.heap.objs.size)
 have I1:=I.laid (a:=s.heap.objs.size) (o:=.dK []) (h':=s.heap.push { cls:=.type "dict",data:=.dict #[] }) (t':=s.toks) (fun _ _ q=>Heap.get?_push_of_some _ q) (Nat.le_refl _) (a9k s.heap I.big)
 refine wpAny_Dict_walk (knd:=v9 X.prog X.w) hall hl h0 h15 (i7 (h pins _ σ _ _ I1 (q _ hn)) fun ws s2 ⟨ps,H2,I2,rel,e,kvs,ep,lk,q2⟩=>?_)
 subst ep
 obtain⟨rs,c,rk⟩:=a2A (P:=X.prog) (w:=X.w) rel
 obtain⟨z,hd,vs0,r0,dd⟩:=b0x I2.hok e
 cases r0
 refine⟨rs,c,dd,fun h' dd' hs=>⟨.ref s.heap.objs.size,_,?_,rfl,q2⟩⟩
 have hz:(a1g [] kvs).length≤sizeLine:=by
  have h1:=a00 kvs []
  rw[List.length_nil]at h1
  rw[sizeLine_eq];omega
 have he:∃q,h'.get? s.heap.objs.size=some q:=let ⟨q,_,_,hq,_⟩:=dd'; ⟨q,hq⟩
 exact a23 I2 (by rw[e];exact True.intro) hs he (a8b hz hd (rk.merge .nil) dd')
section
variable {prog:Program}{w:World}{A:Around}{E:Value→Shared→Prop}{s:Shared}
theorem a32{κ:Type} [DecidableEq κ] {knd:KeyKind prog w κ} {d S:Addr} {kvs:List (κ×Value)} {ep:Nat} {R:Result→Shared→Prop} (hm:s.heap.DictAt knd d kvs ep) (lo:(d == sysModules)=false) (hh:A.handled=none) (hn:kvs.length≤sizeLine) (hne:S≠d)
  (hS:s.heap.get? S=some { cls:=.type "list",data:=.seq #[] 0 })
  (hR:∀h' tk acc' c',(∀b o,b≠S→s.heap.get? b=some o→h'.get? b=some o)→h'.get? S=some { cls:=.type "list",dict:=none,data:=.seq acc' c',slots := #[] }→ItemsOf (fun i v=>∃k x,kvs[i]? = some (k,x)∧knd.is k v=true) acc' kvs.length→R (.ok (.ret (.ref S))) { s with heap:=h',toks:=tk }) :
  codeAny (model prog w) A (.builtin "list.__iadd__" ⟨[.ref S,.ref d],[]⟩) R s:=by
 refine codeAny_builtin F.entry_list_iadd ?_
 rw[Around.under_plainId F.plain_list_iadd _]
 exact kdl_extend (kdl_dict lo) hh hm S hne hne _ 0 hS hR hn
theorem a4R{κ:Type} [DecidableEq κ] {knd:KeyKind prog w κ} {d:Addr} {kvs:List (κ×Value)} {Q:List Value→Shared→Prop} (dd:s.heap.DictOf knd d kvs) (lo:(d == sysModules)=false) (hh:A.handled=none) (hn:kvs.length≤sizeLine)
  (h:∀(s':Shared) (vs:List Value),(∀b o,s.heap.get? b=some o→s'.heap.get? b=some o)→s'.gens=s.gens→s'.os=s.os→s.heap.objs.size<s'.heap.objs.size→vs.length=kvs.length→(∀(j:Nat) (v:Value),vs[j]? = some v→∃k x,kvs[j]? = some (k,x)∧knd.is k v=true)→Q vs s') :
  wpAny (model prog w) A (collect (.ref d)) Q E s:=by
 obtain⟨o,es,ep,ho,hx⟩:=id dd
 unfold collect
 refine wpAny_bind (wpAny_runValue (codeAny_builtin F.entry_proto_collect ?_))
 rw[Around.under_plainId F.plain_proto_collect _]
 show wpAny _ A.in1 (newList [] >>= fun l=>again (.builtin "list.__iadd__" ⟨[l,.ref d],[]⟩)) _ _ s
 refine wpAny_bind (wpAny_newObj_type ?_)
 have hne:s.heap.objs.size≠d:=Nat.ne_of_gt (Heap.lt_size ho)
 have hm:(s.heap.push { cls:=.type "list",data:=.seq ([]:List Value).toArray }).DictAt knd d kvs ep:=⟨o,es,Heap.get?_push_of_some _ ho,hx⟩
 have hS0:(s.heap.push { cls:=.type "list",data:=.seq ([]:List Value).toArray }).get? s.heap.objs.size=some { cls:=.type "list",data:=.seq #[] 0 }:=Heap.get?_push_size _ rfl
 refine wpAny_pure ⟨plainId_quiet F.plain_list_iadd _,a32 (s:={ s with heap:=s.heap.push { cls:=.type "list",data:=.seq ([]:List Value).toArray } }) hm lo hh hn hne hS0 fun h' tk acc c' kp hS hacc=>?_⟩
 show wpAny _ A (load s.heap.objs.size >>= _) _ _ _
 refine wpAny_bind (wpAny_load hS ?_)
 refine wpAny_pure (h _ acc.toList (fun b o e=>kp b o (Nat.ne_of_lt (Heap.lt_size e)) (Heap.get?_push_of_some _ e)) rfl rfl (Heap.lt_size hS) (by rw[Array.length_toList];exact hacc.1) fun j v e=>hacc.2 j v (by rw[← Array.getElem?_toList];exact e))
theorem a2B:∀{vs:List Value} {ks:List Int},vs.length=ks.length→(∀(j:Nat) (v:Value),vs[j]? = some v→∃i t,ks[j]? = some i∧v=.int i t)→IntsAre vs ks
 | [],[],_,_=>.nil
 | v::vs,k::ks,hl,h=>by
  obtain⟨i,t,e,rfl⟩:=h 0 v rfl
  cases e
  exact .cons _ _ (a2B (by simpa using hl) fun j u hu=>h (j+1) u hu)
theorem a5R{d:Addr}{ks:List Int}{us:List (i4×Value)}{Q:Value→Shared→Prop}(dd:s.heap.DictOf (v9 prog w) d us)(hk:us.map (·.1)=ks.map Sum.inl)(lo:(d == sysModules)=false)(hh:A.handled=none)(h64:ks.length<1000)
  (h:∀(s':Shared) (D:Addr) (vs:List Value) (ls:List Int) (c:Nat),(∀b o,s.heap.get? b=some o→s'.heap.get? b=some o)→s'.gens=s.gens→s'.os=s.os→s.heap.objs.size≤D→s'.heap.get? D=some (seqObj "list" vs.toArray c)→Vals (ls.map V.int) vs→vs.length<1000→ls.Pairwise (· < ·)→(∀k,k∈ls↔k∈ks)→Q (.ref D) s') :
  wpAny (model prog w) A (call (.builtin "sorted") [.ref d]) Q E s:=by
 have hul:us.length=ks.length:=by have:=congrArg List.length hk;simpa using this
 have hnd:ks.Nodup:=by
  obtain⟨o,es,ep,ho,_,_,_,_,nd⟩:=id dd
  rw[hk]at nd
  exact(List.pairwise_map.mp nd).imp fun z e=>z (by rw[e])
 refine Calls.call_function_entry kind_sorted plain_sorted entry_sorted (args_sorted1 _) ?_
 unfold Builtin.«sorted»
 refine wpAny_bind (m:=checkCount "sorted" 1 1 _) (wpAny_pure ?_)
 refine wpAny_bind (a4R (A:=A.in1) dd lo hh (by rw[hul,sizeLine_eq];omega) fun s1 vs kp hg hos hsz hl hv=>?_)
 have hi:IntsAre vs ks:=a2B (hl.trans hul) fun j v e=>by
  obtain⟨k,x,e1,e2⟩:=hv j v e
  have e3:(ks.map (Sum.inl:Int→i4))[j]? = some k:=by rw[← hk,List.getElem?_map,e1];rfl
  rw[List.getElem?_map]at e3
  cases e4:ks[j]? with
  | none=>rw[e4]at e3;cases e3
  | some i =>
   rw[e4]at e3;cases e3
   have e2:a0v (.inl i) v=true:=e2
   rcases v3 e2 with⟨i',t,e5,rfl⟩ | ⟨x,t,e5,rfl⟩
   ·cases e5;exact⟨i,t,rfl,rfl⟩
   ·cases e5
 have hle:vs.length<1000:=by omega
 refine wpAny_bind (wpAny_newList ?_ (by rw[sizeLine_eq];omega))
 refine a6W (s:=s1) (h1:=s1.heap.push (seqObj "list" vs.toArray 0)) (Heap.get?_push_size _ rfl) hi hle (fun b o e=>Heap.get?_push_of_some _ e) (fun b o e=>Nat.ne_of_lt (Heap.lt_size e)) fun h' p c kp2 hD hp hs=>?_
 have hp2:p.Perm (List.range ks.length):=by rw[← a4I hi];exact hp
 obtain⟨q1,q2⟩:=b3f hnd hp2 hs
 exact h { s1 with heap:=h' } s1.heap.objs.size _ _ c (fun b o e=>kp2 b o (kp b o e)) hg hos (Nat.le_of_lt hsz) hD (a2x p hi fun i m=>List.mem_range.mp (hp.mem_iff.mp m)) (by rw[List.length_map,hp.length_eq,List.length_range];exact hle) q1 q2
end
def a8d(td:TE):TE:=fun σ H Q=>td σ H fun x H1=>∃(a:Addr) (kvs:List (i4×V)) (ks:List Int),x=.ref a∧Rd H1 a (.dK kvs)∧kvs.map (·.1)=ks.map Sum.inl∧ks.length<1000 ∧
 ∀l (ls:List Int),H1 l=none→ls.Pairwise (· < ·)→(∀k,k∈ls↔k∈ks)→Q (.ref l) (upd H1 l (.lst (ls.map V.int)))
section
variable {X:Cx}
theorem a9m{e:Expr}{p pos:Pos}{td:TE}(hcalm:X.calm=true)(hg:Gl X "sorted")(hm:X.mg "sorted" = none)(ha:PE X e td)
  (he:starEach [e] X.env=(false,eval e X.env)::starEach [] X.env:=by rfl) (hplain:(backTo pos (starEach [] X.env)).any (·.1)=false:=by rfl) :
  PE X (.Call (.Name "sorted" p) [e] [] pos) (a8d td):=by
 intro pins s σ H Q I h
 have hh:X.A.handled=none:=I.ok.hd hcalm
 refine wpAny_Call_Name_kw (M5 I hg hm a1a ?_)
 refine PyProof.Rows.callWith_builtin1 ?_ he hplain
 rw[he]
 show wpAny _ _ (spliced ((false,eval e X.env)::backTo pos (starEach [] X.env))) _ _ s
 refine Calls.spliced_cons (i7 (ha pins s σ H _ I h) fun u s1 ⟨x,H1,I1,rx,a,kvs,ks,ex,hr,hk,h64,q⟩=>?_)
 subst ex
 cases (show u=Value.ref a from rx)
 refine Calls.spliced_nil ?_
 obtain⟨z,hd,us,rel,dd⟩:=a6X I1.hok hr
 refine a5R dd (by rw[← rel.keys];exact hk) hd hh h64 fun s3 D vs ls c kp hg3 ho3 hD hDo rvs hlen hpw hmem=>?_
 refine⟨.ref D,upd H1 D (.lst (ls.map V.int)),I1.laidD (s':=s3) kp hg3 ho3 hD ?_,rfl,q D ls (I1.hok.fresh hD) hpw hmem⟩
 refine⟨?_,vs,c,rvs,hDo⟩
 rw[rvs.length,sizeLine_eq]
 omega
end
section
variable {X:Cx}{tg:Expr}
theorem a3z{a b:Int}:Builtin.Range.rangeSize a b (-1)=(((a-b).toNat:Nat):Int):=by
 unfold Builtin.Range.rangeSize
 rw[if_neg (by decide)]
 by_cases z:a > b
 ·simp only[z,if_true]
  have:(a-b-1)/(-(-1):Int)=a-b-1:=by simp
  first
   | (rw[this];omega)
   | (simp;omega)
 ·simp only[z,if_false]
  omega
theorem a6Y{a b:Int}(ha : -(2 ^ 61)≤a)(ha':a<2 ^ 61)(hb : -(2 ^ 61)≤b)(hb':b<2 ^ 61):Builtin.Range.small a b (-1)=true:=by
 unfold Builtin.Range.small
 rw[a3z]
 have hn:(0:Int)≤((a-b).toNat:Int)∧((a-b).toNat:Int)<2 ^ 62:=by omega
 generalize ((a-b).toNat:Int)=N at *
 simp only[Builtin.Range.rangeFitsLong,Bool.and_eq_true,Bool.or_eq_true,decide_eq_true_eq,beq_iff_eq]
 refine⟨⟨⟨⟨⟨by omega,by omega⟩,by omega,by omega⟩,by decide,by decide⟩,by omega,by omega⟩,.inr ?_⟩
 rw[if_neg (by decide),Bool.and_eq_true,decide_eq_true_eq,decide_eq_true_eq]
 omega
theorem a6Z{pins:List (Addr×Obj)}{σ:St}{H:Hp}{s:Shared}{R:It→Hp→Prop}{E:Value→Shared→Prop}{lo hi:Int}{t u v:Tok}{tk:Nat}(I:Inv X pins σ H s)(h1 : -(2 ^ 61)≤lo)(h2:lo<2 ^ 61)(h3 : -(2 ^ 61)≤hi)(h4:hi<2 ^ 61)
  (q:R (Itg lo (-1) (lo-hi).toNat) H):wpAny (model X.prog X.w) X.A (pyIter (.ref s.heap.objs.size)) (PIE X pins σ tg R) E { s with heap:=s.heap.push { cls:=.type "range",data:=.fields #[.int lo t,.int hi u,.int (-1) v] },toks:=tk }:=by
 refine wpAny_pyIter_range (IsRange.new ..) (a6Y h1 h2 h3 h4) ?_
 have I1:Inv X pins σ H { s with heap:=s.heap.push { cls:=.type "range",data:=.fields #[.int lo t,.int hi u,.int (-1) v] },toks:=tk }:=I.kept fun b o e=>Heap.get?_push_of_some _ e
 refine⟨(s.heap.push { cls:=.type "range",data:=.fields #[.int lo t,.int hi u,.int (-1) v] }).objs.size,[(s.heap.push { cls:=.type "range",data:=.fields #[.int lo t,.int hi u,.int (-1) v] }).objs.size],_,_,H,rfl,
  I1.kept (t':=tk) fun b o e=>Heap.get?_push_of_some _ e,a5A _ lo (-1) (lo-hi).toNat,?_,fun b hb=>?_,q⟩
 ·have e1:lo+((0:Nat):Int)*(-1)=lo:=by simp
  have e2:(((lo-hi).toNat:Nat):Int)-((0:Nat):Int)=Builtin.Range.rangeSize lo hi (-1):=by rw[a3z];omega
  show IsRangeIter _ _ (lo+((0:Nat):Int)*(-1)) ((((lo-hi).toNat:Nat):Int)-((0:Nat):Int)) (-1)
  rw[e1,e2]
  exact Heap.get?_push_size _ rfl
 ·have e:b=(s.heap.push { cls:=.type "range",data:=.fields #[.int lo t,.int hi u,.int (-1) v] }).objs.size:=by simpa using hb
  subst e
  exact I1.fpOk (Nat.le_refl _) (I1.hok.fresh (Nat.le_refl _))
def b0C(ta:TA):TI:=fun σ H R=>ta σ H fun vs H1=>∃i j:Int,vs=[.int i,.int j,.int (-1)]∧(-(2 ^ 61)≤i∧i<2 ^ 61∧-(2 ^ 61)≤j∧j<2 ^ 61)∧R (Itg i (-1) (i-j).toNat) H1
theorem a8e{a b c:Expr}{ta:TA}{p pos:Pos}(hg:Gl X "range")(hm:X.mg "range" = none)(ha:PA X [a,b,c] ta)(hs:starEach [a,b,c] X.env=[(false,eval a X.env),(false,eval b X.env),(false,eval c X.env)]:=by rfl)(hs2:starEach [b,c] X.env=[(false,eval b X.env),(false,eval c X.env)]:=by rfl) :
  PI X tg (.Call (.Name "range" p) [a,b,c] [] pos) (b0C ta):=by
 intro pins s σ H R I h
 refine Call_ (M5 I hg hm boot_range (PyProof.Rows.callWith_type1 (i7 (ha pos pins s σ H _ I h) fun us s1 ⟨vs,H1,I1,r1,q1⟩=>?_) (by rw[hs,hs2]) (by rw[hs2];rfl)))
 obtain⟨i,j,e,⟨q3,q4,q5,q6⟩,q⟩:=q1
 subst e
 cases r1 with
 | cons r rr =>
  cases rr with
  | cons r' rr =>
   cases rr with
   | cons r'' rr =>
    cases rr
    obtain⟨t,rfl⟩:=r
    obtain⟨t',rfl⟩:=r'
    obtain⟨t'',rfl⟩:=r''
    exact call_range_3 (by omega) (a6Z I1 q3 q4 q5 q6 q) (Or.inl (PyProof.noPylong_small (by omega)))
end
abbrev DK:=Sum (List i4) (List (List i4))
def P3(ks:DK)(xs:List V):HO:=match ks with
 | .inl ks=>.dK (ks.zip xs)
 | .inr ks=>.dT (ks.zip xs)
def W7:DK→Nat
 | .inl ks=>ks.length
 | .inr ks=>ks.length
theorem a24{ks:DK}{xs ys:List V}:P3 ks xs≠.lst ys:=by cases ks<;>exact fun z=>nomatch z
inductive D where
 | non | bl (b:Bool) | int (i:Int) | str (x:Str) | ty (n:String) | cls (n:Str) | tup (ds:List D) | lst (ds:List D) | scr (ns:List Int) | exc (c:Str) | obj (c:Str) (ns:List Str) (ds:List D) | dic (ks:DK) (ds:List D)
mutual
def Rp(K:W.Frag)(cl:Str→Addr)(F:Hp):D→V→Prop
 | .non,v=>v=.non
 | .bl b,v=>v=.bl b
 | .int i,v=>v=.int i
 | .str x,v=>v=.str x
 | .ty n,v=>v=.ty n
 | .cls n,v=>v=.ref (cl n)
 | .tup ds,v=>∃a xs,v=.ref a∧F a=some (.tup xs)∧Rps K cl F ds xs
 | .lst ds,v=>∃a xs,v=.ref a∧F a=some (.lst xs)∧Rps K cl F ds xs
 | .scr ns,v=>∃a,v=.ref a∧Scr K F a (ns.map V.int)
 | .exc c,v=>∃a cx,v=.ref a∧F a=some (a6P a (.ref (cl c)) cx)
 | .obj c ns ds,v=>∃a dx xs,v=.ref a∧F a=some (.ins (cl c) dx (ns.zip xs))∧ns.length=xs.length∧Rps K cl F ds xs
 | .dic ks ds,v=>∃a xs,v=.ref a∧F a=some (P3 ks xs)∧W7 ks=xs.length∧Rps K cl F ds xs
def Rps(K:W.Frag)(cl:Str→Addr)(F:Hp):List D→List V→Prop
 | [],vs=>vs=[]
 | d::ds,vs=>∃v r,vs=v::r∧Rp K cl F d v∧Rps K cl F ds r
end
section
variable {K:W.Frag}{cl:Str→Addr}{F F' H H':Hp}
mutual
theorem Rp.mono(g:Same F F'):∀(d:D) (v:V),Rp K cl F d v→Rp K cl F' d v
 | .non,_,h=>by simpa only[Rp]using h
 | .bl _,_,h=>by simpa only[Rp]using h
 | .int _,_,h=>by simpa only[Rp]using h
 | .str _,_,h=>by simpa only[Rp]using h
 | .ty _,_,h=>by simpa only[Rp]using h
 | .cls _,_,h=>by simpa only[Rp]using h
 | .tup ds,v,h=>by
  simp only[Rp]at h ⊢
  obtain⟨a,xs,e,h1,h2⟩:=h
  exact⟨a,xs,e,g _ _ h1,Rps.mono g ds xs h2⟩
 | .lst ds,v,h=>by
  simp only[Rp]at h ⊢
  obtain⟨a,xs,e,h1,h2⟩:=h
  exact⟨a,xs,e,g _ _ h1,Rps.mono g ds xs h2⟩
 | .scr ns,v,h=>by
  simp only[Rp]at h ⊢
  obtain⟨a,e,h1⟩:=h
  exact⟨a,e,h1.same g⟩
 | .exc c,v,h=>by
  simp only[Rp]at h ⊢
  obtain⟨a,cx,e,h1⟩:=h
  exact⟨a,cx,e,g _ _ h1⟩
 | .obj c ns ds,v,h=>by
  simp only[Rp]at h ⊢
  obtain⟨a,dx,xs,e,h1,hl,h2⟩:=h
  exact⟨a,dx,xs,e,g _ _ h1,hl,Rps.mono g ds xs h2⟩
 | .dic ks ds,v,h=>by
  simp only[Rp]at h ⊢
  obtain⟨a,xs,e,h1,hl,h2⟩:=h
  exact⟨a,xs,e,g _ _ h1,hl,Rps.mono g ds xs h2⟩
theorem Rps.mono(g:Same F F'):∀(ds:List D) (vs:List V),Rps K cl F ds vs→Rps K cl F' ds vs
 | [],_,h=>by simpa only[Rps]using h
 | d::ds,vs,h=>by
  simp only[Rps]at h ⊢
  obtain⟨v,r,e,h1,h2⟩:=h
  exact⟨v,r,e,Rp.mono g d v h1,Rps.mono g ds r h2⟩
end
theorem Rps.nil:Rps K cl F [] []:=by simp only[Rps]
theorem Rps.cons{d:D}{v:V}{ds:List D}{vs:List V}(h:Rp K cl F d v)(t:Rps K cl F ds vs):Rps K cl F (d::ds) (v::vs):=by simp only[Rps];exact⟨v,vs,rfl,h,t⟩
theorem Rps.inv{d:D}{ds:List D}{vs:List V}(h:Rps K cl F (d::ds) vs):∃v r,vs=v::r∧Rp K cl F d v∧Rps K cl F ds r:=by simpa only[Rps]using h
theorem Rps.inv0{vs:List V}(h:Rps K cl F [] vs):vs=[]:=by simpa only[Rps]using h
theorem Rps.length:∀{ds:List D} {vs:List V},Rps K cl F ds vs→ds.length=vs.length
 | [],vs,h=>by rw[h.inv0];rfl
 | d::ds,vs,h=>by obtain⟨v,r,rfl,_,t⟩:=h.inv;simp[t.length]
theorem Rps.get:∀{ds:List D} {vs:List V} {i:Nat} {d:D},Rps K cl F ds vs→ds[i]? = some d→∃v,vs[i]? = some v∧Rp K cl F d v
 | [],_,_,_,_,e=>by simp at e
 | d::ds,vs,0,x,h,e=>by
  obtain⟨v,r,rfl,h1,_⟩:=h.inv
  simp at e;subst e
  exact⟨v,rfl,h1⟩
 | d::ds,vs,i+1,x,h,e=>by
  obtain⟨v,r,rfl,_,t⟩:=h.inv
  obtain⟨u,h1,h2⟩:=t.get (i:=i) (d:=x) (by simpa using e)
  exact⟨u,by simpa using h1,h2⟩
theorem Rps.get'{ds:List D}{vs:List V}{i:Nat}{v:V}(h:Rps K cl F ds vs)(e:vs[i]? = some v):∃d,ds[i]? = some d∧Rp K cl F d v:=by
 have hi:i<ds.length:=by
  have:=(List.getElem?_eq_some_iff.mp e).1
  rw[h.length];exact this
 obtain⟨u,h1,h2⟩:=h.get (List.getElem?_eq_getElem hi)
 rw[e]at h1;cases h1
 exact⟨_,List.getElem?_eq_getElem hi,h2⟩
theorem Rps.append:∀{ds es:List D} {vs us:List V},Rps K cl F ds vs→Rps K cl F es us→Rps K cl F (ds++es) (vs++us)
 | [],_,_,_,h,t=>by rw[h.inv0];exact t
 | d::ds,_,_,_,h,t=>by obtain⟨v,r,rfl,h1,h2⟩:=h.inv;exact .cons h1 (h2.append t)
theorem Rps.one{d:D}{v:V}(h:Rp K cl F d v):Rps K cl F [d] [v]:=.cons h .nil
theorem Rps.set{d:D}{v:V}(r:Rp K cl F d v):∀{ds:List D} {vs:List V} (i:Nat),Rps K cl F ds vs→Rps K cl F (ds.set i d) (vs.set i v)
 | [],_,_,h=>by rw[h.inv0];exact .nil
 | _::_,_,0,h=>by obtain⟨_,_,rfl,_,h2⟩:=h.inv;exact .cons r h2
 | _::_,_,i+1,h=>by obtain⟨_,_,rfl,h1,h2⟩:=h.inv;exact .cons h1 (h2.set r i)
theorem Rps.drop:∀{ds:List D} {vs:List V} (n:Nat),Rps K cl F ds vs→Rps K cl F (ds.drop n) (vs.drop n)
 | _,_,0,h=>h
 | [],_,_+1,h=>by rw[h.inv0];exact .nil
 | _::_,_,n+1,h=>by obtain⟨_,_,rfl,_,h2⟩:=h.inv;exact h2.drop n
theorem Rps.take:∀{ds:List D} {vs:List V} (n:Nat),Rps K cl F ds vs→Rps K cl F (ds.take n) (vs.take n)
 | _,_,0,h=>.nil
 | [],_,_+1,h=>by rw[h.inv0];exact .nil
 | _::_,_,n+1,h=>by obtain⟨_,_,rfl,h1,h2⟩:=h.inv;exact .cons h1 (h2.take n)
theorem Rps.ints:∀{ns:List Int} {vs:List V},Rps K cl F (ns.map D.int) vs→vs=ns.map V.int
 | [],_,h=>h.inv0
 | n::ns,_,h=>by
  obtain⟨v,r,rfl,h1,h2⟩:=h.inv
  rw[h2.ints]
  simp only[Rp]at h1
  rw[h1];rfl
theorem Rps.ofInts:∀{ns:List Int},Rps K cl F (ns.map D.int) (ns.map V.int)
 | []=>.nil
 | _::_=>.cons (by simp only[Rp]) Rps.ofInts
theorem Rps.bls:∀{bs:List Bool} {vs:List V},Rps K cl F (bs.map D.bl) vs→vs=bs.map V.bl
 | [],_,h=>h.inv0
 | n::ns,_,h=>by
  obtain⟨v,r,rfl,h1,h2⟩:=h.inv
  rw[h2.bls]
  simp only[Rp]at h1
  rw[h1];rfl
theorem Rps.strs:∀{bs:List Str} {vs:List V},Rps K cl F (bs.map D.str) vs→vs=bs.map V.str
 | [],_,h=>h.inv0
 | n::ns,_,h=>by
  obtain⟨v,r,rfl,h1,h2⟩:=h.inv
  rw[h2.strs]
  simp only[Rp]at h1
  rw[h1];rfl
end
inductive Sl where | no | fz (d:D) | ow (ds:List D) | hd (ds:List D) | od (ks:DK) (ds:List D) | hk (ks:DK) (ds:List D)
abbrev DE:=List Sl
def Mu(env:DE)(i:Nat):Prop:=∃ds:List D,env[i]? = some (.ow ds)∨env[i]? = some (.hd ds)
def isO:Sl→Prop
 | .ow _=>True
 | .od _ _=>True
 | _=>False
def M8:Sl→DK→List D→Prop
 | .od ks ds,ks',ds'=>ks=ks'∧ds=ds'
 | .hk ks ds,ks',ds'=>ks=ks'∧ds=ds'
 | _,_,_=>False
def Ow(σ:St)(env:DE)(a:Addr):Prop:=∃(i:Nat) (s:Sl),isO s∧env[i]? = some s∧σ[i]? = some (some (V.ref a))
structure RelOd(K:W.Frag)(cl:Str→Addr)(σ:St)(H F:Hp)(env:DE):Prop where
 at_:∀(i:Nat) (s:Sl) (ks:DK) (ds:List D),env[i]? = some s→M8 s ks ds→∃a xs,σ[i]? = some (some (.ref a))∧H a=some (P3 ks xs)∧F a=none∧W7 ks=xs.length∧Rps K cl F ds xs
 inj:∀(i j:Nat) (s t:Sl) (ks ls:DK) (ds es:List D) (a:Addr),env[i]? = some s→M8 s ks ds→env[j]? = some t→M8 t ls es→σ[i]? = some (some (.ref a))→σ[j]? = some (some (.ref a))→i=j
structure Rel(K:W.Frag)(cl:Str→Addr)(σ:St)(H F:Hp)(env:DE):Prop where
 sub:Same F H
 len:σ.length=env.length
 fz:∀(i:Nat) (d:D),env[i]? = some (.fz d)→∃v,σ[i]? = some (some v)∧Rp K cl F d v
 mu:∀(i:Nat) (ds:List D),(env[i]? = some (.ow ds)∨env[i]? = some (.hd ds))→∃a xs,σ[i]? = some (some (.ref a))∧H a=some (.lst xs)∧F a=none∧Rps K cl F ds xs
 inj:∀(i j:Nat) (a:Addr),Mu env i→Mu env j→σ[i]? = some (some (.ref a))→σ[j]? = some (some (.ref a))→i=j
 od:RelOd K cl σ H F env
structure Frm(σ:St)(H F:Hp)(env:DE)(σ':St)(H' F':Hp)(env':DE):Prop where
 fz:Same F F'
 hid:∀a o,H a=some o→F a=none→¬Ow σ env a→H' a=some o∧F' a=none∧¬Ow σ' env' a
 keep:∀(i:Nat) (ds:List D),env[i]? = some (.hd ds)→env'[i]? = some (.hd ds)∧σ'[i]? = σ[i]?
 dom:∀a,H' a=none→H a=none
structure Gr(H F H' F':Hp):Prop where
 fz:Same F F'
 sub:Same F' H'
 hid:∀a o,H a=some o→F a=none→H' a=some o∧F' a=none
section
variable {K:W.Frag}{cl:Str→Addr}{σ σ' σ'':St}{H H' H'' F F' F'':Hp}{env env' env'':DE}
theorem RelOd.to(R:RelOd K cl σ H F env)(he:∀(i:Nat) (s:Sl) (ks:DK) (ds:List D),env'[i]? = some s→M8 s ks ds→∃t,env[i]? = some t∧M8 t ks ds∧σ'[i]? = σ[i]?)
  (hh:∀(i:Nat) (a:Addr) (ks:DK) (xs:List V),σ[i]? = some (some (.ref a))→H a=some (P3 ks xs)→F a=none→H' a=some (P3 ks xs)∧F' a=none) (sF:Same F F'):RelOd K cl σ' H' F' env' :=
 ⟨fun i s ks ds h d=>by
  obtain⟨t,h1,d1,e1⟩:=he i s ks ds h d
  obtain⟨a,xs,e,hH,hF,hn,r⟩:=R.at_ i t ks ds h1 d1
  obtain⟨h2,f2⟩:=hh i a ks xs e hH hF
  exact⟨a,xs,by rw[e1];exact e,h2,f2,hn,r.mono sF⟩,
  fun i j s t ks ls ds es a hi di hj dj ei ej=>by
  obtain⟨s1,h1,d1,e1⟩:=he i s ks ds hi di
  obtain⟨t1,h2,d2,e2⟩:=he j t ls es hj dj
  exact R.inj i j s1 t1 ks ls ds es a h1 d1 h2 d2 (by rw[← e1];exact ei) (by rw[← e2];exact ej)⟩
theorem RelOd.gr(R:RelOd K cl σ H F env)(g:Gr H F H' F'):RelOd K cl σ H' F' env:=R.to (fun i s ks ds h d=>⟨s,h,d,rfl⟩) (fun _ a ks xs _ h f=>g.hid a _ h f) g.fz
theorem RelOd.set{i:Nat}{s:Sl}{v:Option V}(R:RelOd K cl σ H F env)(n:∀ks ds,¬M8 s ks ds):RelOd K cl (σ.set i v) H F (env.set i s) :=
 R.to (fun j t ks ds h d=>by
  by_cases z:j=i
  ·subst z
   have hj:j<env.length:=by have:=(List.getElem?_eq_some_iff.mp h).1;rwa [List.length_set]at this
   rw[List.getElem?_set_self hj]at h;cases h;exact absurd d (n ks ds)
  ·rw[List.getElem?_set_ne (Ne.symm z)]at h
   exact⟨t,h,d,List.getElem?_set_ne (Ne.symm z)⟩) (fun _ a ks xs _ h f=>⟨h,f⟩) (Same.refl _)
theorem RelOd.setE{i:Nat}{s:Sl}(R:RelOd K cl σ H F env)(n:∀ks ds,¬M8 s ks ds):RelOd K cl σ H F (env.set i s) :=
 R.to (fun j t ks ds h d=>by
  by_cases z:j=i
  ·subst z
   have hj:j<env.length:=by have:=(List.getElem?_eq_some_iff.mp h).1;rwa [List.length_set]at this
   rw[List.getElem?_set_self hj]at h;cases h;exact absurd d (n ks ds)
  ·rw[List.getElem?_set_ne (Ne.symm z)]at h
   exact⟨t,h,d,rfl⟩) (fun _ a ks xs _ h f=>⟨h,f⟩) (Same.refl _)
theorem RelOd.lst(R:RelOd K cl σ H F env)(hh:∀(a:Addr) (o:HO),(∀xs,o≠.lst xs)→H a=some o→F a=none→H' a=some o∧F' a=none)(sF:Same F F'):RelOd K cl σ H' F' env :=
 R.to (fun i s ks ds h d=>⟨s,h,d,rfl⟩) (fun _ a ks xs _ h f=>hh a _ (fun _=>a24) h f) sF
theorem RelOd.own(R:RelOd K cl σ H F env)(hh:∀(i:Nat) (s:Sl) (ks:DK) (ds:List D) (a:Addr) (xs:List V),env[i]? = some s→M8 s ks ds→σ[i]? = some (some (.ref a))→H a=some (P3 ks xs)→F a=none→H' a=some (P3 ks xs)∧F' a=none)(sF:Same F F'):RelOd K cl σ H' F' env :=
 ⟨fun i s ks ds h d=>by
  obtain⟨a,xs,e,hH,hF,hn,r⟩:=R.at_ i s ks ds h d
  obtain⟨h2,f2⟩:=hh i s ks ds a xs h d e hH hF
  exact⟨a,xs,e,h2,f2,hn,r.mono sF⟩,R.inj⟩
theorem RelOd.frzL{a:Addr}{xs:List V}{o:HO}(R:RelOd K cl σ H F env)(hH:H a=some (.lst xs))(hF:F a=none):RelOd K cl σ H (upd F a o) env :=
 R.lst (fun c u n h f=>⟨h,by rw[b9 (fun z=>by rw[z,hH]at h;exact n xs (Option.some.inj h).symm)];exact f⟩) (Q8 hF _)
theorem RelOd.updL{a:Addr}{xs:List V}{o:HO}(R:RelOd K cl σ H F env)(hH:H a=some (.lst xs)):RelOd K cl σ (upd H a o) F env :=
 R.lst (fun c u n h f=>⟨by rw[b9 (fun z=>by rw[z,hH]at h;exact n xs (Option.some.inj h).symm)];exact h,f⟩) (Same.refl _)
theorem RelOd.newO{a:Addr}{o:HO}(R:RelOd K cl σ H F env)(hH:H a=none):RelOd K cl σ (upd H a o) F env :=
 R.lst (fun c u n h f=>⟨by rw[b9 (fun z=>by rw[z,hH]at h;cases h)];exact h,f⟩) (Same.refl _)
theorem RelOd.none(n:∀(i:Nat) (s:Sl) ks ds,env[i]? = some s→¬M8 s ks ds):RelOd K cl σ H F env:=⟨fun i s ks ds h d=>absurd d (n i s ks ds h),fun i j s t ks ls ds es a h d=>absurd d (n i s ks ds h)⟩
theorem a2C{d:D}:∀ks ds,¬M8 (.fz d) ks ds:=fun _ _ h=>h
theorem a0G{d:List D}:∀ks ds,¬M8 (.ow d) ks ds:=fun _ _ h=>h
theorem a60{d:List D}:∀ks ds,¬M8 (.hd d) ks ds:=fun _ _ h=>h
theorem a61:∀ks ds,¬M8 .no ks ds:=fun _ _ h=>h
theorem Frm.refl:Frm σ H F env σ H F env:=⟨Same.refl _,fun _ _ h f o=>⟨h,f,o⟩,fun _ _ h=>⟨h,rfl⟩,fun _ h=>h⟩
theorem Frm.trans(a:Frm σ H F env σ' H' F' env')(b:Frm σ' H' F' env' σ'' H'' F'' env''):Frm σ H F env σ'' H'' F'' env'' :=
 ⟨a.fz.trans b.fz,fun x o h f w=>by obtain⟨h1,f1,w1⟩:=a.hid x o h f w;exact b.hid x o h1 f1 w1,
  fun i ds h=>by obtain⟨h1,e1⟩:=a.keep i ds h;obtain⟨h2,e2⟩:=b.keep i ds h1;exact⟨h2,e2.trans e1⟩,fun x h=>a.dom x (b.dom x h)⟩
theorem Gr.dom(g:Gr H F H' F')(a:Addr)(h:H' a=none):H a=none:=by
 cases e:H a with
 | none=>rfl
 | some o =>
  cases f:F a with
  | none=>rw[(g.hid a o e f).1]at h;cases h
  | some u=>rw[g.sub _ _ (g.fz _ _ f)]at h;cases h
theorem Rel.gr(R:Rel K cl σ H F env)(g:Gr H F H' F'):Rel K cl σ H' F' env :=
 ⟨g.sub,R.len,fun i d h=>by obtain⟨v,e,r⟩:=R.fz i d h;exact⟨v,e,r.mono g.fz⟩,
  fun i ds h=>by obtain⟨a,xs,e,hH,hF,r⟩:=R.mu i ds h;obtain⟨h1,f1⟩:=g.hid a _ hH hF;exact⟨a,xs,e,h1,f1,r.mono g.fz⟩,R.inj,R.od.gr g⟩
theorem Rel.frm(R:Rel K cl σ H F env)(g:Gr H F H' F'):Frm σ H F env σ H' F' env :=
 ⟨g.fz,fun a o h f w=>by obtain⟨h1,f1⟩:=g.hid a o h f;exact⟨h1,f1,w⟩,fun _ _ h=>⟨h,rfl⟩,g.dom⟩
theorem Gr.refl(s:Same F H):Gr H F H F:=⟨Same.refl _,s,fun _ _ h f=>⟨h,f⟩⟩
theorem Gr.trans(a:Gr H F H' F')(b:Gr H' F' H'' F''):Gr H F H'' F'':=⟨a.fz.trans b.fz,b.sub,fun x o h f=>by obtain⟨h1,f1⟩:=a.hid x o h f;exact b.hid x o h1 f1⟩
theorem Gr.new{p:Addr}{o:HO}(s:Same F H)(hp:H p=none):Gr H F (upd H p o) (upd F p o):=by
 have fp:F p=none:=s.free hp
 refine⟨Q8 fp o,fun b u e=>?_,fun a u e f=>?_⟩
 ·by_cases z:b=p
  ·subst z;rw[i0]at e ⊢;exact e
  ·rw[b9 z]at e ⊢;exact s _ _ e
 ·have z:a≠p:=fun z=>by rw[z,hp]at e;cases e
  rw[b9 z,b9 z];exact⟨e,f⟩
theorem Rel.freeze{i:Nat}{ds:List D}(R:Rel K cl σ H F env)(h:env[i]? = some (.ow ds)):∃a F',σ[i]? = some (some (.ref a))∧Frm σ H F env σ H F' (env.set i (.fz (.lst ds)))∧Rel K cl σ H F' (env.set i (.fz (.lst ds)))∧Rp K cl F' (.lst ds) (.ref a):=by
 obtain⟨a,xs,e,hH,hF,r⟩:=R.mu i ds (.inl h)
 have hi:i<env.length:=(List.getElem?_eq_some_iff.mp h).1
 have sF:Same F (upd F a (.lst xs)):=Q8 hF _
 have oth:∀j,j≠i→(env.set i (.fz (.lst ds)))[j]? = env[j]?:=fun j hj=>List.getElem?_set_ne (Ne.symm hj)
 have self:(env.set i (.fz (.lst ds)))[i]? = some (.fz (.lst ds)):=List.getElem?_set_self hi
 have mui:∀j,Mu (env.set i (.fz (.lst ds))) j→j≠i∧Mu env j:=fun j ⟨es,q⟩=>by
  by_cases z:j=i
  ·subst z;rw[self]at q;rcases q with q | q<;>cases q
  ·rw[oth j z]at q;exact⟨z,es,q⟩
 have rl:Rp K cl (upd F a (.lst xs)) (.lst ds) (.ref a):=by simp only[Rp];exact⟨a,xs,rfl,i0,r.mono sF⟩
 refine⟨a,upd F a (.lst xs),e,⟨sF,fun b o hb fb w=>?_,fun j es q=>?_,fun _ h=>h⟩,⟨fun b o q=>?_,by rw[List.length_set];exact R.len,fun j d q=>?_,fun j es q=>?_,fun j k b hj hk e1 e2=>R.inj j k b (mui j hj).2 (mui k hk).2 e1 e2,(R.od.lst (fun c u n h f=>⟨h,by rw[b9 (fun z=>by rw[z,hH]at h;exact n xs (Option.some.inj h).symm)];exact f⟩) sF).setE a2C⟩,rl⟩
 ·have z:b≠a:=fun z=>w ⟨i,.ow ds,True.intro,h,by rw[z];exact e⟩
  refine⟨hb,by rw[b9 z];exact fb,fun⟨j,es,oo,q,e1⟩=>?_⟩
  by_cases y:j=i
  ·subst y;rw[self]at q;cases q;exact oo
  ·rw[oth j y]at q;exact w ⟨j,es,oo,q,e1⟩
 ·have z:j≠i:=fun z=>by subst z;rw[h]at q;cases q
  exact⟨by rw[oth j z];exact q,rfl⟩
 ·by_cases z:b=a
  ·subst z;rw[i0]at q;cases q;exact hH
  ·rw[b9 z]at q;exact R.sub _ _ q
 ·by_cases z:j=i
  ·subst z;rw[self]at q;cases q;exact⟨_,e,rl⟩
  ·rw[oth j z]at q;obtain⟨v,e1,r1⟩:=R.fz j d q;exact⟨v,e1,r1.mono sF⟩
 ·have z:j≠i:=(mui j ⟨es,q⟩).1
  rw[oth j z]at q
  obtain⟨b,ys,e1,h1,f1,r1⟩:=R.mu j es q
  have nb:b≠a:=fun y=>z (R.inj j i b ⟨es,q⟩ ⟨ds,.inl h⟩ e1 (by rw[y];exact e))
  exact⟨b,ys,e1,h1,by rw[b9 nb];exact f1,r1.mono sF⟩
theorem Rel.put{i:Nat}{d:D}{v:V}(R:Rel K cl σ H F env)(hi:i<env.length)(nh:∀ds,env[i]?≠some (.hd ds))(r:Rp K cl F d v):Rel K cl (σ.set i (some v)) H F (env.set i (.fz d)):=by
 refine⟨R.sub,by rw[List.length_set,List.length_set];exact R.len,fun j e q=>?_,fun j es q=>?_,fun j k b hj hk e1 e2=>?_,R.od.set a2C⟩
 ·by_cases z:j=i
  ·subst z
   rw[List.getElem?_set_self hi]at q;cases q
   exact⟨v,List.getElem?_set_self (by rw[R.len];exact hi),r⟩
  ·rw[List.getElem?_set_ne (Ne.symm z)]at q
   obtain⟨u,e1,r1⟩:=R.fz j e q
   exact⟨u,by rw[List.getElem?_set_ne (Ne.symm z)];exact e1,r1⟩
 ·have z:j≠i:=fun z=>by
   subst z
   rw[List.getElem?_set_self hi]at q
   rcases q with q | q<;>cases q
  rw[List.getElem?_set_ne (Ne.symm z)]at q
  obtain⟨a,xs,e1,h1,f1,r1⟩:=R.mu j es q
  exact⟨a,xs,by rw[List.getElem?_set_ne (Ne.symm z)];exact e1,h1,f1,r1⟩
 ·have nz:∀j,Mu (env.set i (.fz d)) j→j≠i∧Mu env j:=fun j ⟨es,q⟩=>by
   by_cases z:j=i
   ·subst z
    rw[List.getElem?_set_self hi]at q
    rcases q with q | q<;>cases q
   ·rw[List.getElem?_set_ne (Ne.symm z)]at q;exact⟨z,es,q⟩
  obtain⟨zj,mj⟩:=nz j hj
  obtain⟨zk,mk⟩:=nz k hk
  rw[List.getElem?_set_ne (Ne.symm zj)]at e1
  rw[List.getElem?_set_ne (Ne.symm zk)]at e2
  exact R.inj j k b mj mk e1 e2
theorem Rel.putO{i:Nat}{ds:List D}{a:Addr}{xs:List V}(R:Rel K cl σ H F env)(hi:i<env.length)(hH:H a=some (.lst xs))(hF:F a=none)(na:∀j,Mu env j→σ[j]?≠some (some (.ref a)))(r:Rps K cl F ds xs):Rel K cl (σ.set i (some (.ref a))) H F (env.set i (.ow ds)):=by
 have his:i<σ.length:=by rw[R.len];exact hi
 have nz:∀j,j≠i→Mu (env.set i (.ow ds)) j→Mu env j:=fun j z ⟨es,q⟩=>by
  rw[List.getElem?_set_ne (Ne.symm z)]at q;exact⟨es,q⟩
 refine⟨R.sub,by rw[List.length_set,List.length_set];exact R.len,fun j e q=>?_,fun j es q=>?_,fun j k b hj hk e1 e2=>?_,R.od.set a0G⟩
 ·have z:j≠i:=fun z=>by subst z;rw[List.getElem?_set_self hi]at q;cases q
  rw[List.getElem?_set_ne (Ne.symm z)]at q
  obtain⟨u,e1,r1⟩:=R.fz j e q
  exact⟨u,by rw[List.getElem?_set_ne (Ne.symm z)];exact e1,r1⟩
 ·by_cases z:j=i
  ·subst z
   rw[List.getElem?_set_self hi]at q
   rcases q with q | q
   ·cases q;exact⟨a,xs,List.getElem?_set_self his,hH,hF,r⟩
   ·cases q
  ·rw[List.getElem?_set_ne (Ne.symm z)]at q
   obtain⟨b,ys,e1,h1,f1,r1⟩:=R.mu j es q
   exact⟨b,ys,by rw[List.getElem?_set_ne (Ne.symm z)];exact e1,h1,f1,r1⟩
 ·by_cases zj:j=i
  ·by_cases zk:k=i
   ·rw[zj,zk]
   ·subst zj
    rw[List.getElem?_set_self his]at e1
    rw[List.getElem?_set_ne (Ne.symm zk)]at e2
    cases e1
    exact absurd e2 (na k (nz k zk hk))
  ·rw[List.getElem?_set_ne (Ne.symm zj)]at e1
   by_cases zk:k=i
   ·subst zk
    rw[List.getElem?_set_self his]at e2
    cases e2
    exact absurd e1 (na j (nz j zj hj))
   ·rw[List.getElem?_set_ne (Ne.symm zk)]at e2
    exact R.inj j k b (nz j zj hj) (nz k zk hk) e1 e2
theorem Frm.put{i:Nat}{d:D}{x:Option V}(nh:∀ds,env[i]?≠some (.hd ds)):Frm σ H F env (σ.set i x) H F (env.set i (.fz d)):=by
 refine⟨Same.refl _,fun a o h f w=>⟨h,f,fun⟨j,ds,oo,q,e⟩=>?_⟩,fun j ds q=>?_,fun _ h=>h⟩
 ·by_cases z:j=i
  ·subst z
   have hj:j<env.length:=by have:=(List.getElem?_eq_some_iff.mp q).1;rwa [List.length_set]at this
   rw[List.getElem?_set_self hj]at q
   cases q;exact oo
  ·rw[List.getElem?_set_ne (Ne.symm z)]at q e
   exact w ⟨j,ds,oo,q,e⟩
 ·have z:j≠i:=fun z=>by subst z;exact nh ds q
  rw[List.getElem?_set_ne (Ne.symm z),List.getElem?_set_ne (Ne.symm z)]
  exact⟨q,rfl⟩
theorem Frm.putO{i:Nat}{s0:Sl}{a:Addr}(f:Frm σ H F env σ' H' F' env')(ha:H a=none)(nh:∀ds,env'[i]?≠some (.hd ds)):Frm σ H F env (σ'.set i (some (.ref a))) H' F' (env'.set i s0):=by
 refine⟨f.fz,fun b o h g w=>?_,fun j ds q=>?_,f.dom⟩
 ·obtain⟨h1,f1,w1⟩:=f.hid b o h g w
  refine⟨h1,f1,fun⟨j,ds,oo,q,e⟩=>?_⟩
  by_cases z:j=i
  ·subst z
   have hj:j<σ'.length:=by have:=(List.getElem?_eq_some_iff.mp e).1;rwa [List.length_set]at this
   rw[List.getElem?_set_self hj]at e
   cases e
   rw[ha]at h;cases h
  ·rw[List.getElem?_set_ne (Ne.symm z)]at q e
   exact w1 ⟨j,ds,oo,q,e⟩
 ·obtain⟨q1,e1⟩:=f.keep j ds q
  have z:j≠i:=fun z=>by subst z;exact nh ds q1
  rw[List.getElem?_set_ne (Ne.symm z),List.getElem?_set_ne (Ne.symm z)]
  exact⟨q1,e1⟩
end
inductive R(α:Type) where | ok (a:α) (e:DE) | ex (c:Str)
inductive RS where | nx (e:DE) | rt (d:D) | ro (ds:List D) | rz (dss:List (List D)) | rp (n:Int) (ds:List D) | bk (e:DE) | ct (e:DE) | ex (c:Str)
def bnd{α β:Type}(x:Option (R α))(k:α→DE→Option (R β)):Option (R β):=match x with
 | none=>none
 | some (.ok a e)=>k a e
 | some (.ex c)=>some (.ex c)
def D3{α:Type}(x:Option (R α))(k:α→DE→Option RS):Option RS:=match x with
 | none=>none
 | some (.ok a e)=>k a e
 | some (.ex c)=>some (.ex c)
def Z1{α:Type}(x:Option α)(e:DE):Option (R α):=match x with
 | none=>none
 | some a=>some (.ok a e)
@[simp] theorem T3{α β:Type}(a:α)(e:DE)(k:α→DE→Option (R β)):bnd (some (.ok a e)) k=k a e:=rfl
@[simp] theorem b3t{α β:Type}(c:Str)(k:α→DE→Option (R β)):bnd (some (.ex c)) k=some (.ex c):=rfl
@[simp] theorem b3u{α β:Type}(k:α→DE→Option (R β)):bnd (none:Option (R α)) k=none:=rfl
@[simp] theorem T4{α:Type}(a:α)(e:DE)(k:α→DE→Option RS):D3 (some (.ok a e)) k=k a e:=rfl
@[simp] theorem b3v{α:Type}(c:Str)(k:α→DE→Option RS):D3 (some (.ex c)) k=some (.ex c):=rfl
@[simp] theorem b3w{α:Type}(k:α→DE→Option RS):D3 (none:Option (R α)) k=none:=rfl
@[simp] theorem R5{α:Type}(a:α)(e:DE):Z1 (some a) e=some (.ok a e):=rfl
@[simp] theorem a0H{α:Type}(e:DE):Z1 (none:Option α) e=none:=rfl
structure FX(σ:St)(H F:Hp)(env:DE)(H' F':Hp):Prop where
 fz:Same F F'
 sub:Same F' H'
 hid:∀a o,H a=some o→F a=none→¬Ow σ env a→H' a=some o∧F' a=none
 dom:∀a,H' a=none→H a=none
section
variable {K:W.Frag}{cl:Str→Addr}{E:XK}{σ σ':St}{H H' H1 F F' F1:Hp}{env env' env1:DE}{α β γ δ:Type}
theorem Frm.fx{H2 F2:Hp}(a:Frm σ H F env σ' H1 F1 env1)(b:FX σ' H1 F1 env1 H2 F2):FX σ H F env H2 F2 :=
 ⟨a.fz.trans b.fz,b.sub,fun x o h f w=>by obtain⟨h1,f1,w1⟩:=a.hid x o h f w;exact b.hid x o h1 f1 w1,fun x h=>a.dom x (b.dom x h)⟩
theorem Frm.toFX(a:Frm σ H F env σ' H1 F1 env1)(s:Same F1 H1):FX σ H F env H1 F1:=⟨a.fz,s,fun x o h f w=>by obtain⟨h1,f1,_⟩:=a.hid x o h f w;exact⟨h1,f1⟩,a.dom⟩
abbrev Py(α β:Type):=α→St→Hp→Hp→Hp→DE→β→Prop
def PM(P:Py α β):Prop:=∀a σ H0 H1 H' F' e b,(∀x:Addr,H1 x=none→H0 x=none)→P a σ H1 H' F' e b→P a σ H0 H' F' e b
def Ct(K:W.Frag)(cl:Str→Addr)(E:XK)(P:Py α β)(r:Option (R α))(σ:St)(H F:Hp)(env:DE)(Q:β→Hp→Prop):Prop:=match r with
 | none=>False
 | some (.ok a e)=>∀b H' F',Frm σ H F env σ H' F' e→Rel K cl σ H' F' e→P a σ H H' F' e b→Q b H'
 | some (.ex c)=>∀H' F',FX σ H F env H' F'→E (.ref (cl c)) none H'
def Rz(K:W.Frag)(cl:Str→Addr)(F' H':Hp)(nw:Addr→Prop)(dss:List (List D))(as:List Addr):Prop:=as.Nodup∧as.length=dss.length∧∀(k:Nat) (a:Addr) (ds:List D),as[k]? = some a→dss[k]? = some ds→∃xs,H' a=some (.lst xs)∧F' a=none∧nw a∧Rps K cl F' ds xs
theorem Rz.imp{nw nw':Addr→Prop}{dss:List (List D)}{as:List Addr}(h:Rz K cl F' H' nw dss as)(i:∀a xs,H' a=some (.lst xs)→F' a=none→nw a→nw' a):Rz K cl F' H' nw' dss as :=
 ⟨h.1,h.2.1,fun k a ds e1 e2=>by obtain⟨xs,h1,h2,h3,h4⟩:=h.2.2 k a ds e1 e2;exact⟨xs,h1,h2,i a xs h1 h2 h3,h4⟩⟩
def Cs(K:W.Frag)(cl:Str→Addr)(E:XK)(r:Option RS)(σ:St)(H F:Hp)(env:DE)(N:Ends):Prop:=match r with
 | none=>False
 | some (.nx e)=>∀σ' H' F',Frm σ H F env σ' H' F' e→Rel K cl σ' H' F' e→N.nx σ' H'
 | some (.bk e)=>∀σ' H' F',Frm σ H F env σ' H' F' e→Rel K cl σ' H' F' e→N.bk σ' H'
 | some (.ct e)=>∀σ' H' F',Frm σ H F env σ' H' F' e→Rel K cl σ' H' F' e→N.ct σ' H'
 | some (.rt d)=>∀v H' F',FX σ H F env H' F'→Rp K cl F' d v→N.rt v H'
 | some (.ro ds)=>∀a xs H' F',FX σ H F env H' F'→H' a=some (.lst xs)→F' a=none→(∀o,H a=some o→Ow σ env a)→Rps K cl F' ds xs→N.rt (.ref a) H'
 | some (.rz dss)=>∀p as H' F',FX σ H F env H' F'→H p=none→H' p=some (.tup (as.map V.ref))→F' p=none→Rz K cl F' H' (fun a=>∀o,H a=some o→Ow σ env a) dss as→N.rt (.ref p) H'
 | some (.rp n ds)=>∀p a xs H' F',FX σ H F env H' F'→H p=none→H' p=some (.tup [.int n,.ref a])→F' p=none→H' a=some (.lst xs)→F' a=none→(∀o,H a=some o→Ow σ env a)→Rps K cl F' ds xs→N.rt (.ref p) H'
 | some (.ex c)=>∀H' F',FX σ H F env H' F'→E (.ref (cl c)) none H'
theorem Ct.mono{P:Py α β}{r:Option (R α)}{Q Q':β→Hp→Prop}(h:Ct K cl E P r σ H F env Q)(q:∀b H',Q b H'→Q' b H'):Ct K cl E P r σ H F env Q':=by
 unfold Ct at h ⊢
 split at h
 ·exact h
 ·exact fun b H' F' f R p=>q _ _ (h b H' F' f R p)
 ·exact h
theorem Ct.from{P2:Py γ δ}{r:Option (R γ)}{Q:δ→Hp→Prop}(f:Frm σ H F env σ H1 F1 env1)(pm:PM P2)(h:Ct K cl E P2 r σ H F env Q):Ct K cl E P2 r σ H1 F1 env1 Q:=by
 unfold Ct at h ⊢
 split at h
 ·exact h
 ·exact fun b H' F' f2 R2 p2=>h b H' F' (f.trans f2) R2 (pm _ _ _ _ _ _ _ _ f.dom p2)
 ·exact fun H' F' x=>h H' F' (f.fx x)
theorem Ct.bnd{P1:Py α β}{P2:Py γ δ}{r:Option (R α)}{k:α→DE→Option (R γ)}{Q:δ→Hp→Prop}(h:Ct K cl E P2 (bnd r k) σ H F env Q)(pm:PM P2) :
  Ct K cl E P1 r σ H F env fun b H1=>∃F1 env1 a,Same F F1∧Rel K cl σ H1 F1 env1∧P1 a σ H H1 F1 env1 b∧Ct K cl E P2 (k a env1) σ H1 F1 env1 Q:=by
 unfold Ct
 rcases r with _ | ⟨a,e⟩ | c
 ·exact h
 ·intro b H1 F1 f R p
  refine⟨F1,e,a,f.fz,R,p,?_⟩
  have h:Ct K cl E P2 (k a e) σ H F env Q:=h
  exact Ct.from f pm h
 ·exact h
theorem Cs.from{r:Option RS}{N:Ends}(f:Frm σ H F env σ' H1 F1 env1)(h:Cs K cl E r σ H F env N):Cs K cl E r σ' H1 F1 env1 N:=by
 unfold Cs at h ⊢
 split at h
 ·exact h
 ·exact fun σ' H' F' f2 R2=>h σ' H' F' (f.trans f2) R2
 ·exact fun σ' H' F' f2 R2=>h σ' H' F' (f.trans f2) R2
 ·exact fun σ' H' F' f2 R2=>h σ' H' F' (f.trans f2) R2
 ·exact fun v H' F' x p=>h v H' F' (f.fx x) p
 ·refine fun a xs H' F' x ha fa nw p=>h a xs H' F' (f.fx x) ha fa (fun o e=>?_) p
  refine Classical.byContradiction fun w=>?_
  cases q:F a with
  | none =>
   obtain⟨h1,f1,w1⟩:=f.hid a o e q w
   exact w1 (nw o h1)
  | some u=>rw[x.fz _ _ (f.fz _ _ q)]at fa;cases fa
 ·refine fun p as H' F' x hp ht fp rz=>h p as H' F' (f.fx x) (f.dom p hp) ht fp (rz.imp fun a xs ha fa nw o e=>?_)
  refine Classical.byContradiction fun w=>?_
  cases q:F a with
  | none =>
   obtain⟨h1,f1,w1⟩:=f.hid a o e q w
   exact w1 (nw o h1)
  | some u=>rw[x.fz _ _ (f.fz _ _ q)]at fa;cases fa
 ·refine fun p a xs H' F' x hp ht fp ha fa nw r=>h p a xs H' F' (f.fx x) (f.dom p hp) ht fp ha fa (fun o e=>?_) r
  refine Classical.byContradiction fun w=>?_
  cases q:F a with
  | none =>
   obtain⟨h1,f1,w1⟩:=f.hid a o e q w
   exact w1 (nw o h1)
  | some u=>rw[x.fz _ _ (f.fz _ _ q)]at fa;cases fa
 ·exact fun H' F' x=>h H' F' (f.fx x)
theorem Cs.bnd{P1:Py α β}{r:Option (R α)}{k:α→DE→Option RS}{N:Ends}(h:Cs K cl E (D3 r k) σ H F env N) :
  Ct K cl E P1 r σ H F env fun b H1=>∃F1 env1 a,Frm σ H F env σ H1 F1 env1∧Rel K cl σ H1 F1 env1∧P1 a σ H H1 F1 env1 b∧Cs K cl E (k a env1) σ H F env N:=by
 unfold Ct
 rcases r with _ | ⟨a,e⟩ | c
 ·exact h
 ·intro b H1 F1 f R p
  exact⟨F1,e,a,f,R,p,h⟩
 ·exact h
end
def PZ(K:W.Frag)(cl:Str→Addr):Py D V:=fun d _ _ _ F' _ v=>Rp K cl F' d v
def PAs(K:W.Frag)(cl:Str→Addr):Py (List D) (List V):=fun ds _ _ _ F' _ vs=>Rps K cl F' ds vs
def PB:Py Bool Bool:=fun b _ _ _ _ _ c=>c=b
def PI':Py (Option Int) (Option Int):=fun b _ _ _ _ _ c=>c=b
def PN(K:W.Frag)(cl:Str→Addr):Py (List D) V:=fun ds σ H H' F' e v=>∃a xs,v=.ref a∧H a=none∧H' a=some (.lst xs)∧F' a=none∧(∀j,Mu e j→σ[j]?≠some (some (.ref a)))∧Rps K cl F' ds xs
theorem U2{K cl}:PM (PZ K cl):=fun _ _ _ _ _ _ _ _ _ h=>h
theorem b3x{K cl}:PM (PAs K cl):=fun _ _ _ _ _ _ _ _ _ h=>h
theorem a62:PM PB:=fun _ _ _ _ _ _ _ _ _ h=>h
theorem b5e:PM PI':=fun _ _ _ _ _ _ _ _ _ h=>h
theorem a1h{K cl}:PM (PN K cl):=fun _ _ _ _ _ _ _ _ g ⟨a,xs,e,h,r⟩=>⟨a,xs,e,g a h,r⟩
abbrev ZF:=DE→Option (R D)
abbrev NF:=DE→Option (R (List D))
abbrev AF:=DE→Option (R (List D))
abbrev BF:=DE→Option (R Bool)
abbrev OF:=DE→Option (R (Option Int))
abbrev SF:=DE→Option RS
section
variable (K:W.Frag)(cl:Str→Addr)(E:XK)
def m8(t:TE)(f:ZF):Prop:=∀σ H Q env F,Rel K cl σ H F env→Ct K cl E (PZ K cl) (f env) σ H F env Q→t σ H Q
def W8(t:TE)(f:NF):Prop:=∀σ H Q env F,Rel K cl σ H F env→Ct K cl E (PN K cl) (f env) σ H F env Q→t σ H Q
def T5(t:TA)(f:AF):Prop:=∀σ H Q env F,Rel K cl σ H F env→Ct K cl E (PAs K cl) (f env) σ H F env Q→t σ H Q
def J6(t:TT)(f:BF):Prop:=∀σ H Q env F,Rel K cl σ H F env→Ct K cl E PB (f env) σ H F env Q→t σ H Q
def RfO(t:TO)(f:OF):Prop:=∀σ H Q env F,Rel K cl σ H F env→Ct K cl E PI' (f env) σ H F env Q→t σ H Q
def RfS(t:TS)(f:SF):Prop:=∀(N:Ends) σ H env F,Rel K cl σ H F env→Cs K cl E (f env) σ H F env N→t N σ H
end
def eC(d:D):ZF:=fun e=>some (.ok d e)
def eV(i:Nat):ZF:=fun e=>match e[i]? with
 | some (.fz d)=>some (.ok d e)
 | some (.ow ds)=>some (.ok (.lst ds) (e.set i (.fz (.lst ds))))
 | _=>none
def look(e:DE)(i:Nat):Option D:=match e[i]? with
 | some (.fz d)=>some d
 | some (.ow ds)=>some (.lst ds)
 | some (.hd ds)=>some (.lst ds)
 | _=>none
def Rb(K:W.Frag)(cl:Str→Addr)(F H:Hp)(d:D)(v:V):Prop:=Rp K cl F d v∨∃a xs ds,v=.ref a∧d=.lst ds∧H a=some (.lst xs)∧Rps K cl F ds xs
section
variable {K:W.Frag}{cl:Str→Addr}{E:XK}{σ:St}{H F:Hp}{env:DE}
theorem Rel.look{i:Nat}{d:D}(R:Rel K cl σ H F env)(h:look env i=some d):∃v,σ[i]? = some (some v)∧Rb K cl F H d v:=by
 unfold L2.look at h
 split at h
 ·rename_i q;cases h;obtain⟨v,e,r⟩:=R.fz i d q;exact⟨v,e,.inl r⟩
 ·rename_i ds q;cases h;obtain⟨a,xs,e,hH,_,r⟩:=R.mu i ds (.inl q);exact⟨_,e,.inr ⟨a,xs,ds,rfl,rfl,hH,r⟩⟩
 ·rename_i ds q;cases h;obtain⟨a,xs,e,hH,_,r⟩:=R.mu i ds (.inr q);exact⟨_,e,.inr ⟨a,xs,ds,rfl,rfl,hH,r⟩⟩
 ·cases h
theorem d6{v:V}{d:D}(h:∀F,Rp K cl F d v:=by intro F;simp only[Rp]):m8 K cl E (tC v) (eC d):=fun σ H Q env F R h'=>h' v H F Frm.refl R (h F)
theorem a9{i:Nat}:m8 K cl E (B9 i) (eV i):=by
 intro σ H Q env F R h
 unfold eV at h
 split at h
 ·rename_i d q
  obtain⟨v,e,r⟩:=R.fz i d q
  exact⟨v,e,h v H F Frm.refl R r⟩
 ·rename_i ds q
  obtain⟨a,F',e,fr,R',r⟩:=R.freeze q
  exact⟨_,e,h _ H F' fr R' r⟩
 ·exact h.elim
end
def OpOk(K:W.Frag)(cl:Str→Addr)(r:R2)(g:D→D→Option D):Prop:=∀x y d e z H F Q,Same F H→Rb K cl F H d x→Rb K cl F H e y→g d e=some z→(∀v H' F',Gr H F H' F'→Rp K cl F' z v→Q v H')→r x y H Q
def eB(g:D→D→Option D)(f k:ZF):ZF:=fun e=>bnd (f e) fun d e1=>bnd (k e1) fun d' e2=>Z1 (g d d') e2
def l6(g:D→D→Option D)(i:Nat)(k:ZF):ZF:=fun e=>match look e i with
 | none=>none
 | some _=>bnd (k e) fun d' e2=>match look e2 i with
  | some d=>Z1 (g d d') e2
  | none=>none
def eBW(g:D→D→Option D)(f:ZF)(j:Nat):ZF:=fun e=>bnd (f e) fun d e2=>match look e2 j with
 | some d'=>Z1 (g d d') e2
 | none=>none
def a15(g:D→D→Option D)(i j:Nat):ZF:=fun e=>match look e i,look e j with
 | some d,some d'=>Z1 (g d d') e
 | _,_=>none
section
variable {K:W.Frag}{cl:Str→Addr}{E:XK}{r:R2}{g:D→D→Option D}{ta tb:TE}{f k:ZF}{i j:Nat}
theorem OpOk.fin{σ:St}{H F:Hp}{env:DE}{x y:V}{d e:D}{Q:VK}(ok:OpOk K cl r g)(R:Rel K cl σ H F env)(hx:Rb K cl F H d x)(hy:Rb K cl F H e y)(h:Ct K cl E (PZ K cl) (Z1 (g d e) env) σ H F env Q):r x y H Q:=by
 cases hz:g d e with
 | none=>rw[hz]at h;exact h.elim
 | some z =>
  rw[hz]at h
  exact ok x y d e z H F Q R.sub hx hy hz fun v H' F' gr p=>h v H' F' (R.frm gr) (R.gr gr) p
theorem c7(ok:OpOk K cl r g)(ha:m8 K cl E ta f)(hb:m8 K cl E tb k):m8 K cl E (tOp r ta tb) (eB g f k):=by
 intro σ H Q env F R h
 refine ha σ H _ env F R ((Ct.bnd h U2).mono fun x H1 ⟨F1,e1,d,s1,R1,p1,h1⟩=>?_)
 refine hb σ H1 _ e1 F1 R1 ((Ct.bnd h1 U2).mono fun y H2 ⟨F2,e2,e,s2,R2,p2,h2⟩=>?_)
 exact ok.fin R2 (.inl (Rp.mono s2 _ _ p1)) (.inl p2) h2
theorem n5(ok:OpOk K cl r g)(hb:m8 K cl E tb k):m8 K cl E (tOp r (B9 i) tb) (l6 g i k):=by
 intro σ H Q env F R h
 unfold l6 at h
 cases q:look env i with
 | none=>rw[q]at h;exact h.elim
 | some d0 =>
  rw[q]at h
  obtain⟨x,e0,_⟩:=R.look q
  refine⟨x,e0,hb σ H _ env F R ((Ct.bnd h U2).mono fun y H2 ⟨F2,e2,e,s2,R2,p2,h2⟩=>?_)⟩
  cases q2:look e2 i with
  | none=>rw[q2]at h2;exact h2.elim
  | some d =>
   rw[q2]at h2
   obtain⟨x',e',rb⟩:=R2.look q2
   rw[e0]at e';cases e'
   exact ok.fin R2 rb (.inl p2) h2
theorem a8f(ok:OpOk K cl r g)(ha:m8 K cl E ta f):m8 K cl E (tOp r ta (B9 j)) (eBW g f j):=by
 intro σ H Q env F R h
 refine ha σ H _ env F R ((Ct.bnd h U2).mono fun x H1 ⟨F1,e1,d,s1,R1,p1,h1⟩=>?_)
 cases q:look e1 j with
 | none=>rw[q]at h1;exact h1.elim
 | some d' =>
  rw[q]at h1
  obtain⟨y,e,rb⟩:=R1.look q
  exact⟨y,e,ok.fin R1 (.inl p1) rb h1⟩
theorem a6d(ok:OpOk K cl r g):m8 K cl E (tOp r (B9 i) (B9 j)) (a15 g i j):=by
 intro σ H Q env F R h
 unfold a15 at h
 cases q:look env i with
 | none=>rw[q]at h;exact h.elim
 | some d =>
  cases q2:look env j with
  | none=>rw[q,q2]at h;exact h.elim
  | some d' =>
   rw[q,q2]at h
   obtain⟨x,e,rb⟩:=R.look q
   obtain⟨y,e',rb'⟩:=R.look q2
   exact⟨x,e,y,e',ok.fin R rb rb' h⟩
end
section
variable {K:W.Frag}{cl:Str→Addr}{E:XK}
theorem Rb.int{F H:Hp}{i:Int}{v:V}(h:Rb K cl F H (.int i) v):v=.int i:=by
 rcases h with h | ⟨_,_,_,_,z,_⟩
 ·simpa only[Rp]using h
 ·cases z
theorem Rb.bl{F H:Hp}{i:Bool}{v:V}(h:Rb K cl F H (.bl i) v):v=.bl i:=by
 rcases h with h | ⟨_,_,_,_,z,_⟩
 ·simpa only[Rp]using h
 ·cases z
theorem Rb.str{F H:Hp}{i:Str}{v:V}(h:Rb K cl F H (.str i) v):v=.str i:=by
 rcases h with h | ⟨_,_,_,_,z,_⟩
 ·simpa only[Rp]using h
 ·cases z
theorem Rb.non{F H:Hp}{v:V}(h:Rb K cl F H .non v):v=.non:=by
 rcases h with h | ⟨_,_,_,_,z,_⟩
 ·simpa only[Rp]using h
 ·cases z
theorem Rb.lst{F H:Hp}{ds:List D}{v:V}(s:Same F H)(h:Rb K cl F H (.lst ds) v):∃a xs,v=.ref a∧H a=some (.lst xs)∧Rps K cl F ds xs:=by
 rcases h with h | ⟨a,xs,ds',e,z,h,r⟩
 ·simp only[Rp]at h
  obtain⟨a,xs,e,h,r⟩:=h
  exact⟨a,xs,e,s _ _ h,r⟩
 ·cases z;exact⟨a,xs,e,h,r⟩
theorem Rb.tup{F H:Hp}{ds:List D}{v:V}(s:Same F H)(h:Rb K cl F H (.tup ds) v):∃a xs,v=.ref a∧H a=some (.tup xs)∧Rps K cl F ds xs:=by
 rcases h with h | ⟨_,_,_,_,z,_⟩
 ·simp only[Rp]at h
  obtain⟨a,xs,e,h,r⟩:=h
  exact⟨a,xs,e,s _ _ h,r⟩
 ·cases z
theorem Rb.scr{F H:Hp}{ns:List Int}{v:V}(s:Same F H)(h:Rb K cl F H (.scr ns) v):∃a,v=.ref a∧Scr K H a (ns.map V.int):=by
 rcases h with h | ⟨_,_,_,_,z,_⟩
 ·simp only[Rp]at h
  obtain⟨a,e,h⟩:=h
  exact⟨a,e,h.same s⟩
 ·cases z
def gI(C:Int→Int→Prop) [∀i j,Decidable (C i j)] (g:Int→Int→D):D→D→Option D
 | .int i,.int j=>if C i j then some (g i j)else none
 | _,_=>none
def gI0(g:Int→Int→D):D→D→Option D
 | .int i,.int j=>some (g i j)
 | _,_=>none
theorem a63{C:Int→Int→Prop} [∀i j,Decidable (C i j)] {g:Int→Int→V} {g':Int→Int→D} (hg:∀F i j,Rp K cl F (g' i j) (g i j)):OpOk K cl (rI C g) (gI C g'):=by
 intro x y d e z H F Q s hx hy h q
 unfold gI at h
 split at h
 ·rename_i i j
  split at h
  ·rename_i c;cases h
   exact⟨i,j,hx.int,hy.int,c,q _ H F (.refl s) (hg F i j)⟩
  ·cases h
 ·cases h
theorem a3_{g:Int→Int→V}{g':Int→Int→D}(hg:∀F i j,Rp K cl F (g' i j) (g i j)):OpOk K cl (rI0 g) (gI0 g'):=by
 intro x y d e z H F Q s hx hy h q
 unfold gI0 at h
 split at h
 ·rename_i i j
  cases h
  exact⟨i,j,hx.int,hy.int,q _ H F (.refl s) (hg F i j)⟩
 ·cases h
end
section
variable {K:W.Frag}{cl:Str→Addr}{E:XK}{σ:St}{H F:Hp}{env:DE}
theorem Rel.newN{p:Addr}{o:HO}(R:Rel K cl σ H F env)(hp:H p=none):Rel K cl σ (upd H p o) F env∧Frm σ H F env σ (upd H p o) F env:=by
 have fp:F p=none:=R.sub.free hp
 have ne:∀a u,H a=some u→a≠p:=fun a u h z=>by rw[z,hp]at h;cases h
 refine⟨⟨R.sub.trans (Q8 hp _),R.len,R.fz,fun i ds h=>?_,R.inj,R.od.newO hp⟩,⟨Same.refl _,fun a u h f w=>?_,fun _ _ h=>⟨h,rfl⟩,fun a h=>?_⟩⟩
 ·obtain⟨a,xs,e,hH,hF,r⟩:=R.mu i ds h
  exact⟨a,xs,e,by rw[b9 (ne _ _ hH)];exact hH,hF,r⟩
 ·exact⟨by rw[b9 (ne _ _ h)];exact h,f,w⟩
 ·by_cases z:a=p
  ·rw[z];exact hp
  ·rw[b9 z]at h;exact h
theorem Ct.newN{p:Addr}{xs:List V}{ds:List D}{Q:VK}(R:Rel K cl σ H F env)(hp:H p=none)(r:Rps K cl F ds xs)(h:Ct K cl E (PN K cl) (some (.ok ds env)) σ H F env Q):Q (.ref p) (upd H p (.lst xs)):=by
 obtain⟨R',f⟩:=R.newN (o:=.lst xs) hp
 refine h _ _ F f R' ⟨p,xs,rfl,hp,i0,R.sub.free hp,fun j mj e=>?_,r⟩
 obtain⟨ds',q⟩:=mj
 obtain⟨a,ys,e1,hH,_⟩:=R.mu j ds' q
 rw[e]at e1;cases e1
 rw[hp]at hH;cases hH
def zN(f:NF):ZF:=fun e=>bnd (f e) fun ds e1=>some (.ok (.lst ds) e1)
theorem P5{t:TE}{f:NF}(h:W8 K cl E t f):m8 K cl E t (zN f):=by
 intro σ H Q env F R q
 refine h σ H Q env F R ?_
 unfold zN at q
 rcases hf:f env with _ | ⟨ds,e1⟩ | c
 ·rw[hf]at q;exact q
 ·rw[hf]at q
  rintro b H' F' fr R' ⟨a,xs,rfl,hn,hH,hF,nm,r⟩
  have sF:Same F' (upd F' a (.lst xs)):=Q8 hF _
  refine q _ H' (upd F' a (.lst xs)) ⟨fr.fz.trans sF,fun b o hb fb w=>?_,fr.keep,fr.dom⟩ ⟨fun b o z=>?_,R'.len,fun i d z=>?_,fun i es z=>?_,R'.inj,R'.od.frzL hH hF⟩ (by show Rp K cl _ (.lst ds) _;simp only[Rp];exact⟨a,xs,rfl,i0,r.mono sF⟩)
  ·obtain⟨h1,f1,w1⟩:=fr.hid b o hb fb w
   have nb:b≠a:=fun z=>by rw[z,hn]at hb;cases hb
   exact⟨h1,by rw[b9 nb];exact f1,w1⟩
  ·by_cases y:b=a
   ·subst y;rw[i0]at z;cases z;exact hH
   ·rw[b9 y]at z;exact R'.sub _ _ z
  ·obtain⟨v,e,r1⟩:=R'.fz i d z
   exact⟨v,e,r1.mono sF⟩
  ·obtain⟨b,ys,e,h1,f1,r1⟩:=R'.mu i es z
   have nb:b≠a:=fun y=>nm i ⟨es,z⟩ (by rw[e,y])
   exact⟨b,ys,e,h1,by rw[b9 nb];exact f1,r1.mono sF⟩
 ·rw[hf]at q;exact q
def aN:AF:=fun e=>some (.ok [] e)
def aC(f:ZF)(k:AF):AF:=fun e=>bnd (f e) fun d e1=>bnd (k e1) fun ds e2=>some (.ok (d::ds) e2)
theorem g9:T5 K cl E W1 aN:=fun σ H Q env F R h=>h [] H F Frm.refl R .nil
theorem b0{te:TE}{ta:TA}{f:ZF}{k:AF}(hf:m8 K cl E te f)(hk:T5 K cl E ta k):T5 K cl E (N5 te ta) (aC f k):=by
 intro σ H Q env F R h
 refine hf σ H _ env F R ((Ct.bnd h b3x).mono fun x H1 ⟨F1,e1,d,s1,R1,p1,h1⟩=>?_)
 refine hk σ H1 _ e1 F1 R1 ((Ct.bnd h1 b3x).mono fun xs H2 ⟨F2,e2,ds,s2,R2,p2,h2⟩=>?_)
 exact h2 (x::xs) H2 F2 Frm.refl R2 (.cons (Rp.mono s2 _ _ p1) p2)
def eT(f:AF):ZF:=fun e=>bnd (f e) fun ds e1=>if ds.length≤sizeLine then some (.ok (.tup ds) e1)else none
def eL(f:AF):NF:=fun e=>bnd (f e) fun ds e1=>if ds.length≤sizeLine then some (.ok ds e1)else none
theorem P6{ta:TA}{f:AF}(hf:T5 K cl E ta f):m8 K cl E (b2W ta) (eT f):=by
 intro σ H Q env F R h
 refine hf σ H _ env F R ((Ct.bnd h U2).mono fun xs H1 ⟨F1,e1,ds,s1,R1,p1,h1⟩=>?_)
 have hl:ds.length=xs.length:=Rps.length p1
 split at h1
 ·rename_i z
  refine⟨by rw[← hl];exact z,fun p hp=>?_⟩
  have g:Gr H1 F1 (upd H1 p (.tup xs)) (upd F1 p (.tup xs)):=.new R1.sub hp
  exact h1 _ _ _ (R1.frm g) (R1.gr g) (by show Rp K cl _ (.tup ds) _;simp only[Rp];exact⟨p,xs,rfl,i0,Rps.mono g.fz _ _ p1⟩)
 ·exact h1.elim
theorem a4S{ta:TA}{f:AF}(hf:T5 K cl E ta f):W8 K cl E (b2X ta) (eL f):=by
 intro σ H Q env F R h
 refine hf σ H _ env F R ((Ct.bnd h a1h).mono fun xs H1 ⟨F1,e1,ds,s1,R1,p1,h1⟩=>?_)
 have hl:ds.length=xs.length:=Rps.length p1
 split at h1
 ·rename_i z
  exact⟨by rw[← hl];exact z,fun p hp=>Ct.newN R1 hp p1 h1⟩
 ·exact h1.elim
def bZ(f:ZF):BF:=fun e=>bnd (f e) fun d e1=>match d with
 | .bl b=>some (.ok b e1)
 | _=>none
theorem Z2{t:TE}{f:ZF}(hf:m8 K cl E t f):J6 K cl E (tB t) (bZ f):=by
 intro σ H Q env F R h
 refine hf σ H _ env F R ((Ct.bnd h a62).mono fun x H1 ⟨F1,e1,d,s1,R1,p1,h1⟩=>?_)
 split at h1
 ·rename_i b
  have:x=.bl b:=by have:=(show Rp K cl F1 (.bl b) x from p1);simpa only[Rp]using this
  exact⟨b,this,h1 b H1 F1 Frm.refl R1 rfl⟩
 ·exact h1.elim
theorem z8{t:TE}{f:ZF}(hf:m8 K cl E t f):J6 K cl E (b0j t) (bZ f):=Z2 hf
def R6(f:BF):BF:=fun e=>bnd (f e) fun b e1=>some (.ok (!b) e1)
def G6(f k:BF):BF:=fun e=>bnd (f e) fun b e1=>if b=true then k e1 else some (.ok false e1)
def bOr(f k:BF):BF:=fun e=>bnd (f e) fun b e1=>if b=true then some (.ok true e1)else k e1
theorem V7{t:TT}{f:BF}(hf:J6 K cl E t f):J6 K cl E (b2J t) (R6 f):=by
 intro σ H Q env F R h
 refine hf σ H _ env F R ((Ct.bnd h a62).mono fun x H1 ⟨F1,e1,d,s1,R1,p1,h1⟩=>?_)
 cases (show x=d from p1)
 exact h1 _ H1 F1 Frm.refl R1 rfl
theorem R7{t u:TT}{f k:BF}(hf:J6 K cl E t f)(hk:J6 K cl E u k):J6 K cl E (b2I t u) (G6 f k):=by
 intro σ H Q env F R h
 refine hf σ H _ env F R ((Ct.bnd h a62).mono fun x H1 ⟨F1,e1,d,s1,R1,p1,h1⟩=>?_)
 cases (show x=d from p1)
 by_cases z:x=true
 ·rw[if_pos z]at h1 ⊢;exact hk σ H1 Q e1 F1 R1 h1
 ·rw[if_neg z]at h1 ⊢;exact h1 _ H1 F1 Frm.refl R1 rfl
theorem a8g{t u:TT}{f k:BF}(hf:J6 K cl E t f)(hk:J6 K cl E u k):J6 K cl E (tOr t u) (bOr f k):=by
 intro σ H Q env F R h
 refine hf σ H _ env F R ((Ct.bnd h a62).mono fun x H1 ⟨F1,e1,d,s1,R1,p1,h1⟩=>?_)
 cases (show x=d from p1)
 by_cases z:x=true
 ·rw[if_pos z]at h1 ⊢;exact h1 _ H1 F1 Frm.refl R1 rfl
 ·rw[if_neg z]at h1 ⊢;exact hk σ H1 Q e1 F1 R1 h1
def a9n(f:ZF):ZF:=fun e=>bnd (f e) fun d e1=>match d with
 | .bl b=>some (.ok (.bl (!b)) e1)
 | _=>none
def a4T(f k:ZF):ZF:=fun e=>bnd (f e) fun d e1=>match d with
 | .bl b=>if b=true then k e1 else some (.ok (.bl false) e1)
 | _=>none
theorem b3y{t:TE}{f:ZF}(hf:m8 K cl E t f):m8 K cl E (b0e t) (a9n f):=by
 intro σ H Q env F R h
 refine hf σ H _ env F R ((Ct.bnd h U2).mono fun x H1 ⟨F1,e1,d,s1,R1,p1,h1⟩=>?_)
 split at h1
 ·rename_i b
  have:x=.bl b:=by have:=(show Rp K cl F1 (.bl b) x from p1);simpa only[Rp]using this
  exact⟨b,this,h1 _ H1 F1 Frm.refl R1 (by show Rp K cl F1 (.bl _) _;simp only[Rp])⟩
 ·exact h1.elim
theorem a8h{t u:TE}{f k:ZF}(hf:m8 K cl E t f)(hk:m8 K cl E u k):m8 K cl E (b0d t u) (a4T f k):=by
 intro σ H Q env F R h
 refine hf σ H _ env F R ((Ct.bnd h U2).mono fun x H1 ⟨F1,e1,d,s1,R1,p1,h1⟩=>?_)
 split at h1
 ·rename_i b
  have:x=.bl b:=by have:=(show Rp K cl F1 (.bl b) x from p1);simpa only[Rp]using this
  refine⟨b,this,?_⟩
  by_cases z:b=true
  ·rw[if_pos z]at h1 ⊢;exact hk σ H1 Q e1 F1 R1 h1
  ·rw[if_neg z]at h1 ⊢;exact h1 _ H1 F1 Frm.refl R1 (by show Rp K cl F1 (.bl _) _;simp only[Rp])
 ·exact h1.elim
def b3z(K:W.Frag)(cl:Str→Addr)(r:V→Hp→VK→Prop)(g:D→Option D):Prop:=∀x d z H F Q,Same F H→Rb K cl F H d x→g d=some z→(∀v H' F',Gr H F H' F'→Rp K cl F' z v→Q v H')→r x H Q
def eU(g:D→Option D)(f:ZF):ZF:=fun e=>bnd (f e) fun d e1=>Z1 (g d) e1
theorem a9o{r:V→Hp→VK→Prop}{g:D→Option D}{t:TE}{f:ZF}(ok:b3z K cl r g)(hf:m8 K cl E t f):m8 K cl E (tUn r t) (eU g f):=by
 intro σ H Q env F R h
 refine hf σ H _ env F R ((Ct.bnd h U2).mono fun x H1 ⟨F1,e1,d,s1,R1,p1,h1⟩=>?_)
 cases hz:g d with
 | none=>rw[hz]at h1;exact h1.elim
 | some z =>
  rw[hz]at h1
  exact ok x d z H1 F1 Q R1.sub (.inl p1) hz fun v H' F' gr p=>h1 v H' F' (R1.frm gr) (R1.gr gr) p
def W9:D→Option D
 | .int i=>some (.int (-i))
 | _=>none
theorem a4U:b3z K cl (rU fun i=>.int (-i)) W9:=by
 intro x d z H F Q s hx h q
 unfold W9 at h
 split at h
 ·rename_i i;cases h
  exact⟨i,hx.int,q _ H F (.refl s) (by simp only[Rp])⟩
 ·cases h
def a64(K:W.Frag)(cl:Str→Addr)(r:List V→Hp→VK→Prop)(g:List D→Option D):Prop:=∀xs ds z H F Q,Same F H→Rps K cl F ds xs→g ds=some z→(∀v H' F',Gr H F H' F'→Rp K cl F' z v→Q v H')→r xs H Q
def CbOk1(K:W.Frag)(cl:Str→Addr)(r:List V→Hp→VK→Prop)(g:D→Option D):Prop:=∀x d z H F Q,Same F H→Rb K cl F H d x→g d=some z→(∀v H' F',Gr H F H' F'→Rp K cl F' z v→Q v H')→r [x] H Q
def eCB(g:List D→Option D)(f:AF):ZF:=fun e=>bnd (f e) fun ds e1=>Z1 (g ds) e1
def p6(g:D→Option D)(i:Nat):ZF:=fun e=>match look e i with
 | some d=>Z1 (g d) e
 | none=>none
theorem a1D{r:List V→Hp→VK→Prop}{g:List D→Option D}{t:TA}{f:AF}(ok:a64 K cl r g)(hf:T5 K cl E t f):m8 K cl E (tCB r t) (eCB g f):=by
 intro σ H Q env F R h
 refine hf σ H _ env F R ((Ct.bnd h U2).mono fun x H1 ⟨F1,e1,d,s1,R1,p1,h1⟩=>?_)
 cases hz:g d with
 | none=>rw[hz]at h1;exact h1.elim
 | some z =>
  rw[hz]at h1
  exact ok x d z H1 F1 Q R1.sub p1 hz fun v H' F' gr p=>h1 v H' F' (R1.frm gr) (R1.gr gr) p
theorem B7{r:List V→Hp→VK→Prop}{g:D→Option D}{i:Nat}(ok:CbOk1 K cl r g):m8 K cl E (tCB r (N5 (B9 i) W1)) (p6 g i):=by
 intro σ H Q env F R h
 unfold p6 at h
 cases q:look env i with
 | none=>rw[q]at h;exact h.elim
 | some d =>
  rw[q]at h
  obtain⟨x,e,rb⟩:=R.look q
  refine⟨x,e,?_⟩
  cases hz:g d with
  | none=>simp only[hz,a0H]at h;exact h.elim
  | some z =>
   simp only[hz,R5]at h
   exact ok x d z H F Q R.sub rb hz fun v H' F' gr p=>h v H' F' (R.frm gr) (R.gr gr) p
def g1(g:D→Option D):List D→Option D
 | [d]=>g d
 | _=>none
theorem CbOk1.cb{r:List V→Hp→VK→Prop}{g:D→Option D}(ok:CbOk1 K cl r g):a64 K cl r (g1 g):=by
 intro xs ds z H F Q s hx h q
 unfold g1 at h
 split at h
 ·obtain⟨v,r,rfl,h1,h2⟩:=hx.inv
  rw[h2.inv0]
  exact ok v _ z H F Q s (.inl h1) h q
 ·cases h
def a4V(K:W.Frag)(cl:Str→Addr)(r:List V→Hp→VK→Prop)(g:D→Option (List D)):Prop:=∀x d zs H F Q,Same F H→Rb K cl F H d x→g d=some zs→(∀p xs,H p=none→Rps K cl F zs xs→Q (.ref p) (upd H p (.lst xs)))→r [x] H Q
def nCB(g:D→Option (List D))(f:ZF):NF:=fun e=>bnd (f e) fun d e1=>Z1 (g d) e1
def nCV(g:D→Option (List D))(i:Nat):NF:=fun e=>match look e i with
 | some d=>Z1 (g d) e
 | none=>none
theorem b3A{r:List V→Hp→VK→Prop}{g:D→Option (List D)}{t:TE}{f:ZF}(ok:a4V K cl r g)(hf:m8 K cl E t f):W8 K cl E (tCB r (N5 t W1)) (nCB g f):=by
 intro σ H Q env F R h
 refine hf σ H _ env F R ((Ct.bnd h a1h).mono fun x H1 ⟨F1,e1,d,s1,R1,p1,h1⟩=>?_)
 cases hz:g d with
 | none=>rw[hz]at h1;exact h1.elim
 | some z =>
  rw[hz]at h1
  exact ok x d z H1 F1 Q R1.sub (.inl p1) hz fun p xs hp r=>Ct.newN R1 hp r h1
theorem a2D{r:List V→Hp→VK→Prop}{g:D→Option (List D)}{i:Nat}(ok:a4V K cl r g):W8 K cl E (tCB r (N5 (B9 i) W1)) (nCV g i):=by
 intro σ H Q env F R h
 unfold nCV at h
 cases q:look env i with
 | none=>rw[q]at h;exact h.elim
 | some d =>
  rw[q]at h
  obtain⟨x,e,rb⟩:=R.look q
  refine⟨x,e,?_⟩
  cases hz:g d with
  | none=>simp only[hz,a0H]at h;exact h.elim
  | some z =>
   simp only[hz,R5]at h
   exact ok x d z H F Q R.sub rb hz fun p xs hp r=>Ct.newN R hp r h
end
section
variable {K:W.Frag}{cl:Str→Addr}{E:XK}{σ:St}{H F:Hp}{env:DE}
instance decMul(i j:Int):Decidable (IntMulOk i j):=by unfold IntMulOk;infer_instance
instance decPow(i j:Int):Decidable (a2W i j):=by unfold a2W;infer_instance
abbrev u9:=gI0 fun i j=>.int (i+j)
abbrev y4:=gI0 fun i j=>.int (i-j)
abbrev J7:=gI IntMulOk fun i j=>.int (i*j)
abbrev A7:=gI (fun _ j=>0<j∧j.natAbs.log2<9000) fun i j=>.int (i/j)
abbrev m5:=gI (fun _ j=>0<j) fun i j=>.int (i%j)
abbrev a0I:=gI a2W fun i j=>.int (i ^ j.toNat)
abbrev gLt:=gI0 fun i j=>.bl (decide (i<j))
abbrev gGt:=gI0 fun i j=>.bl (decide (j<i))
theorem A4:OpOk K cl (rI0 fun i j=>.int (i+j)) u9:=a3_ fun F i j=>by simp only[Rp]
theorem M9:OpOk K cl (rI0 fun i j=>.int (i-j)) y4:=a3_ fun F i j=>by simp only[Rp]
theorem X0:OpOk K cl (rI IntMulOk fun i j=>.int (i*j)) J7:=a63 fun F i j=>by simp only[Rp]
theorem P7:OpOk K cl (rI (fun _ j=>0<j∧j.natAbs.log2<9000) fun i j=>.int (i/j)) A7:=a63 fun F i j=>by simp only[Rp]
theorem x5:OpOk K cl (rI (fun _ j=>0<j) fun i j=>.int (i%j)) m5:=a63 fun F i j=>by simp only[Rp]
theorem a8i:OpOk K cl (rI a2W fun i j=>.int (i ^ j.toNat)) a0I:=a63 fun F i j=>by simp only[Rp]
theorem a4a:OpOk K cl (rI0 fun i j=>.bl (decide (i<j))) gLt:=a3_ fun F i j=>by simp only[Rp]
theorem a4b:OpOk K cl (rI0 fun i j=>.bl (decide (j<i))) gGt:=a3_ fun F i j=>by simp only[Rp]
def toV:D→Option V
 | .non=>some .non
 | .bl b=>some (.bl b)
 | .int i=>some (.int i)
 | .str x=>some (.str x)
 | _=>none
theorem Rb.toV{d:D}{v u:V}(h:Rb K cl F H d v)(e:toV d=some u):v=u:=by
 cases d with
 | non=>cases e;exact h.non
 | bl b=>cases e;exact h.bl
 | int i=>cases e;exact h.int
 | str x=>cases e;exact h.str
 | _=>cases e
def v7(neg:Bool)(d e:D):Option D:=match toV d,toV e with
 | some x,some y=>if a6K x y=true then some (.bl (if neg then !decide (x=y)else decide (x=y)))else none
 | _,_=>none
theorem Z3:OpOk K cl rEq (v7 false):=by
 intro x y d e z H F Q s hx hy h q
 unfold v7 at h
 split at h
 ·rename_i u w hu hw
  split at h
  ·rename_i c;cases h
   rw[hx.toV hu,hy.toV hw]
   exact⟨c,q _ H F (.refl s) (by simp only[Rp];rfl)⟩
  ·cases h
 ·cases h
theorem a4c:OpOk K cl rNe (v7 true):=by
 intro x y d e z H F Q s hx hy h q
 unfold v7 at h
 split at h
 ·rename_i u w hu hw
  split at h
  ·rename_i c;cases h
   rw[hx.toV hu,hy.toV hw]
   exact⟨c,q _ H F (.refl s) (by simp only[Rp];rfl)⟩
  ·cases h
 ·cases h
@[simp] theorem b1d(neg:Bool)(a b:Int):v7 neg (.int a) (.int b)=some (.bl (if neg then !decide (a=b)else decide (a=b))):=by
 unfold v7 toV
 simp only[a6K,if_true,V.int.injEq]
theorem Rps.atI{ds:List D}{xs:List V}{i:Int}{d:D}(h:Rps K cl F ds xs)(e:atI ds i=some d):∃v,L2.atI xs i=some v∧Rp K cl F d v:=by
 unfold L2.atI at e ⊢
 rw[← h.length]
 cases q:Q6 ds.length i with
 | none=>rw[q]at e;cases e
 | some j=>rw[q]at e;exact h.get e
def i5(d e:D):Option D:=match d,e with
 | .lst ds,.int i=>atI ds i
 | .scr ns,.int i=>(atI ns i).map .int
 | _,_=>none
def n4(d e:D):Option D:=match d,e with
 | .tup ds,.int i=>atI ds i
 | _,_=>none
theorem b1e{α β:Type}(f:α→β)(xs:List α)(i:Int):atI (xs.map f) i=(atI xs i).map f:=by
 unfold L2.atI
 rw[List.length_map]
 cases Q6 xs.length i with
 | none=>rfl
 | some j=>simp
theorem m9:OpOk K cl (a8V K) i5:=by
 intro x y d e z H F Q s hx hy h q
 unfold i5 at h
 split at h
 ·obtain⟨a,xs,rfl,hH,r⟩:=hx.lst s
  obtain⟨v,e,p⟩:=r.atI h
  exact⟨a,xs,_,v,rfl,hy.int,.of hH,e,q v H F (.refl s) p⟩
 ·rename_i ns i
  obtain⟨a,rfl,hS⟩:=hx.scr s
  cases hz:atI ns i with
  | none=>rw[hz]at h;cases h
  | some n =>
   rw[hz]at h;cases h
   exact⟨a,_,_,.int n,rfl,hy.int,hS.seq,by rw[b1e,hz];rfl,q _ H F (.refl s) (by simp only[Rp])⟩
 ·cases h
theorem x6:OpOk K cl (a8W K) n4:=by
 intro x y d e z H F Q s hx hy h q
 unfold n4 at h
 split at h
 ·obtain⟨a,xs,rfl,hH,r⟩:=hx.tup s
  obtain⟨v,e,p⟩:=r.atI h
  exact⟨a,xs,_,v,rfl,hy.int,.of hH,e,q v H F (.refl s) p⟩
 ·cases h
def P8:D→D→Bool
 | .non,.non=>true
 | .bl a,.bl b=>a == b
 | .bl a,.int b=>(if a then 1 else 0) == b
 | .int a,.bl b=>a == (if b then 1 else 0)
 | .int a,.int b=>a == b
 | .str a,.str b=>a == b
 | _,_=>false
def a65:List D→List D→Bool
 | [],[]=>true
 | x::xs,y::ys=>P8 x y && a65 xs ys
 | _,_=>false
def j4:D→Bool
 | .non=>true
 | .bl _=>true
 | .int _=>true
 | .str _=>true
 | _=>false
theorem Rp.flat{d:D}{v:V}(h:Rp K cl F d v)(f:j4 d=true):toV d=some v∧R9 v=true:=by
 cases d<;>simp only[Rp]at h<;>first | (subst h;exact⟨rfl,rfl⟩) | cases f
theorem Rps.flat:∀{ds:List D} {vs:List V},Rps K cl F ds vs→ds.all j4=true→vs.all R9=true
 | [],_,h,_=>by rw[h.inv0];rfl
 | d::ds,_,h,f=>by
  obtain⟨v,r,rfl,h1,h2⟩:=h.inv
  rw[List.all_cons,Bool.and_eq_true]at f
  rw[List.all_cons,(h1.flat f.1).2,h2.flat f.2];rfl
theorem Rp.eq{d e:D}{v u:V}(h:Rp K cl F d v)(g:Rp K cl F e u)(fd:j4 d=true)(fe:j4 e=true):eqV v u=P8 d e:=by
 have h1:=(h.flat fd).1
 have h2:=(g.flat fe).1
 cases d<;>cases e<;>first | (cases h1;cases h2;rfl) | (cases fd;done) | (cases fe;done)
theorem Rps.eq:∀{ds es:List D} {vs us:List V},Rps K cl F ds vs→Rps K cl F es us→ds.all j4=true→es.all j4=true→a84 vs us=a65 ds es
 | [],[],_,_,h,g,_,_=>by rw[h.inv0,g.inv0];rfl
 | [],_::_,_,_,h,g,_,_=>by rw[h.inv0];obtain⟨_,_,rfl,_,_⟩:=g.inv;rfl
 | _::_,[],_,_,h,g,_,_=>by rw[g.inv0];obtain⟨_,_,rfl,_,_⟩:=h.inv;rfl
 | d::ds,e::es,_,_,h,g,fd,fe=>by
  obtain⟨v,r,rfl,h1,h2⟩:=h.inv
  obtain⟨u,r',rfl,g1,g2⟩:=g.inv
  rw[List.all_cons,Bool.and_eq_true]at fd fe
  unfold a84 a65
  rw[h1.eq g1 fd.1 fe.1,h2.eq g2 fd.2 fe.2]
def k8:D→Option D
 | .lst ds=>some (.int ds.length)
 | .tup ds=>some (.int ds.length)
 | .scr ns=>some (.int ns.length)
 | _=>none
theorem x8:CbOk1 K cl (a56 K) k8:=by
 intro x d z H F Q s hx h q
 unfold k8 at h
 split at h
 ·cases h
  obtain⟨a,xs,rfl,hH,r⟩:=hx.lst s
  exact⟨a,xs,rfl,.inl (.of hH),q _ H F (.refl s) (by simp only[Rp];rw[r.length])⟩
 ·cases h
  obtain⟨a,xs,rfl,hH,r⟩:=hx.tup s
  exact⟨a,xs,rfl,.inr (.of hH),q _ H F (.refl s) (by simp only[Rp];rw[r.length])⟩
 ·cases h
  obtain⟨a,rfl,hS⟩:=hx.scr s
  exact⟨a,_,rfl,.inl hS.seq,q _ H F (.refl s) (by simp only[Rp];rw[List.length_map])⟩
 ·cases h
def N6:D→Option (List D)
 | .lst ds=>some ds
 | .tup ds=>some ds
 | .scr ns=>some (ns.map .int)
 | _=>none
theorem a25:a4V K cl (a57 K) N6:=by
 intro x d zs H F Q s hx h q
 unfold N6 at h
 split at h
 ·cases h
  obtain⟨a,xs,rfl,hH,r⟩:=hx.lst s
  exact⟨a,xs,rfl,.inl (.of hH),fun p hp=>q p _ hp r⟩
 ·cases h
  obtain⟨a,xs,rfl,hH,r⟩:=hx.tup s
  exact⟨a,xs,rfl,.inr (.of hH),fun p hp=>q p _ hp r⟩
 ·cases h
  obtain⟨a,rfl,hS⟩:=hx.scr s
  exact⟨a,_,rfl,.inl hS.seq,fun p hp=>q p _ hp Rps.ofInts⟩
 ·cases h
def U9:List D→Option (List Bool)
 | []=>some []
 | .bl b::ds=>(U9 ds).map (b :: ·)
 | _=>none
theorem a4X:∀{ds:List D} {bs:List Bool},U9 ds=some bs→ds=bs.map .bl
 | [],_,h=>by cases h;rfl
 | .bl b::ds,_,h=>by
  unfold U9 at h
  cases q:U9 ds with
  | none=>rw[q]at h;cases h
  | some bs=>rw[q]at h;cases h;rw[a4X q];rfl
 | .non::_,_,h=>by cases h
 | .int _::_,_,h=>by cases h
 | .str _::_,_,h=>by cases h
 | .ty _::_,_,h=>by cases h
 | .cls _::_,_,h=>by cases h
 | .tup _::_,_,h=>by cases h
 | .lst _::_,_,h=>by cases h
 | .scr _::_,_,h=>by cases h
 | .exc _::_,_,h=>by cases h
 | .obj _ _ _::_,_,h=>by cases h
 | .dic _ _::_,_,h=>by cases h
def a0J:D→Option D
 | .lst ds=>(U9 ds).map fun bs=>.bl (bs.any id)
 | _=>none
theorem b3B:CbOk1 K cl (b28 K) a0J:=by
 intro x d z H F Q s hx h q
 unfold a0J at h
 split at h
 ·rename_i ds
  cases hb:U9 ds with
  | none=>rw[hb]at h;cases h
  | some bs =>
   rw[hb]at h;cases h
   obtain⟨a,xs,rfl,hH,r⟩:=hx.lst s
   rw[a4X hb]at r
   rw[r.bls]at hH
   exact⟨a,bs,rfl,.of hH,q _ H F (.refl s) (by simp only[Rp])⟩
 ·cases h
end
inductive R1 where | ret (d:D) | own (ds:List D) | owz (dss:List (List D)) | owp (n:Int) (ds:List D) | ex (c:Str)
def k6(K:W.Frag)(cl:Str→Addr)(g:List D→Option R1):Sp:=fun vs H Q E=>∃ds F,Same F H∧Rps K cl F ds vs∧match g ds with
 | none=>False
 | some (.ret d)=>∀v H' F',Gr H F H' F'→Rp K cl F' d v→Q v H'
 | some (.own es)=>∀a xs H' F',Gr H F H' F'→H a=none→H' a=some (.lst xs)→F' a=none→Rps K cl F' es xs→Q (.ref a) H'
 | some (.owz dss)=>∀p as H' F',Gr H F H' F'→H p=none→H' p=some (.tup (as.map V.ref))→F' p=none→Rz K cl F' H' (fun a=>H a=none) dss as→Q (.ref p) H'
 | some (.owp n es)=>∀p a xs H' F',Gr H F H' F'→H p=none→H' p=some (.tup [.int n,.ref a])→F' p=none→H a=none→H' a=some (.lst xs)→F' a=none→Rps K cl F' es xs→Q (.ref p) H'
 | some (.ex c)=>∀H' F',Gr H F H' F'→E (.ref (cl c)) none H'
def toZ(r:Option R1)(e:DE):Option (R D):=match r with
 | none=>none
 | some (.ret d)=>some (.ok d e)
 | some (.own ds)=>some (.ok (.lst ds) e)
 | some (.owz _)=>none
 | some (.owp _ _)=>none
 | some (.ex c)=>some (.ex c)
def a16(r:Option R1)(e:DE):Option (R D):=match r with
 | some (.ret d)=>some (.ok d e)
 | some (.own ds)=>some (.ok (.lst ds) e)
 | _=>none
def P9(g:List D→Option R1)(f:AF):ZF:=fun e=>bnd (f e) fun ds e1=>toZ (g ds) e1
def i6(g:List D→Option R1)(f:AF):ZF:=fun e=>bnd (f e) fun ds e1=>a16 (g ds) e1
def put(i:Nat)(s:Sl)(e:DE):Option RS:=match e[i]? with
 | none=>none
 | some (.hd _)=>none
 | some _=>some (.nx (e.set i s))
def a2F(i:Nat)(r:Option R1)(e:DE):Option RS:=match r with
 | none=>none
 | some (.ret d)=>put i (.fz d) e
 | some (.own ds)=>put i (.ow ds) e
 | some (.owz _)=>none
 | some (.owp _ _)=>none
 | some (.ex c)=>some (.ex c)
def a2G(i:Nat)(r:Option R1)(e:DE):Option RS:=match r with
 | some (.ret d)=>put i (.fz d) e
 | some (.own ds)=>put i (.ow ds) e
 | _=>none
def a4d(r:Option R1):Option RS:=match r with
 | none=>none
 | some (.ret d)=>some (.rt d)
 | some (.own ds)=>some (.ro ds)
 | some (.owz dss)=>some (.rz dss)
 | some (.owp n ds)=>some (.rp n ds)
 | some (.ex c)=>some (.ex c)
def a8j(r:Option R1):Option RS:=match r with
 | some (.ret d)=>some (.rt d)
 | some (.own ds)=>some (.ro ds)
 | _=>none
def D1:SF:=fun e=>some (.nx e)
def d5(f k:SF):SF:=fun e=>match f e with
 | some (.nx e1)=>k e1
 | r=>r
def v8(i:Nat)(f:ZF):SF:=fun e=>D3 (f e) fun d e1=>put i (.fz d) e1
def u4(i:Nat)(f:NF):SF:=fun e=>D3 (f e) fun ds e1=>put i (.ow ds) e1
def a4e(i:Nat)(g:List D→Option R1)(f:AF):SF:=fun e=>D3 (f e) fun ds e1=>a2F i (g ds) e1
def N0(i:Nat)(g:List D→Option R1)(f:AF):SF:=fun e=>D3 (f e) fun ds e1=>a2G i (g ds) e1
def z0(f:ZF):SF:=fun e=>D3 (f e) fun d _=>some (.rt d)
def S5(f:NF):SF:=fun e=>D3 (f e) fun ds _=>some (.ro ds)
def a0K(i:Nat):SF:=fun e=>match e[i]? with
 | some (.fz d)=>some (.rt d)
 | some (.ow ds)=>some (.ro ds)
 | _=>none
def D2(c:BF)(f k:SF):SF:=fun e=>D3 (c e) fun b e1=>if b=true then f e1 else k e1
def a4Z(c:Str)(f:AF):SF:=fun e=>D3 (f e) fun ds _=>if ds.length≤sizeLine then some (.ex c)else none
def X1(i:Nat)(f:ZF):SF:=fun e=>match look e i with
 | some (.lst _)=>D3 (f e) fun d e1=>match e1[i]? with
  | some (.ow ds)=>if ds.length<sizeLine then some (.nx (e1.set i (.ow (ds++[d]))))else none
  | _=>none
 | _=>none
def a66(i:Nat)(k:ZF)(f:ZF):SF:=fun e=>D3 (f e) fun d e1=>match look e1 i with
 | none=>none
 | some _=>D3 (k e1) fun j e2=>match e2[i]?,j with
  | some (.ow ds),.int j=>match Q6 ds.length j with
   | some n=>some (.nx (e2.set i (.ow (ds.set n d))))
   | none=>none
  | _,_=>none
section
variable {K:W.Frag}{cl:Str→Addr}{E:XK}{σ:St}{H F:Hp}{env:DE}
theorem Gr.fx{H' F':Hp}(g:Gr H F H' F'):FX σ H F env H' F':=⟨g.fz,g.sub,fun a o h f _=>g.hid a o h f,g.dom⟩
theorem a8k{g:List D→Option R1}{ds:List D}{vs:List V}{Q:VK}(R:Rel K cl σ H F env)(p:Rps K cl F ds vs)(h:Ct K cl E (PZ K cl) (toZ (g ds) env) σ H F env Q):k6 K cl g (vs++[]) H Q E:=by
 rw[List.append_nil]
 refine⟨ds,F,R.sub,p,?_⟩
 unfold toZ at h
 split at h
 ·exact h.elim
 ·exact fun v H' F' gr r=>h v H' F' (R.frm gr) (R.gr gr) r
 ·rename_i es _
  intro a xs H' F' gr ha hH hF r
  have sF:Same F' (upd F' a (.lst xs)):=Q8 hF _
  have gr':Gr H F H' (upd F' a (.lst xs)):=by
   refine⟨gr.fz.trans sF,fun b o z=>?_,fun b o hb fb=>?_⟩
   ·by_cases y:b=a
    ·subst y;rw[i0]at z;cases z;exact hH
    ·rw[b9 y]at z;exact gr.sub _ _ z
   ·obtain⟨h1,f1⟩:=gr.hid b o hb fb
    have nb:b≠a:=fun z=>by rw[z,ha]at hb;cases hb
    exact⟨h1,by rw[b9 nb];exact f1⟩
  exact h _ H' _ (R.frm gr') (R.gr gr') (by show Rp K cl _ (.lst es) _;simp only[Rp];exact⟨a,xs,rfl,i0,r.mono sF⟩)
 ·exact h.elim
 ·exact h.elim
 ·exact fun H' F' gr=>h H' F' gr.fx
theorem b1f{r:Option R1}{e:DE}{P:Py D V}{Q:VK}(h:Ct K cl E P (a16 r e) σ H F env Q):toZ r e=a16 r e∧∀c,r≠some (.ex c):=by
 unfold a16 at h
 split at h
 ·exact⟨rfl,fun c z=>by cases z⟩
 ·exact⟨rfl,fun c z=>by cases z⟩
 ·exact h.elim
theorem a1E{g:List D→Option R1}{t:TA}{f:AF}(hf:T5 K cl E t f):m8 K cl E (a0x (k6 K cl g) [] E t) (P9 g f):=by
 intro σ H Q env F R h
 refine hf σ H _ env F R ((Ct.bnd h U2).mono fun vs H1 ⟨F1,e1,ds,s1,R1,p1,h1⟩=>a8k R1 p1 h1)
theorem x9{g:List D→Option R1}{t:TA}{f:AF}(hf:T5 K cl E t f):m8 K cl E (a0x (k6 K cl g) [] E0 t) (i6 g f):=by
 intro σ H Q env F R h
 refine hf σ H _ env F R ((Ct.bnd h U2).mono fun vs H1 ⟨F1,e1,ds,s1,R1,p1,h1⟩=>?_)
 refine a8k R1 p1 ?_
 obtain⟨z,n⟩:=b1f h1
 rw[z]
 unfold Ct at h1 ⊢
 split at h1
 ·exact h1
 ·exact h1
 ·rename_i c q
  exact absurd q (by unfold a16;split<;>intro y<;>cases y)
theorem L3:RfS K cl E b0f D1:=fun N σ H env F R h=>h σ H F Frm.refl R
theorem h9{t u:TS}{f k:SF}(hf:RfS K cl E t f)(hk:RfS K cl E u k):RfS K cl E (b2L t u) (d5 f k):=by
 intro N σ H env F R h
 refine hf _ σ H env F R ?_
 unfold d5 at h
 split at h
 ·rename_i e1 q
  rw[q]
  intro σ' H' F' fr R'
  exact hk N σ' H' e1 F' R' (h.from fr)
 ·rename_i n
  unfold Cs at h ⊢
  split at h
  ·exact h
  ·rename_i e q;exact absurd q (n e)
  all_goals exact h
theorem a17{i:Nat}{s:Sl}{e:DE}{N:Ends}{σ0:St}{H0 F0:Hp}{env0:DE}(h:Cs K cl E (put i s e) σ0 H0 F0 env0 N):i<e.length∧(∀ds,e[i]?≠some (.hd ds))∧Cs K cl E (some (.nx (e.set i s))) σ0 H0 F0 env0 N:=by
 unfold put at h
 split at h
 ·exact h.elim
 ·exact h.elim
 ·rename_i z n q
  exact⟨(List.getElem?_eq_some_iff.mp q).1,fun ds y=>by rw[q]at y;cases y;exact n ds rfl,h⟩
theorem D4{i:Nat}{t:TE}{f:ZF}(hf:m8 K cl E t f):RfS K cl E (a0w t (Y3 i)) (v8 i f):=by
 intro N σ H env F R h
 refine hf σ H _ env F R ((Cs.bnd h).mono fun x H1 ⟨F1,e1,d,fr,R1,p1,h1⟩=>?_)
 obtain⟨hi,nh,h2⟩:=a17 h1
 exact h2 _ H1 F1 (fr.trans (Frm.put nh)) (R1.put hi nh p1)
theorem O1{i:Nat}{t:TE}{f:NF}(hf:W8 K cl E t f):RfS K cl E (a0w t (Y3 i)) (u4 i f):=by
 intro N σ H env F R h
 refine hf σ H _ env F R ((Cs.bnd h).mono fun x H1 ⟨F1,e1,ds,fr,R1,p1,h1⟩=>?_)
 obtain⟨a,xs,rfl,hn,hH,hF,nm,r⟩:=p1
 obtain⟨hi,nh,h2⟩:=a17 h1
 exact h2 _ H1 F1 (fr.putO hn nh) (R1.putO hi hH hF nm r)
theorem A5{t:TE}{f:ZF}(hf:m8 K cl E t f):RfS K cl E (a6F t) (z0 f):=by
 intro N σ H env F R h
 exact hf σ H _ env F R ((Cs.bnd h).mono fun x H1 ⟨F1,e1,d,fr,R1,p1,h1⟩=>h1 x H1 F1 (fr.toFX R1.sub) p1)
theorem a0q{t:TE}{f:NF}(hf:W8 K cl E t f):RfS K cl E (a6F t) (S5 f):=by
 intro N σ H env F R h
 refine hf σ H _ env F R ((Cs.bnd h).mono fun x H1 ⟨F1,e1,ds,fr,R1,p1,h1⟩=>?_)
 obtain⟨a,xs,rfl,hn,hH,hF,nm,r⟩:=p1
 exact h1 a xs H1 F1 (fr.toFX R1.sub) hH hF (fun o e=>by rw[hn]at e;cases e) r
theorem a6g{i:Nat}:RfS K cl E (a6F (B9 i)) (a0K i):=by
 intro N σ H env F R h
 unfold a0K at h
 split at h
 ·rename_i d q
  obtain⟨v,e,r⟩:=R.fz i d q
  exact⟨v,e,h v H F (Frm.refl.toFX R.sub) r⟩
 ·rename_i ds q
  obtain⟨a,xs,e,hH,hF,r⟩:=R.mu i ds (.inl q)
  exact⟨_,e,h a xs H F (Frm.refl.toFX R.sub) hH hF (fun o _=>⟨i,.ow ds,True.intro,q,e⟩) r⟩
 ·exact h.elim
theorem D5{c:TT}{t u:TS}{b:BF}{f k:SF}(hc:J6 K cl E c b)(hf:RfS K cl E t f)(hk:RfS K cl E u k):RfS K cl E (b2M c t u) (D2 b f k):=by
 intro N σ H env F R h
 refine hc σ H _ env F R ((Cs.bnd h).mono fun x H1 ⟨F1,e1,d,fr,R1,p1,h1⟩=>?_)
 cases (show x=d from p1)
 by_cases z:x=true
 ·rw[if_pos z]at h1 ⊢;exact hf N σ H1 e1 F1 R1 (h1.from fr)
 ·rw[if_neg z]at h1 ⊢;exact hk N σ H1 e1 F1 R1 (h1.from fr)
theorem a9p{c:Str}{t:TA}{f:AF}(hf:T5 K cl E t f):RfS K cl E (a7R (cl c) E t) (a4Z c f):=by
 intro N σ H env F R h
 refine hf σ H _ env F R ((Cs.bnd h).mono fun xs H1 ⟨F1,e1,ds,fr,R1,p1,h1⟩=>?_)
 have hl:ds.length=xs.length:=Rps.length p1
 split at h1
 ·rename_i z
  exact⟨by rw[← hl];exact z,h1 H1 F1 (fr.toFX R1.sub)⟩
 ·exact h1.elim
theorem b1g{i:Nat}{g:List D→Option R1}{t:TA}{f:AF}(hf:T5 K cl E t f):RfS K cl E (a0w (a0x (k6 K cl g) [] E t) (Y3 i)) (a4e i g f):=by
 intro N σ H env F R h
 refine hf σ H _ env F R ((Cs.bnd h).mono fun vs H1 ⟨F1,e1,ds,fr,R1,p1,h1⟩=>?_)
 show k6 K cl g (vs++[]) H1 _ E
 rw[List.append_nil]
 refine⟨ds,F1,R1.sub,p1,?_⟩
 unfold a2F at h1
 split at h1
 ·exact h1.elim
 ·obtain⟨hi,nh,h2⟩:=a17 h1
  exact fun v H' F' gr r=>h2 _ H' F' ((fr.trans (R1.frm gr)).trans (Frm.put nh)) ((R1.gr gr).put hi nh r)
 ·obtain⟨hi,nh,h2⟩:=a17 h1
  intro a xs H' F' gr ha hH hF r
  refine h2 _ H' F' ((fr.trans (R1.frm gr)).putO (fr.dom a ha) nh) ((R1.gr gr).putO hi hH hF (fun j mj e=>?_) r)
  obtain⟨es,q⟩:=mj
  obtain⟨b,ys,e',hb,_⟩:=R1.mu j es q
  rw[e]at e';cases e'
  rw[ha]at hb;cases hb
 ·exact h1.elim
 ·exact h1.elim
 ·exact fun H' F' gr=>h1 H' F' (fr.fx gr.fx)
theorem a0L{i:Nat}{g:List D→Option R1}{t:TA}{f:AF}(hf:T5 K cl E t f):RfS K cl E (a0w (a0x (k6 K cl g) [] E0 t) (Y3 i)) (N0 i g f):=by
 intro N σ H env F R h
 refine hf σ H _ env F R ((Cs.bnd h).mono fun vs H1 ⟨F1,e1,ds,fr,R1,p1,h1⟩=>?_)
 show k6 K cl g (vs++[]) H1 _ E0
 rw[List.append_nil]
 refine⟨ds,F1,R1.sub,p1,?_⟩
 unfold a2G at h1
 split at h1
 ·rename_i q;rw[q]
  obtain⟨hi,nh,h2⟩:=a17 h1
  exact fun v H' F' gr r=>h2 _ H' F' ((fr.trans (R1.frm gr)).trans (Frm.put nh)) ((R1.gr gr).put hi nh r)
 ·rename_i q;rw[q]
  obtain⟨hi,nh,h2⟩:=a17 h1
  intro a xs H' F' gr ha hH hF r
  refine h2 _ H' F' ((fr.trans (R1.frm gr)).putO (fr.dom a ha) nh) ((R1.gr gr).putO hi hH hF (fun j mj e=>?_) r)
  obtain⟨es,q⟩:=mj
  obtain⟨b,ys,e',hb,_⟩:=R1.mu j es q
  rw[e]at e';cases e'
  rw[ha]at hb;cases hb
 ·exact h1.elim
theorem Rel.change{i:Nat}{ds es:List D}{a:Addr}{ys:List V}(R:Rel K cl σ H F env)(h:env[i]? = some (.ow ds))(e:σ[i]? = some (some (.ref a)))(r:Rps K cl F es ys) :
  Rel K cl σ (upd H a (.lst ys)) F (env.set i (.ow es))∧Frm σ H F env σ (upd H a (.lst ys)) F (env.set i (.ow es)):=by
 obtain⟨a',xs,e',hH,hF,_⟩:=R.mu i ds (.inl h)
 rw[e]at e';cases e'
 have hi:i<env.length:=(List.getElem?_eq_some_iff.mp h).1
 have self:(env.set i (.ow es))[i]? = some (.ow es):=List.getElem?_set_self hi
 have oth:∀j,j≠i→(env.set i (.ow es))[j]? = env[j]?:=fun j hj=>List.getElem?_set_ne (Ne.symm hj)
 have mui:∀j,Mu (env.set i (.ow es)) j→Mu env j:=fun j ⟨fs,q⟩=>by
  by_cases z:j=i
  ·subst z;exact⟨ds,.inl h⟩
  ·rw[oth j z]at q;exact⟨fs,q⟩
 refine⟨⟨fun b o q=>?_,by rw[List.length_set];exact R.len,fun j d q=>?_,fun j fs q=>?_,fun j k b hj hk=>R.inj j k b (mui j hj) (mui k hk),(R.od.updL hH).setE a0G⟩,⟨Same.refl _,fun b o hb fb w=>?_,fun j fs q=>?_,fun b q=>?_⟩⟩
 ·have z:b≠a:=fun z=>by rw[z,hF]at q;cases q
  rw[b9 z];exact R.sub _ _ q
 ·have z:j≠i:=fun z=>by subst z;rw[self]at q;cases q
  rw[oth j z]at q;exact R.fz j d q
 ·by_cases z:j=i
  ·subst z
   rw[self]at q
   rcases q with q | q
   ·cases q;exact⟨a,ys,e,i0,hF,r⟩
   ·cases q
  ·rw[oth j z]at q
   obtain⟨b,zs,e1,h1,f1,r1⟩:=R.mu j fs q
   have nb:b≠a:=fun y=>z (R.inj j i b ⟨fs,q⟩ ⟨ds,.inl h⟩ e1 (by rw[y];exact e))
   exact⟨b,zs,e1,by rw[b9 nb];exact h1,f1,r1⟩
 ·have z:b≠a:=fun z=>w ⟨i,.ow ds,True.intro,h,by rw[z];exact e⟩
  refine⟨by rw[b9 z];exact hb,fb,fun⟨j,fs,oo,q,e1⟩=>?_⟩
  by_cases y:j=i
  ·subst y;rw[e]at e1;cases e1;exact z rfl
  ·rw[oth j y]at q;exact w ⟨j,fs,oo,q,e1⟩
 ·have z:j≠i:=fun z=>by subst z;rw[h]at q;cases q
  exact⟨by rw[oth j z];exact q,rfl⟩
 ·by_cases z:b=a
  ·rw[z,i0]at q;cases q
  ·rw[b9 z]at q;exact q
theorem a2H{i:Nat}{t:TE}{f:ZF}(hf:m8 K cl E t f):RfS K cl E (a6E (tBM K "list" a53 (B9 i) (N5 t W1))) (X1 i f):=by
 intro N σ H env F R h
 unfold X1 at h
 split at h
 ·rename_i ds0 q
  obtain⟨x,e0,rb⟩:=R.look q
  obtain⟨a0,xs0,rfl,hH0,_⟩:=rb.lst R.sub
  refine⟨_,e0,.inl ⟨rfl,xs0,.of hH0⟩,?_⟩
  ·refine hf σ H _ env F R ((Cs.bnd h).mono fun y H1 ⟨F1,e1,d,fr,R1,p1,h1⟩=>?_)
   split at h1
   ·rename_i ds q1
    split at h1
    ·rename_i c
     obtain⟨a,xs,e,hH,hF,r⟩:=R1.mu i ds (.inl q1)
     rw[e0]at e;cases e
     obtain⟨R2,f2⟩:=R1.change q1 e0 (r.append (.one p1))
     exact⟨_,xs,y,rfl,rfl,hH,by rw[← r.length];exact c,h1 σ _ F1 (fr.trans f2) R2⟩
    ·exact h1.elim
   ·exact h1.elim
 ·exact h.elim
theorem b3C{i:Nat}{t u:TE}{f k:ZF}(hf:m8 K cl E t f)(hk:m8 K cl E u k):RfS K cl E (a0w t (b2Q (B9 i) u b0m)) (a66 i k f):=by
 intro N σ H env F R h
 refine hf σ H _ env F R ((Cs.bnd h).mono fun x H1 ⟨F1,e1,d,fr,R1,p1,h1⟩=>?_)
 cases q:look e1 i with
 | none=>simp only[q]at h1;exact h1.elim
 | some d0 =>
  simp only[q]at h1
  obtain⟨o,e0,_⟩:=R1.look q
  refine⟨o,e0,hk σ H1 _ e1 F1 R1 ((Cs.bnd (h1.from fr)).mono fun y H2 ⟨F2,e2,j,fr2,R2,p2,h2⟩=>?_)⟩
  split at h2
  ·rename_i _ _ ds j q2
   split at h2
   ·rename_i n hn
    obtain⟨a,xs,e,hH,hF,r⟩:=R2.mu i ds (.inl q2)
    rw[e0]at e;cases e
    obtain⟨R3,f3⟩:=R2.change q2 e0 (r.set (Rp.mono fr2.fz _ _ p1) n)
    have hy:y=.int j:=by have:=(show Rp K cl F2 (.int j) y from p2);simpa only[Rp]using this
    exact⟨a,xs,j,n,rfl,hy,hH,by rw[← r.length];exact hn,h2 σ _ F2 (fr2.trans f3) R3⟩
   ·exact h2.elim
  ·exact h2.elim
end
abbrev GF:=D→DE→Option DE
def a8(i:Nat):GF:=fun d e=>match e[i]? with
 | none=>none
 | some (.hd _)=>none
 | some _=>some (e.set i (.fz d))
def a0M:List GF→List D→DE→Option DE
 | [],[],e=>some e
 | b::bs,d::ds,e=>match b d e with
  | none=>none
  | some e1=>a0M bs ds e1
 | _,_,_=>none
def B4(bs:List GF):GF:=fun d e=>match d with
 | .tup ds=>a0M bs ds e
 | _=>none
section
variable (K:W.Frag)(cl:Str→Addr)
def J8(k:Nat)(g:TG)(b:GF):Prop:=∀v σ H Q d env env' F,Rel K cl σ H F env→Rp K cl F d v→b d env=some env'→(∀σ',σ'.drop k=σ.drop k→σ'.length=σ.length→Frm σ H F env σ' H F env'→Rel K cl σ' H F env'→Q σ' H)→g v σ H Q
def a67(k:Nat)(t:TGs)(bs:List GF):Prop:=∀vs σ H Q ds env env' F,Rel K cl σ H F env→Rps K cl F ds vs→a0M bs ds env=some env'→(∀σ',σ'.drop k=σ.drop k→σ'.length=σ.length→Frm σ H F env σ' H F env'→Rel K cl σ' H F env'→Q σ' H)→t vs σ H Q
end
section
variable {K:W.Frag}{cl:Str→Addr}{E:XK}{σ:St}{H F:Hp}{env:DE}{k:Nat}
theorem a9q{α:Type}{l:List α}{i k:Nat}{x:α}(h:i<k):(l.set i x).drop k=l.drop k:=by
 apply List.ext_getElem?
 intro j
 rw[List.getElem?_drop,List.getElem?_drop,List.getElem?_set_ne (by omega)]
theorem d9{i:Nat}(hi:i<k):J8 K cl k (Y3 i) (a8 i):=by
 intro v σ H Q d env env' F R p h q
 unfold a8 at h
 split at h
 ·cases h
 ·cases h
 ·rename_i z n e
  cases h
  have nh:∀ds,env[i]?≠some (.hd ds):=fun ds y=>by rw[e]at y;cases y;exact n ds rfl
  exact q _ (a9q hi) List.length_set (Frm.put nh) (R.put (List.getElem?_eq_some_iff.mp e).1 nh p)
theorem L4:a67 K cl k b2O []:=by
 intro vs σ H Q ds env env' F R p h q
 cases ds with
 | nil=>cases h;exact⟨p.inv0,q σ rfl rfl Frm.refl R⟩
 | cons _ _=>cases h
theorem l3{t:TG}{u:TGs}{b:GF}{bs:List GF}(h1:J8 K cl k t b)(h2:a67 K cl k u bs):a67 K cl k (b0g t u) (b::bs):=by
 intro vs σ H Q ds env env' F R p h q
 cases ds with
 | nil=>cases h
 | cons d ds =>
  obtain⟨v,r,rfl,p1,p2⟩:=p.inv
  unfold a0M at h
  split at h
  ·cases h
  ·rename_i e1 hb
   refine⟨v,r,rfl,h1 v σ H _ d env e1 F R p1 hb fun σ1 d1 l1 f1 R1=>?_⟩
   exact h2 r σ1 H _ ds e1 env' F R1 p2 h fun σ2 d2 l2 f2 R2=>q σ2 (d2.trans d1) (l2.trans l1) (f1.trans f2) R2
theorem a3B:∀{bs:List GF} {ds:List D} {e e':DE},a0M bs ds e=some e'→ds.length=bs.length
 | [],[],_,_,_=>rfl
 | [],_::_,_,_,h=>by cases h
 | _::_,[],_,_,h=>by cases h
 | b::bs,d::ds,e,e',h=>by
  unfold a0M at h
  split at h
  ·cases h
  ·simp[a3B h]
theorem L5{t:TGs}{bs:List GF}{n:Nat}(h:a67 K cl k t bs)(hn:bs.length=n):J8 K cl k (a8Q K n t) (B4 bs):=by
 intro v σ H Q d env env' F R p e q
 unfold B4 at e
 split at e
 ·rename_i ds
  simp only[Rp]at p
  obtain⟨a,xs,rfl,hF,r⟩:=p
  exact⟨a,xs,rfl,.of (R.sub _ _ hF),by rw[← r.length,a3B e,hn],h xs σ H Q ds env env' F R r e q⟩
 ·cases e
def a0N(f:ZF)(b:GF):SF:=fun e=>D3 (f e) fun d e1=>match b d e1 with
 | none=>none
 | some e2=>some (.nx e2)
theorem a1j{t:TE}{g:TG}{f:ZF}{b:GF}(hf:m8 K cl E t f)(hg:J8 K cl k g b):RfS K cl E (a0w t g) (a0N f b):=by
 intro N σ H env F R h
 refine hf σ H _ env F R ((Cs.bnd h).mono fun x H1 ⟨F1,e1,d,fr,R1,p1,h1⟩=>?_)
 split at h1
 ·exact h1.elim
 ·rename_i e2 hb
  exact hg x σ H1 _ d e1 e2 F1 R1 p1 hb fun σ' _ _ f2 R2=>h1 σ' H1 F1 (fr.trans f2) R2
def t5(b:GF)(body:SF):List D→DE→Option RS
 | [],e=>some (.nx e)
 | d::ds,e=>match b d e with
  | none=>none
  | some e1=>match body e1 with
   | some (.nx e2)=>t5 b body ds e2
   | some (.ct e2)=>t5 b body ds e2
   | some (.bk e2)=>some (.nx e2)
   | r=>r
theorem a18{b:GF}{body:SF}{g:TG}{tb:TS}{d:D}{x:V}{ds:List D}{e1:DE}{N:Ends}{σ1:St}{H1 F1:Hp}{Pv:St→Hp→Prop}(hb:RfS K cl E tb body)(hg:J8 K cl k g b)
  (f1:Frm σ H F env σ1 H1 F1 e1) (R1:Rel K cl σ1 H1 F1 e1) (p:Rp K cl F1 d x) (h:Cs K cl E (t5 b body (d::ds) e1) σ H F env N)
  (hP:∀σ' H' F' e',Frm σ H F env σ' H' F' e'→Rel K cl σ' H' F' e'→Cs K cl E (t5 b body ds e') σ H F env N→Pv σ' H') :
  g x σ1 H1 fun σ2 H2=>tb { N with nx:=Pv,ct:=Pv,bk:=N.nx } σ2 H2:=by
 unfold t5 at h
 split at h
 ·exact h.elim
 ·rename_i e2 hbd
  refine hg x σ1 H1 _ d e1 e2 F1 R1 p hbd fun σ2 _ _ f2 R2=>?_
  refine hb _ σ2 H1 e2 F1 R2 ?_
  split at h
  ·rename_i e3 q;rw[q]
   exact fun σ' H' F' f3 R3=>hP σ' H' F' e3 ((f1.trans f2).trans f3) R3 h
  ·rename_i e3 q;rw[q]
   exact fun σ' H' F' f3 R3=>hP σ' H' F' e3 ((f1.trans f2).trans f3) R3 h
  ·rename_i e3 q;rw[q]
   exact fun σ' H' F' f3 R3=>h σ' H' F' ((f1.trans f2).trans f3) R3
  ·rename_i n1 n2 n3
   have h2:=h.from (f1.trans f2)
   unfold Cs at h2 ⊢
   split at h2
   ·exact h2
   ·rename_i e q;exact absurd q (n1 e)
   ·rename_i e q;exact absurd q (n3 e)
   ·rename_i e q;exact absurd q (n2 e)
   ·exact h2
   ·exact h2
   ·exact h2
   ·exact h2
   ·exact h2
theorem O2{α:Type}{l:List α}{i:Nat}{x:α}(h:l[i]? = some x):l.drop i=x::l.drop (i+1):=by
 obtain⟨hi,e⟩:=List.getElem?_eq_some_iff.mp h
 rw[← e];exact List.drop_eq_getElem_cons hi
theorem a68{b:GF}{body:SF}{g:TG}{tb:TS}{ds:List D}{xs:List V}{a:Addr}{N:Ends}(hb:RfS K cl E tb body)(hg:J8 K cl k g b)(R:Rel K cl σ H F env)
  (hl:∀σ' H' F' e',Frm σ H F env σ' H' F' e'→Rel K cl σ' H' F' e'→SqL K H' a xs) (r:Rps K cl F ds xs) (h:Cs K cl E (t5 b body ds env) σ H F env N) :
  ∃W:Nat→Nat→St→Hp→Prop,(∃m,W 0 m σ H)∧∀i m σ H,W i m σ H →
   ((Itl K a).stop i H∧N.nx σ H)∨((Itl K a).go i H∧∃M:St→Hp→Prop,(∀σ' H',M σ' H'→∃m',m'<m∧W (i+1) m' σ' H')∧∀x H',(Itl K a).yld i H x H'→g x σ H' fun σ2 H2=>tb { N with nx:=M,ct:=M,bk:=N.nx } σ2 H2):=by
 refine a8S (xs:=xs) (fun i σ' H'=>∃F' e',Frm σ H F env σ' H' F' e'∧Rel K cl σ' H' F' e'∧Cs K cl E (t5 b body (ds.drop i) e') σ H F env N) ⟨F,env,Frm.refl,R,h⟩ (fun i σ' H' _ ⟨F',e',f,R',_⟩=>hl σ' H' F' e' f R') (fun i x σ' H' hx ⟨F',e',f,R',h'⟩=>?_) (fun σ' H' ⟨F',e',f,R',h'⟩=>?_)
 ·obtain⟨d,hd,p⟩:=r.get' hx
  rw[O2 hd]at h'
  exact a18 hb hg f R' (Rp.mono f.fz _ _ p) h' fun σ2 H2 F2 e2 f2 R2 h2=>⟨F2,e2,f2,R2,h2⟩
 ·rw[← r.length,List.drop_length]at h'
  exact h' σ' H' F' f R'
def seqL:D→Option (List D)
 | .lst ds=>some ds
 | .scr ns=>some (ns.map .int)
 | _=>none
theorem Rp.seqL{d:D}{ds:List D}{v:V}(p:Rp K cl F d v)(s:L2.seqL d=some ds):∃a xs,v=.ref a∧Rps K cl F ds xs∧∀H',Same F H'→SqL K H' a xs:=by
 unfold L2.seqL at s
 split at s
 ·cases s;simp only[Rp]at p
  obtain⟨a,xs,e,h,r⟩:=p
  exact⟨a,xs,e,r,fun H' g=>.of (g _ _ h)⟩
 ·cases s;simp only[Rp]at p
  obtain⟨a,e,h⟩:=p
  exact⟨a,_,e,Rps.ofInts,fun H' g=>(h.same g).seq⟩
 ·cases s
def M3(f:ZF)(b:GF)(body:SF):SF:=fun e=>D3 (f e) fun d e1=>match seqL d with
 | none=>none
 | some ds=>t5 b body ds e1
theorem a40{t:TE}{g:TG}{tb:TS}{f:ZF}{b:GF}{body:SF}(hf:m8 K cl E t f)(hg:J8 K cl k g b)(hb:RfS K cl E tb body):RfS K cl E (a2V (a2h K t) g tb) (M3 f b body):=by
 intro N σ H env F R h
 refine hf σ H _ env F R ((Cs.bnd h).mono fun x H1 ⟨F1,e1,d,fr,R1,p1,h1⟩=>?_)
 split at h1
 ·exact h1.elim
 ·rename_i ds hs
  obtain⟨a,xs,rfl,r,hl⟩:=Rp.seqL p1 hs
  exact⟨a,rfl,⟨xs,hl H1 R1.sub⟩,a68 hb hg R1 (fun σ' H' F' e' f2 R2=>hl H' (f2.fz.trans R2.sub)) r (h1.from fr)⟩
def B5(lo:Int)(n:Nat):List D:=(List.range n).map fun(i:Nat)=>.int (lo+(i:Int))
theorem a3C{lo:Int}{n i:Nat}(h:i<n):(B5 lo n).drop i=.int (lo+i)::(B5 lo n).drop (i+1):=O2 (by unfold B5;rw[List.getElem?_map,List.getElem?_range h];rfl)
theorem a41{lo:Int}{n:Nat}:(B5 lo n).length=n:=by unfold B5;rw[List.length_map,List.length_range]
theorem b3D{b:GF}{body:SF}{g:TG}{tb:TS}{lo:Int}{n:Nat}{N:Ends}(hb:RfS K cl E tb body)(hg:J8 K cl k g b)(R:Rel K cl σ H F env)(h:Cs K cl E (t5 b body (B5 lo n) env) σ H F env N) :
  ∃W:Nat→Nat→St→Hp→Prop,(∃m,W 0 m σ H)∧∀i m σ H,W i m σ H →
   ((Itr lo n).stop i H∧N.nx σ H)∨((Itr lo n).go i H∧∃M:St→Hp→Prop,(∀σ' H',M σ' H'→∃m',m'<m∧W (i+1) m' σ' H')∧∀x H',(Itr lo n).yld i H x H'→g x σ H' fun σ2 H2=>tb { N with nx:=M,ct:=M,bk:=N.nx } σ2 H2):=by
 refine a7F (fun i σ' H'=>∃F' e',Frm σ H F env σ' H' F' e'∧Rel K cl σ' H' F' e'∧Cs K cl E (t5 b body ((B5 lo n).drop i) e') σ H F env N) ⟨F,env,Frm.refl,R,h⟩ (fun i σ' H' hx ⟨F',e',f,R',h'⟩=>?_) (fun σ' H' ⟨F',e',f,R',h'⟩=>?_)
 ·rw[a3C hx]at h'
  exact a18 hb hg f R' (by simp only[Rp]) h' fun σ2 H2 F2 e2 f2 R2 h2=>⟨F2,e2,f2,R2,h2⟩
 ·rw[show(B5 lo n).drop n=[]from List.drop_eq_nil_of_le (by rw[a41];exact Nat.le_refl _)]at h'
  exact h' σ' H' F' f R'
def G7(ds:List D):Option (Int×Nat):=match ds with
 | [.int j]=>if -(2 ^ 62)≤j∧j<2 ^ 62 then some (0,j.toNat)else none
 | _=>none
def a1k(ds:List D):Option (Int×Nat):=match ds with
 | [.int i,.int j]=>if -(2 ^ 62)≤i∧i<2 ^ 62∧-(2 ^ 62)≤j∧j<2 ^ 62 then some (i,(j-i).toNat)else none
 | _=>none
theorem a6h{ds:List D}{vs:List V}{lo:Int}{n:Nat}(h:G7 ds=some (lo,n))(p:Rps K cl F ds vs):∃j:Int,vs=[.int j]∧-(2 ^ 62)≤j∧j<2 ^ 62∧lo=0∧n=j.toNat:=by
 unfold G7 at h
 split at h
 ·rename_i j
  split at h
  ·rename_i c;cases h
   exact⟨j,(Rps.ints (ns:=[j]) p),c.1,c.2,rfl,rfl⟩
  ·cases h
 ·cases h
theorem b1h{ds:List D}{vs:List V}{lo:Int}{n:Nat}(h:a1k ds=some (lo,n))(p:Rps K cl F ds vs):∃i j:Int,vs=[.int i,.int j]∧(-(2 ^ 62)≤i∧i<2 ^ 62∧-(2 ^ 62)≤j∧j<2 ^ 62)∧lo=i∧n=(j-i).toNat:=by
 unfold a1k at h
 split at h
 ·rename_i i j
  split at h
  ·rename_i c;cases h
   exact⟨_,j,(Rps.ints (ns:=[_,j]) p),c,rfl,rfl⟩
  ·cases h
 ·cases h
def E6(rg:List D→Option (Int×Nat))(f:AF)(b:GF)(body:SF):SF:=fun e=>D3 (f e) fun ds e1=>match rg ds with
 | none=>none
 | some (lo,n)=>t5 b body (B5 lo n) e1
theorem a0O{t:TA}{g:TG}{tb:TS}{f:AF}{b:GF}{body:SF}(hf:T5 K cl E t f)(hg:J8 K cl k g b)(hb:RfS K cl E tb body):RfS K cl E (a2V (a6I t) g tb) (E6 G7 f b body):=by
 intro N σ H env F R h
 refine hf σ H _ env F R ((Cs.bnd h).mono fun x H1 ⟨F1,e1,ds,fr,R1,p1,h1⟩=>?_)
 split at h1
 ·exact h1.elim
 ·rename_i lo n hs
  obtain⟨j,e,c1,c2,rfl,rfl⟩:=a6h hs p1
  exact⟨j,e,c1,c2,b3D hb hg R1 (h1.from fr)⟩
theorem a9r{t:TA}{g:TG}{tb:TS}{f:AF}{b:GF}{body:SF}(hf:T5 K cl E t f)(hg:J8 K cl k g b)(hb:RfS K cl E tb body):RfS K cl E (a2V (b0h t) g tb) (E6 a1k f b body):=by
 intro N σ H env F R h
 refine hf σ H _ env F R ((Cs.bnd h).mono fun x H1 ⟨F1,e1,ds,fr,R1,p1,h1⟩=>?_)
 split at h1
 ·exact h1.elim
 ·rename_i lo n hs
  obtain⟨i,j,e,c,rfl,rfl⟩:=b1h hs p1
  exact⟨_,j,e,c,b3D hb hg R1 (h1.from fr)⟩
def F8(c:BF)(body:SF):Nat→SF
 | 0,_=>none
 | n+1,e=>D3 (c e) fun b e1=>if b=true then(match body e1 with
   | some (.nx e2)=>F8 c body n e2
   | some (.ct e2)=>F8 c body n e2
   | some (.bk e2)=>some (.nx e2)
   | r=>r)else some (.nx e1)
theorem a9s{tc:TT}{tb:TS}{c:BF}{body:SF}{n:Nat}(hc:J6 K cl E tc c)(hb:RfS K cl E tb body):RfS K cl E (a7B tc tb) (F8 c body n):=by
 intro N σ H env F R h
 refine⟨fun m σ' H'=>∃F' e',Rel K cl σ' H' F' e'∧Cs K cl E (F8 c body m e') σ' H' F' e' N,⟨n,F,env,R,h⟩,?_⟩
 rintro m σ1 H1 ⟨F1,e1,R1,h1⟩
 cases m with
 | zero=>exact h1.elim
 | succ m =>
  refine hc σ1 H1 _ e1 F1 R1 ((Cs.bnd h1).mono fun x H2 ⟨F2,e2,d,f2,R2,p2,h2⟩=>?_)
  cases (show x=d from p2)
  by_cases z:x=true
  ·rw[if_pos z]at h2 ⊢
   refine⟨fun σ' H'=>∃F' e',Rel K cl σ' H' F' e'∧Cs K cl E (F8 c body m e') σ' H' F' e' N,fun σ' H' q=>⟨m,Nat.lt_succ_self m,q⟩,?_⟩
   refine hb _ σ1 H2 e2 F2 R2 ?_
   split at h2
   ·rename_i e3 q;rw[q]
    exact fun σ' H' F' f3 R3=>⟨F',e3,R3,h2.from (f2.trans f3)⟩
   ·rename_i e3 q;rw[q]
    exact fun σ' H' F' f3 R3=>⟨F',e3,R3,h2.from (f2.trans f3)⟩
   ·rename_i e3 q;rw[q]
    exact fun σ' H' F' f3 R3=>h2 σ' H' F' (f2.trans f3) R3
   ·rename_i n1 n2 n3
    have h3:=h2.from f2
    unfold Cs at h3 ⊢
    split at h3
    ·exact h3
    ·rename_i e q;exact absurd q (n1 e)
    ·rename_i e q;exact absurd q (n3 e)
    ·rename_i e q;exact absurd q (n2 e)
    ·exact h3
    ·exact h3
    ·exact h3
    ·exact h3
    ·exact h3
  ·rw[if_neg z]at h2 ⊢;exact h2 σ1 H2 F2 f2 R2
end
section
variable {K:W.Frag}{cl:Str→Addr}{E:XK}{σ:St}{H F:Hp}{env:DE}{k:Nat}
def unhide(i:Nat)(ds:List D)(r:Option RS):Option RS:=match r with
 | some (.nx e)=>some (.nx (e.set i (.ow ds)))
 | some (.bk _)=>none
 | some (.ct _)=>none
 | r=>r
theorem Rel.hide{i:Nat}{ds:List D}(R:Rel K cl σ H F env)(h:env[i]? = some (.ow ds)):Rel K cl σ H F (env.set i (.hd ds)):=by
 have hi:i<env.length:=(List.getElem?_eq_some_iff.mp h).1
 have self:(env.set i (.hd ds))[i]? = some (.hd ds):=List.getElem?_set_self hi
 have oth:∀j,j≠i→(env.set i (.hd ds))[j]? = env[j]?:=fun j hj=>List.getElem?_set_ne (Ne.symm hj)
 have mui:∀(j:Nat) (fs:List D),(env.set i (.hd ds))[j]? = some (.ow fs)∨(env.set i (.hd ds))[j]? = some (.hd fs)→env[j]? = some (.ow fs)∨env[j]? = some (.hd fs):=fun j fs q=>by
  by_cases z:j=i
  ·subst z;rw[self]at q;rcases q with q | q<;>cases q;exact .inl h
  ·rw[oth j z]at q;exact q
 refine⟨R.sub,by rw[List.length_set];exact R.len,fun j d q=>?_,fun j fs q=>R.mu j fs (mui j fs q),fun j l b ⟨fs,q⟩ ⟨gs,q'⟩=>R.inj j l b ⟨fs,mui j fs q⟩ ⟨gs,mui l gs q'⟩,R.od.setE a60⟩
 have z:j≠i:=fun z=>by subst z;rw[self]at q;cases q
 rw[oth j z]at q;exact R.fz j d q
theorem Ow.hide{i:Nat}{ds:List D}{a:Addr}(w:Ow σ (env.set i (.hd ds)) a):Ow σ env a:=by
 obtain⟨j,fs,oo,q,e⟩:=w
 by_cases z:j=i
 ·subst z
  have hj:j<env.length:=by have:=(List.getElem?_eq_some_iff.mp q).1;rwa [List.length_set]at this
  rw[List.getElem?_set_self hj]at q;cases q;exact oo.elim
 ·rw[List.getElem?_set_ne (Ne.symm z)]at q;exact⟨j,fs,oo,q,e⟩
theorem Rel.unhide{i:Nat}{ds:List D}(R:Rel K cl σ H F env)(h:env[i]? = some (.hd ds)):Rel K cl σ H F (env.set i (.ow ds)):=by
 have hi:i<env.length:=(List.getElem?_eq_some_iff.mp h).1
 have self:(env.set i (.ow ds))[i]? = some (.ow ds):=List.getElem?_set_self hi
 have oth:∀j,j≠i→(env.set i (.ow ds))[j]? = env[j]?:=fun j hj=>List.getElem?_set_ne (Ne.symm hj)
 have mui:∀(j:Nat) (fs:List D),(env.set i (.ow ds))[j]? = some (.ow fs)∨(env.set i (.ow ds))[j]? = some (.hd fs)→env[j]? = some (.ow fs)∨env[j]? = some (.hd fs):=fun j fs q=>by
  by_cases z:j=i
  ·subst z;rw[self]at q;rcases q with q | q<;>cases q;exact .inr h
  ·rw[oth j z]at q;exact q
 refine⟨R.sub,by rw[List.length_set];exact R.len,fun j d q=>?_,fun j fs q=>R.mu j fs (mui j fs q),fun j l b ⟨fs,q⟩ ⟨gs,q'⟩=>R.inj j l b ⟨fs,mui j fs q⟩ ⟨gs,mui l gs q'⟩,R.od.setE a0G⟩
 have z:j≠i:=fun z=>by subst z;rw[self]at q;cases q
 rw[oth j z]at q;exact R.fz j d q
theorem Cs.hide{i:Nat}{ds:List D}{r:Option RS}{N:Ends}(R:Rel K cl σ H F env)(h:env[i]? = some (.ow ds))(c:Cs K cl E (unhide i ds r) σ H F env N):Cs K cl E r σ H F (env.set i (.hd ds)) N:=by
 have hi:i<env.length:=(List.getElem?_eq_some_iff.mp h).1
 have self:(env.set i (.hd ds))[i]? = some (.hd ds):=List.getElem?_set_self hi
 have fx:∀{H' F'},FX σ H F (env.set i (.hd ds)) H' F'→FX σ H F env H' F':=fun x=>⟨x.fz,x.sub,fun a o h f w=>x.hid a o h f fun y=>w y.hide,x.dom⟩
 rcases r with _ | r
 ·exact c
 cases r with
 | nx e =>
  intro σ' H' F' f R'
  obtain⟨q,eσ⟩:=f.keep i ds self
  refine c σ' H' F' ⟨f.fz,fun a o ha fa w=>?_,fun j fs q'=>?_,f.dom⟩ (R'.unhide q)
  ·obtain⟨h1,f1,w1⟩:=f.hid a o ha fa fun y=>w y.hide
   refine⟨h1,f1,fun⟨j,fs,oo,q2,e2⟩=>?_⟩
   by_cases z:j=i
   ·subst z
    rw[eσ]at e2
    exact w ⟨j,.ow ds,True.intro,h,e2⟩
   ·rw[List.getElem?_set_ne (Ne.symm z)]at q2
    exact w1 ⟨j,fs,oo,q2,e2⟩
  ·have z:j≠i:=fun z=>by subst z;rw[h]at q';cases q'
   obtain⟨q2,e2⟩:=f.keep j fs (by rw[List.getElem?_set_ne (Ne.symm z)];exact q')
   exact⟨by rw[List.getElem?_set_ne (Ne.symm z)];exact q2,e2⟩
 | bk e=>exact c.elim
 | ct e=>exact c.elim
 | rt d=>exact fun v H' F' x p=>c v H' F' (fx x) p
 | ro es=>exact fun a xs H' F' x ha fa nw p=>c a xs H' F' (fx x) ha fa (fun o e=>(nw o e).hide) p
 | rp n es=>exact fun p a xs H' F' x hp ht fp ha fa nw r=>c p a xs H' F' (fx x) hp ht fp ha fa (fun o e=>(nw o e).hide) r
 | rz dss=>exact fun p as H' F' x hp ht fp rz=>c p as H' F' (fx x) hp ht fp (rz.imp fun a xs ha fa nw o e=>(nw o e).hide)
 | ex n=>exact fun H' F' x=>c H' F' (fx x)
def a4f(i:Nat)(b:GF)(body:SF):SF:=fun e=>match e[i]? with
 | some (.fz d)=>(match seqL d with
  | none=>none
  | some ds=>t5 b body ds e)
 | some (.ow ds)=>unhide i ds (t5 b body ds (e.set i (.hd ds)))
 | some (.hd ds)=>t5 b body ds e
 | _=>none
theorem Rel.hid_stays{i:Nat}{ds:List D}(R:Rel K cl σ H F env)(h:env[i]? = some (.hd ds)):∃a xs,σ[i]? = some (some (.ref a))∧Rps K cl F ds xs∧H a=some (.lst xs)∧∀σ' H' F' e',Frm σ H F env σ' H' F' e'→H' a=some (.lst xs):=by
 obtain⟨a,xs,e,hH,hF,r⟩:=R.mu i ds (.inr h)
 refine⟨a,xs,e,r,hH,fun σ' H' F' e' f=>(f.hid a _ hH hF fun⟨j,fs,oo,q,e'⟩=>?_).1⟩
 cases fs with
 | ow fs =>
  have z:i=j:=R.inj i j a ⟨ds,.inr h⟩ ⟨fs,.inl q⟩ e e'
  subst z;rw[h]at q;cases q
 | od ks fs =>
  obtain⟨a',xs',e2,h2,_⟩:=R.od.at_ j _ ks fs q ⟨rfl,rfl⟩
  rw[e']at e2;cases e2
  rw[hH]at h2
  exact a24 (Option.some.inj h2).symm
 | no=>exact oo
 | fz _=>exact oo
 | hd _=>exact oo
 | hk _ _=>exact oo
theorem b1i{i:Nat}{g:TG}{tb:TS}{b:GF}{body:SF}(hg:J8 K cl k g b)(hb:RfS K cl E tb body):RfS K cl E (a2V (a2h K (B9 i)) g tb) (a4f i b body):=by
 intro N σ H env F R h
 unfold a4f at h
 split at h
 ·rename_i d q
  split at h
  ·exact h.elim
  ·rename_i ds hs
   obtain⟨v,e,p⟩:=R.fz i d q
   obtain⟨a,xs,rfl,r,hl⟩:=Rp.seqL p hs
   exact⟨_,e,a,rfl,⟨xs,hl H R.sub⟩,a68 hb hg R (fun σ' H' F' e' f2 R2=>hl H' (f2.fz.trans R2.sub)) r h⟩
 ·rename_i ds q
  have hi:i<env.length:=(List.getElem?_eq_some_iff.mp q).1
  have R':=R.hide q
  obtain⟨a,xs,e,r,hH,st⟩:=R'.hid_stays (i:=i) (ds:=ds) (List.getElem?_set_self hi)
  exact⟨_,e,a,rfl,⟨xs,.of hH⟩,a68 hb hg R' (fun σ' H' F' e' f2 R2=>.of (st σ' H' F' e' f2)) r (h.hide R q)⟩
 ·rename_i ds q
  obtain⟨a,xs,e,r,hH,st⟩:=R.hid_stays q
  exact⟨_,e,a,rfl,⟨xs,.of hH⟩,a68 hb hg R (fun σ' H' F' e' f2 R2=>.of (st σ' H' F' e' f2)) r h⟩
 ·exact h.elim
def enD(n:Nat):List D→List D
 | []=>[]
 | d::ds=>.tup [.int n,d]::enD (n+1) ds
theorem a6i:∀{ds:List D} {n i:Nat} {d:D},ds[i]? = some d→(enD n ds)[i]? = some (.tup [.int (n+i:Nat),d])
 | [],_,_,_,h=>by simp at h
 | _::_,n,0,_,h=>by simp at h;subst h;rfl
 | _::ds,n,i+1,d,h=>by
  have:=a6i (ds:=ds) (n:=n+1) (i:=i) (d:=d) (by simpa using h)
  show(enD (n+1) ds)[i]? = _
  rw[this,show n+1+i=n+(i+1) by omega]
theorem a6j:∀{ds:List D} {n:Nat},(enD n ds).length=ds.length
 | [],_=>rfl
 | _::ds,n=>by show(enD (n+1) ds).length+1=ds.length+1;rw[a6j]
def a26(e:DE):Bool:=e.all fun s=>match s with
 | .hd _=>false
 | _=>true
def b3E(n i:Nat)(exm:Str→Bool)(body suite:SF):SF:=fun e=>match body e with
 | some (.ex c)=>if(exm c && a26 e)=true then(match suite ((List.replicate n Sl.no).set i (.fz (.exc c)))with
   | some (.nx e2)=>put i .no e2
   | some (.rt d)=>some (.rt d)
   | some (.ro ds)=>some (.ro ds)
   | _=>none)else none
 | r=>r
theorem Rel.drop{i:Nat}(R:Rel K cl σ H F env)(nh:∀ds,env[i]?≠some (.hd ds)):Rel K cl (σ.set i none) H F (env.set i .no)∧Frm σ H F env (σ.set i none) H F (env.set i .no):=by
 have key:∀(j:Nat) (s:Sl),(env.set i .no)[j]? = some s→s≠.no→j≠i∧env[j]? = some s:=fun j s q ns=>by
  by_cases z:j=i
  ·subst z
   have hj:j<env.length:=by have:=(List.getElem?_eq_some_iff.mp q).1;rwa [List.length_set]at this
   rw[List.getElem?_set_self hj]at q;cases q;exact absurd rfl ns
  ·rw[List.getElem?_set_ne (Ne.symm z)]at q;exact⟨z,q⟩
 have muk:∀j,Mu (env.set i .no) j→j≠i∧Mu env j:=fun j ⟨ds,q⟩=>by
  rcases q with q | q
  ·obtain⟨z,q⟩:=key j _ q (fun z=>by cases z);exact⟨z,ds,.inl q⟩
  ·obtain⟨z,q⟩:=key j _ q (fun z=>by cases z);exact⟨z,ds,.inr q⟩
 refine⟨⟨R.sub,by rw[List.length_set,List.length_set];exact R.len,fun j d q=>?_,fun j ds q=>?_,fun j l b hj hl e1 e2=>?_,R.od.set a61⟩,⟨Same.refl _,fun a o h f w=>⟨h,f,fun⟨j,ds,oo,q,e⟩=>?_⟩,fun j ds q=>?_,fun _ h=>h⟩⟩
 ·obtain⟨z,q⟩:=key j _ q (fun z=>by cases z)
  obtain⟨v,e,p⟩:=R.fz j d q
  exact⟨v,by rw[List.getElem?_set_ne (Ne.symm z)];exact e,p⟩
 ·have:j≠i∧(env[j]? = some (.ow ds)∨env[j]? = some (.hd ds)):=by
   rcases q with q | q
   ·obtain⟨z,q⟩:=key j _ q (fun z=>by cases z);exact⟨z,.inl q⟩
   ·obtain⟨z,q⟩:=key j _ q (fun z=>by cases z);exact⟨z,.inr q⟩
  obtain⟨z,q⟩:=this
  obtain⟨a,xs,e,r⟩:=R.mu j ds q
  exact⟨a,xs,by rw[List.getElem?_set_ne (Ne.symm z)];exact e,r⟩
 ·obtain⟨zj,mj⟩:=muk j hj
  obtain⟨zl,ml⟩:=muk l hl
  rw[List.getElem?_set_ne (Ne.symm zj)]at e1
  rw[List.getElem?_set_ne (Ne.symm zl)]at e2
  exact R.inj j l b mj ml e1 e2
 ·obtain⟨z,q⟩:=key j _ q (fun z=>by subst z;exact oo)
  rw[List.getElem?_set_ne (Ne.symm z)]at e
  exact w ⟨j,ds,oo,q,e⟩
 ·have z:j≠i:=fun z=>by subst z;exact nh ds q
  rw[List.getElem?_set_ne (Ne.symm z),List.getElem?_set_ne (Ne.symm z)]
  exact⟨q,rfl⟩
end
section
variable {K:W.Frag}{cl:Str→Addr}{E:XK}{σ:St}{H F:Hp}{env:DE}{k:Nat}
def X2:Option Sl→Sl
 | some (.fz d)=>.fz d
 | some (.ow ds)=>.hd ds
 | some (.hd ds)=>.hd ds
 | some (.od ks ds)=>.hk ks ds
 | some (.hk ks ds)=>.hk ks ds
 | _=>.no
def j6(k:Nat)(js:List Nat)(e:DE):DE:=List.replicate k .no++js.map fun j=>X2 e[j]?
def j8(b:GF)(c:BF)(el:ZF)(ec:DE)(eo:DE):List D→List D→Option (R (List D))
 | [],acc=>some (.ok acc eo)
 | d::ds,acc=>match b d ec with
  | none=>none
  | some e1=>bnd (c e1) fun t e2=>if t=true then bnd (el e2) fun y _=>if acc.length<sizeLine then j8 b c el ec eo ds (acc++[y])else none
   else j8 b c el ec eo ds acc
theorem T6{js:List Nat}{e:DE}{i:Nat}{s:Sl}(h:(j6 k js e)[i]? = some s)(n:s≠.no):k≤i∧∃j,js[i-k]? = some j∧X2 e[j]? = s:=by
 unfold j6 at h
 by_cases z:i<k
 ·rw[List.getElem?_append_left (by rw[List.length_replicate];exact z),List.getElem?_replicate,if_pos z]at h
  cases h;exact absurd rfl n
 ·rw[List.getElem?_append_right (by rw[List.length_replicate];omega),List.length_replicate,List.getElem?_map]at h
  cases q:js[i-k]? with
  | none=>rw[q]at h;cases h
  | some j=>rw[q]at h;cases h;exact⟨by omega,j,rfl,rfl⟩
theorem E7{js:List Nat}{i j:Nat}{v:V}(hk:k≤i)(hj:js[i-k]? = some j)(h:σ[j]? = some (some v)):(l5 k js σ)[i]? = some (some v):=by
 unfold l5
 rw[List.getElem?_append_right (by rw[List.length_replicate];exact hk),List.length_replicate,List.getElem?_map,hj]
 simp[h]
theorem RelOd.comp{js:List Nat}(R:RelOd K cl σ H F env)(nd:js.Nodup):RelOd K cl (l5 k js σ) H F (j6 k js env):=by
 have cap:∀{j:Nat} {s:Sl} {ks:DK} {ds:List D},X2 env[j]? = s→M8 s ks ds→∃t,env[j]? = some t∧M8 t ks ds:=fun{j s ks ds} h d=>by
  unfold X2 at h
  split at h<;>subst h
  ·exact d.elim
  ·exact d.elim
  ·exact d.elim
  ·rename_i q;exact⟨_,q,d⟩
  ·rename_i q;exact⟨_,q,d⟩
  ·exact d.elim
 have get:∀(i:Nat) (s:Sl) (ks:DK) (ds:List D),(j6 k js env)[i]? = some s→M8 s ks ds→k≤i∧∃j t,js[i-k]? = some j∧env[j]? = some t∧M8 t ks ds:=fun i s ks ds h d=>by
  obtain⟨hk,j,hj,c⟩:=T6 h (fun z=>by subst z;exact d)
  obtain⟨t,q,dt⟩:=cap c d
  exact⟨hk,j,t,hj,q,dt⟩
 refine⟨fun i s ks ds h d=>?_,fun i l s t ks ls ds es b hi di hl dl ei el=>?_⟩
 ·obtain⟨hk,j,t,hj,q,dt⟩:=get i s ks ds h d
  obtain⟨a,xs,e,r⟩:=R.at_ j t ks ds q dt
  exact⟨a,xs,E7 hk hj e,r⟩
 ·obtain⟨hk,j,s',hj,q,dt⟩:=get i s ks ds hi di
  obtain⟨hk',m,t',hm,q',dt'⟩:=get l t ls es hl dl
  obtain⟨a,xs,e,_⟩:=R.at_ j s' ks ds q dt
  obtain⟨a',xs',e',_⟩:=R.at_ m t' ls es q' dt'
  have h1:=E7 (k:=k) hk hj e
  have h2:=E7 (k:=k) hk' hm e'
  rw[ei]at h1;cases h1
  rw[el]at h2;cases h2
  have jm:j=m:=R.inj j m s' t' ks ls ds es b q dt q' dt' e e'
  subst jm
  obtain⟨hi',ej⟩:=List.getElem?_eq_some_iff.mp hj
  obtain⟨hl',em⟩:=List.getElem?_eq_some_iff.mp hm
  have:i-k=l-k:=(List.getElem_inj nd).mp (ej.trans em.symm)
  omega
theorem Rel.comp{js:List Nat}(R:Rel K cl σ H F env)(nd:js.Nodup):Rel K cl (l5 k js σ) H F (j6 k js env):=by
 have cap:∀{j:Nat} {ds:List D},X2 env[j]? = .hd ds→env[j]? = some (.ow ds)∨env[j]? = some (.hd ds):=fun{j ds} h=>by
  unfold X2 at h
  split at h
  ·cases h
  ·rename_i q;cases h;exact .inl q
  ·rename_i q;cases h;exact .inr q
  ·cases h
  ·cases h
  ·cases h
 have noow:∀{j:Nat} {ds:List D},X2 env[j]?≠.ow ds:=fun{j ds} h=>by
  unfold X2 at h
  split at h<;>cases h
 have mu':∀(i:Nat) (ds:List D),((j6 k js env)[i]? = some (.ow ds)∨(j6 k js env)[i]? = some (.hd ds))→k≤i∧∃j,js[i-k]? = some j∧(env[j]? = some (.ow ds)∨env[j]? = some (.hd ds)):=fun i ds q=>by
  rcases q with q | q
  ·obtain⟨hk,j,hj,c⟩:=T6 q (fun z=>by cases z);exact absurd c noow
  ·obtain⟨hk,j,hj,c⟩:=T6 q (fun z=>by cases z);exact⟨hk,j,hj,cap c⟩
 refine⟨R.sub,?_,fun i d q=>?_,fun i ds q=>?_,fun i l b ⟨ds,q⟩ ⟨es,q'⟩ e1 e2=>?_,R.od.comp nd⟩
 ·unfold l5 j6
  rw[List.length_append,List.length_append,List.length_replicate,List.length_replicate,List.length_map,List.length_map]
 ·obtain⟨hk,j,hj,c⟩:=T6 q (fun z=>by cases z)
  have:env[j]? = some (.fz d):=by
   unfold X2 at c
   split at c
   ·rename_i q;cases c;exact q
   all_goals cases c
  obtain⟨v,e,p⟩:=R.fz j d this
  exact⟨v,E7 hk hj e,p⟩
 ·obtain⟨hk,j,hj,c⟩:=mu' i ds q
  obtain⟨a,xs,e,r⟩:=R.mu j ds c
  exact⟨a,xs,E7 hk hj e,r⟩
 ·obtain⟨hk,j,hj,c⟩:=mu' i ds q
  obtain⟨hl,m,hm,c'⟩:=mu' l es q'
  obtain⟨a,xs,e,_⟩:=R.mu j ds c
  obtain⟨a',xs',e',_⟩:=R.mu m es c'
  have h1:=E7 (k:=k) hk hj e
  have h2:=E7 (k:=k) hl hm e'
  rw[e1]at h1;cases h1
  rw[e2]at h2;cases h2
  have jm:j=m:=R.inj j m b ⟨ds,c⟩ ⟨es,c'⟩ e e'
  subst jm
  obtain⟨hi',ei⟩:=List.getElem?_eq_some_iff.mp hj
  obtain⟨hl',el⟩:=List.getElem?_eq_some_iff.mp hm
  have:i-k=l-k:=(List.getElem_inj nd).mp (ei.trans el.symm)
  omega
def NoOw(e:DE):Prop:=∀(i:Nat) (s:Sl),isO s→e[i]?≠some s
theorem a3D{js:List Nat}{e:DE}:NoOw (j6 k js e):=fun i s oo q=>by
 obtain⟨hk,j,hj,c⟩:=T6 q (fun z=>by subst z;exact oo)
 unfold X2 at c
 split at c<;>subst c<;>exact oo
theorem NoOw.not{e:DE}(n:NoOw e){σ:St}{a:Addr}:¬Ow σ e a:=fun⟨i,ds,oo,q,_⟩=>n i ds oo q
theorem Frm.gr{σ':St}{H' F':Hp}{env':DE}(f:Frm σ H F env σ' H' F' env')(n:NoOw env)(s:Same F' H'):Gr H F H' F':=⟨f.fz,s,fun a o h g=>by obtain⟨h1,f1,_⟩:=f.hid a o h g n.not;exact⟨h1,f1⟩⟩
theorem FX.gr{H' F':Hp}(f:FX σ H F env H' F')(n:NoOw env):Gr H F H' F':=⟨f.fz,f.sub,fun a o h g=>f.hid a o h g n.not⟩
structure Grow(K:W.Frag)(cl:Str→Addr)(σ:St)(H0 F0:Hp)(env:DE)(B:Addr)(acc:List D)(ys:List V)(H F:Hp):Prop where
 rel:Rel K cl σ H F env
 frm:Frm σ H0 F0 env σ H F env
 new:H0 B=none
 at_:H B=some (.lst ys)
 un:F B=none
 far:∀j,Mu env j→σ[j]?≠some (some (.ref B))
 rps:Rps K cl F acc ys
 stay:∀a o,H0 a=some o→F0 a=none→H a=some o∧F a=none
theorem Grow.start{B:Addr}(R:Rel K cl σ H F env)(hB:H B=none):Grow K cl σ H F env B [] [] (upd H B (.lst [])) F:=by
 obtain⟨R',f⟩:=R.newN (o:=.lst []) hB
 refine⟨R',f,hB,i0,R.sub.free hB,fun j ⟨ds,q⟩ e=>?_,.nil,fun a o h f=>⟨by rw[b9 (fun z=>by rw[z,hB]at h;cases h)];exact h,f⟩⟩
 obtain⟨a,ys,e1,hH,_⟩:=R.mu j ds q
 rw[e]at e1;cases e1
 rw[hB]at hH;cases hH
theorem Grow.gr{B:Addr}{acc:List D}{ys:List V}{H0 F0 H' F':Hp}(g:Grow K cl σ H0 F0 env B acc ys H F)(r:Gr H F H' F'):Grow K cl σ H0 F0 env B acc ys H' F' :=
 ⟨g.rel.gr r,g.frm.trans (g.rel.frm r),g.new,(r.hid B _ g.at_ g.un).1,(r.hid B _ g.at_ g.un).2,g.far,g.rps.mono r.fz,fun a o h f=>by obtain⟨h1,f1⟩:=g.stay a o h f;exact r.hid a o h1 f1⟩
theorem Grow.push{B:Addr}{acc:List D}{ys:List V}{H0 F0:Hp}{d:D}{y:V}(g:Grow K cl σ H0 F0 env B acc ys H F)(p:Rp K cl F d y):Grow K cl σ H0 F0 env B (acc++[d]) (ys++[y]) (upd H B (.lst (ys++[y]))) F:=by
 have ne:∀a o,F a=some o→a≠B:=fun a o h z=>by rw[z,g.un]at h;cases h
 refine⟨⟨fun a o h=>by rw[b9 (ne a o h)];exact g.rel.sub _ _ h,g.rel.len,g.rel.fz,fun j ds q=>?_,g.rel.inj,g.rel.od.updL g.at_⟩,⟨g.frm.fz,fun a o h f w=>?_,g.frm.keep,fun a h=>?_⟩,g.new,i0,g.un,g.far,g.rps.append (.one p),fun a o h f=>by rw[b9 (fun z=>by rw[z,g.new]at h;cases h)];exact g.stay a o h f⟩
 ·obtain⟨a,xs,e,hH,r⟩:=g.rel.mu j ds q
  have z:a≠B:=fun z=>g.far j ⟨ds,q⟩ (by rw[e,z])
  exact⟨a,xs,e,by rw[b9 z];exact hH,r⟩
 ·have z:a≠B:=fun z=>by rw[z,g.new]at h;cases h
  rw[b9 z];exact g.frm.hid a o h f w
 ·by_cases z:a=B
  ·rw[z,i0]at h;cases h
  ·rw[b9 z]at h;exact g.frm.dom a h
theorem Z4{b:GF}{c:BF}{el:ZF}{g:TG}{tf:TT}{te:TE}{js:List Nat}{B:Addr}{d:D}{x:V}{ds acc:List D}{ys:List V}{H0 F0:Hp}{Q:VK}{Pv:List V→Hp→Prop}(nd:js.Nodup)
  (hg:J8 K cl k g b) (hc:J6 K cl E tf c) (he:m8 K cl E te el) (gw:Grow K cl σ H0 F0 env B acc ys H F) (p:Rp K cl F d x)
  (h:Ct K cl E (PN K cl) (j8 b c el (j6 k js env) env (d::ds) acc) σ H0 F0 env Q)
  (hP:∀acc' ys' H' F',Grow K cl σ H0 F0 env B acc' ys' H' F'→Ct K cl E (PN K cl) (j8 b c el (j6 k js env) env ds acc') σ H0 F0 env Q→Pv ys' H') :
  g x (l5 k js σ) H fun σ2 H2=>(σ2.drop k=(l5 k js σ).drop k∧σ2.length=(l5 k js σ).length)∧tf σ2 H2 fun t H3 =>
   if t=true then te σ2 H3 fun y H4=>H4 B=some (.lst ys)∧ys.length<sizeLine∧Pv (ys++[y]) (upd H4 B (.lst (ys++[y])))else Pv ys H3:=by
 unfold j8 at h
 have Rc:Rel K cl (l5 k js σ) H F (j6 k js env):=gw.rel.comp nd
 split at h
 ·exact h.elim
 ·rename_i e1 hb
  refine hg x _ H _ d _ e1 F Rc p hb fun σ2 d2 l2 f2 R2=>⟨⟨d2,l2⟩,?_⟩
  have n1:NoOw (j6 k js env):=a3D
  -- ways out by an exception
  have exc:∀{H' F':Hp} {σ':St} {e':DE} {H'' F'':Hp} {n:Str},Frm (l5 k js σ) H F (j6 k js env) σ' H' F' e'→FX σ' H' F' e' H'' F''→(∀H' F',FX σ H0 F0 env H' F'→E (.ref (cl n)) none H')→E (.ref (cl n)) none H'':=fun{H' F' σ' e' H'' F'' n} f fx q=>by
   have gr:Gr H F H'' F'':=(f.fx fx).gr n1
   exact q _ _ (gw.frm.fx gr.fx)
  refine hc σ2 H _ e1 F R2 ?_
  cases hce:c e1 with
  | none=>rw[hce]at h;exact h.elim
  | some rc =>
   rw[hce]at h
   cases rc with
   | ex n=>exact fun H' F' fx=>exc f2 fx h
   | ok t e2 =>
    intro t' H3 F3 f3 R3 ht
    have ht:t'=t:=ht
    subst ht
    have h:Ct K cl E (PN K cl) (if t'=true then bnd (el e2) fun y _=>if acc.length<sizeLine then j8 b c el (j6 k js env) env ds (acc++[y])else none else j8 b c el (j6 k js env) env ds acc) σ H0 F0 env Q:=h
    have gr3:Gr H F H3 F3:=(f2.trans f3).gr n1 R3.sub
    by_cases z:t'=true
    ·rw[if_pos z]at h ⊢
     refine he σ2 H3 _ e2 F3 R3 ?_
     cases hel:el e2 with
     | none=>rw[hel]at h;exact h.elim
     | some re =>
      rw[hel]at h
      cases re with
      | ex n=>exact fun H' F' fx=>exc (f2.trans f3) fx h
      | ok y e3 =>
       intro v H4 F4 f4 R4 hv
       have h:Ct K cl E (PN K cl) (if acc.length<sizeLine then j8 b c el (j6 k js env) env ds (acc++[y])else none) σ H0 F0 env Q:=h
       split at h
       ·rename_i hlen
        have gr4:Gr H F H4 F4:=((f2.trans f3).trans f4).gr n1 R4.sub
        have gw4:=gw.gr gr4
        exact⟨gw4.at_,by rw[← gw4.rps.length];exact hlen,hP _ _ _ _ (gw4.push hv) h⟩
       ·exact h.elim
    ·rw[if_neg z]at h ⊢
     exact hP _ _ _ _ (gw.gr gr3) h
theorem a0P{b:GF}{c:BF}{el:ZF}{js:List Nat}{B:Addr}{acc:List D}{ys:List V}{H0 F0:Hp}{Q:VK}(gw:Grow K cl σ H0 F0 env B acc ys H F)(h:Ct K cl E (PN K cl) (j8 b c el (j6 k js env) env [] acc) σ H0 F0 env Q):Q (.ref B) H :=
 h _ H F gw.frm gw.rel ⟨B,ys,rfl,gw.new,gw.at_,gw.un,gw.far,gw.rps⟩
theorem a4g{b:GF}{c:BF}{el:ZF}{g:TG}{tf:TT}{te:TE}{js:List Nat}{ds:List D}{xs:List V}{a B:Addr}{Q:VK}(nd:js.Nodup)(hg:J8 K cl k g b)(hc:J6 K cl E tf c)(he:m8 K cl E te el)(R:Rel K cl σ H F env)(hB:H B=none)
  (hl:∀H' F',Same F F'→Same F' H'→(∀a o,H a=some o→F a=none→H' a=some o∧F' a=none)→SqL K H' a xs) (r:Rps K cl F ds xs) (h:Ct K cl E (PN K cl) (j8 b c el (j6 k js env) env ds []) σ H F env Q) :
  J5 (Itl K a) g tf te k (l5 k js σ) B (fun H'=>Q (.ref B) H') H:=by
 refine a7S (xs:=xs) (fun i ys H'=>∃F' acc,Grow K cl σ H F env B acc ys H' F'∧Ct K cl E (PN K cl) (j8 b c el (j6 k js env) env (ds.drop i) acc) σ H F env Q) ⟨F,[],.start R hB,h⟩ (fun i ys H' _ ⟨F',acc,gw,_⟩=>hl H' F' gw.frm.fz gw.rel.sub gw.stay) (fun i x ys H' hx ⟨F',acc,gw,h'⟩=>?_) (fun ys H' ⟨F',acc,gw,h'⟩=>?_)
 ·obtain⟨d,hd,p⟩:=r.get' hx
  rw[O2 hd]at h'
  exact Z4 (Pv:=fun ys' H2=>∃F' acc,Grow K cl σ H F env B acc ys' H2 F'∧Ct K cl E (PN K cl) (j8 b c el (j6 k js env) env (ds.drop (i+1)) acc) σ H F env Q) nd hg hc he gw (Rp.mono gw.frm.fz _ _ p) h' fun acc' ys' H2 F2 gw2 h2=>⟨F2,acc',gw2,h2⟩
 ·rw[← r.length,List.drop_length]at h'
  exact a0P gw h'
theorem b3F{b:GF}{c:BF}{el:ZF}{g:TG}{tf:TT}{te:TE}{js:List Nat}{lo:Int}{n:Nat}{B:Addr}{Q:VK}(nd:js.Nodup)(hg:J8 K cl k g b)(hc:J6 K cl E tf c)(he:m8 K cl E te el)(R:Rel K cl σ H F env)(hB:H B=none)
  (h:Ct K cl E (PN K cl) (j8 b c el (j6 k js env) env (B5 lo n) []) σ H F env Q) :
  J5 (Itr lo n) g tf te k (l5 k js σ) B (fun H'=>Q (.ref B) H') H:=by
 refine a6Q (fun i ys H'=>∃F' acc,Grow K cl σ H F env B acc ys H' F'∧Ct K cl E (PN K cl) (j8 b c el (j6 k js env) env ((B5 lo n).drop i) acc) σ H F env Q) ⟨F,[],.start R hB,h⟩ (fun i ys H' hx ⟨F',acc,gw,h'⟩=>?_) (fun ys H' ⟨F',acc,gw,h'⟩=>?_)
 ·rw[a3C hx]at h'
  exact Z4 (Pv:=fun ys' H2=>∃F' acc,Grow K cl σ H F env B acc ys' H2 F'∧Ct K cl E (PN K cl) (j8 b c el (j6 k js env) env ((B5 lo n).drop (i+1)) acc) σ H F env Q) nd hg hc he gw (by simp only[Rp]) h' fun acc' ys' H2 F2 gw2 h2=>⟨F2,acc',gw2,h2⟩
 ·rw[show(B5 lo n).drop n=[]from List.drop_eq_nil_of_le (by rw[a41];exact Nat.le_refl _)]at h'
  exact a0P gw h'
def n6:BF:=fun e=>some (.ok true e)
theorem E8:J6 K cl E b0o n6:=fun σ H Q env F R h=>h true H F Frm.refl R rfl
def Q0(k:Nat)(js:List Nat)(f:ZF)(b:GF)(c:BF)(el:ZF):NF:=fun e=>bnd (f e) fun d e1=>match seqL d with
 | none=>none
 | some ds=>j8 b c el (j6 k js e1) e1 ds []
def J9(i:Nat)(k:Nat)(js:List Nat)(b:GF)(c:BF)(el:ZF):NF:=fun e=>match look e i with
 | some d=>(match seqL d with
  | none=>none
  | some ds=>j8 b c el (j6 k js e) e ds [])
 | none=>none
def K0(rg:List D→Option (Int×Nat))(k:Nat)(js:List Nat)(f:AF)(b:GF)(c:BF)(el:ZF):NF:=fun e=>bnd (f e) fun ds e1=>match rg ds with
 | none=>none
 | some (lo,n)=>j8 b c el (j6 k js e1) e1 (B5 lo n) []
theorem a27{t:TE}{g:TG}{tf:TT}{te:TE}{js:List Nat}{f:ZF}{b:GF}{c:BF}{el:ZF}(nd:js.Nodup)(hf:m8 K cl E t f)(hg:J8 K cl k g b)(hc:J6 K cl E tf c)(he:m8 K cl E te el):W8 K cl E (Y8 (a2h K t) g tf te k js) (Q0 k js f b c el):=by
 intro σ H Q env F R h
 refine hf σ H _ env F R ((Ct.bnd h a1h).mono fun x H1 ⟨F1,e1,d,s1,R1,p1,h1⟩=>?_)
 split at h1
 ·exact h1.elim
 ·rename_i ds hs
  obtain⟨a,xs,rfl,r,hl⟩:=Rp.seqL p1 hs
  exact⟨a,rfl,⟨xs,hl H1 R1.sub⟩,fun B hB=>a4g nd hg hc he R1 hB (fun H' F' f2 s2 _=>hl H' (f2.trans s2)) r h1⟩
theorem X3{i:Nat}{g:TG}{tf:TT}{te:TE}{js:List Nat}{b:GF}{c:BF}{el:ZF}(nd:js.Nodup)(hg:J8 K cl k g b)(hc:J6 K cl E tf c)(he:m8 K cl E te el):W8 K cl E (Y8 (a2h K (B9 i)) g tf te k js) (J9 i k js b c el):=by
 intro σ H Q env F R h
 unfold J9 look at h
 cases q:env[i]? with
 | none=>rw[q]at h;exact h.elim
 | some s =>
  rw[q]at h
  cases s with
  | no=>exact h.elim
  | od _ _=>exact h.elim
  | hk _ _=>exact h.elim
  | fz d =>
   have h:Ct K cl E (PN K cl) (match seqL d with
    | none=>none
    | some ds=>j8 b c el (j6 k js env) env ds []) σ H F env Q:=h
   split at h
   ·exact h.elim
   ·rename_i ds hs
    obtain⟨v,e,p⟩:=R.fz i d q
    obtain⟨a,xs,rfl,r,hl⟩:=Rp.seqL p hs
    exact⟨_,e,a,rfl,⟨xs,hl H R.sub⟩,fun B hB=>a4g nd hg hc he R hB (fun H' F' f2 s2 _=>hl H' (f2.trans s2)) r h⟩
  | ow ds =>
   have h:Ct K cl E (PN K cl) (j8 b c el (j6 k js env) env ds []) σ H F env Q:=h
   obtain⟨a,xs,e,hH,hF,r⟩:=R.mu i ds (.inl q)
   exact⟨_,e,a,rfl,⟨xs,.of hH⟩,fun B hB=>a4g nd hg hc he R hB (fun H' F' _ _ st=>.of (st a _ hH hF).1) r h⟩
  | hd ds =>
   have h:Ct K cl E (PN K cl) (j8 b c el (j6 k js env) env ds []) σ H F env Q:=h
   obtain⟨a,xs,e,hH,hF,r⟩:=R.mu i ds (.inr q)
   exact⟨_,e,a,rfl,⟨xs,.of hH⟩,fun B hB=>a4g nd hg hc he R hB (fun H' F' _ _ st=>.of (st a _ hH hF).1) r h⟩
theorem a1l{t:TA}{g:TG}{tf:TT}{te:TE}{js:List Nat}{f:AF}{b:GF}{c:BF}{el:ZF}(nd:js.Nodup)(hf:T5 K cl E t f)(hg:J8 K cl k g b)(hc:J6 K cl E tf c)(he:m8 K cl E te el):W8 K cl E (Y8 (a6I t) g tf te k js) (K0 G7 k js f b c el):=by
 intro σ H Q env F R h
 refine hf σ H _ env F R ((Ct.bnd h a1h).mono fun x H1 ⟨F1,e1,ds,s1,R1,p1,h1⟩=>?_)
 split at h1
 ·exact h1.elim
 ·rename_i lo n hs
  obtain⟨j,e,c1,c2,rfl,rfl⟩:=a6h hs p1
  exact⟨j,e,c1,c2,fun B hB=>b3F nd hg hc he R1 hB h1⟩
theorem V0{i:Nat}{wi:TI}{g:TG}{tf:TT}{te:TE}{js:List Nat}{f:NF}(h:W8 K cl E (Y8 wi g tf te k js) f):RfS K cl E (a4B i wi g tf te k js) (u4 i f):=fun N σ H env F R q=>O1 h N σ H env F R q
end
def fD(n m:Nat)(body:SF)(ds:List D):Option R1:=if ds.length=m then(match body (ds.map .fz++List.replicate (n-ds.length) .no)with
 | some (.nx _)=>some (.ret .non)
 | some (.rt d)=>some (.ret d)
 | some (.ro es)=>some (.own es)
 | some (.rz dss)=>some (.owz dss)
 | some (.rp n es)=>some (.owp n es)
 | some (.ex c)=>some (.ex c)
 | _=>none)else none
section
variable {P:Program}{w:World}{K:W.Frag}{mg:Str→Option Value}{base:Heap}{cl:Str→Addr}
theorem a8l{N:List Str}{vs:List V}{ds:List D}{H F:Hp}(s:Same F H)(p:Rps K cl F ds vs):Rel K cl (start N vs) H F (ds.map .fz++List.replicate (N.length-ds.length) .no)∧NoOw (ds.map .fz++List.replicate (N.length-ds.length) .no):=by
 have key:∀(i:Nat) (t:Sl),(ds.map Sl.fz++List.replicate (N.length-ds.length) .no)[i]? = some t→t≠.no→∃d,ds[i]? = some d∧t=.fz d:=fun i t q n=>by
  by_cases z:i<ds.length
  ·rw[List.getElem?_append_left (by rw[List.length_map];exact z),List.getElem?_map]at q
   cases hd:ds[i]? with
   | none=>rw[hd]at q;cases q
   | some d=>rw[hd]at q;cases q;exact⟨d,rfl,rfl⟩
  ·rw[List.getElem?_append_right (by rw[List.length_map];omega),List.getElem?_replicate]at q
   split at q
   ·cases q;exact absurd rfl n
   ·cases q
 have no:NoOw (ds.map .fz++List.replicate (N.length-ds.length) .no):=fun i es oo q=>by
  obtain⟨d,_,z⟩:=key i _ q (fun z=>by subst z;exact oo)
  subst z;exact oo
 refine⟨⟨s,?_,fun i d q=>?_,fun i es q=>?_,fun i j b ⟨es,q⟩ _ _ _=>?_,.none fun j s ks ds q d=>by obtain⟨_,_,rfl⟩:=key j s q (fun z=>by subst z;exact d);exact d⟩,no⟩
 ·unfold start
  rw[List.length_append,List.length_append,List.length_map,List.length_map,List.length_replicate,List.length_replicate,p.length]
 ·obtain⟨d',hd,z⟩:=key i _ q (fun z=>by cases z)
  cases z
  obtain⟨v,hv,r⟩:=p.get hd
  refine⟨v,?_,r⟩
  unfold start
  rw[List.getElem?_append_left (by rw[List.length_map];exact(List.getElem?_eq_some_iff.mp hv).1),List.getElem?_map,hv];rfl
 ·rcases q with q | q
  ·obtain⟨d,_,z⟩:=key i _ q (fun z=>by cases z);cases z
  ·obtain⟨d,_,z⟩:=key i _ q (fun z=>by cases z);cases z
 ·rcases q with q | q
  ·obtain⟨d,_,z⟩:=key i _ q (fun z=>by cases z);cases z
  ·obtain⟨d,_,z⟩:=key i _ q (fun z=>by cases z);cases z
theorem a1F{n m:Nat}{body:SF}{vs:List V}{H:Hp}{Q:VK}{E:XK}(h:k6 K cl (fD n m body) vs H Q E):vs.length=m:=by
 obtain⟨ds,F,s,p,h⟩:=h
 unfold fD at h
 by_cases z:ds.length=m
 ·rw[← p.length];exact z
 ·rw[if_neg z]at h;exact h.elim
theorem V1{N:List Str}{m:Nat}{body:SF}{t:TS}{vs:List V}{H:Hp}{Q:VK}{E:XK}(hb:RfS K cl E t body)(h:k6 K cl (fD N.length m body) vs H Q E):t { nx:=fun _ H'=>Q .non H',rt:=Q } (start N vs) H:=by
 obtain⟨ds,F,s,p,h⟩:=h
 obtain⟨R,no⟩:=a8l (N:=N) s p
 refine hb _ _ H _ F R ?_
 unfold fD at h
 by_cases z:ds.length=m
 ·rw[if_pos z]at h
  cases r:body (ds.map .fz++List.replicate (N.length-ds.length) .no)with
  | none=>rw[r]at h;exact h.elim
  | some rs =>
   rw[r]at h
   cases rs with
   | nx e=>exact fun σ' H' F' f R'=>h .non H' F' (f.gr no R'.sub) (by simp only[Rp])
   | rt d=>exact fun v H' F' x q=>h v H' F' (x.gr no) q
   | ro es =>
    refine fun a xs H' F' x ha fa nw q=>h a xs H' F' (x.gr no) ?_ ha fa q
    cases e:H a with
    | none=>rfl
    | some o=>exact absurd (nw o e) no.not
   | rz dss =>
    refine fun p as H' F' x hp ht fp rz=>h p as H' F' (x.gr no) hp ht fp (rz.imp fun a xs ha fa nw=>?_)
    cases e:H a with
    | none=>rfl
    | some o=>exact absurd (nw o e) no.not
   | rp n es =>
    refine fun p a xs H' F' x hp ht fp ha fa nw q=>h p a xs H' F' (x.gr no) hp ht fp ?_ ha fa q
    cases e:H a with
    | none=>rfl
    | some o=>exact absurd (nw o e) no.not
   | bk e=>exact h.elim
   | ct e=>exact h.elim
   | ex c=>exact fun H' F' x=>h H' F' (x.gr no)
 ·rw[if_neg z]at h;exact h.elim
theorem Fun.okD{x qual:Str}{st:Stmt}{f:Addr}{fd:FuncData}{N ps:List Str}{k:Nat}{body:SF}(F:Fun K x qual st f fd)(S:FnScope N ps (a7 st))
  (hbody:∀(cdv:Value) (A:Around) (outer:List Env) (s:Shared) (H:Hp) (E:XK),Room k (A.deeper (envOfC qual (a7 st) s.heap.objs.size f cdv)) →
   ∃t,PSs (O9 (t8 P w) P w K mg base N qual (a7 st) f cdv A outer s H E) (j7 st) t∧RfS K cl E t body):FnOk P w K mg base (t8 P w) (k+1) f fd ps (k6 K cl (fD N.length ps.length body)) :=
 F.okE S (fun vs H Q E h=>a1F h) fun cdv A outer s H vs Q E hr h=>by
  obtain⟨t,h1,h2⟩:=hbody cdv A outer s H E hr
  exact⟨t,h1,V1 h2 h⟩
theorem FunD.okD{x qual:Str}{st:Stmt}{dT f:Addr}{fd:FuncData}{N ps:List Str}{k:Nat}{body:SF}(F:FunD K x qual st dT f fd)(S:FnScope N ps (a7 st))
  (hbody:∀(cdv:Value) (A:Around) (outer:List Env) (s:Shared) (H:Hp) (E:XK),Room k (A.deeper (envOfC qual (a7 st) s.heap.objs.size f cdv)) →
   ∃t,PSs (O9 (t8 P w) P w K mg base N qual (a7 st) f cdv A outer s H E) (j7 st) t∧RfS K cl E t body):FnOk P w K mg base (t8 P w) (k+1) f fd ps (k6 K cl (fD N.length ps.length body)) :=
 F.okE S (fun vs H Q E h=>a1F h) fun cdv A outer s H vs Q E hr h=>by
  obtain⟨t,h1,h2⟩:=hbody cdv A outer s H E hr
  exact⟨t,h1,V1 h2 h⟩
theorem b1j{g:List D→Option R1}{vs:List V}{H:Hp}{Q:VK}{E:XK}{a:Addr}{ns:List Int}(e:vs=[.ref a])(h:Scr K H a (ns.map V.int))(q:∀H',Q (.bl true) H')(m:g [.scr ns]=some (.ret (.bl true))):k6 K cl g vs H Q E:=by
 refine⟨[.scr ns],H,Same.refl _,?_,?_⟩
 ·rw[e];exact .one (by simp only[Rp];exact⟨a,rfl,h⟩)
 ·rw[m]
  intro v H' F' _ p
  have p:Rp K cl F' (.bl true) v:=p
  simp only[Rp]at p
  rw[p];exact q H'
def tyN:D→Option String
 | .non=>some "NoneType"
 | .bl _=>some "bool"
 | .int _=>some "int"
 | .str _=>some "str"
 | .lst _=>some "list"
 | .tup _=>some "tuple"
 | _=>none
theorem b1k{K:W.Frag}(t n:String)(ht:t∈["NoneType","bool","int","str","list","tuple"])(hn:n∈["bool","int","str","list","tuple"]):W.kitOne K (.type t) (.type n)=some (t == n || (t == "bool" && n == "int")):=by
 simp only[List.mem_cons,List.not_mem_nil,or_false]at ht hn
 rcases ht with rfl | rfl | rfl | rfl | rfl | rfl<;>rcases hn with rfl | rfl | rfl | rfl | rfl<;>first | rfl | with_unfolding_all rfl
def b5I:List D→Option D
 | [d,.ty n]=>match tyN d with
  | some t=>if n∈["bool","int","str","list","tuple"]then some (.bl (t == n || (t == "bool" && n == "int")))else none
  | none=>none
 | _=>none
theorem b1l{d:D}{t:String}(h:tyN d=some t):t∈["NoneType","bool","int","str","list","tuple"]:=by
 cases d<;>cases h<;>decide
theorem b3G{F H:Hp}{d:D}{t:String}{v:V}(s:Same F H)(p:Rp K cl F d v)(h:tyN d=some t):TyX K H v (.type t):=by
 cases d<;>cases h<;>simp only[Rp]at p
 ·subst p;exact .of .non
 ·subst p;exact .of (.bl _)
 ·subst p;exact .of (.int _)
 ·subst p;exact .of (.str _)
 ·obtain⟨a,xs,rfl,h,_⟩:=p;exact .of (.tup (s _ _ h))
 ·obtain⟨a,xs,rfl,h,_⟩:=p;exact .of (.lst (s _ _ h))
def a4h(n:String)(d:D):Option D:=match tyN d with
 | some t=>if n∈["bool","int","str","list","tuple"]then some (.bl (t == n || (t == "bool" && n == "int")))else none
 | none=>none
def a0Q(i:Nat)(n:String):ZF:=fun e=>match look e i with
 | some d=>Z1 (a4h n d) e
 | none=>none
theorem a28{E:XK}{i:Nat}{n:String}{t:TE}(ht:t=tC (.ty n):=by rfl):m8 K cl E (tCB (a82 K) (N5 (B9 i) (N5 t W1))) (a0Q i n):=by
 subst ht
 intro σ H Q env F R h
 unfold a0Q at h
 cases q:look env i with
 | none=>rw[q]at h;exact h.elim
 | some d =>
  rw[q]at h
  obtain⟨x,e,rb⟩:=R.look q
  refine⟨x,e,?_⟩
  cases hz:a4h n d with
  | none=>simp only[hz,a0H]at h;exact h.elim
  | some z =>
   simp only[hz,R5]at h
   unfold a4h at hz
   split at hz
   ·rename_i t ht
    split at hz
    ·rename_i hn;cases hz
     refine⟨x,_,_,_,_,rfl,rfl,?_,b1k t n (b1l ht) hn,h _ H F Frm.refl R (by show Rp K cl F (.bl _) _;simp only[Rp])⟩
     rcases rb with p | ⟨a,xs,ds,rfl,rfl,hH,_⟩
     ·exact b3G R.sub p ht
     ·cases ht;exact .of (.lst hH)
    ·cases hz
   ·cases hz
end
section
variable {α β:Type}
def U3(r:Option RS)(k:SF):Option RS:=match r with
 | some (.nx e)=>k e
 | r=>r
theorem a6k{f k:SF}{e:DE}:d5 f k e=U3 (f e) k:=rfl
theorem a6l{e:DE}{k:SF}:U3 (some (.nx e)) k=k e:=rfl
theorem b1m{d:D}{k:SF}:U3 (some (.rt d)) k=some (.rt d):=rfl
theorem b1n{d:List D}{k:SF}:U3 (some (.ro d)) k=some (.ro d):=rfl
theorem b1o{d:Str}{k:SF}:U3 (some (.ex d)) k=some (.ex d):=rfl
theorem b1p{e:DE}{k:SF}:U3 (some (.bk e)) k=some (.bk e):=rfl
theorem b1q{e:DE}{k:SF}:U3 (some (.ct e)) k=some (.ct e):=rfl
theorem b1r{k:SF}:U3 none k=none:=rfl
theorem a9t{c:Prop} [Decidable c] {a b:Option RS} {k:SF}:U3 (if c then a else b) k=if c then U3 a k else U3 b k:=by split<;>rfl
theorem b1s{d:D}{e:DE}:toZ (some (.ret d)) e=some (.ok d e):=rfl
theorem b1t{d:List D}{e:DE}:toZ (some (.own d)) e=some (.ok (.lst d) e):=rfl
theorem b3H{d:Str}{e:DE}:toZ (some (.ex d)) e=some (.ex d):=rfl
theorem a9u{d:D}{e:DE}:a16 (some (.ret d)) e=some (.ok d e):=rfl
theorem a9v{d:List D}{e:DE}:a16 (some (.own d)) e=some (.ok (.lst d) e):=rfl
theorem a8n{i:Nat}{d:D}{e:DE}:a2F i (some (.ret d)) e=put i (.fz d) e:=rfl
theorem a8o{i:Nat}{d:List D}{e:DE}:a2F i (some (.own d)) e=put i (.ow d) e:=rfl
theorem a9w{i:Nat}{d:Str}{e:DE}:a2F i (some (.ex d)) e=some (.ex d):=rfl
theorem a69{i:Nat}{d:D}{e:DE}:a2G i (some (.ret d)) e=put i (.fz d) e:=rfl
theorem a6_{i:Nat}{d:List D}{e:DE}:a2G i (some (.own d)) e=put i (.ow d) e:=rfl
theorem a8p{d:D}:a4d (some (.ret d))=some (.rt d):=rfl
theorem a8q{d:List D}:a4d (some (.own d))=some (.ro d):=rfl
theorem a9x{d:Str}:a4d (some (.ex d))=some (.ex d):=rfl
theorem a7a{d:D}:a8j (some (.ret d))=some (.rt d):=rfl
theorem a7b{d:List D}:a8j (some (.own d))=some (.ro d):=rfl
def a0e(r:Option RS):Option R1:=match r with
 | some (.nx _)=>some (.ret .non)
 | some (.rt d)=>some (.ret d)
 | some (.ro es)=>some (.own es)
 | some (.rz dss)=>some (.owz dss)
 | some (.rp n es)=>some (.owp n es)
 | some (.ex c)=>some (.ex c)
 | _=>none
theorem b4o{n m:Nat}{body:SF}{ds:List D}(h:ds.length=m):fD n m body ds=a0e (body (ds.map .fz++List.replicate (n-m) .no)):=by
 unfold fD;rw[if_pos h,h];rfl
theorem b1u{e:DE}:a0e (some (.nx e))=some (.ret .non):=rfl
theorem b1v{d:D}:a0e (some (.rt d))=some (.ret d):=rfl
theorem b1w{d:List (List D)}:a0e (some (.rz d))=some (.owz d):=rfl
theorem b1x{d:List (List D)}{k:SF}:U3 (some (.rz d)) k=some (.rz d):=rfl
theorem a8r{d:List (List D)}:a4d (some (.owz d))=some (.rz d):=rfl
theorem b1y{d:List D}:a0e (some (.ro d))=some (.own d):=rfl
theorem b1z{d:Str}:a0e (some (.ex d))=some (.ex d):=rfl
theorem a9y{c:Prop} [Decidable c] {a b:Option RS}:a0e (if c then a else b)=if c then a0e a else a0e b:=by split<;>rfl
def a0f(r:Option RS)(k:SF):Option RS:=match r with
 | some (.nx e)=>k e
 | some (.ct e)=>k e
 | some (.bk e)=>some (.nx e)
 | r=>r
theorem b1A{e:DE}{k:SF}:a0f (some (.nx e)) k=k e:=rfl
theorem b1B{e:DE}{k:SF}:a0f (some (.ct e)) k=k e:=rfl
theorem b1C{e:DE}{k:SF}:a0f (some (.bk e)) k=some (.nx e):=rfl
theorem b1D{d:D}{k:SF}:a0f (some (.rt d)) k=some (.rt d):=rfl
theorem b1E{d:List (List D)}{k:SF}:a0f (some (.rz d)) k=some (.rz d):=rfl
theorem b1F{d:List D}{k:SF}:a0f (some (.ro d)) k=some (.ro d):=rfl
theorem b1G{d:Str}{k:SF}:a0f (some (.ex d)) k=some (.ex d):=rfl
theorem a9z{b:GF}{body:SF}{e:DE}:t5 b body [] e=some (.nx e):=rfl
def a7c(x:Option DE)(k:SF):Option RS:=match x with
 | none=>none
 | some e=>k e
theorem a3E{b:GF}{body:SF}{d:D}{ds:List D}{e:DE}:t5 b body (d::ds) e=a7c (b d e) fun e1=>a0f (body e1) (t5 b body ds):=by
 rw[t5];cases b d e<;>rfl
theorem z7{e:DE}{k:SF}:a7c (some e) k=k e:=rfl
def a42(n i:Nat)(exm:Str→Bool)(suite:SF)(e:DE)(r:Option RS):Option RS:=match r with
 | some (.ex c)=>if(exm c && a26 e)=true then(match suite ((List.replicate n Sl.no).set i (.fz (.exc c)))with
   | some (.nx e2)=>put i .no e2
   | some (.rt d)=>some (.rt d)
   | some (.ro ds)=>some (.ro ds)
   | _=>none)else none
 | r=>r
theorem a8s{n i:Nat}{exm:Str→Bool}{body suite:SF}{e:DE}:b3E n i exm body suite e=a42 n i exm suite e (body e):=rfl
def a7d(i:Nat)(r:Option RS):Option RS:=match r with
 | some (.nx e2)=>put i .no e2
 | some (.rt d)=>some (.rt d)
 | some (.ro ds)=>some (.ro ds)
 | _=>none
theorem b1H{i:Nat}{e:DE}:a7d i (some (.nx e))=put i .no e:=rfl
theorem b1I{i:Nat}{d:D}:a7d i (some (.rt d))=some (.rt d):=rfl
theorem b1J{i:Nat}{d:List D}:a7d i (some (.ro d))=some (.ro d):=rfl
theorem b1K{n i:Nat}{exm:Str→Bool}{suite:SF}{e:DE}{c:Str}:a42 n i exm suite e (some (.ex c))=if(exm c && a26 e)=true then a7d i (suite ((List.replicate n Sl.no).set i (.fz (.exc c))))else none:=rfl
theorem b1L{n i:Nat}{exm:Str→Bool}{suite:SF}{e:DE}{d:D}:a42 n i exm suite e (some (.rt d))=some (.rt d):=rfl
theorem b1M{n i:Nat}{exm:Str→Bool}{suite:SF}{e:DE}{d:List D}:a42 n i exm suite e (some (.ro d))=some (.ro d):=rfl
theorem b1N{n i:Nat}{exm:Str→Bool}{suite:SF}{e e1:DE}:a42 n i exm suite e (some (.nx e1))=some (.nx e1):=rfl
theorem b1O(a b:Int):u9 (.int a) (.int b)=some (.int (a+b)):=rfl
theorem b1P(a b:Int):y4 (.int a) (.int b)=some (.int (a-b)):=rfl
theorem b3I(a b:Int):gLt (.int a) (.int b)=some (.bl (decide (a<b))):=rfl
theorem b3J(a b:Int):gGt (.int a) (.int b)=some (.bl (decide (b<a))):=rfl
theorem a6m{a b:Int}(h:IntMulOk a b):J7 (.int a) (.int b)=some (.int (a*b)):=by show(if _ then _ else _)=_;rw[if_pos h]
theorem a6n{a b:Int}(h:0<b∧b.natAbs.log2<9000):A7 (.int a) (.int b)=some (.int (a/b)):=by show(if _ then _ else _)=_;rw[if_pos h]
theorem a6o{a b:Int}(h:0<b):m5 (.int a) (.int b)=some (.int (a%b)):=by show(if _ then _ else _)=_;rw[if_pos h]
theorem a29{a b:Int}(h:a2W a b):a0I (.int a) (.int b)=some (.int (a ^ b.toNat)):=by show(if _ then _ else _)=_;rw[if_pos h]
end
def Fits(i:Int):Prop:=Builtin.Int.intBits i≤2 ^ 20
theorem b1Q{a b:Int}(h:a.natAbs≤b.natAbs):Builtin.Int.intBits a≤Builtin.Int.intBits b:=by
 unfold Builtin.Int.intBits
 split
 ·exact Nat.zero_le _
 ·rename_i ha
  have ha':a.natAbs≠0:=by
   intro z;apply ha;first | exact Int.natAbs_eq_zero.mp z | (simpa using z)
  have hb':b.natAbs≠0:=by omega
  split
  ·rename_i hb
   exact absurd (by first | exact Int.natAbs_eq_zero.mpr hb | (simpa using hb)) hb'
  ·have h1:b.natAbs<2 ^ (b.natAbs.log2+1):=Nat.lt_log2_self
   have h2:a.natAbs.log2<b.natAbs.log2+1:=(Nat.log2_lt ha').mpr (by omega)
   omega
theorem Fits.le{a b:Int}(h:Fits b)(l:a.natAbs≤b.natAbs):Fits a:=Nat.le_trans (b1Q l) h
theorem Fits.mod{i n:Int}(hn:0<n)(h:Fits n):Fits (i%n):=by
 refine h.le ?_
 have h1:=Int.emod_nonneg i (show n≠0 by omega)
 have h2:=Int.emod_lt_of_pos i hn
 omega
theorem a8t{a b:Int}(h:a.natAbs<2 ^ 64):IntMulOk a b:=IntMulOk.of_left (intBits_le_64 (by omega) (by omega))
theorem a7e{a b:Int}(h:b.natAbs<2 ^ 64):IntMulOk a b:=IntMulOk.of_right (intBits_le_64 (by omega) (by omega))
theorem a43{a b:Int}(h:a.natAbs<2 ^ 64):J7 (.int a) (.int b)=some (.int (a*b)):=a6m (a8t h)
theorem a44{a b:Int}(h:b.natAbs<2 ^ 64):J7 (.int a) (.int b)=some (.int (a*b)):=a6m (a7e h)
section
variable {α:Type}
theorem b0E{a:α}{l:List α}:atI (a::l) 0=some a:=by unfold atI Q6;simp
theorem a4i{a:α}{l:List α}{n:Nat}:atI (a::l) ((n:Int)+1)=atI l n:=by
 unfold atI Q6
 have h1:(0:Int)≤(n:Int)+1:=by omega
 have h2:(0:Int)≤(n:Int):=by omega
 rw[if_pos h1,if_pos h2]
 by_cases z:(n:Int)<(l.length:Int)
 ·rw[if_pos z,if_pos (by rw[List.length_cons];push_cast;omega)]
  show(a::l)[((n:Int)+1).toNat]? = l[((n:Int)).toNat]?
  rw[show((n:Int)+1).toNat=n+1 by omega,show((n:Int)).toNat=n by omega]
  rfl
 ·rw[if_neg z,if_neg (by rw[List.length_cons];push_cast;omega)]
  rfl
theorem b0F{a b:α}{l:List α}:atI (a::b::l) 1=some b:=(a4i (n:=0)).trans b0E
theorem b0G{a b c:α}{l:List α}:atI (a::b::c::l) 2=some c:=(a4i (n:=1)).trans b0F
theorem b0H{a b c d:α}{l:List α}:atI (a::b::c::d::l) 3=some d:=(a4i (n:=2)).trans b0G
theorem b5H{a b c d e:α}{l:List α}:atI (a::b::c::d::e::l) 4=some e:=(a4i (n:=3)).trans b0H
end
def l7(ns:List Int)(k:Int):Int:=ns.getD k.toNat 0
theorem b1R{ns:List Int}{k:Int}(hk:0≤k):(if k<(ns.length:Int)then(match atI ns k with
  | none=>none
  | some n=>some (R1.ret (D.int n)))else some (R1.ret (D.int 0)))=some (R1.ret (D.int (l7 ns k))):=by
 unfold l7
 by_cases z:k<(ns.length:Int)
 ·rw[if_pos z]
  have h:k.toNat<ns.length:=by omega
  have e:atI ns k=some ns[k.toNat]:=by
   unfold atI Q6
   rw[if_pos hk,if_pos z]
   exact List.getElem?_eq_getElem h
  rw[e,List.getD_eq_getElem?_getD,List.getElem?_eq_getElem h];rfl
 ·rw[if_neg z,List.getD_eq_getElem?_getD,List.getElem?_eq_none (by omega)];rfl
theorem b1S{i j:Int}(h : -(2 ^ 62)≤i∧i<2 ^ 62∧-(2 ^ 62)≤j∧j<2 ^ 62):a1k [.int i,.int j]=some (i,(j-i).toNat):=by
 show(if _ then _ else _)=_
 rw[if_pos h]
theorem b1T{j:Int}(h : -(2 ^ 62)≤j∧j<2 ^ 62):G7 [.int j]=some (0,j.toNat):=by
 show(if _ then _ else _)=_
 rw[if_pos h]
section
variable {K:W.Frag}{cl:Str→Addr}{E:XK}{σ:St}{H F:Hp}{env:DE}{k:Nat}
def X4(ds es:List D):List D:=List.zipWith (fun a b=>.tup [a,b]) ds es
theorem a9A{ds es:List D}{i:Nat}{d e:D}(h:ds[i]? = some d)(h':es[i]? = some e):(X4 ds es)[i]? = some (.tup [d,e]):=by
 unfold X4;rw[List.getElem?_zipWith,h,h']
theorem a9B{ds es:List D}:(X4 ds es).length=min ds.length es.length:=by unfold X4;rw[List.length_zipWith]
def a7f(ds:List D):Option (List D):=match ds with
 | [d,e]=>match seqL d,seqL e with
  | some xs,some ys=>some (X4 xs ys)
  | _,_=>none
 | _=>none
theorem b1U{ds zs:List D}{vs:List V}(h:a7f ds=some zs)(p:Rps K cl F ds vs):∃a a' xs ys ds' es',vs=[.ref a,.ref a']∧zs=X4 ds' es'∧Rps K cl F ds' xs∧Rps K cl F es' ys∧∀H',Same F H'→SqL K H' a xs∧SqL K H' a' ys:=by
 unfold a7f at h
 split at h
 ·rename_i d e
  split at h
  ·rename_i xs ys h1 h2
   cases h
   obtain⟨v,r,rfl,p1,p2⟩:=p.inv
   obtain⟨u,r',rfl,p3,p4⟩:=p2.inv
   rw[p4.inv0]
   obtain⟨a,us,rfl,q1,l1⟩:=Rp.seqL p1 h1
   obtain⟨a',us',rfl,q2,l2⟩:=Rp.seqL p3 h2
   exact⟨a,a',us,us',xs,ys,rfl,rfl,q1,q2,fun H' g=>⟨l1 H' g,l2 H' g⟩⟩
  ·cases h
 ·cases h
theorem b4p{b:GF}{c:BF}{el:ZF}{g:TG}{tf:TT}{te:TE}{js:List Nat}{ds es:List D}{xs ys:List V}{a a' B:Addr}{Q:VK}(nd:js.Nodup)(hg:J8 K cl k g b)(hc:J6 K cl E tf c)(he:m8 K cl E te el)(R:Rel K cl σ H F env)(hB:H B=none)
  (hl:∀H' F',Same F F'→Same F' H'→SqL K H' a xs∧SqL K H' a' ys) (r:Rps K cl F ds xs) (r':Rps K cl F es ys) (h:Ct K cl E (PN K cl) (j8 b c el (j6 k js env) env (X4 ds es) []) σ H F env Q) :
  J5 (Itz K a a') g tf te k (l5 k js σ) B (fun H'=>Q (.ref B) H') H:=by
 refine a8_ (xs:=xs) (ys:=ys) (fun i zs H'=>∃F' acc,Grow K cl σ H F env B acc zs H' F'∧Ct K cl E (PN K cl) (j8 b c el (j6 k js env) env ((X4 ds es).drop i) acc) σ H F env Q) ⟨F,[],.start R hB,h⟩ (fun i zs H' ⟨F',acc,gw,_⟩=>hl H' F' gw.frm.fz gw.rel.sub) (fun i x y zs H' p hx hy ⟨F',acc,gw,h'⟩ hp=>?_) (fun zs H' ⟨F',acc,gw,h'⟩=>?_)
 ·obtain⟨d,hd,pd⟩:=r.get' hx
  obtain⟨d',hd',pd'⟩:=r'.get' hy
  rw[O2 (a9A hd hd')]at h'
  have gr:Gr H' F' (upd H' p (.tup [x,y])) (upd F' p (.tup [x,y])):=.new gw.rel.sub hp
  refine Z4 (Pv:=fun zs' H2=>∃F' acc,Grow K cl σ H F env B acc zs' H2 F'∧Ct K cl E (PN K cl) (j8 b c el (j6 k js env) env ((X4 ds es).drop (i+1)) acc) σ H F env Q) nd hg hc he (gw.gr gr) ?_ h' fun acc' ys' H2 F2 gw2 h2=>⟨F2,acc',gw2,h2⟩
  simp only[Rp]
  exact⟨p,_,rfl,i0,.cons (Rp.mono (gw.frm.fz.trans gr.fz) _ _ pd) (.one (Rp.mono (gw.frm.fz.trans gr.fz) _ _ pd'))⟩
 ·rw[← r.length,← r'.length,List.drop_eq_nil_of_le (by rw[a9B];exact Nat.le_refl _)]at h'
  exact a0P gw h'
def a45(k:Nat)(js:List Nat)(f:AF)(b:GF)(c:BF)(el:ZF):NF:=fun e=>bnd (f e) fun ds e1=>match a7f ds with
 | none=>none
 | some zs=>j8 b c el (j6 k js e1) e1 zs []
theorem a9C{t:TA}{g:TG}{tf:TT}{te:TE}{js:List Nat}{f:AF}{b:GF}{c:BF}{el:ZF}(nd:js.Nodup)(hf:T5 K cl E t f)(hg:J8 K cl k g b)(hc:J6 K cl E tf c)(he:m8 K cl E te el):W8 K cl E (Y8 (b3a K t) g tf te k js) (a45 k js f b c el):=by
 intro σ H Q env F R h
 refine hf σ H _ env F R ((Ct.bnd h a1h).mono fun x H1 ⟨F1,e1,ds,s1,R1,p1,h1⟩=>?_)
 split at h1
 ·exact h1.elim
 ·rename_i zs hs
  obtain⟨a,a',xs,ys,ds',es',rfl,rfl,q1,q2,hl⟩:=b1U hs p1
  exact⟨a,a',rfl,⟨xs,(hl H1 R1.sub).1⟩,⟨ys,(hl H1 R1.sub).2⟩,fun B hB=>b4p nd hg hc he R1 hB (fun H' F' f2 s2=>hl H' (f2.trans s2)) q1 q2 h1⟩
def oN:OF:=fun e=>some (.ok none e)
def oS(f:ZF):OF:=fun e=>bnd (f e) fun d e1=>match d with
 | .int i=>some (.ok (some i) e1)
 | _=>none
theorem b4q:RfO K cl E a50 oN:=fun σ H Q env F R h=>h none H F Frm.refl R rfl
theorem a7g{t:TE}{f:ZF}(hf:m8 K cl E t f):RfO K cl E (b0l t) (oS f):=by
 intro σ H Q env F R h
 refine hf σ H _ env F R ((Ct.bnd h b5e).mono fun x H1 ⟨F1,e1,d,s1,R1,p1,h1⟩=>?_)
 split at h1
 ·rename_i i
  have:x=.int i:=by have:=(show Rp K cl F1 (.int i) x from p1);simpa only[Rp]using this
  exact⟨i,this,h1 _ H1 F1 Frm.refl R1 rfl⟩
 ·exact h1.elim
def cutD(xs:List D)(lo hi:Option Int):List D:=(xs.drop (HT.sIx xs.length 0 lo)).take (HT.sIx xs.length xs.length hi-HT.sIx xs.length 0 lo)
theorem Rps.cut{ds:List D}{xs:List V}(h:Rps K cl F ds xs)(lo hi:Option Int):Rps K cl F (cutD ds lo hi) (a2Y xs lo hi):=by
 unfold cutD a2Y
 rw[h.length]
 exact(h.drop _).take _
def a1m(i:Nat)(l u:OF):NF:=fun e=>match look e i with
 | none=>none
 | some _=>bnd (l e) fun lo e2=>bnd (u e2) fun hi e3=>match look e3 i with
  | some d=>(match seqL d with
   | some ds=>some (.ok (cutD ds lo hi) e3)
   | none=>none)
  | none=>none
theorem Rb.seqL{d:D}{ds:List D}{v:V}(s:Same F H)(p:Rb K cl F H d v)(q:L2.seqL d=some ds):∃a xs,v=.ref a∧Rps K cl F ds xs∧SqL K H a xs:=by
 rcases p with p | ⟨a,xs,es,e,rfl,h,r⟩
 ·obtain⟨a,xs,e,r,l⟩:=Rp.seqL p q;exact⟨a,xs,e,r,l H s⟩
 ·cases q;exact⟨a,xs,e,r,.of h⟩
theorem a8u{i:Nat}{tl tu:TO}{l u:OF}(hl:RfO K cl E tl l)(hu:RfO K cl E tu u):W8 K cl E (tSl (a8Y K) (B9 i) tl tu) (a1m i l u):=by
 intro σ H Q env F R h
 unfold a1m at h
 cases q:look env i with
 | none=>rw[q]at h;exact h.elim
 | some d0 =>
  rw[q]at h
  obtain⟨x,e0,_⟩:=R.look q
  refine⟨x,e0,?_⟩
  refine hl σ H _ env F R ((Ct.bnd h a1h).mono fun lo H2 ⟨F2,e2,lo',s2,R2,p2,h2⟩=>?_)
  refine hu σ H2 _ e2 F2 R2 ((Ct.bnd h2 a1h).mono fun hi H3 ⟨F3,e3,hi',s3,R3,p3,h3⟩=>?_)
  cases (show lo=lo' from p2)
  cases (show hi=hi' from p3)
  cases q2:look e3 i with
  | none=>simp only[q2]at h3;exact h3.elim
  | some d =>
   simp only[q2]at h3
   obtain⟨x',e',rb⟩:=R3.look q2
   rw[e0]at e';cases e'
   split at h3
   ·rename_i ds hs
    obtain⟨a,xs,rfl,r,hq⟩:=rb.seqL R3.sub hs
    exact⟨a,xs,rfl,hq,fun p hp=>Ct.newN R3 hp (r.cut _ _) h3⟩
   ·exact h3.elim
end
section
variable {P:Program}{w:World}{mg:Str→Option Value}{base:Heap}{K:W.Frag}{cl:Str→Addr}{E:XK}{σ:St}{H F:Hp}{env:DE}{k:Nat}
def S6:List D→Option (List Int)
 | []=>some []
 | .int b::ds=>(S6 ds).map (b :: ·)
 | _=>none
theorem a2_:∀{ds:List D} {bs:List Int},S6 ds=some bs→ds=bs.map .int
 | [],_,h=>by cases h;rfl
 | .int b::ds,_,h=>by
  unfold S6 at h
  cases q:S6 ds with
  | none=>rw[q]at h;cases h
  | some bs=>rw[q]at h;cases h;rw[a2_ q];rfl
 | .non::_,_,h=>by cases h
 | .bl _::_,_,h=>by cases h
 | .str _::_,_,h=>by cases h
 | .ty _::_,_,h=>by cases h
 | .cls _::_,_,h=>by cases h
 | .tup _::_,_,h=>by cases h
 | .lst _::_,_,h=>by cases h
 | .scr _::_,_,h=>by cases h
 | .exc _::_,_,h=>by cases h
 | .obj _ _ _::_,_,h=>by cases h
 | .dic _ _::_,_,h=>by cases h
end
def b3K(x:Option DE)(k:DE→Option (R (List D))):Option (R (List D)):=match x with
 | none=>none
 | some e=>k e
theorem a3F{e:DE}{k:DE→Option (R (List D))}:b3K (some e) k=k e:=rfl
theorem a8v{b:GF}{c:BF}{el:ZF}{ec eo:DE}{acc:List D}:j8 b c el ec eo [] acc=some (.ok acc eo):=rfl
theorem a2I{b:GF}{c:BF}{el:ZF}{ec eo:DE}{d:D}{ds acc:List D}:j8 b c el ec eo (d::ds) acc=b3K (b d ec) fun e1=>bnd (c e1) fun t e2=>if t=true then bnd (el e2) fun y _=>if acc.length<sizeLine then j8 b c el ec eo ds (acc++[y])else none else j8 b c el ec eo ds acc:=by
 rw[j8];cases b d ec<;>rfl
section
variable {K:W.Frag}{cl:Str→Addr}{E:XK}{σ:St}{H F:Hp}{env:DE}{k:Nat}
def V2:List D→Option D
 | [.int i,.int j]=>some (.int (if j > i then j else i))
 | _=>none
def J1:List D→Option D
 | [.int i,.int j]=>some (.int (if j<i then j else i))
 | _=>none
theorem a6p:a64 K cl (fun xs H Q=>∃i j,xs=[.int i,.int j]∧Q (.int (if j > i then j else i)) H) V2:=by
 intro xs ds z H F Q s p h q
 unfold V2 at h
 split at h
 ·rename_i i j;cases h
  exact⟨i,j,Rps.ints (ns:=[i,j]) p,q _ H F (.refl s) (by simp only[Rp])⟩
 ·cases h
theorem a3a:a64 K cl (fun xs H Q=>∃i j,xs=[.int i,.int j]∧Q (.int (if j<i then j else i)) H) J1:=by
 intro xs ds z H F Q s p h q
 unfold J1 at h
 split at h
 ·rename_i i j;cases h
  exact⟨i,j,Rps.ints (ns:=[i,j]) p,q _ H F (.refl s) (by simp only[Rp])⟩
 ·cases h
theorem a46:bootBuiltins "min" = some (.builtin "min"):=by decide +kernel
def inD(d:D)(es:List D):Bool:=es.any fun e=>P8 e d
theorem Rps.inV{d:D}{v:V}(p:Rp K cl F d v)(f:j4 d=true):∀{es:List D} {us:List V},Rps K cl F es us→es.all j4=true→L2.inV v us=inD d es
 | [],_,h,_=>by rw[h.inv0];rfl
 | e::es,_,h,fe=>by
  obtain⟨u,r,rfl,h1,h2⟩:=h.inv
  rw[List.all_cons,Bool.and_eq_true]at fe
  have:=Rps.inV p f h2 fe.2
  unfold L2.inV inD at this ⊢
  rw[List.any_cons,List.any_cons,h1.eq p fe.1 f,this]
def X5(neg:Bool)(d e:D):Option D:=match e with
 | .lst es=>if(j4 d && es.all j4)=true then some (.bl (if neg then !inD d es else inD d es))else none
 | .tup es=>if(j4 d && es.all j4)=true then some (.bl (if neg then !inD d es else inD d es))else none
 | _=>none
theorem Rb.flat{d:D}{v:V}(h:Rb K cl F H d v)(f:j4 d=true):Rp K cl F d v:=by
 rcases h with h | ⟨_,_,_,_,rfl,_⟩
 ·exact h
 ·cases f
theorem b0I{neg:Bool}:OpOk K cl (rIn K neg) (X5 neg):=by
 intro x y d e z H F Q s hx hy h q
 unfold X5 at h
 split at h
 ·split at h
  ·rename_i c;cases h
   rw[Bool.and_eq_true]at c
   obtain⟨a,xs,rfl,hH,r⟩:=hy.lst s
   have px:=hx.flat c.1
   refine⟨a,xs,rfl,.inl (.of hH),(px.flat c.1).2,r.flat c.2,q _ H F (.refl s) ?_⟩
   simp only[Rp];rw[r.inV px c.1 c.2]
  ·cases h
 ·split at h
  ·rename_i c;cases h
   rw[Bool.and_eq_true]at c
   obtain⟨a,xs,rfl,hH,r⟩:=hy.tup s
   have px:=hx.flat c.1
   refine⟨a,xs,rfl,.inr (.of hH),(px.flat c.1).2,r.flat c.2,q _ H F (.refl s) ?_⟩
   simp only[Rp];rw[r.inV px c.1 c.2]
  ·cases h
 ·cases h
theorem tyL{i:Nat}{ds:List D}(R:Rel K cl σ H F env)(q:look env i=some (.lst ds)):∃a,σ[i]? = some (some (.ref a))∧tyV K "list" (.ref a) H:=by
 obtain⟨x,e0,rb⟩:=R.look q
 obtain⟨a,xs,rfl,hH,_⟩:=rb.lst R.sub
 exact⟨a,e0,.inl ⟨rfl,xs,.of hH⟩⟩
end
mutual
def p9:D→D→Bool
 | .tup ds,e=>(match e with
  | .tup es=>G8 ds es
  | _=>false)
 | .lst ds,e=>(match e with
  | .lst es=>G8 ds es
  | _=>false)
 | d,e=>P8 d e
def G8:List D→List D→Bool
 | [],es=>es.isEmpty
 | d::ds,es=>(match es with
  | []=>false
  | e::es=>p9 d e && G8 ds es)
end
mutual
def g6:D→Bool
 | .tup ds=>z9 ds
 | .lst ds=>z9 ds
 | d=>j4 d
def z9:List D→Bool
 | []=>true
 | d::ds=>g6 d && z9 ds
end
mutual
def K1:D→Nat
 | .tup ds=>C4 ds+1
 | .lst ds=>C4 ds+1
 | _=>0
def C4:List D→Nat
 | []=>0
 | d::ds=>max (K1 d) (C4 ds)
end
def a47(ds es:List D)(j:Nat):Bool:=match ds[j]?,es[j]? with
 | some d,some e=>p9 d e
 | _,_=>true
theorem Q1:∀{ds es:List D},ds.length=es.length→(List.range ds.length).all (a47 ds es)=G8 ds es
 | [],[],_=>by simp[G8]
 | d::ds,e::es,h=>by
  have h':ds.length=es.length:=by simpa using h
  simp only[G8]
  show(List.range (ds.length+1)).all _=(p9 d e && G8 ds es)
  rw[List.range_succ_eq_map,List.all_cons,List.all_map,← Q1 h']
  rfl
theorem X6:∀{ds es:List D},ds.length≠es.length→G8 ds es=false
 | [],[],h=>absurd rfl h
 | _::_,[],_=>by simp[G8]
 | [],_::_,_=>by simp[G8]
 | d::ds,e::es,h=>by
  simp only[G8]
  rw[X6 (fun q=>h (by simp[q])),Bool.and_false]
section
variable {K:W.Frag}{cl:Str→Addr}{F:Hp}
theorem a0R{d e:D}{v:V}(fd:j4 d=true)(p:Rp K cl F d v)(q:Rp K cl F e v)(pe:g6 e=true):P8 d e=true:=by
 cases d<;>first | (cases fd;done) | skip
 all_goals simp only[Rp]at p;subst p
 all_goals cases e<;>simp only[Rp]at q<;>first | (cases q;done) | (cases q;simp[P8];done) | (obtain⟨_,_,z,_⟩:=q;cases z;done) | (obtain⟨_,z,_⟩:=q;cases z;done) | (simp[g6,j4]at pe;done)
mutual
theorem a3b:∀(d e:D) (v:V),Rp K cl F d v→Rp K cl F e v→g6 d=true→g6 e=true→p9 d e=true
 | .tup ds,e,v,p,q,pd,pe=>by
  simp only[Rp]at p
  obtain⟨a,xs,rfl,ha,r⟩:=p
  cases e<;>simp only[Rp]at q
  case tup es =>
   obtain⟨a',ys,z,ha',r'⟩:=q
   cases z;rw[ha]at ha';cases ha'
   simp only[g6]at pd pe
   simp only[p9]
   exact a19 ds es xs r r' pd pe
  case lst es =>
   obtain⟨a',ys,z,ha',r'⟩:=q
   cases z;rw[ha]at ha';cases ha'
  all_goals first | (cases q;done) | (simp[g6,j4]at pe;done)
 | .lst ds,e,v,p,q,pd,pe=>by
  simp only[Rp]at p
  obtain⟨a,xs,rfl,ha,r⟩:=p
  cases e<;>simp only[Rp]at q
  case lst es =>
   obtain⟨a',ys,z,ha',r'⟩:=q
   cases z;rw[ha]at ha';cases ha'
   simp only[g6]at pd pe
   simp only[p9]
   exact a19 ds es xs r r' pd pe
  case tup es =>
   obtain⟨a',ys,z,ha',r'⟩:=q
   cases z;rw[ha]at ha';cases ha'
  all_goals first | (cases q;done) | (simp[g6,j4]at pe;done)
 | .non,e,v,p,q,pd,pe=>by simp only[p9];exact a0R rfl p q pe
 | .bl _,e,v,p,q,pd,pe=>by simp only[p9];exact a0R rfl p q pe
 | .int _,e,v,p,q,pd,pe=>by simp only[p9];exact a0R rfl p q pe
 | .str _,e,v,p,q,pd,pe=>by simp only[p9];exact a0R rfl p q pe
 | .ty _,e,v,p,q,pd,pe=>by simp[g6,j4]at pd
 | .cls _,e,v,p,q,pd,pe=>by simp[g6,j4]at pd
 | .scr _,e,v,p,q,pd,pe=>by simp[g6,j4]at pd
 | .exc _,e,v,p,q,pd,pe=>by simp[g6,j4]at pd
 | .obj _ _ _,e,v,p,q,pd,pe=>by simp[g6,j4]at pd
 | .dic _ _,e,v,p,q,pd,pe=>by simp[g6,j4]at pd
theorem a19:∀(ds es:List D) (vs:List V),Rps K cl F ds vs→Rps K cl F es vs→z9 ds=true→z9 es=true→G8 ds es=true
 | [],es,vs,p,q,_,_=>by
  rw[p.inv0]at q
  cases es with
  | nil=>simp[G8]
  | cons e es=>obtain⟨_,_,z,_⟩:=q.inv;cases z
 | d::ds,es,vs,p,q,pd,pe=>by
  obtain⟨v,r,rfl,p1,p2⟩:=p.inv
  cases es with
  | nil=>have:=q.inv0;cases this
  | cons e es =>
   obtain⟨v',r',z,q1,q2⟩:=q.inv
   cases z
   simp only[z9,Bool.and_eq_true]at pd pe
   simp only[G8]
   rw[a3b d e v p1 q1 pd.1 pe.1,a19 ds es r p2 q2 pd.2 pe.2];rfl
end
end
section
variable {X:Cx}{cl:Str→Addr}{F:Hp}{pins:List (Addr×Obj)}{σ:St}{H:Hp}{s:Shared}
theorem a0S{a:Addr}{d:D}{v:V}{u:Value}{A:Around}(hu:A.units<cLine)(hl:(∃xs,SqL X.K H a xs)∨∃xs,SqT X.K H a xs)(I:Inv X pins σ H s)(f:j4 d=true)(p:Rp X.K cl F d v)(r:RelV v u):SeqAt.EqAt A s (.ref a) u false∧SeqAt.EqAt A s u (.ref a) false:=by
 rcases hl with⟨xs,h⟩ | ⟨xs,h⟩
 ·obtain⟨us,r1,p1,z1⟩:=I.list h
  have q:=p1.isList
  cases d<;>first | (cases f;done) | skip
  all_goals simp only[Rp]at p;subst p
  ·cases r;exact⟨.list_none q hu,.none_list q hu⟩
  ·cases r;exact⟨.list_bool _ q hu,.bool_list _ q hu⟩
  ·obtain⟨t,rfl⟩:=r;exact⟨.list_int _ _ q hu,.int_list _ _ q hu⟩
  ·obtain⟨t,rfl⟩:=r;exact⟨.list_str _ _ q hu,.str_list _ _ q hu⟩
 ·obtain⟨us,r1,q,z1⟩:=I.tuple h
  cases d<;>first | (cases f;done) | skip
  all_goals simp only[Rp]at p;subst p
  ·cases r;exact⟨.tuple_none q hu,.none_tuple q hu⟩
  ·cases r;exact⟨.tuple_bool _ q hu,.bool_tuple _ q hu⟩
  ·obtain⟨t,rfl⟩:=r;exact⟨.tuple_int _ _ q hu,.int_tuple _ _ q hu⟩
  ·obtain⟨t,rfl⟩:=r;exact⟨.tuple_str _ _ q hu,.str_tuple _ _ q hu⟩
theorem E9{d:D}(p:g6 d=true):j4 d=true∨(∃ds,d=.tup ds)∨∃ds,d=.lst ds:=by
 cases d<;>first | exact .inl rfl | exact .inr (.inl ⟨_,rfl⟩) | exact .inr (.inr ⟨_,rfl⟩) | (simp[g6,j4]at p;done)
theorem a9D{d e:D}(f:j4 d=true):p9 d e=P8 d e:=by cases d<;>first | (cases f;done) | simp only[p9]
theorem Z5{d e:D}{v u:V}{a b:Value}{A:Around}(I:Inv X pins σ H s)(sF:Same F H)(hu:A.units<cLine)(f:j4 d=true)(p:Rp X.K cl F d v)(q:Rp X.K cl F e u)(rv:RelV v a)(ru:RelV u b)(pe:g6 e=true):SeqAt.EqAt A s a b (p9 d e):=by
 rw[a9D f]
 rcases E9 pe with fe | ⟨es,rfl⟩ | ⟨es,rfl⟩
 ·rw[← p.eq q f fe]
  exact a7L rv ru (p.flat f).2 (q.flat fe).2
 ·simp only[Rp]at q
  obtain⟨c,ys,rfl,hb,r'⟩:=q
  cases ru
  have:=(a0S (A:=A) hu (.inr ⟨ys,.of (sF _ _ hb)⟩) I f p rv).2
  have z:P8 d (.tup es)=false:=by cases d<;>first | (cases f;done) | rfl
  rw[z];exact this
 ·simp only[Rp]at q
  obtain⟨c,ys,rfl,hb,r'⟩:=q
  cases ru
  have:=(a0S (A:=A) hu (.inl ⟨ys,.of (sF _ _ hb)⟩) I f p rv).2
  have z:P8 d (.lst es)=false:=by cases d<;>first | (cases f;done) | rfl
  rw[z];exact this
mutual
theorem b1V(I:Inv X pins σ H s)(sF:Same F H):∀(d e:D) (v u:V) (a b:Value) (A:Around),A.units+K1 d<cLine→Rp X.K cl F d v→Rp X.K cl F e u→RelV v a→RelV u b→g6 d=true→g6 e=true→SeqAt.EqAt A s a b (p9 d e)
 | .tup ds,e,v,u,va,ua,A,hu,p,q,rv,ru,pd,pe=>by
  have p0:=p
  have hu':A.units<cLine:=by omega
  simp only[K1]at hu
  simp only[Rp]at p
  obtain⟨a,xs,rfl,ha,r⟩:=p
  cases rv
  have ha':=sF _ _ ha
  rcases E9 pe with f | ⟨es,rfl⟩ | ⟨es,rfl⟩
  ·have:=(a0S (A:=A) hu' (.inr ⟨xs,.of ha'⟩) I f q ru).1
   have z:p9 (.tup ds) e=false:=by cases e<;>first | (cases f;done) | simp only[p9]
   rw[z];exact this
  ·have q0:=q
   simp only[Rp]at q
   obtain⟨b,ys,rfl,hb,r'⟩:=q
   cases ru
   have hb':=sF _ _ hb
   by_cases z:a=b
   ·subst z
    rw[a3b _ _ _ p0 q0 pd pe]
    exact .same _
   ·obtain⟨us,r1,p1,_⟩:=I.tuple (.of ha')
    obtain⟨ws,r2,p2,_⟩:=I.tuple (.of hb')
    simp only[g6]at pd pe
    have he:∀j (h1:j<us.toArray.size) (h2:j<ws.toArray.size),SeqAt.EqAt A.in1 s us.toArray[j] ws.toArray[j] (a47 ds es j):=X7 I sF ds es xs ys us ws A.in1 (by show A.units+1+C4 ds<cLine;omega) r r' r1 r2 pd pe
    have:=SeqAt.EqAt.of_refs z (SeqAt.RcAt.tuples p1 p2 hu' he)
    have e1:us.toArray.size=ds.length:=by simp[← r1.length,r.length]
    have e2:ws.toArray.size=es.length:=by simp[← r2.length,r'.length]
    rw[e1,e2]at this
    simp only[p9]
    by_cases hl:ds.length=es.length
    ·rw[← hl,Nat.min_self,Q1 hl,beq_self_eq_true,Bool.and_true]at this
     exact this
    ·rw[X6 hl]
     rw[beq_eq_false_iff_ne.mpr hl,Bool.and_false]at this
     exact this
  ·simp only[Rp]at q
   obtain⟨b,ys,rfl,hb,r'⟩:=q
   cases ru
   obtain⟨us,r1,p1,_⟩:=I.tuple (.of ha')
   obtain⟨ws,r2,p2,_⟩:=I.list (.of (sF _ _ hb))
   simp only[p9]
   exact .tuple_list p1 p2.isList hu'
 | .lst ds,e,v,u,va,ua,A,hu,p,q,rv,ru,pd,pe=>by
  have p0:=p
  have hu':A.units<cLine:=by omega
  simp only[K1]at hu
  simp only[Rp]at p
  obtain⟨a,xs,rfl,ha,r⟩:=p
  cases rv
  have ha':=sF _ _ ha
  rcases E9 pe with f | ⟨es,rfl⟩ | ⟨es,rfl⟩
  ·have:=(a0S (A:=A) hu' (.inl ⟨xs,.of ha'⟩) I f q ru).1
   have z:p9 (.lst ds) e=false:=by cases e<;>first | (cases f;done) | simp only[p9]
   rw[z];exact this
  ·simp only[Rp]at q
   obtain⟨b,ys,rfl,hb,r'⟩:=q
   cases ru
   obtain⟨us,r1,p1,_⟩:=I.list (.of ha')
   obtain⟨ws,r2,p2,_⟩:=I.tuple (.of (sF _ _ hb))
   simp only[p9]
   exact .list_tuple p1.isList p2 hu'
  ·have q0:=q
   simp only[Rp]at q
   obtain⟨b,ys,rfl,hb,r'⟩:=q
   cases ru
   have hb':=sF _ _ hb
   by_cases z:a=b
   ·subst z
    rw[a3b _ _ _ p0 q0 pd pe]
    exact .same _
   ·obtain⟨us,r1,p1,_⟩:=I.list (.of ha')
    obtain⟨ws,r2,p2,_⟩:=I.list (.of hb')
    simp only[g6]at pd pe
    have he:∀j (h1:j<us.toArray.size) (h2:j<ws.toArray.size),SeqAt.EqAt A.in1 s us.toArray[j] ws.toArray[j] (a47 ds es j):=X7 I sF ds es xs ys us ws A.in1 (by show A.units+1+C4 ds<cLine;omega) r r' r1 r2 pd pe
    have e1:us.toArray.size=ds.length:=by simp[← r1.length,r.length]
    have e2:ws.toArray.size=es.length:=by simp[← r2.length,r'.length]
    simp only[p9]
    by_cases hl:ds.length=es.length
    ·have:=SeqAt.EqAt.of_refs z (SeqAt.RcAt.lists p1.isList p2.isList (by rw[e1,e2,hl]) hu' he)
     rw[e1,Q1 hl]at this
     exact this
    ·rw[X6 hl]
     exact SeqAt.EqAt.of_refs z (SeqAt.RcAt.lists_lengths p1.isList p2.isList (by rw[e1,e2];simp[hl]) hu')
 | .non,e,v,u,va,ua,A,hu,p,q,rv,ru,pd,pe=>Z5 I sF (by omega) rfl p q rv ru pe
 | .bl _,e,v,u,va,ua,A,hu,p,q,rv,ru,pd,pe=>Z5 I sF (by omega) rfl p q rv ru pe
 | .int _,e,v,u,va,ua,A,hu,p,q,rv,ru,pd,pe=>Z5 I sF (by omega) rfl p q rv ru pe
 | .str _,e,v,u,va,ua,A,hu,p,q,rv,ru,pd,pe=>Z5 I sF (by omega) rfl p q rv ru pe
 | .ty _,e,v,u,va,ua,A,hu,p,q,rv,ru,pd,pe=>by simp[g6,j4]at pd
 | .cls _,e,v,u,va,ua,A,hu,p,q,rv,ru,pd,pe=>by simp[g6,j4]at pd
 | .scr _,e,v,u,va,ua,A,hu,p,q,rv,ru,pd,pe=>by simp[g6,j4]at pd
 | .exc _,e,v,u,va,ua,A,hu,p,q,rv,ru,pd,pe=>by simp[g6,j4]at pd
 | .obj _ _ _,e,v,u,va,ua,A,hu,p,q,rv,ru,pd,pe=>by simp[g6,j4]at pd
 | .dic _ _,e,v,u,va,ua,A,hu,p,q,rv,ru,pd,pe=>by simp[g6,j4]at pd
theorem X7(I:Inv X pins σ H s)(sF:Same F H):∀(ds es:List D) (xs ys:List V) (us ws:List Value) (A:Around),A.units+C4 ds<cLine→Rps X.K cl F ds xs→Rps X.K cl F es ys→Vals xs us→Vals ys ws→z9 ds=true→z9 es=true→∀j (h1:j<us.toArray.size) (h2:j<ws.toArray.size),SeqAt.EqAt A s us.toArray[j] ws.toArray[j] (a47 ds es j)
 | [],es,xs,ys,us,ws,A,hu,p,q,rv,rw',pd,pe=>fun j h1 h2=>by
  rw[p.inv0]at rv;cases rv;simp at h1
 | d::ds,es,xs,ys,us,ws,A,hu,p,q,rv,rw',pd,pe=>fun j h1 h2=>by
  obtain⟨x,xs',rfl,p1,p2⟩:=p.inv
  cases rv with
  | cons r1 t1 =>
   cases es with
   | nil=>rw[q.inv0]at rw';cases rw';simp at h2
   | cons e es =>
    obtain⟨y,ys',rfl,q1,q2⟩:=q.inv
    cases rw' with
    | cons r2 t2 =>
     simp only[z9,Bool.and_eq_true]at pd pe
     simp only[C4]at hu
     cases j with
     | zero=>exact b1V I sF d e x y _ _ A (by omega) p1 q1 r1 r2 pd.1 pe.1
     | succ j =>
      have:=X7 I sF ds es xs' ys' _ _ A (by omega) p2 q2 t1 t2 pd.2 pe.2 j (by simpa using h1) (by simpa using h2)
      simpa [a47]using this
end
end
theorem a7h{A:Around}{k:Nat}(hr:Room k A):A.units+41<cLine:=Nat.lt_of_le_of_lt (Nat.add_le_add_left (by decide:41≤64) _) hr.units
def S7 : D→Bool
 | .tup _=>true
 | .lst _=>true
 | _=>false
theorem Rb.toRp{K:W.Frag}{cl:Str→Addr}{F H:Hp}{d:D}{v:V}(s:Same F H)(h:Rb K cl F H d v):∃F',Same F F'∧Same F' H∧Rp K cl F' d v:=by
 rcases h with h | ⟨a,xs,ds,rfl,rfl,ha,r⟩
 ·exact⟨F,Same.refl _,s,h⟩
 ·have g:Same F (upd F a (.lst xs)):=fun b o q=>by
   by_cases z:b=a
   ·subst z;have:=s _ _ q;rw[ha]at this;cases this;exact i0
   ·rw[b9 z];exact q
  refine⟨upd F a (.lst xs),g,fun b o q=>?_,?_⟩
  ·by_cases z:b=a
   ·subst z;rw[i0]at q;cases q;exact ha
   ·rw[b9 z]at q;exact s _ _ q
  ·simp only[Rp];exact⟨a,xs,rfl,i0,r.mono g⟩
section
variable {X:Cx}{cl:Str→Addr}{F:Hp}{pins:List (Addr×Obj)}{σ:St}{H:Hp}{s:Shared}
theorem a1G{a:Addr}{d:D}{v:V}{u:Value}{A:Around}(hu:A.units<cLine)(hl:(∃xs,SqL X.K H a xs)∨∃xs,SqT X.K H a xs)(I:Inv X pins σ H s)(f:j4 d=true)(p:Rp X.K cl F d v)(r:RelV v u) :
  (SeqAt.RcAt A s (.ref a) u false∧SeqAt.RcAt A s u (.ref a) false)∧SeqAt.RcNeAt A s (.ref a) u true∧SeqAt.RcNeAt A s u (.ref a) true:=by
 rcases hl with⟨xs,h⟩ | ⟨xs,h⟩
 ·obtain⟨us,r1,p1,z1⟩:=I.list h
  have q:=p1.isList
  cases d<;>first | (cases f;done) | skip
  all_goals simp only[Rp]at p;subst p
  ·cases r;exact⟨⟨.list_none q hu,.none_list q hu⟩,.list_none q hu,.none_list q hu⟩
  ·cases r;exact⟨⟨.list_bool _ q hu,.bool_list _ q hu⟩,.list_bool _ q hu,.bool_list _ q hu⟩
  ·obtain⟨t,rfl⟩:=r;exact⟨⟨.list_int _ _ q hu,.int_list _ _ q hu⟩,.list_int _ _ q hu,.int_list _ _ q hu⟩
  ·obtain⟨t,rfl⟩:=r;exact⟨⟨.list_str _ _ q hu,.str_list _ _ q hu⟩,.list_str _ _ q hu,.str_list _ _ q hu⟩
 ·obtain⟨us,r1,q,z1⟩:=I.tuple h
  cases d<;>first | (cases f;done) | skip
  all_goals simp only[Rp]at p;subst p
  ·cases r;exact⟨⟨.tuple_none q hu,.none_tuple q hu⟩,.tuple_none q hu,.none_tuple q hu⟩
  ·cases r;exact⟨⟨.tuple_bool _ q hu,.bool_tuple _ q hu⟩,.tuple_bool _ q hu,.bool_tuple _ q hu⟩
  ·obtain⟨t,rfl⟩:=r;exact⟨⟨.tuple_int _ _ q hu,.int_tuple _ _ q hu⟩,.tuple_int _ _ q hu,.int_tuple _ _ q hu⟩
  ·obtain⟨t,rfl⟩:=r;exact⟨⟨.tuple_str _ _ q hu,.str_tuple _ _ q hu⟩,.tuple_str _ _ q hu,.str_tuple _ _ q hu⟩
theorem b1W{d e:D}{v u:V}{a b:Value}{A:Around}(I:Inv X pins σ H s)(sF:Same F H)(hu:A.units+K1 d<cLine)(p:Rp X.K cl F d v)(q:Rp X.K cl F e u)(rv:RelV v a)(ru:RelV u b)(pd:g6 d=true)(pe:g6 e=true)(hs:S7 d=true∨S7 e=true) :
  SeqAt.RcAt A s a b (p9 d e)∧SeqAt.RcNeAt A s a b (!p9 d e):=by
 have hu':A.units<cLine:=by omega
 rcases E9 pd with fd | ⟨ds,rfl⟩ | ⟨ds,rfl⟩
 ·have se:S7 e=true:=hs.resolve_left (by cases d<;>first | (cases fd;done) | simp[S7])
  rcases E9 pe with fe | ⟨es,rfl⟩ | ⟨es,rfl⟩
  ·cases e<;>first | (cases fe;done) | (cases se;done)
  ·simp only[Rp]at q
   obtain⟨c,ys,rfl,hb,r'⟩:=q
   cases ru
   have:=a1G (A:=A) hu' (.inr ⟨ys,.of (sF _ _ hb)⟩) I fd p rv
   have z:p9 d (.tup es)=false:=by cases d<;>first | (cases fd;done) | simp[p9,P8]
   rw[z];exact⟨this.1.2,this.2.2⟩
  ·simp only[Rp]at q
   obtain⟨c,ys,rfl,hb,r'⟩:=q
   cases ru
   have:=a1G (A:=A) hu' (.inl ⟨ys,.of (sF _ _ hb)⟩) I fd p rv
   have z:p9 d (.lst es)=false:=by cases d<;>first | (cases fd;done) | simp[p9,P8]
   rw[z];exact⟨this.1.2,this.2.2⟩
 ·simp only[K1]at hu
  simp only[Rp]at p
  obtain⟨l,xs,rfl,ha,r⟩:=p
  cases rv
  have ha':=sF _ _ ha
  obtain⟨us,r1,p1,_⟩:=I.tuple (.of ha')
  rcases E9 pe with fe | ⟨es,rfl⟩ | ⟨es,rfl⟩
  ·have:=a1G (A:=A) hu' (.inr ⟨xs,.of ha'⟩) I fe q ru
   have z:p9 (.tup ds) e=false:=by cases e<;>first | (cases fe;done) | simp only[p9]
   rw[z];exact⟨this.1.1,this.2.1⟩
  ·simp only[Rp]at q
   obtain⟨c,ys,rfl,hb,r'⟩:=q
   cases ru
   obtain⟨ws,r2,p2,_⟩:=I.tuple (.of (sF _ _ hb))
   simp only[g6]at pd pe
   have he:=X7 I sF ds es xs ys us ws A.in1 (by show A.units+1+C4 ds<cLine;omega) r r' r1 r2 pd pe
   have h1:=SeqAt.RcAt.tuples p1 p2 hu' he
   have h2:=SeqAt.RcNeAt.tuples p1 p2 hu' he
   have e1:us.toArray.size=ds.length:=by simp[← r1.length,r.length]
   have e2:ws.toArray.size=es.length:=by simp[← r2.length,r'.length]
   rw[e1,e2]at h1 h2
   simp only[p9]
   by_cases hl:ds.length=es.length
   ·rw[← hl,Nat.min_self,Q1 hl,beq_self_eq_true,Bool.and_true]at h1 h2
    exact⟨h1,h2⟩
   ·rw[X6 hl]
    rw[beq_eq_false_iff_ne.mpr hl,Bool.and_false]at h1 h2
    exact⟨h1,h2⟩
  ·simp only[Rp]at q
   obtain⟨c,ys,rfl,hb,r'⟩:=q
   cases ru
   obtain⟨ws,r2,p2,_⟩:=I.list (.of (sF _ _ hb))
   simp only[p9]
   exact⟨.tuple_list p1 p2.isList hu',.tuple_list p1 p2.isList hu'⟩
 ·simp only[K1]at hu
  simp only[Rp]at p
  obtain⟨l,xs,rfl,ha,r⟩:=p
  cases rv
  have ha':=sF _ _ ha
  obtain⟨us,r1,p1,_⟩:=I.list (.of ha')
  rcases E9 pe with fe | ⟨es,rfl⟩ | ⟨es,rfl⟩
  ·have:=a1G (A:=A) hu' (.inl ⟨xs,.of ha'⟩) I fe q ru
   have z:p9 (.lst ds) e=false:=by cases e<;>first | (cases fe;done) | simp only[p9]
   rw[z];exact⟨this.1.1,this.2.1⟩
  ·simp only[Rp]at q
   obtain⟨c,ys,rfl,hb,r'⟩:=q
   cases ru
   obtain⟨ws,r2,p2,_⟩:=I.tuple (.of (sF _ _ hb))
   simp only[p9]
   exact⟨.list_tuple p1.isList p2 hu',.list_tuple p1.isList p2 hu'⟩
  ·simp only[Rp]at q
   obtain⟨c,ys,rfl,hb,r'⟩:=q
   cases ru
   obtain⟨ws,r2,p2,_⟩:=I.list (.of (sF _ _ hb))
   simp only[g6]at pd pe
   have he:=X7 I sF ds es xs ys us ws A.in1 (by show A.units+1+C4 ds<cLine;omega) r r' r1 r2 pd pe
   have e1:us.toArray.size=ds.length:=by simp[← r1.length,r.length]
   have e2:ws.toArray.size=es.length:=by simp[← r2.length,r'.length]
   simp only[p9]
   by_cases hl:ds.length=es.length
   ·have h1:=SeqAt.RcAt.lists p1.isList p2.isList (by rw[e1,e2,hl]) hu' he
    have h2:=SeqAt.RcNeAt.lists p1.isList p2.isList (by rw[e1,e2,hl]) hu' he
    rw[e1,Q1 hl]at h1 h2
    exact⟨h1,h2⟩
   ·rw[X6 hl]
    exact⟨SeqAt.RcAt.lists_lengths p1.isList p2.isList (by rw[e1,e2];simp[hl]) hu',SeqAt.RcNeAt.lists_lengths p1.isList p2.isList (by rw[e1,e2];simp[hl]) hu'⟩
end
def b3L(K:W.Frag)(cl:Str→Addr)(neg:Bool):R2:=fun x y H Q=>∃F d e,Same F H∧Rp K cl F d x∧Rp K cl F e y∧g6 d=true∧g6 e=true∧K1 d≤40∧(S7 d=true∨S7 e=true)∧Q (.bl (if neg then !p9 d e else p9 d e)) H
theorem a6q{X:Cx}{K:W.Frag}{cl:Str→Addr}(hu:X.A.units+41<cLine)(hK:X.K=K:=by rfl):M1 X (compareOp .Eq) (b3L K cl false):=by
 subst hK
 intro pins s σ H x y v u Q I rx ry h
 obtain⟨F,d,e,sF,p,q,pd,pe,hd,hs,hQ⟩:=h
 exact(b1W I sF (by omega) p q rx ry pd pe hs).1 X.prog X.w _ _ ⟨.bl _,H,I,rfl,hQ⟩
def Q2(neg:Bool)(d e:D):Option D:=if(g6 d && g6 e && decide (K1 d≤40) && (S7 d || S7 e))=true then some (.bl (if neg then !p9 d e else p9 d e))else none
theorem a8w{K:W.Frag}{cl:Str→Addr}{neg:Bool}:OpOk K cl (b3L K cl neg) (Q2 neg):=by
 intro x y d e z H F Q s hx hy h q
 unfold Q2 at h
 split at h
 ·rename_i c;cases h
  simp only[Bool.and_eq_true,Bool.or_eq_true,decide_eq_true_eq]at c
  obtain⟨F1,g1,s1,p1⟩:=hx.toRp s
  have hy1:Rb K cl F1 H e y:=by
   rcases hy with hy | ⟨a,xs,ds,e1,e2,ha,r⟩
   ·exact .inl (hy.mono g1)
   ·exact .inr ⟨a,xs,ds,e1,e2,ha,r.mono g1⟩
  obtain⟨F2,g2,s2,p2⟩:=hy1.toRp s1
  exact⟨F2,d,e,s2,p1.mono g2,p2,c.1.1.1,c.1.1.2,c.1.2,c.2,q _ H F (.refl s) (by simp only[Rp])⟩
 ·cases h
mutual
theorem a48:∀(d:D),g6 d=true→p9 d d=true
 | .tup ds,h=>by simp only[g6]at h;simp only[p9];exact a1n ds h
 | .lst ds,h=>by simp only[g6]at h;simp only[p9];exact a1n ds h
 | .non,_=>by simp[p9,P8]
 | .bl _,_=>by simp[p9,P8]
 | .int _,_=>by simp[p9,P8]
 | .str _,_=>by simp[p9,P8]
 | .ty _,h=>by simp[g6,j4]at h
 | .cls _,h=>by simp[g6,j4]at h
 | .scr _,h=>by simp[g6,j4]at h
 | .exc _,h=>by simp[g6,j4]at h
 | .obj _ _ _,h=>by simp[g6,j4]at h
 | .dic _ _,h=>by simp[g6,j4]at h
theorem a1n:∀(ds:List D),z9 ds=true→G8 ds ds=true
 | [],_=>by simp[G8]
 | d::ds,h=>by
  simp only[z9,Bool.and_eq_true]at h
  simp only[G8]
  rw[a48 d h.1,a1n ds h.2];rfl
end
theorem a3G{d:D}(neg:Bool)(h1:g6 d=true)(h2:K1 d≤40)(h3:S7 d=true):Q2 neg d d=some (.bl (!neg)):=by
 unfold Q2
 rw[if_pos (by simp[h1,h2,h3]),a48 d h1]
 cases neg<;>rfl
theorem a1S{α:Type}{f:α→D}{l:List α}(h:∀a∈l,g6 (f a)=true):z9 (l.map f)=true:=by
 induction l with
 | nil=>rfl
 | cons a l ih =>
  simp only[List.map_cons,z9,Bool.and_eq_true]
  exact⟨h a List.mem_cons_self,ih fun b hb=>h b (List.mem_cons_of_mem _ hb)⟩
theorem a3H{α:Type}{f:α→D}{l:List α}{n:Nat}(h:∀a∈l,K1 (f a)≤n):C4 (l.map f)≤n:=by
 induction l with
 | nil=>simp[C4]
 | cons a l ih =>
  simp only[List.map_cons,C4]
  have:=h a List.mem_cons_self
  have:=ih fun b hb=>h b (List.mem_cons_of_mem _ hb)
  omega
section
variable {K:W.Frag}{cl:Str→Addr}{E:XK}{σ:St}{H F:Hp}{env:DE}{k:Nat}
def b5f(K:W.Frag)(cl:Str→Addr)(E:XK)(a:Addr)(t:TS)(f:SF):Prop:=∀(N:Ends) σ H env F,Rel K cl σ H F env→(∃cls,F a=some (a6P a cls none))→Cs K cl E (f env) σ H F env N→t N σ H
theorem RfS.x{a:Addr}{t:TS}{f:SF}(h:RfS K cl E t f):b5f K cl E a t f:=fun N σ H env F R _ c=>h N σ H env F R c
end
def a1o:Sl→Sl
 | .ow ds=>.fz (.lst ds)
 | .hd ds=>.fz (.lst ds)
 | .od ks ds=>.fz (.dic ks ds)
 | .hk ks ds=>.fz (.dic ks ds)
 | s=>s
def a3c:DE→DE
 | []=>[]
 | s::e=>a1o s::a3c e
mutual
def noL:D→Bool
 | .lst _=>false
 | .scr _=>false
 | .exc _=>false
 | .obj _ _ _=>false
 | .dic _ _=>false
 | .tup ds=>noLs ds
 | _=>true
def noLs:List D→Bool
 | []=>true
 | d::ds=>noL d && noLs ds
end
def b3M(o:HO):Prop:=(∃xs,o=.lst xs)∨∃ks xs,o=P3 ks xs
section
variable {K:W.Frag}{cl:Str→Addr}{E:XK}{σ:St}{H F F1 H' F' F2:Hp}{env:DE}
mutual
theorem Rp.noL(g:∀b o,F' b=some o→¬b3M o→F2 b=some o):∀(d:D) (v:V),L2.noL d=true→Rp K cl F' d v→Rp K cl F2 d v
 | .non,_,_,h=>by simpa only[Rp]using h
 | .bl _,_,_,h=>by simpa only[Rp]using h
 | .int _,_,_,h=>by simpa only[Rp]using h
 | .str _,_,_,h=>by simpa only[Rp]using h
 | .ty _,_,_,h=>by simpa only[Rp]using h
 | .cls _,_,_,h=>by simpa only[Rp]using h
 | .tup ds,v,n,h=>by
  simp only[Rp]at h ⊢
  obtain⟨a,xs,e,h1,h2⟩:=h
  exact⟨a,xs,e,g _ _ h1 (fun z=>by rcases z with⟨_,z⟩ | ⟨ks,_,z⟩;exact nomatch z;cases ks<;>exact nomatch z),Rps.noL g ds xs (by simpa only[L2.noL]using n) h2⟩
 | .lst ds,v,n,h=>by simp[L2.noL]at n
 | .scr ns,v,n,h=>by simp[L2.noL]at n
 | .exc c,v,n,h=>by simp[L2.noL]at n
 | .obj _ _ _,v,n,h=>by simp[L2.noL]at n
 | .dic _ _,v,n,h=>by simp[L2.noL]at n
theorem Rps.noL(g:∀b o,F' b=some o→¬b3M o→F2 b=some o):∀(ds:List D) (vs:List V),L2.noLs ds=true→Rps K cl F' ds vs→Rps K cl F2 ds vs
 | [],_,_,h=>by simpa only[Rps]using h
 | d::ds,vs,n,h=>by
  simp only[Rps]at h ⊢
  simp only[L2.noLs,Bool.and_eq_true]at n
  obtain⟨v,r,e,h1,h2⟩:=h
  exact⟨v,r,e,Rp.noL g d v n.1 h1,Rps.noL g ds r n.2 h2⟩
end
def b4r(f:ZF):ZF:=fun e=>match f (a3c e)with
 | some (.ok d _)=>if noL d=true then some (.ok d e)else none
 | some (.ex c)=>some (.ex c)
 | none=>none
def b4s(f:BF):BF:=fun e=>match f (a3c e)with
 | some (.ok d _)=>some (.ok d e)
 | some (.ex c)=>some (.ex c)
 | none=>none
def bLd(r:Option (R Bool))(e:DE):Option (R Bool):=match r with
 | some (.ok d _)=>some (.ok d e)
 | some (.ex c)=>some (.ex c)
 | none=>none
def zLd(r:Option (R D))(e:DE):Option (R D):=match r with
 | some (.ok d _)=>if noL d=true then some (.ok d e)else none
 | some (.ex c)=>some (.ex c)
 | none=>none
theorem a9E(f:BF)(e:DE):b4s f e=bLd (f (a3c e)) e:=rfl
theorem a9F(f:ZF)(e:DE):b4r f e=zLd (f (a3c e)) e:=rfl
theorem b3P(d:Bool)(e e2:DE):bLd (some (.ok d e2)) e=some (.ok d e):=rfl
theorem b3Q(c:Str)(e:DE):bLd (some (.ex c)) e=some (.ex c):=rfl
theorem b3R(d:D)(e e2:DE):zLd (some (.ok d e2)) e=if noL d=true then some (.ok d e)else none:=rfl
theorem b3S(c:Str)(e:DE):zLd (some (.ex c)) e=some (.ex c):=rfl
variable {k:Nat}
end
def un:Option D→Sl
 | none=>.no
 | some d=>.fz d
def V3:Sl→Bool
 | .hd _=>false
 | _=>true
def okS:Option Sl→Bool
 | none=>false
 | some s=>V3 s
theorem a9G(o:Option D):V3 (un o)=true:=by cases o<;>rfl
theorem a9H:V3 .no=true:=rfl
theorem a9I(d:D):V3 (.fz d)=true:=rfl
theorem a9J(d:List D):V3 (.ow d)=true:=rfl
theorem a9K(d:List D):V3 (.hd d)=false:=rfl
theorem a9L(s:Sl):okS (some s)=V3 s:=rfl
theorem a9M:okS none=false:=rfl
theorem b1X:a1o .no=.no:=rfl
theorem b1Y(d:D):a1o (.fz d)=.fz d:=rfl
theorem b1Z(d:List D):a1o (.ow d)=.fz (.lst d):=rfl
theorem b10(d:List D):a1o (.hd d)=.fz (.lst d):=rfl
theorem b3T(i:Nat)(s:Sl)(e:DE):put i s e=if okS e[i]? = true then some (.nx (e.set i s))else none:=by
 unfold put okS
 cases e[i]? with
 | none=>rfl
 | some t=>cases t<;>rfl
theorem a9N(i:Nat)(d:D)(e:DE):a8 i d e=if okS e[i]? = true then some (e.set i (.fz d))else none:=by
 unfold a8 okS
 cases e[i]? with
 | none=>rfl
 | some t=>cases t<;>rfl
theorem b11(o:Option D):a1o (un o)=un o:=by cases o<;>rfl
theorem a9O:a26 []=true:=rfl
theorem a8x(s:Sl)(e:DE):a26 (s::e)=(V3 s && a26 e):=by cases s<;>rfl
def C9(r:Option RS):Option RS:=match r with
 | some (.ct e)=>some (.nx e)
 | r=>r
theorem b12(e:DE):C9 (some (.nx e))=some (.nx e):=rfl
theorem b13(e:DE):C9 (some (.ct e))=some (.nx e):=rfl
theorem b14(d:D):C9 (some (.rt d))=some (.rt d):=rfl
theorem b15(c:Str):C9 (some (.ex c))=some (.ex c):=rfl
theorem b16(d:List (List D)):C9 (some (.rz d))=some (.rz d):=rfl
theorem b17(d:List D):C9 (some (.ro d))=some (.ro d):=rfl
theorem a8y{r:Option RS}{k:SF}:a0f r k=a0f (C9 r) k:=by
 cases r with
 | none=>rfl
 | some r=>cases r<;>rfl
theorem a49{α:Type}{b:GF}{body:SF}(f:α→D)(I:List α→DE→Prop)(l0:List α):∀(l pre:List α) (e:DE),l0=pre++l→I pre e→(∀pre x post e,l0=pre++x::post→I pre e→∃e2,C9 (a7c (b (f x) e) body)=some (.nx e2)∧I (pre++[x]) e2)→∃e',t5 b body (l.map f) e=some (.nx e')∧I l0 e'
 | [],pre,e,hl,h,_=>⟨e,rfl,by rw[hl,List.append_nil];exact h⟩
 | x::l,pre,e,hl,h,hs=>by
  obtain⟨e2,h2,h3⟩:=hs pre x l e hl h
  obtain⟨e',h4,h5⟩:=a49 f I l0 l (pre++[x]) e2 (by rw[hl,List.append_assoc];rfl) h3 hs
  refine⟨e',?_,h5⟩
  rw[List.map_cons,a3E]
  cases q:b (f x) e with
  | none=>rw[q]at h2;cases h2
  | some e1 =>
   rw[q]at h2
   have h2:C9 (body e1)=some (.nx e2):=h2
   rw[z7,a8y,h2];exact h4
theorem L6{α:Type}{b:GF}{body:SF}(f:α→D)(I:List α→DE→Prop)(l:List α)(e:DE)(h:I [] e)(hs:∀pre x post e,l=pre++x::post→I pre e→∃e2,C9 (a7c (b (f x) e) body)=some (.nx e2)∧I (pre++[x]) e2):∃e',t5 b body (l.map f) e=some (.nx e')∧I l e' :=
 a49 f I l l [] e rfl h hs
theorem y0{α:Type}{b:GF}{c:BF}{el:ZF}{ec eo:DE}(f:α→D)(g:α→D)(q:α→Bool):∀(l:List α) (acc:List D),acc.length+l.length≤sizeLine→(∀x∈l,∃e1 e2,b (f x) ec=some e1∧c e1=some (.ok (q x) e2)∧(q x=true→∃e3,el e2=some (.ok (g x) e3)))→j8 b c el ec eo (l.map f) acc=some (.ok (acc++(l.filter q).map g) eo)
 | [],acc,_,_=>by simp only[List.filter_nil,List.map_nil,List.append_nil];rfl
 | x::l,acc,hl,h=>by
  obtain⟨e1,e2,h1,h2,h3⟩:=h x List.mem_cons_self
  have hl':acc.length<sizeLine:=by rw[List.length_cons]at hl;omega
  rw[List.map_cons,a2I,h1,a3F,h2,T3]
  by_cases z:q x=true
  ·obtain⟨e3,h4⟩:=h3 z
   rw[if_pos z,h4,T3,if_pos hl',y0 f g q l (acc++[g x]) (by rw[List.length_append,List.length_cons,List.length_nil];rw[List.length_cons]at hl;omega) (fun y m=>h y (List.mem_cons_of_mem _ m)),List.filter_cons_of_pos z,List.map_cons,List.append_assoc];rfl
  ·rw[if_neg z,y0 f g q l acc (by rw[List.length_cons]at hl;omega) (fun y m=>h y (List.mem_cons_of_mem _ m)),List.filter_cons_of_neg z]
theorem b18{ds:List D}{v u:Int}(h:0≤v)(h2:v≤u):cutD ds (some v) (some u)=(ds.drop v.toNat).take (u-v).toNat:=by
 unfold cutD
 obtain⟨n,rfl⟩:=Int.eq_ofNat_of_zero_le h
 obtain⟨m,rfl⟩:=Int.eq_ofNat_of_zero_le (Int.le_trans h h2)
 rw[HT.sIx_nat,HT.sIx_nat,Int.toNat_natCast]
 have e:((m:Int)-(n:Int)).toNat=m-n:=by omega
 rw[e]
 by_cases z:n≤ds.length
 ·rw[Nat.min_eq_left z]
  by_cases y:m≤ds.length
  ·rw[Nat.min_eq_left y]
  ·rw[Nat.min_eq_right (by omega),List.take_of_length_le (by rw[List.length_drop];exact Nat.le_refl _),List.take_of_length_le (by rw[List.length_drop];omega)]
 ·rw[List.drop_of_length_le (show ds.length≤min n ds.length by omega),List.drop_of_length_le (by omega),List.take_nil,List.take_nil]
theorem b19{n k:Nat}(h:k<n):Q6 n (k:Int)=some k:=by
 unfold Q6;rw[if_pos (by omega),if_pos (by omega),Int.toNat_natCast]
theorem a3I{α:Type}(f g:α→D):∀(l:List α),X4 (l.map f) (l.map g)=l.map fun q=>.tup [f q,g q]
 | []=>rfl
 | x::l=>by
  have:=a3I f g l
  unfold X4 at this ⊢
  rw[List.map_cons,List.map_cons,List.zipWith_cons_cons,this,List.map_cons]
theorem a9P{α:Type}{l:List α}{k:Nat}{a:α}(h:l[k]? = some a):atI l (k:Int)=some a:=by
 have hk:=(List.getElem?_eq_some_iff.mp h).1
 unfold atI
 rw[b19 hk];exact h
section
variable {K:W.Frag}{cl:Str→Addr}{E:XK}
def X8(i:Nat)(k:ZF):SF:=fun e=>match look e i with
 | some (.lst _)=>D3 (k e) fun j e1=>match j,e1[i]? with
  | .int n,some (.ow ds)=>if 0≤n∧n<ds.length∧ds.length≤1000000 then some (.nx (e1.set i (.ow (ds.eraseIdx n.toNat))))else none
  | _,_=>none
 | _=>none
theorem a3J:∀{F:Hp} {ds:List D} {vs:List V} (n:Nat),Rps K cl F ds vs→Rps K cl F (ds.eraseIdx n) (vs.eraseIdx n)
 | F,[],vs,n,h=>by rw[h.inv0];exact .nil
 | F,d::ds,vs,0,h=>by obtain⟨v,r,rfl,h1,h2⟩:=h.inv;exact h2
 | F,d::ds,vs,n+1,h=>by obtain⟨v,r,rfl,h1,h2⟩:=h.inv;exact .cons h1 (a3J n h2)
theorem a9Q{i:Nat}{u:TE}{k:ZF}(hk:m8 K cl E u k):RfS K cl E (a6E (tBM K "list" a7P (B9 i) (N5 u W1))) (X8 i k):=by
 intro N σ H env F R h
 unfold X8 at h
 split at h
 ·rename_i ds0 q
  obtain⟨a0,e0,ty⟩:=tyL R q
  refine⟨_,e0,ty,?_⟩
  refine hk σ H _ env F R ((Cs.bnd h).mono fun y H1 ⟨F1,e1,j,fr,R1,p1,h1⟩=>?_)
  split at h1
  ·rename_i n ds q1
   split at h1
   ·rename_i c
    obtain⟨a,xs,e,hH,hF,r⟩:=R1.mu i ds (.inl q1)
    rw[e0]at e;cases e
    obtain⟨R3,f3⟩:=R1.change q1 e0 (a3J n.toNat r)
    have hy:y=.int n:=by have:=(show Rp K cl F1 (.int n) y from p1);simpa only[Rp]using this
    subst hy
    have hl:=r.length
    have hn:n.toNat<xs.length:=by omega
    exact⟨_,xs,n,n.toNat,xs[n.toNat],rfl,rfl,hH,by omega,by omega,seqIndex_of c.1 (by omega),List.getElem?_eq_getElem hn,h1 σ _ F1 (fr.trans f3) R3⟩
   ·exact h1.elim
  ·exact h1.elim
 ·exact h.elim
end
section
variable {K:W.Frag}{cl:Str→Addr}{E:XK}{σ:St}{H F:Hp}{env:DE}{k:Nat}
def U4(lo st:Int)(n:Nat):List D:=(List.range n).map fun(i:Nat)=>.int (lo+(i:Int)*st)
theorem a9R{lo st:Int}{n:Nat}:(U4 lo st n).length=n:=by unfold U4;rw[List.length_map,List.length_range]
theorem a8z{lo st:Int}{n i:Nat}(h:i<n):(U4 lo st n).drop i=.int (lo+(i:Int)*st)::(U4 lo st n).drop (i+1):=by
 refine O2 ?_
 unfold U4
 rw[List.getElem?_map,List.getElem?_range h];rfl
theorem a8A{lo st:Int}{n:Nat}{g:TG}{tb:TS}{D:Ends}{σ:St}{H:Hp}(Pv:Nat→St→Hp→Prop)(h0:Pv 0 σ H)
  (hs:∀i σ H,i<n→Pv i σ H→g (.int (lo+(i:Int)*st)) σ H fun σ2 H2=>tb { D with nx:=Pv (i+1),ct:=Pv (i+1),bk:=D.nx } σ2 H2) (hd:∀σ H,Pv n σ H→D.nx σ H) :
  ∃W:Nat→Nat→St→Hp→Prop,(∃m,W 0 m σ H)∧∀i m σ H,W i m σ H →
   ((Itg lo st n).stop i H∧D.nx σ H)∨((Itg lo st n).go i H∧∃N:St→Hp→Prop,(∀σ' H',N σ' H'→∃m',m'<m∧W (i+1) m' σ' H')∧∀x H',(Itg lo st n).yld i H x H'→g x σ H' fun σ2 H2=>tb { D with nx:=N,ct:=N,bk:=D.nx } σ2 H2):=by
 refine⟨fun i m σ H=>m=n-i∧i≤n∧Pv i σ H,⟨n,by simp,Nat.zero_le _,h0⟩,?_⟩
 rintro i m σ H ⟨rfl,hi,p⟩
 by_cases hlt:i<n
 ·refine .inr ⟨hlt,Pv (i+1),fun σ' H' p'=>⟨n-(i+1),by omega,rfl,hlt,p'⟩,fun x H' y=>?_⟩
  obtain⟨e,y⟩:=y
  subst e y
  exact hs i σ _ hlt p
 ·have e:i=n:=by omega
  subst e
  exact .inl ⟨Nat.le_refl _,hd σ H p⟩
theorem b5g{b:GF}{body:SF}{g:TG}{tb:TS}{lo st:Int}{n:Nat}{N:Ends}(hb:RfS K cl E tb body)(hg:J8 K cl k g b)(R:Rel K cl σ H F env)(h:Cs K cl E (t5 b body (U4 lo st n) env) σ H F env N) :
  ∃W:Nat→Nat→St→Hp→Prop,(∃m,W 0 m σ H)∧∀i m σ H,W i m σ H →
   ((Itg lo st n).stop i H∧N.nx σ H)∨((Itg lo st n).go i H∧∃M:St→Hp→Prop,(∀σ' H',M σ' H'→∃m',m'<m∧W (i+1) m' σ' H')∧∀x H',(Itg lo st n).yld i H x H'→g x σ H' fun σ2 H2=>tb { N with nx:=M,ct:=M,bk:=N.nx } σ2 H2):=by
 refine a8A (fun i σ' H'=>∃F' e',Frm σ H F env σ' H' F' e'∧Rel K cl σ' H' F' e'∧Cs K cl E (t5 b body ((U4 lo st n).drop i) e') σ H F env N) ⟨F,env,Frm.refl,R,h⟩ (fun i σ' H' hx ⟨F',e',f,R',h'⟩=>?_) (fun σ' H' ⟨F',e',f,R',h'⟩=>?_)
 ·rw[a8z hx]at h'
  exact a18 hb hg f R' (by simp only[Rp]) h' fun σ2 H2 F2 e2 f2 R2 h2=>⟨F2,e2,f2,R2,h2⟩
 ·rw[show(U4 lo st n).drop n=[]from List.drop_eq_nil_of_le (by rw[a9R];exact Nat.le_refl _)]at h'
  exact h' σ' H' F' f R'
end
open Classical in
section
variable {K:W.Frag}{cl:Str→Addr}{E:XK}
abbrev tI(k:List Int):D:=.tup (k.map .int)
def Z6:List D→Option (List (List Int))
 | []=>some []
 | .tup ds::r=>match S6 ds with
  | some (n::ns)=>(Z6 r).map ((n::ns) :: ·)
  | _=>none
 | _=>none
theorem a4_:∀{ds:List D} {ks:List (List Int)},Z6 ds=some ks→ds=ks.map tI∧∀k∈ks,k≠[]
 | [],_,h=>by cases h;exact⟨rfl,fun k hk=>by cases hk⟩
 | .tup ds::r,ks,h=>by
  unfold Z6 at h
  split at h
  ·rename_i n ns hi
   cases hr:Z6 r with
   | none=>rw[hr]at h;cases h
   | some ks' =>
    rw[hr]at h;cases h
    obtain⟨e,hn⟩:=a4_ hr
    refine⟨by rw[List.map_cons,← e,a2_ hi],fun k hk=>?_⟩
    rcases List.mem_cons.mp hk with rfl | hk
    ·exact nofun
    ·exact hn k hk
  ·cases h
 | .non::_,_,h=>by cases h
 | .bl _::_,_,h=>by cases h
 | .int _::_,_,h=>by cases h
 | .str _::_,_,h=>by cases h
 | .ty _::_,_,h=>by cases h
 | .cls _::_,_,h=>by cases h
 | .lst _::_,_,h=>by cases h
 | .scr _::_,_,h=>by cases h
 | .exc _::_,_,h=>by cases h
 | .obj _ _ _::_,_,h=>by cases h
 | .dic _ _::_,_,h=>by cases h
theorem a3K:∀{ks:List (List Int)},(∀k∈ks,k≠[])→Z6 (ks.map tI)=some ks
 | [],_=>rfl
 | []::_,h=>absurd rfl (h [] (by simp))
 | (n::ns)::ks,h=>by
  have e:S6 (((n::ns):List Int).map D.int)=some (n::ns):=by
   have:∀l:List Int,S6 (l.map D.int)=some l:=fun l=>by
    induction l with
    | nil=>rfl
    | cons a l ih=>show(S6 (l.map D.int)).map (a :: ·)=_;rw[ih];rfl
   exact this _
  show(match S6 (((n::ns):List Int).map D.int)with | some (n::ns)=>(Z6 (ks.map tI)).map ((n::ns) :: ·) | _=>none)=_
  rw[e,a3K (fun k hk=>h k (by simp[hk]))];rfl
def a3d(k:List Int):List (List Int)→List (List Int)
 | []=>[k]
 | l::r=>if HT.lexLt l k then l::a3d k r else k::l::r
def a1H:List (List Int)→List (List Int)
 | []=>[]
 | k::r=>a3d k (a1H r)
theorem a1p(k:List Int):∀r:List (List Int),(a3d k r).Perm (k::r)
 | []=>List.Perm.refl _
 | l::r=>by
  unfold a3d
  split
  ·exact((a1p k r).cons l).trans (List.Perm.swap k l r)
  ·exact List.Perm.refl _
theorem a0T:∀r:List (List Int),(a1H r).Perm r
 | []=>List.Perm.refl _
 | k::r=>(a1p k _).trans ((a0T r).cons k)
theorem a1T(k:List Int):∀r:List (List Int),r.Pairwise (fun a b=>HT.lexLt b a=false)→(a3d k r).Pairwise (fun a b=>HT.lexLt b a=false)
 | [],_=>List.pairwise_singleton _ _
 | l::r,h=>by
  rw[List.pairwise_cons]at h
  unfold a3d
  split
  ·rename_i c
   rw[List.pairwise_cons]
   refine⟨fun b hb=>?_,a1T k r h.2⟩
   rcases List.mem_cons.mp ((a1p k r).mem_iff.mp hb)with rfl | hb
   ·exact a1A _ _ c
   ·exact h.1 b hb
  ·rename_i c
   have c':HT.lexLt l k=false:=by simpa using c
   rw[List.pairwise_cons]
   refine⟨fun b hb=>?_,List.pairwise_cons.mpr h⟩
   rcases List.mem_cons.mp hb with rfl | hb
   ·exact c'
   ·exact a2t _ _ _ c' (h.1 b hb)
theorem X9:∀r:List (List Int),(a1H r).Pairwise (fun a b=>HT.lexLt b a=false)
 | []=>.nil
 | k::r=>a1T k _ (X9 r)
theorem a1_:∀a b:List Int,HT.lexLt a b=false→HT.lexLt b a=false→a=b
 | [],[],_,_=>rfl
 | [],_::_,h,_=>by cases h
 | _::_,[],_,h=>by cases h
 | x::xs,y::ys,h1,h2=>by
  rw[HT.lexLt_cons]at h1 h2
  by_cases e:x=y
  ·subst e
   rw[if_pos rfl]at h1 h2
   rw[a1_ xs ys h1 h2]
  ·rw[if_neg e]at h1
   rw[if_neg (Ne.symm e)]at h2
   have:=of_decide_eq_false h1
   have:=of_decide_eq_false h2
   exact absurd (show x=y by omega) e
theorem U5:∀{a b:List (List Int)},a.Perm b→a.Pairwise (fun a b=>HT.lexLt b a=false)→b.Pairwise (fun a b=>HT.lexLt b a=false)→a=b
 | [],b,h,_,_=>h.symm.eq_nil.symm▸rfl
 | x::a,[],h,_,_=>absurd h.eq_nil nofun
 | x::a,y::b,h,ha,hb=>by
  rw[List.pairwise_cons]at ha hb
  have e:x=y:=by
   have mx:x∈y::b:=h.mem_iff.mp (by simp)
   have my:y∈x::a:=h.mem_iff.mpr (by simp)
   rcases List.mem_cons.mp mx with e | mx
   ·exact e
   ·rcases List.mem_cons.mp my with e | my
    ·exact e.symm
    ·exact a1_ _ _ (hb.1 x mx) (ha.1 y my)
  subst e
  rw[U5 ((List.perm_cons x).mp h) ha.2 hb.2]
def V8:D→Option (List D)
 | .lst ds=>match Z6 ds with
  | some ks=>if ks.length<64 then some ((a1H ks).map tI)else none
  | none=>none
 | _=>none
theorem a8B{F H:Hp}(s:Same F H):∀{ks:List (List Int)} {xs:List V},(∀k∈ks,k≠[])→Rps K cl F (ks.map tI) xs→VKs K H xs ks
 | [],_,_,r=>by rw[r.inv0];trivial
 | k::ks,_,hn,r=>by
  obtain⟨v,xs,rfl,p,r'⟩:=r.inv
  refine⟨?_,a8B s (fun l hl=>hn l (by simp[hl])) r'⟩
  simp only[Rp]at p
  obtain⟨a,ys,e,ha,rr⟩:=p
  exact⟨a,e,by rw[← rr.ints];exact .of (s _ _ ha),hn k (by simp)⟩
theorem a2a{F:Hp}{ds:List D}{xs:List V}(r:Rps K cl F ds xs):∀(p:List Nat),(∀i∈p,i<ds.length)→Rps K cl F (p.map fun i=>ds.getD i .non) (p.map fun i=>xs.getD i .non)
 | [],_=>.nil
 | i::p,h=>by
  have hi:=h i (by simp)
  obtain⟨v,e,pv⟩:=r.get (List.getElem?_eq_getElem hi)
  refine .cons ?_ (a2a r p fun j hj=>h j (by simp[hj]))
  show Rp K cl F (ds.getD i .non) (xs.getD i .non)
  have e1:ds.getD i .non=ds[i]:=by simp[hi]
  have e2:xs.getD i .non=v:=by simp[e]
  rw[e1,e2];exact pv
theorem a5a{α β:Type}(f:α→β)(l:List α)(a:α)(b:β)(p:List Nat)(h:∀i∈p,i<l.length):(p.map fun i=>(l.map f).getD i b)=(p.map fun i=>l.getD i a).map f:=by
 rw[List.map_map]
 refine List.map_congr_left fun i hi=>?_
 have:=h i hi
 simp[this]
theorem a3L{α:Type}(l:List α)(a:α)(p:List Nat)(h:p.Perm (List.range l.length)):(p.map fun i=>l.getD i a).Perm l:=by
 have e:(List.range l.length).map (fun i=>l.getD i a)=l:=by
  apply List.ext_getElem (by simp)
  intro i h1 h2
  simp[h2]
 exact(h.map _).trans (by rw[e])
theorem a8C:a4V K cl (a7Z K) V8:=by
 intro x d zs H F Q s hx h q
 unfold V8 at h
 split at h
 ·rename_i ds
  split at h
  ·rename_i ks hk
   split at h
   ·rename_i hl
    cases h
    obtain⟨a,xs,rfl,hH,r⟩:=hx.lst s
    obtain⟨e,hn⟩:=a4_ hk
    subst e
    have hlen:ks.length=xs.length:=by rw[← r.length,List.length_map]
    refine⟨a,xs,ks,rfl,.of hH,a8B s hn r,by omega,fun l p hl hp hs=>q l _ hl ?_⟩
    have hi:∀i∈p,i<ks.length:=fun i hi=>by rw[hlen];exact List.mem_range.mp (hp.mem_iff.mp hi)
    have e2:(a1H ks).map tI=p.map fun i=>(ks.map tI).getD i .non:=by
     rw[a5a tI ks [] .non p hi]
     congr 1
     refine U5 ((a0T ks).trans (a3L ks [] p (by rw[hlen];exact hp)).symm) (X9 ks) ?_
     rw[List.pairwise_map]
     exact hs
    rw[e2]
    exact a2a r p fun i hi'=>by rw[List.length_map];exact hi i hi'
   ·cases h
  ·cases h
 ·cases h
end
section
variable {K:W.Frag}{cl:Str→Addr}{E:XK}{σ:St}{H F:Hp}{env:DE}
abbrev HF:=Str→SF
def hN:HF:=fun _ _=>none
end
section
variable {K:W.Frag}{cl:Str→Addr}{E:XK}{σ:St}{H F:Hp}{env:DE}
theorem Rps.lookup{f:Str}:∀{ns:List Str} {ds:List D} {xs:List V} {z:D},Rps K cl F ds xs→(ns.zip ds).lookup f=some z→∃v,(ns.zip xs).lookup f=some v∧Rp K cl F z v
 | [],ds,xs,z,_,h=>by simp at h
 | n::ns,[],xs,z,r,h=>by simp at h
 | n::ns,d::ds,xs,z,r,h=>by
  obtain⟨v,ys,rfl,p,r'⟩:=r.inv
  rw[List.zip_cons_cons,List.lookup_cons]at h ⊢
  by_cases q:(f == n)=true
  ·rw[q]at h ⊢;cases h;exact⟨v,rfl,p⟩
  ·rw[Bool.not_eq_true _ |>.mp q]at h ⊢;exact r'.lookup h
end
section
variable {K:W.Frag}{cl:Str→Addr}{E:XK}{σ:St}{H F:Hp}{env:DE}{k:Nat}
theorem b3U{b:GF}{c:BF}{el:ZF}{g:TG}{tf:TT}{te:TE}{js:List Nat}{ds:List D}{xs:List V}{a B:Addr}{Q:VK}(nd:js.Nodup)(hg:J8 K cl k g b)(hc:J6 K cl E tf c)(he:m8 K cl E te el)(R:Rel K cl σ H F env)(hB:H B=none)
  (hl:∀H' F',Same F F'→Same F' H'→SqL K H' a xs) (r:Rps K cl F ds xs) (h:Ct K cl E (PN K cl) (j8 b c el (j6 k js env) env (enD 0 ds) []) σ H F env Q) :
  J5 (Ite K a) g tf te k (l5 k js σ) B (fun H'=>Q (.ref B) H') H:=by
 refine a7U (xs:=xs) (fun i zs H'=>∃F' acc,Grow K cl σ H F env B acc zs H' F'∧Ct K cl E (PN K cl) (j8 b c el (j6 k js env) env ((enD 0 ds).drop i) acc) σ H F env Q) ⟨F,[],.start R hB,h⟩ (fun i zs H' _ ⟨F',acc,gw,_⟩=>hl H' F' gw.frm.fz gw.rel.sub) (fun i x zs H' p hx ⟨F',acc,gw,h'⟩ hp=>?_) (fun zs H' ⟨F',acc,gw,h'⟩=>?_)
 ·obtain⟨d,hd,pd⟩:=r.get' hx
  rw[O2 (a6i hd),Nat.zero_add]at h'
  have gr:Gr H' F' (upd H' p (.tup [.int i,x])) (upd F' p (.tup [.int i,x])):=.new gw.rel.sub hp
  refine Z4 (Pv:=fun zs' H2=>∃F' acc,Grow K cl σ H F env B acc zs' H2 F'∧Ct K cl E (PN K cl) (j8 b c el (j6 k js env) env ((enD 0 ds).drop (i+1)) acc) σ H F env Q) nd hg hc he (gw.gr gr) ?_ h' fun acc' ys' H2 F2 gw2 h2=>⟨F2,acc',gw2,h2⟩
  simp only[Rp]
  exact⟨p,_,rfl,i0,.cons (by simp only[Rp]) (.one (Rp.mono (gw.frm.fz.trans gr.fz) _ _ pd))⟩
 ·rw[← r.length,List.drop_eq_nil_of_le (by rw[a6j];exact Nat.le_refl _)]at h'
  exact a0P gw h'
def a3e(i:Nat)(k:Nat)(js:List Nat)(b:GF)(c:BF)(el:ZF):NF:=fun e=>match e[i]? with
 | some (.fz d)=>(match seqL d with
  | none=>none
  | some ds=>j8 b c el (j6 k js e) e (enD 0 ds) [])
 | _=>none
theorem a8D{i:Nat}{g:TG}{tf:TT}{te:TE}{js:List Nat}{b:GF}{c:BF}{el:ZF}(nd:js.Nodup)(hg:J8 K cl k g b)(hc:J6 K cl E tf c)(he:m8 K cl E te el):W8 K cl E (Y8 (b0q K (N5 (B9 i) W1)) g tf te k js) (a3e i k js b c el):=by
 intro σ H Q env F R h
 unfold a3e at h
 split at h
 ·rename_i d q
  split at h
  ·exact h.elim
  ·rename_i ds hs
   obtain⟨v,e,p⟩:=R.fz i d q
   obtain⟨a,xs,rfl,r,hl⟩:=Rp.seqL p hs
   exact⟨_,e,a,rfl,⟨xs,hl H R.sub⟩,fun B hB=>b3U nd hg hc he R hB (fun H' F' f2 s2=>hl H' (f2.trans s2)) r h⟩
 ·exact h.elim
end
section
variable {K:W.Frag}{cl:Str→Addr}
theorem a5b{F:Hp}:∀(l:List Nat),Rps K cl F (l.map fun(i:Nat)=>D.int (i:Int)) (l.map fun(i:Nat)=>V.int (i:Int))
 | []=>.nil
 | i::l=>.cons (by simp only[Rp]) (a5b l)
end
structure GrM(a:Addr)(H F H' F':Hp):Prop where
 fz:Same F F'
 sub:Same F' H'
 hid:∀b o,b≠a→H b=some o→F b=none→H' b=some o∧F' b=none
 dom:∀b,H' b=none→H b=none
structure Bs(a:Addr)(σ:St)(env:DE)(H0 F0 H F:Hp):Prop where
 fz:Same F0 F
 hid:∀b o,b≠a→H0 b=some o→F0 b=none→H b=some o∧F b=none∧¬Ow σ env b
 dom:∀b,H b=none→H0 b=none
section
variable {K:W.Frag}{cl:Str→Addr}{E:XK}{σ:St}{H F:Hp}{env:DE}
theorem Bs.frm{a:Addr}{ds:List D}{σ':St}{env':DE}{H0 F0 H' F':Hp}(B:Bs a σ env H0 F0 H F)(f:Frm σ H F env σ' H' F' env'):Bs a σ' env' H0 F0 H' F' :=
 ⟨B.fz.trans f.fz,fun b o n h g=>by obtain⟨h1,f1,w1⟩:=B.hid b o n h g;exact f.hid b o h1 f1 w1,fun b h=>B.dom b (f.dom b h)⟩
theorem Bs.gr{a:Addr}{H0 F0:Hp}(B:Bs a σ env H0 F0 H F)(s:Same F H):GrM a H0 F0 H F :=
 ⟨B.fz,s,fun b o n h g=>by obtain⟨h1,f1,_⟩:=B.hid b o n h g;exact⟨h1,f1⟩,B.dom⟩
end
abbrev F9:=List Int×List D
def A1(q:F9):D:=.tup (q.1.map .int++q.2)
def B6:D→Bool
 | .tup _=>true
 | _=>false
def F5:List D→F9
 | .int n::r=>(n::(F5 r).1,(F5 r).2)
 | r=>([],r)
theorem a9S(n:Int)(r:List D):F5 (.int n::r)=(n::(F5 r).1,(F5 r).2):=rfl
theorem a6s:∀ds:List D,(F5 ds).1.map D.int++(F5 ds).2=ds
 | []=>rfl
 | .int n::r=>by
  show D.int n::((F5 r).1.map D.int++(F5 r).2)=_
  rw[a6s r]
 | .non::_=>rfl
 | .bl _::_=>rfl
 | .str _::_=>rfl
 | .ty _::_=>rfl
 | .cls _::_=>rfl
 | .tup _::_=>rfl
 | .lst _::_=>rfl
 | .scr _::_=>rfl
 | .exc _::_=>rfl
 | .obj _ _ _::_=>rfl
 | .dic _ _::_=>rfl
theorem a6t:∀(k:List Int) (rs:List D),rs.all B6=true→F5 (k.map D.int++rs)=(k,rs)
 | [],[],_=>rfl
 | [],.tup _::_,_=>rfl
 | [],.int _::_,h=>by simp[B6]at h
 | [],.non::_,h=>by simp[B6]at h
 | [],.bl _::_,h=>by simp[B6]at h
 | [],.str _::_,h=>by simp[B6]at h
 | [],.ty _::_,h=>by simp[B6]at h
 | [],.cls _::_,h=>by simp[B6]at h
 | [],.lst _::_,h=>by simp[B6]at h
 | [],.scr _::_,h=>by simp[B6]at h
 | [],.exc _::_,h=>by simp[B6]at h
 | [],.obj _ _ _::_,h=>by simp[B6]at h
 | [],.dic _ _::_,h=>by simp[B6]at h
 | n::k,rs,h=>by
  show F5 (.int n::(k.map D.int++rs))=_
  rw[a9S,a6t k rs h]
def Z7:List D→Option (List F9)
 | []=>some []
 | .tup ds::r=>if(F5 ds).1≠[]∧(F5 ds).2.all B6=true then(Z7 r).map (F5 ds :: ·)else none
 | _=>none
theorem a5c:∀{ds:List D} {qs:List F9},Z7 ds=some qs→ds=qs.map A1∧∀q∈qs,q.1≠[]∧q.2.all B6=true
 | [],_,h=>by cases h;exact⟨rfl,fun q m=>by cases m⟩
 | .tup ds::r,qs,h=>by
  unfold Z7 at h
  split at h
  ·rename_i hc
   cases hr:Z7 r with
   | none=>rw[hr]at h;cases h
   | some rs =>
    rw[hr]at h
    cases h
    obtain⟨e,hn⟩:=a5c hr
    refine⟨?_,fun q m=>?_⟩
    ·rw[List.map_cons,← e]
     show _=D.tup ((F5 ds).1.map .int++(F5 ds).2)::r
     rw[a6s]
    ·rcases List.mem_cons.mp m with rfl | m
     ·exact hc
     ·exact hn q m
  ·cases h
 | .int _::_,_,h=>by cases h
 | .non::_,_,h=>by cases h
 | .bl _::_,_,h=>by cases h
 | .str _::_,_,h=>by cases h
 | .ty _::_,_,h=>by cases h
 | .cls _::_,_,h=>by cases h
 | .lst _::_,_,h=>by cases h
 | .scr _::_,_,h=>by cases h
 | .exc _::_,_,h=>by cases h
 | .obj _ _ _::_,_,h=>by cases h
 | .dic _ _::_,_,h=>by cases h
theorem a3M:∀{qs:List F9},(∀q∈qs,q.1≠[]∧q.2.all B6=true)→Z7 (qs.map A1)=some qs
 | [],_=>rfl
 | q::qs,h=>by
  obtain⟨h1,h2⟩:=h q (by simp)
  have e:=a6t q.1 q.2 h2
  show(if(F5 (q.1.map D.int++q.2)).1≠[]∧(F5 (q.1.map D.int++q.2)).2.all B6=true then(Z7 (qs.map A1)).map (F5 (q.1.map D.int++q.2) :: ·)else none)=_
  rw[e,if_pos ⟨h1,h2⟩,a3M (fun r hr=>h r (by simp[hr]))]
  rfl
def a3f(k:F9):List F9→List F9
 | []=>[k]
 | l::r=>if HT.lexLt l.1 k.1 then l::a3f k r else k::l::r
def L7:List F9→List F9
 | []=>[]
 | k::r=>a3f k (L7 r)
theorem a1q(k:F9):∀r:List F9,(a3f k r).Perm (k::r)
 | []=>.refl _
 | l::r=>by
  unfold a3f
  split
  ·exact((a1q k r).cons l).trans (List.Perm.swap k l r)
  ·exact .refl _
theorem L8:∀r:List F9,(L7 r).Perm r
 | []=>.refl _
 | k::r=>(a1q k _).trans ((L8 r).cons k)
theorem a1U(k:F9):∀r:List F9,r.Pairwise (fun a b=>HT.lexLt b.1 a.1=false)→(a3f k r).Pairwise (fun a b=>HT.lexLt b.1 a.1=false)
 | [],_=>List.pairwise_singleton _ _
 | l::r,h=>by
  rw[List.pairwise_cons]at h
  unfold a3f
  split
  ·rename_i c
   rw[List.pairwise_cons]
   refine⟨fun b hb=>?_,a1U k r h.2⟩
   rcases List.mem_cons.mp ((a1q k r).mem_iff.mp hb)with rfl | hb
   ·exact a1A _ _ c
   ·exact h.1 b hb
  ·rename_i c
   rw[Bool.not_eq_true]at c
   rw[List.pairwise_cons]
   refine⟨fun b hb=>?_,by rw[List.pairwise_cons];exact h⟩
   rcases List.mem_cons.mp hb with rfl | hb
   ·exact c
   ·exact a2t _ _ _ c (h.1 b hb)
theorem Q3:∀r:List F9,(L7 r).Pairwise (fun a b=>HT.lexLt b.1 a.1=false)
 | []=>.nil
 | k::r=>a1U k _ (Q3 r)
theorem R8:∀{a b:List F9},a.Perm b→a.Pairwise (fun a b=>HT.lexLt b.1 a.1=false)→b.Pairwise (fun a b=>HT.lexLt b.1 a.1=false)→a.Pairwise (fun a b=>a.1≠b.1)→a=b
 | [],b,h,_,_,_=>h.symm.eq_nil.symm▸rfl
 | x::a,[],h,_,_,_=>absurd h.eq_nil nofun
 | x::a,y::b,h,ha,hb,hd=>by
  rw[List.pairwise_cons]at ha hb hd
  have e:x=y:=by
   have mx:x∈y::b:=h.mem_iff.mp (by simp)
   have my:y∈x::a:=h.mem_iff.mpr (by simp)
   rcases List.mem_cons.mp mx with e | mx
   ·exact e
   ·rcases List.mem_cons.mp my with e | my
    ·exact e.symm
    ·exact absurd (a1_ _ _ (hb.1 x mx) (ha.1 y my)) (hd.1 y my)
  subst e
  rw[R8 ((List.perm_cons x).mp h) ha.2 hb.2 hd.2]
def a0r:D→Option (List D)
 | .lst ds=>match Z7 ds with
  | some qs=>if qs.length<64∧qs.Pairwise (fun a b=>a.1.length=b.1.length∧a.1≠b.1)then some ((L7 qs).map A1)else none
  | none=>none
 | _=>none
theorem a8E{qs:List F9}(h:∀q∈qs,q.1≠[]∧q.2.all B6=true)(hl:qs.length<64)(hd:qs.Pairwise (fun a b=>a.1.length=b.1.length∧a.1≠b.1)):a0r (.lst (qs.map A1))=some ((L7 qs).map A1):=by
 show(match Z7 (qs.map A1)with
  | some qs=>if qs.length<64∧qs.Pairwise (fun(a b:F9)=>a.1.length=b.1.length∧a.1≠b.1)then some ((L7 qs).map A1)else none
  | none=>none)=_
 rw[a3M h]
 show(if _ then _ else _)=_
 rw[if_pos ⟨hl,hd⟩]
section
variable {K:W.Frag}{cl:Str→Addr}
theorem a3N{F:Hp}:∀{ds:List D} {vs:List V},ds.all B6=true→Rps K cl F ds vs→∀r∈vs,∃b,r=.ref b
 | [],_,_,p,r,m=>by rw[p.inv0]at m;cases m
 | d::ds,_,h,p,r,m=>by
  obtain⟨v,vs,rfl,p1,p2⟩:=p.inv
  rw[List.all_cons,Bool.and_eq_true]at h
  rcases List.mem_cons.mp m with rfl | m
  ·cases d with
   | tup es =>
    simp only[Rp]at p1
    obtain⟨a,xs,e,_⟩:=p1
    exact⟨a,e⟩
   | _=>cases h.1
  ·exact a3N h.2 p2 r m
theorem a3O{F:Hp}:∀{k:List Int} {rs:List D} {vs:List V},Rps K cl F (k.map D.int++rs) vs→∃ws,vs=k.map V.int++ws∧Rps K cl F rs ws
 | [],rs,vs,p=>⟨vs,rfl,p⟩
 | n::k,rs,_,p=>by
  obtain⟨v,r,rfl,p1,p2⟩:=Rps.inv p
  obtain⟨ws,e,q⟩:=a3O (k:=k) p2
  simp only[Rp]at p1
  exact⟨ws,by rw[e,p1];rfl,q⟩
theorem a8F{F H:Hp}(s:Same F H):∀{qs:List F9} {xs:List V},(∀q∈qs,q.1≠[]∧q.2.all B6=true)→Rps K cl F (qs.map A1) xs→VPs K H xs (qs.map (·.1))
 | [],_,_,r=>by rw[r.inv0];trivial
 | q::qs,_,hn,r=>by
  obtain⟨v,xs,rfl,p,r'⟩:=Rps.inv r
  refine⟨?_,a8F s (fun l hl=>hn l (by simp[hl])) r'⟩
  obtain⟨h1,h2⟩:=hn q (by simp)
  unfold A1 at p
  simp only[Rp]at p
  obtain⟨a,ys,e,ha,rr⟩:=p
  obtain⟨ws,e2,q2⟩:=a3O rr
  subst e2
  exact⟨a,ws,e,.of (s _ _ ha),h1,a3N h2 q2⟩
theorem a9T:a4V K cl (a70 K) a0r:=by
 intro x d zs H F Q s hx h q
 unfold a0r at h
 split at h
 ·rename_i ds
  split at h
  ·rename_i qs hk
   split at h
   ·rename_i hl
    obtain⟨hl,hd⟩:=hl
    cases h
    obtain⟨a,xs,rfl,hH,r⟩:=hx.lst s
    obtain⟨e,hn⟩:=a5c hk
    subst e
    have hlen:qs.length=xs.length:=by rw[← r.length,List.length_map]
    have hg:∀i,i<qs.length→(qs.map (·.1)).getD i []=(qs.getD i ([],[])).1:=fun i hi=>by simp[hi]
    refine⟨a,xs,qs.map (·.1),rfl,.of hH,a8F s hn r,by omega,fun i j hi hj z=>?_,fun l p hl hp hs=>q l _ hl ?_⟩
    ·rw[List.pairwise_iff_getElem]at hd
     have e1:(qs.map (·.1)).getD i []=qs[i].1:=by simp[show i<qs.length by omega]
     have e2:(qs.map (·.1)).getD j []=qs[j].1:=by simp[show j<qs.length by omega]
     rw[e1,e2]
     by_cases y:i<j
     ·exact hd i j (by omega) (by omega) y
     ·obtain⟨h1,h2⟩:=hd j i (by omega) (by omega) (by omega)
      exact⟨h1.symm,Ne.symm h2⟩
    ·have hi:∀i∈p,i<qs.length:=fun i hi=>by rw[hlen];exact List.mem_range.mp (hp.mem_iff.mp hi)
     have e2:(L7 qs).map A1=p.map fun i=>(qs.map A1).getD i .non:=by
      rw[a5a A1 qs ([],[]) .non p hi]
      congr 1
      refine R8 ((L8 qs).trans (a3L qs ([],[]) p (by rw[hlen];exact hp)).symm) (Q3 qs) ?_ ?_
      ·rw[List.pairwise_map]
       refine List.Pairwise.imp_of_mem ?_ hs
       intro i j mi mj hij
       rw[hg i (hi i mi),hg j (hi j mj)]at hij
       exact hij
      ·have:qs.Pairwise (fun a b=>a.1≠b.1):=hd.imp fun h=>h.2
       exact((L8 qs).symm.pairwise this (fun h=>Ne.symm h))
     rw[e2]
     exact a2a r p fun i hi'=>by rw[List.length_map];exact hi i hi'
   ·cases h
  ·cases h
 ·cases h
end
def a0g(el:ZF)(ec:DE):Nat→Option (List (List Int))
 | 0=>some []
 | n+1=>match a0g el ec n with
  | some ks=>(match el (ec.set 0 (.fz (.int (n:Int))))with
   | some (.ok (.tup ds) _)=>(match S6 ds with
    | some k=>if k≠[]then some (ks++[k])else none
    | none=>none)
   | _=>none)
  | none=>none
def S8(ks:List (List Int)):List F9:=(List.range ks.length).map fun(i:Nat)=>(ks.getD i [],[D.int (i:Int)])
def okK(ks:List (List Int)):Bool:=decide ks.Nodup && ks.all fun k=>k.length == (ks.headD []).length
def a2K(js:List Nat)(f:AF)(el:ZF):NF:=fun e=>bnd (f e) fun ds e1=>match ds with
 | [.int n]=>if 0≤n∧n<64 then(match a0g el (j6 1 js e1) n.toNat with
  | some ks=>if okK ks=true then some (.ok ((L7 (S8 ks)).map fun q=>q.2.headD .non) e1)else none
  | none=>none)else none
 | _=>none
theorem a2b{el:ZF}{ec:DE}:∀{n:Nat} {ks:List (List Int)},a0g el ec n=some ks→ks.length=n
 | 0,ks,h=>by cases h;rfl
 | n+1,ks,h=>by
  unfold a0g at h
  split at h
  ·rename_i ks' e
   split at h
   ·split at h
    ·split at h
     ·cases h;rw[List.length_append,a2b e];rfl
     ·cases h
    ·cases h
   ·cases h
  ·cases h
theorem a3g{el:ZF}{ec:DE}:∀{n:Nat} {ks:List (List Int)},a0g el ec n=some ks→∀i,i<n→∃e',el (ec.set 0 (.fz (.int (i:Int))))=some (.ok (.tup ((ks.getD i []).map .int)) e')∧ks.getD i []≠[]
 | 0,ks,h,i,hi=>by omega
 | n+1,ks,h,i,hi=>by
  unfold a0g at h
  split at h
  ·rename_i ks' e
   have hl:=a2b e
   split at h
   ·rename_i ds e' he
    split at h
    ·rename_i k hk
     split at h
     ·rename_i hn
      cases h
      by_cases z:i=n
      ·subst z
       have:(ks'++[k]).getD i []=k:=by rw[List.getD_eq_getElem?_getD,List.getElem?_append_right (by omega),hl,Nat.sub_self];rfl
       rw[this]
       exact⟨e',by rw[he,a2_ hk],hn⟩
      ·obtain⟨e2,h1,h2⟩:=a3g e i (by omega)
       have:(ks'++[k]).getD i []=ks'.getD i []:=by rw[List.getD_eq_getElem?_getD,List.getD_eq_getElem?_getD,List.getElem?_append_left (by omega)]
       rw[this]
       exact⟨e2,h1,h2⟩
     ·cases h
    ·cases h
   ·cases h
  ·cases h
section
variable {K:W.Frag}{cl:Str→Addr}{E:XK}
theorem a9U{env:DE}{i:Nat}{d:D}(n:NoOw env):NoOw (env.set i (.fz d)):=by
 intro j ds oo q
 by_cases z:i=j
 ·subst z
  by_cases hi:i<env.length
  ·rw[List.getElem?_set_self hi]at q;cases q;exact oo
  ·rw[List.getElem?_eq_none (by rw[List.length_set];omega)]at q;cases q
 ·rw[List.getElem?_set_ne z]at q;exact n j ds oo q
theorem b0J{F H:Hp}:∀{ks:List (List Int)} {ys:List V},Same F H→Rps K cl F (ks.map fun k=>D.tup (k.map .int)) ys→(∀k∈ks,k≠[])→VPs K H ys ks
 | [],_,_,r,_=>by rw[r.inv0];trivial
 | k::ks,_,s,r,h=>by
  obtain⟨v,xs,rfl,p,r'⟩:=r.inv
  refine⟨?_,b0J s r' fun k' m=>h k' (List.mem_cons_of_mem _ m)⟩
  obtain⟨a,vs,rfl,hF,rv⟩:∃a vs,v=.ref a∧F a=some (.tup vs)∧Rps K cl F (k.map .int) vs:=by simpa only[Rp]using p
  have e:vs=k.map V.int:=Rps.ints rv
  subst e
  exact⟨a,[],rfl,by rw[List.append_nil];exact .of (s _ _ hF),h k List.mem_cons_self,fun r m=>by cases m⟩
theorem a9V{t:TA}{f:AF}{te:TE}{el:ZF}{js:List Nat}(nd:js.Nodup)(hf:T5 K cl E t f)(he:m8 K cl E te el):W8 K cl E (a74 K t te js) (a2K js f el):=by
 intro σ H Q env F R h
 refine hf σ H _ env F R ((Ct.bnd h a1h).mono fun xs H1 ⟨F1,e1,ds,s1,R1,p1,h1⟩=>?_)
 split at h1
 ·rename_i n
  split at h1
  ·rename_i hn
   split at h1
   ·rename_i ks hk
    split at h1
    ·rename_i ok
     have hl:=a2b hk
     have ok':ks.Nodup∧∀k∈ks,k.length=(ks.headD []).length:=by simpa [okK]using ok
     have ex:xs=[.int n]:=Rps.ints (ns:=[n]) p1
     subst ex
     refine⟨n,rfl,fun r hr=>?_⟩
     refine⟨n.toNat,r,rfl,by rw[i0,Int.toNat_of_nonneg hn.1],by omega,fun H2 ext=>?_⟩
     have ext':∀a o,H1 a=some o→H2 a=some o:=fun a o ha=>ext a o (by rw[b9 (fun z=>by rw[z,hr]at ha;cases ha)];exact ha)
     refine⟨fun i ys H'=>∃F',Gr H1 F1 H' F'∧Rps K cl F' ((ks.take i).map fun k=>D.tup (k.map .int)) ys,⟨F1,⟨Same.refl _,fun a o ha=>ext' a o (R1.sub a o ha),fun a o ha fa=>⟨ext' a o ha,fa⟩⟩,.nil⟩,fun i ys H' hi ⟨F',g,rk⟩=>?_,fun ys H' hy ⟨F',g,rk⟩=>?_⟩
     ·obtain⟨e',hel,_⟩:=a3g hk i hi
      have R2:=R1.gr g
      have Rc:Rel K cl (l5 1 js σ) H' F' (j6 1 js e1):=R2.comp nd
      have n1:NoOw (j6 1 js e1):=a3D
      have Rp':=Rc.put (i:=0) (d:=.int (i:Int)) (v:=.int (i:Int)) (by unfold j6;simp) (fun ds z=>by unfold j6 at z;simp at z) (by simp only[Rp])
      refine he ((l5 1 js σ).set 0 (some (.int (i:Int)))) H' _ _ F' Rp' ?_
      rw[hel]
      intro v H4 F4 f4 R4 hv
      have gr4:Gr H' F' H4 F4:=f4.gr (a9U n1) R4.sub
      refine⟨F4,g.trans gr4,?_⟩
      have et:ks.take (i+1)=ks.take i++[ks.getD i []]:=by
       rw[List.take_add_one,List.getD_eq_getElem?_getD]
       rw[List.getElem?_eq_getElem (by omega)]
       rfl
      rw[et,List.map_append]
      exact(rk.mono gr4.fz).append (.one hv)
     ·rw[List.take_of_length_le (by omega)]at rk
      have ne:∀k∈ks,k≠[]:=fun k m=>by
       obtain⟨i,hi,e⟩:=List.mem_iff_getElem.mp m
       obtain⟨_,_,h3⟩:=a3g hk i (by omega)
       rw[List.getD_eq_getElem?_getD,List.getElem?_eq_getElem hi,Option.getD_some,e]at h3
       exact h3
      have gk:∀i,i<ks.length→ks.getD i []=ks[i]! := fun i hi=>by simp[List.getD_eq_getElem?_getD,hi]
      have at_:∀i (hi:i<ks.length),ks.getD i []=ks[i]:=fun i hi=>by rw[List.getD_eq_getElem?_getD,List.getElem?_eq_getElem hi];rfl
      refine⟨ks,b0J g.sub rk ne,fun i j hi hj z=>?_,fun l p hl' hp hs=>?_⟩
      ·have hi:i<ks.length:=by omega
       have hj:j<ks.length:=by omega
       rw[at_ i hi,at_ j hj]
       refine⟨by rw[ok'.2 _ (List.getElem_mem hi),ok'.2 _ (List.getElem_mem hj)],fun e=>z ((List.getElem_inj ok'.1).mp e)⟩
      ·have R2:=R1.gr g
       obtain⟨R3,f3⟩:=R2.newN (o:=.lst (p.map fun(i:Nat)=>V.int (i:Int))) hl'
       have h1:∀b H' F',Frm σ H1 F1 e1 σ H' F' e1→Rel K cl σ H' F' e1→PN K cl ((L7 (S8 ks)).map fun q=>q.2.headD .non) σ H1 H' F' e1 b→Q b H':=h1
       refine h1 _ _ F' ((R1.frm g).trans f3) R3 ⟨l,_,rfl,g.dom l hl',i0,R2.sub.free hl',fun j ⟨ds,q⟩ e=>?_,?_⟩
       ·obtain⟨a,ys',e1',hH,_⟩:=R2.mu j ds q
        rw[e]at e1';cases e1'
        rw[hl']at hH;cases hH
       ·have hp':p.Perm (List.range ks.length):=by rw[hl];exact hp
        have srt:p.map (fun(i:Nat)=>((ks.getD i [],[D.int (i:Int)]):F9))=L7 (S8 ks):=by
         refine R8 ((hp'.map _).trans (L8 _).symm) ?_ (Q3 _) ?_
         ·rw[List.pairwise_map];exact hs
         ·rw[List.pairwise_map]
          have nd:p.Nodup:=hp'.nodup_iff.mpr List.nodup_range
          refine List.Pairwise.imp_of_mem ?_ nd
          intro a b ma mb hab e
          have ha:=List.mem_range.mp (hp'.mem_iff.mp ma)
          have hb:=List.mem_range.mp (hp'.mem_iff.mp mb)
          have e:ks.getD a []=ks.getD b []:=e
          rw[at_ a ha,at_ b hb]at e
          exact hab ((List.getElem_inj ok'.1).mp e)
        rw[← srt,List.map_map]
        exact a5b p
    ·exact h1.elim
   ·exact h1.elim
  ·exact h1.elim
 ·exact h1.elim
end
section
variable {P:Program}{w:World}{K:W.Frag}{mg:Str→Option Value}{base:Heap}{cl:Str→Addr}{TB:List (Addr×Str)}
theorem Fun.okT{x qual:Str}{st:Stmt}{f:Addr}{fd:FuncData}{N ps:List Str}{k:Nat}{body:SF}(F:Fun K x qual st f fd)(S:FnScope N ps (a7 st))
  (hbody:∀(A:Around) (outer:List Env) (s:Shared) (H:Hp) (E:XK),TbAll TB H→Room k (A.deeper (envOfC qual (a7 st) s.heap.objs.size f fd.code)) →
   ∃t,PSs (O9 (t8 P w) P w K mg base N qual (a7 st) f fd.code A outer s H E) (j7 st) t∧RfS K cl E t body):FnOk P w K mg base (t8 P w) (k+1) f fd ps (W5 TB (k6 K cl (fD N.length ps.length body))):=by
 obtain⟨oc,od,kV,doc,pm,an,cdv,ct,osl,rfl,lk,hcd⟩:=F.ex
 refine a2k lk hcd S (fun vs H Q E h=>a1F h.2) fun A outer s H vs Q E hr h=>?_
 obtain⟨t,h1,h2⟩:=hbody A outer s H E h.1 hr
 exact⟨t,h1,V1 h2 h.2⟩
variable {X:Cx}{k k':Nat}{x:Str}{ps:List Str}{sp:Sp}{E:XK}{e:Expr}{es:List Expr}{t:TA}{p pos:Pos}
theorem a3h(hT:TbAll TB X.H₀)(G:Own X.prog X.w X.K X.mg X.base k x ps (W5 TB sp))(hr:Room k' X.A)(hk:k≤k')(hx:a0l (t8 X.prog X.w) X E)(ha:PA X (e::es) t)(hg:Gl X x:=by rfl)
  (hdb:(x == ("__debug__" : Str))=false:=by decide) (he:starEach (e::es) X.env=(false,eval e X.env)::starEach es X.env:=by rfl) (hpl:(backTo pos (starEach es X.env)).any (·.1)=false:=by rfl) :
  PE X (.Call (.Name x p) (e::es) [] pos) (a0x sp [] E t):=by
 have ha':PA X (e::es) (fun σ H Q=>∃R:List V→Hp→Prop,t σ H R∧∀vs H1,R vs H1→TbAll TB H1→Q vs H1):=by
  intro pos pins s σ H Q I h
  obtain⟨R,h1,h2⟩:=h
  exact wpAny_mono (ha pos pins s σ H R I h1) (fun us s' ⟨vs,H',I',r,q⟩=>⟨vs,H',I',r,h2 _ _ q (hT.now I'.base)⟩) fun _ _ z=>z
 have:=u6 G hr hk hx ha' hg hdb he hpl (p:=p)
 intro pins s σ H Q I h
 exact this pins s σ H Q I ⟨_,h,fun vs H1 z hT'=>⟨hT',z⟩⟩
end
section
variable {P:Program}{w:World}{K:W.Frag}{mg:Str→Option Value}{base:Heap}{cl:Str→Addr}{TB:List (Addr×Str)}
theorem FunD.okT{x qual:Str}{st:Stmt}{dT f:Addr}{fd:FuncData}{N ps:List Str}{k:Nat}{body:SF}(F:FunD K x qual st dT f fd)(S:FnScope N ps (a7 st))
  (hbody:∀(A:Around) (outer:List Env) (s:Shared) (H:Hp) (E:XK),TbAll TB H→Room k (A.deeper (envOfC qual (a7 st) s.heap.objs.size f fd.code)) →
   ∃t,PSs (O9 (t8 P w) P w K mg base N qual (a7 st) f fd.code A outer s H E) (j7 st) t∧RfS K cl E t body):FnOk P w K mg base (t8 P w) (k+1) f fd ps (W5 TB (k6 K cl (fD N.length ps.length body))):=by
 obtain⟨oc,od,kV,doc,pm,an,cdv,ct,osl,rfl,lk,hcd⟩:=F.ex
 refine a2k lk hcd S (fun vs H Q E h=>a1F h.2) fun A outer s H vs Q E hr h=>?_
 obtain⟨t,h1,h2⟩:=hbody A outer s H E h.1 hr
 exact⟨t,h1,V1 h2 h.2⟩
variable {X:Cx}{k k':Nat}{x:Str}{ps:List Str}{sp:Sp}{E:XK}{e:Expr}{es:List Expr}{t:TA}{p pos:Pos}{d:V}
theorem OwnD.own(G:OwnD P w K mg base k x ps sp d):Own P w K mg base k x ps sp:=by
 obtain⟨f,fd,du,F,b,bd,rd,kp,m⟩:=G.ex
 exact⟨f,fd,F,b,kp,m⟩
end
def a2c(k:Int):List Int→List Int
 | []=>[k]
 | x::r=>if k<x then k::x::r else if k=x then x::r else x::a2c k r
def V4:List Int→List Int
 | []=>[]
 | k::r=>a2c k (V4 r)
theorem a2d{k x:Int}:∀{l:List Int},x∈a2c k l↔x=k∨x∈l
 | []=>by simp[a2c]
 | y::l=>by
  unfold a2c
  split
  ·simp
  ·split
   ·rename_i h;subst h;simp
   ·rw[List.mem_cons,a2d,List.mem_cons]
    constructor
    ·rintro(h | h | h)
     ·exact .inr (.inl h)
     ·exact .inl h
     ·exact .inr (.inr h)
    ·rintro(h | h | h)
     ·exact .inr (.inl h)
     ·exact .inl h
     ·exact .inr (.inr h)
theorem a6u{k:Int}:∀{l:List Int},l.Pairwise (· < ·)→(a2c k l).Pairwise (· < ·)
 | [],_=>List.pairwise_singleton _ _
 | y::l,h=>by
  unfold a2c
  have h':=List.pairwise_cons.mp h
  split
  ·rename_i hk
   refine List.pairwise_cons.mpr ⟨fun x m=>?_,h⟩
   rcases List.mem_cons.mp m with rfl | m
   ·exact hk
   ·exact Int.lt_trans hk (h'.1 x m)
  ·split
   ·exact h
   ·refine List.pairwise_cons.mpr ⟨fun x m=>?_,a6u h'.2⟩
    rcases a2d.mp m with rfl | m
    ·omega
    ·exact h'.1 x m
theorem a1r{x:Int}:∀{l:List Int},x∈V4 l↔x∈l
 | []=>by simp[V4]
 | k::l=>by unfold V4;rw[a2d,a1r,List.mem_cons]
theorem a2e:∀l:List Int,(V4 l).Pairwise (· < ·)
 | []=>.nil
 | k::l=>a6u (a2e l)
theorem a5e:∀{a b:List Int},a.Pairwise (· < ·)→b.Pairwise (· < ·)→(∀x,x∈a↔x∈b)→a=b
 | [],[],_,_,_=>rfl
 | [],y::b,_,_,h=>absurd ((h y).mpr List.mem_cons_self) List.not_mem_nil
 | x::a,[],_,_,h=>absurd ((h x).mp List.mem_cons_self) List.not_mem_nil
 | x::a,y::b,ha,hb,h=>by
  have ha':=List.pairwise_cons.mp ha
  have hb':=List.pairwise_cons.mp hb
  have e:x=y:=by
   rcases List.mem_cons.mp ((h x).mp List.mem_cons_self)with e | m
   ·exact e
   ·rcases List.mem_cons.mp ((h y).mpr List.mem_cons_self)with e | m2
    ·exact e.symm
    ·have:=hb'.1 x m
     have:=ha'.1 y m2
     omega
  subst e
  congr 1
  refine a5e ha'.2 hb'.2 fun z=>?_
  constructor
  ·intro m
   rcases List.mem_cons.mp ((h z).mp (List.mem_cons_of_mem _ m))with e | m2
   ·subst e;have:=ha'.1 z m;omega
   ·exact m2
  ·intro m
   rcases List.mem_cons.mp ((h z).mpr (List.mem_cons_of_mem _ m))with e | m2
   ·subst e;have:=hb'.1 z m;omega
   ·exact m2
def lookD(e:DE)(i:Nat):Option (DK×List D):=match e[i]? with
 | some (.fz (.dic ks ds))=>some (ks,ds)
 | some (.od ks ds)=>some (ks,ds)
 | some (.hk ks ds)=>some (ks,ds)
 | _=>none
def a0U:D→Option i4
 | .int i=>some (.inl i)
 | .str x=>some (.inr x)
 | _=>none
def a2L:List D→Option (List i4)
 | []=>some []
 | d::ds=>match a0U d,a2L ds with
  | some k,some ks=>some (k::ks)
  | _,_=>none
section
variable {κ:Type} [DecidableEq κ]
def a0V:List κ→List D→κ→Option D
 | k'::ks,d::ds,k=>if k'=k then some d else a0V ks ds k
 | _,_,_=>none
def G9(ks:List κ)(k:κ):Bool:=ks.any fun k'=>decide (k'=k)
def K2{α:Type}(ks:List κ)(ds:List α)(k:κ)(d:α):List α:=List.zipWith (fun k' d'=>if k'=k then d else d') ks ds
end
def a5f(ks:DK)(ds:List D)(k:D):Option (Option D):=match ks with
 | .inl ks=>(match a0U k with
  | some k=>some (a0V ks ds k)
  | none=>none)
 | .inr ks=>(match k with
  | .tup es=>(match a2L es with
   | some k=>some (a0V ks ds k)
   | none=>none)
  | _=>none)
def putD(ks:DK)(ds:List D)(k d:D):Option (DK×List D):=match ks with
 | .inl ks=>(match a0U k with
  | some k=>some (if G9 ks k=true then(.inl ks,K2 ks ds k d)else(.inl (ks++[k]),ds++[d]))
  | none=>none)
 | .inr ks=>(match k with
  | .tup es=>(match a2L es with
   | some k=>some (if G9 ks k=true then(.inr ks,K2 ks ds k d)else(.inr (ks++[k]),ds++[d]))
   | none=>none)
  | _=>none)
def b3V:R2:=fun y x H Q=>∃a o,x=.ref a∧DGet H a y o∧Q (.bl o.isSome) H
section
variable {X:Cx}
theorem b3W(hu:X.A.units+1<cLine):M1 X (compareOp .In) b3V:=by
 intro pins s σ H x y v u Q I rx ry h
 obtain⟨a,o,rfl,g,q⟩:=h
 obtain rfl:u=Value.ref a:=ry
 exact b5d hu I g rx fun s3 I3=>⟨.bl o.isSome,H,I3,rfl,q⟩
end
section
variable {K:W.Frag}{cl:Str→Addr}{E:XK}{σ:St}{H F:Hp}{env:DE}
theorem Rel.lookD{i:Nat}{ks:DK}{ds:List D}(R:Rel K cl σ H F env)(h:lookD env i=some (ks,ds)):∃a xs,σ[i]? = some (some (.ref a))∧H a=some (P3 ks xs)∧W7 ks=xs.length∧Rps K cl F ds xs:=by
 unfold L2.lookD at h
 split at h
 ·rename_i q;cases h
  obtain⟨v,e,p⟩:=R.fz i _ q
  simp only[Rp]at p
  obtain⟨a,xs,rfl,h1,h2,h3⟩:=p
  exact⟨a,xs,e,R.sub _ _ h1,h2,h3⟩
 ·rename_i q;cases h
  obtain⟨a,xs,e,h1,_,h2,h3⟩:=R.od.at_ i _ ks ds q ⟨rfl,rfl⟩
  exact⟨a,xs,e,h1,h2,h3⟩
 ·rename_i q;cases h
  obtain⟨a,xs,e,h1,_,h2,h3⟩:=R.od.at_ i _ ks ds q ⟨rfl,rfl⟩
  exact⟨a,xs,e,h1,h2,h3⟩
 ·cases h
theorem a2M{d:D}{k:i4}{v:V}(h:a0U d=some k)(p:Rp K cl F d v):v=kV k:=by
 unfold a0U at h
 split at h
 ·cases h;simp only[Rp]at p;exact p
 ·cases h;simp only[Rp]at p;exact p
 ·cases h
theorem a3i:∀{ds:List D} {ks:List i4} {vs:List V},a2L ds=some ks→Rps K cl F ds vs→vs=ks.map kV
 | [],ks,vs,h,p=>by cases h;exact p.inv0
 | d::ds,ks,vs,h,p=>by
  obtain⟨v,r,rfl,p1,p2⟩:=p.inv
  unfold a2L at h
  split at h
  ·rename_i k ks' h1 h2
   cases h
   rw[a2M h1 p1,a3i h2 p2];rfl
  ·cases h
theorem a3j{κ:Type} [DecidableEq κ] (k:κ):∀{ks:List κ} {ds:List D} {xs:List V},ks.length=xs.length→Rps K cl F ds xs→match a0V ks ds k with
  | none=>N7 (ks.zip xs) k=none
  | some d=>∃v,N7 (ks.zip xs) k=some v∧Rp K cl F d v
 | [],ds,xs,hl,r=>by
  have:xs=[]:=List.length_eq_zero_iff.mp hl.symm
  subst this
  show N7 [] k=none
  rfl
 | k'::ks,ds,xs,hl,r=>by
  cases xs with
  | nil=>simp at hl
  | cons x xs =>
   cases ds with
   | nil=>have:=r.inv0;cases this
   | cons d ds =>
    obtain⟨v,r',e,p1,p2⟩:=r.inv
    cases e
    unfold a0V
    by_cases z:k'=k
    ·rw[if_pos z]
     exact⟨x,a0E (p:=(k',x)) z,p1⟩
    ·rw[if_neg z]
     have:=a3j k (ks:=ks) (ds:=ds) (xs:=xs) (by simpa using hl) p2
     rw[List.zip_cons_cons,a0F (p:=(k',x)) z]
     exact this
theorem b1_{a:Addr}{ks:DK}{ds:List D}{xs:List V}{k:D}{y:V}{o:Option D}(s:Same F H)(h:H a=some (P3 ks xs))(hn:W7 ks=xs.length)(r:Rps K cl F ds xs)(p:Rp K cl F k y)(g:a5f ks ds k=some o) :
  ∃o',DGet H a y o'∧o'.isSome=o.isSome∧∀d,o=some d→∃v,o'=some v∧Rp K cl F d v:=by
 cases ks with
 | inl ks =>
  unfold a5f at g
  simp only at g
  split at g
  ·rename_i k' hk
   cases g
   rw[a2M hk p]
   have:=a3j k' (ks:=ks) hn r
   refine⟨_,.k h,?_⟩
   split at this
   ·rename_i q;rw[q,this];exact⟨rfl,fun d z=>by cases z⟩
   ·rename_i d q
    obtain⟨v,e,pv⟩:=this
    rw[q,e]
    exact⟨rfl,fun d' z=>by cases z;exact⟨v,rfl,pv⟩⟩
  ·cases g
 | inr ks =>
  unfold a5f at g
  simp only at g
  split at g
  ·rename_i es
   split at g
   ·rename_i k' hk
    cases g
    simp only[Rp]at p
    obtain⟨b,ys,rfl,hb,rb⟩:=p
    rw[a3i hk rb]at hb
    have:=a3j k' (ks:=ks) hn r
    refine⟨_,.t h (s _ _ hb),?_⟩
    split at this
    ·rename_i q;rw[q,this];exact⟨rfl,fun d z=>by cases z⟩
    ·rename_i d q
     obtain⟨v,e,pv⟩:=this
     rw[q,e]
     exact⟨rfl,fun d' z=>by cases z;exact⟨v,rfl,pv⟩⟩
   ·cases g
  ·cases g
def a3k(f:ZF)(i:Nat):ZF:=fun e=>bnd (f e) fun k e1=>match lookD e1 i with
 | some (ks,ds)=>(match a5f ks ds k with
  | some o=>some (.ok (.bl o.isSome) e1)
  | none=>none)
 | none=>none
theorem b3X{i:Nat}{t:TE}{f:ZF}(hf:m8 K cl E t f):m8 K cl E (tOp b3V t (B9 i)) (a3k f i):=by
 intro σ H Q env F R h
 refine hf σ H _ env F R ((Ct.bnd h U2).mono fun y H1 ⟨F1,e1,k,s1,R1,p1,h1⟩=>?_)
 split at h1
 ·rename_i ks ds q
  obtain⟨a,xs,e,hH,hn,r⟩:=R1.lookD q
  split at h1
  ·rename_i o g
   obtain⟨o',g',e',_⟩:=b1_ R1.sub hH hn r p1 g
   refine⟨_,e,a,o',rfl,g',?_⟩
   rw[e']
   exact h1 _ H1 F1 Frm.refl R1 (by show Rp K cl F1 (.bl _) _;simp only[Rp])
  ·exact h1.elim
 ·exact h1.elim
theorem Rps.repK{κ:Type} [DecidableEq κ] {d:D} {v:V} (k:κ) (p:Rp K cl F d v):∀{ks:List κ} {ds:List D} {xs:List V},Rps K cl F ds xs→Rps K cl F (K2 ks ds k d) (K2 ks xs k v)
 | [],ds,xs,r=>by unfold K2;simp only[List.zipWith_nil_left];exact .nil
 | k'::ks,[],xs,r=>by rw[r.inv0];unfold K2;simp only[List.zipWith_nil_right];exact .nil
 | k'::ks,d'::ds,xs,r=>by
  obtain⟨x,xs',rfl,p1,p2⟩:=r.inv
  unfold K2
  rw[List.zipWith_cons_cons,List.zipWith_cons_cons]
  refine .cons ?_ (Rps.repK k p p2)
  by_cases z:k'=k
  ·rw[if_pos z,if_pos z];exact p
  ·rw[if_neg z,if_neg z];exact p1
theorem a6v{κ:Type} [DecidableEq κ] (k:κ):∀{ks:List κ} {xs:List V},ks.length=xs.length→((ks.zip xs).any fun kv=>decide (kv.1=k))=G9 ks k
 | [],xs,h=>by simp[G9]
 | k'::ks,[],h=>by simp at h
 | k'::ks,x::xs,h=>by
  rw[List.zip_cons_cons,List.any_cons,a6v k (by simpa using h)]
  rfl
theorem a6w{κ:Type} [DecidableEq κ] (k:κ) (v:V):∀{ks:List κ} {xs:List V},(ks.zip xs).map (fun kv=>if kv.1=k then(kv.1,v)else kv)=ks.zip (K2 ks xs k v)
 | [],xs=>by simp
 | k'::ks,[]=>by simp[K2]
 | k'::ks,x::xs=>by
  rw[List.zip_cons_cons,List.map_cons,a6w k v]
  unfold K2
  rw[List.zipWith_cons_cons,List.zip_cons_cons]
  by_cases z:k'=k
  ·simp[z]
  ·simp[z]
theorem a5g{κ:Type} [DecidableEq κ] {k:κ} {v:V} {ks:List κ} {xs:List V} (h:ks.length=xs.length):G5 (ks.zip xs) k v=if G9 ks k=true then ks.zip (K2 ks xs k v)else(ks++[k]).zip (xs++[v]):=by
 unfold G5
 rw[a6v k h,a6w k v,List.zip_append h]
 rfl
theorem a1V{κ α:Type} [DecidableEq κ] {k:κ} {v:α} {ks:List κ} {xs:List α} (h:ks.length=xs.length):(K2 ks xs k v).length=xs.length:=by
 unfold K2
 rw[List.length_zipWith,h,Nat.min_self]
theorem b2a{a:Addr}{ks ks':DK}{ds ds':List D}{xs:List V}{k d:D}{y v:V}(s:Same F H)(h:H a=some (P3 ks xs))(hn:W7 ks=xs.length)(r:Rps K cl F ds xs)(p:Rp K cl F k y)(pd:Rp K cl F d v)(hl:W7 ks<sizeLine)(g:putD ks ds k d=some (ks',ds')) :
  ∃xs',DPut H a y v (upd H a (P3 ks' xs'))∧W7 ks'=xs'.length∧Rps K cl F ds' xs':=by
 cases ks with
 | inl ks =>
  have hn:ks.length=xs.length:=hn
  have hl:ks.length<sizeLine:=hl
  unfold putD at g
  simp only at g
  split at g
  ·rename_i k' hk
   rw[a2M hk p]
   have dp:=DPut.k (k:=k') (v:=v) h (by rw[List.length_zip,← hn,Nat.min_self];exact hl)
   rw[a5g hn]at dp
   by_cases z:G9 ks k'=true
   ·rw[if_pos z]at dp g
    cases g
    exact⟨K2 ks xs k' v,dp,by rw[a1V hn];exact hn,r.repK k' pd⟩
   ·rw[if_neg z]at dp g
    cases g
    exact⟨xs++[v],dp,by show(ks++[k']).length=_;rw[List.length_append,List.length_append,hn];rfl,r.append (.one pd)⟩
  ·cases g
 | inr ks =>
  have hn:ks.length=xs.length:=hn
  have hl:ks.length<sizeLine:=hl
  unfold putD at g
  simp only at g
  split at g
  ·rename_i es
   split at g
   ·rename_i k' hk
    simp only[Rp]at p
    obtain⟨b,ys,rfl,hb,rb⟩:=p
    rw[a3i hk rb]at hb
    have dp:=DPut.t (k:=k') (v:=v) h (s _ _ hb) (by rw[List.length_zip,← hn,Nat.min_self];exact hl)
    rw[a5g hn]at dp
    by_cases z:G9 ks k'=true
    ·rw[if_pos z]at dp g
     cases g
     exact⟨K2 ks xs k' v,dp,by rw[a1V hn];exact hn,r.repK k' pd⟩
    ·rw[if_neg z]at dp g
     cases g
     exact⟨xs++[v],dp,by show(ks++[k']).length=_;rw[List.length_append,List.length_append,hn];rfl,r.append (.one pd)⟩
   ·cases g
  ·cases g
theorem Rel.changeD{i:Nat}{ks ks':DK}{ds ds':List D}{a:Addr}{xs':List V}(R:Rel K cl σ H F env)(h:env[i]? = some (.od ks ds))(e:σ[i]? = some (some (.ref a)))(hn:W7 ks'=xs'.length)(r:Rps K cl F ds' xs') :
  Rel K cl σ (upd H a (P3 ks' xs')) F (env.set i (.od ks' ds'))∧Frm σ H F env σ (upd H a (P3 ks' xs')) F (env.set i (.od ks' ds')):=by
 obtain⟨a',xs,e',hH,hF,_⟩:=R.od.at_ i _ ks ds h ⟨rfl,rfl⟩
 rw[e]at e';cases e'
 have hi:i<env.length:=(List.getElem?_eq_some_iff.mp h).1
 have self:(env.set i (.od ks' ds'))[i]? = some (.od ks' ds'):=List.getElem?_set_self hi
 have oth:∀j,j≠i→(env.set i (.od ks' ds'))[j]? = env[j]?:=fun j hj=>List.getElem?_set_ne (Ne.symm hj)
 have notL:∀ys,H a≠some (.lst ys):=fun ys z=>by rw[hH]at z;exact a24 (Option.some.inj z)
 have muo:∀(j:Nat) (fs:List D),((env.set i (.od ks' ds'))[j]? = some (.ow fs)∨(env.set i (.od ks' ds'))[j]? = some (.hd fs))→env[j]? = some (.ow fs)∨env[j]? = some (.hd fs):=fun j fs q=>by
  by_cases z:j=i
  ·subst z;rw[self]at q;rcases q with q | q<;>cases q
  ·rw[oth j z]at q;exact q
 refine⟨⟨fun b o q=>?_,by rw[List.length_set];exact R.len,fun j d q=>?_,fun j fs q=>?_,fun j l b ⟨fs,q⟩ ⟨gs,q'⟩=>R.inj j l b ⟨fs,muo j fs q⟩ ⟨gs,muo l gs q'⟩,⟨fun j s ls es q d=>?_,fun j l s t ks1 ks2 ds1 ds2 b q d q' d' e1 e2=>?_⟩⟩,⟨Same.refl _,fun b o hb fb w=>?_,fun j fs q=>?_,fun b q=>?_⟩⟩
 ·have z:b≠a:=fun z=>by rw[z,hF]at q;cases q
  rw[b9 z];exact R.sub _ _ q
 ·have z:j≠i:=fun z=>by subst z;rw[self]at q;cases q
  rw[oth j z]at q;exact R.fz j d q
 ·obtain⟨b,zs,e1,h1,f1,r1⟩:=R.mu j fs (muo j fs q)
  exact⟨b,zs,e1,by rw[b9 (fun z=>by rw[z]at h1;exact notL zs h1)];exact h1,f1,r1⟩
 ·by_cases z:j=i
  ·subst z
   rw[self]at q;cases q
   obtain⟨rfl,rfl⟩:=d
   exact⟨a,xs',e,i0,hF,hn,r⟩
  ·rw[oth j z]at q
   obtain⟨b,zs,e1,h1,f1,n1,r1⟩:=R.od.at_ j s ls es q d
   have nb:b≠a:=fun y=>z (R.od.inj j i s _ ls ks es ds b q d h ⟨rfl,rfl⟩ e1 (by rw[y];exact e))
   exact⟨b,zs,e1,by rw[b9 nb];exact h1,f1,n1,r1⟩
 ·have un:∀(j:Nat) (s:Sl) (ks1:DK) (ds1:List D),(env.set i (.od ks' ds'))[j]? = some s→M8 s ks1 ds1→∃s1 ks2 ds2,env[j]? = some s1∧M8 s1 ks2 ds2:=fun j s ks1 ds1 q d=>by
   by_cases z:j=i
   ·subst z;exact⟨_,ks,ds,h,rfl,rfl⟩
   ·rw[oth j z]at q;exact⟨s,ks1,ds1,q,d⟩
  obtain⟨s1,k1,d1,x1,y1⟩:=un j s ks1 ds1 q d
  obtain⟨s2,k2,d2,x2,y2⟩:=un l t ks2 ds2 q' d'
  exact R.od.inj j l s1 s2 k1 k2 d1 d2 b x1 y1 x2 y2 e1 e2
 ·have z:b≠a:=fun z=>w ⟨i,.od ks ds,True.intro,h,by rw[z];exact e⟩
  refine⟨by rw[b9 z];exact hb,fb,fun⟨j,fs,oo,q,e1⟩=>?_⟩
  by_cases y:j=i
  ·subst y;rw[e]at e1;cases e1;exact z rfl
  ·rw[oth j y]at q;exact w ⟨j,fs,oo,q,e1⟩
 ·have z:j≠i:=fun z=>by subst z;rw[h]at q;cases q
  exact⟨by rw[oth j z];exact q,rfl⟩
 ·by_cases z:b=a
  ·rw[z,i0]at q;cases q
  ·rw[b9 z]at q;exact q
def a4j(i:Nat)(k:ZF)(f:ZF):SF:=fun e=>D3 (f e) fun d e1=>match lookD e1 i with
 | none=>none
 | some _=>D3 (k e1) fun kd e2=>match e2[i]? with
  | some (.od ks ds)=>if W7 ks<sizeLine then(match putD ks ds kd d with
   | some kd'=>some (.nx (e2.set i (.od kd'.1 kd'.2)))
   | none=>none)else none
  | _=>none
theorem b2b{i:Nat}{tk tv:TE}{k f:ZF}(hk:m8 K cl E tk k)(hf:m8 K cl E tv f):RfS K cl E (b0z (B9 i) tk tv) (a4j i k f):=by
 intro N σ H env F R h
 refine hf σ H _ env F R ((Cs.bnd h).mono fun v H1 ⟨F1,e1,d,fr1,R1,p1,h1⟩=>?_)
 cases q0:lookD e1 i with
 | none=>rw[q0]at h1;exact h1.elim
 | some kd0 =>
  obtain⟨ks0,ds0⟩:=kd0
  rw[q0]at h1
  obtain⟨a0,xs0,e0,_⟩:=R1.lookD q0
  have h1:Cs K cl E (D3 (k e1) fun kd e2=>match e2[i]? with
   | some (.od ks ds)=>if W7 ks<sizeLine then(match putD ks ds kd d with
    | some kd'=>some (.nx (e2.set i (.od kd'.1 kd'.2)))
    | none=>none)else none
   | _=>none) σ H1 F1 e1 N:=h1.from fr1
  refine⟨_,e0,hk σ H1 _ e1 F1 R1 ((Cs.bnd h1).mono fun y H2 ⟨F2,e2,kd,fr2,R2,p2,h2⟩=>?_)⟩
  split at h2
  ·rename_i ks ds q
   split at h2
   ·rename_i hl
    split at h2
    ·rename_i kd' g
     obtain⟨ks',ds'⟩:=kd'
     obtain⟨a,xs,e,hH,hF,hn,r⟩:=R2.od.at_ i _ ks ds q ⟨rfl,rfl⟩
     rw[e0]at e;cases e
     obtain⟨xs',dp,hn',r'⟩:=b2a R2.sub hH hn r p2 (Rp.mono fr2.fz _ _ p1) hl g
     obtain⟨R',f'⟩:=R2.changeD q e0 hn' r'
     exact⟨a0,_,rfl,dp,h2 σ _ F2 (fr2.trans f') R'⟩
    ·exact h2.elim
   ·exact h2.elim
  ·exact h2.elim
def PD(K:W.Frag)(cl:Str→Addr):Py (DK×List D) V:=fun kd σ H H' F' e v=>∃a xs,v=.ref a∧H a=none∧H' a=some (P3 kd.1 xs)∧F' a=none∧(∀(j:Nat) (s:Sl) (ks:DK) (ds:List D),e[j]? = some s→M8 s ks ds→σ[j]?≠some (some (.ref a)))∧W7 kd.1=xs.length∧Rps K cl F' kd.2 xs
abbrev DF:=DE→Option (R (DK×List D))
def RfD(K:W.Frag)(cl:Str→Addr)(E:XK)(t:TE)(f:DF):Prop:=∀σ H Q env F,Rel K cl σ H F env→Ct K cl E (PD K cl) (f env) σ H F env Q→t σ H Q
theorem Ct.newD{p:Addr}{ks:DK}{xs:List V}{ds:List D}{Q:VK}(R:Rel K cl σ H F env)(hp:H p=none)(hn:W7 ks=xs.length)(r:Rps K cl F ds xs)(h:Ct K cl E (PD K cl) (some (.ok (ks,ds) env)) σ H F env Q):Q (.ref p) (upd H p (P3 ks xs)):=by
 obtain⟨R',f⟩:=R.newN (o:=P3 ks xs) hp
 refine h _ _ F f R' ⟨p,xs,rfl,hp,i0,R.sub.free hp,fun j s ls es q d e=>?_,hn,r⟩
 obtain⟨a,ys,e1,hH,_⟩:=R.od.at_ j s ls es q d
 rw[e]at e1;cases e1
 rw[hp]at hH;cases hH
def Z8(j:Nat):DF:=fun e=>match e[j]? with
 | some (.fz kd)=>(match a0U kd with
  | some κ=>some (.ok (.inl [κ],[.bl true]) e)
  | none=>none)
 | _=>none
theorem b2c{j:Nat}:RfD K cl E (b0B [(B9 j,tC (.bl true))]) (Z8 j):=by
 intro σ H Q env F R h p hp
 unfold Z8 at h
 split at h
 ·rename_i kd q
  split at h
  ·rename_i κ hκ
   obtain⟨v,e,pv⟩:=R.fz j kd q
   refine⟨v,e,i0,[(κ,.bl true)],by rw[a2M hκ pv];rfl,by show 1≤15;omega,?_⟩
   show Q (.ref p) (upd (upd H p (.dK [])) p (.dK [(κ,.bl true)]))
   have e1:upd (upd H p (.dK [])) p (.dK [(κ,.bl true)])=upd H p (P3 (.inl [κ]) [.bl true]):=by
    funext b
    by_cases z:b=p
    ·rw[z,i0,i0];rfl
    ·rw[b9 z,b9 z,b9 z]
   rw[e1]
   exact Ct.newD (ks:=.inl [κ]) (xs:=[.bl true]) R hp rfl (.one (by simp only[Rp])) h
  ·exact h.elim
 ·exact h.elim
def a0W(i:Nat)(f:DF):SF:=fun e=>D3 (f e) fun kd e1=>put i (.od kd.1 kd.2) e1
theorem Rel.putD{i:Nat}{ks:DK}{ds:List D}{a:Addr}{xs:List V}(R:Rel K cl σ H F env)(hi:i<env.length)(hH:H a=some (P3 ks xs))(hF:F a=none)(na:∀(j:Nat) (s:Sl) (ls:DK) (es:List D),env[j]? = some s→M8 s ls es→σ[j]?≠some (some (.ref a)))(hn:W7 ks=xs.length)(r:Rps K cl F ds xs):Rel K cl (σ.set i (some (.ref a))) H F (env.set i (.od ks ds)):=by
 have his:i<σ.length:=by rw[R.len];exact hi
 have self:(env.set i (.od ks ds))[i]? = some (.od ks ds):=List.getElem?_set_self hi
 have oth:∀j,j≠i→(env.set i (.od ks ds))[j]? = env[j]?:=fun j hj=>List.getElem?_set_ne (Ne.symm hj)
 have soth:∀j,j≠i→(σ.set i (some (.ref a)))[j]? = σ[j]?:=fun j hj=>List.getElem?_set_ne (Ne.symm hj)
 have muo:∀(j:Nat) (fs:List D),((env.set i (.od ks ds))[j]? = some (.ow fs)∨(env.set i (.od ks ds))[j]? = some (.hd fs))→j≠i∧(env[j]? = some (.ow fs)∨env[j]? = some (.hd fs)):=fun j fs q=>by
  by_cases z:j=i
  ·subst z;rw[self]at q;rcases q with q | q<;>cases q
  ·rw[oth j z]at q;exact⟨z,q⟩
 refine⟨R.sub,by rw[List.length_set,List.length_set];exact R.len,fun j d q=>?_,fun j fs q=>?_,fun j l b ⟨fs,q⟩ ⟨gs,q'⟩ e1 e2=>?_,⟨fun j s ls es q d=>?_,fun j l s t ks1 ks2 ds1 ds2 b q d q' d' e1 e2=>?_⟩⟩
 ·have z:j≠i:=fun z=>by subst z;rw[self]at q;cases q
  rw[oth j z]at q;rw[soth j z];exact R.fz j d q
 ·obtain⟨z,q⟩:=muo j fs q
  rw[soth j z];exact R.mu j fs q
 ·obtain⟨z,q⟩:=muo j fs q
  obtain⟨z',q'⟩:=muo l gs q'
  rw[soth j z]at e1;rw[soth l z']at e2
  exact R.inj j l b ⟨fs,q⟩ ⟨gs,q'⟩ e1 e2
 ·by_cases z:j=i
  ·subst z
   rw[self]at q;cases q
   obtain⟨rfl,rfl⟩:=d
   exact⟨a,xs,List.getElem?_set_self his,hH,hF,hn,r⟩
  ·rw[oth j z]at q;rw[soth j z];exact R.od.at_ j s ls es q d
 ·by_cases zj:j=i
  ·by_cases zl:l=i
   ·rw[zj,zl]
   ·subst zj
    rw[List.getElem?_set_self his]at e1;cases e1
    rw[soth l zl]at e2;rw[oth l zl]at q'
    exact absurd e2 (na l t ks2 ds2 q' d')
  ·rw[soth j zj]at e1;rw[oth j zj]at q
   by_cases zl:l=i
   ·subst zl
    rw[List.getElem?_set_self his]at e2;cases e2
    exact absurd e1 (na j s ks1 ds1 q d)
   ·rw[soth l zl]at e2;rw[oth l zl]at q'
    exact R.od.inj j l s t ks1 ks2 ds1 ds2 b q d q' d' e1 e2
theorem b2d{i:Nat}{t:TE}{f:DF}(hf:RfD K cl E t f):RfS K cl E (a0w t (Y3 i)) (a0W i f):=by
 intro N σ H env F R h
 refine hf σ H _ env F R ((Cs.bnd h).mono fun x H1 ⟨F1,e1,kd,fr,R1,p1,h1⟩=>?_)
 obtain⟨a,xs,rfl,hn,hH,hF,nm,hl,r⟩:=p1
 obtain⟨hi,nh,h2⟩:=a17 h1
 exact h2 _ H1 F1 (fr.putO hn nh) (R1.putD hi hH hF nm hl r)
def a0X:List i4→Option (List Int)
 | []=>some []
 | .inl i::ks=>(match a0X ks with
  | some ns=>some (i::ns)
  | none=>none)
 | .inr _::_=>none
theorem a5h:∀{ks:List i4} {ns:List Int},a0X ks=some ns→ks=ns.map Sum.inl
 | [],ns,h=>by cases h;rfl
 | .inl i::ks,ns,h=>by
  unfold a0X at h
  split at h
  ·rename_i ms q;cases h;rw[a5h q];rfl
  ·cases h
 | .inr _::_,ns,h=>by cases h
def a1s(i:Nat):NF:=fun e=>match lookD e i with
 | some (.inl ks,_)=>(match a0X ks with
  | some ns=>if ns.length<1000 then some (.ok ((V4 ns).map .int) e)else none
  | none=>none)
 | _=>none
theorem a9W{i:Nat}:W8 K cl E (a8d (B9 i)) (a1s i):=by
 intro σ H Q env F R h
 unfold a1s at h
 split at h
 ·rename_i ks ds q
  split at h
  ·rename_i ns hk
   split at h
   ·rename_i hl
    obtain⟨a,xs,e,hH,hn,r⟩:=R.lookD q
    have hn:ks.length=xs.length:=hn
    have hH:H a=some (.dK (ks.zip xs)):=hH
    have ek:=a5h hk
    refine⟨_,e,a,_,ns,rfl,.of hH,by rw[List.map_fst_zip (by omega)];exact ek,hl,fun l ls hl' hpw hm=>?_⟩
    have e:ls=V4 ns:=a5e hpw (a2e ns) fun x=>(hm x).trans a1r.symm
    subst e
    exact Ct.newN R hl' Rps.ofInts h
   ·exact h.elim
  ·exact h.elim
 ·exact h.elim
end
@[simp] theorem a9X(ks:DK)(ds:List D):V3 (.od ks ds)=true:=rfl
@[simp] theorem b2e(ks:DK)(ds:List D):a1o (.od ks ds)=.fz (.dic ks ds):=rfl
@[simp] theorem b2f(ks:DK)(ds:List D):a1o (.hk ks ds)=.fz (.dic ks ds):=rfl
def a4k(ds:List D):Option (Int×Nat):=match ds with
 | [.int i,.int j,.int k]=>if k = -1∧-(2 ^ 61)≤i∧i<2 ^ 61∧-(2 ^ 61)≤j∧j<2 ^ 61 then some (i,(i-j).toNat)else none
 | _=>none
theorem a9Y{i j:Int}(h : -(2 ^ 61)≤i∧i<2 ^ 61∧-(2 ^ 61)≤j∧j<2 ^ 61):a4k [.int i,.int j,.int (-1)]=some (i,(i-j).toNat):=by
 rw[a4k,if_pos ⟨rfl,h⟩]
def a1t(f:AF)(b:GF)(body:SF):SF:=fun e=>D3 (f e) fun ds e1=>match a4k ds with
 | none=>none
 | some (lo,n)=>t5 b body (U4 lo (-1) n) e1
section
variable {K:W.Frag}{cl:Str→Addr}{E:XK}{k:Nat}
theorem a9Z{t:TA}{g:TG}{tb:TS}{f:AF}{b:GF}{body:SF}(hf:T5 K cl E t f)(hg:J8 K cl k g b)(hb:RfS K cl E tb body):RfS K cl E (a2V (b0C t) g tb) (a1t f b body):=by
 intro N σ H env F R h
 refine hf σ H _ env F R ((Cs.bnd h).mono fun x H1 ⟨F1,e1,ds,fr,R1,p1,h1⟩=>?_)
 split at h1
 ·exact h1.elim
 ·rename_i lo n hs
  unfold a4k at hs
  split at hs
  ·rename_i i j k
   split at hs
   ·rename_i c;cases hs
    obtain⟨rfl,c⟩:=c
    exact⟨_,_,Rps.ints (ns:=[_,_,_]) p1,c,b5g hb hg R1 (h1.from fr)⟩
   ·cases hs
  ·cases hs
end
end L2
namespace Law
open PySem L2 PyProof.Rows
def T7(i:Nat):Stmt:=PySem.Challenge.pw_cratefit_k73_what_lies_over.main.body.getD i (.Pass ⟨0,0,0,0⟩)
abbrev L9:Stmt:=T7 4
abbrev O3:Stmt:=T7 6
abbrev C5:Stmt:=T7 7
abbrev B1:Stmt:=T7 9
abbrev t9:Stmt:=T7 10
abbrev A8:Stmt:=T7 11
abbrev N4:Stmt:=T7 12
abbrev G0:Stmt:=T7 14
abbrev O4:Stmt:=T7 15
abbrev O5:Stmt:=T7 16
abbrev O6:Stmt:=T7 17
abbrev D8:Stmt:=T7 18
abbrev A2:Stmt:=T7 19
abbrev O7:Stmt:=T7 20
abbrev G3:Stmt:=T7 21
abbrev O8:Stmt:=T7 22
abbrev J2:Stmt:=T7 23
variable {P:Program}{w:World}{K:PySem.W.Frag}{mg:Str→Option Value}{base:Heap}{c:Str→Addr}
structure Txt(K:PySem.W.Frag)(mg:Str→Option Value)(c:Str→Addr):Prop where
 z_any:mg "any" = none
 z_bool:mg "bool" = none
 z_enumerate:mg "enumerate" = none
 z_int:mg "int" = none
 z_isinstance:mg "isinstance" = none
 z_len:mg "len" = none
 z_list:mg "list" = none
 z_max:mg "max" = none
 z_min:mg "min" = none
 z_range:mg "range" = none
 z_sorted:mg "sorted" = none
 z_zip:mg "zip" = none
 m_BadTurn:mg "BadTurn" = some (.ref (c "BadTurn"))
 x_BadTurn:PySem.W.excIn K (c "BadTurn") a4A "ValueError.__new__" = true
def a2N:SF:=(d5 (a0N (eV 0) (B4 [(a8 2),(a8 3),(a8 4)])) (d5 (D2 (R6 (bZ (eV 1))) (z0 (eT (aC (eV 2) (aC (eV 3) aN)))) D1) (d5 (D2 (R6 (bZ (eV 4))) (a4Z "BadTurn" (aC (eC (.str "a ware that may not be turned has no sides turned")) aN)) D1) (z0 (eT (aC (eV 3) (aC (eV 2) aN)))))))
def Q4:List D→Option R1:=fD 5 2 a2N
theorem S9:FnScope ["ware","lie","w","h","turns"] ["ware","lie"] (a7 L9):=⟨rfl,rfl,rfl,by decide +kernel,rfl,by decide +kernel,by decide +kernel⟩
seal PSs PS PE PA PT
theorem a5S{f:Addr}{fd:FuncData}(F:Fun K "sides_of" "sides_of" L9 f fd)(T:Txt K mg c)  : FnOk P w K mg base (t8 P w) 3 f fd ["ware","lie"] (k6 K c Q4) :=
 F.okD (k:=2) S9 fun cdv A outer s H E hr=>⟨_,(c9 (a0j (pv 0) (K8 (K:=K) (n:=3) rfl (k9 (g7 (i:=2) S9.nd rfl (Or.inl rfl)) (k9 (g7 (i:=3) S9.nd rfl (Or.inl rfl)) (k9 (g7 (i:=4) S9.nd rfl (Or.inl rfl)) K6))))) (c9 (K5 (a0h (V9 (pv 1))) (i3 (r6 (C3 (a6 (pv 2) (a6 (pv 3) c6))))) B0) (c9 (K5 (a0h (V9 (pv 4))) (i3 (a81 V5 T.x_BadTurn rfl T.m_BadTurn (a6 b2H c6))) B0) (i3 (r6 (C3 (a6 (pv 3) (a6 (pv 2) c6)))))))),(h9 (a1j a9 (L5 (l3 (d9 (k:=5) (by decide)) (l3 (d9 (k:=5) (by decide)) (l3 (d9 (k:=5) (by decide)) L4))) rfl)) (h9 (D5 (V7 (Z2 a9)) (A5 (P6 (b0 a9 (b0 a9 g9)))) L3) (h9 (D5 (V7 (Z2 a9)) (a9p (b0 d6 g9)) L3) (A5 (P6 (b0 a9 (b0 a9 g9)))))))⟩
def a3P:SF:=(d5 (a0N (eV 1) (B4 [(a8 2),(a8 3),(a8 4)])) (d5 (a0N (P9 Q4 (aC (eV 0) (aC (eV 4) aN))) (B4 [(a8 5),(a8 6)])) (z0 (eT (aC (eV 2) (aC (eV 3) (aC (eB u9 (eV 2) (eV 5)) (aC (eB u9 (eV 3) (eV 6)) aN))))))))
def D9:List D→Option R1:=fD 7 2 a3P
theorem M0:FnScope ["ware","place","x","y","lie","w","h"] ["ware","place"] (a7 O3):=⟨rfl,rfl,rfl,by decide +kernel,rfl,by decide +kernel,by decide +kernel⟩
theorem a7i{f:Addr}{fd:FuncData}(F:Fun K "spot_of" "spot_of" O3 f fd)(T:Txt K mg c)(G_sides_of:Own P w K mg base 3 "sides_of" ["ware","lie"] (k6 K c Q4)):FnOk P w K mg base (t8 P w) 5 f fd ["ware","place"] (k6 K c D9) :=
 F.okD (k:=4) M0 fun cdv A outer s H E hr=>⟨_,(c9 (a0j (pv 1) (K8 (K:=K) (n:=3) rfl (k9 (g7 (i:=2) M0.nd rfl (Or.inl rfl)) (k9 (g7 (i:=3) M0.nd rfl (Or.inl rfl)) (k9 (g7 (i:=4) M0.nd rfl (Or.inl rfl)) K6))))) (c9 (a0j (u6 G_sides_of hr (by decide) (XAcc.passes V5) (a6 (pv 0) (a6 (pv 4) c6))) (K8 (K:=K) (n:=2) rfl (k9 (g7 (i:=5) M0.nd rfl (Or.inl rfl)) (k9 (g7 (i:=6) M0.nd rfl (Or.inl rfl)) K6)))) (i3 (r6 (C3 (a6 (pv 2) (a6 (pv 3) (a6 (g5 A3 (pv 2) (pv 5)) (a6 (g5 A3 (pv 3) (pv 6)) c6))))))))),(h9 (a1j a9 (L5 (l3 (d9 (k:=7) (by decide)) (l3 (d9 (k:=7) (by decide)) (l3 (d9 (k:=7) (by decide)) L4))) rfl)) (h9 (a1j (a1E (b0 a9 (b0 a9 g9))) (L5 (l3 (d9 (k:=7) (by decide)) (l3 (d9 (k:=7) (by decide)) L4)) rfl)) (A5 (P6 (b0 a9 (b0 a9 (b0 (c7 A4 a9 a9) (b0 (c7 A4 a9 a9) g9))))))))⟩
def a2O:SF:=(S5 (a45 2 [] (aC (eV 0) (aC (eV 1) aN)) (B4 [(a8 0),(a8 1)]) n6 (P9 D9 (aC (eV 0) (aC (eV 1) aN)))))
def F6:List D→Option R1:=fD 2 2 a2O
theorem a5T:FnScope ["wares","places"] ["wares","places"] (a7 C5):=⟨rfl,rfl,rfl,by decide +kernel,rfl,by decide +kernel,by decide +kernel⟩
theorem a5U{f:Addr}{fd:FuncData}(F:Fun K "spots_of" "spots_of" C5 f fd)(T:Txt K mg c)(G_spot_of:Own P w K mg base 5 "spot_of" ["ware","place"] (k6 K c D9)):FnOk P w K mg base (t8 P w) 7 f fd ["wares","places"] (k6 K c F6) :=
 F.okD (k:=6) a5T fun cdv A outer s H E hr=>⟨_,(i3 (r6 (a88 (Nc:=["ware","place"]) (k:=2) (js:=[]) V5 rfl ⟨by decide +kernel,rfl,by decide +kernel,(by change ∀y∈Scope.names _,y.2=NameKind.free→(a7 C5).names.lookup y.1=some .cell∨(a7 C5).names.lookup y.1=some .free;decide +kernel),by decide +kernel,rfl,rfl,by decide +kernel⟩ (b3b rfl T.z_zip (a6 (pv 0) (a6 (pv 1) c6))) (fun _ _ _ _ _=>(K8 (K:=K) (n:=2) rfl (k9 (g7 (i:=0) (by show List.Nodup [("ware" : Str),("place" : Str)];decide +kernel) rfl (Or.inl rfl)) (k9 (g7 (i:=1) (by show List.Nodup [("ware" : Str),("place" : Str)];decide +kernel) rfl (Or.inl rfl)) K6)))) (fun _ _ _ _ _=>P0) (fun _ _ _ _ _ ac=>(u6 G_spot_of hr (by decide) (XAcc.passes ac) (a6 (pv 0) (a6 (pv 1) c6))))))),(a0q (a9C (by decide) (b0 a9 (b0 a9 g9)) (L5 (l3 (d9 (k:=2) (by decide)) (l3 (d9 (k:=2) (by decide)) L4)) rfl) E8 (a1E (b0 a9 (b0 a9 g9)))))⟩
def a0s:SF:=(z0 (eB y4 (eCB J1 (aC (eB n4 (eV 0) (eC (.int 2))) (aC (eB n4 (eV 1) (eC (.int 2))) aN))) (eCB V2 (aC (eB n4 (eV 0) (eC (.int 0))) (aC (eB n4 (eV 1) (eC (.int 0))) aN)))))
def n8:List D→Option R1:=fD 2 2 a0s
theorem a2P:FnScope ["one","other"] ["one","other"] (a7 B1):=⟨rfl,rfl,rfl,by decide +kernel,rfl,by decide +kernel,by decide +kernel⟩
theorem a2Q{f:Addr}{fd:FuncData}(F:Fun K "shared_width" "shared_width" B1 f fd)(T:Txt K mg c)  : FnOk P w K mg base (t8 P w) 3 f fd ["one","other"] (k6 K c n8) :=
 F.okD (k:=2) a2P fun cdv A outer s H E hr=>⟨_,(i3 (r6 (g5 M7 (i9 (a06 rfl) rfl T.z_min a46 (a6 (j5 (t7 (K:=K)) (pv 0) c8 (fun _ _=>rfl)) (a6 (j5 (t7 (K:=K)) (pv 1) c8 (fun _ _=>rfl)) c6))) (i9 (a3p rfl) rfl T.z_max a7V (a6 (j5 (t7 (K:=K)) (pv 0) c8 (fun _ _=>rfl)) (a6 (j5 (t7 (K:=K)) (pv 1) c8 (fun _ _=>rfl)) c6)))))),(A5 (c7 M9 (a1D a3a (b0 (c7 x6 a9 d6) (b0 (c7 x6 a9 d6) g9))) (a1D a6p (b0 (c7 x6 a9 d6) (b0 (c7 x6 a9 d6) g9)))))⟩
def a5i:SF:=(d5 (u4 2 (a3e 0 2 [0,1] (B4 [(a8 0),(a8 1)]) (bZ (eB (v7 false) (eB n4 (eV 1) (eC (.int 3))) (eB n4 (l6 i5 2 (eV 3)) (eC (.int 1))))) (eT (aC (eV 0) (aC (i6 n8 (aC (eV 1) (aC (l6 i5 2 (eV 3)) aN))) aN))))) (S5 (J9 2 2 [] (B4 [(a8 0),(a8 1)]) (bZ (eB gGt (eV 1) (eC (.int 0)))) (eT (aC (eV 0) (aC (eV 1) aN))))))
def u0:List D→Option R1:=fD 3 2 a5i
theorem a02:FnScope ["spots","k","touches"] ["spots","k"] (a7 t9):=⟨rfl,rfl,rfl,by decide +kernel,rfl,by decide +kernel,by decide +kernel⟩
theorem a33{f:Addr}{fd:FuncData}(F:Fun K "touches_of" "touches_of" t9 f fd)(T:Txt K mg c)(G_shared_width:Own P w K mg base 3 "shared_width" ["one","other"] (k6 K c n8)):FnOk P w K mg base (t8 P w) 5 f fd ["spots","k"] (k6 K c u0) :=
 F.okD (k:=4) a02 fun cdv A outer s H E hr=>⟨_,(c9 (U7 (i:=2) (Nc:=["j","spot","spots","k"]) (k:=2) (js:=[0,1]) rfl ⟨by decide +kernel,rfl,by decide +kernel,(by change ∀y∈Scope.names _,y.2=NameKind.free→(a7 t9).names.lookup y.1=some .cell∨(a7 t9).names.lookup y.1=some .free;decide +kernel),by decide +kernel,rfl,rfl,by decide +kernel⟩ a02.nd rfl (b04 rfl T.z_enumerate (a6 (pv 0) c6)) (fun _ _ _ _ _=>(K8 (K:=K) (n:=2) rfl (k9 (g7 (i:=0) (by show List.Nodup [("j" : Str),("spot" : Str),("spots" : Str),("k" : Str)];decide +kernel) rfl (Or.inl rfl)) (k9 (g7 (i:=1) (by show List.Nodup [("j" : Str),("spot" : Str),("spots" : Str),("k" : Str)];decide +kernel) rfl (Or.inl rfl)) K6)))) (fun _ _ _ _ _=>(a2p (p8 Y4 (j5 (t7 (K:=K)) (pv 1) c8 (fun _ _=>rfl)) (j5 (t7 (K:=K)) (j5 (j9 (K:=K)) (pv 2) (pv 3) (fun _ _=>rfl)) c8 (fun _ _=>rfl)) (t4 _)))) (fun _ _ _ _ _=>(C3 (a6 (pv 0) (a6 (u6 G_shared_width hr (by decide) y8 (a6 (pv 1) (a6 (j5 (j9 (K:=K)) (pv 2) (pv 3) (fun _ _=>rfl)) c6))) c6))))) (i3 (r6 (O0 (Nc:=["j","touch"]) (k:=2) (js:=[]) rfl ⟨by decide +kernel,rfl,by decide +kernel,(by change ∀y∈Scope.names _,y.2=NameKind.free→(a7 t9).names.lookup y.1=some .cell∨(a7 t9).names.lookup y.1=some .free;decide +kernel),by decide +kernel,rfl,rfl,by decide +kernel⟩ (C0 (pv 2)) (fun _ _ _ _ _=>(K8 (K:=K) (n:=2) rfl (k9 (g7 (i:=0) (by show List.Nodup [("j" : Str),("touch" : Str)];decide +kernel) rfl (Or.inl rfl)) (k9 (g7 (i:=1) (by show List.Nodup [("j" : Str),("touch" : Str)];decide +kernel) rfl (Or.inl rfl)) K6)))) (fun _ _ _ _ _=>(a2p (p8 a36 (pv 1) c8 (t4 _)))) (fun _ _ _ _ _=>(C3 (a6 (pv 0) (a6 (pv 1) c6)))))))),(h9 (V0 (a8D (by decide) (L5 (l3 (d9 (k:=2) (by decide)) (l3 (d9 (k:=2) (by decide)) L4)) rfl) (z8 (c7 Z3 (c7 x6 a9 d6) (c7 x6 (n5 m9 a9) d6))) (P6 (b0 a9 (b0 (x9 (b0 a9 (b0 (n5 m9 a9) g9))) g9))))) (a0q (X3 (by decide) (L5 (l3 (d9 (k:=2) (by decide)) (l3 (d9 (k:=2) (by decide)) L4)) rfl) (z8 (c7 a4b a9 d6)) (P6 (b0 a9 (b0 a9 g9))))))⟩
def a5V:SF:=(S5 (a2K [1] (aC (p6 k8 1) aN) (eT (aC (eB n4 (l6 i5 1 (eV 0)) (eC (.int 1))) (aC (eV 0) aN)))))
def D0:List D→Option R1:=fD 2 2 a5V
theorem a5j:FnScope ["wares","places"] ["wares","places"] (a7 A8):=⟨rfl,rfl,rfl,by decide +kernel,rfl,by decide +kernel,by decide +kernel⟩
theorem a5k{TB:List (Addr×Str)}{f:Addr}{fd:FuncData}(F:Fun K "set_order" "set_order" A8 f fd)(T:Txt K mg c)  {cc Pt:Addr} (hcode:fd.code=.ref cc) (hC:PySem.W.CodeHd base cc Pt) (hB:base.BuiltinsAt mg Pt) (hL:TB.lookup Pt=some "set_order.<locals>.<lambda>"):FnOk P w K mg base (t8 P w) 3 f fd ["wares","places"] (W5 TB (k6 K c D0)) :=
 F.okT (k:=2) a5j fun A outer s H E hT hr=>⟨_,(i3 (r6 (a9f (Nc:=["k","places"]) (js:=[1]) (kn := "k") (q := "set_order.<locals>.<lambda>") hr rfl rfl T.z_sorted rfl T.z_range (a6 (i9 (i8 (K:=K)) rfl T.z_len x4 (a6 (pv 1) c6)) c6) rfl hcode hC hB rfl (hT _ _ hL) ⟨by decide +kernel,rfl,by decide +kernel,(by change ∀y∈Scope.names _,y.2=NameKind.free→(a7 A8).names.lookup y.1=some .cell∨(a7 A8).names.lookup y.1=some .free;decide +kernel),by decide +kernel,rfl,rfl,by decide +kernel⟩ rfl rfl (fun _ _ _ _ _=>rfl) rfl rfl (fun _ _ _ _=>(C3 (a6 (j5 (t7 (K:=K)) (j5 (j9 (K:=K)) (pv 1) (pv 0) (fun _ _=>rfl)) c8 (fun _ _=>rfl)) (a6 (pv 0) c6))))))),(a0q (a9V (by decide) (b0 (B7 x8) g9) (P6 (b0 (c7 x6 (n5 m9 a9) d6) (b0 a9 g9)))))⟩
def b3Y:SF:=(d5 (a4e 3 F6 (aC (eV 0) (aC (eV 1) aN))) (d5 (a0W 4 (Z8 2)) (d5 (M3 (i6 D0 (aC (eV 0) (aC (eV 1) aN)))  (a8 5) (D2 (bZ (eCB (g1 a0J) (aC (zN (Q0 2 [4] (i6 u0 (aC (eV 3) (aC (eV 5) aN))) (B4 [(a8 0),(a8 1)]) n6 (a3k (eV 0) 2))) aN))) (a4j 4 (eV 5) (eC (.bl true))) D1)) (S5 (Q0 1 [2] (zN (a1s 4)) (a8 0) (bZ (eB (v7 true) (eV 0) (eV 1))) (eV 0))))))
def C6:List D→Option R1:=fD 6 3 b3Y
theorem a1I:FnScope ["wares","places","k","spots","reached","i"] ["wares","places","k"] (a7 N4):=⟨rfl,rfl,rfl,by decide +kernel,rfl,by decide +kernel,by decide +kernel⟩
theorem b2g{TB:List (Addr×Str)}{f:Addr}{fd:FuncData}(F:Fun K "over" "over" N4 f fd)(T:Txt K mg c)(G_spots_of:Own P w K mg base 7 "spots_of" ["wares","places"] (k6 K c F6))(G_set_order:Own P w K mg base 3 "set_order" ["wares","places"] (W5 TB (k6 K c D0)))(G_touches_of:Own P w K mg base 5 "touches_of" ["spots","k"] (k6 K c u0)):FnOk P w K mg base (t8 P w) 9 f fd ["wares","places","k"] (W5 TB (k6 K c C6)) :=
 F.okT (k:=8) a1I fun A outer s H E hT hr=>⟨_,(c9 (m7 (i:=3) a1I.nd rfl (Or.inl rfl) (u6 G_spots_of hr (by decide) (XAcc.passes V5) (a6 (pv 0) (a6 (pv 1) c6)))) (c9 (m7 (i:=4) a1I.nd rfl (Or.inr rfl) (b1c (a9l (pv 2) Y2 b1b) rfl rfl (by simp) (by decide))) (c9 (M6 PassesOwn.leaving rfl (C0 (a3h hT G_set_order hr (by decide) y8 (a6 (pv 0) (a6 (pv 1) c6)))) (g7 (i:=5) a1I.nd rfl (Or.inl rfl)) (i3 (K5 (V9 (i9 (a7X (K:=K)) rfl T.z_any b29 (a6 (O0 (Nc:=["j","touch","reached"]) (k:=2) (js:=[4]) rfl ⟨by decide +kernel,rfl,by decide +kernel,(by change ∀y∈Scope.names _,y.2=NameKind.free→(a7 N4).names.lookup y.1=some .cell∨(a7 N4).names.lookup y.1=some .free;decide +kernel),by decide +kernel,rfl,rfl,by decide +kernel⟩ (C0 (u6 G_touches_of hr (by decide) y8 (a6 (pv 3) (a6 (pv 5) c6)))) (fun _ _ _ _ _=>(K8 (K:=K) (n:=2) rfl (k9 (g7 (i:=0) (by show List.Nodup [("j" : Str),("touch" : Str),("reached" : Str)];decide +kernel) rfl (Or.inl rfl)) (k9 (g7 (i:=1) (by show List.Nodup [("j" : Str),("touch" : Str),("reached" : Str)];decide +kernel) rfl (Or.inl rfl)) K6)))) (fun _ _ _ _ _=>P0) (fun _ _ _ _ _=>(a0k (b3W (Nat.lt_of_le_of_lt (Nat.add_le_add_left (by decide:1≤41) _) (a7h hr))) (pv 0) (pv 2) (by with_unfolding_all rfl)))) c6))) (i3 (b1a (Nat.lt_of_le_of_lt (Nat.add_le_add_left (by decide:1≤41) _) (a7h hr)) (pv 4) (pv 5) Y2 rfl)) B0))) (i3 (r6 (O0 (Nc:=["i","k"]) (k:=1) (js:=[2]) rfl ⟨by decide +kernel,rfl,by decide +kernel,(by change ∀y∈Scope.names _,y.2=NameKind.free→(a7 N4).names.lookup y.1=some .cell∨(a7 N4).names.lookup y.1=some .free;decide +kernel),by decide +kernel,rfl,rfl,by decide +kernel⟩ (C0 (a9m rfl rfl T.z_sorted (pv 4))) (fun _ _ _ _ _=>(g7 (i:=0) (by show List.Nodup [("i" : Str),("k" : Str)];decide +kernel) rfl (Or.inl rfl))) (fun _ _ _ _ _=>(a2p (p8 a34 (pv 0) (pv 1) (t4 _)))) (fun _ _ _ _ _=>(pv 0)))))))),(h9 (b1g (b0 a9 (b0 a9 g9))) (h9 (b2d b2c) (h9 (a40 (x9 (b0 a9 (b0 a9 g9))) (d9 (k:=6) (by decide)) (D5 (Z2 (a1D b3B.cb (b0 (P5 (a27 (by decide) (x9 (b0 a9 (b0 a9 g9))) (L5 (l3 (d9 (k:=2) (by decide)) (l3 (d9 (k:=2) (by decide)) L4)) rfl) E8 (b3X a9))) g9))) (b2b a9 d6) L3)) (a0q (a27 (by decide) (P5 a9W) (d9 (k:=1) (by decide)) (z8 (c7 a4c a9 a9)) a9)))))⟩
def a1W:SF:=(d5 (D2 (bZ (eB gLt (eV 1) (p6 k8 0))) (z0 (l6 i5 0 (eV 1))) D1) (z0 (eC (.int 0))))
def p5:List D→Option R1:=fD 2 2 a1W
theorem a5l:FnScope ["_law_script","_law_k"] ["_law_script","_law_k"] (a7 G0):=⟨rfl,rfl,rfl,by decide +kernel,rfl,by decide +kernel,by decide +kernel⟩
theorem a5m{f:Addr}{fd:FuncData}(F:Fun K "_law_cell_at" "_law_cell_at" G0 f fd)(T:Txt K mg c)  : FnOk P w K mg base (t8 P w) 3 f fd ["_law_script","_law_k"] (k6 K c p5) :=
 F.okD (k:=2) a5l fun cdv A outer s H E hr=>⟨_,(c9 (K5 (p8 a35 (pv 1) (i9 (i8 (K:=K)) rfl T.z_len x4 (a6 (pv 0) c6)) (t4 _)) (i3 (r6 (j5 (j9 (K:=K)) (pv 0) (pv 1) (fun _ _=>rfl)))) B0) (i3 (r6 c8))),(h9 (D5 (z8 (c7 a4a a9 (B7 x8))) (A5 (n5 m9 a9)) L3) (A5 d6))⟩
def a3Q:SF:=(z0 (a4T (a0Q 0 "int") (a9n (a0Q 0 "bool"))))
def E1:List D→Option R1:=fD 1 1 a3Q
theorem a7j:FnScope ["_law_found"] ["_law_found"] (a7 O4):=⟨rfl,rfl,rfl,by decide +kernel,rfl,by decide +kernel,by decide +kernel⟩
theorem a7k{f:Addr}{fd:FuncData}(F:Fun K "_law_whole" "_law_whole" O4 f fd)(T:Txt K mg c)  : FnOk P w K mg base (t8 P w) 3 f fd ["_law_found"] (k6 K c E1) :=
 F.okD (k:=2) a7j fun cdv A outer s H E hr=>⟨_,(i3 (r6 (a7z (i9 (a08 (K:=K)) rfl T.z_isinstance T8 (a6 (pv 0) (a6 (a2U (v:=.ty "int") rfl T.z_int b26 rfl) c6))) (a7y (b2K (i9 (a08 (K:=K)) rfl T.z_isinstance T8 (a6 (pv 0) (a6 (a2U (v:=.ty "bool") rfl T.z_bool b03 rfl) c6)))))))),(A5 (a8h a28 (b3y a28)))⟩
def a3R:SF:=(z0 (eB m5 (eB u9 (eB J7 (eB J7 (eB m5 (eV 0) (eC (.int 1000000007))) (eB u9 (eV 1) (eC (.int 3)))) (eC (.int 48271))) (eB J7 (eB J7 (eB u9 (eV 1) (eC (.int 1))) (eB u9 (eV 1) (eC (.int 5)))) (eC (.int 69621)))) (eC (.int 2147483647))))
def r9:List D→Option R1:=fD 2 2 a3R
theorem a7l:FnScope ["_law_cell","_law_k"] ["_law_cell","_law_k"] (a7 O5):=⟨rfl,rfl,rfl,by decide +kernel,rfl,by decide +kernel,by decide +kernel⟩
theorem a7m{f:Addr}{fd:FuncData}(F:Fun K "_law_mixed" "_law_mixed" O5 f fd)(T:Txt K mg c)  : FnOk P w K mg base (t8 P w) 3 f fd ["_law_cell","_law_k"] (k6 K c r9) :=
 F.okD (k:=2) a7l fun cdv A outer s H E hr=>⟨_,(i3 (r6 (g5 w9 (g5 A3 (g5 Q7 (g5 Q7 (g5 w9 (pv 0) c8) (g5 A3 (pv 1) c8)) c8) (g5 Q7 (g5 Q7 (g5 A3 (pv 1) c8) (g5 A3 (pv 1) c8)) c8)) c8))),(A5 (c7 x5 (c7 A4 (c7 X0 (c7 X0 (c7 x5 a9 d6) (c7 A4 a9 d6)) d6) (c7 X0 (c7 X0 (c7 A4 a9 d6) (c7 A4 a9 d6)) d6)) d6))⟩
def a8G:SF:=(d5 (u4 1 (eL (aC (eC (.int 0)) aN))) (d5 (E6 G7 (aC (eB u9 (eC (.int 2)) (eB m5 (eV 0) (eC (.int 9)))) aN) (a8 2) (d5 (v8 3 (eB u9 (eC (.int 1)) (eB m5 (i6 r9 (aC (eV 0) (aC (eV 2) aN))) (eC (.int 9))))) (d5 (D2 (bZ (eB (v7 false) (eB m5 (eB A7 (eV 0) (eC (.int 9))) (eC (.int 3))) (eC (.int 2)))) (v8 3 (eB u9 (eC (.int 1)) (eB m5 (i6 r9 (aC (eV 0) (aC (eV 2) aN))) (eB a0I (eC (.int 10)) (eC (.int 5)))))) D1) (X1 1 (eB u9 (l6 i5 1 (eU W9 (eC (.int 1)))) (eV 3)))))) (a0K 1)))
def K3:List D→Option R1:=fD 4 1 a8G
theorem Q5:FnScope ["_law_cell","_law_edges_here","_law_k","_law_wide"] ["_law_cell"] (a7 O6):=⟨rfl,rfl,rfl,by decide +kernel,rfl,by decide +kernel,by decide +kernel⟩
theorem a7n{f:Addr}{fd:FuncData}(F:Fun K "_law_edges" "_law_edges" O6 f fd)(T:Txt K mg c)(G_l_mixed:Own P w K mg base 3 "_law_mixed" ["_law_cell","_law_k"] (k6 K c r9)):FnOk P w K mg base (t8 P w) 5 f fd ["_law_cell"] (k6 K c K3) :=
 F.okD (k:=4) Q5 fun cdv A outer s H E hr=>⟨_,(c9 (m7 (i:=1) Q5.nd rfl (Or.inl rfl) (a07 (a6 c8 c6))) (c9 (M6 PassesOwn.leaving rfl (J3 rfl T.z_range (a6 (g5 A3 c8 (g5 w9 (pv 0) c8)) c6)) (g7 (i:=2) Q5.nd rfl (Or.inl rfl)) (c9 (m7 (i:=3) Q5.nd rfl (Or.inl rfl) (g5 A3 c8 (g5 w9 (u6 G_l_mixed hr (by decide) y8 (a6 (pv 0) (a6 (pv 2) c6))) c8))) (c9 (K5 (p8 Y4 (g5 w9 (g5 E2 (pv 0) c8) c8) c8 (t4 _)) (i3 (m7 (i:=3) Q5.nd rfl (Or.inl rfl) (g5 A3 c8 (g5 w9 (u6 G_l_mixed hr (by decide) y8 (a6 (pv 0) (a6 (pv 2) c6))) (g5 a7G c8 c8))))) B0) (i3 (a0i (a09 (K:=K) PySem.F.plainAttrs_list PySem.F.slot_list_append PySem.F.type_list_append T1 (pv 1) (a6 (g5 A3 (j5 (j9 (K:=K)) (pv 1) (a6J a4q c8) (fun _ _=>rfl)) (pv 3)) c6))))))) (i3 (r6 (pv 1))))),(h9 (O1 (a4S (b0 d6 g9))) (h9 (a0O (b0 (c7 A4 d6 (c7 x5 a9 d6)) g9) (d9 (k:=4) (by decide)) (h9 (D4 (c7 A4 d6 (c7 x5 (x9 (b0 a9 (b0 a9 g9))) d6))) (h9 (D5 (z8 (c7 Z3 (c7 x5 (c7 P7 a9 d6) d6) d6)) (D4 (c7 A4 d6 (c7 x5 (x9 (b0 a9 (b0 a9 g9))) (c7 a8i d6 d6)))) L3) (a2H (c7 A4 (n5 m9 (a9o a4U d6)) a9))))) a6g))⟩
def a8H:SF:=(d5 (u4 3 (Q0 1 [] (zN (a1m 1 (oS (eC (.int 1))) oN)) (a8 0) n6 (eC (.int 0)))) (d5 (u4 4 (eL aN)) (d5 (a4f 0 (a8 5) (d5 (v8 6 (eB m5 (eV 5) (p6 k8 3))) (d5 (v8 5 (eB A7 (eV 5) (p6 k8 3))) (d5 (v8 7 (eV 6)) (d5 (F8 (G6 (bZ (eB gLt (eV 7) (p6 k8 3))) (G6 (bZ (eB (v7 false) (l6 i5 3 (eV 7)) (l6 i5 3 (eV 6)))) (bZ (eB gLt (eV 7) (eB u9 (eB u9 (eV 6) (eC (.int 1))) (eB m5 (eV 5) (eC (.int 6)))))))) (v8 7 (eB u9 (eV 7) (eC (.int 1)))) 1000000) (d5 (v8 8 (l6 i5 3 (eV 6))) (d5 (v8 9 (eB u9 (eB u9 (eV 8) (eC (.int 1))) (eB m5 (eB A7 (eV 5) (eC (.int 6))) (eC (.int 2))))) (d5 (D2 (G6 (bZ (eB (v7 false) (eB m5 (eB A7 (eV 5) (eC (.int 12))) (eC (.int 2))) (eC (.int 0)))) (G6 (bZ (eB gLt (eV 7) (p6 k8 3))) (bZ (eB gGt (l6 i5 3 (eV 7)) (eV 8))))) (v8 9 (l6 i5 3 (eV 7))) D1) (d5 (X1 4 (eT (aC (l6 i5 1 (eV 6)) (aC (eB J7 (eV 8) (eV 2)) (aC (l6 i5 1 (eV 7)) (aC (eB J7 (eV 9) (eV 2)) aN)))))) (E6 a1k (aC (eV 6) (aC (eV 7) aN)) (a8 10) (a66 3 (eV 10) (eV 9)))))))))))) (a0K 4))))
def K4:List D→Option R1:=fD 11 3 a8H
theorem u5:FnScope ["_law_cells","_law_edges_here","_law_unit","_law_tops","_law_spots","_law_cell","_law_start","_law_end","_law_low","_law_high","_law_k"] ["_law_cells","_law_edges_here","_law_unit"] (a7 D8):=⟨rfl,rfl,rfl,by decide +kernel,rfl,by decide +kernel,by decide +kernel⟩
theorem a7o{f:Addr}{fd:FuncData}(F:Fun K "_law_stack" "_law_stack" D8 f fd)(T:Txt K mg c)  : FnOk P w K mg base (t8 P w) 3 f fd ["_law_cells","_law_edges_here","_law_unit"] (k6 K c K4) :=
 F.okD (k:=2) u5 fun cdv A outer s H E hr=>⟨_,(c9 (U7 (i:=3) (Nc:=["_law_k"]) (k:=1) (js:=[]) rfl ⟨by decide +kernel,rfl,by decide +kernel,(by change ∀y∈Scope.names _,y.2=NameKind.free→(a7 D8).names.lookup y.1=some .cell∨(a7 D8).names.lookup y.1=some .free;decide +kernel),by decide +kernel,rfl,rfl,by decide +kernel⟩ u5.nd rfl (C0 (a4s (a4D (K:=K)) (pv 1) (a2X c8) b0V)) (fun _ _ _ _ _=>(g7 (i:=0) (by show List.Nodup [("_law_k" : Str)];decide +kernel) rfl (Or.inl rfl))) (fun _ _ _ _ _=>P0) (fun _ _ _ _ _=>c8)) (c9 (m7 (i:=4) u5.nd rfl (Or.inl rfl) (a07 c6)) (c9 (M6 PassesOwn.leaving rfl (C0 (pv 0)) (g7 (i:=5) u5.nd rfl (Or.inl rfl)) (c9 (m7 (i:=6) u5.nd rfl (Or.inl rfl) (g5 w9 (pv 5) (i9 (i8 (K:=K)) rfl T.z_len x4 (a6 (pv 3) c6)))) (c9 (m7 (i:=5) u5.nd rfl (Or.inl rfl) (g5 E2 (pv 5) (i9 (i8 (K:=K)) rfl T.z_len x4 (a6 (pv 3) c6)))) (c9 (m7 (i:=7) u5.nd rfl (Or.inl rfl) (pv 6)) (c9 (a8R PassesOwn.leaving (PW.pt (W0 (p8 a35 (pv 7) (i9 (i8 (K:=K)) rfl T.z_len x4 (a6 (pv 3) c6)) (t4 _)) (W0 (p8 Y4 (j5 (j9 (K:=K)) (pv 3) (pv 7) (fun _ _=>rfl)) (j5 (j9 (K:=K)) (pv 3) (pv 6) (fun _ _=>rfl)) (t4 _)) (a1w (p8 a35 (pv 7) (g5 A3 (g5 A3 (pv 6) c8) (g5 w9 (pv 5) c8)) (t4 _)))))) (i3 (m7 (i:=7) u5.nd rfl (Or.inl rfl) (g5 A3 (pv 7) c8)))) (c9 (m7 (i:=8) u5.nd rfl (Or.inl rfl) (j5 (j9 (K:=K)) (pv 3) (pv 6) (fun _ _=>rfl))) (c9 (m7 (i:=9) u5.nd rfl (Or.inl rfl) (g5 A3 (g5 A3 (pv 8) c8) (g5 w9 (g5 E2 (pv 5) c8) c8))) (c9 (K5 (PW.pt (W0 (p8 Y4 (g5 w9 (g5 E2 (pv 5) c8) c8) c8 (t4 _)) (W0 (p8 a35 (pv 7) (i9 (i8 (K:=K)) rfl T.z_len x4 (a6 (pv 3) c6)) (t4 _)) (a1w (p8 a36 (j5 (j9 (K:=K)) (pv 3) (pv 7) (fun _ _=>rfl)) (pv 8) (t4 _)))))) (i3 (m7 (i:=9) u5.nd rfl (Or.inl rfl) (j5 (j9 (K:=K)) (pv 3) (pv 7) (fun _ _=>rfl)))) B0) (c9 (a0i (a09 (K:=K) PySem.F.plainAttrs_list PySem.F.slot_list_append PySem.F.type_list_append T1 (pv 4) (a6 (C3 (a6 (j5 (j9 (K:=K)) (pv 1) (pv 6) (fun _ _=>rfl)) (a6 (g5 Q7 (pv 8) (pv 2)) (a6 (j5 (j9 (K:=K)) (pv 1) (pv 7) (fun _ _=>rfl)) (a6 (g5 Q7 (pv 9) (pv 2)) c6))))) c6))) (i3 (M6 PassesOwn.leaving rfl (a7D rfl T.z_range (a6 (pv 6) (a6 (pv 7) c6))) (g7 (i:=10) u5.nd rfl (Or.inl rfl)) (i3 (a0j (pv 9) (b2R (pv 3) (pv 10) a8X)))))))))))))) (i3 (r6 (pv 4)))))),(h9 (V0 (a27 (by decide) (P5 (a8u (a7g d6) b4q)) (d9 (k:=1) (by decide)) E8 d6)) (h9 (O1 (a4S g9)) (h9 (b1i (d9 (k:=11) (by decide)) (h9 (D4 (c7 x5 a9 (B7 x8))) (h9 (D4 (c7 P7 a9 (B7 x8))) (h9 (D4 a9) (h9 (a9s (R7 (z8 (c7 a4a a9 (B7 x8))) (R7 (z8 (c7 Z3 (n5 m9 a9) (n5 m9 a9))) (z8 (c7 a4a a9 (c7 A4 (c7 A4 a9 d6) (c7 x5 a9 d6)))))) (D4 (c7 A4 a9 d6))) (h9 (D4 (n5 m9 a9)) (h9 (D4 (c7 A4 (c7 A4 a9 d6) (c7 x5 (c7 P7 a9 d6) d6))) (h9 (D5 (R7 (z8 (c7 Z3 (c7 x5 (c7 P7 a9 d6) d6) d6)) (R7 (z8 (c7 a4a a9 (B7 x8))) (z8 (c7 a4b (n5 m9 a9) a9)))) (D4 (n5 m9 a9)) L3) (h9 (a2H (P6 (b0 (n5 m9 a9) (b0 (c7 X0 a9 a9) (b0 (n5 m9 a9) (b0 (c7 X0 a9 a9) g9)))))) (a9r (b0 a9 (b0 a9 g9)) (d9 (k:=11) (by decide)) (b3C a9 a9))))))))))) a6g)))⟩
def a90:SF:=(d5 (u4 2 (eL aN)) (d5 (v8 3 (eB J7 (eB m5 (eB A7 (eV 1) (eC (.int 3))) (eC (.int 5))) (eB m5 (eB A7 (eV 1) (eC (.int 15))) (eB a0I (eC (.int 10)) (eC (.int 6)))))) (d5 (E6 G7 (aC (p6 k8 0) aN) (a8 4) (d5 (a0N (l6 i5 0 (eV 4)) (B4 [(a8 5),(a8 6),(a8 7),(a8 8)])) (d5 (N0 9 r9 (aC (eV 1) (aC (eV 4) aN))) (d5 (v8 10 (eT (aC (eB y4 (eV 7) (eV 5)) (aC (eB y4 (eV 8) (eV 6)) (aC (eB (v7 false) (eB m5 (eB A7 (eV 9) (eC (.int 6))) (eC (.int 2))) (eC (.int 0))) aN))))) (d5 (D2 (bZ (eB (v7 false) (eB m5 (eV 9) (eC (.int 3))) (eC (.int 0)))) (v8 10 (eT (aC (eB y4 (eV 8) (eV 6)) (aC (eB y4 (eV 7) (eV 5)) (aC (eC (.bl true)) aN))))) D1) (X1 2 (eT (aC (eB A7 (eV 9) (eC (.int 2))) (aC (eV 4) (aC (eV 10) (aC (eT (aC (eB y4 (eV 5) (eV 3)) (aC (eV 6) (aC (eB (v7 false) (eB m5 (eV 9) (eC (.int 3))) (eC (.int 0))) aN)))) (aC (eT (aC (eB y4 (eV 5) (eV 3)) (aC (eV 6) (aC (eB y4 (eV 7) (eV 3)) (aC (eV 8) aN))))) aN)))))))))))) (d5 (u4 2 (nCV a0r 2)) (z0 (eT (aC (zN (J9 2 1 [] (a8 0) n6 (eB n4 (eV 0) (eC (.int 2))))) (aC (zN (J9 2 1 [] (a8 0) n6 (eB n4 (eV 0) (eC (.int 3))))) (aC (zN (J9 2 1 [] (a8 0) n6 (eB n4 (eV 0) (eC (.int 4))))) aN)))))))))
def N8:List D→Option R1:=fD 11 2 a90
theorem w4:FnScope ["_law_spots","_law_cell","_law_rows","_law_off","_law_k","_law_x","_law_y","_law_x2","_law_y2","_law_mix","_law_ware"] ["_law_spots","_law_cell"] (a7 A2):=⟨rfl,rfl,rfl,by decide +kernel,rfl,by decide +kernel,by decide +kernel⟩
theorem a8I{f:Addr}{fd:FuncData}(F:Fun K "_law_laid" "_law_laid" A2 f fd)(T:Txt K mg c)(G_l_mixed:Own P w K mg base 3 "_law_mixed" ["_law_cell","_law_k"] (k6 K c r9)):FnOk P w K mg base (t8 P w) 5 f fd ["_law_spots","_law_cell"] (k6 K c N8) :=
 F.okD (k:=4) w4 fun cdv A outer s H E hr=>⟨_,(c9 (m7 (i:=2) w4.nd rfl (Or.inl rfl) (a07 c6)) (c9 (m7 (i:=3) w4.nd rfl (Or.inl rfl) (g5 Q7 (g5 w9 (g5 E2 (pv 1) c8) c8) (g5 w9 (g5 E2 (pv 1) c8) (g5 a7G c8 c8)))) (c9 (M6 PassesOwn.leaving rfl (J3 rfl T.z_range (a6 (i9 (i8 (K:=K)) rfl T.z_len x4 (a6 (pv 0) c6)) c6)) (g7 (i:=4) w4.nd rfl (Or.inl rfl)) (c9 (a0j (j5 (j9 (K:=K)) (pv 0) (pv 4) (fun _ _=>rfl)) (K8 (K:=K) (n:=4) rfl (k9 (g7 (i:=5) w4.nd rfl (Or.inl rfl)) (k9 (g7 (i:=6) w4.nd rfl (Or.inl rfl)) (k9 (g7 (i:=7) w4.nd rfl (Or.inl rfl)) (k9 (g7 (i:=8) w4.nd rfl (Or.inl rfl)) K6)))))) (c9 (m7 (i:=9) w4.nd rfl (Or.inl rfl) (u6 G_l_mixed hr (by decide) y8 (a6 (pv 1) (a6 (pv 4) c6)))) (c9 (m7 (i:=10) w4.nd rfl (Or.inl rfl) (C3 (a6 (g5 M7 (pv 7) (pv 5)) (a6 (g5 M7 (pv 8) (pv 6)) (a6 (a0k Y4 (g5 w9 (g5 E2 (pv 9) c8) c8) c8 (t4 _)) c6))))) (c9 (K5 (p8 Y4 (g5 w9 (pv 9) c8) c8 (t4 _)) (i3 (m7 (i:=10) w4.nd rfl (Or.inl rfl) (C3 (a6 (g5 M7 (pv 8) (pv 6)) (a6 (g5 M7 (pv 7) (pv 5)) (a6 Y2 c6)))))) B0) (i3 (a0i (a09 (K:=K) PySem.F.plainAttrs_list PySem.F.slot_list_append PySem.F.type_list_append T1 (pv 2) (a6 (C3 (a6 (g5 E2 (pv 9) c8) (a6 (pv 4) (a6 (pv 10) (a6 (C3 (a6 (g5 M7 (pv 5) (pv 3)) (a6 (pv 6) (a6 (a0k Y4 (g5 w9 (pv 9) c8) c8 (t4 _)) c6)))) (a6 (C3 (a6 (g5 M7 (pv 5) (pv 3)) (a6 (pv 6) (a6 (g5 M7 (pv 7) (pv 3)) (a6 (pv 8) c6))))) c6)))))) c6))))))))) (c9 (m7 (i:=2) w4.nd rfl (Or.inl rfl) (i9 (a5E (K:=K)) rfl T.z_sorted a1a (a6 (pv 2) c6))) (i3 (r6 (C3 (a6 (O0 (Nc:=["_law_row"]) (k:=1) (js:=[]) rfl ⟨by decide +kernel,rfl,by decide +kernel,(by change ∀y∈Scope.names _,y.2=NameKind.free→(a7 A2).names.lookup y.1=some .cell∨(a7 A2).names.lookup y.1=some .free;decide +kernel),by decide +kernel,rfl,rfl,by decide +kernel⟩ (C0 (pv 2)) (fun _ _ _ _ _=>(g7 (i:=0) (by show List.Nodup [("_law_row" : Str)];decide +kernel) rfl (Or.inl rfl))) (fun _ _ _ _ _=>P0) (fun _ _ _ _ _=>(j5 (t7 (K:=K)) (pv 0) c8 (fun _ _=>rfl)))) (a6 (O0 (Nc:=["_law_row"]) (k:=1) (js:=[]) rfl ⟨by decide +kernel,rfl,by decide +kernel,(by change ∀y∈Scope.names _,y.2=NameKind.free→(a7 A2).names.lookup y.1=some .cell∨(a7 A2).names.lookup y.1=some .free;decide +kernel),by decide +kernel,rfl,rfl,by decide +kernel⟩ (C0 (pv 2)) (fun _ _ _ _ _=>(g7 (i:=0) (by show List.Nodup [("_law_row" : Str)];decide +kernel) rfl (Or.inl rfl))) (fun _ _ _ _ _=>P0) (fun _ _ _ _ _=>(j5 (t7 (K:=K)) (pv 0) c8 (fun _ _=>rfl)))) (a6 (O0 (Nc:=["_law_row"]) (k:=1) (js:=[]) rfl ⟨by decide +kernel,rfl,by decide +kernel,(by change ∀y∈Scope.names _,y.2=NameKind.free→(a7 A2).names.lookup y.1=some .cell∨(a7 A2).names.lookup y.1=some .free;decide +kernel),by decide +kernel,rfl,rfl,by decide +kernel⟩ (C0 (pv 2)) (fun _ _ _ _ _=>(g7 (i:=0) (by show List.Nodup [("_law_row" : Str)];decide +kernel) rfl (Or.inl rfl))) (fun _ _ _ _ _=>P0) (fun _ _ _ _ _=>(j5 (t7 (K:=K)) (pv 0) c8 (fun _ _=>rfl)))) c6)))))))))),(h9 (O1 (a4S g9)) (h9 (D4 (c7 X0 (c7 x5 (c7 P7 a9 d6) d6) (c7 x5 (c7 P7 a9 d6) (c7 a8i d6 d6)))) (h9 (a0O (b0 (B7 x8) g9) (d9 (k:=11) (by decide)) (h9 (a1j (n5 m9 a9) (L5 (l3 (d9 (k:=11) (by decide)) (l3 (d9 (k:=11) (by decide)) (l3 (d9 (k:=11) (by decide)) (l3 (d9 (k:=11) (by decide)) L4)))) rfl)) (h9 (a0L (b0 a9 (b0 a9 g9))) (h9 (D4 (P6 (b0 (c7 M9 a9 a9) (b0 (c7 M9 a9 a9) (b0 (c7 Z3 (c7 x5 (c7 P7 a9 d6) d6) d6) g9))))) (h9 (D5 (z8 (c7 Z3 (c7 x5 a9 d6) d6)) (D4 (P6 (b0 (c7 M9 a9 a9) (b0 (c7 M9 a9 a9) (b0 d6 g9))))) L3) (a2H (P6 (b0 (c7 P7 a9 d6) (b0 a9 (b0 a9 (b0 (P6 (b0 (c7 M9 a9 a9) (b0 a9 (b0 (c7 Z3 (c7 x5 a9 d6) d6) g9)))) (b0 (P6 (b0 (c7 M9 a9 a9) (b0 a9 (b0 (c7 M9 a9 a9) (b0 a9 g9))))) g9)))))))))))) (h9 (O1 (a2D a9T)) (A5 (P6 (b0 (P5 (X3 (by decide) (d9 (k:=1) (by decide)) E8 (c7 x6 a9 d6))) (b0 (P5 (X3 (by decide) (d9 (k:=1) (by decide)) E8 (c7 x6 a9 d6))) (b0 (P5 (X3 (by decide) (d9 (k:=1) (by decide)) E8 (c7 x6 a9 d6))) g9)))))))))⟩
def a3S:SF:=(z0 (eB y4 (eCB J1 (aC (eB n4 (eV 0) (eC (.int 2))) (aC (eB n4 (eV 1) (eC (.int 2))) aN))) (eCB V2 (aC (eB n4 (eV 0) (eC (.int 0))) (aC (eB n4 (eV 1) (eC (.int 0))) aN)))))
def u7:List D→Option R1:=fD 2 2 a3S
theorem a7p:FnScope ["_law_one","_law_other"] ["_law_one","_law_other"] (a7 O7):=⟨rfl,rfl,rfl,by decide +kernel,rfl,by decide +kernel,by decide +kernel⟩
theorem a7q{f:Addr}{fd:FuncData}(F:Fun K "_law_touch" "_law_touch" O7 f fd)(T:Txt K mg c)  : FnOk P w K mg base (t8 P w) 3 f fd ["_law_one","_law_other"] (k6 K c u7) :=
 F.okD (k:=2) a7p fun cdv A outer s H E hr=>⟨_,(i3 (r6 (g5 M7 (i9 (a06 rfl) rfl T.z_min a46 (a6 (j5 (t7 (K:=K)) (pv 0) c8 (fun _ _=>rfl)) (a6 (j5 (t7 (K:=K)) (pv 1) c8 (fun _ _=>rfl)) c6))) (i9 (a3p rfl) rfl T.z_max a7V (a6 (j5 (t7 (K:=K)) (pv 0) c8 (fun _ _=>rfl)) (a6 (j5 (t7 (K:=K)) (pv 1) c8 (fun _ _=>rfl)) c6)))))),(A5 (c7 M9 (a1D a3a (b0 (c7 x6 a9 d6) (b0 (c7 x6 a9 d6) g9))) (a1D a6p (b0 (c7 x6 a9 d6) (b0 (c7 x6 a9 d6) g9)))))⟩
def b2h:SF:=(d5 (u4 2 (eL (aC (eV 1) aN))) (d5 (M3 (zN (nCB V8 (zN (K0 G7 1 [0] (aC (p6 k8 0) aN) (a8 0) n6 (eT (aC (eB n4 (l6 i5 1 (eV 0)) (eC (.int 1))) (aC (eV 0) aN)))))))  (a8 3) (d5 (v8 4 (eB n4 (eV 3) (eC (.int 1)))) (M3 (zN (nCV N6 2))  (a8 5) (D2 (G6 (bZ (eBW (X5 true) (eV 4) 2)) (G6 (bZ (eB (v7 false) (eB n4 (l6 i5 0 (eV 5)) (eC (.int 3))) (eB n4 (l6 i5 0 (eV 4)) (eC (.int 1))))) (bZ (eB gGt (i6 u7 (aC (l6 i5 0 (eV 5)) (aC (l6 i5 0 (eV 4)) aN))) (eC (.int 0)))))) (X1 2 (eV 4)) D1)))) (S5 (K0 G7 1 [2,1] (aC (p6 k8 0) aN) (a8 0) (G6 (bZ (eBW (X5 false) (eV 0) 1)) (bZ (eB (v7 true) (eV 0) (eV 2)))) (eV 0)))))
def B2:List D→Option R1:=fD 6 2 b2h
theorem Y0:FnScope ["_law_spots","_law_k","_law_held","_law_pair","_law_i","_law_j"] ["_law_spots","_law_k"] (a7 G3):=⟨rfl,rfl,rfl,by decide +kernel,rfl,by decide +kernel,by decide +kernel⟩
theorem a91{f:Addr}{fd:FuncData}(F:Fun K "_law_due" "_law_due" G3 f fd)(T:Txt K mg c)(G_l_touch:Own P w K mg base 3 "_law_touch" ["_law_one","_law_other"] (k6 K c u7)):FnOk P w K mg base (t8 P w) 5 f fd ["_law_spots","_law_k"] (k6 K c B2) :=
 F.okD (k:=4) Y0 fun cdv A outer s H E hr=>⟨_,(c9 (m7 (i:=2) Y0.nd rfl (Or.inr rfl) (a07 (a6 (pv 1) c6))) (c9 (M6 PassesOwn.leaving rfl (C0 (i9 (a5C (K:=K)) rfl T.z_sorted a1a (a6 (O0 (Nc:=["_law_i","_law_spots"]) (k:=1) (js:=[0]) rfl ⟨by decide +kernel,rfl,by decide +kernel,(by change ∀y∈Scope.names _,y.2=NameKind.free→(a7 G3).names.lookup y.1=some .cell∨(a7 G3).names.lookup y.1=some .free;decide +kernel),by decide +kernel,rfl,rfl,by decide +kernel⟩ (J3 rfl T.z_range (a6 (i9 (i8 (K:=K)) rfl T.z_len x4 (a6 (pv 0) c6)) c6)) (fun _ _ _ _ _=>(g7 (i:=0) (by show List.Nodup [("_law_i" : Str),("_law_spots" : Str)];decide +kernel) rfl (Or.inl rfl))) (fun _ _ _ _ _=>P0) (fun _ _ _ _ _=>(C3 (a6 (j5 (t7 (K:=K)) (j5 (j9 (K:=K)) (pv 1) (pv 0) (fun _ _=>rfl)) c8 (fun _ _=>rfl)) (a6 (pv 0) c6))))) c6))) (g7 (i:=3) Y0.nd rfl (Or.inl rfl)) (c9 (m7 (i:=4) Y0.nd rfl (Or.inl rfl) (j5 (t7 (K:=K)) (pv 3) c8 (fun _ _=>rfl))) (i3 (M6 PassesOwn.leaving rfl (C0 (Y6 (T9 (K:=K)) rfl T.z_list a1x (a6 (pv 2) c6))) (g7 (i:=5) Y0.nd rfl (Or.inl rfl)) (i3 (K5 (PW.pt (W0 (p8 (a7W (K:=K)) (pv 4) (pv 2) (by with_unfolding_all rfl)) (W0 (p8 Y4 (j5 (t7 (K:=K)) (j5 (j9 (K:=K)) (pv 0) (pv 5) (fun _ _=>rfl)) c8 (fun _ _=>rfl)) (j5 (t7 (K:=K)) (j5 (j9 (K:=K)) (pv 0) (pv 4) (fun _ _=>rfl)) c8 (fun _ _=>rfl)) (t4 _)) (a1w (p8 a36 (u6 G_l_touch hr (by decide) y8 (a6 (j5 (j9 (K:=K)) (pv 0) (pv 5) (fun _ _=>rfl)) (a6 (j5 (j9 (K:=K)) (pv 0) (pv 4) (fun _ _=>rfl)) c6))) c8 (t4 _)))))) (i3 (a0i (a09 (K:=K) PySem.F.plainAttrs_list PySem.F.slot_list_append PySem.F.type_list_append T1 (pv 2) (a6 (pv 4) c6)))) B0)))))) (i3 (r6 (O0 (Nc:=["_law_i","_law_held","_law_k"]) (k:=1) (js:=[2,1]) rfl ⟨by decide +kernel,rfl,by decide +kernel,(by change ∀y∈Scope.names _,y.2=NameKind.free→(a7 G3).names.lookup y.1=some .cell∨(a7 G3).names.lookup y.1=some .free;decide +kernel),by decide +kernel,rfl,rfl,by decide +kernel⟩ (J3 rfl T.z_range (a6 (i9 (i8 (K:=K)) rfl T.z_len x4 (a6 (pv 0) c6)) c6)) (fun _ _ _ _ _=>(g7 (i:=0) (by show List.Nodup [("_law_i" : Str),("_law_held" : Str),("_law_k" : Str)];decide +kernel) rfl (Or.inl rfl))) (fun _ _ _ _ _=>(a2p (PW.pt (W0 (p8 (b27 (K:=K)) (pv 0) (pv 1) (by with_unfolding_all rfl)) (a1w (p8 a34 (pv 0) (pv 2) (t4 _))))))) (fun _ _ _ _ _=>(pv 0))))))),(h9 (O1 (a4S (b0 a9 g9))) (h9 (a40 (P5 (b3A a8C (P5 (a1l (by decide) (b0 (B7 x8) g9) (d9 (k:=1) (by decide)) E8 (P6 (b0 (c7 x6 (n5 m9 a9) d6) (b0 a9 g9))))))) (d9 (k:=6) (by decide)) (h9 (D4 (c7 x6 a9 d6)) (a40 (P5 (a2D a25)) (d9 (k:=6) (by decide)) (D5 (R7 (z8 (a8f b0I a9)) (R7 (z8 (c7 Z3 (c7 x6 (n5 m9 a9) d6) (c7 x6 (n5 m9 a9) d6))) (z8 (c7 a4b (x9 (b0 (n5 m9 a9) (b0 (n5 m9 a9) g9))) d6)))) (a2H a9) L3)))) (a0q (a1l (by decide) (b0 (B7 x8) g9) (d9 (k:=1) (by decide)) (R7 (z8 (a8f b0I a9)) (z8 (c7 a4c a9 a9))) a9))))⟩
def a8J:SF:=(d5 (D2 (bOr (R6 (bZ (a0Q 0 "list"))) (bZ (eB (v7 true) (p6 k8 0) (p6 k8 1)))) (z0 (eC (.bl false))) D1) (d5 (E6 G7 (aC (p6 k8 1) aN) (a8 2) (D2 (bOr (R6 (bZ (i6 E1 (aC (l6 i5 0 (eV 2)) aN)))) (bZ (eB (v7 true) (l6 i5 0 (eV 2)) (l6 i5 1 (eV 2))))) (z0 (eC (.bl false))) D1)) (z0 (eC (.bl true)))))
def w6:List D→Option R1:=fD 3 2 a8J
theorem a2R:FnScope ["_law_found","_law_due_here","_law_k"] ["_law_found","_law_due_here"] (a7 O8):=⟨rfl,rfl,rfl,by decide +kernel,rfl,by decide +kernel,by decide +kernel⟩
theorem a7r{f:Addr}{fd:FuncData}(F:Fun K "_law_alike" "_law_alike" O8 f fd)(T:Txt K mg c)(G_l_whole:Own P w K mg base 3 "_law_whole" ["_law_found"] (k6 K c E1)):FnOk P w K mg base (t8 P w) 5 f fd ["_law_found","_law_due_here"] (k6 K c w6) :=
 F.okD (k:=4) a2R fun cdv A outer s H E hr=>⟨_,(c9 (K5 (PW.pt (b0c (a0h (V9 (i9 (a08 (K:=K)) rfl T.z_isinstance T8 (a6 (pv 0) (a6 (a2U (v:=.ty "list") rfl T.z_list a1x rfl) c6))))) (a7x (p8 a34 (i9 (i8 (K:=K)) rfl T.z_len x4 (a6 (pv 0) c6)) (i9 (i8 (K:=K)) rfl T.z_len x4 (a6 (pv 1) c6)) (t4 _))))) (i3 (r6 Y2)) B0) (c9 (M6 PassesOwn.leaving rfl (J3 rfl T.z_range (a6 (i9 (i8 (K:=K)) rfl T.z_len x4 (a6 (pv 1) c6)) c6)) (g7 (i:=2) a2R.nd rfl (Or.inl rfl)) (i3 (K5 (PW.pt (b0c (a0h (V9 (u6 G_l_whole hr (by decide) y8 (a6 (j5 (j9 (K:=K)) (pv 0) (pv 2) (fun _ _=>rfl)) c6)))) (a7x (p8 a34 (j5 (j9 (K:=K)) (pv 0) (pv 2) (fun _ _=>rfl)) (j5 (j9 (K:=K)) (pv 1) (pv 2) (fun _ _=>rfl)) (t4 _))))) (i3 (r6 Y2)) B0))) (i3 (r6 Y2)))),(h9 (D5 (a8g (V7 (Z2 a28)) (z8 (c7 a4c (B7 x8) (B7 x8)))) (A5 d6) L3) (h9 (a0O (b0 (B7 x8) g9) (d9 (k:=3) (by decide)) (D5 (a8g (V7 (Z2 (x9 (b0 (n5 m9 a9) g9)))) (z8 (c7 a4c (n5 m9 a9) (n5 m9 a9)))) (A5 d6) L3)) (A5 d6)))⟩
def b4t:SF:=(d5 (N0 1 p5 (aC (eV 0) (aC (eC (.int 0)) aN))) (d5 (N0 2 K3 (aC (i6 p5 (aC (eV 0) (aC (eC (.int 1)) aN))) aN)) (d5 (N0 3 K4 (aC (zN (a1m 0 (oS (eC (.int 2))) (oS (eC (.int 32))))) (aC (eV 2) (aC (eB i5 (zN (eL (aC (eC (.int 1)) (aC (eC (.int 5)) (aC (eC (.int 7000)) aN))))) (eB m5 (eV 1) (eC (.int 3)))) aN)))) (d5 (D2 (bZ (eB gGt (p6 k8 3) (eC (.int 1)))) (X8 3 (eB m5 (eB A7 (eV 1) (eC (.int 7))) (p6 k8 3))) D1) (d5 (a0N (i6 N8 (aC (eV 3) (aC (eV 1) aN))) (B4 [(a8 4),(a8 5),(a8 6)])) (d5 (u4 7 (nCV N6 4)) (d5 (u4 8 (nCV N6 5)) (d5 (u4 9 (K0 G7 1 [0,4] (aC (eCB J1 (aC (eC (.int 6)) (aC (p6 k8 4) aN))) aN) (a8 0) n6 (eB m5 (i6 p5 (aC (eV 1) (aC (eB u9 (eC (.int 33)) (eV 0)) aN))) (p6 k8 2)))) (d5 (u4 10 (J9 9 1 [6] (a8 0) n6 (i6 B2 (aC (eV 1) (aC (eV 0) aN))))) (d5 (E6 G7 (aC (p6 k8 9) aN) (a8 11) (D2 (R6 (bZ (i6 w6 (aC (P9 C6 (aC (eV 7) (aC (eV 8) (aC (l6 i5 9 (eV 11)) aN)))) (aC (l6 i5 10 (eV 11)) aN))))) (z0 (eC (.bl false))) D1)) (d5 (a1t (aC (eB y4 (p6 k8 9) (eC (.int 1))) (aC (eU W9 (eC (.int 1))) (aC (eU W9 (eC (.int 1))) aN))) (a8 11) (D2 (R6 (bZ (i6 w6 (aC (P9 C6 (aC (eV 7) (aC (eV 8) (aC (l6 i5 9 (eV 11)) aN)))) (aC (l6 i5 10 (eV 11)) aN))))) (z0 (eC (.bl false))) D1)) (z0 (a4T (a15 (Q2 false) 7 4) (a15 (Q2 false) 8 5))))))))))))))
def b0K:List D→Option R1:=fD 12 1 b4t
theorem D6:FnScope ["_law_script","_law_cell","_law_edges_here","_law_stack_here","_law_wares","_law_places","_law_spots","_law_mine","_law_theirs","_law_asked","_law_dues","_law_k"] ["_law_script"] (a7 J2):=⟨rfl,rfl,rfl,by decide +kernel,rfl,by decide +kernel,by decide +kernel⟩
theorem b2j{TB:List (Addr×Str)}{f:Addr}{fd:FuncData}(F:Fun K "law" "law" J2 f fd)(T:Txt K mg c)(G_l_cell_at:Own P w K mg base 3 "_law_cell_at" ["_law_script","_law_k"] (k6 K c p5))(G_l_edges:Own P w K mg base 5 "_law_edges" ["_law_cell"] (k6 K c K3))(G_l_stack:Own P w K mg base 3 "_law_stack" ["_law_cells","_law_edges_here","_law_unit"] (k6 K c K4))(G_l_laid:Own P w K mg base 5 "_law_laid" ["_law_spots","_law_cell"] (k6 K c N8))(G_l_due:Own P w K mg base 5 "_law_due" ["_law_spots","_law_k"] (k6 K c B2))(G_l_alike:Own P w K mg base 5 "_law_alike" ["_law_found","_law_due_here"] (k6 K c w6))(G_over:Own P w K mg base 9 "over" ["wares","places","k"] (W5 TB (k6 K c C6))):FnOk P w K mg base (t8 P w) 11 f fd ["_law_script"] (W5 TB (k6 K c b0K)) :=
 F.okT (k:=10) D6 fun A outer s H E hT hr=>⟨_,(c9 (m7 (i:=1) D6.nd rfl (Or.inl rfl) (u6 G_l_cell_at hr (by decide) y8 (a6 (pv 0) (a6 c8 c6)))) (c9 (m7 (i:=2) D6.nd rfl (Or.inl rfl) (u6 G_l_edges hr (by decide) y8 (a6 (u6 G_l_cell_at hr (by decide) y8 (a6 (pv 0) (a6 c8 c6))) c6))) (c9 (m7 (i:=3) D6.nd rfl (Or.inl rfl) (u6 G_l_stack hr (by decide) y8 (a6 (a4s (a4D (K:=K)) (pv 0) (a2X c8) (a2X c8)) (a6 (pv 2) (a6 (j5 (j9 (K:=K)) (a07 (a6 c8 (a6 c8 (a6 c8 c6)))) (g5 w9 (pv 1) c8) (fun _ _=>rfl)) c6))))) (c9 (K5 (p8 a36 (i9 (i8 (K:=K)) rfl T.z_len x4 (a6 (pv 3) c6)) c8 (t4 _)) (i3 (a0i (a09 (K:=K) PySem.F.plainAttrs_list PySem.F.slot_list_pop PySem.F.type_list_pop a8Z (pv 3) (a6 (g5 w9 (g5 E2 (pv 1) c8) (i9 (i8 (K:=K)) rfl T.z_len x4 (a6 (pv 3) c6))) c6)))) B0) (c9 (a0j (u6 G_l_laid hr (by decide) y8 (a6 (pv 3) (a6 (pv 1) c6))) (K8 (K:=K) (n:=3) rfl (k9 (g7 (i:=4) D6.nd rfl (Or.inr rfl)) (k9 (g7 (i:=5) D6.nd rfl (Or.inl rfl)) (k9 (g7 (i:=6) D6.nd rfl (Or.inr rfl)) K6))))) (c9 (m7 (i:=7) D6.nd rfl (Or.inl rfl) (Y6 (T9 (K:=K)) rfl T.z_list a1x (a6 (pv 4) c6))) (c9 (m7 (i:=8) D6.nd rfl (Or.inl rfl) (Y6 (T9 (K:=K)) rfl T.z_list a1x (a6 (pv 5) c6))) (c9 (U7 (i:=9) (Nc:=["_law_k","_law_script","_law_wares"]) (k:=1) (js:=[0,4]) rfl ⟨by decide +kernel,rfl,by decide +kernel,(by change ∀y∈Scope.names _,y.2=NameKind.free→(a7 J2).names.lookup y.1=some .cell∨(a7 J2).names.lookup y.1=some .free;decide +kernel),by decide +kernel,rfl,rfl,by decide +kernel⟩ D6.nd rfl (J3 rfl T.z_range (a6 (i9 (a06 rfl) rfl T.z_min a46 (a6 c8 (a6 (i9 (i8 (K:=K)) rfl T.z_len x4 (a6 (pv 4) c6)) c6))) c6)) (fun _ _ _ _ _=>(g7 (i:=0) (by show List.Nodup [("_law_k" : Str),("_law_script" : Str),("_law_wares" : Str)];decide +kernel) rfl (Or.inl rfl))) (fun _ _ _ _ _=>P0) (fun _ _ _ _ _=>(g5 w9 (u6 G_l_cell_at hr (by decide) y8 (a6 (pv 1) (a6 (g5 A3 c8 (pv 0)) c6))) (i9 (i8 (K:=K)) rfl T.z_len x4 (a6 (pv 2) c6))))) (c9 (U7 (i:=10) (Nc:=["_law_k","_law_spots"]) (k:=1) (js:=[6]) rfl ⟨by decide +kernel,rfl,by decide +kernel,(by change ∀y∈Scope.names _,y.2=NameKind.free→(a7 J2).names.lookup y.1=some .cell∨(a7 J2).names.lookup y.1=some .free;decide +kernel),by decide +kernel,rfl,rfl,by decide +kernel⟩ D6.nd rfl (C0 (pv 9)) (fun _ _ _ _ _=>(g7 (i:=0) (by show List.Nodup [("_law_k" : Str),("_law_spots" : Str)];decide +kernel) rfl (Or.inl rfl))) (fun _ _ _ _ _=>P0) (fun _ _ _ _ _=>(u6 G_l_due hr (by decide) y8 (a6 (pv 1) (a6 (pv 0) c6))))) (c9 (M6 PassesOwn.leaving rfl (J3 rfl T.z_range (a6 (i9 (i8 (K:=K)) rfl T.z_len x4 (a6 (pv 9) c6)) c6)) (g7 (i:=11) D6.nd rfl (Or.inl rfl)) (i3 (K5 (a0h (V9 (u6 G_l_alike hr (by decide) y8 (a6 (a3h hT G_over hr (by decide) (XAcc.passes V5) (a6 (pv 7) (a6 (pv 8) (a6 (j5 (j9 (K:=K)) (pv 9) (pv 11) (fun _ _=>rfl)) c6)))) (a6 (j5 (j9 (K:=K)) (pv 10) (pv 11) (fun _ _=>rfl)) c6))))) (i3 (r6 Y2)) B0))) (c9 (M6 PassesOwn.leaving rfl (a8e rfl T.z_range (a6 (g5 M7 (i9 (i8 (K:=K)) rfl T.z_len x4 (a6 (pv 9) c6)) c8) (a6 (a6J a4q c8) (a6 (a6J a4q c8) c6)))) (g7 (i:=11) D6.nd rfl (Or.inl rfl)) (i3 (K5 (a0h (V9 (u6 G_l_alike hr (by decide) y8 (a6 (a3h hT G_over hr (by decide) (XAcc.passes V5) (a6 (pv 7) (a6 (pv 8) (a6 (j5 (j9 (K:=K)) (pv 9) (pv 11) (fun _ _=>rfl)) c6)))) (a6 (j5 (j9 (K:=K)) (pv 10) (pv 11) (fun _ _=>rfl)) c6))))) (i3 (r6 Y2)) B0))) (i3 (r6 (a7z (a0k (a6q (K:=K) (cl:=c) (a7h hr)) (pv 7) (pv 4) (t4 _)) (a7y (a0k (a6q (K:=K) (cl:=c) (a7h hr)) (pv 8) (pv 5) (t4 _))))))))))))))))),(h9 (a0L (b0 a9 (b0 d6 g9))) (h9 (a0L (b0 (x9 (b0 a9 (b0 d6 g9))) g9)) (h9 (a0L (b0 (P5 (a8u (a7g d6) (a7g d6))) (b0 a9 (b0 (c7 m9 (P5 (a4S (b0 d6 (b0 d6 (b0 d6 g9))))) (c7 x5 a9 d6)) g9)))) (h9 (D5 (z8 (c7 a4b (B7 x8) d6)) (a9Q (c7 x5 (c7 P7 a9 d6) (B7 x8))) L3) (h9 (a1j (x9 (b0 a9 (b0 a9 g9))) (L5 (l3 (d9 (k:=12) (by decide)) (l3 (d9 (k:=12) (by decide)) (l3 (d9 (k:=12) (by decide)) L4))) rfl)) (h9 (O1 (a2D a25)) (h9 (O1 (a2D a25)) (h9 (V0 (a1l (by decide) (b0 (a1D a3a (b0 d6 (b0 (B7 x8) g9))) g9) (d9 (k:=1) (by decide)) E8 (c7 x5 (x9 (b0 a9 (b0 (c7 A4 d6 a9) g9))) (B7 x8)))) (h9 (V0 (X3 (by decide) (d9 (k:=1) (by decide)) E8 (x9 (b0 a9 (b0 a9 g9))))) (h9 (a0O (b0 (B7 x8) g9) (d9 (k:=12) (by decide)) (D5 (V7 (Z2 (x9 (b0 (a1E (b0 a9 (b0 a9 (b0 (n5 m9 a9) g9)))) (b0 (n5 m9 a9) g9))))) (A5 d6) L3)) (h9 (a9Z (b0 (c7 M9 (B7 x8) d6) (b0 (a9o a4U d6) (b0 (a9o a4U d6) g9))) (d9 (k:=12) (by decide)) (D5 (V7 (Z2 (x9 (b0 (a1E (b0 a9 (b0 a9 (b0 (n5 m9 a9) g9)))) (b0 (n5 m9 a9) g9))))) (A5 d6) L3)) (A5 (a8h (a6d a8w) (a6d a8w))))))))))))))⟩
end Law
namespace Law
open PySem L2 PyProof.Rows
variable {P:Program}{w:World}{K:PySem.W.Frag}{mg:Str→Option Value}{base:Heap}{c:Str→Addr}
local macro_rules|`(tactic|walk_at $s:str)=>do
 let t←`(tactic|simp(decide:=true)only[*,b4o,a6k,a6l,b1m,b1n,b1x,b1o,b1p,b1q,b1r,a9t,b1s,b1t,b3H,a9u,a9v,a8n,a8o,a9w,a69,a6_,a8p,a8q,a8r,a9x,a7a,a7b,b1u,b1v,b1y,b1w,b1z,a9y,b1A,b1B,b1C,b1D,b1F,b1E,b1G,a9z,a3E,z7,b12,b13,b14,b15,b17,b16,a3F,a8v,a2I,j6,X2,K0,Q0,J9,a45,a7f,a9E,b3P,b3Q,a9F,b3R,b3S,a3c,b1X,b1Y,b1Z,b10,noL,noLs,a1m,oN,oS,a4f,unhide,a8s,b1N,b1K,b1L,b1M,b1H,b1I,b1J,a65,P8,Q2,p9,G8,g6,z9,K1,C4,S7,Nat.max_self,Nat.zero_max,Nat.max_zero,decide_true,Bool.or_true,Bool.true_or,Bool.or_false,List.isEmpty_nil,V2,J1,X5,inD,List.any_cons,List.any_nil,j4,List.all_cons,List.all_nil,Bool.and_self,Bool.and_true,Bool.true_and,beq_self_eq_true,b1O,b1P,b3I,b3J,a43,a44,a6n,a6o,a29,D2,v8,u4,a4e,N0,z0,S5,a0K,D1,a0N,a4Z,X1,X8,a3k,lookD,a4j,a0W,Z8,a0U,a9X,b2e,b2f,a66,M3,E6,a1t,b3T,a9L,a9M,a9H,a9I,a9J,a9K,a9G,b11,a9O,a8x,eC,eV,eB,l6,eBW,a15,eT,eL,zN,aN,aC,P9,i6,a9n,a4T,eU,W9,eCB,p6,nCB,nCV,g1,k8,N6,bZ,R6,G6,bOr,n6,a9N,B4,a0M,T3,b3t,b3u,T4,b3v,b3w,R5,a0H,look,n4,i5,b1d,a0Q,a4h,tyN,seqL,b0E,b0F,b0G,b0H,List.map_cons,List.map_nil,List.length_cons,List.length_nil,List.cons_append,List.nil_append,List.replicate_succ,List.replicate_zero,List.getElem?_cons_zero,List.getElem?_cons_succ,List.set_cons_zero,List.set_cons_succ,Nat.reduceAdd,Nat.reduceSub,if_true,if_false,Bool.not_true,Bool.not_false,Bool.not_not,Nat.zero_add,Bool.false_eq_true,decide_eq_true_eq,Bool.not_eq_true',decide_eq_false_iff_not,Option.map_some,Option.map_none,ite_self])
 return if s.getString=="eh" then t.raw else t.raw.modifyArg 4 (·.modifyArg 1 fun l=>l.setArg 0 l[2])
theorem a0t{rg:List D→Option (Int×Nat)}{f:AF}{b:GF}{body:SF}{e e1:DE}{ds:List D}{lo:Int}{n:Nat}(h:f e=some (.ok ds e1))(hr:rg ds=some (lo,n)):E6 rg f b body e=t5 b body (B5 lo n) e1:=by
 unfold E6;rw[h,T4,hr]
theorem Y1{n:Nat}(h:n≤2000):G7 [.int (n:Int)]=some (0,n):=by
 rw[b1T ⟨by omega,by omega⟩]
 rfl
theorem a92{n x:Nat}{pre post:List Nat}(h:List.range n=pre++x::post):x=pre.length∧pre.length<n:=by
 have h1:=congrArg (fun l=>l[pre.length]?) h
 simp only[List.getElem?_append_right (Nat.le_refl _),Nat.sub_self,List.getElem?_cons_zero]at h1
 have h2:=congrArg List.length h
 rw[List.length_range,List.length_append,List.length_cons]at h2
 rw[List.getElem?_range (by omega)]at h1
 exact⟨(Option.some.inj h1).symm,by omega⟩
abbrev Z9(w h:Int)(t:Bool):D:=.tup [.int w,.int h,.bl t]
abbrev a5n(x y:Int)(l:Bool):D:=.tup [.int x,.int y,.bl l]
abbrev R4:=Int×Int×Int×Int
abbrev d7(r:R4):D:=.tup [.int r.1,.int r.2.1,.int r.2.2.1,.int r.2.2.2]
def apR(a b:R4):Prop:=a.2.2.1≤b.1∨b.2.2.1≤a.1∨a.2.2.2≤b.2.1∨b.2.2.2≤a.2.1
structure Sub4(s r:R4):Prop where
 x:r.1≤s.1
 x2:s.2.2.1≤r.2.2.1
 y:r.2.1≤s.2.1
 y2:s.2.2.2≤r.2.2.2
 px:s.1<s.2.2.1
 py:s.2.1<s.2.2.2
theorem apR.symm{a b:R4}(h:apR a b):apR b a:=by unfold apR at h ⊢;omega
theorem Sub4.trans{a b c:R4}(h:Sub4 a b)(k:Sub4 b c):Sub4 a c:=⟨by have:=h.x;have:=k.x;omega,by have:=h.x2;have:=k.x2;omega,by have:=h.y;have:=k.y;omega,by have:=h.y2;have:=k.y2;omega,h.px,h.py⟩
theorem F7{l:List D}{k:Nat}{a:D}(h:l[k]? = some a):atI l (k:Int)=some a:=a9P h
def a2f(c k:Int):Int:=(c%1000000007*(k+3)*48271+(k+1)*(k+5)*69621)%2147483647
theorem a5o(c k:Int)(h0:0≤k)(h1:k≤10 ^ 6):r9 [.int c,.int k]=some (.ret (.int (a2f c k))):=by
 have e1:J7 (.int (c%1000000007)) (.int (k+3))=some (.int (c%1000000007*(k+3))):=a44 (by omega)
 have e2:J7 (.int (k+1)) (.int (k+5))=some (.int ((k+1)*(k+5))):=a43 (by omega)
 clear h0 h1
 unfold r9 a3R a2f
 walk_at "eh"
abbrev Q:=(Int×Int×Int×Int)×Bool×Bool
abbrev rQ(q:Q):R4:=(q.1.1,q.1.2.1,q.1.1+q.1.2.2.1,q.1.2.1+q.1.2.2.2)
def wQ(q:Q):D:=if q.2.1 then Z9 q.1.2.2.2 q.1.2.2.1 true else Z9 q.1.2.2.1 q.1.2.2.2 q.2.2
abbrev pQ(q:Q):D:=a5n q.1.1 q.1.2.1 q.2.1
abbrev sQ(q:Q):D:=d7 (rQ q)
abbrev lbB(MX:List D→Option R1):SF:=(d5 (a0N (l6 i5 0 (eV 4)) (B4 [(a8 5),(a8 6),(a8 7),(a8 8)])) (d5 (N0 9 MX (aC (eV 1) (aC (eV 4) aN))) (d5 (v8 10 (eT (aC (eB y4 (eV 7) (eV 5)) (aC (eB y4 (eV 8) (eV 6)) (aC (eB (v7 false) (eB m5 (eB A7 (eV 9) (eC (.int 6))) (eC (.int 2))) (eC (.int 0))) aN))))) (d5 (D2 (bZ (eB (v7 false) (eB m5 (eV 9) (eC (.int 3))) (eC (.int 0)))) (v8 10 (eT (aC (eB y4 (eV 8) (eV 6)) (aC (eB y4 (eV 7) (eV 5)) (aC (eC (.bl true)) aN))))) D1) (X1 2 (eT (aC (eB A7 (eV 9) (eC (.int 2))) (aC (eV 4) (aC (eV 10) (aC (eT (aC (eB y4 (eV 5) (eV 3)) (aC (eV 6) (aC (eB (v7 false) (eB m5 (eV 9) (eC (.int 3))) (eC (.int 0))) aN)))) (aC (eT (aC (eB y4 (eV 5) (eV 3)) (aC (eV 6) (aC (eB y4 (eV 7) (eV 3)) (aC (eV 8) aN))))) aN)))))))))))
abbrev qM(x y x2 y2 o m:Int):Q:=((x-o,y,x2-x,y2-y),decide (m%3=0),decide (m/6%2=0))
theorem b4u(x y x2 y2 o m:Int):sQ (qM x y x2 y2 o m)=.tup [.int (x-o),.int y,.int (x2-o),.int y2]:=by
 show D.tup [.int (x-o),.int y,.int (x-o+(x2-x)),.int (y+(y2-y))]=_
 rw[show x-o+(x2-x)=x2-o by omega,show y+(y2-y)=y2 by omega]
theorem b2k(MX:List D→Option R1)(A acc:List D)(c o k x y x2 y2 m:Int)(o5 o6 o7 o8 o9 o10:Option D)(a1:atI A k=some (.tup [.int x,.int y,.int x2,.int y2]))(x1:MX [.int c,.int k]=some (.ret (.int m)))(hl:acc.length<sizeLine) :
  ∃o10':Option D,lbB MX [.fz (.lst A),.fz (.int c),.ow acc,.fz (.int o),.fz (.int k),un o5,un o6,un o7,un o8,un o9,un o10]=some (.nx [.fz (.lst A),.fz (.int c),.ow (acc++[.tup [.int (m/2),.int k,wQ (qM x y x2 y2 o m),pQ (qM x y x2 y2 o m),sQ (qM x y x2 y2 o m)]]),.fz (.int o),.fz (.int k),.fz (.int x),.fz (.int y),.fz (.int x2),.fz (.int y2),.fz (.int m),un o10']):=by
 rw[b4u]
 by_cases z:m%3=0
 ·refine⟨some (Z9 (y2-y) (x2-x) true),?_⟩
  have e:wQ (qM x y x2 y2 o m)=Z9 (y2-y) (x2-x) true:=by unfold wQ qM;rw[decide_eq_true z];rfl
  rw[e]
  unfold lbB
  show _=some (RS.nx [_,_,.ow (acc++[.tup [_,_,_,a5n (x-o) y (decide (m%3=0)),_]]),_,_,_,_,_,_,_,.fz (Z9 (y2-y) (x2-x) true)])
  rw[decide_eq_true z]
  clear e
  walk_at "eh"
 ·refine⟨some (Z9 (x2-x) (y2-y) (decide (m/6%2=0))),?_⟩
  have e:wQ (qM x y x2 y2 o m)=Z9 (x2-x) (y2-y) (decide (m/6%2=0)):=by unfold wQ qM;rw[decide_eq_false z];rfl
  rw[e]
  unfold lbB
  show _=some (RS.nx [_,_,.ow (acc++[.tup [_,_,_,a5n (x-o) y (decide (m%3=0)),_]]),_,_,_,_,_,_,_,.fz (Z9 (x2-x) (y2-y) (decide (m/6%2=0)))])
  rw[decide_eq_false z]
  clear e
  walk_at "eh"
  try rfl
abbrev rD0:R4:=(0,0,1,1)
theorem a3l{α:Type}{l:List α}{k:Nat}{d:α}(h:k<l.length):l.getD k d=l[k]:=by simp[h]
def qF(L:List R4)(c o:Int)(k:Nat):Q:=qM (L.getD k rD0).1 (L.getD k rD0).2.1 (L.getD k rD0).2.2.1 (L.getD k rD0).2.2.2 o (a2f c k)
def M4(L:List R4)(c o:Int)(k:Nat):F9:=([a2f c k/2,(k:Int)],[wQ (qF L c o k),pQ (qF L c o k),sQ (qF L c o k)])
theorem a8K(L:List R4)(c o:Int)(hl:L.length≤100):∃e:DE,t5 (a8 4) (lbB r9) (B5 0 L.length) [.fz (.lst (L.map d7)),.fz (.int c),.ow [],.fz (.int o),.no,.no,.no,.no,.no,.no,.no]=some (.nx (.fz (.lst (L.map d7)) :: .fz (.int c) :: .ow (((List.range L.length).map (M4 L c o)).map A1)::e)):=by
 obtain⟨e',k1,o4,o5,o6,o7,o8,o9,o10,rfl⟩:=L6 (b:=a8 4) (body:=lbB r9) (fun(i:Nat)=>D.int (0+(i:Int))) (fun pre ev=>∃o4 o5 o6 o7 o8 o9 o10:Option D,ev=[.fz (.lst (L.map d7)),.fz (.int c),.ow ((pre.map (M4 L c o)).map A1),.fz (.int o),un o4,un o5,un o6,un o7,un o8,un o9,un o10]) (List.range L.length) [.fz (.lst (L.map d7)),.fz (.int c),.ow [],.fz (.int o),.no,.no,.no,.no,.no,.no,.no] ⟨none,none,none,none,none,none,none,rfl⟩ (by
  rintro pre i post ev hq ⟨o4,o5,o6,o7,o8,o9,o10,rfl⟩
  obtain⟨e1,hi⟩:=a92 hq
  have hi':i<L.length:=by omega
  have hb:a8 4 (.int (0+(i:Int))) [.fz (.lst (L.map d7)),.fz (.int c),.ow ((pre.map (M4 L c o)).map A1),.fz (.int o),un o4,un o5,un o6,un o7,un o8,un o9,un o10]=some [.fz (.lst (L.map d7)),.fz (.int c),.ow ((pre.map (M4 L c o)).map A1),.fz (.int o),.fz (.int (i:Int)),un o5,un o6,un o7,un o8,un o9,un o10]:=by rw[Int.zero_add];cases o4<;>rfl
  obtain⟨o10',st⟩:=b2k r9 (L.map d7) ((pre.map (M4 L c o)).map A1) c o i _ _ _ _ _ o5 o6 o7 o8 o9 o10 (F7 (by rw[List.getElem?_map,List.getElem?_eq_getElem hi'];rfl)) (a5o c i (by omega) (by omega)) (by rw[List.length_map,List.length_map];show _<2 ^ 24;omega)
  have e3:∀q:Q,q=qF L c o i→List.map A1 (List.map (M4 L c o) pre)++[D.tup [.int (a2f c i/2),.int (i:Int),wQ q,pQ q,sQ q]]=((pre++[i]).map (M4 L c o)).map A1:=by
   rintro q rfl
   rw[List.map_append,List.map_append]
   rfl
  rw[e3 _ (by unfold qF;rw[a3l hi'])]at st
  rw[hb,z7,st]
  exact⟨_,rfl,some _,some _,some _,some _,some _,some _,o10',rfl⟩)
 exact⟨_,k1⟩
theorem a5p{α β:Type}(f:α→β):∀{l l':List β},l.Perm l'→∀m:List α,l'=m.map f→∃m':List α,m'.Perm m∧l=m'.map f:=by
 intro l l' h
 induction h with
 | nil=>intro m e;exact⟨m,.refl _,e⟩
 | cons x _ ih =>
  intro m e
  cases m with
  | nil=>cases e
  | cons a m =>
   rw[List.map_cons]at e
   injection e with e1 e2
   obtain⟨m',p,q⟩:=ih m e2
   exact⟨a::m',p.cons a,by rw[List.map_cons,← e1,q]⟩
 | swap x y l =>
  intro m e
  cases m with
  | nil=>cases e
  | cons a m =>
   cases m with
   | nil=>simp at e
   | cons b m =>
    rw[List.map_cons,List.map_cons]at e
    injection e with e1 e2
    injection e2 with e2 e3
    exact⟨b::a::m,.swap a b m,by rw[List.map_cons,List.map_cons,← e1,← e2,← e3]⟩
 | trans _ _ ih1 ih2 =>
  intro m e
  obtain⟨m1,p1,q1⟩:=ih2 m e
  obtain⟨m2,p2,q2⟩:=ih1 m1 q1
  exact⟨m2,p2.trans p1,q2⟩
theorem b4v(q:Q):B6 (wQ q)=true:=by unfold wQ;split<;>rfl
theorem a8L(L:List R4)(c o:Int)(hl:L.length<64):∃σ:List Nat,σ.Perm (List.range L.length)∧a0r (.lst (((List.range L.length).map (M4 L c o)).map A1))=some (σ.map fun k=>A1 (M4 L c o k)):=by
 have g:=a8E (qs:=(List.range L.length).map (M4 L c o)) (by
  intro q m
  obtain⟨k,_,rfl⟩:=List.mem_map.mp m
  refine⟨by unfold M4;simp,?_⟩
  show(B6 (wQ (qF L c o k)) && (B6 (pQ (qF L c o k)) && (B6 (sQ (qF L c o k)) && true)))=true
  rw[b4v];rfl) (by rw[List.length_map,List.length_range];exact hl) (by
  rw[List.pairwise_map]
  refine List.Pairwise.imp ?_ (List.nodup_range (n:=L.length))
  intro i j h
  refine⟨rfl,fun z=>h ?_⟩
  have:[a2f c i/2,(i:Int)]=[a2f c j/2,(j:Int)]:=z
  injection this with _ z
  injection z with z
  omega)
 obtain⟨σ,h1,h2⟩:=a5p (M4 L c o) (L8 ((List.range L.length).map (M4 L c o))) (List.range L.length) rfl
 exact⟨σ,h1,by rw[g,h2,List.map_map];rfl⟩
theorem b5h(LP:SF)(OF:ZF)(GS:D→Option (List D))(N1 N2 N3:NF)(A R S X Y Z:List D)(c o:D)(e:DE)(h0:OF [.fz (.lst A),.fz c,.ow [],.no,.no,.no,.no,.no,.no,.no,.no]=some (.ok o [.fz (.lst A),.fz c,.ow [],.no,.no,.no,.no,.no,.no,.no,.no]))(h:LP [.fz (.lst A),.fz c,.ow [],.fz o,.no,.no,.no,.no,.no,.no,.no]=some (.nx (.fz (.lst A) :: .fz c :: .ow R::e)))(hg:GS (.lst R)=some S)
  (n1:N1 (.fz (.lst A) :: .fz c :: .ow S::e)=some (.ok X (.fz (.lst A) :: .fz c :: .ow S::e))) (n2:N2 (.fz (.lst A) :: .fz c :: .ow S::e)=some (.ok Y (.fz (.lst A) :: .fz c :: .ow S::e))) (n3:N3 (.fz (.lst A) :: .fz c :: .ow S::e)=some (.ok Z (.fz (.lst A) :: .fz c :: .ow S::e))):fD 11 2 (d5 (u4 2 (eL aN)) (d5 (v8 3 OF) (d5 LP (d5 (u4 2 (nCV GS 2)) (z0 (eT (aC (zN N1) (aC (zN N2) (aC (zN N3) aN))))))))) [.lst A,c]=some (.ret (.tup [.lst X,.lst Y,.lst Z])):=by
 walk_at "eh"
theorem a3m(j:Int)(f:Nat→D)(g:Nat→D)(σ:List Nat)(hl:σ.length≤100)(hj:∀k,n4 (f k) (.int j)=some (g k))(A c:D)(e:DE):J9 2 1 [] (a8 0) n6 (eB n4 (eV 0) (eC (.int j))) (.fz A :: .fz c :: .ow (σ.map f)::e)=some (.ok (σ.map g) (.fz A :: .fz c :: .ow (σ.map f)::e)):=by
 have:=y0 (b:=a8 0) (c:=n6) (el:=eB n4 (eV 0) (eC (.int j))) (ec:=[.no]) (eo:=(.fz A :: .fz c :: .ow (σ.map f)::e)) f g (fun _=>true) σ [] (by show 0+σ.length≤2 ^ 24;omega) (by
  intro k _
  refine⟨[.fz (f k)],[.fz (f k)],rfl,rfl,fun _=>⟨[.fz (f k)],?_⟩⟩
  have:=hj k
  generalize n4=GI at *
  generalize f k=fk at *
  walk_at "eh")
 rw[List.filter_eq_self.mpr (fun _ _=>rfl),List.nil_append]at this
 exact this
theorem b5i:∃B:Int,a0I (.int 10) (.int 6)=some (.int B)∧B=10 ^ 6:=⟨_,a29 (by decide +kernel),rfl⟩
theorem b3Z(A:D)(c:Int):∃o:Int,(eB J7 (eB m5 (eB A7 (eV 1) (eC (.int 3))) (eC (.int 5))) (eB m5 (eB A7 (eV 1) (eC (.int 15))) (eB a0I (eC (.int 10)) (eC (.int 6))))) [.fz A,.fz (.int c),.ow [],.no,.no,.no,.no,.no,.no,.no,.no]=some (.ok (.int o) [.fz A,.fz (.int c),.ow [],.no,.no,.no,.no,.no,.no,.no,.no]):=by
 obtain⟨B,hB,eB'⟩:=b5i
 have g2:m5 (.int (c/15)) (.int B)=some (.int (c/15%B)):=a6o (by omega)
 have g3:J7 (.int (c/3%5)) (.int (c/15%B))=some (.int (c/3%5*(c/15%B))):=a43 (by omega)
 clear eB'
 refine⟨c/3%5*(c/15%B),?_⟩
 walk_at "eh"
abbrev q0:Q:=((0,0,1,1),false,false)
abbrev gq(L:List Q)(k:Nat):Q:=L.getD k q0
abbrev yk(L:List Q)(k:Nat):Int:=(gq L k).1.2.1
def ksL(L:List Q)(n:Nat):List (List Int):=(List.range n).map fun(k:Nat)=>[yk L k,(k:Int)]
abbrev elO:ZF:=(eT (aC (eB n4 (l6 i5 1 (eV 0)) (eC (.int 1))) (aC (eV 0) aN)))
theorem b2l(B:List D)(k x y:Int)(l:Bool)(a1:atI B k=some (.tup [.int x,.int y,.bl l])):elO [.fz (.int k),.fz (.lst B)]=some (.ok (.tup [.int y,.int k]) [.fz (.int k),.fz (.lst B)]):=by
 unfold elO
 walk_at "eh"
theorem b5j{L:List Q}{k:Nat}(f:Q→D)(hk:k<L.length):atI (L.map f) (k:Int)=some (f (gq L k)):=F7 (by rw[List.getElem?_map,List.getElem?_eq_getElem hk,gq,a3l hk];rfl)
theorem b30(L:List Q)(n:Nat)(hn:n≤L.length):a0g elO [.no,.fz (.lst (L.map pQ))] n=some (ksL L n):=by
 induction n with
 | zero=>rfl
 | succ n ih =>
  unfold a0g
  rw[ih (by omega)]
  have st:elO (List.set [.no,.fz (.lst (L.map pQ))] 0 (.fz (.int (n:Int))))=some (.ok (.tup [.int (yk L n),.int (n:Int)]) [.fz (.int (n:Int)),.fz (.lst (L.map pQ))]):=b2l (L.map pQ) n _ _ _ (b5j pQ (by omega))
  rw[st]
  unfold ksL
  rw[List.range_succ,List.map_append]
  rfl
theorem b31(L:List Q)(n:Nat):okK (ksL L n)=true:=by
 unfold okK
 rw[Bool.and_eq_true]
 constructor
 ·refine decide_eq_true ?_
  unfold ksL
  rw[List.nodup_iff_pairwise_ne,List.pairwise_map]
  refine List.Pairwise.imp ?_ (List.nodup_range (n:=n))
  intro i j h e
  injection e with _ e
  injection e with e
  omega
 ·rw[List.all_eq_true]
  intro k m
  obtain⟨i,hi,rfl⟩:=List.mem_map.mp m
  have hn:=List.mem_range.mp hi
  unfold ksL
  cases n with
  | zero=>omega
  | succ n=>rw[List.range_succ_eq_map,List.map_cons];rfl
theorem b32(L:List Q):∃σ:List Nat,σ.Perm (List.range L.length)∧σ.Pairwise (fun a b=>HT.lexLt [yk L b,(b:Int)] [yk L a,(a:Int)]=false)∧((L7 (S8 (ksL L L.length))).map fun q=>q.2.headD .non)=σ.map fun(k:Nat)=>D.int (k:Int):=by
 have hl:(ksL L L.length).length=L.length:=by unfold ksL;rw[List.length_map,List.length_range]
 have hr:S8 (ksL L L.length)=(List.range L.length).map fun(k:Nat)=>(([yk L k,(k:Int)],[D.int (k:Int)]):F9):=by
  unfold S8
  rw[hl]
  refine List.map_congr_left fun k m=>?_
  have hk:=List.mem_range.mp m
  have:(ksL L L.length).getD k []=[yk L k,(k:Int)]:=by
   unfold ksL
   rw[List.getD_eq_getElem?_getD,List.getElem?_map,List.getElem?_range hk]
   rfl
  rw[this]
 obtain⟨σ,h1,h2⟩:=a5p (fun(k:Nat)=>(([yk L k,(k:Int)],[D.int (k:Int)]):F9)) (L8 (S8 (ksL L L.length))) (List.range L.length) hr
 refine⟨σ,h1,?_,?_⟩
 ·have:=Q3 (S8 (ksL L L.length))
  rw[h2,List.pairwise_map]at this
  exact this
 ·rw[h2,List.map_map];rfl
theorem b4w(W:D)(B R:List D)(ks:List (List Int))(n:Nat)(hB:B.length=n)(h64:n<64)(hk:a0g elO [.no,.fz (.lst B)] n=some ks)(ok:okK ks=true)(hR:((L7 (S8 ks)).map fun q=>q.2.headD .non)=R):D0 [W,.lst B]=some (.own R):=by
 have e:(a2K [1] (aC (p6 k8 1) aN) elO) [.fz W,.fz (.lst B)]=some (.ok R [.fz W,.fz (.lst B)]):=by
  show(if 0≤(B.length:Int)∧(B.length:Int)<64 then(match a0g elO [.no,.fz (.lst B)] (B.length:Int).toNat with
   | some ks=>if okK ks=true then some (L2.R.ok ((L7 (S8 ks)).map fun q=>q.2.headD .non) [Sl.fz W,Sl.fz (.lst B)])else none
   | none=>none)else none)=_
  rw[if_pos ⟨by omega,by omega⟩,Int.toNat_natCast,hB,hk]
  show(if okK ks=true then _ else _)=_
  rw[if_pos ok,hR]
 have:D0 [W,.lst B]=a0e (D3 ((a2K [1] (aC (p6 k8 1) aN) elO) [.fz W,.fz (.lst B)]) fun ds _=>some (.ro ds)):=rfl
 rw[this,e]
 rfl
def shw(a b:R4):Int:=(if b.2.2.1<a.2.2.1 then b.2.2.1 else a.2.2.1)-(if b.1 > a.1 then b.1 else a.1)
abbrev hk(L:List Q)(k:Nat):Int:=(gq L k).1.2.2.2
theorem b2m(q:Q):D9 [wQ q,pQ q]=some (.ret (sQ q)):=by
 obtain⟨⟨x,y,w,h⟩,l,t⟩:=q
 unfold D9 a3P Q4 a2N wQ
 cases l<;>cases t<;>walk_at "ev"
theorem a93(L:List Q)(hl:L.length≤1000):F6 [.lst (L.map wQ),.lst (L.map pQ)]=some (.own (L.map sQ)):=by
 have key:∀eo,j8 (B4 [a8 0,a8 1]) n6 (P9 D9 (aC (eV 0) (aC (eV 1) aN))) [.no,.no] eo (L.map fun q=>D.tup [wQ q,pQ q]) []=some (.ok (L.map sQ) eo):=fun eo=>by
  have:=y0 (b:=B4 [a8 0,a8 1]) (c:=n6) (el:=P9 D9 (aC (eV 0) (aC (eV 1) aN))) (ec:=[.no,.no]) (eo:=eo) (fun q:Q=>D.tup [wQ q,pQ q]) sQ (fun _=>true) L [] (by show 0+_≤2 ^ 24;omega) fun q m=>⟨[.fz (wQ q),.fz (pQ q)],[.fz (wQ q),.fz (pQ q)],rfl,rfl,fun _=>by
   have h:=b2m q
   generalize wQ q=wq at *
   generalize pQ q=pq at *
   clear m
   walk_at "eh";exact⟨_,rfl⟩⟩
  rw[this,List.filter_eq_self.mpr (fun _ _=>rfl),List.nil_append]
 have hz:=a3I wQ pQ L
 unfold F6 a2O
 clear hl
 walk_at "eh"
theorem a94(n:Int):E1 [.int n]=some (.ret (.bl true)):=by
 unfold E1 a3Q
 walk_at "ev"
 rfl
theorem b5k(a b:R4)(u v:Int)(h1:J1 [.int a.2.2.1,.int b.2.2.1]=some (.int u))(h2:V2 [.int a.1,.int b.1]=some (.int v)):u7 [d7 a,d7 b]=some (.ret (.int (u-v))):=by
 unfold u7 a3S
 generalize J1=G1 at *
 generalize V2=G2 at *
 walk_at "eh"
theorem b4x(a b:R4):u7 [d7 a,d7 b]=some (.ret (.int (shw a b))):=b5k a b _ _ rfl rfl
theorem b5l(a b:R4)(u v:Int)(h1:J1 [.int a.2.2.1,.int b.2.2.1]=some (.int u))(h2:V2 [.int a.1,.int b.1]=some (.int v)):n8 [d7 a,d7 b]=some (.ret (.int (u-v))):=by
 unfold n8 a0s
 generalize J1=G1 at *
 generalize V2=G2 at *
 walk_at "eh"
theorem b4y(a b:R4):n8 [d7 a,d7 b]=some (.ret (.int (shw a b))):=b5l a b _ _ rfl rfl
theorem a5q{α:Type}(f:α→D)(d:α):∀(l:List α) (n:Nat),enD n (l.map f)=(List.range l.length).map (fun j=>.tup [.int ((n+j:Nat):Int),f (l.getD j d)])
 | [],_=>rfl
 | x::l,n=>by
  rw[List.map_cons,enD,a5q f d l (n+1),List.length_cons,List.range_succ_eq_map,List.map_cons,List.map_map]
  have:∀(a b:D) (l m:List D),a=b→l=m→a::l=b::m:=by rintro a _ l _ rfl rfl;rfl
  refine this _ _ _ _ rfl (List.map_congr_left fun j _=>?_)
  show D.tup [.int ((n+1+j:Nat):Int),f (l.getD j d)]=D.tup [.int ((n+(j+1):Nat):Int),f ((x::l).getD (j+1) d)]
  rw[show n+1+j=n+(j+1) by omega]
  rfl
abbrev tP(p:Int×Int):D:=.tup [.int p.1,.int p.2]
abbrev t6(S:List R4)(j:Nat):R4:=S.getD j rD0
def q1(S:List R4)(k j:Nat):Bool:=decide ((t6 S j).2.2.2=(t6 S k).2.1)
def q2(S:List R4)(k j:Nat):Bool:=decide (0<shw (t6 S j) (t6 S k))
def tJ(S:List R4)(k j:Nat):Int×Int:=((j:Int),shw (t6 S j) (t6 S k))
def tch(S:List R4)(k:Nat):List (Int×Int):=(((List.range S.length).filter (q1 S k)).filter (q2 S k)).map (tJ S k)
theorem a7s{S:List R4}{k:Nat}(hk:k<S.length):atI (S.map d7) (k:Int)=some (d7 (t6 S k)):=F7 (by rw[List.getElem?_map,List.getElem?_eq_getElem hk,t6,a3l hk];rfl)
theorem b5m(SW:List D→Option R1)(A:List D)(j k:Int)(a s:R4)(u:Int)(h1:atI A k=some (d7 s))(h2:SW [d7 a,d7 s]=some (.ret (.int u))):((bZ (eB (v7 false) (eB n4 (eV 1) (eC (.int 3))) (eB n4 (l6 i5 2 (eV 3)) (eC (.int 1))))):BF) [.fz (.int j),.fz (d7 a),.fz (.lst A),.fz (.int k)]=some (.ok (decide (a.2.2.2=s.2.1)) [.fz (.int j),.fz (d7 a),.fz (.lst A),.fz (.int k)])∧(eT (aC (eV 0) (aC (i6 SW (aC (eV 1) (aC (l6 i5 2 (eV 3)) aN))) aN)):ZF) [.fz (.int j),.fz (d7 a),.fz (.lst A),.fz (.int k)]=some (.ok (.tup [.int j,.int u]) [.fz (.int j),.fz (d7 a),.fz (.lst A),.fz (.int k)]):=by
 constructor
 ·walk_at "eh"
 ·walk_at "eh"
theorem b4z{S:List R4}{k:Nat}(hk:k<S.length)(hl:S.length≤100)(eo:DE):j8 (B4 [(a8 0),(a8 1)]) (bZ (eB (v7 false) (eB n4 (eV 1) (eC (.int 3))) (eB n4 (l6 i5 2 (eV 3)) (eC (.int 1))))) (eT (aC (eV 0) (aC (i6 n8 (aC (eV 1) (aC (l6 i5 2 (eV 3)) aN))) aN))) [.no,.no,.fz (.lst (S.map d7)),.fz (.int (k:Int))] eo (enD 0 (S.map d7)) []=some (.ok ((((List.range S.length).filter (q1 S k)).map (tJ S k)).map tP) eo):=by
 rw[a5q d7 rD0 S 0]
 have:=y0 (b:=B4 [(a8 0),(a8 1)]) (c:=(bZ (eB (v7 false) (eB n4 (eV 1) (eC (.int 3))) (eB n4 (l6 i5 2 (eV 3)) (eC (.int 1)))))) (el:=(eT (aC (eV 0) (aC (i6 n8 (aC (eV 1) (aC (l6 i5 2 (eV 3)) aN))) aN)))) (ec:=[.no,.no,.fz (.lst (S.map d7)),.fz (.int (k:Int))]) (eo:=eo) (fun j:Nat=>D.tup [.int ((0+j:Nat):Int),d7 (t6 S j)]) (fun j=>tP (tJ S k j)) (q1 S k) (List.range S.length) [] (by rw[List.length_range];show 0+_≤2 ^ 24;omega) (by
  intro j m
  have c:=b5m n8 (S.map d7) j k (t6 S j) (t6 S k) _ (a7s hk) (b4y _ _)
  exact⟨[.fz (.int (j:Int)),.fz (d7 (t6 S j)),.fz (.lst (S.map d7)),.fz (.int (k:Int))],_,by rw[Nat.zero_add];rfl,c.1,fun _=>⟨_,c.2⟩⟩)
 rw[List.nil_append]at this
 rw[List.map_map]
 exact this
theorem b4A(S:List R4)(k:Nat)(l:List Nat)(hl:l.length≤100)(eo:DE):j8 (B4 [(a8 0),(a8 1)]) (bZ (eB gGt (eV 1) (eC (.int 0)))) (eT (aC (eV 0) (aC (eV 1) aN))) [.no,.no] eo ((l.map (tJ S k)).map tP) []=some (.ok (((l.filter (q2 S k)).map (tJ S k)).map tP) eo):=by
 have:=y0 (b:=B4 [(a8 0),(a8 1)]) (c:=(bZ (eB gGt (eV 1) (eC (.int 0))))) (el:=(eT (aC (eV 0) (aC (eV 1) aN)))) (ec:=[.no,.no]) (eo:=eo) (fun j:Nat=>tP (tJ S k j)) (fun j=>tP (tJ S k j)) (q2 S k) l [] (by show 0+_≤2 ^ 24;omega) (by
  intro j m
  refine⟨[.fz (.int (j:Int)),.fz (.int (shw (t6 S j) (t6 S k)))],[.fz (.int (j:Int)),.fz (.int (shw (t6 S j) (t6 S k)))],rfl,?_,fun _=>⟨[.fz (.int (j:Int)),.fz (.int (shw (t6 S j) (t6 S k)))],?_⟩⟩
  ·unfold q2
   generalize shw (t6 S j) (t6 S k)=z
   walk_at "eh"
   try rfl
  ·unfold tJ tP
   generalize shw (t6 S j) (t6 S k)=z
   walk_at "eh")
 rw[List.nil_append]at this
 rw[List.map_map,List.map_map]
 exact this
theorem b4B(N1 N2:NF)(A X Y:List D)(k:D)(n1:N1 [.fz (.lst A),.fz k,.no]=some (.ok X [.fz (.lst A),.fz k,.no]))(n2:N2 [.fz (.lst A),.fz k,.ow X]=some (.ok Y [.fz (.lst A),.fz k,.ow X])):fD 3 2 (d5 (u4 2 N1) (S5 N2)) [.lst A,k]=some (.own Y):=by
 walk_at "eh"
theorem b33{S:List R4}{k:Nat}(hk:k<S.length)(hl:S.length≤100):u0 [.lst (S.map d7),.int (k:Int)]=some (.own ((tch S k).map tP)):=by
 refine b4B _ _ (S.map d7) ((((List.range S.length).filter (q1 S k)).map (tJ S k)).map tP) ((tch S k).map tP) (.int (k:Int)) ?_ ?_
 ·exact b4z hk hl _
 ·refine b4A S k ((List.range S.length).filter (q1 S k)) ?_ _
  have:=List.length_filter_le (q1 S k) (List.range S.length)
  rw[List.length_range]at this
  omega
theorem b2n(S:List R4)(k:Nat):(tch S k).length≤S.length:=by
 unfold tch
 have h1:=List.length_filter_le (q1 S k) (List.range S.length)
 have h2:=List.length_filter_le (q2 S k) ((List.range S.length).filter (q1 S k))
 rw[List.length_range]at h1
 rw[List.length_map]
 omega
theorem b4C{L:List R4}(hl:L.length≤30)(c:Int):∃Ls:List Q,N8 [.lst (L.map d7),.int c]=some (.ret (.tup [.lst (Ls.map wQ),.lst (Ls.map pQ),.lst (Ls.map sQ)]))∧Ls.length=L.length:=by
 obtain⟨o,h0⟩:=b3Z (.lst (L.map d7)) c
 obtain⟨e,k1⟩:=a8K L c o (by omega)
 obtain⟨σ,hp,hs⟩:=a8L L c o (by omega)
 have hlen:σ.length=L.length:=by rw[hp.length_eq,List.length_range]
 refine⟨σ.map (qF L c o),?_,by rw[List.length_map];omega⟩
 rw[List.map_map,List.map_map,List.map_map]
 refine b5h (E6 G7 (aC (p6 k8 0) aN) (a8 4) (lbB r9)) _ a0r _ _ _ (L.map d7) _ _ _ _ _ (.int c) (.int o) e h0 ?_ hs (a3m 2 (fun k=>A1 (M4 L c o k)) (fun k=>wQ (qF L c o k)) σ (by omega) (fun k=>rfl) _ _ e) (a3m 3 (fun k=>A1 (M4 L c o k)) (fun k=>pQ (qF L c o k)) σ (by omega) (fun k=>rfl) _ _ e) (a3m 4 (fun k=>A1 (M4 L c o k)) (fun k=>sQ (qF L c o k)) σ (by omega) (fun k=>rfl) _ _ e)
 rw[a0t (ds:=[.int (L.length:Int)]) (e1:=[.fz (.lst (L.map d7)),.fz (.int c),.ow [],.fz (.int o),.no,.no,.no,.no,.no,.no,.no]) (lo:=0) (n:=L.length) (by
  have:((L.map d7).length:Int)=L.length:=by rw[List.length_map]
  walk_at "eh") (Y1 (by omega))]
 exact k1
def on(S:List R4)(i j:Nat):Bool:=q1 S i j && q2 S i j
def stp(S:List R4)(r:List Nat)(i:Nat):List Nat:=if r.any (fun j=>on S i j)=true∧i ∉ r then r++[i]else r
abbrev iN(l:List Nat):List D:=l.map fun(k:Nat)=>D.int (k:Int)
abbrev kR(r:List Nat):DK:=.inl (r.map fun(j:Nat)=>(Sum.inl (j:Int):i4))
abbrev vR(r:List Nat):List D:=r.map fun _=>D.bl true
theorem a4l(i:Nat):∀r:List Nat,G9 (r.map fun(j:Nat)=>(Sum.inl (j:Int):i4)) (.inl (i:Int))=decide (i∈r)
 | []=>rfl
 | j::r=>by
  have ih:=a4l i r
  unfold G9 at ih ⊢
  rw[List.map_cons,List.any_cons,ih]
  by_cases z:i=j
  ·subst z;simp
  ·have z':¬((Sum.inl (j:Int):i4)=.inl (i:Int)):=fun y=>by injection y with y;exact z (by omega)
   simp[z',z]
theorem b0L(k:i4):∀r:List Nat,K2 (r.map fun(j:Nat)=>(Sum.inl (j:Int):i4)) (vR r) k (.bl true)=vR r
 | []=>rfl
 | j::r=>by
  have ih:=b0L k r
  unfold K2 at ih ⊢
  show List.zipWith _ ((Sum.inl (j:Int):i4)::_) (D.bl true::vR r)=D.bl true::vR r
  rw[List.zipWith_cons_cons,ih]
  split<;>rfl
theorem b4D(r:List Nat)(i:Nat):putD (kR r) (vR r) (.int (i:Int)) (.bl true)=some (kR (if i∈r then r else r++[i]),vR (if i∈r then r else r++[i])):=by
 show some (if G9 (r.map fun(j:Nat)=>(Sum.inl (j:Int):i4)) (.inl (i:Int))=true then _ else _)=_
 rw[a4l,b0L]
 by_cases z:i∈r
 ·simp only[z,decide_true,if_true]
 ·simp only[z,decide_false,if_false,Bool.false_eq_true]
  unfold kR vR
  rw[List.map_append,List.map_append]
  rfl
theorem b4E(r:List Nat)(j:Int):∃o,a5f (kR r) (vR r) (.int j)=some o∧o.isSome=G9 (r.map fun(j:Nat)=>(Sum.inl (j:Int):i4)) (.inl j):=by
 refine⟨_,rfl,?_⟩
 induction r with
 | nil=>rfl
 | cons x r ih =>
  unfold G9 at ih ⊢
  show(a0V ((Sum.inl (x:Int):i4)::_) (D.bl true::vR r) (Sum.inl j)).isSome=_
  rw[List.map_cons,List.any_cons,← ih,a0V]
  by_cases z:(Sum.inl (x:Int):i4)=.inl j
  ·rw[if_pos z];simp[z]
  ·rw[if_neg z];simp[z]
theorem a3U{α:Type}(f:α→Bool):∀l:List α,U9 (l.map fun a=>D.bl (f a))=some (l.map f)
 | []=>rfl
 | a::l=>by
  show(U9 (l.map fun a=>D.bl (f a))).map (f a :: ·)=_
  rw[a3U f l]
  rfl
abbrev ovN(TO:List D→Option R1):NF:=(Q0 2 [4] (i6 TO (aC (eV 3) (aC (eV 5) aN))) (B4 [(a8 0),(a8 1)]) n6 (a3k (eV 0) 2))
abbrev ovB(GA:D→Option D)(N:NF):SF:=(D2 (bZ (eCB (g1 GA) (aC (zN N) aN))) (a4j 4 (eV 5) (eC (.bl true))) D1)
theorem b4F(GA:D→Option D)(N:NF)(W B k i:D)(s3:Sl)(A bs:List D)(ks:DK)(vs:List D)(h:N [.fz W,.fz B,.fz k,s3,.od ks vs,.fz i]=some (.ok bs [.fz W,.fz B,.fz k,.fz (.lst A),.od ks vs,.fz i]))(hg:GA (.lst bs)=some (.bl false)) :
  ovB GA N [.fz W,.fz B,.fz k,s3,.od ks vs,.fz i]=some (.nx [.fz W,.fz B,.fz k,.fz (.lst A),.od ks vs,.fz i]):=by
 unfold ovB
 walk_at "eh"
theorem b34(GA:D→Option D)(N:NF)(W B k i:D)(s3:Sl)(A bs:List D)(ks:DK)(vs:List D)(kd:DK×List D)(h:N [.fz W,.fz B,.fz k,s3,.od ks vs,.fz i]=some (.ok bs [.fz W,.fz B,.fz k,.fz (.lst A),.od ks vs,.fz i]))(hg:GA (.lst bs)=some (.bl true))(hl:W7 ks<sizeLine)(hp:putD ks vs i (.bl true)=some kd) :
  ovB GA N [.fz W,.fz B,.fz k,s3,.od ks vs,.fz i]=some (.nx [.fz W,.fz B,.fz k,.fz (.lst A),.od kd.1 kd.2,.fz i]):=by
 unfold ovB
 walk_at "eh"
theorem b4G(TO:List D→Option R1)(W B k i:D)(s3:Sl)(A:List D)(hs:s3=.ow A∨s3=.fz (.lst A))(ks:DK)(vs T:List D)(h:TO [.lst A,i]=some (.own T)) :
  ovN TO [.fz W,.fz B,.fz k,s3,.od ks vs,.fz i]=j8 (B4 [(a8 0),(a8 1)]) n6 (a3k (eV 0) 2) [.no,.no,.hk ks vs] [.fz W,.fz B,.fz k,.fz (.lst A),.od ks vs,.fz i] T []:=by
 unfold ovN Q0
 have e:(i6 TO (aC (eV 3) (aC (eV 5) aN))) [.fz W,.fz B,.fz k,s3,.od ks vs,.fz i]=some (.ok (.lst T) [.fz W,.fz B,.fz k,.fz (.lst A),.od ks vs,.fz i]):=by
  rcases hs with rfl | rfl<;>walk_at "eh" <;>rfl
 rw[e]
 rfl
theorem b35{S:List R4}{i:Nat}{r:List Nat}(hr:∀j∈r,j<S.length):((tch S i).any fun p=>G9 (r.map fun(j:Nat)=>(Sum.inl (j:Int):i4)) (.inl p.1))=r.any fun j=>on S i j:=by
 rw[Bool.eq_iff_iff,List.any_eq_true,List.any_eq_true]
 constructor
 ·rintro⟨p,mp,hp⟩
  unfold tch at mp
  obtain⟨j,mj,rfl⟩:=List.mem_map.mp mp
  rw[List.mem_filter,List.mem_filter]at mj
  have e:G9 (r.map fun(j:Nat)=>(Sum.inl (j:Int):i4)) (.inl (j:Int))=true:=hp
  rw[a4l,decide_eq_true_eq]at e
  exact⟨j,e,by unfold on;rw[mj.1.2,mj.2];rfl⟩
 ·rintro⟨j,mj,h⟩
  unfold on at h
  rw[Bool.and_eq_true]at h
  refine⟨tJ S i j,List.mem_map.mpr ⟨j,List.mem_filter.mpr ⟨List.mem_filter.mpr ⟨List.mem_range.mpr (hr j mj),h.1⟩,h.2⟩,rfl⟩,?_⟩
  show G9 _ (Sum.inl (j:Int):i4)=true
  rw[a4l]
  exact decide_eq_true mj
theorem b36{S:List R4}{i:Nat}(hi:i<S.length)(hl:S.length≤100){r:List Nat}(hr:∀j∈r,j<S.length)(W B k:D)(s3:Sl)(hs:s3=.ow (S.map d7)∨s3=.fz (.lst (S.map d7))) :
  ovN u0 [.fz W,.fz B,.fz k,s3,.od (kR r) (vR r),.fz (.int (i:Int))]=some (.ok ((tch S i).map fun p=>D.bl (G9 (r.map fun(j:Nat)=>(Sum.inl (j:Int):i4)) (.inl p.1))) [.fz W,.fz B,.fz k,.fz (.lst (S.map d7)),.od (kR r) (vR r),.fz (.int (i:Int))]):=by
 rw[b4G u0 W B k _ s3 _ hs _ _ _ (b33 hi hl)]
 have:=y0 (b:=B4 [(a8 0),(a8 1)]) (c:=n6) (el:=a3k (eV 0) 2) (ec:=[.no,.no,.hk (kR r) (vR r)]) (eo:=[.fz W,.fz B,.fz k,.fz (.lst (S.map d7)),.od (kR r) (vR r),.fz (.int (i:Int))]) tP (fun p:Int×Int=>D.bl (G9 (r.map fun(j:Nat)=>(Sum.inl (j:Int):i4)) (.inl p.1))) (fun _=>true) (tch S i) [] (by
   have:=b2n S i
   show 0+_≤2 ^ 24;omega) (fun p _=>by
  refine⟨[.fz (.int p.1),.fz (.int p.2),.hk (kR r) (vR r)],_,rfl,rfl,fun _=>⟨[.fz (.int p.1),.fz (.int p.2),.hk (kR r) (vR r)],?_⟩⟩
  obtain⟨o,h1,h2⟩:=b4E r p.1
  rw[← h2]
  generalize kR r=KS at *
  generalize vR r=VS at *
  walk_at "eh")
 rw[List.filter_eq_self.mpr (fun _ _=>rfl),List.nil_append]at this
 exact this
theorem b37{S:List R4}{r:List Nat}{i:Nat}(hr:∀j∈r,j<S.length)(hi:i<S.length):∀j∈stp S r i,j<S.length:=by
 unfold stp
 split
 ·intro j m
  rcases List.mem_append.mp m with m | m
  ·exact hr j m
  ·rw[List.mem_singleton.mp m];exact hi
 ·exact hr
theorem b38{S:List R4}{r:List Nat}{i:Nat}(hr:r.Nodup):(stp S r i).Nodup:=by
 unfold stp
 split
 ·rename_i h
  rw[List.nodup_append]
  exact⟨hr,by simp,fun a ha b hb e=>h.2 (by rw[List.mem_singleton.mp hb]at e;rw[← e];exact ha)⟩
 ·exact hr
theorem nodup_le:∀{l m:List Nat},l.Nodup→(∀x∈l,x∈m)→l.length≤m.length
 | [],m,_,_=>Nat.zero_le _
 | a::l,m,h,s=>by
  rw[List.nodup_cons]at h
  have ih:=nodup_le (m:=m.erase a) h.2 fun x hx=>(List.mem_erase_of_ne (fun z=>h.1 (by rw[← z];exact hx))).mpr (s x (List.mem_cons_of_mem _ hx))
  rw[List.length_erase_of_mem (s a List.mem_cons_self)]at ih
  have:0<m.length:=List.length_pos_of_mem (s a List.mem_cons_self)
  rw[List.length_cons]
  omega
theorem a5s{r:List Nat}{n:Nat}(h:r.Nodup)(hr:∀j∈r,j<n):r.length≤n:=by
 have:=nodup_le (m:=List.range n) h (fun j m=>List.mem_range.mpr (hr j m))
 rwa [List.length_range]at this
theorem b2o{S:List R4}{i:Nat}(hi:i<S.length)(hl:S.length≤100){r:List Nat}(hr:∀j∈r,j<S.length)(nd:r.Nodup)(W B k:D)(s3:Sl)(hs:s3=.ow (S.map d7)∨s3=.fz (.lst (S.map d7))) :
  ovB a0J (ovN u0) [.fz W,.fz B,.fz k,s3,.od (kR r) (vR r),.fz (.int (i:Int))]=some (.nx [.fz W,.fz B,.fz k,.fz (.lst (S.map d7)),.od (kR (stp S r i)) (vR (stp S r i)),.fz (.int (i:Int))]):=by
 have hN:=b36 hi hl hr W B k s3 hs
 have hg:a0J (.lst ((tch S i).map fun p=>D.bl (G9 (r.map fun(j:Nat)=>(Sum.inl (j:Int):i4)) (.inl p.1))))=some (.bl (r.any fun j=>on S i j)):=by
  show(U9 _).map _=_
  rw[a3U,Option.map_some,List.any_map,← b35 hr]
  rfl
 have hd:W7 (kR r)<sizeLine:=by
  show(r.map _).length<2 ^ 24
  rw[List.length_map]
  have:=a5s nd hr
  omega
 cases q:r.any fun j=>on S i j with
 | false =>
  rw[q]at hg
  rw[b4F a0J _ W B k _ s3 _ _ _ _ hN hg]
  unfold stp
  rw[if_neg (by rw[q];exact fun z=>by cases z.1)]
 | true =>
  rw[q]at hg
  rw[b34 a0J _ W B k _ s3 _ _ _ _ _ hN hg hd (b4D r i)]
  unfold stp
  by_cases z:i∈r
  ·rw[if_pos z,if_neg (fun y=>y.2 z)]
  ·rw[if_neg z,if_pos ⟨q,z⟩]
def cl(S:List R4)(σ:List Nat)(k:Nat):List Nat:=σ.foldl (stp S) [k]
def fin(S:List R4)(σ:List Nat)(k:Nat):List Nat:=(List.range S.length).filter fun i=>decide (i∈cl S σ k) && decide (i≠k)
theorem a4m{S:List R4}{k:Nat}(hk:k<S.length):∀(σ:List Nat) (r:List Nat),(∀i∈σ,i<S.length)→(∀j∈r,j<S.length)→r.Nodup→(∀j∈σ.foldl (stp S) r,j<S.length)∧(σ.foldl (stp S) r).Nodup
 | [],r,_,h1,h2=>⟨h1,h2⟩
 | i::σ,r,h,h1,h2=>a4m hk σ (stp S r i) (fun j m=>h j (List.mem_cons_of_mem _ m)) (b37 h1 (h i List.mem_cons_self)) (b38 h2)
theorem b2p{S:List R4}(hl:S.length≤100){k:Nat}(hk:k<S.length){σ:List Nat}(hσ:∀i∈σ,i<S.length)(W B kd:D):∃s3 o5,(s3=.ow (S.map d7)∨s3=.fz (.lst (S.map d7))) ∧
  t5 (a8 5) (ovB a0J (ovN u0)) (iN σ) [.fz W,.fz B,.fz kd,.ow (S.map d7),.od (kR [k]) (vR [k]),.no]=some (.nx [.fz W,.fz B,.fz kd,s3,.od (kR (cl S σ k)) (vR (cl S σ k)),un o5]):=by
 obtain⟨e',h,s3,o5,h3,rfl⟩:=L6 (b:=a8 5) (body:=ovB a0J (ovN u0)) (fun(k:Nat)=>D.int (k:Int)) (fun pre e=>∃s3 o5,(s3=.ow (S.map d7)∨s3=.fz (.lst (S.map d7)))∧e=[.fz W,.fz B,.fz kd,s3,.od (kR (cl S pre k)) (vR (cl S pre k)),un o5]) σ [.fz W,.fz B,.fz kd,.ow (S.map d7),.od (kR [k]) (vR [k]),.no] ⟨_,none,.inl rfl,rfl⟩ (by
  rintro pre x post e hq ⟨s3,o5,h3,rfl⟩
  have hx:x<S.length:=hσ x (by rw[hq];simp)
  have hb:a8 5 (.int (x:Int)) [.fz W,.fz B,.fz kd,s3,.od (kR (cl S pre k)) (vR (cl S pre k)),un o5]=some [.fz W,.fz B,.fz kd,s3,.od (kR (cl S pre k)) (vR (cl S pre k)),.fz (.int (x:Int))]:=by cases o5<;>rfl
  rw[hb,z7]
  obtain⟨c1,c2⟩:=a4m hk pre [k] (fun i m=>hσ i (by rw[hq];simp[m])) (by simpa using hk) (by simp)
  have st:=b2o hx hl c1 c2 W B kd s3 h3
  refine⟨_,(congrArg C9 st).trans rfl,.fz (.lst (S.map d7)),some (.int (x:Int)),.inr rfl,?_⟩
  unfold cl
  rw[List.foldl_append]
  rfl)
 exact⟨s3,o5,h3,h⟩
theorem a3V:∀c:List Nat,a0X (c.map fun(j:Nat)=>(Sum.inl (j:Int):i4))=some (c.map fun(j:Nat)=>(j:Int))
 | []=>rfl
 | j::c=>by
  rw[List.map_cons,a0X,a3V c];rfl
theorem a95{n:Nat}{c:List Nat}(h:∀j∈c,j<n):V4 (c.map fun(j:Nat)=>(j:Int))=((List.range n).filter fun i=>decide (i∈c)).map fun(j:Nat)=>(j:Int):=by
 refine a5e (a2e _) ?_ fun x=>?_
 ·rw[List.pairwise_map]
  refine List.Pairwise.imp (fun{a b} (h:a<b)=>by omega) ((List.pairwise_lt_range (n:=n)).filter _)
 ·rw[a1r]
  constructor
  ·intro m
   obtain⟨j,mj,rfl⟩:=List.mem_map.mp m
   exact List.mem_map.mpr ⟨j,List.mem_filter.mpr ⟨List.mem_range.mpr (h j mj),decide_eq_true mj⟩,rfl⟩
  ·intro m
   obtain⟨j,mj,rfl⟩:=List.mem_map.mp m
   exact List.mem_map.mpr ⟨j,of_decide_eq_true (List.mem_filter.mp mj).2,rfl⟩
theorem b39(i k:Nat):(bZ (eB (v7 true) (eV 0) (eV 1))) [.fz (.int (i:Int)),.fz (.int (k:Int))]=some (.ok (decide (i≠k)) [.fz (.int (i:Int)),.fz (.int (k:Int))]):=by
 have e:v7 true (.int (i:Int)) (.int (k:Int))=some (.bl (decide (i≠k))):=by
  show some (D.bl (!decide (V.int (i:Int)=V.int (k:Int))))=_
  by_cases z:i=k
  ·subst z;simp
  ·have z':¬(V.int (i:Int)=V.int (k:Int)):=fun y=>by injection y with y;exact z (by omega)
   simp[z,z']
 generalize decide (i≠k)=b at *
 generalize v7=GE at *
 walk_at "eh"
theorem b4H{S:List R4}{c:List Nat}(hc:∀j∈c,j<S.length)(hl:S.length≤100)(nd:c.Nodup)(k:Nat)(W B:D)(s3 s5:Sl):(Q0 1 [2] (zN (a1s 4)) (a8 0) (bZ (eB (v7 true) (eV 0) (eV 1))) (eV 0)) [.fz W,.fz B,.fz (.int (k:Int)),s3,.od (kR c) (vR c),s5]=some (.ok (iN ((List.range S.length).filter fun i=>decide (i∈c) && decide (i≠k))) [.fz W,.fz B,.fz (.int (k:Int)),s3,.od (kR c) (vR c),s5]):=by
 have hn:a1s 4 [.fz W,.fz B,.fz (.int (k:Int)),s3,.od (kR c) (vR c),s5]=some (.ok (iN ((List.range S.length).filter fun i=>decide (i∈c))) [.fz W,.fz B,.fz (.int (k:Int)),s3,.od (kR c) (vR c),s5]):=by
  show(match a0X (c.map fun(j:Nat)=>(Sum.inl (j:Int):i4))with
   | some ns=>if ns.length<1000 then some (L2.R.ok ((V4 ns).map D.int) [Sl.fz W,.fz B,.fz (.int (k:Int)),s3,.od (kR c) (vR c),s5])else none
   | none=>none)=_
  rw[a3V]
  have:=a5s nd hc
  show(if(c.map fun(j:Nat)=>(j:Int)).length<1000 then _ else _)=_
  rw[if_pos (by rw[List.length_map];omega),a95 hc,List.map_map]
  rfl
 have:=y0 (b:=a8 0) (c:=bZ (eB (v7 true) (eV 0) (eV 1))) (el:=eV 0) (ec:=[.no,.fz (.int (k:Int))]) (eo:=[.fz W,.fz B,.fz (.int (k:Int)),s3,.od (kR c) (vR c),s5]) (fun(k:Nat)=>D.int (k:Int)) (fun(k:Nat)=>D.int (k:Int)) (fun i=>decide (i≠k)) ((List.range S.length).filter fun i=>decide (i∈c)) [] (by
   have:=List.length_filter_le (fun i=>decide (i∈c)) (List.range S.length)
   rw[List.length_range]at this
   show 0+_≤2 ^ 24;omega) (fun i _=>⟨[.fz (.int (i:Int)),.fz (.int (k:Int))],_,rfl,b39 i k,fun _=>⟨_,rfl⟩⟩)
 rw[List.nil_append,List.filter_filter]at this
 have e:((List.range S.length).filter fun i=>decide (i≠k) && decide (i∈c))=(List.range S.length).filter fun i=>decide (i∈c) && decide (i≠k):=List.filter_congr fun i _=>Bool.and_comm _ _
 rw[e]at this
 unfold Q0 zN
 rw[hn]
 exact this
theorem b5n(SP SO:List D→Option R1)(LB:SF)(N:NF)(W B k:D)(A σ R:List D)(ks:DK)(vs:List D)(κ:i4)(e:DE)(h1:SP [W,B]=some (.own A))(hk:a0U k=some κ)(h2:SO [W,B]=some (.own σ))(h3:t5 (a8 5) LB σ [.fz W,.fz B,.fz k,.ow A,.od (.inl [κ]) [.bl true],.no]=some (.nx e))(h4:N e=some (.ok R e)) :
  fD 6 3 (d5 (a4e 3 SP (aC (eV 0) (aC (eV 1) aN))) (d5 (a0W 4 (Z8 2)) (d5 (M3 (i6 SO (aC (eV 0) (aC (eV 1) aN)))  (a8 5) LB) (S5 N)))) [W,B,k]=some (.own R):=by
 have hd:Z8 2 [.fz W,.fz B,.fz k,.ow A,.no,.no]=some (.ok (.inl [κ],[.bl true]) [.fz W,.fz B,.fz k,.ow A,.no,.no]):=by
  show(match a0U k with | some κ=>some (L2.R.ok ((.inl [κ],[.bl true]):DK×List D) [Sl.fz W,.fz B,.fz k,.ow A,.no,.no]) | none=>none)=_
  rw[hk]
 have hs:(a0W 4 (Z8 2)) [.fz W,.fz B,.fz k,.ow A,.no,.no]=some (.nx [.fz W,.fz B,.fz k,.ow A,.od (.inl [κ]) [.bl true],.no]):=by
  unfold a0W
  rw[hd]
  rfl
 have hf:(M3 (i6 SO (aC (eV 0) (aC (eV 1) aN)))  (a8 5) LB) [.fz W,.fz B,.fz k,.ow A,.od (.inl [κ]) [.bl true],.no]=some (.nx e):=by
  unfold M3
  have:(i6 SO (aC (eV 0) (aC (eV 1) aN))) [.fz W,.fz B,.fz k,.ow A,.od (.inl [κ]) [.bl true],.no]=some (.ok (.lst σ) [.fz W,.fz B,.fz k,.ow A,.od (.inl [κ]) [.bl true],.no]):=by
   clear h3 hs hd
   walk_at "eh"
  rw[this,T4]
  exact h3
 generalize M3 (i6 SO (aC (eV 0) (aC (eV 1) aN))) (a8 5) LB=FF at *
 generalize a0W 4 (Z8 2)=GG at *
 clear h3 hd hk
 walk_at "eh"
theorem b2q(L:List Q)(hl:L.length<64):∃σ:List Nat,σ.Perm (List.range L.length)∧σ.Pairwise (fun a b=>HT.lexLt [yk L b,(b:Int)] [yk L a,(a:Int)]=false)∧∀k,k<L.length→C6 [.lst (L.map wQ),.lst (L.map pQ),.int (k:Int)]=some (.own (iN (fin (L.map rQ) σ k))):=by
 obtain⟨σ,h1,h2,h3⟩:=b32 L
 refine⟨σ,h1,h2,fun k hk=>?_⟩
 have hl':(L.map rQ).length≤100:=by rw[List.length_map];omega
 have hk':k<(L.map rQ).length:=by rw[List.length_map];exact hk
 have hσ:∀i∈σ,i<(L.map rQ).length:=fun i m=>by rw[List.length_map];exact List.mem_range.mp (h1.mem_iff.mp m)
 have so:=b4w (.lst (L.map wQ)) (L.map pQ) _ (ksL L L.length) L.length (by rw[List.length_map]) hl (b30 L L.length (Nat.le_refl _)) (b31 L _) h3
 obtain⟨s3,o5,hs,lp⟩:=b2p hl' hk' hσ (.lst (L.map wQ)) (.lst (L.map pQ)) (.int (k:Int))
 obtain⟨c1,c2⟩:=a4m hk' σ [k] hσ (by simpa using hk) (by simp)
 have sp:=a93 L (by omega)
 have e:L.map sQ=(L.map rQ).map d7:=by rw[List.map_map];rfl
 rw[e]at sp
 exact b5n F6 D0 _ _ _ _ _ _ _ _ (kR (cl (L.map rQ) σ k)) (vR (cl (L.map rQ) σ k)) (.inl (k:Int)) _ sp rfl so lp (b4H c1 hl' c2 k _ _ s3 (un o5))
theorem a8M(i:Nat)(r:List Nat)(neg:Bool):X5 neg (.int (i:Int)) (.lst (iN r))=some (.bl (if neg then !decide (i∈r)else decide (i∈r))):=by
 have hf:(iN r).all j4=true:=by
  rw[List.all_eq_true]
  intro d m
  obtain⟨j,_,rfl⟩:=List.mem_map.mp m
  rfl
 have hi:inD (.int (i:Int)) (iN r)=decide (i∈r):=by
  unfold inD
  rw[Bool.eq_iff_iff,List.any_eq_true,decide_eq_true_eq]
  constructor
  ·rintro⟨d,m,h⟩
   obtain⟨j,mj,rfl⟩:=List.mem_map.mp m
   have:j=i:=by
    have h:P8 (.int (j:Int)) (.int (i:Int))=true:=h
    simp[P8]at h
    omega
   rw[← this];exact mj
  ·intro m
   exact⟨_,List.mem_map.mpr ⟨i,m,rfl⟩,by simp[P8]⟩
 show(if(true && (iN r).all j4)=true then _ else _)=_
 rw[hf,hi]
 rfl
abbrev duB(TC:List D→Option R1)(GN:Bool→D→D→Option D):SF:=(D2 (G6 (bZ (eBW (GN true) (eV 4) 2)) (G6 (bZ (eB (v7 false) (eB n4 (l6 i5 0 (eV 5)) (eC (.int 3))) (eB n4 (l6 i5 0 (eV 4)) (eC (.int 1))))) (bZ (eB gGt (i6 TC (aC (l6 i5 0 (eV 5)) (aC (l6 i5 0 (eV 4)) aN))) (eC (.int 0)))))) (X1 2 (eV 4)) D1)
theorem b2r(TC:List D→Option R1)(GN:Bool→D→D→Option D)(A H:List D)(k p:D)(i j:Int)(a s:R4)(u:Int)(m:Bool)(h0:atI A j=some (d7 a))(h1:atI A i=some (d7 s))(h2:TC [d7 a,d7 s]=some (.ret (.int u)))(hg:GN true (.int i) (.lst H)=some (.bl (!m)))(hl:H.length<sizeLine) :
  duB TC GN [.fz (.lst A),.fz k,.ow H,.fz p,.fz (.int i),.fz (.int j)]=some (.nx [.fz (.lst A),.fz k,.ow (if m=false∧a.2.2.2=s.2.1∧0<u then H++[.int i]else H),.fz p,.fz (.int i),.fz (.int j)]):=by
 unfold duB
 cases m
 ·by_cases z:a.2.2.2=s.2.1
  ·by_cases y:0<u
   ·rw[if_pos ⟨rfl,z,y⟩]
    have y':u > 0:=y
    walk_at "eh"
   ·rw[if_neg (fun w=>y w.2.2)]
    have y':¬u > 0:=y
    walk_at "eh"
  ·rw[if_neg (fun w=>z w.2.1)]
   walk_at "eh"
 ·rw[if_neg (fun w=>by cases w.1)]
  walk_at "eh"
theorem b4I{S:List R4}(hl:S.length≤100){i:Nat}(hi:i<S.length){r:List Nat}(hr:∀j∈r,j<S.length)(nd:r.Nodup)(k p:D)(o5:Option D):∃o5',t5 (a8 5) (duB u7 X5) (iN r) [.fz (.lst (S.map d7)),.fz k,.ow (iN r),.fz p,.fz (.int (i:Int)),un o5]=some (.nx [.fz (.lst (S.map d7)),.fz k,.ow (iN (stp S r i)),.fz p,.fz (.int (i:Int)),un o5']):=by
 obtain⟨e',h,o,rfl⟩:=L6 (b:=a8 5) (body:=duB u7 X5) (fun(k:Nat)=>D.int (k:Int)) (fun pre e=>∃o5,e=[.fz (.lst (S.map d7)),.fz k,.ow (iN (if pre.any (fun j=>on S i j)=true∧i ∉ r then r++[i]else r)),.fz p,.fz (.int (i:Int)),un o5]) r [.fz (.lst (S.map d7)),.fz k,.ow (iN r),.fz p,.fz (.int (i:Int)),un o5] ⟨o5,by simp⟩ (by
  rintro pre x post e hq ⟨o5,rfl⟩
  have hx:x<S.length:=hr x (by rw[hq];simp)
  have hb:∀H:List D,a8 5 (.int (x:Int)) [.fz (.lst (S.map d7)),.fz k,.ow H,.fz p,.fz (.int (i:Int)),un o5]=some [.fz (.lst (S.map d7)),.fz k,.ow H,.fz p,.fz (.int (i:Int)),.fz (.int (x:Int))]:=fun H=>by cases o5<;>rfl
  rw[hb,z7]
  have hlen:(iN (if pre.any (fun j=>on S i j)=true∧i ∉ r then r++[i]else r)).length<sizeLine:=by
   have:=a5s nd hr
   rw[List.length_map]
   show _<2 ^ 24
   split
   ·rw[List.length_append,List.length_singleton];omega
   ·omega
  have st:=b2r u7 X5 (S.map d7) (iN (if pre.any (fun j=>on S i j)=true∧i ∉ r then r++[i]else r)) k p i x (t6 S x) (t6 S i) _ (decide (i∈(if pre.any (fun j=>on S i j)=true∧i ∉ r then r++[i]else r))) (a7s hx) (a7s hi) (b4x _ _) (a8M i _ true) hlen
  refine⟨_,(congrArg C9 st).trans rfl,some (.int (x:Int)),?_⟩
  have on_x:on S i x=true↔(t6 S x).2.2.2=(t6 S i).2.1∧0<shw (t6 S x) (t6 S i):=by
   unfold on q1 q2
   rw[Bool.and_eq_true,decide_eq_true_eq,decide_eq_true_eq]
  have key:(if decide (i∈(if pre.any (fun j=>on S i j)=true∧i ∉ r then r++[i]else r))=false∧(t6 S x).2.2.2=(t6 S i).2.1∧0<shw (t6 S x) (t6 S i)then iN (if pre.any (fun j=>on S i j)=true∧i ∉ r then r++[i]else r)++[D.int (i:Int)]else iN (if pre.any (fun j=>on S i j)=true∧i ∉ r then r++[i]else r))=iN (if(pre++[x]).any (fun j=>on S i j)=true∧i ∉ r then r++[i]else r):=by
   rw[List.any_append,List.any_cons,List.any_nil,Bool.or_false]
   by_cases z:i∈r
   ·have n:∀b:Bool,(if b=true∧i ∉ r then r++[i]else r)=r:=fun b=>if_neg fun y=>y.2 z
    rw[n,n]
    rw[if_neg (fun w=>by have:=w.1;rw[decide_eq_false_iff_not]at this;exact this z)]
   ·cases hp:pre.any (fun j=>on S i j)with
    | true =>
     have n:(if true=true∧i ∉ r then r++[i]else r)=r++[i]:=if_pos ⟨rfl,z⟩
     rw[Bool.true_or,n]
     exact if_neg (fun w=>by have:=w.1;rw[decide_eq_false_iff_not]at this;exact this (by simp))
    | false =>
     have n:(if false=true∧i ∉ r then r++[i]else r)=r:=if_neg (fun w=>by cases w.1)
     rw[Bool.false_or,n]
     by_cases o:on S i x=true
     ·have n2:(if on S i x=true∧i ∉ r then r++[i]else r)=r++[i]:=if_pos ⟨o,z⟩
      rw[n2]
      refine(if_pos ⟨decide_eq_false z,on_x.mp o⟩).trans ?_
      unfold iN
      rw[List.map_append]
      rfl
     ·have n2:(if on S i x=true∧i ∉ r then r++[i]else r)=r:=if_neg (fun w=>o w.1)
      rw[n2]
      exact if_neg (fun w=>o (on_x.mpr w.2))
  rw[key]
  rfl)
 exact⟨o,h⟩
abbrev pD2(S:List R4)(i:Nat):D:=.tup [.int (t6 S i).2.1,.int (i:Int)]
abbrev dvB(LB:SF):SF:=(d5 (v8 4 (eB n4 (eV 3) (eC (.int 1)))) (M3 (zN (nCV N6 2))  (a8 5) LB))
theorem b2s(LB:SF)(A H H':List D)(k y i:D)(o4 o5 o5':Option D)(hg:N6 (.lst H)=some H)(h:t5 (a8 5) LB H [.fz A',.fz k,.ow H,.fz (.tup [y,i]),.fz i,un o5]=some (.nx [.fz A',.fz k,.ow H',.fz (.tup [y,i]),.fz i,un o5'])) :
  dvB LB [.fz A',.fz k,.ow H,.fz (.tup [y,i]),un o4,un o5]=some (.nx [.fz A',.fz k,.ow H',.fz (.tup [y,i]),.fz i,un o5']):=by
 have hf:(M3 (zN (nCV N6 2))  (a8 5) LB) [.fz A',.fz k,.ow H,.fz (.tup [y,i]),.fz i,un o5]=some (.nx [.fz A',.fz k,.ow H',.fz (.tup [y,i]),.fz i,un o5']):=by
  unfold M3 zN nCV
  show D3 (bnd (Z1 (N6 (.lst H)) _) _) _=_
  rw[hg,R5,T3,T4]
  exact h
 have hs:(v8 4 (eB n4 (eV 3) (eC (.int 1)))) [.fz A',.fz k,.ow H,.fz (.tup [y,i]),un o4,un o5]=some (.nx [.fz A',.fz k,.ow H,.fz (.tup [y,i]),.fz i,un o5]):=by
  cases o4<;>rfl
 unfold dvB
 rw[a6k,hs,a6l]
 exact hf
theorem b2t{S:List R4}(hl:S.length≤100){k:Nat}(hk:k<S.length){σ:List Nat}(hσ:∀i∈σ,i<S.length)(kd:D):∃o3 o4 o5,t5 (a8 3) (dvB (duB u7 X5)) (σ.map (pD2 S)) [.fz (.lst (S.map d7)),.fz kd,.ow (iN [k]),.no,.no,.no]=some (.nx [.fz (.lst (S.map d7)),.fz kd,.ow (iN (cl S σ k)),un o3,un o4,un o5]):=by
 obtain⟨e',h,o3,o4,o5,rfl⟩:=L6 (b:=a8 3) (body:=dvB (duB u7 X5)) (pD2 S) (fun pre e=>∃o3 o4 o5,e=[.fz (.lst (S.map d7)),.fz kd,.ow (iN (cl S pre k)),un o3,un o4,un o5]) σ [.fz (.lst (S.map d7)),.fz kd,.ow (iN [k]),.no,.no,.no] ⟨none,none,none,rfl⟩ (by
  rintro pre x post e hq ⟨o3,o4,o5,rfl⟩
  have hx:x<S.length:=hσ x (by rw[hq];simp)
  have hb:a8 3 (pD2 S x) [.fz (.lst (S.map d7)),.fz kd,.ow (iN (cl S pre k)),un o3,un o4,un o5]=some [.fz (.lst (S.map d7)),.fz kd,.ow (iN (cl S pre k)),.fz (pD2 S x),un o4,un o5]:=by cases o3<;>rfl
  rw[hb,z7]
  obtain⟨c1,c2⟩:=a4m hk pre [k] (fun i m=>hσ i (by rw[hq];simp[m])) (by simpa using hk) (by simp)
  obtain⟨o5',st⟩:=b4I hl hx c1 c2 kd (pD2 S x) o5
  have st2:=b2s (A':=.lst (S.map d7)) (duB u7 X5) [] (iN (cl S pre k)) _ kd _ _ o4 o5 o5' rfl st
  refine⟨_,(congrArg C9 st2).trans rfl,some (pD2 S x),some (.int (x:Int)),o5',?_⟩
  unfold cl
  rw[List.foldl_append]
  rfl)
 exact⟨o3,o4,o5,h⟩
theorem b2u(n:Nat)(r:Nat→Int):Z6 ((List.range n).map fun k=>.tup [.int (r k),.int (k:Int)])=some ((List.range n).map fun k=>[r k,(k:Int)]):=by
 have:=a3K (ks:=(List.range n).map fun k=>[r k,(k:Int)]) (fun k hk=>by
  obtain⟨i,_,rfl⟩:=List.mem_map.mp hk
  exact nofun)
 rw[List.map_map]at this
 exact this
theorem b4J{S:List R4}(hl:S.length<64){σ:List Nat}(hp:σ.Perm (List.range S.length))(hs:σ.Pairwise (fun a b=>HT.lexLt [(t6 S b).2.1,(b:Int)] [(t6 S a).2.1,(a:Int)]=false)):V8 (.lst ((List.range S.length).map (pD2 S)))=some (σ.map (pD2 S)):=by
 have ho:a1H ((List.range S.length).map fun k=>[(t6 S k).2.1,(k:Int)])=σ.map fun k=>[(t6 S k).2.1,(k:Int)]:=U5 ((a0T _).trans (hp.symm.map _)) (X9 _) (by rw[List.pairwise_map];exact hs)
 unfold V8
 have hk:=b2u S.length (fun k=>(t6 S k).2.1)
 simp only[show((List.range S.length).map (pD2 S))=(List.range S.length).map fun k=>D.tup [.int (t6 S k).2.1,.int (k:Int)]from rfl,hk]
 rw[if_pos (by rw[List.length_map,List.length_range];exact hl),ho,List.map_map]
 rfl
theorem a3n(m:Nat):B5 0 m=(List.range m).map fun(k:Nat)=>D.int (k:Int):=by
 unfold B5
 refine List.map_congr_left fun i _=>?_
 rw[Int.zero_add]
theorem b3_(A:List D)(i:Int)(s:R4)(h:atI A i=some (d7 s)):(eT (aC (eB n4 (l6 i5 1 (eV 0)) (eC (.int 1))) (aC (eV 0) aN))) [.fz (.int i),.fz (.lst A)]=some (.ok (.tup [.int s.2.1,.int i]) [.fz (.int i),.fz (.lst A)]):=by
 walk_at "eh"
theorem b4K{S:List R4}(hl:S.length≤100)(kd:D)(H:List D):(K0 G7 1 [0] (aC (p6 k8 0) aN) (a8 0) n6 (eT (aC (eB n4 (l6 i5 1 (eV 0)) (eC (.int 1))) (aC (eV 0) aN)))) [.fz (.lst (S.map d7)),.fz kd,.ow H,.no,.no,.no]=some (.ok ((List.range S.length).map (pD2 S)) [.fz (.lst (S.map d7)),.fz kd,.ow H,.no,.no,.no]):=by
 have h0:(aC (p6 k8 0) aN) [.fz (.lst (S.map d7)),.fz kd,.ow H,.no,.no,.no]=some (.ok [.int ((S.map d7).length:Int)] [.fz (.lst (S.map d7)),.fz kd,.ow H,.no,.no,.no]):=rfl
 rw[List.length_map]at h0
 unfold K0
 rw[h0,T3,Y1 (by omega)]
 show j8 (a8 0) n6 _ [.no,.fz (.lst (S.map d7))] _ (B5 0 S.length) []=_
 rw[a3n]
 have:=y0 (b:=a8 0) (c:=n6) (el:=(eT (aC (eB n4 (l6 i5 1 (eV 0)) (eC (.int 1))) (aC (eV 0) aN)))) (ec:=[.no,.fz (.lst (S.map d7))]) (eo:=[.fz (.lst (S.map d7)),.fz kd,.ow H,.no,.no,.no]) (fun(k:Nat)=>D.int (k:Int)) (pD2 S) (fun _=>true) (List.range S.length) [] (by
   rw[List.length_range]
   show 0+_≤2 ^ 24;omega) (fun i m=>⟨[.fz (.int (i:Int)),.fz (.lst (S.map d7))],_,rfl,rfl,fun _=>⟨_,b3_ (S.map d7) i (t6 S i) (a7s (List.mem_range.mp m))⟩⟩)
 rw[List.filter_eq_self.mpr (fun _ _=>rfl),List.nil_append]at this
 exact this
theorem b5o(i k:Nat):v7 true (.int (i:Int)) (.int (k:Int))=some (.bl (decide (i≠k))):=by
 show some (D.bl (!decide (V.int (i:Int)=V.int (k:Int))))=_
 by_cases z:i=k
 ·subst z;simp
 ·have z':¬(V.int (i:Int)=V.int (k:Int)):=fun y=>by injection y with y;exact z (by omega)
  simp[z,z']
theorem b4L(GN:Bool→D→D→Option D)(GE:Bool→D→D→Option D)(i k:D)(H:List D)(a b:Bool)(h1:GN false i (.lst H)=some (.bl a))(h2:GE true i k=some (.bl b)):(G6 (bZ (eBW (GN false) (eV 0) 1)) (bZ (eB (GE true) (eV 0) (eV 2)))) [.fz i,.hd H,.fz k]=some (.ok (a && b) [.fz i,.hd H,.fz k]):=by
 cases a
 ·walk_at "eh"
  rfl
 ·walk_at "eh"
theorem b4M{S:List R4}(hl:S.length≤100)(c:List Nat)(k:Nat)(s3 s4 s5:Sl):(K0 G7 1 [2,1] (aC (p6 k8 0) aN) (a8 0) (G6 (bZ (eBW (X5 false) (eV 0) 1)) (bZ (eB (v7 true) (eV 0) (eV 2)))) (eV 0)) [.fz (.lst (S.map d7)),.fz (.int (k:Int)),.ow (iN c),s3,s4,s5]=some (.ok (iN ((List.range S.length).filter fun i=>decide (i∈c) && decide (i≠k))) [.fz (.lst (S.map d7)),.fz (.int (k:Int)),.ow (iN c),s3,s4,s5]):=by
 have h0:(aC (p6 k8 0) aN) [.fz (.lst (S.map d7)),.fz (.int (k:Int)),.ow (iN c),s3,s4,s5]=some (.ok [.int ((S.map d7).length:Int)] [.fz (.lst (S.map d7)),.fz (.int (k:Int)),.ow (iN c),s3,s4,s5]):=rfl
 rw[List.length_map]at h0
 unfold K0
 rw[h0,T3,Y1 (by omega)]
 show j8 (a8 0) _ _ [.no,.hd (iN c),.fz (.int (k:Int))] _ (B5 0 S.length) []=_
 rw[a3n]
 have:=y0 (b:=a8 0) (c:=(G6 (bZ (eBW (X5 false) (eV 0) 1)) (bZ (eB (v7 true) (eV 0) (eV 2))))) (el:=eV 0) (ec:=[.no,.hd (iN c),.fz (.int (k:Int))]) (eo:=[.fz (.lst (S.map d7)),.fz (.int (k:Int)),.ow (iN c),s3,s4,s5]) (fun(k:Nat)=>D.int (k:Int)) (fun(k:Nat)=>D.int (k:Int)) (fun i=>decide (i∈c) && decide (i≠k)) (List.range S.length) [] (by
   rw[List.length_range]
   show 0+_≤2 ^ 24;omega) (fun i m=>⟨[.fz (.int (i:Int)),.hd (iN c),.fz (.int (k:Int))],_,rfl,b4L X5 v7 _ _ _ _ _ (a8M i c false) (b5o i k),fun _=>⟨_,rfl⟩⟩)
 rw[List.nil_append]at this
 exact this
theorem b5p(GS:D→Option (List D))(N1 N2:NF)(LB:SF)(A k:D)(X Y R:List D)(e:DE)(h1:N1 [.fz A,.fz k,.ow [k],.no,.no,.no]=some (.ok X [.fz A,.fz k,.ow [k],.no,.no,.no]))(h2:GS (.lst X)=some Y)(h3:t5 (a8 3) LB Y [.fz A,.fz k,.ow [k],.no,.no,.no]=some (.nx e))(h4:N2 e=some (.ok R e)) :
  fD 6 2 (d5 (u4 2 (eL (aC (eV 1) aN))) (d5 (M3 (zN (nCB GS (zN N1)))  (a8 3) LB) (S5 N2))) [A,k]=some (.own R):=by
 have hf:(M3 (zN (nCB GS (zN N1)))  (a8 3) LB) [.fz A,.fz k,.ow [k],.no,.no,.no]=some (.nx e):=by
  unfold M3 zN nCB
  simp only[h1,T3,h2,R5,T4]
  exact h3
 generalize M3 (zN (nCB GS (zN N1))) (a8 3) LB=FF at *
 clear h3
 walk_at "eh"
theorem b4a{S:List R4}(hl:S.length<64){σ:List Nat}(hp:σ.Perm (List.range S.length))(hs:σ.Pairwise (fun a b=>HT.lexLt [(t6 S b).2.1,(b:Int)] [(t6 S a).2.1,(a:Int)]=false)){k:Nat}(hk:k<S.length):B2 [.lst (S.map d7),.int (k:Int)]=some (.own (iN (fin S σ k))):=by
 have hσ:∀i∈σ,i<S.length:=fun i m=>List.mem_range.mp (hp.mem_iff.mp m)
 obtain⟨o3,o4,o5,lp⟩:=b2t (by omega) hk hσ (.int (k:Int))
 exact b5p V8 _ _ _ _ _ _ _ _ _ (b4K (by omega) _ _) (b4J hl hp hs) lp (b4M (by omega) (cl S σ k) k (un o3) (un o4) (un o5))
theorem b0N(L:List Q)(k:Nat)(hk:k<L.length):(t6 (L.map rQ) k).2.1=yk L k:=by
 unfold t6 yk gq
 rw[List.getD_eq_getElem?_getD,List.getElem?_map,List.getElem?_eq_getElem hk,List.getD_eq_getElem?_getD,List.getElem?_eq_getElem hk]
 rfl
theorem b2v(L:List Q)(hl:L.length<64):∃f:Nat→List Nat,∀k,k<L.length→(f k).length≤63∧C6 [.lst (L.map wQ),.lst (L.map pQ),.int (k:Int)]=some (.own (iN (f k)))∧B2 [.lst (L.map sQ),.int (k:Int)]=some (.own (iN (f k))):=by
 obtain⟨σ,h1,h2,h3⟩:=b2q L hl
 refine⟨fin (L.map rQ) σ,fun k hk=>⟨?_,h3 k hk,?_⟩⟩
 ·have:=List.length_filter_le (fun i=>decide (i∈cl (L.map rQ) σ k) && decide (i≠k)) (List.range (L.map rQ).length)
  rw[List.length_range]at this
  have e2:(L.map rQ).length=L.length:=List.length_map ..
  unfold fin
  omega
 ·have e:L.map sQ=(L.map rQ).map d7:=by rw[List.map_map];rfl
  rw[e]
  refine b4a (by rw[List.length_map];exact hl) (by rw[List.length_map];exact h1) ?_ (by rw[List.length_map];exact hk)
  refine List.Pairwise.imp_of_mem (fun{a b} ma mb h=>?_) h2
  rw[b0N L a (List.mem_range.mp (h1.mem_iff.mp ma)),b0N L b (List.mem_range.mp (h1.mem_iff.mp mb))]
  exact h
abbrev alB(WH:List D→Option R1):SF:=(D2 (bOr (R6 (bZ (i6 WH (aC (l6 i5 0 (eV 2)) aN)))) (bZ (eB (v7 true) (l6 i5 0 (eV 2)) (l6 i5 1 (eV 2))))) (z0 (eC (.bl false))) D1)
theorem b2w(WH:List D→Option R1)(A:List D)(i x:Int)(h:atI A i=some (.int x))(hw:WH [.int x]=some (.ret (.bl true))):alB WH [.fz (.lst A),.fz (.lst A),.fz (.int i)]=some (.nx [.fz (.lst A),.fz (.lst A),.fz (.int i)]):=by
 unfold alB
 walk_at "eh"
theorem b5q(LP:SF)(A:List D)(e:DE)(h:LP [.fz (.lst A),.fz (.lst A),.no]=some (.nx e)):fD 3 2 (d5 (D2 (bOr (R6 (bZ (a0Q 0 "list"))) (bZ (eB (v7 true) (p6 k8 0) (p6 k8 1)))) (z0 (eC (.bl false))) D1) (d5 LP (z0 (eC (.bl true))))) [.lst A,.lst A]=some (.ret (.bl true)):=by
 walk_at "eh"
theorem a96(f:List Nat)(hl:f.length≤100):w6 [.lst (iN f),.lst (iN f)]=some (.ret (.bl true)):=by
 obtain⟨e',h,o,rfl⟩:=L6 (b:=a8 2) (body:=alB E1) (fun(k:Nat)=>D.int (k:Int)) (fun pre e=>∃o,e=[.fz (.lst (iN f)),.fz (.lst (iN f)),un o]) (List.range f.length) [.fz (.lst (iN f)),.fz (.lst (iN f)),.no] ⟨none,rfl⟩ (by
  rintro pre x post e hq ⟨o,rfl⟩
  have hx:x<f.length:=List.mem_range.mp (by rw[hq];simp)
  have hb:a8 2 (.int (x:Int)) [.fz (.lst (iN f)),.fz (.lst (iN f)),un o]=some [.fz (.lst (iN f)),.fz (.lst (iN f)),.fz (.int (x:Int))]:=by cases o<;>rfl
  rw[hb,z7]
  have a1:atI (iN f) (x:Int)=some (.int (f[x]:Int)):=F7 (by rw[List.getElem?_map,List.getElem?_eq_getElem hx];rfl)
  exact⟨_,(congrArg C9 (b2w E1 (iN f) x _ a1 (a94 _))).trans rfl,some (.int (x:Int)),rfl⟩)
 refine b5q _ (iN f) [.fz (.lst (iN f)),.fz (.lst (iN f)),un o] ?_
 ·have h0:(aC (p6 k8 1) aN) [.fz (.lst (iN f)),.fz (.lst (iN f)),.no]=some (.ok [.int ((iN f).length:Int)] [.fz (.lst (iN f)),.fz (.lst (iN f)),.no]):=rfl
  rw[List.length_map]at h0
  rw[a0t h0 (Y1 (by omega)),a3n]
  exact h
abbrev edB(MX:List D→Option R1)(GP:D→D→Option D):SF:=(d5 (v8 3 (eB u9 (eC (.int 1)) (eB m5 (i6 MX (aC (eV 0) (aC (eV 2) aN))) (eC (.int 9))))) (d5 (D2 (bZ (eB (v7 false) (eB m5 (eB A7 (eV 0) (eC (.int 9))) (eC (.int 3))) (eC (.int 2)))) (v8 3 (eB u9 (eC (.int 1)) (eB m5 (i6 MX (aC (eV 0) (aC (eV 2) aN))) (eB GP (eC (.int 10)) (eC (.int 5)))))) D1) (X1 1 (eB u9 (l6 i5 1 (eU W9 (eC (.int 1)))) (eV 3)))))
theorem b2x(MX:List D→Option R1)(GP:D→D→Option D)(c k m B l:Int)(E:List D)(o3:Option D)(hm:MX [.int c,.int k]=some (.ret (.int m)))(hB:GP (.int 10) (.int 5)=some (.int B))(hp:0<B)(hl:atI E (-1)=some (.int l))(hn:E.length<sizeLine) :
  ∃v x:Int,edB MX GP [.fz (.int c),.ow E,.fz (.int k),un o3]=some (.nx [.fz (.int c),.ow (E++[.int x]),.fz (.int k),.fz (.int v)]):=by
 unfold edB
 by_cases z:c/9%3=2
 ·refine⟨1+m%B,l+(1+m%B),?_⟩
  walk_at "eh"
 ·refine⟨1+m%9,l+(1+m%9),?_⟩
  walk_at "eh"
abbrev iI(l:List Int):List D:=l.map D.int
theorem b2y{E:List Int}(h:E≠[]):∃l,atI (iI E) (-1)=some (.int l):=by
 rcases List.eq_nil_or_concat E with z | ⟨xs,l,rfl⟩
 ·exact absurd z h
 ·refine⟨l,?_⟩
  unfold iI
  rw[List.concat_eq_append,List.map_append]
  exact a8U _ _
theorem b5r(LP:SF)(c:Int)(E:List D)(s2 s3:Sl)(h:LP [.fz (.int c),.ow [.int 0],.no,.no]=some (.nx [.fz (.int c),.ow E,s2,s3])):fD 4 1 (d5 (u4 1 (eL (aC (eC (.int 0)) aN))) (d5 LP (a0K 1))) [.int c]=some (.own E):=by
 walk_at "eh"
theorem b5s(c:Int)(s2 s3:Sl)(E:List D):(aC (eB u9 (eC (.int 2)) (eB m5 (eV 0) (eC (.int 9)))) aN) [.fz (.int c),.ow E,s2,s3]=some (.ok [.int (2+c%9)] [.fz (.int c),.ow E,s2,s3]):=by
 walk_at "eh"
theorem a97(c:Int):∃E:List Int,3≤E.length∧E.length≤11∧K3 [.int c]=some (.own (iI E)):=by
 obtain⟨n,hn⟩:∃n:Nat,2+c%9=(n:Int):=⟨(2+c%9).toNat,by omega⟩
 have n1:2≤n:=by omega
 have n2:n≤10:=by omega
 obtain⟨B,hB,eB⟩:∃B:Int,a0I (.int 10) (.int 5)=some (.int B)∧B=10 ^ 5:=⟨_,a29 (by decide +kernel),rfl⟩
 obtain⟨e',h,E,o2,o3,hE,rfl⟩:=L6 (b:=a8 2) (body:=edB r9 a0I) (fun(k:Nat)=>D.int (k:Int)) (fun pre e=>∃(E:List Int) (o2 o3:Option D),E.length=pre.length+1∧e=[.fz (.int c),.ow (iI E),un o2,un o3]) (List.range n) [.fz (.int c),.ow [.int 0],.no,.no] ⟨[0],none,none,rfl,rfl⟩ (by
  rintro pre x post e hq ⟨E,o2,o3,hE,rfl⟩
  have hx:x<n:=List.mem_range.mp (by rw[hq];simp)
  have hp:pre.length<n:=by have:=congrArg List.length hq;simp at this;omega
  have hb:a8 2 (.int (x:Int)) [.fz (.int c),.ow (iI E),un o2,un o3]=some [.fz (.int c),.ow (iI E),.fz (.int (x:Int)),un o3]:=by cases o2<;>rfl
  rw[hb,z7]
  obtain⟨l,hl⟩:=b2y (E:=E) (fun z=>by rw[z]at hE;simp at hE)
  obtain⟨v,y,st⟩:=b2x r9 a0I c x _ B l (iI E) o3 (a5o c x (by omega) (by omega)) hB (by rw[eB];decide) hl (by rw[List.length_map];show _<2 ^ 24;omega)
  refine⟨_,(congrArg C9 st).trans rfl,E++[y],some (.int (x:Int)),some (.int v),by simp[hE],?_⟩
  unfold iI
  rw[List.map_append]
  rfl)
 rw[List.length_range]at hE
 refine⟨E,by omega,by omega,b5r _ c _ (un o2) (un o3) ?_⟩
 have h0:=b5s c .no .no [.int 0]
 rw[hn]at h0
 rw[a0t h0 (Y1 (by omega)),a3n]
 exact h
theorem a98{n k:Nat}(h:k<n):Q6 n (k:Int)=some k:=by
 unfold Q6
 rw[if_pos (by omega),if_pos (by omega),Int.toNat_natCast]
theorem a3W{c:BF}{body:SF}(I:Nat→DE→Prop)(Fin:DE→Prop)(hs:∀m e,I m e→(∃e1 e2,c e=some (.ok true e1)∧C9 (body e1)=some (.nx e2)∧∃m',m'<m∧I m' e2)∨(∃e1,c e=some (.ok false e1)∧Fin e1)):∀(fuel m:Nat) (e:DE),m<fuel→I m e→∃e',F8 c body fuel e=some (.nx e')∧Fin e'
 | 0,_,_,h,_=>absurd h (Nat.not_lt_zero _)
 | fuel+1,m,e,h,hi=>by
  rcases hs m e hi with⟨e1,e2,h1,h2,m',hm,h3⟩ | ⟨e1,h1,h2⟩
  ·obtain⟨e',h4,h5⟩:=a3W I Fin hs fuel m' e2 (by omega) h3
   refine⟨e',?_,h5⟩
   rw[F8,h1,T4,if_pos rfl]
   unfold C9 at h2
   split at h2
   ·rename_i q
    cases h2
    rw[q];exact h4
   ·rw[h2];exact h4
  ·exact⟨e1,by rw[F8,h1,T4];rfl,h2⟩
abbrev wlC:BF:=(G6 (bZ (eB gLt (eV 7) (p6 k8 3))) (G6 (bZ (eB (v7 false) (l6 i5 3 (eV 7)) (l6 i5 3 (eV 6)))) (bZ (eB gLt (eV 7) (eB u9 (eB u9 (eV 6) (eC (.int 1))) (eB m5 (eV 5) (eC (.int 6))))))))
abbrev wlB:SF:=(v8 7 (eB u9 (eV 7) (eC (.int 1))))
abbrev C7(C E:D)(u:Int)(T Sp:List D)(s5 s6 s7 s8 s9 s10:Sl):DE:=[.fz C,.fz E,.fz (.int u),.ow T,.ow Sp,s5,s6,s7,s8,s9,s10]
theorem b4d(C E:D)(u:Int)(T Sp:List D)(c s en:Int)(s8 s9 s10:Sl)(t ts:Int)(h1:atI T s=some (.int ts))(h2:en<(T.length:Int)→atI T en=some (.int t)):∃b:Bool,wlC (C7 C E u T Sp (.fz (.int c)) (.fz (.int s)) (.fz (.int en)) s8 s9 s10)=some (.ok b (C7 C E u T Sp (.fz (.int c)) (.fz (.int s)) (.fz (.int en)) s8 s9 s10))∧(b=true→en<(T.length:Int)):=by
 unfold wlC C7
 by_cases z:en<(T.length:Int)
 ·have h2:=h2 z
  by_cases y:t=ts
  ·by_cases x:en<s+1+c%6
   ·refine⟨true,?_,fun _=>z⟩
    walk_at "eh"
   ·refine⟨false,?_,fun w=>by cases w⟩
    walk_at "eh"
    rfl
  ·refine⟨false,?_,fun w=>by cases w⟩
   walk_at "eh"
 ·clear h2
  refine⟨false,?_,fun w=>by cases w⟩
  walk_at "eh"
theorem b5t(C E:D)(u:Int)(T Sp:List D)(s5 s6:Sl)(en:Int)(s8 s9 s10:Sl):wlB (C7 C E u T Sp s5 s6 (.fz (.int en)) s8 s9 s10)=some (.nx (C7 C E u T Sp s5 s6 (.fz (.int (en+1))) s8 s9 s10)):=by
 unfold wlB C7
 walk_at "eh"
theorem b4N(C E:D)(u:Int)(T:List Int)(Sp:List D)(c:Int)(s:Nat)(hs:s<T.length)(hT:T.length≤100)(s8 s9 s10:Sl):∃en:Nat,s≤en∧en≤T.length∧F8 wlC wlB 1000000 (C7 C E u (iI T) Sp (.fz (.int c)) (.fz (.int (s:Int))) (.fz (.int (s:Int))) s8 s9 s10)=some (.nx (C7 C E u (iI T) Sp (.fz (.int c)) (.fz (.int (s:Int))) (.fz (.int (en:Int))) s8 s9 s10)):=by
 have lT:(iI T).length=T.length:=List.length_map ..
 have aT:∀j:Nat,(h:j<T.length)→atI (iI T) (j:Int)=some (.int T[j]):=fun j h=>F7 (by rw[List.getElem?_map,List.getElem?_eq_getElem h];rfl)
 obtain⟨e',h,en,h1,h2,rfl⟩:=a3W (c:=wlC) (body:=wlB) (fun m e=>∃en:Nat,s≤en∧en≤T.length∧m=T.length-en∧e=C7 C E u (iI T) Sp (.fz (.int c)) (.fz (.int (s:Int))) (.fz (.int (en:Int))) s8 s9 s10) (fun e=>∃en:Nat,s≤en∧en≤T.length∧e=C7 C E u (iI T) Sp (.fz (.int c)) (.fz (.int (s:Int))) (.fz (.int (en:Int))) s8 s9 s10) (by
  rintro m e ⟨en,h1,h2,rfl,rfl⟩
  by_cases z:en<T.length
  ·obtain⟨b,hb,ht⟩:=b4d C E u (iI T) Sp c s en s8 s9 s10 T[en] T[s] (aT s hs) (fun _=>aT en z)
   cases b
   ·exact .inr ⟨_,hb,en,h1,h2,rfl⟩
   ·refine .inl ⟨_,_,hb,(congrArg C9 (b5t C E u (iI T) Sp _ _ _ s8 s9 s10)).trans rfl,T.length-(en+1),by omega,en+1,by omega,by omega,rfl,by rw[Int.natCast_add];rfl⟩
  ·obtain⟨b,hb,ht⟩:=b4d C E u (iI T) Sp c s en s8 s9 s10 0 T[s] (aT s hs) (fun w=>by rw[lT]at w;omega)
   cases b
   ·exact .inr ⟨_,hb,en,h1,h2,rfl⟩
   ·have:=ht rfl
    rw[lT]at this
    omega) 1000000 (T.length-s) _ (by omega) ⟨s,Nat.le_refl _,by omega,rfl,rfl⟩
 exact⟨en,h1,h2,h⟩
abbrev skT:SF:=(a66 3 (eV 10) (eV 9))
theorem b5u(C E:D)(u:Int)(T Sp:List D)(s5 s6 s7 s8:Sl)(h k:Int)(n:Nat)(hn:Q6 T.length k=some n):skT (C7 C E u T Sp s5 s6 s7 s8 (.fz (.int h)) (.fz (.int k)))=some (.nx (C7 C E u (T.set n (.int h)) Sp s5 s6 s7 s8 (.fz (.int h)) (.fz (.int k)))):=by
 unfold skT C7
 walk_at "eh"
theorem b4O(C E:D)(u:Int)(T:List Int)(Sp:List D)(s5 s8:Sl)(s en:Nat)(h:Int)(h1:s≤en)(h2:en≤T.length)(hT:T.length≤100)(o10:Option D):∃(T':List Int) (o:Option D),T'.length=T.length ∧
  E6 a1k (aC (eV 6) (aC (eV 7) aN)) (a8 10) skT (C7 C E u (iI T) Sp s5 (.fz (.int (s:Int))) (.fz (.int (en:Int))) s8 (.fz (.int h)) (un o10))=some (.nx (C7 C E u (iI T') Sp s5 (.fz (.int (s:Int))) (.fz (.int (en:Int))) s8 (.fz (.int h)) (un o))):=by
 have h0:(aC (eV 6) (aC (eV 7) aN)) (C7 C E u (iI T) Sp s5 (.fz (.int (s:Int))) (.fz (.int (en:Int))) s8 (.fz (.int h)) (un o10))=some (.ok [.int (s:Int),.int (en:Int)] (C7 C E u (iI T) Sp s5 (.fz (.int (s:Int))) (.fz (.int (en:Int))) s8 (.fz (.int h)) (un o10))):=rfl
 rw[a0t h0 (b1S ⟨by omega,by omega,by omega,by omega⟩)]
 have e1:((en:Int)-(s:Int)).toNat=en-s:=by omega
 rw[e1]
 have e2:B5 (s:Int) (en-s)=(List.range (en-s)).map fun(k:Nat)=>D.int ((s+k:Nat):Int):=by
  unfold B5
  refine List.map_congr_left fun i _=>?_
  rw[Int.natCast_add]
 rw[e2]
 obtain⟨e',hf,T',o,hl,rfl⟩:=L6 (b:=a8 10) (body:=skT) (fun(k:Nat)=>D.int ((s+k:Nat):Int)) (fun pre e=>∃(T':List Int) (o:Option D),T'.length=T.length∧e=C7 C E u (iI T') Sp s5 (.fz (.int (s:Int))) (.fz (.int (en:Int))) s8 (.fz (.int h)) (un o)) (List.range (en-s)) _ ⟨T,o10,rfl,rfl⟩ (by
  rintro pre x post e hq ⟨T',o,hl,rfl⟩
  have hx:x<en-s:=List.mem_range.mp (by rw[hq];simp)
  have hb:a8 10 (.int ((s+x:Nat):Int)) (C7 C E u (iI T') Sp s5 (.fz (.int (s:Int))) (.fz (.int (en:Int))) s8 (.fz (.int h)) (un o))=some (C7 C E u (iI T') Sp s5 (.fz (.int (s:Int))) (.fz (.int (en:Int))) s8 (.fz (.int h)) (.fz (.int ((s+x:Nat):Int)))):=by cases o<;>rfl
  rw[hb,z7]
  have st:=b5u C E u (iI T') Sp s5 (.fz (.int (s:Int))) (.fz (.int (en:Int))) s8 h ((s+x:Nat):Int) (s+x) (by rw[List.length_map,hl];exact a98 (by omega))
  refine⟨_,(congrArg C9 st).trans rfl,T'.set (s+x) h,some (.int ((s+x:Nat):Int)),by rw[List.length_set];exact hl,?_⟩
  unfold iI
  rw[List.map_set]
  rfl)
 exact⟨T',o,hl,hf⟩
abbrev skB(WL FL:SF)(GM GD:D→D→Option D):SF:=(d5 (v8 6 (eB m5 (eV 5) (p6 k8 3))) (d5 (v8 5 (eB GD (eV 5) (p6 k8 3))) (d5 (v8 7 (eV 6)) (d5 WL (d5 (v8 8 (l6 i5 3 (eV 6))) (d5 (v8 9 (eB u9 (eB u9 (eV 8) (eC (.int 1))) (eB m5 (eB A7 (eV 5) (eC (.int 6))) (eC (.int 2))))) (d5 (D2 (G6 (bZ (eB (v7 false) (eB m5 (eB A7 (eV 5) (eC (.int 12))) (eC (.int 2))) (eC (.int 0)))) (G6 (bZ (eB gLt (eV 7) (p6 k8 3))) (bZ (eB gGt (l6 i5 3 (eV 7)) (eV 8))))) (v8 9 (l6 i5 3 (eV 7))) D1) (d5 (X1 4 (eT (aC (l6 i5 1 (eV 6)) (aC (eB GM (eV 8) (eV 2)) (aC (l6 i5 1 (eV 7)) (aC (eB GM (eV 9) (eV 2)) aN)))))) FL))))))))
theorem b2z(WL FL:SF)(GM GD:D→D→Option D)(C:D)(E T Sp:List D)(u x s c en l ea eb:Int)(o6 o7 o8 o9 o10:Option D)(h0:(0:Int)<(T.length:Int))(hs:x%(T.length:Int)=s)(hd:GD (.int x) (.int (T.length:Int))=some (.int c))
  (w:WL (C7 C (.lst E) u T Sp (.fz (.int c)) (.fz (.int s)) (.fz (.int s)) (un o8) (un o9) (un o10))=some (.nx (C7 C (.lst E) u T Sp (.fz (.int c)) (.fz (.int s)) (.fz (.int en)) (un o8) (un o9) (un o10))))
  (a1:atI T s=some (.int l)) (a2:atI E s=some (.int ea)) (a3:atI E en=some (.int eb)) (hT:en<(T.length:Int)→∃t,atI T en=some (.int t)) (hM:∀h:Int,GM (.int h) (.int u)=some (.int (h*u))) (hn:Sp.length<sizeLine) :
  ∃(hi:Int) (r:R4),skB WL FL GM GD (C7 C (.lst E) u T Sp (.fz (.int x)) (un o6) (un o7) (un o8) (un o9) (un o10))=FL (C7 C (.lst E) u T (Sp++[d7 r]) (.fz (.int c)) (.fz (.int s)) (.fz (.int en)) (.fz (.int l)) (.fz (.int hi)) (un o10)):=by
 unfold skB
 unfold C7 at *
 by_cases z:en<(T.length:Int)
 ·obtain⟨t,ht⟩:=hT z
  clear hT
  by_cases y:c/12%2=0
  ·by_cases v:t > l
   ·refine⟨t,(ea,l*u,eb,t*u),?_⟩
    walk_at "eh"
   ·refine⟨l+1+c/6%2,(ea,l*u,eb,(l+1+c/6%2)*u),?_⟩
    walk_at "eh"
  ·refine⟨l+1+c/6%2,(ea,l*u,eb,(l+1+c/6%2)*u),?_⟩
   walk_at "eh"
 ·clear hT
  refine⟨l+1+c/6%2,(ea,l*u,eb,(l+1+c/6%2)*u),?_⟩
  by_cases y:c/12%2=0<;>walk_at "eh"
theorem a8N(E:List Int)(h:1≤E.length):cutD (iI E) (some 1) none=iI (E.drop 1):=by
 unfold L2.cutD
 have e1:HT.sIx (iI E).length 0 (some 1)=1:=by
  show HT.sIx _ 0 (some ((1:Nat):Int))=1
  rw[HT.sIx_nat,List.length_map]
  omega
 rw[e1]
 show((iI E).drop 1).take ((iI E).length-1)=_
 rw[List.take_of_length_le (by rw[List.length_drop];omega),← List.map_drop]
theorem b5v(E:List Int)(h:1≤E.length)(hl:E.length≤100)(C U:D)(s3 s4 s5 s6 s7 s8 s9 s10:Sl):(Q0 1 [] (zN (a1m 1 (oS (eC (.int 1))) oN)) (a8 0) n6 (eC (.int 0))) [.fz C,.fz (.lst (iI E)),.fz U,s3,s4,s5,s6,s7,s8,s9,s10]=some (.ok (iI ((E.drop 1).map fun _=>0)) [.fz C,.fz (.lst (iI E)),.fz U,s3,s4,s5,s6,s7,s8,s9,s10]):=by
 have h0:(a1m 1 (oS (eC (.int 1))) oN) [.fz C,.fz (.lst (iI E)),.fz U,s3,s4,s5,s6,s7,s8,s9,s10]=some (.ok (cutD (iI E) (some 1) none) [.fz C,.fz (.lst (iI E)),.fz U,s3,s4,s5,s6,s7,s8,s9,s10]):=rfl
 rw[a8N E h]at h0
 have:=y0 (b:=a8 0) (c:=n6) (el:=eC (.int 0)) (ec:=[.no]) (eo:=[.fz C,.fz (.lst (iI E)),.fz U,s3,s4,s5,s6,s7,s8,s9,s10]) D.int (fun _=>D.int 0) (fun _=>true) (E.drop 1) [] (by
   rw[List.length_drop]
   show 0+_≤2 ^ 24;omega) (fun i m=>⟨[.fz (.int i)],_,rfl,rfl,fun _=>⟨_,rfl⟩⟩)
 rw[List.filter_eq_self.mpr (fun _ _=>rfl),List.nil_append]at this
 unfold Q0 zN
 rw[h0]
 unfold iI
 rw[List.map_map]
 exact this
theorem b5w(N:NF)(LP:SF)(C E U:D)(T0 R T:List D)(s5 s6 s7 s8 s9 s10:Sl)(hn:N [.fz C,.fz E,.fz U,.no,.no,.no,.no,.no,.no,.no,.no]=some (.ok T0 [.fz C,.fz E,.fz U,.no,.no,.no,.no,.no,.no,.no,.no]))(hl:LP [.fz C,.fz E,.fz U,.ow T0,.ow [],.no,.no,.no,.no,.no,.no]=some (.nx [.fz C,.fz E,.fz U,.ow T,.ow R,s5,s6,s7,s8,s9,s10])) :
  fD 11 3 (d5 (u4 3 N) (d5 (u4 4 (eL aN)) (d5 LP (a0K 4)))) [C,E,U]=some (.own R):=by
 walk_at "eh"
theorem a99(cells E:List Int)(u:Int)(hc:cells.length≤100)(hE:3≤E.length)(hE2:E.length≤100)(hu:u.natAbs<2 ^ 64):∃S:List R4,S.length=cells.length∧K4 [.lst (iI cells),.lst (iI E),.int u]=some (.own (S.map d7)):=by
 have hz:((E.drop 1).map fun _=>(0:Int)).length=E.length-1:=by rw[List.length_map,List.length_drop]
 obtain⟨e',h,T,S,o5,o6,o7,o8,o9,o10,hT,hS,rfl⟩:=L6 (b:=a8 5) (body:=skB (F8 wlC wlB 1000000) (E6 a1k (aC (eV 6) (aC (eV 7) aN)) (a8 10) skT) J7 A7) D.int (fun pre e=>∃(T:List Int) (S:List R4) (o5 o6 o7 o8 o9 o10:Option D),T.length=E.length-1∧S.length=pre.length∧e=C7 (.lst (iI cells)) (.lst (iI E)) u (iI T) (S.map d7) (un o5) (un o6) (un o7) (un o8) (un o9) (un o10)) cells (C7 (.lst (iI cells)) (.lst (iI E)) u (iI ((E.drop 1).map fun _=>0)) [] .no .no .no .no .no .no)
  ⟨_,[],none,none,none,none,none,none,hz,rfl,rfl⟩ (by
  rintro pre x post e hq ⟨T,S,o5,o6,o7,o8,o9,o10,hT,hS,rfl⟩
  have hp:pre.length<100:=by have:=congrArg List.length hq;rw[List.length_append,List.length_cons]at this;omega
  have hb:a8 5 (.int x) (C7 (.lst (iI cells)) (.lst (iI E)) u (iI T) (S.map d7) (un o5) (un o6) (un o7) (un o8) (un o9) (un o10))=some (C7 (.lst (iI cells)) (.lst (iI E)) u (iI T) (S.map d7) (.fz (.int x)) (un o6) (un o7) (un o8) (un o9) (un o10)):=by cases o5<;>rfl
  rw[hb,z7]
  have lT:(iI T).length=T.length:=List.length_map ..
  have p0:(0:Int)<(T.length:Int):=by omega
  have e1:=Int.emod_nonneg x (show(T.length:Int)≠0 by omega)
  have e2:=Int.emod_lt_of_pos x p0
  obtain⟨s,hs⟩:∃s:Nat,x%(T.length:Int)=(s:Int):=⟨(x%(T.length:Int)).toNat,by omega⟩
  have hsT:s<T.length:=by omega
  obtain⟨en,w1,w2,w⟩:=b4N (.lst (iI cells)) (.lst (iI E)) u T (S.map d7) (x/(T.length:Int)) s hsT (by omega) (un o8) (un o9) (un o10)
  have aT:∀j:Nat,(h:j<T.length)→atI (iI T) (j:Int)=some (.int T[j]):=fun j h=>F7 (by rw[List.getElem?_map,List.getElem?_eq_getElem h];rfl)
  have aE:∀j:Nat,(h:j<E.length)→atI (iI E) (j:Int)=some (.int E[j]):=fun j h=>F7 (by rw[List.getElem?_map,List.getElem?_eq_getElem h];rfl)
  have hd:A7 (.int x) (.int ((iI T).length:Int))=some (.int (x/(T.length:Int))):=by
   rw[lT]
   refine a6n ⟨p0,?_⟩
   rw[Int.natAbs_natCast]
   have h1:T.length.log2≤T.length:=Nat.log2_le_self _
   omega
  obtain⟨hi,r,st⟩:=b2z (F8 wlC wlB 1000000) (E6 a1k (aC (eV 6) (aC (eV 7) aN)) (a8 10) skT) J7 A7 (.lst (iI cells)) (iI E) (iI T) (S.map d7) u x s _ en _ _ _ o6 o7 o8 o9 o10 (by rw[lT];exact p0) (by rw[lT];exact hs) hd w (aT s hsT) (aE s (by omega)) (aE en (by omega)) (fun z=>by rw[lT]at z;exact⟨_,aT en (by omega)⟩) (fun h=>a44 hu) (by rw[List.length_map];show _<2 ^ 24;omega)
  obtain⟨T',o,hT',fl⟩:=b4O (.lst (iI cells)) (.lst (iI E)) u T (S.map d7++[d7 r]) (.fz (.int (x/(T.length:Int)))) (.fz (.int T[s])) s en hi w1 w2 (by omega) o10
  refine⟨_,(congrArg C9 (st.trans fl)).trans rfl,T',S++[r],some (.int (x/(T.length:Int))),some (.int (s:Int)),some (.int (en:Int)),some (.int T[s]),some (.int hi),o,by omega,by simp[hS],?_⟩
  rw[List.map_append]
  rfl)
 refine⟨S,hS,b5w _ _ (.lst (iI cells)) (.lst (iI E)) (.int u) _ _ (iI T) (un o5) (un o6) (un o7) (un o8) (un o9) (un o10) (b5v E (by omega) hE2 _ _ .no .no .no .no .no .no .no .no) ?_⟩
 exact h
theorem a2g{ns:List Int}{k:Int}(hk:0≤k):p5 [.scr ns,.int k]=some (.ret (.int (l7 ns k))):=by
 rw[← b1R hk]
 unfold p5 a1W
 walk_at "ev"
 split
 ·cases atI ns k<;>rfl
 ·rfl
theorem b0O(q:Q):g6 (wQ q)=true∧K1 (wQ q)≤2:=by
 unfold wQ
 split<;>exact⟨rfl,by simp[K1,C4]⟩
theorem eqW(L:List Q):Q2 false (.lst (L.map wQ)) (.lst (L.map wQ))=some (.bl true):=a3G false (by simp only[g6];exact a1S fun a _=>(b0O a).1) (by
 have:C4 (L.map wQ)≤2:=a3H fun a _=>(b0O a).2
 simp only[K1]
 omega) rfl
theorem eqP(L:List Q):Q2 false (.lst (L.map pQ)) (.lst (L.map pQ))=some (.bl true):=a3G false (by simp only[g6];exact a1S fun a _=>rfl) (by
 have:C4 (L.map pQ)≤2:=a3H fun a _=>by simp[K1,C4]
 simp only[K1]
 omega) rfl
abbrev lE(ns:List Int)(c:Int)(E X W P S:List D)(s7 s8:Sl)(A9 A10:List D)(s11:Sl):DE:=[.fz (.scr ns),.fz (.int c),.fz (.lst E),.fz (.lst X),.fz (.lst W),.fz (.lst P),.fz (.lst S),s7,s8,.ow A9,.ow A10,s11]
abbrev lwB(AL OV:List D→Option R1):SF:=(D2 (R6 (bZ (i6 AL (aC (P9 OV (aC (eV 7) (aC (eV 8) (aC (l6 i5 9 (eV 11)) aN)))) (aC (l6 i5 10 (eV 11)) aN))))) (z0 (eC (.bl false))) D1)
theorem b2A(AL OV:List D→Option R1)(ns:List Int)(c:Int)(E X W P S:List D)(s7 s8:Sl)(A9 A10 R R':List D)(k a:Int)(h7:s7=.ow W∨s7=.fz (.lst W))(h8:s8=.ow P∨s8=.fz (.lst P))(a1:atI A9 k=some (.int a))(a2:atI A10 k=some (.lst R'))(ho:OV [.lst W,.lst P,.int a]=some (.own R))(ha:AL [.lst R,.lst R']=some (.ret (.bl true))) :
  lwB AL OV (lE ns c E X W P S s7 s8 A9 A10 (.fz (.int k)))=some (.nx (lE ns c E X W P S (.fz (.lst W)) (.fz (.lst P)) A9 A10 (.fz (.int k)))):=by
 unfold lwB lE
 rcases h7 with rfl | rfl<;>rcases h8 with rfl | rfl<;>walk_at "eh"
theorem a6D(ns:List Int)(c:Int)(E X:List D)(L:List Q)(hl:L.length<64)(f:Nat→List Nat)(hf:∀k,k<L.length→(f k).length≤63∧C6 [.lst (L.map wQ),.lst (L.map pQ),.int (k:Int)]=some (.own (iN (f k))))(ask:List Nat)(hk:∀k∈ask,k<L.length)(S:List D)(ix:List Nat)(hi:∀i∈ix,i<ask.length)(s7 s8:Sl)(h7:s7=.ow (L.map wQ)∨s7=.fz (.lst (L.map wQ)))(h8:s8=.ow (L.map pQ)∨s8=.fz (.lst (L.map pQ)))(o11:Option D) :
  ∃s7' s8' o,(s7'=.ow (L.map wQ)∨s7'=.fz (.lst (L.map wQ)))∧(s8'=.ow (L.map pQ)∨s8'=.fz (.lst (L.map pQ)))∧t5 (a8 11) (lwB w6 C6) (ix.map fun(k:Nat)=>D.int (k:Int)) (lE ns c E X (L.map wQ) (L.map pQ) S s7 s8 (iN ask) (ask.map fun k=>.lst (iN (f k))) (un o11))=some (.nx (lE ns c E X (L.map wQ) (L.map pQ) S s7' s8' (iN ask) (ask.map fun k=>.lst (iN (f k))) (un o))):=by
 obtain⟨e',h,s7',s8',o,h7',h8',rfl⟩:=L6 (b:=a8 11) (body:=lwB w6 C6) (fun(k:Nat)=>D.int (k:Int)) (fun pre e=>∃s7 s8 o,(s7=.ow (L.map wQ)∨s7=.fz (.lst (L.map wQ)))∧(s8=.ow (L.map pQ)∨s8=.fz (.lst (L.map pQ)))∧e=lE ns c E X (L.map wQ) (L.map pQ) S s7 s8 (iN ask) (ask.map fun k=>.lst (iN (f k))) (un o)) ix _ ⟨s7,s8,o11,h7,h8,rfl⟩ (by
  rintro pre x post e hq ⟨s7,s8,o,h7,h8,rfl⟩
  have hx:x<ask.length:=hi x (by rw[hq];simp)
  have hb:a8 11 (.int (x:Int)) (lE ns c E X (L.map wQ) (L.map pQ) S s7 s8 (iN ask) (ask.map fun k=>.lst (iN (f k))) (un o))=some (lE ns c E X (L.map wQ) (L.map pQ) S s7 s8 (iN ask) (ask.map fun k=>.lst (iN (f k))) (.fz (.int (x:Int)))):=by cases o<;>rfl
  rw[hb,z7]
  have a1:atI (iN ask) (x:Int)=some (.int (ask[x]:Int)):=F7 (by rw[List.getElem?_map,List.getElem?_eq_getElem hx];rfl)
  have a2:atI (ask.map fun k=>D.lst (iN (f k))) (x:Int)=some (.lst (iN (f ask[x]))):=F7 (by rw[List.getElem?_map,List.getElem?_eq_getElem hx];rfl)
  obtain⟨q1,q2⟩:=hf ask[x] (hk _ (List.getElem_mem hx))
  exact⟨_,(congrArg C9 (b2A w6 C6 ns c E X _ _ S s7 s8 _ _ _ _ x _ h7 h8 a1 a2 q2 (a96 _ (by omega)))).trans rfl,_,_,some (.int (x:Int)),.inr rfl,.inr rfl,rfl⟩)
 exact⟨s7',s8',o,h7',h8',h⟩
theorem b5x(c n j:Int)(s0 s2 s4 s5 s6 s7 s8 s9 s10 s11:Sl)(X:List D)(hn:(X.length:Int)=n)(h1:n > 1)(hj:c/7%n=j)(j0:0≤j)(j1:j<n)(n1:X.length≤1000000):(D2 (bZ (eB gGt (p6 k8 3) (eC (.int 1)))) (X8 3 (eB m5 (eB A7 (eV 1) (eC (.int 7))) (p6 k8 3))) D1) [s0,.fz (.int c),s2,.ow X,s4,s5,s6,s7,s8,s9,s10,s11]=some (.nx [s0,.fz (.int c),s2,.ow (X.eraseIdx j.toNat),s4,s5,s6,s7,s8,s9,s10,s11]):=by
 have n0:0<n:=by omega
 have j2:j<(X.length:Int):=by omega
 walk_at "eh"
theorem b5y(c n:Int)(s0 s2 s4 s5 s6 s7 s8 s9 s10 s11:Sl)(X:List D)(hn:(X.length:Int)=n)(h1:¬n > 1):(D2 (bZ (eB gGt (p6 k8 3) (eC (.int 1)))) (X8 3 (eB m5 (eB A7 (eV 1) (eC (.int 7))) (p6 k8 3))) D1) [s0,.fz (.int c),s2,.ow X,s4,s5,s6,s7,s8,s9,s10,s11]=some (.nx [s0,.fz (.int c),s2,.ow X,s4,s5,s6,s7,s8,s9,s10,s11]):=by
 walk_at "eh"
theorem b4P(c:Int)(S:List R4)(hS:S.length≤100)(s0 s2 s4 s5 s6 s7 s8 s9 s10 s11:Sl):∃S':List R4,S'.length≤S.length∧(D2 (bZ (eB gGt (p6 k8 3) (eC (.int 1)))) (X8 3 (eB m5 (eB A7 (eV 1) (eC (.int 7))) (p6 k8 3))) D1) [s0,.fz (.int c),s2,.ow (S.map d7),s4,s5,s6,s7,s8,s9,s10,s11]=some (.nx [s0,.fz (.int c),s2,.ow (S'.map d7),s4,s5,s6,s7,s8,s9,s10,s11]):=by
 by_cases z:(S.length:Int) > 1
 ·have e1:=Int.emod_nonneg (c/7) (show(S.length:Int)≠0 by omega)
  have e2:=Int.emod_lt_of_pos (c/7) (show(0:Int)<(S.length:Int) by omega)
  refine⟨S.eraseIdx (c/7%(S.length:Int)).toNat,List.length_eraseIdx_le _ _,?_⟩
  rw[b5x c S.length _ s0 s2 s4 s5 s6 s7 s8 s9 s10 s11 (S.map d7) (by rw[List.length_map]) z rfl e1 e2 (by rw[List.length_map];omega)]
  rw[List.eraseIdx_eq_take_drop_succ,List.eraseIdx_eq_take_drop_succ,List.map_append,List.map_take,List.map_drop]
 ·exact⟨S,Nat.le_refl _,b5y c S.length s0 s2 s4 s5 s6 s7 s8 s9 s10 s11 _ (by rw[List.length_map]) z⟩
theorem b5z(CE:List D→Option R1)(ns:List Int)(W:List D)(k v:Int)(n:Int)(h0:0<n)(hW:(W.length:Int)=n)(h:CE [.scr ns,.int (33+k)]=some (.ret (.int v))):(eB m5 (i6 CE (aC (eV 1) (aC (eB u9 (eC (.int 33)) (eV 0)) aN))) (p6 k8 2)) [.fz (.int k),.fz (.scr ns),.fz (.lst W)]=some (.ok (.int (v%n)) [.fz (.int k),.fz (.scr ns),.fz (.lst W)]):=by
 walk_at "eh"
abbrev n9E(ns:List Int)(c:Int)(E X W P S:List D):DE:=[.fz (.scr ns),.fz (.int c),.fz (.lst E),.fz (.lst X),.fz (.lst W),.fz (.lst P),.fz (.lst S),.ow W,.ow P,.no,.no,.no]
theorem b4Q(ns:List Int)(c:Int)(E X W P S:List D)(hW:W.length≤100):∃ask:List Nat,ask.length≤6∧(∀k∈ask,k<W.length)∧(K0 G7 1 [0,4] (aC (eCB J1 (aC (eC (.int 6)) (aC (p6 k8 4) aN))) aN) (a8 0) n6 (eB m5 (i6 p5 (aC (eV 1) (aC (eB u9 (eC (.int 33)) (eV 0)) aN))) (p6 k8 2))) (n9E ns c E X W P S)=some (.ok (iN ask) (n9E ns c E X W P S)):=by
 obtain⟨m,h1,h2,h3⟩:∃m:Nat,m≤6∧(m=0∨0<W.length)∧J1 [.int 6,.int (W.length:Int)]=some (.int (m:Int)):=by
  by_cases z:(W.length:Int)<6
  ·refine⟨W.length,by omega,by omega,?_⟩
   show some (D.int (if(W.length:Int)<6 then(W.length:Int)else 6))=_
   rw[if_pos z]
  ·refine⟨6,by omega,by omega,?_⟩
   show some (D.int (if(W.length:Int)<6 then(W.length:Int)else 6))=_
   rw[if_neg z]
   rfl
 have h0:(aC (eCB J1 (aC (eC (.int 6)) (aC (p6 k8 4) aN))) aN) (n9E ns c E X W P S)=some (.ok [.int (m:Int)] (n9E ns c E X W P S)):=by
  unfold n9E
  generalize J1=GG at *
  walk_at "eh"
 refine⟨(List.range m).map fun(k:Nat)=>(l7 ns (33+(k:Int))%(W.length:Int)).toNat,by rw[List.length_map,List.length_range];exact h1,fun k mk=>?_,?_⟩
 ·obtain⟨i,mi,rfl⟩:=List.mem_map.mp mk
  have hp:0<W.length:=by
   rcases h2 with z | z
   ·have:=List.mem_range.mp mi;omega
   ·exact z
  have e1:=Int.emod_nonneg (l7 ns (33+(i:Int))) (show(W.length:Int)≠0 by omega)
  have e2:=Int.emod_lt_of_pos (l7 ns (33+(i:Int))) (show(0:Int)<(W.length:Int) by omega)
  omega
 ·unfold K0
  rw[h0,T3,Y1 (by omega)]
  show j8 (a8 0) n6 _ [.no,.fz (.scr ns),.fz (.lst W)] _ (B5 0 m) []=_
  rw[a3n]
  have:=y0 (b:=a8 0) (c:=n6) (el:=(eB m5 (i6 p5 (aC (eV 1) (aC (eB u9 (eC (.int 33)) (eV 0)) aN))) (p6 k8 2))) (ec:=[.no,.fz (.scr ns),.fz (.lst W)]) (eo:=n9E ns c E X W P S) (fun(k:Nat)=>D.int (k:Int)) (fun(k:Nat)=>D.int (l7 ns (33+(k:Int))%(W.length:Int))) (fun _=>true) (List.range m) [] (by
   rw[List.length_range]
   show 0+_≤2 ^ 24;omega) (fun i mi=>⟨[.fz (.int (i:Int)),.fz (.scr ns),.fz (.lst W)],_,rfl,rfl,fun _=>⟨_,b5z p5 ns W i _ W.length (by
    rcases h2 with z | z
    ·have:=List.mem_range.mp mi;omega
    ·omega) rfl (a2g (by omega))⟩⟩)
  rw[List.filter_eq_self.mpr (fun _ _=>rfl),List.nil_append]at this
  refine this.trans ?_
  unfold iN
  rw[List.map_map]
  refine congrArg (fun l=>some (L2.R.ok l (n9E ns c E X W P S))) (List.map_congr_left fun i mi=>?_)
  have hp:(0:Int)<W.length:=by
   rcases h2 with z | z
   ·have:=List.mem_range.mp mi;omega
   ·omega
  have e1:=Int.emod_nonneg (l7 ns (33+(i:Int))) (show(W.length:Int)≠0 by omega)
  show D.int (l7 ns (33+(i:Int))%(W.length:Int))=D.int (((l7 ns (33+(i:Int))%(W.length:Int)).toNat:Nat):Int)
  rw[Int.toNat_of_nonneg e1]
theorem b4R(DU:List D→Option R1)(S k:D)(R:List D)(h:DU [S,k]=some (.own R)):(i6 DU (aC (eV 1) (aC (eV 0) aN))) [.fz k,.fz S]=some (.ok (.lst R) [.fz k,.fz S]):=by
 walk_at "eh"
abbrev nTE(ns:List Int)(c:Int)(E X W P S A9:List D):DE:=[.fz (.scr ns),.fz (.int c),.fz (.lst E),.fz (.lst X),.fz (.lst W),.fz (.lst P),.fz (.lst S),.ow W,.ow P,.ow A9,.no,.no]
theorem b4f(ns:List Int)(c:Int)(E X W P S:List D)(ask:List Nat)(hl:ask.length≤6)(f:Nat→List Nat)(hf:∀k∈ask,B2 [.lst S,.int (k:Int)]=some (.own (iN (f k)))):(J9 9 1 [6] (a8 0) n6 (i6 B2 (aC (eV 1) (aC (eV 0) aN)))) (nTE ns c E X W P S (iN ask))=some (.ok (ask.map fun k=>.lst (iN (f k))) (nTE ns c E X W P S (iN ask))):=by
 have h0:(J9 9 1 [6] (a8 0) n6 (i6 B2 (aC (eV 1) (aC (eV 0) aN)))) (nTE ns c E X W P S (iN ask))=j8 (a8 0) n6 (i6 B2 (aC (eV 1) (aC (eV 0) aN))) [.no,.fz (.lst S)] (nTE ns c E X W P S (iN ask)) (iN ask) []:=rfl
 rw[h0]
 have:=y0 (b:=a8 0) (c:=n6) (el:=(i6 B2 (aC (eV 1) (aC (eV 0) aN)))) (ec:=[.no,.fz (.lst S)]) (eo:=nTE ns c E X W P S (iN ask)) (fun(k:Nat)=>D.int (k:Int)) (fun(k:Nat)=>D.lst (iN (f k))) (fun _=>true) ask [] (by
   show 0+_≤2 ^ 24;omega) (fun i mi=>⟨[.fz (.int (i:Int)),.fz (.lst S)],_,rfl,rfl,fun _=>⟨_,b4R B2 _ _ _ (hf i mi)⟩⟩)
 rw[List.filter_eq_self.mpr (fun _ _=>rfl),List.nil_append]at this
 exact this
theorem b4S(CE ED ST LA:List D→Option R1)(P4 L1 LQ:SF)(N9 N10:NF)(ns:List Int)(c0 c1 u:Int)(E CC X X' W P S A9 A10:List D)(s7 s8 s7' s8':Sl)(o1 o2:Option D)
  (h0:CE [.scr ns,.int 0]=some (.ret (.int c0))) (h1:CE [.scr ns,.int 1]=some (.ret (.int c1))) (he:ED [.int c1]=some (.own E)) (hcut:L2.cutD (ns.map D.int) (some 2) (some 32)=CC) (hu:atI [D.int 1,.int 5,.int 7000] (c0%3)=some (.int u))
  (hst:ST [.lst CC,.lst E,.int u]=some (.own X)) (hp:P4 [.fz (.scr ns),.fz (.int c0),.fz (.lst E),.ow X,.no,.no,.no,.no,.no,.no,.no,.no]=some (.nx [.fz (.scr ns),.fz (.int c0),.fz (.lst E),.ow X',.no,.no,.no,.no,.no,.no,.no,.no]))
  (hla:LA [.lst X',.int c0]=some (.ret (.tup [.lst W,.lst P,.lst S]))) (n9:N9 (n9E ns c0 E X' W P S)=some (.ok A9 (n9E ns c0 E X' W P S))) (n10:N10 (nTE ns c0 E X' W P S A9)=some (.ok A10 (nTE ns c0 E X' W P S A9)))
  (l1:L1 (lE ns c0 E X' W P S (.ow W) (.ow P) A9 A10 .no)=some (.nx (lE ns c0 E X' W P S s7 s8 A9 A10 (un o1)))) (l2:LQ (lE ns c0 E X' W P S s7 s8 A9 A10 (un o1))=some (.nx (lE ns c0 E X' W P S s7' s8' A9 A10 (un o2))))
  (h7:s7'=.ow W∨s7'=.fz (.lst W)) (h8:s8'=.ow P∨s8'=.fz (.lst P)) (g1:Q2 false (.lst W) (.lst W)=some (.bl true)) (g2:Q2 false (.lst P) (.lst P)=some (.bl true)) :
  fD 12 1 (d5 (N0 1 CE (aC (eV 0) (aC (eC (.int 0)) aN))) (d5 (N0 2 ED (aC (i6 CE (aC (eV 0) (aC (eC (.int 1)) aN))) aN)) (d5 (N0 3 ST (aC (zN (a1m 0 (oS (eC (.int 2))) (oS (eC (.int 32))))) (aC (eV 2) (aC (eB i5 (zN (eL (aC (eC (.int 1)) (aC (eC (.int 5)) (aC (eC (.int 7000)) aN))))) (eB m5 (eV 1) (eC (.int 3)))) aN)))) (d5 P4 (d5 (a0N (i6 LA (aC (eV 3) (aC (eV 1) aN))) (B4 [(a8 4),(a8 5),(a8 6)])) (d5 (u4 7 (nCV N6 4)) (d5 (u4 8 (nCV N6 5)) (d5 (u4 9 N9) (d5 (u4 10 N10) (d5 L1 (d5 LQ (z0 (a4T (a15 (Q2 false) 7 4) (a15 (Q2 false) 8 5)))))))))))))) [.scr ns]=some (.ret (.bl true)):=by
 unfold n9E at n9
 unfold nTE at n10
 unfold lE at l1 l2
 generalize Q2=GT at *
 rcases h7 with rfl | rfl<;>rcases h8 with rfl | rfl<;>walk_at "eh"
theorem main(ns:List Int)(hl:ns.length≤63)(hb:∀m∈ns,Builtin.Int.intBits m≤2 ^ 20):b0K [.scr ns]=some (.ret (.bl true)):=by
 obtain⟨E,e1,e2,he⟩:=a97 (l7 ns 1)
 have hcut:L2.cutD (ns.map D.int) (some 2) (some 32)=iI ((ns.drop 2).take 30):=by
  rw[b18 (by omega) (by omega)]
  unfold iI
  rw[List.map_take,List.map_drop]
  rfl
 have hcl:((ns.drop 2).take 30).length≤30:=by rw[List.length_take];omega
 obtain⟨u,hu,hu2⟩:∃u:Int,atI [D.int 1,.int 5,.int 7000] (l7 ns 0%3)=some (.int u)∧u.natAbs<2 ^ 64:=by
  rcases(show l7 ns 0%3=0∨l7 ns 0%3=1∨l7 ns 0%3=2 by omega)with z | z | z<;>rw[z]
  ·exact⟨1,rfl,by decide⟩
  ·exact⟨5,rfl,by decide⟩
  ·exact⟨7000,rfl,by decide⟩
 obtain⟨S,hS,st⟩:=a99 ((ns.drop 2).take 30) E u (by omega) e1 (by omega) hu2
 obtain⟨S',hS',p4⟩:=b4P (l7 ns 0) S (by omega) (.fz (.scr ns)) (.fz (.lst (iI E))) .no .no .no .no .no .no .no .no
 obtain⟨L,la,hL⟩:=b4C (L:=S') (by omega) (l7 ns 0)
 obtain⟨f,hf⟩:=b2v L (by omega)
 have hWl:(L.map wQ).length=L.length:=List.length_map ..
 obtain⟨ask,k1,k2,n9⟩:=b4Q ns (l7 ns 0) (iI E) (S'.map d7) (L.map wQ) (L.map pQ) (L.map sQ) (by omega)
 rw[hWl]at k2
 have n10:=b4f ns (l7 ns 0) (iI E) (S'.map d7) (L.map wQ) (L.map pQ) (L.map sQ) ask k1 f (fun k mk=>(hf k (k2 k mk)).2.2)
 obtain⟨s7,s8,o1,h7,h8,l1⟩:=a6D ns (l7 ns 0) (iI E) (S'.map d7) L (by omega) f (fun k hk=>⟨(hf k hk).1,(hf k hk).2.1⟩) ask k2 (L.map sQ) (List.range ask.length) (fun i mi=>List.mem_range.mp mi) _ _ (.inl rfl) (.inl rfl) none
 obtain⟨s7',s8',o2,h7',h8',l2⟩:=a6D ns (l7 ns 0) (iI E) (S'.map d7) L (by omega) f (fun k hk=>⟨(hf k hk).1,(hf k hk).2.1⟩) ask k2 (L.map sQ) ((List.range ask.length).map fun i=>ask.length-1-i) (fun i mi=>by
  obtain⟨j,mj,rfl⟩:=List.mem_map.mp mi
  have:=List.mem_range.mp mj
  omega) s7 s8 h7 h8 o1
 have g1:(E6 G7 (aC (p6 k8 9) aN) (a8 11) (D2 (R6 (bZ (i6 w6 (aC (P9 C6 (aC (eV 7) (aC (eV 8) (aC (l6 i5 9 (eV 11)) aN)))) (aC (l6 i5 10 (eV 11)) aN))))) (z0 (eC (.bl false))) D1)) (lE ns (l7 ns 0) (iI E) (S'.map d7) (L.map wQ) (L.map pQ) (L.map sQ) (.ow (L.map wQ)) (.ow (L.map pQ)) (iN ask) (ask.map fun k=>.lst (iN (f k))) .no)=some (.nx (lE ns (l7 ns 0) (iI E) (S'.map d7) (L.map wQ) (L.map pQ) (L.map sQ) s7 s8 (iN ask) (ask.map fun k=>.lst (iN (f k))) (un o1))):=by
  have h0:(aC (p6 k8 9) aN) (lE ns (l7 ns 0) (iI E) (S'.map d7) (L.map wQ) (L.map pQ) (L.map sQ) (.ow (L.map wQ)) (.ow (L.map pQ)) (iN ask) (ask.map fun k=>.lst (iN (f k))) .no)=some (.ok [.int ((iN ask).length:Int)] (lE ns (l7 ns 0) (iI E) (S'.map d7) (L.map wQ) (L.map pQ) (L.map sQ) (.ow (L.map wQ)) (.ow (L.map pQ)) (iN ask) (ask.map fun k=>.lst (iN (f k))) .no)):=rfl
  rw[List.length_map]at h0
  rw[a0t h0 (Y1 (by omega)),a3n]
  exact l1
 have g2:(a1t (aC (eB y4 (p6 k8 9) (eC (.int 1))) (aC (eU W9 (eC (.int 1))) (aC (eU W9 (eC (.int 1))) aN))) (a8 11) (D2 (R6 (bZ (i6 w6 (aC (P9 C6 (aC (eV 7) (aC (eV 8) (aC (l6 i5 9 (eV 11)) aN)))) (aC (l6 i5 10 (eV 11)) aN))))) (z0 (eC (.bl false))) D1)) (lE ns (l7 ns 0) (iI E) (S'.map d7) (L.map wQ) (L.map pQ) (L.map sQ) s7 s8 (iN ask) (ask.map fun k=>.lst (iN (f k))) (un o1))=some (.nx (lE ns (l7 ns 0) (iI E) (S'.map d7) (L.map wQ) (L.map pQ) (L.map sQ) s7' s8' (iN ask) (ask.map fun k=>.lst (iN (f k))) (un o2))):=by
  have h0:(aC (eB y4 (p6 k8 9) (eC (.int 1))) (aC (eU W9 (eC (.int 1))) (aC (eU W9 (eC (.int 1))) aN))) (lE ns (l7 ns 0) (iI E) (S'.map d7) (L.map wQ) (L.map pQ) (L.map sQ) s7 s8 (iN ask) (ask.map fun k=>.lst (iN (f k))) (un o1))=some (.ok [.int (((iN ask).length:Int)-1),.int (-1),.int (-1)] (lE ns (l7 ns 0) (iI E) (S'.map d7) (L.map wQ) (L.map pQ) (L.map sQ) s7 s8 (iN ask) (ask.map fun k=>.lst (iN (f k))) (un o1))):=rfl
  rw[List.length_map]at h0
  unfold a1t
  rw[h0,T4,a9Y ⟨by omega,by omega,by omega,by omega⟩]
  have e:U4 ((ask.length:Int)-1) (-1) ((ask.length:Int)-1 - -1).toNat=((List.range ask.length).map fun i=>ask.length-1-i).map fun(k:Nat)=>D.int (k:Int):=by
   have:((ask.length:Int)-1 - -1).toNat=ask.length:=by omega
   rw[this]
   unfold U4
   rw[List.map_map]
   refine List.map_congr_left fun i mi=>?_
   have:=List.mem_range.mp mi
   have e3:(ask.length:Int)-1+(i:Int)*(-1)=((ask.length-1-i:Nat):Int):=by omega
   show D.int ((ask.length:Int)-1+(i:Int)*(-1))=D.int ((ask.length-1-i:Nat):Int)
   rw[e3]
  show t5 _ _ (U4 _ _ _) _=_
  rw[e]
  exact l2
 exact b4S p5 K3 K4 N8 _ _ _ _ _ ns _ _ u (iI E) _ _ _ _ _ _ _ _ s7 s8 s7' s8' o1 o2 (a2g (by omega)) (a2g (by omega)) he hcut hu st p4 la n9 n10 g1 g2 h7' h8' (eqW L) (eqP L)
def a2T(K:PySem.W.Frag)(c:Str→Addr):Sp:=fun vs H Q _=>∃a,∃ns:List Int,vs=[.ref a]∧Scr K H a (ns.map V.int)∧(∀m∈ns,Builtin.Int.intBits m≤2 ^ 20)∧ns.length≤63∧∀H',Q (.bl true) H'
theorem b4g{TB:List (Addr×Str)}{f:Addr}{fd:FuncData}(F:Fun K "law" "law" J2 f fd)(T:Txt K mg c)(G_l_cell_at:Own P w K mg base 3 "_law_cell_at" ["_law_script","_law_k"] (k6 K c p5))(G_l_edges:Own P w K mg base 5 "_law_edges" ["_law_cell"] (k6 K c K3))(G_l_stack:Own P w K mg base 3 "_law_stack" ["_law_cells","_law_edges_here","_law_unit"] (k6 K c K4))(G_l_laid:Own P w K mg base 5 "_law_laid" ["_law_spots","_law_cell"] (k6 K c N8))(G_l_due:Own P w K mg base 5 "_law_due" ["_law_spots","_law_k"] (k6 K c B2))(G_l_alike:Own P w K mg base 5 "_law_alike" ["_law_found","_law_due_here"] (k6 K c w6))(G_over:Own P w K mg base 9 "over" ["wares","places","k"] (W5 TB (k6 K c C6))):FnOk P w K mg base (t8 P w) 11 f fd ["_law_script"] (W5 TB (a2T K c)) :=
 (b2j F T G_l_cell_at G_l_edges G_l_stack G_l_laid G_l_due G_l_alike G_over ).imp fun vs H Q E ⟨hT,a,ns,e,h,hb,hl,q⟩=>⟨hT,b1j e h q (main ns hl hb)⟩
def cOf(l:List (Str×Addr))(x:Str):Addr:=(l.lookup x).getD 0
abbrev cL(c0:Addr):=cOf [("BadTurn",c0)]
theorem all_mk{w:World}{K:PySem.W.Frag}{h:Heap}{mg:Str→Option Value}{fa:Addr}(X:K.In h)(G:h.Ns mainGlobals mg)(hfa:mg "law" = some (.ref fa)){q:Program}{loose:List Str}{mean:ExcName→Option Value}{mb:Str→Option Value}(Tp:PyProof.Rows.Top q loose mean mg mb h)
  {c0:Addr} {f_0:Addr} {oc_0 kV_0 dc_0 pm_0 cd_0 ct_0:Value} {od_0 an_0:Option Addr} {sl_0:Array (Option Value)} {f_1:Addr} {oc_1 kV_1 dc_1 pm_1 cd_1 ct_1:Value} {od_1 an_1:Option Addr} {sl_1:Array (Option Value)} {f_2:Addr} {oc_2 kV_2 dc_2 pm_2 cd_2 ct_2:Value} {od_2 an_2:Option Addr} {sl_2:Array (Option Value)} {f_3:Addr} {oc_3 kV_3 dc_3 pm_3 cd_3 ct_3:Value} {od_3 an_3:Option Addr} {sl_3:Array (Option Value)} {f_4:Addr} {oc_4 kV_4 dc_4 pm_4 cd_4 ct_4:Value} {od_4 an_4:Option Addr} {sl_4:Array (Option Value)} {f_5:Addr} {oc_5 kV_5 dc_5 pm_5 cd_5 ct_5:Value} {od_5 an_5:Option Addr} {sl_5:Array (Option Value)} {f_6:Addr} {oc_6 kV_6 dc_6 pm_6 cd_6 ct_6:Value} {od_6 an_6:Option Addr} {sl_6:Array (Option Value)} {f_7:Addr} {oc_7 kV_7 dc_7 pm_7 cd_7 ct_7:Value} {od_7 an_7:Option Addr} {sl_7:Array (Option Value)} {f_8:Addr} {oc_8 kV_8 dc_8 pm_8 cd_8 ct_8:Value} {od_8 an_8:Option Addr} {sl_8:Array (Option Value)} {f_9:Addr} {oc_9 kV_9 dc_9 pm_9 cd_9 ct_9:Value} {od_9 an_9:Option Addr} {sl_9:Array (Option Value)} {f_10:Addr} {oc_10 kV_10 dc_10 pm_10 cd_10 ct_10:Value} {od_10 an_10:Option Addr} {sl_10:Array (Option Value)} {f_11:Addr} {oc_11 kV_11 dc_11 pm_11 cd_11 ct_11:Value} {od_11 an_11:Option Addr} {sl_11:Array (Option Value)} {f_12:Addr} {oc_12 kV_12 dc_12 pm_12 cd_12 ct_12:Value} {od_12 an_12:Option Addr} {sl_12:Array (Option Value)} {f_13:Addr} {oc_13 kV_13 dc_13 pm_13 cd_13 ct_13:Value} {od_13 an_13:Option Addr} {sl_13:Array (Option Value)} {f_14:Addr} {oc_14 kV_14 dc_14 pm_14 cd_14 ct_14:Value} {od_14 an_14:Option Addr} {sl_14:Array (Option Value)} {f_15:Addr} {oc_15 kV_15 dc_15 pm_15 cd_15 ct_15:Value} {od_15 an_15:Option Addr} {sl_15:Array (Option Value)} {f_16:Addr} {oc_16 kV_16 dc_16 pm_16 cd_16 ct_16:Value} {od_16 an_16:Option Addr} {sl_16:Array (Option Value)} {cc_set_order Pt_set_order:Addr} {oq_set_order:Value} {oe_set_order:Option Addr} {vs_set_order:Array Value} {sm_set_order:Array (Option Value)}
  (a_0:PySem.W.nsIn K mainGlobals "sides_of" = some (some (.ref f_0)))
  (l_0:K.lookup f_0=some ⟨oc_0,od_0,.func (PySem.W.fnOf "sides_of" "sides_of" (l9 L9) (j7 L9) (a7 L9) .none kV_0 dc_0 pm_0 an_0 cd_0 ct_0),sl_0⟩)
  (c_0:PySem.W.codeIn K cd_0 "sides_of" = true)
  (k_0:PySem.W.keepIn K (.ref f_0)=true)
  (a_1:PySem.W.nsIn K mainGlobals "spot_of" = some (some (.ref f_1)))
  (l_1:K.lookup f_1=some ⟨oc_1,od_1,.func (PySem.W.fnOf "spot_of" "spot_of" (l9 O3) (j7 O3) (a7 O3) .none kV_1 dc_1 pm_1 an_1 cd_1 ct_1),sl_1⟩)
  (c_1:PySem.W.codeIn K cd_1 "spot_of" = true)
  (k_1:PySem.W.keepIn K (.ref f_1)=true)
  (a_2:PySem.W.nsIn K mainGlobals "spots_of" = some (some (.ref f_2)))
  (l_2:K.lookup f_2=some ⟨oc_2,od_2,.func (PySem.W.fnOf "spots_of" "spots_of" (l9 C5) (j7 C5) (a7 C5) .none kV_2 dc_2 pm_2 an_2 cd_2 ct_2),sl_2⟩)
  (c_2:PySem.W.codeIn K cd_2 "spots_of" = true)
  (k_2:PySem.W.keepIn K (.ref f_2)=true)
  (a_3:PySem.W.nsIn K mainGlobals "shared_width" = some (some (.ref f_3)))
  (l_3:K.lookup f_3=some ⟨oc_3,od_3,.func (PySem.W.fnOf "shared_width" "shared_width" (l9 B1) (j7 B1) (a7 B1) .none kV_3 dc_3 pm_3 an_3 cd_3 ct_3),sl_3⟩)
  (c_3:PySem.W.codeIn K cd_3 "shared_width" = true)
  (k_3:PySem.W.keepIn K (.ref f_3)=true)
  (a_4:PySem.W.nsIn K mainGlobals "touches_of" = some (some (.ref f_4)))
  (l_4:K.lookup f_4=some ⟨oc_4,od_4,.func (PySem.W.fnOf "touches_of" "touches_of" (l9 t9) (j7 t9) (a7 t9) .none kV_4 dc_4 pm_4 an_4 cd_4 ct_4),sl_4⟩)
  (c_4:PySem.W.codeIn K cd_4 "touches_of" = true)
  (k_4:PySem.W.keepIn K (.ref f_4)=true)
  (a_5:PySem.W.nsIn K mainGlobals "set_order" = some (some (.ref f_5)))
  (l_5:K.lookup f_5=some ⟨oc_5,od_5,.func (PySem.W.fnOf "set_order" "set_order" (l9 A8) (j7 A8) (a7 A8) .none kV_5 dc_5 pm_5 an_5 cd_5 ct_5),sl_5⟩)
  (c_5:PySem.W.codeIn K cd_5 "set_order" = true)
  (k_5:PySem.W.keepIn K (.ref f_5)=true)
  (a_6:PySem.W.nsIn K mainGlobals "over" = some (some (.ref f_6)))
  (l_6:K.lookup f_6=some ⟨oc_6,od_6,.func (PySem.W.fnOf "over" "over" (l9 N4) (j7 N4) (a7 N4) .none kV_6 dc_6 pm_6 an_6 cd_6 ct_6),sl_6⟩)
  (c_6:PySem.W.codeIn K cd_6 "over" = true)
  (k_6:PySem.W.keepIn K (.ref f_6)=true)
  (a_7:PySem.W.nsIn K mainGlobals "_law_cell_at" = some (some (.ref f_7)))
  (l_7:K.lookup f_7=some ⟨oc_7,od_7,.func (PySem.W.fnOf "_law_cell_at" "_law_cell_at" (l9 G0) (j7 G0) (a7 G0) .none kV_7 dc_7 pm_7 an_7 cd_7 ct_7),sl_7⟩)
  (c_7:PySem.W.codeIn K cd_7 "_law_cell_at" = true)
  (k_7:PySem.W.keepIn K (.ref f_7)=true)
  (a_8:PySem.W.nsIn K mainGlobals "_law_whole" = some (some (.ref f_8)))
  (l_8:K.lookup f_8=some ⟨oc_8,od_8,.func (PySem.W.fnOf "_law_whole" "_law_whole" (l9 O4) (j7 O4) (a7 O4) .none kV_8 dc_8 pm_8 an_8 cd_8 ct_8),sl_8⟩)
  (c_8:PySem.W.codeIn K cd_8 "_law_whole" = true)
  (k_8:PySem.W.keepIn K (.ref f_8)=true)
  (a_9:PySem.W.nsIn K mainGlobals "_law_mixed" = some (some (.ref f_9)))
  (l_9:K.lookup f_9=some ⟨oc_9,od_9,.func (PySem.W.fnOf "_law_mixed" "_law_mixed" (l9 O5) (j7 O5) (a7 O5) .none kV_9 dc_9 pm_9 an_9 cd_9 ct_9),sl_9⟩)
  (c_9:PySem.W.codeIn K cd_9 "_law_mixed" = true)
  (k_9:PySem.W.keepIn K (.ref f_9)=true)
  (a_10:PySem.W.nsIn K mainGlobals "_law_edges" = some (some (.ref f_10)))
  (l_10:K.lookup f_10=some ⟨oc_10,od_10,.func (PySem.W.fnOf "_law_edges" "_law_edges" (l9 O6) (j7 O6) (a7 O6) .none kV_10 dc_10 pm_10 an_10 cd_10 ct_10),sl_10⟩)
  (c_10:PySem.W.codeIn K cd_10 "_law_edges" = true)
  (k_10:PySem.W.keepIn K (.ref f_10)=true)
  (a_11:PySem.W.nsIn K mainGlobals "_law_stack" = some (some (.ref f_11)))
  (l_11:K.lookup f_11=some ⟨oc_11,od_11,.func (PySem.W.fnOf "_law_stack" "_law_stack" (l9 D8) (j7 D8) (a7 D8) .none kV_11 dc_11 pm_11 an_11 cd_11 ct_11),sl_11⟩)
  (c_11:PySem.W.codeIn K cd_11 "_law_stack" = true)
  (k_11:PySem.W.keepIn K (.ref f_11)=true)
  (a_12:PySem.W.nsIn K mainGlobals "_law_laid" = some (some (.ref f_12)))
  (l_12:K.lookup f_12=some ⟨oc_12,od_12,.func (PySem.W.fnOf "_law_laid" "_law_laid" (l9 A2) (j7 A2) (a7 A2) .none kV_12 dc_12 pm_12 an_12 cd_12 ct_12),sl_12⟩)
  (c_12:PySem.W.codeIn K cd_12 "_law_laid" = true)
  (k_12:PySem.W.keepIn K (.ref f_12)=true)
  (a_13:PySem.W.nsIn K mainGlobals "_law_touch" = some (some (.ref f_13)))
  (l_13:K.lookup f_13=some ⟨oc_13,od_13,.func (PySem.W.fnOf "_law_touch" "_law_touch" (l9 O7) (j7 O7) (a7 O7) .none kV_13 dc_13 pm_13 an_13 cd_13 ct_13),sl_13⟩)
  (c_13:PySem.W.codeIn K cd_13 "_law_touch" = true)
  (k_13:PySem.W.keepIn K (.ref f_13)=true)
  (a_14:PySem.W.nsIn K mainGlobals "_law_due" = some (some (.ref f_14)))
  (l_14:K.lookup f_14=some ⟨oc_14,od_14,.func (PySem.W.fnOf "_law_due" "_law_due" (l9 G3) (j7 G3) (a7 G3) .none kV_14 dc_14 pm_14 an_14 cd_14 ct_14),sl_14⟩)
  (c_14:PySem.W.codeIn K cd_14 "_law_due" = true)
  (k_14:PySem.W.keepIn K (.ref f_14)=true)
  (a_15:PySem.W.nsIn K mainGlobals "_law_alike" = some (some (.ref f_15)))
  (l_15:K.lookup f_15=some ⟨oc_15,od_15,.func (PySem.W.fnOf "_law_alike" "_law_alike" (l9 O8) (j7 O8) (a7 O8) .none kV_15 dc_15 pm_15 an_15 cd_15 ct_15),sl_15⟩)
  (c_15:PySem.W.codeIn K cd_15 "_law_alike" = true)
  (k_15:PySem.W.keepIn K (.ref f_15)=true)
  (a_16:PySem.W.nsIn K mainGlobals "law" = some (some (.ref f_16)))
  (l_16:K.lookup f_16=some ⟨oc_16,od_16,.func (PySem.W.fnOf "law" "law" (l9 J2) (j7 J2) (a7 J2) .none kV_16 dc_16 pm_16 an_16 cd_16 ct_16),sl_16⟩)
  (c_16:PySem.W.codeIn K cd_16 "law" = true)
  (k_16:PySem.W.keepIn K (.ref f_16)=true)
  (tc_set_order:cd_5=.ref cc_set_order)
  (tk_set_order:K.lookup cc_set_order=some ⟨oq_set_order,oe_set_order,.fields vs_set_order,sm_set_order⟩)
  (tp_set_order:vs_set_order.getD 11 .none=.ref Pt_set_order)
  (tn_set_order:K.lookup Pt_set_order=none)
  (tr_set_order:(PyProof.Rows.recsOf q).any (fun d=>d.name == "set_order")=true)
  (z_any:PySem.W.nsIn K mainGlobals "any" = some none)
  (z_bool:PySem.W.nsIn K mainGlobals "bool" = some none)
  (z_enumerate:PySem.W.nsIn K mainGlobals "enumerate" = some none)
  (z_int:PySem.W.nsIn K mainGlobals "int" = some none)
  (z_isinstance:PySem.W.nsIn K mainGlobals "isinstance" = some none)
  (z_len:PySem.W.nsIn K mainGlobals "len" = some none)
  (z_list:PySem.W.nsIn K mainGlobals "list" = some none)
  (z_max:PySem.W.nsIn K mainGlobals "max" = some none)
  (z_min:PySem.W.nsIn K mainGlobals "min" = some none)
  (z_range:PySem.W.nsIn K mainGlobals "range" = some none)
  (z_sorted:PySem.W.nsIn K mainGlobals "sorted" = some none)
  (z_zip:PySem.W.nsIn K mainGlobals "zip" = some none)
  (m_BadTurn:PySem.W.nsIn K mainGlobals "BadTurn" = some (some (.ref c0)))
  (x_BadTurn:PySem.W.excIn K c0 a4A "ValueError.__new__" = true)
  : ∃(fd:FuncData) (TB:List (Addr×Str)),(∀(s:Shared) (v:Value),BindsTo s fd ⟨[v],[]⟩ [("_law_script",v)])∧(∀Pa qq,TB.lookup Pa=some qq→(∃c,h.TableAt c Pa #[])∧K.lookup Pa=none)∧∃c:Str→Addr,∀base:Heap,K.In base→base.Ns mainGlobals mg→(∀b o,h.get? b=some o→o.cls≠.none→o.cls≠.type "list"→base.get? b=some o)→FnOk (PySem.Challenge.rw_cratefit_k73_what_lies_over).prog w K mg base (t8 (PySem.Challenge.rw_cratefit_k73_what_lies_over).prog w) 11 fa fd ["_law_script"] (W5 TB (a2T K c)):=by
 have e:=hfa.symm.trans (PySem.W.mg_of X G a_16)
 cases e
 have T:Txt K mg (cL c0):=⟨PySem.W.mg_none_of X G z_any,PySem.W.mg_none_of X G z_bool,PySem.W.mg_none_of X G z_enumerate,PySem.W.mg_none_of X G z_int,PySem.W.mg_none_of X G z_isinstance,PySem.W.mg_none_of X G z_len,PySem.W.mg_none_of X G z_list,PySem.W.mg_none_of X G z_max,PySem.W.mg_none_of X G z_min,PySem.W.mg_none_of X G z_range,PySem.W.mg_none_of X G z_sorted,PySem.W.mg_none_of X G z_zip,PySem.W.mg_of X G m_BadTurn,x_BadTurn⟩
 have TT_set_order:=b3d Tp X tr_set_order (PySem.W.mg_of X G a_5) l_5 tc_set_order tk_set_order tp_set_order
 refine⟨PySem.W.fnOf "law" "law" (l9 J2) (j7 J2) (a7 J2) .none kV_16 dc_16 pm_16 an_16 cd_16 ct_16,[(Pt_set_order,("set_order.<locals>.<lambda>" : Str))],fun s v=>.of_eq rfl,fun Pa qq e=>?_,cOf [("BadTurn",c0)],fun base _ _ kp=>?_⟩
 ·simp only[List.lookup]at e
  split at e
  ·rename_i z;have z:=beq_iff_eq.mp z;subst z;exact⟨⟨_,TT_set_order.1⟩,tn_set_order⟩
  ·cases e
 have hL_set_order:List.lookup Pt_set_order [(Pt_set_order,("set_order.<locals>.<lambda>" : Str))]=some "set_order.<locals>.<lambda>" := by simp[List.lookup]
 have F_0:=y6 (st:=L9) l_0 c_0 k_0
 have B_0:=F_0.binds (ps:=["ware","lie"]) fun _ _ _ _ _ _ us hl=>match us,hl with | [_,_],_=>rfl
 have O_0:Own (PySem.Challenge.rw_cratefit_k73_what_lies_over).prog w K mg base 3 "sides_of" ["ware","lie"] (k6 K (cL c0) Q4):=⟨_,_,a5S F_0 T ,B_0,k_0,PySem.W.mg_of X G a_0⟩
 have F_1:=y6 (st:=O3) l_1 c_1 k_1
 have B_1:=F_1.binds (ps:=["ware","place"]) fun _ _ _ _ _ _ us hl=>match us,hl with | [_,_],_=>rfl
 have O_1:Own (PySem.Challenge.rw_cratefit_k73_what_lies_over).prog w K mg base 5 "spot_of" ["ware","place"] (k6 K (cL c0) D9):=⟨_,_,a7i F_1 T O_0,B_1,k_1,PySem.W.mg_of X G a_1⟩
 have F_2:=y6 (st:=C5) l_2 c_2 k_2
 have B_2:=F_2.binds (ps:=["wares","places"]) fun _ _ _ _ _ _ us hl=>match us,hl with | [_,_],_=>rfl
 have O_2:Own (PySem.Challenge.rw_cratefit_k73_what_lies_over).prog w K mg base 7 "spots_of" ["wares","places"] (k6 K (cL c0) F6):=⟨_,_,a5U F_2 T O_1,B_2,k_2,PySem.W.mg_of X G a_2⟩
 have F_3:=y6 (st:=B1) l_3 c_3 k_3
 have B_3:=F_3.binds (ps:=["one","other"]) fun _ _ _ _ _ _ us hl=>match us,hl with | [_,_],_=>rfl
 have O_3:Own (PySem.Challenge.rw_cratefit_k73_what_lies_over).prog w K mg base 3 "shared_width" ["one","other"] (k6 K (cL c0) n8):=⟨_,_,a2Q F_3 T ,B_3,k_3,PySem.W.mg_of X G a_3⟩
 have F_4:=y6 (st:=t9) l_4 c_4 k_4
 have B_4:=F_4.binds (ps:=["spots","k"]) fun _ _ _ _ _ _ us hl=>match us,hl with | [_,_],_=>rfl
 have O_4:Own (PySem.Challenge.rw_cratefit_k73_what_lies_over).prog w K mg base 5 "touches_of" ["spots","k"] (k6 K (cL c0) u0):=⟨_,_,a33 F_4 T O_3,B_4,k_4,PySem.W.mg_of X G a_4⟩
 have F_5:=y6 (st:=A8) l_5 c_5 k_5
 have B_5:=F_5.binds (ps:=["wares","places"]) fun _ _ _ _ _ _ us hl=>match us,hl with | [_,_],_=>rfl
 have O_5:Own (PySem.Challenge.rw_cratefit_k73_what_lies_over).prog w K mg base 3 "set_order" ["wares","places"] (W5 [(Pt_set_order,("set_order.<locals>.<lambda>" : Str))] (k6 K (cL c0) D0)):=⟨_,_,a5k F_5 T  (tc_set_order) (TT_set_order.2 base kp).1 (TT_set_order.2 base kp).2 hL_set_order,B_5,k_5,PySem.W.mg_of X G a_5⟩
 have F_6:=y6 (st:=N4) l_6 c_6 k_6
 have B_6:=F_6.binds (ps:=["wares","places","k"]) fun _ _ _ _ _ _ us hl=>match us,hl with | [_,_,_],_=>rfl
 have O_6:Own (PySem.Challenge.rw_cratefit_k73_what_lies_over).prog w K mg base 9 "over" ["wares","places","k"] (W5 [(Pt_set_order,("set_order.<locals>.<lambda>" : Str))] (k6 K (cL c0) C6)):=⟨_,_,b2g F_6 T O_2 O_5 O_4,B_6,k_6,PySem.W.mg_of X G a_6⟩
 have F_7:=y6 (st:=G0) l_7 c_7 k_7
 have B_7:=F_7.binds (ps:=["_law_script","_law_k"]) fun _ _ _ _ _ _ us hl=>match us,hl with | [_,_],_=>rfl
 have O_7:Own (PySem.Challenge.rw_cratefit_k73_what_lies_over).prog w K mg base 3 "_law_cell_at" ["_law_script","_law_k"] (k6 K (cL c0) p5):=⟨_,_,a5m F_7 T ,B_7,k_7,PySem.W.mg_of X G a_7⟩
 have F_8:=y6 (st:=O4) l_8 c_8 k_8
 have B_8:=F_8.binds (ps:=["_law_found"]) fun _ _ _ _ _ _ us hl=>match us,hl with | [_],_=>rfl
 have O_8:Own (PySem.Challenge.rw_cratefit_k73_what_lies_over).prog w K mg base 3 "_law_whole" ["_law_found"] (k6 K (cL c0) E1):=⟨_,_,a7k F_8 T ,B_8,k_8,PySem.W.mg_of X G a_8⟩
 have F_9:=y6 (st:=O5) l_9 c_9 k_9
 have B_9:=F_9.binds (ps:=["_law_cell","_law_k"]) fun _ _ _ _ _ _ us hl=>match us,hl with | [_,_],_=>rfl
 have O_9:Own (PySem.Challenge.rw_cratefit_k73_what_lies_over).prog w K mg base 3 "_law_mixed" ["_law_cell","_law_k"] (k6 K (cL c0) r9):=⟨_,_,a7m F_9 T ,B_9,k_9,PySem.W.mg_of X G a_9⟩
 have F_10:=y6 (st:=O6) l_10 c_10 k_10
 have B_10:=F_10.binds (ps:=["_law_cell"]) fun _ _ _ _ _ _ us hl=>match us,hl with | [_],_=>rfl
 have O_10:Own (PySem.Challenge.rw_cratefit_k73_what_lies_over).prog w K mg base 5 "_law_edges" ["_law_cell"] (k6 K (cL c0) K3):=⟨_,_,a7n F_10 T O_9,B_10,k_10,PySem.W.mg_of X G a_10⟩
 have F_11:=y6 (st:=D8) l_11 c_11 k_11
 have B_11:=F_11.binds (ps:=["_law_cells","_law_edges_here","_law_unit"]) fun _ _ _ _ _ _ us hl=>match us,hl with | [_,_,_],_=>rfl
 have O_11:Own (PySem.Challenge.rw_cratefit_k73_what_lies_over).prog w K mg base 3 "_law_stack" ["_law_cells","_law_edges_here","_law_unit"] (k6 K (cL c0) K4):=⟨_,_,a7o F_11 T ,B_11,k_11,PySem.W.mg_of X G a_11⟩
 have F_12:=y6 (st:=A2) l_12 c_12 k_12
 have B_12:=F_12.binds (ps:=["_law_spots","_law_cell"]) fun _ _ _ _ _ _ us hl=>match us,hl with | [_,_],_=>rfl
 have O_12:Own (PySem.Challenge.rw_cratefit_k73_what_lies_over).prog w K mg base 5 "_law_laid" ["_law_spots","_law_cell"] (k6 K (cL c0) N8):=⟨_,_,a8I F_12 T O_9,B_12,k_12,PySem.W.mg_of X G a_12⟩
 have F_13:=y6 (st:=O7) l_13 c_13 k_13
 have B_13:=F_13.binds (ps:=["_law_one","_law_other"]) fun _ _ _ _ _ _ us hl=>match us,hl with | [_,_],_=>rfl
 have O_13:Own (PySem.Challenge.rw_cratefit_k73_what_lies_over).prog w K mg base 3 "_law_touch" ["_law_one","_law_other"] (k6 K (cL c0) u7):=⟨_,_,a7q F_13 T ,B_13,k_13,PySem.W.mg_of X G a_13⟩
 have F_14:=y6 (st:=G3) l_14 c_14 k_14
 have B_14:=F_14.binds (ps:=["_law_spots","_law_k"]) fun _ _ _ _ _ _ us hl=>match us,hl with | [_,_],_=>rfl
 have O_14:Own (PySem.Challenge.rw_cratefit_k73_what_lies_over).prog w K mg base 5 "_law_due" ["_law_spots","_law_k"] (k6 K (cL c0) B2):=⟨_,_,a91 F_14 T O_13,B_14,k_14,PySem.W.mg_of X G a_14⟩
 have F_15:=y6 (st:=O8) l_15 c_15 k_15
 have B_15:=F_15.binds (ps:=["_law_found","_law_due_here"]) fun _ _ _ _ _ _ us hl=>match us,hl with | [_,_],_=>rfl
 have O_15:Own (PySem.Challenge.rw_cratefit_k73_what_lies_over).prog w K mg base 5 "_law_alike" ["_law_found","_law_due_here"] (k6 K (cL c0) w6):=⟨_,_,a7r F_15 T O_8,B_15,k_15,PySem.W.mg_of X G a_15⟩
 have F_16:=y6 (st:=J2) l_16 c_16 k_16
 exact b4g F_16 T O_7 O_10 O_11 O_12 O_14 O_15 O_6
end Law
namespace Law
open PySem L2 PyProof.Rows
theorem walk{q:Program}{loose:List Str}{XP:(Str→Option Value)→Heap→Prop}{YP:World→Heap→Prop}{d:DefRec}{K:Params→PySem.W.Frag}(hdf:d.params.defaults=[])(hY:∀(w:World) (h:Heap),YP w h→(K w.params).In h)
  (F:∀(w:World) (mg mb:Str→Option Value) (fa:Addr) (h:Heap) (mean:ExcName→Option Value),(K w.params).In h→h.Ns mainGlobals mg→mg d.name=some (.ref fa)→PyProof.Rows.Top q (PySem.W.looseW q loose) mean mg mb h →
   ∃(fd:FuncData) (TB:List (Addr×Str)),(∀(s:Shared) (u:Value),BindsTo s fd ⟨[u],[]⟩ [("_law_script",u)])∧(∀Pa qq,TB.lookup Pa=some qq→(∃c,h.TableAt c Pa #[])∧(K w.params).lookup Pa=none)∧∃c:Str→Addr,∀base:Heap,(K w.params).In base→base.Ns mainGlobals mg→(∀b o,h.get? b=some o→o.cls≠.none→o.cls≠.type "list"→base.get? b=some o)→FnOk (PySem.Challenge.rw_cratefit_k73_what_lies_over).prog w (K w.params) mg base (t8 (PySem.Challenge.rw_cratefit_k73_what_lies_over).prog w) 11 fa fd ["_law_script"] (W5 TB (a2T (K w.params) c))) :
  PySem.W.WalkO q loose XP YP (PySem.Challenge.rw_cratefit_k73_what_lies_over).row.toRowW d [] (fun f vs=>PySem.call f vs):=by
 refine L2.walk_ofT (l:=PySem.Challenge.rw_cratefit_k73_what_lies_over) (n:=63) (k:=11) (x := "_law_script") (K:=K) (CX:=fun w=>t8 (PySem.Challenge.rw_cratefit_k73_what_lies_over).prog w) (sp:=fun w vs H Q E=>∀c,a2T (K w.params) c vs H Q E) rfl (by decide) hdf ⟨rfl,by decide,by decide⟩ hY (fun w mg mb fa h mean KX G hm Tp=>?_) (fun w H a ns h1 h2 h3 c=>⟨a,ns,rfl,h3,h2,h1,fun _=>rfl⟩) fun w H s e s' z=>b4i H s e s' z
 obtain⟨fd,TB,hb,hTb,c,hF⟩:=F w mg mb fa h mean KX G hm Tp
 exact⟨fd,TB,hb,hTb,fun base kb nb kp=>(hF base kb nb kp).imp fun vs H Q E z=>⟨z.1,z.2 c⟩⟩
end Law
local macro_rules|`(#check 0)=>do
 let g:=fun(n:Lean.Name)=>do
  let y:=Lean.mkIdent (.str `PySem.W.Fast s!"tw{n.hash}")
  `(theorem $y:ident : True:=trivial)
 let mut r:=#[←g `PySem.Challenge.pw_cratefit_k73_what_lies_over]
 for x in ["tree_47","tree_63","tree_109","tree_185","heap_39","heap_46","heap_186","sts_49","sts_64","sts_110","view_39","env_41"]++(List.range 143).map (s!"o_{·+43}") do r:=r.push (←g (.str `PySem.Challenge.cw_cratefit_k73_what_lies_over_holds x))
 return Lean.mkNullNode r
#check 0
open PySem.W
set_option maxRecDepth 100000 in
set_option maxHeartbeats 0 in
theorem PySem.Challenge.cw_cratefit_k73_what_lies_over_holds : PySem.Challenge.rw_cratefit_k73_what_lies_over.Holds := by
 w_on;o_law;k_head; (case hw=>w_witness2)
 k_fill
 refine Law.walk rfl (fun w h Y=>PySem.W.km_in_of Y) ?F
 case F =>
  intro w mg mb fa h mean KX G hmg Tp
  refine' Law.all_mk KX G hmg Tp ?a_sides_of ?l_sides_of ?c_sides_of ?k_sides_of ?a_spot_of ?l_spot_of ?c_spot_of ?k_spot_of ?a_spots_of ?l_spots_of ?c_spots_of ?k_spots_of ?a_shared_width ?l_shared_width ?c_shared_width ?k_shared_width ?a_touches_of ?l_touches_of ?c_touches_of ?k_touches_of ?a_set_order ?l_set_order ?c_set_order ?k_set_order ?a_over ?l_over ?c_over ?k_over ?a_l_cell_at ?l_l_cell_at ?c_l_cell_at ?k_l_cell_at ?a_l_whole ?l_l_whole ?c_l_whole ?k_l_whole ?a_l_mixed ?l_l_mixed ?c_l_mixed ?k_l_mixed ?a_l_edges ?l_l_edges ?c_l_edges ?k_l_edges ?a_l_stack ?l_l_stack ?c_l_stack ?k_l_stack ?a_l_laid ?l_l_laid ?c_l_laid ?k_l_laid ?a_l_touch ?l_l_touch ?c_l_touch ?k_l_touch ?a_l_due ?l_l_due ?c_l_due ?k_l_due ?a_l_alike ?l_l_alike ?c_l_alike ?k_l_alike ?a_law ?l_law ?c_law ?k_law ?tc_set_order ?tk_set_order ?tp_set_order ?tn_set_order ?tr_set_order ?z_any ?z_bool ?z_enumerate ?z_int ?z_isinstance ?z_len ?z_list ?z_max ?z_min ?z_range ?z_sorted ?z_zip ?m_BadTurn ?x_BadTurn
  (case a_sides_of=>k_is)
  (case l_sides_of=>k_is)
  (case c_sides_of=>k_is)
  (case k_sides_of=>k_is)
  (case a_spot_of=>k_is)
  (case l_spot_of=>k_is)
  (case c_spot_of=>k_is)
  (case k_spot_of=>k_is)
  (case a_spots_of=>k_is)
  (case l_spots_of=>k_is)
  (case c_spots_of=>k_is)
  (case k_spots_of=>k_is)
  (case a_shared_width=>k_is)
  (case l_shared_width=>k_is)
  (case c_shared_width=>k_is)
  (case k_shared_width=>k_is)
  (case a_touches_of=>k_is)
  (case l_touches_of=>k_is)
  (case c_touches_of=>k_is)
  (case k_touches_of=>k_is)
  (case a_set_order=>k_is)
  (case l_set_order=>k_is)
  (case c_set_order=>k_is)
  (case k_set_order=>k_is)
  (case a_over=>k_is)
  (case l_over=>k_is)
  (case c_over=>k_is)
  (case k_over=>k_is)
  (case a_l_cell_at=>k_is)
  (case l_l_cell_at=>k_is)
  (case c_l_cell_at=>k_is)
  (case k_l_cell_at=>k_is)
  (case a_l_whole=>k_is)
  (case l_l_whole=>k_is)
  (case c_l_whole=>k_is)
  (case k_l_whole=>k_is)
  (case a_l_mixed=>k_is)
  (case l_l_mixed=>k_is)
  (case c_l_mixed=>k_is)
  (case k_l_mixed=>k_is)
  (case a_l_edges=>k_is)
  (case l_l_edges=>k_is)
  (case c_l_edges=>k_is)
  (case k_l_edges=>k_is)
  (case a_l_stack=>k_is)
  (case l_l_stack=>k_is)
  (case c_l_stack=>k_is)
  (case k_l_stack=>k_is)
  (case a_l_laid=>k_is)
  (case l_l_laid=>k_is)
  (case c_l_laid=>k_is)
  (case k_l_laid=>k_is)
  (case a_l_touch=>k_is)
  (case l_l_touch=>k_is)
  (case c_l_touch=>k_is)
  (case k_l_touch=>k_is)
  (case a_l_due=>k_is)
  (case l_l_due=>k_is)
  (case c_l_due=>k_is)
  (case k_l_due=>k_is)
  (case a_l_alike=>k_is)
  (case l_l_alike=>k_is)
  (case c_l_alike=>k_is)
  (case k_l_alike=>k_is)
  (case a_law=>k_is)
  (case l_law=>k_is)
  (case c_law=>k_is)
  (case k_law=>k_is)
  (case tc_set_order=>exact rfl)
  (case tk_set_order=>k_is)
  (case tp_set_order=>exact rfl)
  (case tn_set_order=>first | k_is | rfl | decide +kernel)
  (case tr_set_order=>first | rfl | decide +kernel)
  (case z_any=>k_is)
  (case z_bool=>k_is)
  (case z_enumerate=>k_is)
  (case z_int=>k_is)
  (case z_isinstance=>k_is)
  (case z_len=>k_is)
  (case z_list=>k_is)
  (case z_max=>k_is)
  (case z_min=>k_is)
  (case z_range=>k_is)
  (case z_sorted=>k_is)
  (case z_zip=>k_is)
  (case m_BadTurn=>k_is)
  (case x_BadTurn=>kernel_rfl)
