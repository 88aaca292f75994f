import PyProof.Rows.All
import Wide.All
import OpenK.AllK
import Wide.FinOn
import Lean
import PyProof.EqAt
import PyProof.EqKinds
import PyProof.TupleCall
import KE.KLam
import KE.KSortKey
import PyProof.ListRange
import PyProof.CollectIter
import PyProof.Rows.RuleB_bool
import PySem.Challenge.RW_cratefit_k61_no_packing_is_cut
set_option Elab.async false
set_option linter.all false
set_option maxRecDepth 100000
set_option hygiene false
namespace L2
open PySem PySem.Spec PyProof.Rows
abbrev y0:=Sum Int Str
def b3d:y0→Value→Bool
 | .inl k,v=>Value.isInt k v
 | .inr x,v=>Value.isStrOf x v
def b61(w:World):y0→Int
 | .inl k=>hashInt k
 | .inr x=>hashStr w x
theorem A9:∀{k:y0} {v:Value},b3d k v=true→(∃i t,k=Sum.inl i∧v=Value.int i t)∨(∃x t,k=Sum.inr x∧v=Value.str x t)
 | .inl i,v,h=>by
  obtain⟨t,e⟩:=Value.isInt_shape (k:=i) (v:=v) h
  exact .inl ⟨i,t,rfl,e⟩
 | .inr x,v,h=>by
  obtain⟨t,e⟩:=Value.isStrOf_shape (x:=x) (v:=v) h
  exact .inr ⟨x,t,rfl,e⟩
theorem b4X(a b:Int):decide ((Sum.inl a:y0)=Sum.inl b)=(a == b):=by
 by_cases e:a=b
 ·subst e;simp
 ·have h:¬(Sum.inl a:y0)=Sum.inl b:=fun q=>e (Sum.inl.inj q)
  rw[decide_eq_false h]
  exact(beq_eq_false_iff_ne.mpr e).symm
theorem b4Y(a b:Str):decide ((Sum.inr a:y0)=Sum.inr b)=decide (a=b):=by
 by_cases e:a=b
 ·subst e;simp
 ·have h:¬(Sum.inr a:y0)=Sum.inr b:=fun q=>e (Sum.inr.inj q)
  rw[decide_eq_false h,decide_eq_false e]
theorem b4Z(a:Int)(b:Str):decide ((Sum.inl a:y0)=Sum.inr b)=false:=decide_eq_false (fun q=>nomatch q)
theorem b40(a:Str)(b:Int):decide ((Sum.inr a:y0)=Sum.inl b)=false:=decide_eq_false (fun q=>nomatch q)
def a8Y(prog:Program)(w:World):PySem.KeyKind prog w y0 where
 is:=b3d
 hash:=b61 w
 inj:=fun v a b ha hb=>by
  rcases A9 ha with⟨i,t,rfl,rfl⟩ | ⟨x,t,rfl,rfl⟩
  ·rcases A9 hb with⟨j,u,rfl,e⟩ | ⟨y,u,rfl,e⟩
   ·injection e with e1 _;rw[e1]
   ·exact nomatch e
  ·rcases A9 hb with⟨j,u,rfl,e⟩ | ⟨y,u,rfl,e⟩
   ·exact nomatch e
   ·injection e with e1 _;rw[e1]
 byValue:=fun k v h=>by
  rcases A9 h with⟨i,t,rfl,rfl⟩ | ⟨x,t,rfl,rfl⟩<;>rfl
 pyHash:=fun hv h=>by
  rcases A9 hv with⟨i,t,rfl,rfl⟩ | ⟨x,t,rfl,rfl⟩
  ·exact wpAny_pyHash_int h
  ·exact wpAny_pyHash_str h
 eqBool:=fun hu hv h=>by
  rcases A9 hu with⟨i,t,rfl,rfl⟩ | ⟨x,t,rfl,rfl⟩
  ·rcases A9 hv with⟨j,u,rfl,rfl⟩ | ⟨y,u,rfl,rfl⟩
   ·rw[b4X]at h;exact wpAny_eqBool_int h
   ·rw[b4Z]at h;exact SeqAt.EqAt.int_str i t y u _ _ _ _ h
  ·rcases A9 hv with⟨j,u,rfl,rfl⟩ | ⟨y,u,rfl,rfl⟩
   ·rw[b40]at h;exact SeqAt.EqAt.str_int x t j u _ _ _ _ h
   ·rw[b4Y]at h;exact wpAny_eqBool_str h
 «strs» := fun k x t v h=>by
  rcases A9 h with⟨i,u,rfl,e⟩ | ⟨y,u,rfl,e⟩
  ·exact nomatch e
  ·injection e with e1 _
   subst e1
   cases v<;>rfl
inductive V where
 | non | bl (b:Bool) | int (i:Int) | str (x:Str) | byt (b:Array UInt8) | flt (b:UInt64) | ref (a:Addr) | ty (n:String)
 deriving DecidableEq
def RelV:V→Value→Prop
 | .non,u=>u=Value.none
 | .bl b,u=>u=Value.bool b
 | .int i,u=>∃t,u=Value.int i t
 | .str x,u=>∃t,u=Value.str x t
 | .byt b,u=>∃t,u=Value.bytes b t
 | .flt b,u=>∃t,u=Value.float b t
 | .ref a,u=>u=Value.ref a
 | .ty n,u=>u=Value.type n
abbrev Vals:List V→List Value→Prop:=Paired RelV
theorem Vals.length{xs:List V}{us:List Value}(r:Vals xs us):xs.length=us.length:=Paired.length r
theorem Vals.get:∀{xs:List V} {us:List Value} {i:Nat} {x:V},Vals xs us→xs[i]? = some x→∃u,us[i]? = some u∧RelV x u
 | _,_,_,_,.nil,e=>by simp at e
 | _,_,0,_,.cons r _,e=>by simp at e;subst e;exact⟨_,rfl,r⟩
 | _,_,i+1,x,.cons _ t,e=>by
  obtain⟨u,h1,h2⟩:=Vals.get (i:=i) (x:=x) t (by simpa using e)
  exact⟨u,by simpa using h1,h2⟩
theorem Vals.set{x:V}{u:Value}(r:RelV x u):∀{xs:List V} {us:List Value} (i:Nat),Vals xs us→Vals (xs.set i x) (us.set i u)
 | _,_,_,.nil=>.nil
 | _,_,0,.cons _ t=>.cons r t
 | _,_,i+1,.cons q t=>.cons q (Vals.set r i t)
theorem Vals.append:∀{xs ys:List V} {us ws:List Value},Vals xs us→Vals ys ws→Vals (xs++ys) (us++ws)
 | _,_,_,_,.nil,s=>s
 | _,_,_,_,.cons r t,s=>.cons r (Vals.append t s)
theorem Vals.take:∀{xs:List V} {us:List Value} (n:Nat),Vals xs us→Vals (xs.take n) (us.take n)
 | _,_,0,_=>.nil
 | _,_,_+1,.nil=>.nil
 | _,_,n+1,.cons r t=>.cons r (Vals.take n t)
theorem Vals.drop:∀{xs:List V} {us:List Value} (n:Nat),Vals xs us→Vals (xs.drop n) (us.drop n)
 | _,_,0,r=>r
 | _,_,_+1,.nil=>.nil
 | _,_,n+1,.cons _ t=>Vals.drop n t
def RelO:Option V→Option Value→Prop
 | some v,some u=>RelV v u
 | none,none=>True
 | _,_=>False
def KV{κ:Type}:List (κ×V)→List (κ×Value)→Prop:=Paired fun(p:κ×V) (q:κ×Value)=>p.1=q.1∧RelV p.2 q.2
def kV:y0→V
 | .inl i=>.int i
 | .inr x=>.str x
inductive HO where
 /-- a list -/
 | lst (xs:List V)
 /-- a tuple (never changes) -/
 | tup (xs:List V)
 /-- a dict whose keys are ints and texts; one whose keys are tuples of ints and texts (the empty one is both) -/
 | dK (kvs:List (y0×V)) | dT (kvs:List (List y0×V))
 /-- a set of ints: its members, its size -/
 | set (S:Int→Bool) (n:Nat)
 /-- an instance of the class at C, its dict at dx, its attributes -/
 | ins (C dx:Addr) (fs:List (Str×V))
 /-- the dict of the instance at x -/
 | own (x:Addr)
 /-- the dict of an exception -/
 | xd (fs:List (Str×V))
 /-- a bound method, f of x -/
 | met (f x:Addr)
 /-- a range object lo, lo + 1, .. below hi -/
 | rng (lo hi:Int)
 /-- a thing that is known to the object (the script; a dict while a loop walks it): read, never written while it is so -/
 | frz (o:Obj) (u:HO)
 /-- a code object's table -/
 | tbl (ps:Array Value)
 /-- any other thing, by what is true of its one object (a def of one's own: SetO a S n := HO.ext fun h => ..) -/
 | ext (φ:Heap→Prop)
abbrev Hp:=Addr→Option HO
def upd(H:Hp)(a:Addr)(o:HO):Hp:=fun b=>if b=a then some o else H b
theorem i8{H:Hp}{a:Addr}{o:HO}:upd H a o a=some o:=by unfold upd;rw[if_pos rfl]
theorem g8{H:Hp}{a b:Addr}{o:HO}(h:b≠a):upd H a o b=H b:=by unfold upd;rw[if_neg h]
theorem b6m{H:Hp}{a b:Addr}{o u:HO}(h:H a=some o)(h':H b=some u)(d:o≠u):a≠b:=by
 intro e;subst e;rw[h]at h';exact d (Option.some.inj h')
theorem j8{H:Hp}{a b:Addr}{o:HO}(h:H a=some o)(h':H b=none):a≠b:=by
 intro e;subst e;rw[h]at h';cases h'
section
variable (P:Program)(w:World)
def ObjOk(H:Hp)(h:Heap)(a:Addr):HO→Prop
 | .lst xs=>xs.length≤sizeLine∧∃(its:List Value) (n:Nat),Vals xs its∧h.get? a=some { cls:=.type "list",data:=.seq its.toArray n }
 | .tup xs=>xs.length≤sizeLine∧∃its:List Value,Vals xs its∧IsTup h a its.toArray
 | .dK kvs=>kvs.length≤sizeLine∧(a == sysModules)=false∧∃vs,KV kvs vs∧h.DictOf (a8Y P w) a vs
 | .dT kvs=>kvs.length≤sizeLine∧(a == sysModules)=false∧∃xs:List (List y0×Addr×Value),
   Paired (fun(p:List y0×V) (q:List y0×Addr×Value)=>p.1=q.1∧H q.2.1=some (.tup (p.1.map kV))∧RelV p.2 q.2.2) kvs xs ∧
   ∃o es ep,h.get? a=some o∧o.ExactDict∧o.data=.dict es ep∧es.toList=xs.map (entryOfKey (tupleKind (a8Y P w)))∧(xs.map (·.1)).Nodup
 | .set S n=>h.SetOf (intKind P w) a S n
 | .ins C dx fs=>H dx=some (.own a)∧fs.length≤1000∧dx≠a∧h.get? a=some (W.instObj C dx) ∧
   ∃mA,h.Ns1 dx mA∧(∀f,RelO (fs.lookup f) (mA f))∧PySem.Within mA (fs.map (·.1))
 | .own _=>∃o,h.get? a=some o
 | .xd fs=>∃mA,h.Ns1 a mA∧∀f,RelO (fs.lookup f) (mA f)
 | .rng lo hi=>∃t u v,h.get? a=some { cls:=.type "range",data:=.fields #[.int lo t,.int hi u,.int 1 v] }
 | .frz o u=>h.get? a=some o∧ObjOk H h a u
 | .tbl qs=>∃ps:Array Value,h.get? a=some { cls:=.none,data:=.fields ps }∧TriplesOk ps.toList∧∀pos cv,codeAmong pos ps.toList=some cv→∃c oc u,cv=Value.ref c∧H c=some (.frz oc u)∧∃vs q t t2,oc.data=.fields vs∧vs[1]? = some (Value.str q t2)∧qs[0]? = some (Value.str q t)
 | .met f x=>h.get? a=some (W.methodObj (.ref f) (.ref x))
 | .ext φ=>φ h∧(∃o,h.get? a=some o)∧∀h1 h2:Heap,φ h1→(∀o,h1.get? a=some o→h2.get? a=some o)→φ h2
def HOk(H:Hp)(h:Heap):Prop:=∀a o,H a=some o→ObjOk P w H h a o
end
section
variable {P:Program}{w:World}{H H':Hp}{h h':Heap}{a:Addr}{o:HO}
theorem ObjOk.lt(x:ObjOk P w H h a o):a<h.objs.size:=by
 cases o with
 | lst xs=>obtain⟨_,_,_,_,e⟩:=x;exact Heap.lt_size e
 | tup xs=>obtain⟨_,_,_,p⟩:=x;exact p.lt
 | dK kvs=>obtain⟨_,_,_,_,o,_,_,e,_⟩:=x;exact Heap.lt_size e
 | dT kvs=>obtain⟨_,_,_,_,o,_,_,e,_⟩:=x;exact Heap.lt_size e
 | set S n=>obtain⟨o,_,_,_,e,_⟩:=x;exact Heap.lt_size e
 | ins C dx fs=>obtain⟨_,_,_,e,_⟩:=x;exact Heap.lt_size e
 | own y=>obtain⟨_,e⟩:=x;exact Heap.lt_size e
 | xd fs=>obtain⟨_,⟨_,_,_,e,_⟩,_⟩:=x;exact Heap.lt_size e
 | rng lo hi=>obtain⟨_,_,_,e⟩:=x;exact Heap.lt_size e
 | frz ob u=>obtain⟨e,_⟩:=x;exact Heap.lt_size e
 | tbl ps=>obtain⟨_,e,_⟩:=x;exact Heap.lt_size e
 | met f y=>exact Heap.lt_size (show h.get? a=some _ from x)
 | ext φ=>obtain⟨_,⟨_,e⟩,_⟩:=x;exact Heap.lt_size e
theorem Paired.mapP{α β:Type}{F G:α→β→Prop}:∀{l₁:List α} {l₂:List β},Paired F l₁ l₂→(∀a b,F a b→G a b)→Paired G l₁ l₂
 | _,_,.nil,_=>.nil
 | _,_,.cons r t,f=>.cons (f _ _ r) (Paired.mapP t f)
theorem ObjOk.stay(x:ObjOk P w H h a o)(k:∀b u,(b=a∨H b=some (.own a))→h.get? b=some u→h'.get? b=some u)
  (ho:∀b,H b=some (.own a)→H' b=some (.own a)) (ht:∀b xs,H b=some (.tup xs)→H' b=some (.tup xs)) (hz:∀b ob u,H b=some (.frz ob u)→H' b=some (.frz ob u)):ObjOk P w H' h' a o:=by
 induction o with
 | lst xs=>obtain⟨z,its,n,r,e⟩:=x;exact⟨z,its,n,r,k _ _ (.inl rfl) e⟩
 | tup xs=>obtain⟨z,its,r,ob,e,c⟩:=x;exact⟨z,its,r,ob,k _ _ (.inl rfl) e,c⟩
 | dK kvs=>obtain⟨z,y,vs,r,ob,es,ep,e,c⟩:=x;exact⟨z,y,vs,r,ob,es,ep,k _ _ (.inl rfl) e,c⟩
 | dT kvs =>
  obtain⟨z,y,xs,r,ob,es,ep,e,c⟩:=x
  exact⟨z,y,xs,Paired.mapP r fun p q z=>⟨z.1,ht _ _ z.2.1,z.2.2⟩,ob,es,ep,k _ _ (.inl rfl) e,c⟩
 | set S n=>obtain⟨ob,es,ep,t,e,c⟩:=x;exact⟨ob,es,ep,t,k _ _ (.inl rfl) e,c⟩
 | ins C dx fs =>
  obtain⟨d,z,ne,e,mA,⟨od,es,ep,e2,c⟩,r⟩:=x
  exact⟨ho _ d,z,ne,k _ _ (.inl rfl) e,mA,⟨od,es,ep,k _ _ (.inr d) e2,c⟩,r⟩
 | own y=>obtain⟨ob,e⟩:=x;exact⟨ob,k _ _ (.inl rfl) e⟩
 | xd fs=>obtain⟨mA,⟨od,es,ep,e,c⟩,r⟩:=x;exact⟨mA,⟨od,es,ep,k _ _ (.inl rfl) e,c⟩,r⟩
 | rng lo hi=>obtain⟨t,u,v,e⟩:=x;exact⟨t,u,v,k _ _ (.inl rfl) e⟩
 | frz ob u ih=>obtain⟨e,q⟩:=x;exact⟨k _ _ (.inl rfl) e,ih q⟩
 | tbl qs =>
  obtain⟨ps,e,tr,al⟩:=x
  refine⟨ps,k a _ (.inl rfl) e,tr,fun pos cv q=>?_⟩
  obtain⟨c,oc,u,e1,e3,r⟩:=al pos cv q
  exact⟨c,oc,u,e1,hz _ _ _ e3,r⟩
 | met f y =>
  have e:h.get? a=some (W.methodObj (.ref f) (.ref y)):=x
  show h'.get? a=some (W.methodObj (.ref f) (.ref y))
  exact k a _ (.inl rfl) e
 | ext φ=>obtain⟨p,⟨o,e⟩,st⟩:=x;exact⟨st _ _ p fun o q=>k _ _ (.inl rfl) q,⟨o,k _ _ (.inl rfl) e⟩,st⟩
theorem HOk.lt(x:HOk P w H h)(e:H a=some o):a<h.objs.size:=(x a o e).lt
theorem HOk.fresh(x:HOk P w H h)(e:h.objs.size≤a):H a=none:=by
 cases q:H a with
 | none=>rfl
 | some u=>exact absurd (Nat.lt_of_lt_of_le (x.lt q) e) (Nat.lt_irrefl _)
theorem HOk.kept(x:HOk P w H h)(k:∀b u,h.get? b=some u→h'.get? b=some u):HOk P w H h':=fun a o e =>
 (x a o e).stay (fun b u _ q=>k b u q) (fun _ q=>q) (fun _ _ q=>q) fun _ _ _ q=>q
theorem HOk.laid(x:HOk P w H h)(k:∀b u,h.get? b=some u→h'.get? b=some u)(hp:h.objs.size≤a)(new:ObjOk P w (upd H a o) h' a o):HOk P w (upd H a o) h':=fun b u e=>by
 have hn:=x.fresh hp
 by_cases hb:b=a
 ·subst hb;rw[i8]at e;cases e;exact new
 ·rw[g8 hb]at e
  exact(x b u e).stay (fun c v _ q=>k c v q) (fun c q=>by rw[g8 (j8 q hn)];exact q) (fun c xs q=>by rw[g8 (j8 q hn)];exact q) fun c ob u q=>by rw[g8 (j8 q hn)];exact q
end
def Rd(H:Hp)(a:Addr)(u:HO):Prop:=H a=some u∨∃o,H a=some (.frz o u)
theorem Rd.of{H:Hp}{a:Addr}{u:HO}(h:H a=some u):Rd H a u:=.inl h
theorem Rd.ok{P:Program}{w:World}{H:Hp}{h:Heap}{a:Addr}{u:HO}(r:Rd H a u)(x:HOk P w H h):ObjOk P w H h a u:=by
 rcases r with r | ⟨o,r⟩
 ·exact x a u r
 ·obtain⟨_,q⟩:=x a _ r
  exact q
def Mut:Option HO→Prop
 | some (.lst _)=>True
 | some (.dK _)=>True
 | some (.dT _)=>True
 | some (.set _ _)=>True
 | some (.ins _ _ _)=>True
 | some (.ext _)=>True
 | _=>False
section
variable {P:Program}{w:World}{H:Hp}{h h':Heap}{x e:Addr}{o':HO}
theorem HOk.write(ok:HOk P w H h)(mu:Mut (H x))(he:e=x∨H e=some (.own x))(k:∀b u,b≠e→h.get? b=some u→h'.get? b=some u)(heo:∃u,h'.get? e=some u)
  (new:ObjOk P w (upd H x o') h' x o'):HOk P w (upd H x o') h':=fun b u q=>by
 have nown:∀c y,H c=some (.own y)→c≠x:=fun c y r z=>by subst z;rw[r]at mu;exact mu
 have ntup:∀c xs,H c=some (.tup xs)→c≠x:=fun c xs r z=>by subst z;rw[r]at mu;exact mu
 by_cases hb:b=x
 ·subst hb;rw[i8]at q;cases q;exact new
 ·rw[g8 hb]at q
  by_cases hbe:b=e
  ·have q':H b=some (.own x):=by
    rcases he with z | z
    ·exact absurd (hbe.trans z) hb
    ·rw[hbe];exact z
   rw[q]at q';cases q'
   obtain⟨v,hv⟩:=heo
   exact⟨v,by rw[hbe];exact hv⟩
  ·refine(ok b u q).stay (fun c v hc r=>k c v ?_ r) (fun c r=>by rw[g8 (nown c b r)];exact r) (fun c xs r=>by rw[g8 (ntup c xs r)];exact r) fun c ob u r=>by rw[g8 (fun z=>by subst z;rw[r]at mu;exact mu)];exact r
   rcases hc with rfl | hc
   ·exact hbe
   ·rintro rfl
    rcases he with z | z
    ·exact nown c b hc z
    ·rw[hc]at z;cases z;exact hb rfl
end
structure Un(fs ex:List Addr)(H H':Hp)(h h':Heap):Prop where
 keep:∀b o,h.get? b=some o→H b=none→b ∉ fs→b ∉ ex→h'.get? b=some o
 slot:∀b o,h.get? b=some o→H b=none→b∈fs→b ∉ ex→∃sl,h'.get? b=some { o with slots:=sl }
 free:∀b o,h.get? b=some o→H b=none→b ∉ ex→H' b=none
 there:∀b o,h.get? b=some o→b ∉ ex→∃o',h'.get? b=some o'
 tups:∀b xs,H b=some (.tup xs)→H' b=some (.tup xs)
 frzs:∀b o u,H b=some (.frz o u)→H' b=some (.frz o u)
 tbls:∀b ps,H b=some (.tbl ps)→∃more,H' b=some (.tbl (ps++more))
section
variable {fs fs' ex ex':List Addr}{H H1 H2:Hp}{h h1 h2 h':Heap}{a x e:Addr}{o:HO}
theorem Un.any(u:Un fs ex H H1 h h1){b:Addr}{ob:Obj}(q:h.get? b=some ob)(n:H b=none)(hx:b ∉ ex):∃sl,h1.get? b=some { ob with slots:=sl }:=by
 by_cases hb:b∈fs
 ·exact u.slot b ob q n hb hx
 ·exact⟨ob.slots,u.keep b ob q n hb hx⟩
theorem Un.trans(a:Un fs ex H H1 h h1)(b:Un fs ex H1 H2 h1 h2):Un fs ex H H2 h h2 where
 keep:=fun c ob q n hc hx=>b.keep c ob (a.keep c ob q n hc hx) (a.free c ob q n hx) hc hx
 slot:=fun c ob q n hc hx=>by
  obtain⟨sl,e1⟩:=a.slot c ob q n hc hx
  obtain⟨sl',e2⟩:=b.slot c _ e1 (a.free c ob q n hx) hc hx
  exact⟨sl',e2⟩
 free:=fun c ob q n hx=>by
  obtain⟨o',e1⟩:=a.there c ob q hx
  exact b.free c o' e1 (a.free c ob q n hx) hx
 there:=fun c ob q hx=>by
  obtain⟨o',e1⟩:=a.there c ob q hx
  exact b.there c o' e1 hx
 tups:=fun c xs q=>b.tups c xs (a.tups c xs q)
 frzs:=fun c ob xs q=>b.frzs c ob xs (a.frzs c ob xs q)
 tbls:=fun c ps q=>by
  obtain⟨m1,e1⟩:=a.tbls c ps q
  obtain⟨m2,e2⟩:=b.tbls c _ e1
  exact⟨m1++m2,by rw[e2,Array.append_assoc]⟩
theorem Un.kept(k:∀b u,h.get? b=some u→h'.get? b=some u):Un fs ex H H h h' :=
 ⟨fun b ob q _ _ _=>k b ob q,fun b ob q _ _ _=>⟨ob.slots,k b ob q⟩,fun _ _ _ n _=>n,fun b ob q _=>⟨ob,k b ob q⟩,fun _ _ q=>q,fun _ _ _ q=>q,fun _ ps q=>⟨#[],by rw[q];simp⟩⟩
theorem Un.refl:Un fs ex H H h h:=Un.kept fun _ _ q=>q
theorem Un.laid(k:∀b u,h.get? b=some u→h'.get? b=some u)(hp:h.objs.size≤a)(hn:H a=none):Un fs ex H (upd H a o) h h' where
 keep:=fun b u q _ _ _=>k b u q
 slot:=fun b u q _ _ _=>⟨u.slots,k b u q⟩
 free:=fun b u q n _=>by rw[g8 (Nat.ne_of_lt (Nat.lt_of_lt_of_le (Heap.lt_size q) hp))];exact n
 there:=fun b u q _=>⟨u,k b u q⟩
 tups:=fun b xs q=>by rw[g8 (j8 q hn)];exact q
 frzs:=fun b u xs q=>by rw[g8 (j8 q hn)];exact q
 tbls:=fun b ps q=>⟨#[],by rw[g8 (j8 q hn),q];simp⟩
theorem Un.write(mu:Mut (H x))(he:e=x∨H e=some (.own x))(k:∀b u,b≠e→h.get? b=some u→h'.get? b=some u)(heo:∃u,h'.get? e=some u):Un fs ex H (upd H x o) h h':=by
 have hx:∀b,H b=none→b≠x:=fun b n z=>by subst z;rw[n]at mu;exact mu
 have hb:∀b,H b=none→b≠e:=fun b n z=>by
  subst z
  rcases he with r | r
  ·exact hx b n r
  ·rw[n]at r;cases r
 have hm:∀b u,H b=some u→¬Mut (some u)→b≠x:=fun b u q nm z=>by subst z;rw[q]at mu;exact nm mu
 refine⟨fun b u q n _ _=>k b u (hb b n) q,fun b u q n _ _=>⟨u.slots,k b u (hb b n) q⟩,fun b u q n _=>by rw[g8 (hx b n)];exact n,fun b u q _=>?_,
  fun b xs q=>by rw[g8 (hm b _ q fun z=>z)];exact q,fun b u xs q=>by rw[g8 (hm b _ q fun z=>z)];exact q,fun b ps q=>⟨#[],by rw[g8 (hm b _ q fun z=>z),q];simp⟩⟩
 by_cases hbe:b=e
 ·subst hbe;exact heo
 ·exact⟨u,k b u hbe q⟩
theorem Un.mono(u:Un fs ex H H1 h h1)(hs:∀b∈fs,b∈fs')(hx:∀b∈ex,b∈ex'):Un fs' ex' H H1 h h1 :=
 ⟨fun b ob q n hb he=>u.keep b ob q n (fun z=>hb (hs b z)) fun z=>he (hx b z),fun _ _ q n _ he=>u.any q n fun z=>he (hx _ z),fun b ob q n he=>u.free b ob q n fun z=>he (hx b z),fun b ob q he=>u.there b ob q fun z=>he (hx b z),u.tups,u.frzs,u.tbls⟩
end
def trk(h:Heap)(H:Hp):List Addr:=(List.range h.objs.size).filter fun a=>(H a).isSome
def a2s(h:Heap)(H:Hp):Heap:=W.hideAll h (trk h H)
theorem b0w(h:Heap)(H:Hp):(a2s h H).objs.size=h.objs.size:=W.hideAll_size _ _
theorem b1U{h:Heap}{H:Hp}{b:Addr}{o:Obj}(e:h.get? b=some o)(n:H b=none):(a2s h H).get? b=some o :=
 W.hideAll_get _ e fun hm=>by
  have q:(H b).isSome=true:=(List.mem_filter.mp hm).2
  rw[n]at q;simp at q
theorem b3O{h:Heap}{H:Hp}{b:Addr}{o:Obj}(e:(a2s h H).get? b=some o):h.get? b=some o∧H b=none:=by
 have e':h.get? b=some o:=W.of_hideAll (trk h H) e
 refine⟨e',?_⟩
 cases q:H b with
 | none=>rfl
 | some x =>
  have hm:b∈trk h H:=List.mem_filter.mpr ⟨List.mem_range.mpr (Heap.lt_size e'),by simp[q]⟩
  have z:(a2s h H).get? b=none:=W.hideAll_none (trk h H) hm
  rw[z]at e;cases e
def b3P(g h:Heap)(L:Addr):List (Addr×Obj):=(List.range h.objs.size).filterMap fun a=>if a=L∨(g.get? a).isSome=true then none else(h.get? a).map fun o=>(a,o)
def k8(g h:Heap)(L d:Addr):List (Addr×Obj):=(b3P g h L).filter fun p=>decide (p.1≠d)
structure Mod(K:W.Frag)(mg:Str→Option Value)(base:Heap):Prop where
 kin:K.In base
 glob:base.Ns mainGlobals mg
 blt:∃mb,base.Ns builtinsNs mb∧∀x:Str,x≠"__name__"→mb x=bootBuiltins x
 nolimit:base.NoLimit
structure Cx where
 prog:Program
 w:World
 K:W.Frag
 mg:Str→Option Value
 base:Heap
 A:Around
 N:List Str
 s₀:Shared
 H₀:Hp
 env:Env
 outer:List Env
 stack:List Env
 ex:List Addr
 fn:Str→Bool
 calm:Bool
 pn:List (Addr×Obj)
 xe:Value→Shared→Prop
def E8(l:List Env):List Addr:=l.filterMap (·.frame)
abbrev Cx.fs(X:Cx):List Addr:=E8 X.outer
def Vis(sc:Scope)(x:Str):Prop:=sc.names.lookup x=some .local∨sc.names.lookup x=some .cell∨sc.names.lookup x=some .free
def Loc(sc:Scope)(x:Str):Prop:=sc.names.lookup x=some .local∨sc.names.lookup x=some .cell
def b62(env:Env)(h:Heap)(m:Str→Option Value)(x:Str)(u:Value):Prop :=
 (env.kindOf x=some .local∧m x=some u)∨((env.kindOf x=some .cell∨env.kindOf x=some .free)∧∃c,env.cells.lookup x=some c∧h.IsCell c (some u))
structure Cx.Ok(X:Cx):Prop where
 mod:Mod X.K X.mg X.base
 kind:X.env.scope.kind=.function
 glob:X.env.globals=mainGlobals
 blt:X.env.builtins=builtinsNs
 above:X.s₀.heap.objs.size≤X.env.locals
 inj:∀x y c,X.env.cells.lookup x=some c→X.env.cells.lookup y=some c→x=y
 has:∀x,(X.env.kindOf x=some .cell∨X.env.kindOf x=some .free)→∃c,X.env.cells.lookup x=some c
 cab:∀x c,X.fn x=true→X.env.cells.lookup x=some c→X.s₀.heap.objs.size≤c
 hd:X.calm=true→X.A.handled=none
 frames:X.A.frames=some X.stack
 stk:X.stack=X.outer∨(X.stack=X.env::X.outer∧X.env.frame=some X.env.locals)
 exf:∀b∈X.ex,b≠X.env.locals∧∀x c,X.env.cells.lookup x=some c→c≠b
 bs:∀b o,X.base.get? b=some o→X.s₀.heap.get? b=some o∧X.H₀ b=none
 bsz:X.base.objs.size≤X.s₀.heap.objs.size
 noex:∀b o,X.base.get? b=some o→b ∉ X.ex
 exfs:∀b∈X.ex,b ∉ X.fs
 funs:X.s₀.heap.FunFrames X.base X.outer
 frf:∀b∈X.fs,X.H₀ b=none
structure Inv(X:Cx)(pins:List (Addr×Obj))(σ:List (Option V))(H:Hp)(s:Shared):Prop where
 ok:X.Ok
 os:s.os=X.s₀.os
 bare:AllBare s.gens
 base:Un X.fs X.ex X.H₀ H X.s₀.heap s.heap
 loc:∃m,s.heap.Ns X.env.locals m∧∀(i:Nat) (x:Str) (v:V),X.N[i]? = some x→σ[i]? = some (some v)→Vis X.env.scope x→∃u,RelV v u∧b62 X.env s.heap m x u
 cell:∀x c,X.env.cells.lookup x=some c→∃v,s.heap.IsCell c v
 free:H X.env.locals=none
 freeC:∀x c,X.env.cells.lookup x=some c→H c=none
 pin:∀p∈X.pn++pins,s.heap.get? p.1=some p.2∧H p.1=none∧p.1≠X.env.locals∧p.1 ∉ X.fs∧∀v,p.2.data≠.cell v
 hok:HOk X.prog X.w H s.heap
 len:σ.length=X.N.length
section
variable {X:Cx}{pins:List (Addr×Obj)}{σ:List (Option V)}{H H':Hp}{s:Shared}{h':Heap}
theorem Cx.Ok.nofr(ok:X.Ok){b:Addr}{o:Obj}(e:X.base.get? b=some o):b ∉ X.fs:=fun hb=>by
 have:=(ok.funs.mem hb).1
 rw[e]at this;cases this
theorem Inv.bs(I:Inv X pins σ H s):∀b o,X.base.get? b=some o→s.heap.get? b=some o∧H b=none:=fun b o e =>
 ⟨I.base.keep b o (I.ok.bs b o e).1 (I.ok.bs b o e).2 (I.ok.nofr e) (I.ok.noex b o e),I.base.free b o (I.ok.bs b o e).1 (I.ok.bs b o e).2 (I.ok.noex b o e)⟩
theorem Inv.bk(I:Inv X pins σ H s):∀b o,X.base.get? b=some o→s.heap.get? b=some o:=fun b o e=>(I.bs b o e).1
theorem Inv.mod(I:Inv X pins σ H s):Mod X.K X.mg X.base:=I.ok.mod
theorem Inv.kIn(I:Inv X pins σ H s):X.K.In s.heap:=I.ok.mod.kin.keeps I.bk
theorem Inv.nolimit(I:Inv X pins σ H s):s.heap.NoLimit:=I.ok.mod.nolimit.keeps I.bk
theorem Inv.fr(I:Inv X pins σ H s):∃m,Fr X.base X.env.locals s.heap m :=
 let ⟨m,hn,_⟩:=I.loc
 ⟨m,hn,I.bk,Nat.le_trans I.ok.bsz I.ok.above⟩
theorem Inv.lt(I:Inv X pins σ H s):X.env.locals<s.heap.objs.size:=let ⟨_,hn,_⟩:=I.loc;hn.lt
theorem Inv.sz(I:Inv X pins σ H s):X.s₀.heap.objs.size≤s.heap.objs.size:=Nat.le_trans I.ok.above (Nat.le_of_lt I.lt)
theorem Inv.nofs(I:Inv X pins σ H s){a:Addr}(h:s.heap.objs.size≤a):a ∉ X.fs:=fun hb=>by
 obtain⟨_,o,ho,_⟩:=I.ok.funs.mem hb
 exact absurd (Nat.lt_of_lt_of_le (Heap.lt_size ho) (Nat.le_trans I.sz h)) (Nat.lt_irrefl _)
theorem Inv.cne(I:Inv X pins σ H s):∀x c,X.env.cells.lookup x=some c→c≠X.env.locals:=fun x c e z=>by
 obtain⟨v,o,ho,hd⟩:=I.cell x c e
 obtain⟨m,⟨o',es,ep,ho',hd',_⟩,_⟩:=I.loc
 rw[z,ho']at ho;cases ho;rw[hd']at hd;cases hd
theorem Inv.funs(I:Inv X pins σ H s):s.heap.FunFrames X.base X.outer:=by
 have all:∀(l:List Env),(∀b∈E8 l,b∈X.fs)→X.s₀.heap.FunFrames X.base l→s.heap.FunFrames X.base l:=by
  intro l
  induction l with
  | nil=>intro _ _;trivial
  | cons env r ih =>
   intro hs hl
   obtain⟨hk,⟨L,o,hf,hn,ho,hd⟩,hr⟩:=hl
   have hL:L∈X.fs:=hs L (by unfold E8;rw[List.filterMap_cons,hf];exact List.mem_cons_self)
   obtain⟨sl,e⟩:=I.base.slot L o ho (I.ok.frf L hL) hL fun z=>I.ok.exfs L z hL
   exact⟨hk,⟨L,_,hf,hn,e,hd⟩,ih (fun b hb=>hs b (by unfold E8;rw[List.filterMap_cons,hf];exact List.mem_cons_of_mem _ hb)) hr⟩
 exact all X.outer (fun _ hb=>hb) I.ok.funs
theorem Inv.stack(I:Inv X pins σ H s):s.heap.FunFrames X.base X.stack:=by
 rcases I.ok.stk with e | ⟨e,hf⟩
 ·rw[e];exact I.funs
 ·rw[e]
  obtain⟨m,hn,_⟩:=I.loc
  refine .cons (by rw[I.ok.kind];decide) hf hn ?_ I.funs
  exact Heap.get?_none_of_le (Nat.le_trans I.ok.bsz I.ok.above)
theorem Inv.stkSub(I:Inv X pins σ H s):∀b∈E8 X.stack,b∈X.env.locals::X.fs:=fun b hb=>by
 rcases I.ok.stk with e | ⟨e,hf⟩
 ·rw[e]at hb;exact List.mem_cons_of_mem _ hb
 ·rw[e]at hb
  unfold E8 at hb
  rw[List.filterMap_cons,hf]at hb
  exact hb
theorem Inv.stkFree(I:Inv X pins σ H s):∀b∈E8 X.stack,H b=none:=fun b hb=>by
 rcases List.mem_cons.mp (I.stkSub b hb)with e | hb
 ·rw[e];exact I.free
 ·obtain⟨_,o,ho,_⟩:=I.ok.funs.mem hb
  exact I.base.free b o ho (I.ok.frf b hb) fun z=>I.ok.exfs b z hb
theorem Inv.step{g':Array GenState}{t':Nat}{d':Drawn}{ch:List Addr}(I:Inv X pins σ H s)
  (hch:∀b∈ch,(b∈X.ex∨X.s₀.heap.objs.size≤b)∧b≠X.env.locals∧(∀x c,X.env.cells.lookup x=some c→c≠b)∧∀p∈X.pn++pins,p.1≠b)
  (keep:∀b o,b≠X.env.locals→b ∉ X.fs→b ∉ ch→s.heap.get? b=some o→H b=none→h'.get? b=some o)
  (slot:∀b o,b≠X.env.locals→b∈X.fs→b ∉ ch→s.heap.get? b=some o→H b=none→∃sl,h'.get? b=some { o with slots:=sl }) (free:∀b o,b ∉ ch→s.heap.get? b=some o→H b=none→H' b=none)
  (there:∀b o,b ∉ ch→s.heap.get? b=some o→∃o',h'.get? b=some o')
  (tups:∀b xs,H b=some (.tup xs)→H' b=some (.tup xs)) (frzs:∀b o u,H b=some (.frz o u)→H' b=some (.frz o u)) (tbls:∀b ps,H b=some (.tbl ps)→∃more,H' b=some (.tbl (ps++more)))
  (ns:∀m,s.heap.Ns X.env.locals m→h'.Ns X.env.locals m) (hok:HOk X.prog X.w H' h') (hg:AllBare g') :
  Inv X pins σ H' { s with heap:=h',gens:=g',drawn:=d',toks:=t' }:=by
 have neL:∀b o,X.s₀.heap.get? b=some o→b≠X.env.locals:=fun b o e=>Nat.ne_of_lt (Nat.lt_of_lt_of_le (Heap.lt_size e) I.ok.above)
 have neC:∀b o,X.s₀.heap.get? b=some o→b ∉ X.ex→b ∉ ch:=fun b o e hx hb=>by
  rcases(hch b hb).1 with z | z
  ·exact hx z
  ·exact absurd (Nat.lt_of_lt_of_le (Heap.lt_size e) z) (Nat.lt_irrefl _)
 have cellK:∀x c,X.env.cells.lookup x=some c→∀v,s.heap.IsCell c v→h'.IsCell c v:=fun x c e v ⟨o,ho,hd⟩=>by
  have nch:c ∉ ch:=fun z=>(hch c z).2.2.1 x c e rfl
  by_cases hc:c∈X.fs
  ·obtain⟨sl,q⟩:=slot c o (I.cne x c e) hc nch ho (I.freeC x c e)
   exact⟨_,q,hd⟩
  ·exact⟨o,keep c o (I.cne x c e) hc nch ho (I.freeC x c e),hd⟩
 refine⟨I.ok,I.os,hg,⟨fun b o e n hb hx=>?_,fun b o e n hb hx=>?_,fun b o e n hx=>?_,fun b o e hx=>?_,fun b xs e=>tups b xs (I.base.tups b xs e),fun b o xs e=>frzs b o xs (I.base.frzs b o xs e),fun b ps e=>?_⟩,?_,fun x c e=>?_,?_,fun x c e=>?_,fun p hp=>?_,hok,I.len⟩
 ·exact keep b o (neL b o e) hb (neC b o e hx) (I.base.keep b o e n hb hx) (I.base.free b o e n hx)
 ·obtain⟨sl,e1⟩:=I.base.slot b o e n hb hx
  obtain⟨sl',e2⟩:=slot b _ (neL b o e) hb (neC b o e hx) e1 (I.base.free b o e n hx)
  exact⟨sl',e2⟩
 ·obtain⟨o',e1⟩:=I.base.there b o e hx
  exact free b o' (neC b o e hx) e1 (I.base.free b o e n hx)
 ·obtain⟨o',e1⟩:=I.base.there b o e hx
  exact there b o' (neC b o e hx) e1
 ·obtain⟨m1,e1⟩:=I.base.tbls b ps e
  obtain⟨m2,e2⟩:=tbls b _ e1
  exact⟨m1++m2,by rw[e2,Array.append_assoc]⟩
 ·obtain⟨m,hn,hl⟩:=I.loc
  refine⟨m,ns m hn,fun i x v e1 e2 e3=>?_⟩
  obtain⟨u,r,l⟩:=hl i x v e1 e2 e3
  refine⟨u,r,?_⟩
  rcases l with l | ⟨k,c,e,z⟩
  ·exact .inl l
  ·exact .inr ⟨k,c,e,cellK x c e _ z⟩
 ·obtain⟨v,z⟩:=I.cell x c e
  exact⟨v,cellK x c e v z⟩
 ·obtain⟨m,⟨o,_,_,ho,_⟩,_⟩:=I.loc
  exact free _ o (fun z=>(hch _ z).2.1 rfl) ho I.free
 ·obtain⟨v,o,ho,hd⟩:=I.cell x c e
  exact free c o (fun z=>(hch c z).2.2.1 x c e rfl) ho (I.freeC x c e)
 ·obtain⟨e,n,ne,nf,d⟩:=I.pin p hp
  have nch:p.1 ∉ ch:=fun z=>(hch p.1 z).2.2.2 p hp rfl
  exact⟨keep p.1 p.2 ne nf nch e n,free p.1 p.2 nch e n,ne,nf,d⟩
theorem Inv.un{t':Nat}(I:Inv X pins σ H s)(u:Un X.fs [] H H' s.heap h')(hok:HOk X.prog X.w H' h'):Inv X pins σ H' { s with heap:=h',toks:=t' }:=by
 obtain⟨m,⟨o,es,ep,ho,r⟩,_⟩:=id I.loc
 obtain⟨sl,hL⟩:=u.any ho I.free (by simp)
 exact I.step (g':=s.gens) (d':=s.drawn) (ch:=[]) (fun _ z=>nomatch z) (fun b o _ hb _ e n=>u.keep b o e n hb (by simp)) (fun b o _ hb _ e n=>u.slot b o e n hb (by simp)) (fun b o _ e n=>u.free b o e n (by simp)) (fun b o _ e=>u.there b o e (by simp)) u.tups u.frzs u.tbls (fun m' hm=>by
  obtain⟨o',es',ep',ho',r'⟩:=hm
  rw[ho]at ho';cases ho'
  exact⟨_,es',ep',hL,r'⟩) hok I.bare
theorem Inv.call{g':Array GenState}{t':Nat}{d':Drawn}{ch:List Addr}(I:Inv X pins σ H s)(u:Un (E8 X.stack) ch H H' s.heap h')(hok:HOk X.prog X.w H' h')(hg:AllBare g')
  (hch:∀b∈ch,(b∈X.ex∨X.s₀.heap.objs.size≤b)∧b≠X.env.locals∧(∀x c,X.env.cells.lookup x=some c→c≠b)∧∀p∈X.pn++pins,p.1≠b) :
  Inv X pins σ H' { s with heap:=h',gens:=g',drawn:=d',toks:=t' }:=by
 obtain⟨m,⟨o,es,ep,ho,r⟩,_⟩:=id I.loc
 obtain⟨sl,hL⟩:=u.any ho I.free fun z=>(hch _ z).2.1 rfl
 exact I.step (ch:=ch) hch (fun b o hL hb hc e n=>u.keep b o e n (fun z=>(List.mem_cons.mp (I.stkSub b z)).elim hL hb) hc) (fun b o _ _ hc e n=>u.any e n hc) (fun b o hc e n=>u.free b o e n hc) (fun b o hc e=>u.there b o e hc) u.tups u.frzs u.tbls (fun m' hm=>by
  obtain⟨o',es',ep',ho',r'⟩:=hm
  rw[ho]at ho';cases ho'
  exact⟨_,es',ep',hL,r'⟩) hok hg
theorem Inv.turned{t':Nat}{it:Addr}(I:Inv X pins σ H s)(k:∀b o,b≠it→s.heap.get? b=some o→h'.get? b=some o)(hn:H it=none)(hL:it≠X.env.locals)
  (h1:it∈X.ex∨X.s₀.heap.objs.size≤it) (h2:∀x c,X.env.cells.lookup x=some c→c≠it) (h3:∀p∈X.pn++pins,p.1≠it):Inv X pins σ H { s with heap:=h',toks:=t' }:=by
 have nit:∀b u,H b=some u→b≠it:=fun b u e z=>by rw[z,hn]at e;cases e
 refine I.step (g':=s.gens) (d':=s.drawn) (ch:=[it]) (fun b hb=>?_) (fun b o _ _ hc e _=>k b o (fun z=>hc (by simp[z])) e) (fun b o _ _ hc e _=>⟨o.slots,k b o (fun z=>hc (by simp[z])) e⟩) (fun _ _ _ _ n=>n)
  (fun b o hc e=>⟨o,k b o (fun z=>hc (by simp[z])) e⟩) (fun _ _ e=>e) (fun _ _ _ e=>e) (fun b ps e=>⟨#[],by rw[e];simp⟩) (fun m hm=>?_) (fun b u e=>?_) I.bare
 ·have e:b=it:=by simpa using hb
  subst e
  exact⟨h1,hL,h2,h3⟩
 ·obtain⟨o,es,ep,ho,r⟩:=hm
  exact⟨o,es,ep,k _ o (Ne.symm hL) ho,r⟩
 ·refine(I.hok b u e).stay (fun c v hc q=>k c v ?_ q) (fun _ q=>q) (fun _ _ q=>q) fun _ _ _ q=>q
  rcases hc with z | z
  ·rw[z];exact nit b u e
  ·exact nit c _ z
theorem Inv.tok(I:Inv X pins σ H s)(t:Nat):Inv X pins σ H { s with toks:=t }:=I.un (h':=s.heap) (t':=t) Un.refl I.hok
theorem Inv.kept{t':Nat}(I:Inv X pins σ H s)(k:∀b u,s.heap.get? b=some u→h'.get? b=some u):Inv X pins σ H { s with heap:=h',toks:=t' }:=I.un (Un.kept k) (I.hok.kept k)
theorem Inv.laid{a:Addr}{o:HO}{t':Nat}(I:Inv X pins σ H s)(k:∀b u,s.heap.get? b=some u→h'.get? b=some u)(hp:s.heap.objs.size≤a)(new:ObjOk X.prog X.w (upd H a o) h' a o) :
  Inv X pins σ (upd H a o) { s with heap:=h',toks:=t' }:=I.un (Un.laid k hp (I.hok.fresh hp)) (I.hok.laid k hp new)
theorem Inv.write{x e:Addr}{o:HO}{t':Nat}(I:Inv X pins σ H s)(mu:Mut (H x))(he:e=x∨H e=some (.own x))(k:∀b u,b≠e→s.heap.get? b=some u→h'.get? b=some u)(heo:∃u,h'.get? e=some u)
  (new:ObjOk X.prog X.w (upd H x o) h' x o):Inv X pins σ (upd H x o) { s with heap:=h',toks:=t' }:=I.un (Un.write mu he k heo) (I.hok.write mu he k heo new)
theorem Inv.weak{σ':List (Option V)}(I:Inv X pins σ H s)(hl:σ'.length=σ.length)(w:∀(i:Nat) v,σ'[i]? = some (some v)→σ[i]? = some (some v)):Inv X pins σ' H s :=
 ⟨I.ok,I.os,I.bare,I.base,let ⟨m,hn,hl'⟩:=I.loc; ⟨m,hn,fun i x v e1 e2 e3=>hl' i x v e1 (w i v e2) e3⟩,I.cell,I.free,I.freeC,I.pin,I.hok,hl.trans I.len⟩
theorem Inv.pins_of{pins':List (Addr×Obj)}(I:Inv X pins σ H s)(h:∀p∈pins',s.heap.get? p.1=some p.2∧H p.1=none∧p.1≠X.env.locals∧p.1 ∉ X.fs∧∀v,p.2.data≠.cell v):Inv X pins' σ H s :=
 ⟨I.ok,I.os,I.bare,I.base,I.loc,I.cell,I.free,I.freeC,fun p hp=>(List.mem_append.mp hp).elim (fun z=>I.pin p (List.mem_append_left _ z)) (h p),I.hok,I.len⟩
theorem a4F{N:List Str}(hN:N.Nodup){i j:Nat}{x:Str}(a:N[i]? = some x)(b:N[j]? = some x):i=j:=by
 obtain⟨h1,e1⟩:=List.getElem?_eq_some_iff.mp a
 obtain⟨h2,e2⟩:=List.getElem?_eq_some_iff.mp b
 exact(List.getElem_inj hN).mp (e1.trans e2.symm)
theorem a6D{M:Model}{A:Around}{E:Value→Shared→Prop}{i:Nat}{x:Str}{v:V}{u:Value}{Q:Unit→Shared→Prop}(I:Inv X pins σ H s)(hN:X.N.Nodup)(hi:X.N[i]? = some x)(hx:Loc X.env.scope x)(r:RelV v u)
  (h:∀s',Inv X pins (σ.set i (some v)) H s'→(∃a,Heap.SameBut a s.heap s'.heap∧(a=X.env.locals∨X.env.cells.lookup x=some a))→Q () s') (hf:X.fn x=true∨X.env.scope.names.lookup x=some .local:=by first | exact .inl rfl | exact .inr rfl | assumption):wpAny M A (storeName X.env x u) Q E s:=by
 obtain⟨m,hn,hl⟩:=id I.loc
 have hcls:(X.env.scope.kind == .class || (X.env.scope.kind == .module && X.env.locals != X.env.globals))=false:=by rw[I.ok.kind];rfl
 have hiσ:i<σ.length:=by rw[I.len];exact(List.getElem?_eq_some_iff.mp hi).1
 have cne:=I.cne
 have tracked:∀{a:Addr} {h':Heap},(∃o,s.heap.get? a=some o∧H a=none)→Heap.SameBut a s.heap h'→HOk X.prog X.w H h':=fun{a h'} ha hs b ob e=>by
  obtain⟨_,_,hfree⟩:=ha
  refine(I.hok b ob e).stay (fun c w' hc q=>(hs.2 c ?_).trans q) (fun _ q=>q) (fun _ _ q=>q) fun _ _ _ q=>q
  rintro rfl
  rcases hc with rfl | hc
  ·rw[hfree]at e;cases e
  ·rw[hfree]at hc;cases hc
 rcases hx with hk | hk
 ·refine wpAny_storeName_local hk hn (fun h' hn' hs=>?_) hcls
  obtain⟨oL,_,_,hoL,_⟩:=id hn
  refine h _ ⟨I.ok,I.os,I.bare,⟨fun b o e n hb hx=>?_,fun b o e n hb hx=>?_,I.base.free,fun b o e hx=>?_,I.base.tups,I.base.frzs,I.base.tbls⟩,⟨_,hn',fun j y v' e1 e2 e3=>?_⟩,fun y c e=>?_,I.free,I.freeC,fun p hp=>?_,tracked ⟨oL,hoL,I.free⟩ hs,by simpa using I.len⟩ ⟨_,hs,.inl rfl⟩
  ·exact(hs.2 b (Nat.ne_of_lt (Nat.lt_of_lt_of_le (Heap.lt_size e) I.ok.above))).trans (I.base.keep b o e n hb hx)
  ·obtain⟨sl,e1⟩:=I.base.slot b o e n hb hx
   exact⟨sl,(hs.2 b (Nat.ne_of_lt (Nat.lt_of_lt_of_le (Heap.lt_size e) I.ok.above))).trans e1⟩
  ·obtain⟨o',e1⟩:=I.base.there b o e hx
   exact⟨o',(hs.2 b (Nat.ne_of_lt (Nat.lt_of_lt_of_le (Heap.lt_size e) I.ok.above))).trans e1⟩
  ·by_cases hj:j=i
   ·subst hj
    rw[hi]at e1;cases e1
    rw[List.getElem?_set_self hiσ]at e2
    cases e2
    exact⟨u,r,.inl ⟨hk,by simp⟩⟩
   ·rw[List.getElem?_set_ne (Ne.symm hj)]at e2
    obtain⟨u',r',q⟩:=hl j y v' e1 e2 e3
    refine⟨u',r',?_⟩
    rcases q with⟨k,e⟩ | ⟨k,c,e,z⟩
    ·refine .inl ⟨k,?_⟩
     have:y≠x:=fun e=>hj (a4F hN e1 (e▸hi))
     simp[this,e]
    ·exact .inr ⟨k,c,e,z.sameBut hs (cne y c e)⟩
  ·obtain⟨w',z⟩:=I.cell y c e
   exact⟨w',z.sameBut hs (cne y c e)⟩
  ·obtain⟨e,n,ne,nf,d⟩:=I.pin p hp
   exact⟨(hs.2 p.1 ne).trans e,n,ne,nf,d⟩
 ·have hfn:X.fn x=true:=by
   rcases hf with z | z
   ·exact z
   ·rw[z]at hk;cases hk
  obtain⟨c,hc⟩:=I.ok.has x (.inl hk)
  obtain⟨w',z⟩:=I.cell x c hc
  refine wpAny_storeName_cell I.ok.kind hk hc z (fun h' hc' hs=>?_)
  obtain⟨oc,hoc,hocd⟩:=id z
  refine h { s with heap:=h' } ⟨I.ok,I.os,I.bare,⟨fun b o e n hb hx=>?_,fun b o e n hb hx=>?_,I.base.free,fun b o e hx=>?_,I.base.tups,I.base.frzs,I.base.tbls⟩,⟨m,hn.sameBut hs (Ne.symm (cne x c hc)),fun j y v' e1 e2 e3=>?_⟩,fun y c' e=>?_,I.free,I.freeC,fun p hp=>?_,tracked ⟨oc,hoc,I.freeC x c hc⟩ hs,by simpa using I.len⟩ ⟨c,hs,.inr hc⟩
  ·exact(hs.2 b (Nat.ne_of_lt (Nat.lt_of_lt_of_le (Heap.lt_size e) (I.ok.cab x c hfn hc)))).trans (I.base.keep b o e n hb hx)
  ·obtain⟨sl,e1⟩:=I.base.slot b o e n hb hx
   exact⟨sl,(hs.2 b (Nat.ne_of_lt (Nat.lt_of_lt_of_le (Heap.lt_size e) (I.ok.cab x c hfn hc)))).trans e1⟩
  ·obtain⟨o',e1⟩:=I.base.there b o e hx
   exact⟨o',(hs.2 b (Nat.ne_of_lt (Nat.lt_of_lt_of_le (Heap.lt_size e) (I.ok.cab x c hfn hc)))).trans e1⟩
  ·by_cases hj:j=i
   ·subst hj
    rw[hi]at e1;cases e1
    rw[List.getElem?_set_self hiσ]at e2
    cases e2
    exact⟨u,r,.inr ⟨.inl hk,c,hc,hc'⟩⟩
   ·rw[List.getElem?_set_ne (Ne.symm hj)]at e2
    obtain⟨u',r',q⟩:=hl j y v' e1 e2 e3
    refine⟨u',r',?_⟩
    rcases q with q | ⟨k,c',e,z'⟩
    ·exact .inl q
    ·refine .inr ⟨k,c',e,z'.sameBut hs ?_⟩
     rintro rfl
     exact hj (a4F hN e1 (I.ok.inj _ _ _ e hc▸hi))
  ·by_cases hcc:c'=c
   ·subst hcc;exact⟨_,hc'⟩
   ·obtain⟨w2,z2⟩:=I.cell y c' e
    exact⟨w2,z2.sameBut hs hcc⟩
  ·obtain⟨e,n,ne,nf,d⟩:=I.pin p hp
   refine⟨(hs.2 p.1 ?_).trans e,n,ne,nf,d⟩
   intro q
   rw[q,hoc]at e
   have q':oc=p.2:=Option.some.inj e
   exact d w' (by rw[← q'];exact hocd)
theorem a2t{M:Model}{A:Around}{E:Value→Shared→Prop}{i:Nat}{x:Str}{v:V}{u:Value}{Q:Unit→Shared→Prop}(I:Inv X pins σ H s)(hN:X.N.Nodup)(hi:X.N[i]? = some x)(hx:Loc X.env.scope x)(r:RelV v u)
  (h:∀s',Inv X pins (σ.set i (some v)) H s'→Q () s') (hf:X.fn x=true∨X.env.scope.names.lookup x=some .local:=by first | exact .inl rfl | exact .inr rfl | assumption):wpAny M A (storeName X.env x u) Q E s :=
 a6D I hN hi hx r (fun s' I' _=>h s' I') hf
theorem Inv.call'{s':Shared}{ch:List Addr}(I:Inv X pins σ H s)(ho:s'.os=s.os)(u:Un (E8 X.stack) ch H H' s.heap s'.heap)(hok:HOk X.prog X.w H' s'.heap)(hg:AllBare s'.gens)
  (hch:∀b∈ch,(b∈X.ex∨X.s₀.heap.objs.size≤b)∧b≠X.env.locals∧(∀x c,X.env.cells.lookup x=some c→c≠b)∧∀p∈X.pn++pins,p.1≠b):Inv X pins σ H' s':=by
 obtain⟨h',g',d',t',o'⟩:=s'
 have e:o'=s.os:=ho
 subst e
 exact I.call (g':=g') (t':=t') (d':=d') u hok hg hch
end
abbrev XK:=Value→Option Addr→Hp→Prop
abbrev St:=List (Option V)
abbrev VK:=V→Hp→Prop
abbrev TE:=St→Hp→VK→Prop
abbrev TT:=St→Hp→(Bool→Hp→Prop)→Prop
abbrev TA:=St→Hp→(List V→Hp→Prop)→Prop
structure Ends where
 nx:St→Hp→Prop
 rt:VK
 bk:St→Hp→Prop:=fun _ _=>False
 ct:St→Hp→Prop:=fun _ _=>False
abbrev TS:=Ends→St→Hp→Prop
def EP(X:Cx)(pins:List (Addr×Obj))(σ:St)(Q:VK)(u:Value)(s':Shared):Prop:=∃v H',Inv X pins σ H' s'∧RelV v u∧Q v H'
def TP(X:Cx)(pins:List (Addr×Obj))(σ:St)(Q:Bool→Hp→Prop)(b:Bool)(s':Shared):Prop:=∃H',Inv X pins σ H' s'∧Q b H'
def AP(X:Cx)(pins:List (Addr×Obj))(σ:St)(Q:List V→Hp→Prop)(us:List Value)(s':Shared):Prop:=∃vs H',Inv X pins σ H' s'∧Vals vs us∧Q vs H'
def SP(X:Cx)(pins:List (Addr×Obj))(D:Ends)(f:Flow)(s':Shared):Prop :=
 match f with
 | .next=>∃σ' H',Inv X pins σ' H' s'∧D.nx σ' H'
 | .brk=>∃σ' H',Inv X pins σ' H' s'∧D.bk σ' H'
 | .cont=>∃σ' H',Inv X pins σ' H' s'∧D.ct σ' H'
 | .ret u=>∃v σ' H',Inv X pins σ' H' s'∧RelV v u∧D.rt v H'
def PE(X:Cx)(e:Expr)(t:TE):Prop :=
 ∀(pins:List (Addr×Obj)) (s:Shared) (σ:St) (H:Hp) (Q:VK),Inv X pins σ H s→t σ H Q→wpAny (model X.prog X.w) X.A (eval e X.env) (EP X pins σ Q) X.xe s
def PT(X:Cx)(e:Expr)(t:TT):Prop :=
 ∀(pins:List (Addr×Obj)) (s:Shared) (σ:St) (H:Hp) (Q:Bool→Hp→Prop),Inv X pins σ H s→t σ H Q→wpAny (model X.prog X.w) X.A (isTrue e X.env (eval e X.env)) (TP X pins σ Q) X.xe s
def PW(X:Cx)(e:Expr)(t:TT):Prop :=
 ∀(whole:Sem Value) (pins:List (Addr×Obj)) (s:Shared) (σ:St) (H:Hp) (Q:Bool→Hp→Prop),Inv X pins σ H s→t σ H Q→wpAny (model X.prog X.w) X.A (isTrue e X.env whole) (TP X pins σ Q) X.xe s
theorem PW.pt{X:Cx}{e:Expr}{t:TT}(h:PW X e t):PT X e t:=h _
def PA(X:Cx)(es:List Expr)(t:TA):Prop :=
 ∀(pos:Pos) (pins:List (Addr×Obj)) (s:Shared) (σ:St) (H:Hp) (Q:List V→Hp→Prop),Inv X pins σ H s→t σ H Q→wpAny (model X.prog X.w) X.A (spliced (backTo pos (starEach es X.env))) (AP X pins σ Q) X.xe s
def PS(X:Cx)(st:Stmt)(t:TS):Prop :=
 ∀(pins:List (Addr×Obj)) (s:Shared) (σ:St) (H:Hp) (D:Ends),Inv X pins σ H s→t D σ H→wpAny (model X.prog X.w) X.A (exec st X.env) (SP X pins D) X.xe s
def PSs(X:Cx)(st:List Stmt)(t:TS):Prop :=
 ∀(pins:List (Addr×Obj)) (s:Shared) (σ:St) (H:Hp) (D:Ends),Inv X pins σ H s→t D σ H→wpAny (model X.prog X.w) X.A (execs st X.env) (SP X pins D) X.xe s
theorem l3{α:Type}{t:Sem α}{Q Q':α→Shared→Prop}{M:Model}{A:Around}{E:Value→Shared→Prop}{s:Shared}(h:wpAny M A t Q E s)(hQ:∀a s,Q a s→Q' a s):wpAny M A t Q' E s:=wpAny_mono h hQ fun _ _ x=>x
section
variable {X:Cx}
def O4(i:Nat):TE:=fun σ H Q=>∃v,σ[i]? = some (some v)∧Q v H
def tC(v:V):TE:=fun _ H Q=>Q v H
theorem b42{i:Nat}{x:Str}{pos:Pos}(hN:X.N[i]? = some x)(hv:Vis X.env.scope x)(hd:(x == ("__debug__" : Str))=false:=by decide)(hcd:(x == ("__classdict__" : Str))=false:=by decide):PE X (.Name x pos) (O4 i):=by
 intro pins s σ H Q I h
 obtain⟨v,e,h⟩:=h
 obtain⟨m,hn,hl⟩:=I.loc
 obtain⟨u,r,l⟩:=hl i x v hN e hv
 have fin:EP X pins σ Q u s:=⟨v,H,I,r,h⟩
 rcases l with⟨hk,hm⟩ | ⟨hk,c,hc,hcell⟩
 ·exact wpAny_Name (wpAny_loadName_local I.ok.kind hk hn hm fin) hd
 ·rcases hk with hk | hk
  ·exact wpAny_Name (wpAny_loadName_cell I.ok.kind hk hc hcell fin) hd
  ·exact wpAny_Name (wpAny_loadName_free I.ok.kind hk hc hcell fin hcd) hd
theorem g5{i j pos}:PE X (.Constant (.int i) j pos) (tC (.int i)):=fun _ _ _ H _ I h=>wpAny_Constant_int ⟨.int i,H,I.tok _,⟨_,rfl⟩,h⟩
theorem b3g{b j pos}:PE X (.Constant (.bool b) j pos) (tC (.bl b)):=fun _ _ _ H _ I h=>Constant_bool ⟨.bl b,H,I,rfl,h⟩
theorem S6{j pos}:PE X (.Constant .none j pos) (tC .non):=fun _ _ _ H _ I h=>Constant_none ⟨.non,H,I,rfl,h⟩
theorem u0{x j pos}:PE X (.Constant (.str x) j pos) (tC (.str x)):=fun _ _ _ H _ I h=>Calls.Constant_str ⟨.str x,H,I.tok _,⟨_,rfl⟩,h⟩
def Gl(X:Cx)(x:Str):Prop:=X.env.kindOf x=some .globalImplicit
theorem Q8{E:Value→Shared→Prop}{pins:List (Addr×Obj)}{s:Shared}{σ:St}{H:Hp}{x:Str}{u:Value}{pos:Pos}{Q:Value→Shared→Prop}(I:Inv X pins σ H s)(hg:Gl X x)(hm:X.mg x=some u)(h:Q u s)
  (hd:(x == ("__debug__" : Str))=false:=by decide):wpAny (model X.prog X.w) X.A (eval (.Name x pos) X.env) Q E s :=
 Calls.Name_function_global I.ok.kind hg (Calls.loadGlobal_global (by rw[I.ok.glob];exact I.mod.glob.keeps I.bk) hm h) hd
theorem K4{E:Value→Shared→Prop}{pins:List (Addr×Obj)}{s:Shared}{σ:St}{H:Hp}{x:Str}{u:Value}{pos:Pos}{Q:Value→Shared→Prop}(I:Inv X pins σ H s)(hg:Gl X x)(hm:X.mg x=none)(hv:bootBuiltins x=some u)(h:Q u s)
  (hn:x≠"__name__" := by decide) (hd:(x == ("__debug__" : Str))=false:=by decide):wpAny (model X.prog X.w) X.A (eval (.Name x pos) X.env) Q E s:=by
 obtain⟨mb,h1,h2⟩:=I.mod.blt
 exact Calls.Name_function_global I.ok.kind hg (Calls.loadGlobal_builtin (by rw[I.ok.glob];exact I.mod.glob.keeps I.bk) hm (by rw[I.ok.blt];exact h1.keeps I.bk) ((h2 x hn).trans hv) h) hd
theorem z7{x:Str}{v:V}{u:Value}{pos:Pos}(hg:Gl X x)(hm:X.mg x=some u)(r:RelV v u)(hd:(x == ("__debug__" : Str))=false:=by decide):PE X (.Name x pos) (tC v) :=
 fun _ _ _ H _ I h=>Q8 I hg hm ⟨v,H,I,r,h⟩ hd
theorem V2{x:Str}{v:V}{u:Value}{pos:Pos}(hg:Gl X x)(hm:X.mg x=none)(hv:bootBuiltins x=some u)(r:RelV v u)(hn:x≠"__name__" := by decide)(hd:(x == ("__debug__" : Str))=false:=by decide):PE X (.Name x pos) (tC v) :=
 fun _ _ _ H _ I h=>K4 I hg hm hv ⟨v,H,I,r,h⟩ hn hd
variable {a b:Expr}{ta tb:TE}{pos:Pos}
def tB(t:TE):TT:=fun σ H Q=>t σ H fun x H1=>∃c,x=.bl c∧Q c H1
theorem z8{e:Expr}{t:TE}(h:PE X e t)(he:∀whole,isTrue e X.env whole=(do let v ← whole;standAt e.pos;holding [v] (truthy v)):=by intro _;rfl):PT X e (tB t):=by
 intro pins s σ H Q I hw
 refine isTrue_plain (l3 (h pins s σ H _ I hw) fun v s1 ⟨x,H1,I1,r1,q1⟩=>?_) (he _)
 obtain⟨d,rfl,q⟩:=q1
 cases r1
 exact wpAny_truthy_bool ⟨H1,I1,q⟩
variable {tA tB':TT}{k8:List Expr}
def b43(t u:TT):TT:=fun σ H Q=>t σ H fun c H1=>if c=true then u σ H1 Q else Q false H1
def tOr(t u:TT):TT:=fun σ H Q=>t σ H fun c H1=>if c=true then Q true H1 else u σ H1 Q
def b44(t:TT):TT:=fun σ H Q=>t σ H fun c H1=>Q (!c) H1
theorem a0c(ha:PT X a tA):PW X (.BoolOp .And [a] pos) tA:=by
 intro wh pins s σ H Q I h
 refine isTrue_and (l3 (ha pins s σ H Q I h) fun c s1 e=>?_)
 cases c with
 | true=>exact isTrue_and_nil e
 | false=>exact e
theorem b0y(ha:PT X a tA):PW X (.BoolOp .Or [a] pos) tA:=by
 intro wh pins s σ H Q I h
 refine isTrue_or (l3 (ha pins s σ H Q I h) fun c s1 e=>?_)
 cases c with
 | false=>exact isTrue_or_nil e
 | true=>exact e
theorem S7(ha:PT X a tA)(hb:PW X (.BoolOp .And (b::k8) pos) tB'):PW X (.BoolOp .And (a::b::k8) pos) (b43 tA tB'):=by
 intro wh pins s σ H Q I h
 refine isTrue_and (l3 (ha pins s σ H _ I h) fun c s1 ⟨H1,I1,q1⟩=>?_)
 cases c with
 | true=>exact hb wh pins s1 σ H1 Q I1 q1
 | false=>exact⟨H1,I1,q1⟩
theorem a7e(ha:PT X a tA)(hb:PW X (.BoolOp .Or (b::k8) pos) tB'):PW X (.BoolOp .Or (a::b::k8) pos) (tOr tA tB'):=by
 intro wh pins s σ H Q I h
 refine isTrue_or (l3 (ha pins s σ H _ I h) fun c s1 ⟨H1,I1,q1⟩=>?_)
 cases c with
 | true=>exact⟨H1,I1,q1⟩
 | false=>exact hb wh pins s1 σ H1 Q I1 q1
theorem L6(ha:PT X a tA):PT X (.UnaryOp .Not a pos) (b44 tA):=by
 intro pins s σ H Q I h
 exact isTrue_not (ha pins s σ H (fun c H1=>Q (!c) H1) I h)
def b3h(ta tb:TE):TE:=fun σ H Q=>ta σ H fun x H1=>∃c,x=.bl c∧if c=true then tb σ H1 Q else Q (.bl false) H1
def b45(ta tb:TE):TE:=fun σ H Q=>ta σ H fun x H1=>∃c,x=.bl c∧if c=true then Q (.bl true) H1 else tb σ H1 Q
def b3i(ta:TE):TE:=fun σ H Q=>ta σ H fun x H1=>∃c,x=.bl c∧Q (.bl (!c)) H1
theorem O6{op}{t:TE}(h:PE X a t):PE X (.BoolOp op [a] pos) t:=fun pins s σ H Q I hw=>BoolOp_one (h pins s σ H Q I hw)
theorem L7(ha:PE X a ta)(hb:PE X (.BoolOp .And (b::k8) pos) tb):PE X (.BoolOp .And (a::b::k8) pos) (b3h ta tb):=by
 intro pins s σ H Q I h
 refine BoolOp_and (l3 (ha pins s σ H _ I h) fun v s1 ⟨x,H1,I1,r1,q1⟩=>?_)
 obtain⟨c,rfl,q1⟩:=q1
 cases r1
 refine wpAny_truthy_bool ?_
 cases c with
 | true=>exact hb pins s1 σ H1 Q I1 q1
 | false=>exact⟨.bl false,H1,I1,rfl,q1⟩
theorem a9H(ha:PE X a ta)(hb:PE X (.BoolOp .Or (b::k8) pos) tb):PE X (.BoolOp .Or (a::b::k8) pos) (b45 ta tb):=by
 intro pins s σ H Q I h
 refine BoolOp_or (l3 (ha pins s σ H _ I h) fun v s1 ⟨x,H1,I1,r1,q1⟩=>?_)
 obtain⟨c,rfl,q1⟩:=q1
 cases r1
 refine wpAny_truthy_bool ?_
 cases c with
 | false=>exact hb pins s1 σ H1 Q I1 q1
 | true=>exact⟨.bl true,H1,I1,rfl,q1⟩
theorem b0z(ha:PE X a ta):PE X (.UnaryOp .Not a pos) (b3i ta):=by
 intro pins s σ H Q I h
 refine UnaryOp_ (l3 (ha pins s σ H _ I h) fun v s1 ⟨x,H1,I1,r1,q1⟩=>?_)
 obtain⟨c,rfl,q1⟩:=q1
 cases r1
 exact not_of (wpAny_truthy_bool ⟨.bl (!c),H1,I1,rfl,q1⟩)
end
def SqL(K:W.Frag)(H:Hp)(a:Addr)(xs:List V):Prop :=
 Rd H a (.lst xs) ∨
  ∃(o:Obj) (its:Array Value) (n:Nat),K.lookup a=some o∧o.cls=.type "list"∧o.dict=none∧o.data=.seq its n∧its.size≤sizeLine∧Vals xs its.toList
def SqT(K:W.Frag)(H:Hp)(a:Addr)(xs:List V):Prop :=
 Rd H a (.tup xs) ∨
  ∃(o:Obj) (its:Array Value) (n:Nat),K.lookup a=some o∧o.cls=.type "tuple"∧o.data=.seq its n∧its.size≤sizeLine∧Vals xs its.toList
def b63:Value→Option V
 | .none=>some .non
 | .bool b=>some (.bl b)
 | .int i _=>some (.int i)
 | .str x _=>some (.str x)
 | .bytes b _=>some (.byt b)
 | .float b _=>some (.flt b)
 | .ref a=>some (.ref a)
 | .type n=>some (.ty n)
 | _=>none
theorem RelV.abs{x:V}{u:Value}(r:RelV x u):b63 u=some x:=by
 cases x with
 | non=>cases r;rfl
 | bl _=>cases r;rfl
 | int _=>obtain⟨t,rfl⟩:=r;rfl
 | str _=>obtain⟨t,rfl⟩:=r;rfl
 | byt _=>obtain⟨t,rfl⟩:=r;rfl
 | flt _=>obtain⟨t,rfl⟩:=r;rfl
 | ref _=>cases r;rfl
 | ty _=>cases r;rfl
theorem RelV.inj{x y:V}{u:Value}(r:RelV x u)(q:RelV y u):x=y:=Option.some.inj (r.abs.symm.trans q.abs)
theorem Vals.inj:∀{xs ys:List V} {us:List Value},Vals xs us→Vals ys us→xs=ys
 | _,_,_,.nil,.nil=>rfl
 | _,_,_,.cons r t,.cons r' t'=>by rw[r.inj r',Vals.inj t t']
section
variable {X:Cx}{pins:List (Addr×Obj)}{σ:St}{H:Hp}{s:Shared}{a:Addr}{xs ys:List V}
theorem SqL.of{K:W.Frag}(h:H a=some (.lst xs)):SqL K H a xs:=.inl (.inl h)
theorem SqT.of{K:W.Frag}(h:H a=some (.tup xs)):SqT K H a xs:=.inl (.inl h)
theorem Inv.list(I:Inv X pins σ H s)(h:SqL X.K H a xs):∃its:List Value,Vals xs its∧PlainL s.heap a its.toArray∧xs.length≤sizeLine:=by
 rcases h with h | ⟨o,its,n,hk,hc,hd,hs,hz,r⟩
 ·obtain⟨z,its,n,r,e⟩:=h.ok I.hok
  exact⟨its,r,⟨_,n,e,rfl,rfl,rfl⟩,z⟩
 ·refine⟨its.toList,r,⟨o,n,I.kIn a o hk,hc,hd,by simpa using hs⟩,?_⟩
  have e:=r.length
  simp only[Array.length_toList]at e
  omega
theorem Inv.tuple(I:Inv X pins σ H s)(h:SqT X.K H a xs):∃its:List Value,Vals xs its∧IsTup s.heap a its.toArray∧xs.length≤sizeLine:=by
 rcases h with h | ⟨o,its,n,hk,hc,hs,hz,r⟩
 ·obtain⟨z,its,r,p⟩:=h.ok I.hok
  exact⟨its,r,p,z⟩
 ·refine⟨its.toList,r,⟨o,I.kIn a o hk,hc,n,by simpa using hs⟩,?_⟩
  have e:=r.length
  simp only[Array.length_toList]at e
  omega
theorem Inv.list_inj(I:Inv X pins σ H s)(h:SqL X.K H a xs)(h':SqL X.K H a ys):xs=ys:=by
 obtain⟨its,r,⟨o,n,e,_,_,d⟩,_⟩:=I.list h
 obtain⟨its',r',⟨o',n',e',_,_,d'⟩,_⟩:=I.list h'
 rw[e]at e';cases e'
 rw[d]at d'
 injection d' with d1 _
 have:its=its':=by simpa using congrArg Array.toList d1
 subst this
 exact r.inj r'
theorem Inv.tuple_inj(I:Inv X pins σ H s)(h:SqT X.K H a xs)(h':SqT X.K H a ys):xs=ys:=by
 obtain⟨its,r,⟨o,e,_,n,d⟩,_⟩:=I.tuple h
 obtain⟨its',r',⟨o',e',_,n',d'⟩,_⟩:=I.tuple h'
 rw[e]at e';cases e'
 rw[d]at d'
 injection d' with d1 _
 have:its=its':=by simpa using congrArg Array.toList d1
 subst this
 exact r.inj r'
end
abbrev Cx.wish(X:Cx)(E:Value→Shared→Prop):Cx:={ X with xe:=E }
abbrev Cx.nox(X:Cx):Cx:=X.wish fun _ _=>False
theorem Cx.Ok.wish{X:Cx}(ok:X.Ok)(E:Value→Shared→Prop):(X.wish E).Ok :=
 ⟨ok.mod,ok.kind,ok.glob,ok.blt,ok.above,ok.inj,ok.has,ok.cab,ok.hd,ok.frames,ok.stk,ok.exf,ok.bs,ok.bsz,ok.noex,ok.exfs,ok.funs,ok.frf⟩
theorem Cx.Ok.unwish{X:Cx}{E:Value→Shared→Prop}(ok:(X.wish E).Ok):X.Ok :=
 ⟨ok.mod,ok.kind,ok.glob,ok.blt,ok.above,ok.inj,ok.has,ok.cab,ok.hd,ok.frames,ok.stk,ok.exf,ok.bs,ok.bsz,ok.noex,ok.exfs,ok.funs,ok.frf⟩
section
variable {X:Cx}{pins:List (Addr×Obj)}{σ:St}{H:Hp}{s:Shared}{E:Value→Shared→Prop}
theorem Inv.wish(I:Inv X pins σ H s)(E:Value→Shared→Prop):Inv (X.wish E) pins σ H s:=⟨I.ok.wish E,I.os,I.bare,I.base,I.loc,I.cell,I.free,I.freeC,I.pin,I.hok,I.len⟩
theorem Inv.unwish(I:Inv (X.wish E) pins σ H s):Inv X pins σ H s:=⟨I.ok.unwish,I.os,I.bare,I.base,I.loc,I.cell,I.free,I.freeC,I.pin,I.hok,I.len⟩
theorem SP.unwish{D:Ends}{f:Flow}{s':Shared}(h:SP (X.wish E) pins D f s'):SP X pins D f s':=by
 cases f with
 | next=>obtain⟨σ',H',I,q⟩:=h;exact⟨σ',H',I.unwish,q⟩
 | brk=>obtain⟨σ',H',I,q⟩:=h;exact⟨σ',H',I.unwish,q⟩
 | cont=>obtain⟨σ',H',I,q⟩:=h;exact⟨σ',H',I.unwish,q⟩
 | ret u=>obtain⟨v,σ',H',I,r,q⟩:=h;exact⟨v,σ',H',I.unwish,r,q⟩
theorem PE.nox{e:Expr}{t:TE}(h:PE X.nox e t):PE X e t:=fun pins s σ H Q I hw =>
 wpAny_mono (h pins s σ H Q (I.wish _) hw) (fun _ _ ⟨v,H',I',r,q⟩=>⟨v,H',I'.unwish,r,q⟩) fun _ _ z=>False.elim z
theorem PT.nox{e:Expr}{t:TT}(h:PT X.nox e t):PT X e t:=fun pins s σ H Q I hw =>
 wpAny_mono (h pins s σ H Q (I.wish _) hw) (fun _ _ ⟨H',I',q⟩=>⟨H',I'.unwish,q⟩) fun _ _ z=>False.elim z
theorem PSs.nox{st:List Stmt}{t:TS}(h:PSs X.nox st t):PSs X st t:=fun pins s σ H D I hw =>
 wpAny_mono (h pins s σ H D (I.wish _) hw) (fun _ _ q=>q.unwish) fun _ _ z=>False.elim z
end
section
variable {X:Cx}{st:Stmt}{k8:List Stmt}{t u:TS}{e:Expr}{te:TE}{pos:Pos}
def b3j:TS:=fun D σ H=>D.nx σ H
def b1V(t u:TS):TS:=fun D σ H=>t { D with nx:=u D } σ H
theorem m8:PSs X [] b3j:=fun _ _ σ H _ I h=>wpAny_execs_nil ⟨σ,H,I,h⟩
theorem g7(h1:PS X st t)(h2:PSs X k8 u):PSs X (st::k8) (b1V t u):=by
 intro pins s σ H D I h
 refine wpAny_execs_cons (l3 (h1 pins s σ H { D with nx:=u D } I h) fun f s1 q=>?_)
 cases f with
 | next =>
  obtain⟨σ',H',I',q⟩:=q
  exact h2 pins s1 σ' H' D I' q
 | ret v=>exact q
 | brk=>exact q
 | cont=>exact q
theorem h7(h1:PS X st t):PSs X [st] t:=by
 intro pins s σ H D I h
 refine wpAny_execs_cons (l3 (h1 pins s σ H D I h) fun f s1 q=>?_)
 cases f with
 | next=>exact wpAny_execs_nil q
 | ret v=>exact q
 | brk=>exact q
 | cont=>exact q
theorem Inv.quiet{pins:List (Addr×Obj)}{σ:St}{H:Hp}{s:Shared}(I:Inv X pins σ H s):interactive X.env=false:=by simp[interactive,I.ok.kind]
def a9I(te:TE):TS:=fun D σ H=>te σ H fun _ H1=>D.nx σ H1
theorem Q9(he:PE X e te)(hs:swapsWith e none pos.line X.env=pure false:=by rfl):PS X (.Expr e pos) (a9I te):=by
 intro pins s σ H D I h
 exact wpAny_Expr_any (l3 (he pins s σ H _ I h) fun v s1 ⟨x,H1,I1,r1,q1⟩=>⟨σ,H1,I1,q1⟩) I.quiet hs
def a9J(te:TE):TS:=fun D σ H=>te σ H D.rt
theorem k6(he:PE X e te):PS X (.Return (some e) pos) (a9J te):=by
 intro pins s σ H D I h
 exact wpAny_Return_some (l3 (he pins s σ H _ I h) fun v s1 ⟨x,H1,I1,r1,q1⟩=>⟨x,σ,H1,I1,r1,q1⟩)
def b46(c:TT)(t u:TS):TS:=fun D σ H=>c σ H fun b H1=>if b=true then t D σ H1 else u D σ H1
theorem u4{c:Expr}{a b:List Stmt}{tc:TT}(hc:PT X c tc)(ha:PSs X a t)(hb:PSs X b u):PS X (.If c a b pos) (b46 tc t u):=by
 intro pins s σ H D I h
 refine wpAny_If (l3 (hc pins s σ H _ I h) fun d s1 ⟨H1,I1,q1⟩=>?_)
 cases d with
 | true=>exact ha pins s1 σ H1 D I1 q1
 | false=>exact hb pins s1 σ H1 D I1 q1
end
abbrev TG:=V→St→Hp→(St→Hp→Prop)→Prop
abbrev TGs:=List V→St→Hp→(St→Hp→Prop)→Prop
def PG(X:Cx)(target:Expr)(t:TG):Prop :=
 ∀(pins:List (Addr×Obj)) (s:Shared) (σ:St) (H:Hp) (v:V) (u:Value) (Q:St→Hp→Prop),Inv X pins σ H s→RelV v u→t v σ H Q →
  wpAny (model X.prog X.w) X.A (assign target X.env u) (fun _ s'=>∃σ' H',Inv X pins σ' H' s'∧Q σ' H') X.xe s
def PGs(X:Cx)(ts:List Expr)(t:TGs):Prop :=
 ∀(pins:List (Addr×Obj)) (s:Shared) (σ:St) (H:Hp) (vs:List V) (us:List Value) (Q:St→Hp→Prop),Inv X pins σ H s→Vals vs us→t vs σ H Q →
  wpAny (model X.prog X.w) X.A (assignInOrder ((assignEach ts X.env).map (·.2)) us) (fun _ s'=>∃σ' H',Inv X pins σ' H' s'∧Q σ' H') X.xe s
section
variable {X:Cx}{pos:Pos}
def a0W(i:Nat):TG:=fun v σ H Q=>Q (σ.set i (some v)) H
theorem j4{i:Nat}{x:Str}(hN:X.N.Nodup)(hi:X.N[i]? = some x)(hx:Loc X.env.scope x)(hf:X.fn x=true∨X.env.scope.names.lookup x=some .local:=by first | exact .inl rfl | exact .inr rfl | assumption):PG X (.Name x pos) (a0W i):=by
 intro pins s σ H v u Q I r h
 exact wpAny_assign_Name (a2t I hN hi hx r (fun s' I'=>⟨_,H,I',h⟩) hf)
def b47:TGs:=fun vs σ H Q=>vs=[]∧Q σ H
def b3k(t:TG)(u:TGs):TGs:=fun vs σ H Q=>∃v r,vs=v::r∧t v σ H fun σ' H'=>u r σ' H' Q
theorem F6:PGs X [] b47:=by
 intro pins s σ H vs us Q I r h
 obtain⟨e,h⟩:=h
 subst e
 cases r
 exact assignInOrder_nil ⟨σ,H,I,h⟩
theorem m3{e:Expr}{es:List Expr}{t:TG}{u:TGs}(h1:PG X e t)(h2:PGs X es u)
  (hs:(assignEach (e::es) X.env).map (·.2)=assign e X.env::(assignEach es X.env).map (·.2):=by rfl):PGs X (e::es) (b3k t u):=by
 intro pins s σ H vs us Q I r h
 obtain⟨v,vr,e1,h⟩:=h
 subst e1
 cases r with
 | cons r rr =>
  rw[hs]
  refine assignInOrder_cons (l3 (h1 pins s σ H _ _ _ I r h) fun _ s1 ⟨σ1,H1,I1,q1⟩=>?_)
  exact h2 pins s1 σ1 H1 _ _ Q I1 rr q1
def b1W(K:W.Frag)(n:Nat)(t:TGs):TG:=fun v σ H Q=>∃a xs,v=.ref a∧SqT K H a xs∧xs.length=n∧t xs σ H Q
theorem b48{es:List Expr}{k:Nat}{t:TGs}{n:Nat}(hc:X.calm=true)(h:PGs X es t)
  (hn:(assignEach es X.env).length=n:=by rfl) (hst:(assignEach es X.env).findIdx? (·.1)=none:=by rfl):PG X (.Tuple es k pos) (b1W X.K n t):=by
 intro pins s σ H v u Q I r hw
 obtain⟨a,xs,e1,hq,hl,hw⟩:=hw
 subst e1
 cases r
 obtain⟨its,rv,ht,hz⟩:=I.tuple hq
 refine assign_Tuple_tuple (I.ok.hd hc) ht (by simp[hn,← hl,rv.length]) hst fun h' hx=>?_
 have I1:Inv X pins σ H { s with heap:=h' }:=I.kept (t':=s.toks) fun b o e=>hx b o (Nat.ne_of_lt (Heap.lt_size e)) e
 exact h pins _ σ H xs _ Q I1 (by simpa using rv) hw
def a21(te:TE)(g:TG):TS:=fun D σ H=>te σ H fun x H1=>g x σ H1 D.nx
theorem a0h{tg e:Expr}{te:TE}{g:TG}(he:PE X e te)(hg:PG X tg g)(hs:swapsWithSole [tg] e pos.line X.env=pure false:=by rfl)(hw:swappedStores [tg] e X.env=pure none:=by rfl)
  (h1:(assignEach [tg] X.env).map (·.2)=[assign tg X.env]:=by rfl):PS X (.Assign [tg] e pos) (a21 te g):=by
 intro pins s σ H D I h
 refine wpAny_Assign_stores (l3 (he pins s σ H _ I h) fun v s1 ⟨x,H1,I1,r1,q1⟩=>?_) hs hw
 rw[h1]
 exact l3 (hg pins s1 σ H1 x v _ I1 r1 q1) fun _ s2 q=>q
theorem p8{i:Nat}{x:Str}{e:Expr}{te:TE}{pos':Pos}(hN:X.N.Nodup)(hi:X.N[i]? = some x)(hx:Loc X.env.scope x)(he:PE X e te)(hs:swapsWith e (some (.Name x pos')) pos.line X.env=pure false:=by rfl)(hf:X.fn x=true∨X.env.scope.names.lookup x=some .local:=by first | exact .inl rfl | exact .inr rfl | assumption) :
  PS X (.Assign [.Name x pos'] e pos) (a21 te (a0W i)):=by
 intro pins s σ H D I h
 refine wpAny_Assign_Name (l3 (he pins s σ H _ I h) fun v s1 ⟨y,H1,I1,r1,q1⟩=>?_) hs
 exact a2t I1 hN hi hx r1 (fun s2 I2=>⟨_,H1,I2,q1⟩) hf
end
section
variable {X:Cx}{pos:Pos}
def b0B(c:TT)(tb:TS):TS:=fun D σ H=>∃W:Nat→St→Hp→Prop,(∃m,W m σ H)∧∀m σ H,W m σ H →
 c σ H fun b H1=>if b=true then ∃N:St→Hp→Prop,(∀σ' H',N σ' H'→∃m',m'<m∧W m' σ' H')∧tb { D with nx:=N,ct:=N,bk:=D.nx } σ H1 else D.nx σ H1
theorem b1X{c:Expr}{body:List Stmt}{tc:TT}{tb:TS}(hp:PassesOwn (model X.prog X.w) X.A X.env X.xe)(hc:PT X c tc)(hb:PSs X body tb):PS X (.While c body [] pos) (b0B tc tb):=by
 intro pins s σ H D I h
 obtain⟨W,⟨m0,w0⟩,turn⟩:=h
 refine wpAny_While (codeAny_whileLoop (fun n s'=>∃σ' H',Inv X pins σ' H' s'∧W n σ' H') ?_ m0 ⟨σ,H,I,w0⟩)
 rintro n s1 ⟨σ1,H1,I1,w1⟩
 refine wpAny_passesOwn hp (l3 (hc pins s1 σ1 H1 _ I1 (turn n σ1 H1 w1)) fun b s2 ⟨H2,I2,q2⟩=>?_)
 cases b with
 | true =>
  obtain⟨N,hN,q2⟩:=q2
  rw[if_pos rfl]
  refine wpAny_passesOwn hp (l3 (hb pins s2 σ1 H2 _ I2 q2) fun f s3 q3=>?_)
  cases f with
  | next =>
   obtain⟨σ3,H3,I3,n3⟩:=q3
   obtain⟨m',hm,w3⟩:=hN σ3 H3 n3
   exact⟨m',hm,σ3,H3,I3,w3⟩
  | cont =>
   obtain⟨σ3,H3,I3,n3⟩:=q3
   obtain⟨m',hm,w3⟩:=hN σ3 H3 n3
   exact⟨m',hm,σ3,H3,I3,w3⟩
  | brk=>exact q3
  | ret v=>exact q3
 | false =>
  rw[if_neg Bool.false_ne_true]
  exact wpAny_execs_nil ⟨σ1,H2,I2,q2⟩
end
structure It where
 go:Nat→Hp→Prop
 yld:Nat→Hp→V→Hp→Prop
 stop:Nat→Hp→Prop
def FpOk(X:Cx)(pins:List (Addr×Obj))(H:Hp)(b:Addr):Prop :=
 H b=none∧b≠X.env.locals∧b ∉ X.fs∧(b∈X.ex∨X.s₀.heap.objs.size≤b)∧(∀x c,X.env.cells.lookup x=some c→c≠b)∧∀p∈X.pn++pins,p.1≠b
theorem Inv.fpOk{X:Cx}{pins:List (Addr×Obj)}{σ:St}{H H':Hp}{s:Shared}{b:Addr}(I:Inv X pins σ H s)(hb:s.heap.objs.size≤b)(hn:H' b=none):FpOk X pins H' b:=by
 refine⟨hn,Nat.ne_of_gt (Nat.lt_of_lt_of_le I.lt hb),I.nofs hb,.inr (Nat.le_trans I.sz hb),fun x c e z=>?_,fun p hp z=>?_⟩
 ·obtain⟨v,q⟩:=I.cell x c e
  exact absurd (Nat.lt_of_lt_of_le q.lt (by rw[z];exact hb)) (Nat.lt_irrefl _)
 ·exact absurd (Nat.lt_of_lt_of_le (Heap.lt_size (I.pin p hp).1) (by rw[z];exact hb)) (Nat.lt_irrefl _)
structure Turn(P:Program)(w:World)(K:W.Frag)(tg:Expr)(J:It)(fp:List Addr)(it:Addr)(tn:Nat→Heap→Prop):Prop where
 mem:it∈fp
 obj:∀i h,tn i h→∀b∈fp,∃o,h.get? b=some o∧∀v,o.data≠.cell v
 keep:∀i h h',tn i h→(∀b∈fp,∀o,h.get? b=some o→h'.get? b=some o)→tn i h'
 item:∀(X:Cx),X.prog=P→X.w=w→X.K=K→X.calm=true→∀(i:Nat) (pins:List (Addr×Obj)) (s:Shared) (σ:St) (H:Hp) (E:Value→Shared→Prop),Inv X pins σ H s→(∀b∈fp,FpOk X pins H b)→tn i s.heap→J.go i H →
  wpAny (model P w) X.A (pyNext (.ref it)) (fun r s1=>∃u,r=some u ∧
   wpAny (model P w) X.A (letOwnedTupleGo tg (.ref it) u) (fun _ s2=>∃x H',Inv X pins σ H' s2∧RelV x u∧J.yld i H x H'∧tn (i+1) s2.heap∧∀b∈fp,H' b=none) E s1) E s
 done:∀(X:Cx),X.prog=P→X.w=w→X.K=K→X.calm=true→∀(i:Nat) (pins:List (Addr×Obj)) (s:Shared) (σ:St) (H:Hp) (E:Value→Shared→Prop),Inv X pins σ H s→(∀b∈fp,FpOk X pins H b)→tn i s.heap→J.stop i H →
  wpAny (model P w) X.A (pyNext (.ref it)) (fun r s1=>r=none∧Inv X pins σ H s1) E s
 self:∀(A:Around) (i:Nat) (s:Shared) (Q:Value→Shared→Prop) (E:Value→Shared→Prop),tn i s.heap→Q (.ref it) s→wpAny (model P w) A (pyIter (.ref it)) Q E s
abbrev TI:=St→Hp→(It→Hp→Prop)→Prop
def PIE(X:Cx)(pins:List (Addr×Obj))(σ:St)(tg:Expr)(R:It→Hp→Prop)(itv:Value)(s2:Shared):Prop :=
 ∃(it:Addr) (fp:List Addr) (tn:Nat→Heap→Prop) (J:It) (H':Hp),itv=.ref it∧Inv X pins σ H' s2∧Turn X.prog X.w X.K tg J fp it tn∧tn 0 s2.heap∧(∀b∈fp,FpOk X pins H' b)∧R J H'
def PI(X:Cx)(tg iter:Expr)(wi:TI):Prop :=
 ∀(pins:List (Addr×Obj)) (s:Shared) (σ:St) (H:Hp) (R:It→Hp→Prop),Inv X pins σ H s→wi σ H R →
  wpAny (model X.prog X.w) X.A (eval iter X.env) (fun v s1=>wpAny (model X.prog X.w) X.A (pyIter v) (PIE X pins σ tg R) X.xe s1) X.xe s
theorem a30{M:Model}{A:Around}{E:Value→Shared→Prop}{s:Shared}{tg:Expr}{it:Addr}{u:Value}{o:Obj}{n:String}{vs:Array Value}{Q:Unit→Shared→Prop}(ho:s.heap.get? it=some o)(hc:o.cls=.type n)(hd:o.data=.fields vs)
  (hn:["enumerate","zip","dict_itemiterator","dict_reverseitemiterator","odict_iterator","itertools.zip_longest","itertools.pairwise"].contains n=false) (hQ:Q () s):wpAny M A (letOwnedTupleGo tg (.ref it) u) Q E s:=by
 unfold letOwnedTupleGo
 cases tg<;>first
  | exact wpAny_pure hQ
  | (cases u<;>first
    | exact wpAny_pure hQ
    | (refine wpAny_bind (wpAny_load ho ?_)
       rw[hc,hd]
       show wpAny M A (if(["enumerate","zip","dict_itemiterator","dict_reverseitemiterator","odict_iterator","itertools.zip_longest","itertools.pairwise"].contains n && vs[0]? == some (rawInt _))=true then _ else _) Q E s
       rw[if_neg (by intro h;rw[hn,Bool.false_and]at h;cases h)]
       exact wpAny_pure hQ))
def Itl(K:W.Frag)(a:Addr):It :=
 ⟨fun i H=>∃xs x,SqL K H a xs∧xs[i]? = some x,fun i H x H'=>H'=H∧∀xs,SqL K H a xs→xs[i]? = some x,fun i H=>∃xs,SqL K H a xs∧xs.length≤i⟩
def Itt(K:W.Frag)(a:Addr):It :=
 ⟨fun i H=>∃xs x,SqT K H a xs∧xs[i]? = some x,fun i H x H'=>H'=H∧∀xs,SqT K H a xs→xs[i]? = some x,fun i H=>∃xs,SqT K H a xs∧xs.length≤i⟩
def Itr(lo:Int)(n:Nat):It:=⟨fun i _=>i<n,fun i H x H'=>H'=H∧x=.int (lo+i),fun i _=>n≤i⟩
theorem b0C{P:Program}{w:World}{K:W.Frag}{tg:Expr}(a it:Addr):Turn P w K tg (Itl K a) [it] it (fun i h=>h.IsListIter it a i) where
 mem:=by simp
 obj:=fun i h st b hb=>by
  have e:b=it:=by simpa using hb
  subst e
  obtain⟨o,e,c,d⟩:=st
  exact⟨o,e,fun v z=>by rw[d]at z;cases z⟩
 keep:=fun i h h' st k=>st.at fun o e=>k it (by simp) o e
 item:=by
  intro X hP hw hK hc i pins s σ H E I hf st hg
  subst hP hw hK
  obtain⟨xs,x,hq,hx⟩:=hg
  obtain⟨its,rv,p,hz⟩:=I.list hq
  obtain⟨u,hu,ru⟩:=rv.get hx
  obtain⟨f0,f1,f2,f3,f4,f5⟩:=hf it (by simp)
  refine wpAny_pyNext_list_item st p.isList (x:=u) (by simpa using hu) fun h' st' sb=>?_
  have I1:Inv X pins σ H { s with heap:=h' }:=I.turned (t':=s.toks) (fun b o hb e=>(sb.2 b hb).trans e) f0 f1 f3 f4 f5
  obtain⟨o,e,c,d⟩:=id st'
  exact⟨u,rfl,a30 (s:={ s with heap:=h' }) e c d (by decide) ⟨x,H,I1,ru,⟨rfl,fun ys hy=>by rw[I.list_inj hy hq];exact hx⟩,st',fun b hb=>(hf b hb).1⟩⟩
 done:=by
  intro X hP hw hK hc i pins s σ H E I hf st hg
  subst hP hw hK
  obtain⟨xs,hq,hx⟩:=hg
  obtain⟨its,rv,p,hz⟩:=I.list hq
  obtain⟨f0,f1,f2,f3,f4,f5⟩:=hf it (by simp)
  have hl:=rv.length
  exact wpAny_pyNext_list_end (I.ok.hd hc) st p.isList (by simp;omega) fun h' eb=>⟨rfl,I.turned (t':=s.toks) (fun b o hb e=>eb b o hb e) f0 f1 f3 f4 f5⟩
 self:=fun _ _ _ _ _ st h=>wpAny_pyIter_listiter st h
theorem a45{P:Program}{w:World}{K:W.Frag}{tg:Expr}(a it:Addr):Turn P w K tg (Itt K a) [it] it (fun i h=>h.IsTupleIter it a i) where
 mem:=by simp
 obj:=fun i h st b hb=>by
  have e:b=it:=by simpa using hb
  subst e
  obtain⟨o,e,c,d⟩:=st
  exact⟨o,e,fun v z=>by rw[d]at z;cases z⟩
 keep:=fun i h h' st k=>st.at fun o e=>k it (by simp) o e
 item:=by
  intro X hP hw hK hc i pins s σ H E I hf st hg
  subst hP hw hK
  obtain⟨xs,x,hq,hx⟩:=hg
  obtain⟨its,rv,p,hz⟩:=I.tuple hq
  obtain⟨u,hu,ru⟩:=rv.get hx
  obtain⟨f0,f1,f2,f3,f4,f5⟩:=hf it (by simp)
  refine wpAny_pyNext_tuple_item st (show s.heap.IsTuple a its.toArray from p) (x:=u) (by simpa using hu) fun h' st' sb=>?_
  have I1:Inv X pins σ H { s with heap:=h' }:=I.turned (t':=s.toks) (fun b o hb e=>(sb.2 b hb).trans e) f0 f1 f3 f4 f5
  obtain⟨o,e,c,d⟩:=id st'
  exact⟨u,rfl,a30 (s:={ s with heap:=h' }) e c d (by decide) ⟨x,H,I1,ru,⟨rfl,fun ys hy=>by rw[I.tuple_inj hy hq];exact hx⟩,st',fun b hb=>(hf b hb).1⟩⟩
 done:=by
  intro X hP hw hK hc i pins s σ H E I hf st hg
  subst hP hw hK
  obtain⟨xs,hq,hx⟩:=hg
  obtain⟨its,rv,p,hz⟩:=I.tuple hq
  obtain⟨f0,f1,f2,f3,f4,f5⟩:=hf it (by simp)
  have hl:=rv.length
  exact wpAny_pyNext_tuple_end (I.ok.hd hc) st (show s.heap.IsTuple a its.toArray from p) (by simp;omega) fun h' eb=>⟨rfl,I.turned (t':=s.toks) (fun b o hb e=>eb b o hb e) f0 f1 f3 f4 f5⟩
 self:=fun _ _ _ _ _ st h=>wpAny_pyIter_tupleiter st h
theorem a9K{P:Program}{w:World}{K:PySem.W.Frag}{tg:Expr}(it:Addr)(lo:Int)(n:Nat):Turn P w K tg (Itr lo n) [it] it (fun i h=>IsRangeIter h it (lo+(i:Nat)*1) ((n:Int)-(i:Nat)) 1) where
 mem:=by simp
 obj:=fun i h st b hb=>by
  have e:b=it:=by simpa using hb
  subst e
  exact⟨_,st,fun v z=>by
   have z':Data.fields _=Data.cell v:=z
   cases z'⟩
 keep:=fun i h h' st k=>k it (by simp) _ st
 item:=by
  intro X hP hw hK hc i pins s σ H E I hf st hg
  subst hP hw hK
  obtain⟨f0,f1,f2,f3,f4,f5⟩:=hf it (by simp)
  have W:=Walks.range (prog:=X.prog) (w:=X.w) (I.ok.hd hc) it lo 1 n
  refine W.item i s _ _ hg st fun v h' tk hv st' kk=>?_
  obtain⟨t,rfl⟩:=hv
  have I1:Inv X pins σ H { s with heap:=h',toks:=tk }:=I.turned (fun b o hb e=>kk b o (by simpa using hb) e) f0 f1 f3 f4 f5
  refine⟨_,rfl,a30 (s:={ s with heap:=h',toks:=tk }) (n := "range_iterator") st' rfl rfl (by decide) ⟨.int (lo+i),H,I1,⟨t,?_⟩,⟨rfl,rfl⟩,st',fun b hb=>(hf b hb).1⟩⟩
  rw[Int.mul_one]
 done:=by
  intro X hP hw hK hc i pins s σ H E I hf st hg
  subst hP hw hK
  obtain⟨f0,f1,f2,f3,f4,f5⟩:=hf it (by simp)
  exact wpAny_pyNext_range_end (I.ok.hd hc) st (by have:n≤i:=hg;omega) fun h' eb=>⟨rfl,I.turned (t':=s.toks) (fun b o hb e=>eb b o hb e) f0 f1 f3 f4 f5⟩
 self:=fun _ _ _ _ _ st h=>wpAny_pyIter_rangeiter st h
section
variable {X:Cx}{tg:Expr}
def a9L(K:W.Frag)(tl:TE):TI:=fun σ H R=>tl σ H fun x H1=>∃a,x=.ref a∧(∃xs,SqL K H1 a xs)∧R (Itl K a) H1
def b49(K:W.Frag)(tl:TE):TI:=fun σ H R=>tl σ H fun x H1=>∃a,x=.ref a∧(∃xs,SqT K H1 a xs)∧R (Itt K a) H1
theorem R5{l:Expr}{tl:TE}(hl:PE X l tl):PI X tg l (a9L X.K tl):=by
 intro pins s σ H R I h
 refine l3 (hl pins s σ H _ I h) fun v s1 ⟨x,H1,I1,r1,q1⟩=>?_
 obtain⟨a,e,⟨xs,hq⟩,q⟩:=q1
 subst e
 cases r1
 obtain⟨its,rv,p,hz⟩:=I1.list hq
 refine wpAny_pyIter_list p.isList ?_
 refine⟨s1.heap.objs.size,[s1.heap.objs.size],_,_,H1,rfl,I1.kept (t':=s1.toks) fun b o e=>Heap.get?_push_of_some _ e,b0C a _,⟨_,Heap.get?_push_size _ rfl,rfl,rfl⟩,fun b hb=>?_,q⟩
 have e:b=s1.heap.objs.size:=by simpa using hb
 subst e
 exact I1.fpOk (Nat.le_refl _) (I1.hok.fresh (Nat.le_refl _))
theorem b4_{l:Expr}{tl:TE}(hl:PE X l tl):PI X tg l (b49 X.K tl):=by
 intro pins s σ H R I h
 refine l3 (hl pins s σ H _ I h) fun v s1 ⟨x,H1,I1,r1,q1⟩=>?_
 obtain⟨a,e,⟨xs,hq⟩,q⟩:=q1
 subst e
 cases r1
 obtain⟨its,rv,p,hz⟩:=I1.tuple hq
 refine wpAny_pyIter_tuple (show s1.heap.IsTuple a its.toArray from p) ?_
 refine⟨s1.heap.objs.size,[s1.heap.objs.size],_,_,H1,rfl,I1.kept (t':=s1.toks) fun b o e=>Heap.get?_push_of_some _ e,a45 a _,⟨_,Heap.get?_push_size _ rfl,rfl,rfl⟩,fun b hb=>?_,q⟩
 have e:b=s1.heap.objs.size:=by simpa using hb
 subst e
 exact I1.fpOk (Nat.le_refl _) (I1.hok.fresh (Nat.le_refl _))
theorem b1Y{pins:List (Addr×Obj)}{σ:St}{H:Hp}{s:Shared}{R:It→Hp→Prop}{E:Value→Shared→Prop}{lo hi:Int}{t u v:Tok}{tk:Nat}(I:Inv X pins σ H s)(h1 : -(2 ^ 62)≤lo)(h2:lo<2 ^ 62)(h3 : -(2 ^ 62)≤hi)(h4:hi<2 ^ 62)
  (q:R (Itr lo (hi-lo).toNat) H):wpAny (model X.prog X.w) X.A (pyIter (.ref s.heap.objs.size)) (PIE X pins σ tg R) E { s with heap:=s.heap.push { cls:=.type "range",data:=.fields #[.int lo t,.int hi u,.int 1 v] },toks:=tk }:=by
 refine wpAny_pyIter_range (IsRange.new ..) (small_one h1 h2 h3 h4) ?_
 have I1:Inv X pins σ H { s with heap:=s.heap.push { cls:=.type "range",data:=.fields #[.int lo t,.int hi u,.int 1 v] },toks:=tk }:=I.kept fun b o e=>Heap.get?_push_of_some _ e
 refine⟨(s.heap.push { cls:=.type "range",data:=.fields #[.int lo t,.int hi u,.int 1 v] }).objs.size,[(s.heap.push { cls:=.type "range",data:=.fields #[.int lo t,.int hi u,.int 1 v] }).objs.size],_,_,H,rfl,
  I1.kept (t':=tk) fun b o e=>Heap.get?_push_of_some _ e,a9K _ lo (hi-lo).toNat,?_,fun b hb=>?_,q⟩
 ·have e1:lo+((0:Nat):Int)*1=lo:=by simp
  have e2:(((hi-lo).toNat:Nat):Int)-((0:Nat):Int)=Builtin.Range.rangeSize lo hi 1:=by rw[rangeSize_one];split<;>omega
  show IsRangeIter _ _ (lo+((0:Nat):Int)*1) ((((hi-lo).toNat:Nat):Int)-((0:Nat):Int)) 1
  rw[e1,e2]
  exact Heap.get?_push_size _ rfl
 ·have e:b=(s.heap.push { cls:=.type "range",data:=.fields #[.int lo t,.int hi u,.int 1 v] }).objs.size:=by simpa using hb
  subst e
  exact I1.fpOk (Nat.le_refl _) (I1.hok.fresh (Nat.le_refl _))
def a9M(ta:TA):TI:=fun σ H R=>ta σ H fun vs H1=>∃j:Int,vs=[.int j]∧-(2 ^ 62)≤j∧j<2 ^ 62∧R (Itr 0 j.toNat) H1
theorem a23{a:Expr}{ta:TA}{p pos:Pos}(hg:Gl X "range")(hm:X.mg "range" = none)(ha:PA X [a] ta)(hs:starEach [a] X.env=[(false,eval a X.env)]:=by rfl):PI X tg (.Call (.Name "range" p) [a] [] pos) (a9M ta):=by
 intro pins s σ H R I h
 refine Call_ (K4 I hg hm boot_range (PyProof.Rows.callWith_type1 (l3 (ha pos pins s σ H _ I h) fun us s1 ⟨vs,H1,I1,r1,q1⟩=>?_) hs rfl))
 obtain⟨j,e,q1,q2,q⟩:=q1
 subst e
 cases r1 with
 | cons r rr =>
  cases rr
  obtain⟨t,rfl⟩:=r
  exact call_range_1 (b1Y I1 (by omega) (by omega) q1 q2 (by simpa using q))
def a4G(wi:TI)(g:TG)(tb:TS):TS:=fun D σ H=>wi σ H fun J H1=>∃W:Nat→Nat→St→Hp→Prop,(∃m,W 0 m σ H1)∧∀i m σ H,W i m σ H →
 (J.stop i H∧D.nx σ H)∨(J.go i H∧∃N:St→Hp→Prop,(∀σ' H',N σ' H'→∃m',m'<m∧W (i+1) m' σ' H')∧∀x H',J.yld i H x H'→g x σ H' fun σ2 H2=>tb { D with nx:=N,ct:=N,bk:=D.nx } σ2 H2)
def a1p(fp:List Addr)(h:Heap):List (Addr×Obj):=fp.filterMap fun b=>(h.get? b).map fun o=>(b,o)
theorem N1{fp:List Addr}{h:Heap}{b:Addr}{o:Obj}(hb:b∈fp)(e:h.get? b=some o):(b,o)∈a1p fp h:=List.mem_filterMap.mpr ⟨b,hb,by rw[e];rfl⟩
theorem b0D{fp:List Addr}{h:Heap}{p:Addr×Obj}(hp:p∈a1p fp h):p.1∈fp∧h.get? p.1=some p.2:=by
 obtain⟨b,hb,e⟩:=List.mem_filterMap.mp hp
 cases q:h.get? b with
 | none=>rw[q]at e;cases e
 | some o =>
  rw[q]at e
  have e':(b,o)=p:=Option.some.inj e
  subst e'
  exact⟨hb,q⟩
theorem Inv.pinned{pins:List (Addr×Obj)}{σ:St}{H:Hp}{s:Shared}{fp:List Addr}(I:Inv X pins σ H s)(hf:∀b∈fp,FpOk X pins H b)(ho:∀b∈fp,∃o,s.heap.get? b=some o∧∀v,o.data≠.cell v):Inv X (pins++a1p fp s.heap) σ H s :=
 I.pins_of fun p hp=>(List.mem_append.mp hp).elim (fun z=>I.pin p (List.mem_append_right _ z)) fun z=>by
  obtain⟨hb,e⟩:=b0D z
  obtain⟨f0,f1,f2,_⟩:=hf p.1 hb
  obtain⟨o,e',d⟩:=ho p.1 hb
  rw[e]at e';cases e'
  exact⟨e,f0,f1,f2,d⟩
theorem Inv.unpinned{pins pl:List (Addr×Obj)}{σ:St}{H:Hp}{s:Shared}(I:Inv X (pins++pl) σ H s):Inv X pins σ H s:=I.pins_of fun p hp=>I.pin p (List.mem_append_right _ (List.mem_append_left _ hp))
theorem X2{iter:Expr}{body:List Stmt}{wi:TI}{g:TG}{tb:TS}{pos:Pos}(hp:PassesOwn (model X.prog X.w) X.A X.env X.xe)(hc:X.calm=true)(hi:PI X tg iter wi)(hg:PG X tg g)(hb:PSs X body tb)
  (hs:∀x,foldedSetIterable iter X.env x=pure x:=by intro _;rfl):PS X (.For tg iter body [] pos) (a4G wi g tb):=by
 intro pins s σ H D I h
 refine wpAny_For (l3 (hi pins s σ H _ I h) fun v s1 h1=>l3 h1 fun itv s2 h2=>?_) hs
 obtain⟨it,fp,tn,J,H2,e,I2,T,st2,f2,W,⟨m0,w0⟩,turn⟩:=h2
 subst e
 -- what stays true of the iterator's objects through the loop
 have stat:∀{H':Hp},(∀b∈fp,H' b=none)→∀b∈fp,FpOk X pins H' b:=fun hn b hb=>⟨hn b hb,(f2 b hb).2⟩
 refine codeAny_forLoop_any (fun n s'=>∃i σ' H',Inv X pins σ' H' s'∧tn i s'.heap∧(∀b∈fp,H' b=none)∧W i n σ' H') ?_ m0 ⟨0,σ,H2,I2,st2,fun b hb=>(f2 b hb).1,w0⟩
 rintro n s3 ⟨i,σ3,H3,I3,st3,fr3,w3⟩
 rcases turn i n σ3 H3 w3 with⟨stop,qn⟩ | ⟨go,N,hN,step⟩
 ·refine wpAny_passesOwn hp (l3 (T.done X rfl rfl rfl hc i pins s3 σ3 H3 X.xe I3 (stat fr3) st3 stop) fun r s4 ⟨hr,I4⟩=>?_)
  subst hr
  exact wpAny_execs_nil ⟨σ3,H3,I4,qn⟩
 ·refine wpAny_passesOwn hp (l3 (T.item X rfl rfl rfl hc i pins s3 σ3 H3 X.xe I3 (stat fr3) st3 go) fun r s4 ⟨u,hr,h4⟩=>?_)
  subst hr
  refine wpAny_passesOwn hp (l3 h4 fun _ s5 ⟨x,H5,I5,r5,y5,st5,fr5⟩=>?_)
  have I5':=I5.pinned (stat fr5) (T.obj _ _ st5)
  refine wpAny_passesOwn hp (l3 (hg _ s5 σ3 H5 x u _ I5' r5 (step x H5 y5)) fun _ s6 ⟨σ6,H6,I6,q6⟩=>?_)
  refine wpAny_passesOwn hp (l3 (hb _ s6 σ6 H6 _ I6 q6) fun f s7 q7=>?_)
  have again:∀{σ7:St} {H7:Hp},Inv X (pins++a1p fp s5.heap) σ7 H7 s7→N σ7 H7→∃m,m<n∧∃i σ' H',Inv X pins σ' H' s7∧tn i s7.heap∧(∀b∈fp,H' b=none)∧W i m σ' H':=fun{σ7 H7} I7 n7=>by
   obtain⟨m',hm,w7⟩:=hN σ7 H7 n7
   refine⟨m',hm,i+1,σ7,H7,I7.unpinned,T.keep _ _ _ st5 fun b hb o e=>(I7.pin (b,o) (List.mem_append_right _ (List.mem_append_right _ (N1 hb e)))).1,fun b hb=>?_,w7⟩
   obtain⟨o,e,d⟩:=T.obj _ _ st5 b hb
   exact(I7.pin (b,o) (List.mem_append_right _ (List.mem_append_right _ (N1 hb e)))).2.1
  cases f with
  | next=>obtain⟨σ7,H7,I7,n7⟩:=q7;exact again I7 n7
  | cont=>obtain⟨σ7,H7,I7,n7⟩:=q7;exact again I7 n7
  | brk=>obtain⟨σ7,H7,I7,q7⟩:=q7;exact⟨σ7,H7,I7.unpinned,q7⟩
  | ret v=>obtain⟨x7,σ7,H7,I7,r7,q7⟩:=q7;exact⟨x7,σ7,H7,I7.unpinned,r7,q7⟩
end
theorem b1Z{K:PySem.W.Frag}{a:Addr}{xs:List V}{g:TG}{tb:TS}{D:Ends}{σ:St}{H:Hp}(Pv:Nat→St→Hp→Prop)(h0:Pv 0 σ H)(hl:∀i σ H,i≤xs.length→Pv i σ H→SqL K H a xs)
  (hs:∀i x σ H,xs[i]? = some x→Pv i σ H→g x σ H fun σ2 H2=>tb { D with nx:=Pv (i+1),ct:=Pv (i+1),bk:=D.nx } σ2 H2) (hd:∀σ H,Pv xs.length σ H→D.nx σ H) :
  ∃W:Nat→Nat→St→Hp→Prop,(∃m,W 0 m σ H)∧∀i m σ H,W i m σ H →
   ((Itl K a).stop i H∧D.nx σ H)∨((Itl K a).go i H∧∃N:St→Hp→Prop,(∀σ' H',N σ' H'→∃m',m'<m∧W (i+1) m' σ' H')∧∀x H',(Itl K a).yld i H x H'→g x σ H' fun σ2 H2=>tb { D with nx:=N,ct:=N,bk:=D.nx } σ2 H2):=by
 refine⟨fun i m σ H=>m=xs.length-i∧i≤xs.length∧Pv i σ H,⟨xs.length,by simp,Nat.zero_le _,h0⟩,?_⟩
 rintro i m σ H ⟨rfl,hi,p⟩
 have q:=hl i σ H hi p
 by_cases hlt:i<xs.length
 ·refine .inr ⟨⟨xs,xs[i],q,by simp[hlt]⟩,Pv (i+1),fun σ' H' p'=>⟨xs.length-(i+1),by omega,rfl,hlt,p'⟩,fun x H' y=>?_⟩
  obtain⟨e,y⟩:=y
  subst e
  exact hs i x σ _ (y xs q) p
 ·have e:i=xs.length:=by omega
  subst e
  exact .inl ⟨⟨xs,q,Nat.le_refl _⟩,hd σ H p⟩
theorem b3Q{K:PySem.W.Frag}{a:Addr}{xs:List V}{g:TG}{tb:TS}{D:Ends}{σ:St}{H:Hp}(Pv:Nat→St→Hp→Prop)(h0:Pv 0 σ H)(hl:∀i σ H,i≤xs.length→Pv i σ H→SqT K H a xs)
  (hs:∀i x σ H,xs[i]? = some x→Pv i σ H→g x σ H fun σ2 H2=>tb { D with nx:=Pv (i+1),ct:=Pv (i+1),bk:=D.nx } σ2 H2) (hd:∀σ H,Pv xs.length σ H→D.nx σ H) :
  ∃W:Nat→Nat→St→Hp→Prop,(∃m,W 0 m σ H)∧∀i m σ H,W i m σ H →
   ((Itt K a).stop i H∧D.nx σ H)∨((Itt K a).go i H∧∃N:St→Hp→Prop,(∀σ' H',N σ' H'→∃m',m'<m∧W (i+1) m' σ' H')∧∀x H',(Itt K a).yld i H x H'→g x σ H' fun σ2 H2=>tb { D with nx:=N,ct:=N,bk:=D.nx } σ2 H2):=by
 refine⟨fun i m σ H=>m=xs.length-i∧i≤xs.length∧Pv i σ H,⟨xs.length,by simp,Nat.zero_le _,h0⟩,?_⟩
 rintro i m σ H ⟨rfl,hi,p⟩
 have q:=hl i σ H hi p
 by_cases hlt:i<xs.length
 ·refine .inr ⟨⟨xs,xs[i],q,by simp[hlt]⟩,Pv (i+1),fun σ' H' p'=>⟨xs.length-(i+1),by omega,rfl,hlt,p'⟩,fun x H' y=>?_⟩
  obtain⟨e,y⟩:=y
  subst e
  exact hs i x σ _ (y xs q) p
 ·have e:i=xs.length:=by omega
  subst e
  exact .inl ⟨⟨xs,q,Nat.le_refl _⟩,hd σ H p⟩
theorem b0E{lo:Int}{n:Nat}{g:TG}{tb:TS}{D:Ends}{σ:St}{H:Hp}(Pv:Nat→St→Hp→Prop)(h0:Pv 0 σ H)
  (hs:∀i σ H,i<n→Pv i σ H→g (.int (lo+i)) σ H fun σ2 H2=>tb { D with nx:=Pv (i+1),ct:=Pv (i+1),bk:=D.nx } σ2 H2) (hd:∀σ H,Pv n σ H→D.nx σ H) :
  ∃W:Nat→Nat→St→Hp→Prop,(∃m,W 0 m σ H)∧∀i m σ H,W i m σ H →
   ((Itr lo n).stop i H∧D.nx σ H)∨((Itr lo n).go i H∧∃N:St→Hp→Prop,(∀σ' H',N σ' H'→∃m',m'<m∧W (i+1) m' σ' H')∧∀x H',(Itr lo n).yld i H x H'→g x σ H' fun σ2 H2=>tb { D with nx:=N,ct:=N,bk:=D.nx } σ2 H2):=by
 refine⟨fun i m σ H=>m=n-i∧i≤n∧Pv i σ H,⟨n,by simp,Nat.zero_le _,h0⟩,?_⟩
 rintro i m σ H ⟨rfl,hi,p⟩
 by_cases hlt:i<n
 ·refine .inr ⟨hlt,Pv (i+1),fun σ' H' p'=>⟨n-(i+1),by omega,rfl,hlt,p'⟩,fun x H' y=>?_⟩
  obtain⟨e,y⟩:=y
  subst e y
  exact hs i σ _ hlt p
 ·have e:i=n:=by omega
  subst e
  exact .inl ⟨Nat.le_refl _,hd σ H p⟩
abbrev R2:=V→V→Hp→VK→Prop
def G4(X:Cx)(f:Value→Value→Sem Value)(r:R2):Prop :=
 ∀(pins:List (Addr×Obj)) (s:Shared) (σ:St) (H:Hp) (x y:V) (v u:Value) (Q:VK),Inv X pins σ H s→RelV x v→RelV y u→r x y H Q →
  wpAny (model X.prog X.w) X.A (f v u) (EP X pins σ Q) X.xe s
def UnR(X:Cx)(f:Value→Sem Value)(r:V→Hp→VK→Prop):Prop :=
 ∀(pins:List (Addr×Obj)) (s:Shared) (σ:St) (H:Hp) (x:V) (v:Value) (Q:VK),Inv X pins σ H s→RelV x v→r x H Q →
  wpAny (model X.prog X.w) X.A (f v) (EP X pins σ Q) X.xe s
def P4(X:Cx)(f:Value)(r:List V→Hp→VK→Prop):Prop :=
 ∀(pins:List (Addr×Obj)) (s:Shared) (σ:St) (H:Hp) (xs:List V) (us:List Value) (Q:VK),Inv X pins σ H s→Vals xs us→r xs H Q →
  wpAny (model X.prog X.w) X.A (call f us) (EP X pins σ Q) X.xe s
def tOp(r:R2)(ta tb:TE):TE:=fun σ H Q=>ta σ H fun x H1=>tb σ H1 fun y H2=>r x y H2 Q
def tUn(r:V→Hp→VK→Prop)(ta:TE):TE:=fun σ H Q=>ta σ H fun x H1=>r x H1 Q
def rI(C:Int→Int→Prop)(g:Int→Int→V):R2:=fun x y H Q=>∃i j,x=.int i∧y=.int j∧C i j∧Q (g i j) H
def rI0(g:Int→Int→V):R2:=fun x y H Q=>∃i j,x=.int i∧y=.int j∧Q (g i j) H
def rU(g:Int→V):V→Hp→VK→Prop:=fun x H Q=>∃i,x=.int i∧Q (g i) H
section
variable {X:Cx}{a b c:Expr}{ta tb tc:TE}{pos:Pos}
theorem b11(ha:PE X a ta)(hb:PE X b tb){pins:List (Addr×Obj)}{s:Shared}{σ:St}{H:Hp}{R:V→V→Hp→Prop}(I:Inv X pins σ H s)
  (h:ta σ H fun x H1=>tb σ H1 fun y H2=>R x y H2) {Q:Value→Shared→Prop} {f:Value→Value→Sem Value}
  (hf:∀v u s2 x y H2,Inv X pins σ H2 s2→RelV x v→RelV y u→R x y H2→wpAny (model X.prog X.w) X.A (f v u) Q X.xe s2) :
  wpAny (model X.prog X.w) X.A (eval a X.env) (fun v s₁=>wpAny (model X.prog X.w) X.A (eval b X.env) (fun u s₂=>wpAny (model X.prog X.w) X.A (f v u) Q X.xe s₂) X.xe s₁) X.xe s:=by
 refine l3 (ha pins s σ H _ I h) fun v s1 ⟨x,H1,I1,r1,q1⟩=>?_
 refine l3 (hb pins s1 σ H1 _ I1 q1) fun u s2 ⟨y,H2,I2,r2,q2⟩=>?_
 exact hf v u s2 x y H2 I2 r1 r2 q2
theorem j6{op:Operator}{r:R2}(ho:G4 X (binaryOp op) r)(ha:PE X a ta)(hb:PE X b tb):PE X (.BinOp a op b pos) (tOp r ta tb):=by
 intro pins s σ H Q I h
 exact wpAny_BinOp (b11 ha hb I h fun v u s2 x y H2 I2 rx ry q=>ho pins s2 σ H2 x y v u Q I2 rx ry q)
theorem b6n{op:UnaryOp}{r:V→Hp→VK→Prop}(ho:UnR X (unaryOp op) r)(ha:PE X a ta):PE X (.UnaryOp op a pos) (tUn r ta):=by
 intro pins s σ H Q I h
 exact UnaryOp_ (l3 (ha pins s σ H _ I h) fun v s1 ⟨x,H1,I1,r1,q1⟩=>ho pins s1 σ H1 x v Q I1 r1 q1)
theorem opI{f:Value→Value→Sem Value}{C:Int→Int→Prop}{g:Int→Int→Int}
  (rule:∀(i j:Int) (t u:Tok) (s:Shared) (Q:Value→Shared→Prop) (E:Value→Shared→Prop),C i j→Q (.int (g i j) s.toks) { s with toks:=s.toks+1 }→wpAny (model X.prog X.w) X.A (f (.int i t) (.int j u)) Q E s) :
  G4 X f (rI C fun i j=>.int (g i j)):=by
 intro pins s σ H x y v u Q I rx ry h
 obtain⟨i,j,rfl,rfl,hc,q⟩:=h
 obtain⟨t,rfl⟩:=rx
 obtain⟨t',rfl⟩:=ry
 exact rule i j t t' s _ _ hc ⟨.int (g i j),H,I.tok _,⟨_,rfl⟩,q⟩
theorem b5b{f:Value→Value→Sem Value}{g:Int→Int→Int}
  (rule:∀(i j:Int) (t u:Tok) (s:Shared) (Q:Value→Shared→Prop) (E:Value→Shared→Prop),Q (.int (g i j) s.toks) { s with toks:=s.toks+1 }→wpAny (model X.prog X.w) X.A (f (.int i t) (.int j u)) Q E s) :
  G4 X f (rI0 fun i j=>.int (g i j)):=by
 intro pins s σ H x y v u Q I rx ry h
 obtain⟨i,j,rfl,rfl,q⟩:=h
 obtain⟨t,rfl⟩:=rx
 obtain⟨t',rfl⟩:=ry
 exact rule i j t t' s _ _ ⟨.int (g i j),H,I.tok _,⟨_,rfl⟩,q⟩
theorem a9N{f:Value→Value→Sem Value}{g:Int→Int→Bool}
  (rule:∀(i j:Int) (t u:Tok) (s:Shared) (Q:Value→Shared→Prop) (E:Value→Shared→Prop),Q (.bool (g i j)) s→wpAny (model X.prog X.w) X.A (f (.int i t) (.int j u)) Q E s) :
  G4 X f (rI0 fun i j=>.bl (g i j)):=by
 intro pins s σ H x y v u Q I rx ry h
 obtain⟨i,j,rfl,rfl,q⟩:=h
 obtain⟨t,rfl⟩:=rx
 obtain⟨t',rfl⟩:=ry
 exact rule i j t t' s _ _ ⟨.bl (g i j),H,I,rfl,q⟩
def a57(i j:Int):Prop:=0≤j∧j≤1000000∧i.natAbs<2 ^ 64
def CMul(i j:Int):Prop:=(-(2 ^ 64)<i∧i<2 ^ 64)∨(-(2 ^ 64)<j∧j<2 ^ 64)
theorem CMul.ok{i j:Int}(h:CMul i j):IntMulOk i j:=by
 rcases h with⟨h1,h2⟩ | ⟨h1,h2⟩
 ·exact .of_left (intBits_le_64 h1 h2)
 ·exact .of_right (intBits_le_64 h1 h2)
theorem A7:G4 X (binaryOp .Add) (rI0 fun i j=>.int (i+j)):=b5b fun _ _ _ _ _ _ _ q=>add_int q
theorem a24:G4 X (binaryOp .Sub) (rI0 fun i j=>.int (i-j)):=b5b fun _ _ _ _ _ _ _ q=>sub_int q
theorem B3:G4 X (binaryOp .Mod) (rI (fun _ j=>0<j) fun i j=>.int (i%j)):=opI fun i j _ _ _ _ _ hc q=>by
 have h1:(0:Int)<j:=hc
 exact mod_int' (by omega) (by rw[Int.fmod_eq_emod_of_nonneg i (by omega)];exact q)
theorem a7o:G4 X (binaryOp .Pow) (rI a57 fun i j=>.int (i ^ j.toNat)):=opI fun _ _ _ _ _ _ _ hc q=>pow_int_small hc.1 hc.2.1 hc.2.2 q
theorem unI{f:Value→Sem Value}{g:Int→Int}
  (rule:∀(i:Int) (t:Tok) (s:Shared) (Q:Value→Shared→Prop) (E:Value→Shared→Prop),Q (.int (g i) s.toks) { s with toks:=s.toks+1 }→wpAny (model X.prog X.w) X.A (f (.int i t)) Q E s) :
  UnR X f (rU fun i=>.int (g i)):=by
 intro pins s σ H x v Q I rx h
 obtain⟨i,rfl,q⟩:=h
 obtain⟨t,rfl⟩:=rx
 exact rule i t s _ _ ⟨.int (g i),H,I.tok _,⟨_,rfl⟩,q⟩
theorem b5c:UnR X (unaryOp .USub) (rU fun i=>.int (-i)):=unI fun _ _ _ _ _ q=>neg_int q
end
def a58:V→V→Bool
 | .non,.non=>true | .non,.int _=>true | .int _,.non=>true | .non,.bl _=>true | .bl _,.non=>true | .non,.str _=>true | .str _,.non=>true
 | .int _,.int _=>true | .bl _,.bl _=>true | .str _,.str _=>true | .byt _,.byt _=>true
 | .int _,.str _=>true | .str _,.int _=>true | .bl _,.str _=>true | .str _,.bl _=>true
 | _,_=>false
def rEq:R2:=fun x y H Q=>a58 x y=true∧Q (.bl (decide (x=y))) H
def rNe:R2:=fun x y H Q=>a58 x y=true∧Q (.bl (!decide (x=y))) H
theorem a8Z{i j:Int}:decide (V.int i=V.int j)=(i == j):=by
 rw[Bool.eq_iff_iff]
 simp
theorem b0F{i j:Bool}:decide (V.bl i=V.bl j)=(i == j):=by
 rw[Bool.eq_iff_iff]
 simp
theorem a80{i j:Str}:decide (V.str i=V.str j)=(i == j):=by
 rw[Bool.eq_iff_iff]
 simp
theorem a81{i j:Array UInt8}:decide (V.byt i=V.byt j)=(i.toList == j.toList):=by
 rw[Bool.eq_iff_iff]
 cases i
 cases j
 simp
section
variable {X:Cx}{a b c:Expr}{ta tb tc:TE}{pos:Pos}
theorem p9{pins:List (Addr×Obj)}{σ:St}{H:Hp}{s:Shared}{Q:VK}{k k':Bool}(I:Inv X pins σ H s)(q:Q (.bl k) H)(e:k=k'):EP X pins σ Q (.bool k') s:=by
 subst e
 exact⟨.bl k,H,I,rfl,q⟩
theorem a0X:G4 X (compareOp .Eq) rEq:=by
 intro pins s σ H x y v u Q I rx ry h
 obtain⟨hs,q⟩:=h
 cases x with
 | non =>
  cases rx
  cases y with
  | non=>cases ry;exact PySem.EqNone.eq_none_none (p9 I q (by simp))
  | bl j=>cases ry;exact PySem.EqNone.eq_none_bool (p9 I q (by simp))
  | int j=>obtain⟨t',rfl⟩:=ry;exact PySem.EqNone.eq_none_int (p9 I q (by simp))
  | str j=>obtain⟨t',rfl⟩:=ry;exact PySem.EqNone.eq_none_str (p9 I q (by simp))
  | _=>exact absurd (show false=true from hs) Bool.false_ne_true
 | bl i =>
  cases rx
  cases y with
  | non=>cases ry;exact PySem.EqNone.eq_bool_none (p9 I q (by simp))
  | bl j=>cases ry;exact eq_bool (p9 I q b0F)
  | str j=>obtain⟨t',rfl⟩:=ry;exact PySem.EqMixed.eq_bool_str (p9 I q (by simp))
  | _=>exact absurd (show false=true from hs) Bool.false_ne_true
 | int i =>
  obtain⟨t,rfl⟩:=rx
  cases y with
  | non=>cases ry;exact PySem.EqNone.eq_int_none (p9 I q (by simp))
  | int j=>obtain⟨t',rfl⟩:=ry;exact eq_int (p9 I q a8Z)
  | str j=>obtain⟨t',rfl⟩:=ry;exact PySem.EqMixed.eq_int_str (p9 I q (by simp))
  | _=>exact absurd (show false=true from hs) Bool.false_ne_true
 | str i =>
  obtain⟨t,rfl⟩:=rx
  cases y with
  | non=>cases ry;exact PySem.EqNone.eq_str_none (p9 I q (by simp))
  | bl j=>cases ry;exact PySem.EqMixed.eq_str_bool (p9 I q (by simp))
  | int j=>obtain⟨t',rfl⟩:=ry;exact PySem.EqMixed.eq_str_int (p9 I q (by simp))
  | str j=>obtain⟨t',rfl⟩:=ry;exact eq_str (p9 I q a80)
  | _=>exact absurd (show false=true from hs) Bool.false_ne_true
 | byt i =>
  obtain⟨t,rfl⟩:=rx
  cases y with
  | byt j=>obtain⟨t',rfl⟩:=ry;exact W.eq_bytes (p9 I q a81)
  | _=>exact absurd (show false=true from hs) Bool.false_ne_true
 | _=>cases y<;>exact absurd (show false=true from hs) Bool.false_ne_true
theorem b3m:G4 X (compareOp .NotEq) rNe:=by
 intro pins s σ H x y v u Q I rx ry h
 obtain⟨hs,q⟩:=h
 cases x with
 | non =>
  cases rx
  cases y with
  | non=>cases ry;exact PySem.EqNone.ne_none_none (p9 I q (by simp))
  | bl j=>cases ry;exact PySem.EqNone.ne_none_bool (p9 I q (by simp))
  | int j=>obtain⟨t',rfl⟩:=ry;exact PySem.EqNone.ne_none_int (p9 I q (by simp))
  | str j=>obtain⟨t',rfl⟩:=ry;exact PySem.EqNone.ne_none_str (p9 I q (by simp))
  | _=>exact absurd (show false=true from hs) Bool.false_ne_true
 | bl i =>
  cases rx
  cases y with
  | non=>cases ry;exact PySem.EqNone.ne_bool_none (p9 I q (by simp))
  | bl j=>cases ry;exact ne_bool (p9 I q (congrArg not b0F))
  | str j=>obtain⟨t',rfl⟩:=ry;exact PySem.EqMixed.ne_bool_str (p9 I q (by simp))
  | _=>exact absurd (show false=true from hs) Bool.false_ne_true
 | int i =>
  obtain⟨t,rfl⟩:=rx
  cases y with
  | non=>cases ry;exact PySem.EqNone.ne_int_none (p9 I q (by simp))
  | int j=>obtain⟨t',rfl⟩:=ry;exact ne_int (p9 I q (congrArg not a8Z))
  | str j=>obtain⟨t',rfl⟩:=ry;exact PySem.EqMixed.ne_int_str (p9 I q (by simp))
  | _=>exact absurd (show false=true from hs) Bool.false_ne_true
 | str i =>
  obtain⟨t,rfl⟩:=rx
  cases y with
  | non=>cases ry;exact PySem.EqNone.ne_str_none (p9 I q (by simp))
  | bl j=>cases ry;exact PySem.EqMixed.ne_str_bool (p9 I q (by simp))
  | int j=>obtain⟨t',rfl⟩:=ry;exact PySem.EqMixed.ne_str_int (p9 I q (by simp))
  | str j=>obtain⟨t',rfl⟩:=ry;exact ne_str (p9 I q (congrArg not a80))
  | _=>exact absurd (show false=true from hs) Bool.false_ne_true
 | byt i =>
  obtain⟨t,rfl⟩:=rx
  cases y with
  | byt j=>obtain⟨t',rfl⟩:=ry;exact W.ne_bytes (p9 I q (congrArg not a81))
  | _=>exact absurd (show false=true from hs) Bool.false_ne_true
 | _=>cases y<;>exact absurd (show false=true from hs) Bool.false_ne_true
theorem S8:G4 X (compareOp .Lt) (rI0 fun i j=>.bl (decide (i<j))):=a9N fun _ _ _ _ _ _ _ q=>lt_int q
theorem a0Y:G4 X (compareOp .LtE) (rI0 fun i j=>.bl (decide (i≤j))):=a9N fun _ _ _ _ _ _ _ q=>le_int q
theorem a31:G4 X (compareOp .Gt) (rI0 fun i j=>.bl (decide (j<i))):=a9N fun _ _ _ _ _ _ _ q=>gt_int q
theorem a7f:G4 X (compareOp .GtE) (rI0 fun i j=>.bl (decide (j≤i))):=a9N fun _ _ _ _ _ _ _ q=>ge_int q
theorem b5d:G4 X (compareOp .Is) (fun x y H Q=>y=.non∧Q (.bl (decide (x=.non))) H):=by
 intro pins s σ H x y v u Q I rx ry h
 obtain⟨rfl,q⟩:=h
 cases ry
 refine is_none_gen (p9 I q ?_)
 cases x<;>first
  | (cases rx;rfl)
  | (obtain⟨t,rfl⟩:=rx;rfl)
theorem a59:G4 X (compareOp .IsNot) (fun x y H Q=>y=.non∧Q (.bl (!decide (x=.non))) H):=by
 intro pins s σ H x y v u Q I rx ry h
 obtain⟨rfl,q⟩:=h
 cases ry
 refine isnot_none_gen (p9 I q ?_)
 cases x<;>first
  | (cases rx;rfl)
  | (obtain⟨t,rfl⟩:=rx;rfl)
theorem j7(b:Expr){op:CmpOp}(h:op≠.In:=by decide)(h2:op≠.NotIn:=by decide):behindInMarks op b=false:=by
 have e1:(op == CmpOp.In)=false:=by cases op<;>first | rfl | exact absurd rfl h
 have e2:(op == CmpOp.NotIn)=false:=by cases op<;>first | rfl | exact absurd rfl h2
 cases b<;>simp[behindInMarks,e1,e2]
theorem v3{op:CmpOp}{r:R2}(ho:G4 X (compareOp op) r)(ha:PE X a ta)(hb:PE X b tb)(hm:behindInMarks op b=false):PE X (.Compare a [op] [b] pos) (tOp r ta tb):=by
 intro pins s σ H Q I h
 exact wpAny_Compare1 (b11 ha hb I h fun v u s2 x y H2 I2 rx ry q=>ho pins s2 σ H2 x y v u Q I2 rx ry q) hm
def b3n(t:TE):TT:=fun σ H Q=>t σ H fun x H'=>∃k,x=.bl k∧Q k H'
theorem r6{op:CmpOp}{r:R2}(ho:G4 X (compareOp op) r)(ha:PE X a ta)(hb:PE X b tb)(hm:behindInMarks op b=false):PT X (.Compare a [op] [b] pos) (b3n (tOp r ta tb)):=by
 intro pins s σ H Q I h
 refine wpAny_isTrue_Compare1 (l3 (ha pins s σ H _ I h) fun v s1 ⟨x,H1,I1,r1,q1⟩=>l3 (hb pins s1 σ H1 _ I1 q1) fun u s2 ⟨y,H2,I2,r2,q2⟩ =>
  l3 (ho pins s2 σ H2 x y v u _ I2 r1 r2 q2) fun c s3 ⟨z,H3,I3,r3,k,e,q3⟩=>?_) hm
 subst e
 cases r3
 exact wpAny_truthy_bool ⟨H3,I3,q3⟩
theorem a25:(sizeLine:Nat)<2 ^ 63:=by rw[sizeLine_eq];decide
theorem a7g{x:V}{us:List Value}(r:Vals [x] us):∃u,us=[u]∧RelV x u:=by
 cases r with
 | cons r1 r2=>cases r2;exact⟨_,rfl,r1⟩
theorem b3o{x y:V}{us:List Value}(r:Vals [x,y] us):∃u w',us=[u,w']∧RelV x u∧RelV y w':=by
 cases r with
 | cons r1 r2 =>
  cases r2 with
  | cons r3 r4=>cases r4;exact⟨_,_,rfl,r1,r3⟩
theorem a6F:P4 X (.type "int") (fun xs H Q=>(∃i,xs=[.int i]∧Q (.int i) H)∨∃k,xs=[.bl k]∧Q (.int (if k then 1 else 0)) H):=by
 intro pins s σ H xs us Q I r h
 rcases h with⟨i,rfl,q⟩ | ⟨k,rfl,q⟩
 ·obtain⟨u,rfl,t,rfl⟩:=a7g r
  exact call_int_int ⟨.int i,H,I,⟨_,rfl⟩,q⟩
 ·obtain⟨u,rfl,r1⟩:=a7g r
  cases r1
  exact call_int_bool ⟨.int (if k then 1 else 0),H,I.tok _,⟨_,rfl⟩,q⟩
end
structure ObjM(h:Heap)(x dx C:Addr)(mA:Str→Option Value):Prop where
 obj:h.get? x=some (W.instObj C dx)
 ns:h.Ns1 dx mA
 ne:dx≠x
theorem a6G{h:Heap}{dx:Addr}{mA:Str→Option Value}(n:h.Ns1 dx mA):∃od,h.get? dx=some od∧∀name,W.lookIn name od=some (mA name):=by
 obtain⟨o,es,ep,ho,hd,hk,_,hm⟩:=n
 refine⟨o,ho,fun name=>?_⟩
 have e:=hm name
 unfold nsFind findBy at e
 rw[← Array.find?_toList]at e
 unfold W.lookIn
 rw[hd]
 dsimp only
 split
 ·rename_i y q
  rw[q]at e
  exact congrArg some e
 ·rename_i q
  rw[q]at e
  have a:es.toList.any (·.refKey)=false:=by
   rw[List.any_eq_false]
   intro y hy
   obtain⟨z,t,hkey⟩:=hk y (Array.mem_toList_iff.mp hy)
   simp[DictEntry.refKey,hkey]
  have a':¬es.toList.any (·.refKey)=true:=by rw[a];exact Bool.false_ne_true
  rw[if_neg a']
  exact congrArg some e
theorem ObjM.look{h:Heap}{x dx C:Addr}{mA:Str→Option Value}(I:ObjM h x dx C mA):∃od,W.InstAt h x (W.instObj C dx) C (some od)∧∀name,W.lookIn name od=some (mA name) :=
 let ⟨od,ho,hl⟩:=a6G I.ns
 ⟨od,⟨I.obj,rfl,rfl,ho⟩,hl⟩
theorem RelO.some_of{v:V}{o:Option Value}(r:RelO (some v) o):∃u,o=some u∧RelV v u:=by
 cases o with
 | none=>exact(show False from r).elim
 | some u=>exact⟨u,rfl,r⟩
theorem b0G{v:V}{u:Value}(r:RelV v u):W.handedIn u=true:=by
 cases v with
 | non=>cases (show u=Value.none from r);rfl
 | bl b=>cases (show u=Value.bool b from r);rfl
 | int i=>obtain⟨t,e⟩:=(show ∃t,u=Value.int i t from r);cases e;rfl
 | str x=>obtain⟨t,e⟩:=(show ∃t,u=Value.str x t from r);cases e;rfl
 | byt b=>obtain⟨t,e⟩:=(show ∃t,u=Value.bytes b t from r);cases e;rfl
 | flt b=>obtain⟨t,e⟩:=(show ∃t,u=Value.float b t from r);cases e;rfl
 | ref a=>cases (show u=Value.ref a from r);rfl
 | ty n=>cases (show u=Value.type n from r);rfl
section
variable {P:Program}{w:World}{H H':Hp}{h h':Heap}{a C dx:Addr}{fs fs':List (Str×V)}
theorem b3R(hok:HOk P w H h)(e:H a=some (.ins C dx fs)):∃mA,ObjM h a dx C mA∧(∀f,RelO (fs.lookup f) (mA f))∧PySem.Within mA (fs.map (·.1))∧fs.length≤1000∧H dx=some (.own a):=by
 obtain⟨d,z,ne,ob,mA,n,r,q⟩:=(show ObjOk P w H h a (.ins C dx fs)from hok a _ e)
 exact⟨mA,⟨ob,n,ne⟩,r,q,z,d⟩
end
structure Cls(K:W.Frag)(C:Addr):Prop where
 pg:W.plainGet K C Str.empty=true
 hd:W.hasDictIn K C=true
 po:W.plainOver K C=true
 sa:W.findIn K (.ref C) "__setattr__" = some (some (.builtin "object.__setattr__"))
theorem Cls.get{K:W.Frag}{C:Addr}(c:Cls K C)(f:Str):W.plainGet K C f=true:=c.pg
section
variable {X:Cx}{pins:List (Addr×Obj)}{σ:St}{H:Hp}{s:Shared}{a C dx:Addr}{fs:List (Str×V)}{f:Str}{v:V}{A:Around}{E:Value→Shared→Prop}
theorem Inv.made(I:Inv X pins σ H s):Inv X pins σ (upd (upd H s.heap.objs.size (.own (s.heap.objs.size+1))) (s.heap.objs.size+1) (.ins C s.heap.objs.size []))
  { s with heap:=(s.heap.push W.emptyDict).push (W.instObj C s.heap.objs.size) }:=by
 have e1:(s.heap.push W.emptyDict).get? s.heap.objs.size=some W.emptyDict:=Heap.get?_push_size s.heap rfl
 have e2:((s.heap.push W.emptyDict).push (W.instObj C s.heap.objs.size)).get? (s.heap.objs.size+1)=some (W.instObj C s.heap.objs.size):=by
  have:=Heap.get?_push_size (s.heap.push W.emptyDict) (o:=W.instObj C s.heap.objs.size) rfl
  rwa [Heap.size_push]at this
 have e3:(s.heap.push W.emptyDict).Ns s.heap.objs.size (fun _=>none):=⟨W.emptyDict,#[],_,e1,rfl,(fun e he=>absurd he (by simp)),fun _=>rfl⟩
 have I1:=I.laid (a:=s.heap.objs.size) (o:=.own (s.heap.objs.size+1)) (h':=s.heap.push W.emptyDict) (t':=s.toks) (fun b u q=>Heap.get?_push_of_some _ q) (Nat.le_refl _) ⟨_,e1⟩
 refine I1.laid (a:=s.heap.objs.size+1) (o:=.ins C s.heap.objs.size []) (t':=s.toks) (fun b u q=>Heap.get?_push_of_some _ q) (Nat.le_of_eq (Heap.size_push _ _)) ?_
 have ne:s.heap.objs.size≠s.heap.objs.size+1:=Nat.ne_of_lt (Nat.lt_succ_self _)
 refine⟨by rw[g8 ne,i8],Nat.zero_le _,ne,e2,fun _=>none,(Heap.Ns1.of_empty e3).at fun o q=>Heap.get?_push_of_some _ q,fun _=>True.intro,fun y hy=>absurd rfl hy⟩
theorem b3S{prog:Program}{w:World}{env:Env}{e:Expr}{f:Str}{pos:Pos}{s:Shared}{Q:Value→Shared→Prop}(hb:attributeBase e f env (eval e env)=eval e env)
  (h:wpAny (model prog w) A (eval e env) (fun o s₁=>wpAny (model prog w) A (getAttr o f true) Q E s₁) E s):wpAny (model prog w) A (eval (.Attribute e f pos) env) Q E s :=
 Attribute_any_ h (by rw[arm_eval_Attribute,hb])
end
section
variable {X:Cx}{pins:List (Addr×Obj)}{σ:St}{H:Hp}{s:Shared}{A:Around}{E:Value→Shared→Prop}{Q:Value→Shared→Prop}{c:Value}{b:Bool}
inductive TyOf(K:W.Frag)(H:Hp):V→Value→Prop where
 | non:TyOf K H .non (.type "NoneType")
 | bl (x:Bool):TyOf K H (.bl x) (.type "bool")
 | int (i:Int):TyOf K H (.int i) (.type "int")
 | str (x:Str):TyOf K H (.str x) (.type "str")
 | flt (x:UInt64):TyOf K H (.flt x) (.type "float")
 | lst {a:Addr} {xs:List V} (e:H a=some (.lst xs)):TyOf K H (.ref a) (.type "list")
 | frz {a:Addr} {o:Obj} {xs:List V} (e:H a=some (.frz o (.lst xs))):TyOf K H (.ref a) (.type "list")
 | tup {a:Addr} {xs:List V} (e:H a=some (.tup xs)):TyOf K H (.ref a) (.type "tuple")
 | dK {a:Addr} {kvs:List (y0×V)} (e:H a=some (.dK kvs)):TyOf K H (.ref a) (.type "dict")
 | dT {a:Addr} {kvs:List (List y0×V)} (e:H a=some (.dT kvs)):TyOf K H (.ref a) (.type "dict")
 | ins {a C dx:Addr} {fs:List (Str×V)} (e:H a=some (.ins C dx fs)) (cl:Cls K C) (ha:W.findIn K (.ref C) "__class__" = some (some (.builtin "object.__class__")))
   (hn:W.specialIn K (.builtin "object.__class__") "__get__" = some (some (.builtin "getset_descriptor.__get__"))) (htk:W.takesIn K (.builtin "object.__class__")=some true)
   (hm:W.mroIn K C (.type "object")=some true):TyOf K H (.ref a) (.ref C)
end
structure Room(k:Nat)(A:Around):Prop where
 hd:A.handled=none
 dp:A.depth+3*k+5<recursionLimit
 un:A.units+16*k+200<cLine
theorem Room.mono{j k:Nat}{A:Around}(r:Room k A)(h:j≤k):Room j A:=⟨r.hd,by have:=r.dp;omega,by have:=r.un;omega⟩
theorem Room.deeper{k:Nat}{A:Around}(r:Room (k+1) A)(env:Env):Room k (A.deeper env) :=
 ⟨r.hd,by have:=r.dp;show A.depth+1+3*k+5<_;omega,by have:=r.un;show A.units+3+16*k+200<_;omega⟩
theorem Room.in1{k:Nat}{A:Around}(r:Room (k+1) A):Room k A.in1 :=
 ⟨r.hd,by have:=r.dp;show A.depth+3*k+5<_;omega,by have:=r.un;show A.units+1+16*k+200<_;omega⟩
theorem a9O{A:Around}{C:Addr}{us:List Value}{kw:List (Str×Value)}:(A.under (.builtin "type.__call__" ⟨.ref C::us,kw⟩)).depth=A.depth+1:=by
 first | rfl | simp[Around.under,Code.weight,Code.isCreation,Code.isGuard,Code.isCaller,Code.frames,Code.isFrame,guardIds]
theorem a9P{A:Around}{C:Addr}{us:List Value}{kw:List (Str×Value)}:(A.under (.builtin "type.__call__" ⟨.ref C::us,kw⟩)).units=A.units+1:=by
 first | rfl | simp[Around.under,Code.cUnits,Code.frames,Code.isFrame]
theorem Room.make{k:Nat}{A:Around}(r:Room (k+1) A)(C:Addr)(us:List Value)(kw:List (Str×Value)):Room k (A.under (.builtin "type.__call__" ⟨.ref C::us,kw⟩)) :=
 ⟨r.hd,by have:=r.dp;rw[a9O];omega,by have:=r.un;rw[a9P];omega⟩
theorem Room.depth{k:Nat}{A:Around}(r:Room k A):A.depth<recursionLimit:=by have:=r.dp;omega
theorem Room.units{k:Nat}{A:Around}(r:Room k A):A.units+64<cLine:=by have:=r.un;omega
def a1h:TA:=fun _ H Q=>Q [] H
def P5(ta:TE)(tr:TA):TA:=fun σ H Q=>ta σ H fun x H1=>tr σ H1 fun xs H2=>Q (x::xs) H2
section
variable {X:Cx}{e:Expr}{es:List Expr}{te:TE}{t:TA}{pos:Pos}
theorem d7:PA X [] a1h:=fun _ _ _ _ H Q I h=>Calls.spliced_nil ⟨[],H,I,.nil,h⟩
theorem a6(ha:PE X e te)(hr:PA X es t)(hs:starEach (e::es) X.env=(false,eval e X.env)::starEach es X.env:=by rfl):PA X (e::es) (P5 te t):=by
 intro pos pins s σ H Q I h
 rw[hs]
 show wpAny _ _ (spliced ((false,eval e X.env)::backTo pos (starEach es X.env))) _ _ s
 refine Calls.spliced_cons (l3 (ha pins s σ H _ I h) fun u s1 ⟨x,H1,I1,r1,q1⟩=>?_)
 exact l3 (hr pos pins s1 σ H1 _ I1 q1) fun us s2 ⟨xs,H2,I2,r2,q2⟩=>⟨x::xs,H2,I2,.cons r1 r2,q2⟩
def b5e(t:TA):TE:=fun σ H Q=>t σ H fun xs H1=>xs.length≤sizeLine∧∀p,H1 p=none→Q (.ref p) (upd H1 p (.tup xs))
def b5f(t:TA):TE:=fun σ H Q=>t σ H fun xs H1=>xs.length≤sizeLine∧∀p,H1 p=none→Q (.ref p) (upd H1 p (.lst xs))
theorem j3{x1}(h:PA X es t):PE X (.Tuple es x1 pos) (b5e t):=by
 intro pins s σ H Q I hq
 refine wpAny_Tuple_spliced (l3 (h pos pins s σ H _ I hq) fun us s1 ⟨xs,H1,I1,r,z,q⟩=>⟨by rw[← r.length];exact z,?_⟩)
 have hf:H1 s1.heap.objs.size=none:=I1.hok.fresh (Nat.le_refl _)
 refine⟨.ref s1.heap.objs.size,upd H1 s1.heap.objs.size (.tup xs),I1.laid (t':=s1.toks) (fun b u e=>Heap.get?_push_of_some _ e) (Nat.le_refl _) ?_,rfl,q _ hf⟩
 exact⟨z,us,r,⟨_,Heap.get?_push_size _ rfl,rfl,_,rfl⟩⟩
theorem a0k(h:PA X es t):PE X (.List es pos) (b5f t):=by
 intro pins s σ H Q I hq
 refine wpAny_List_spliced (l3 (h pos pins s σ H _ I hq) fun us s1 ⟨xs,H1,I1,r,z,q⟩=>⟨by rw[← r.length];exact z,?_⟩)
 have hf:H1 s1.heap.objs.size=none:=I1.hok.fresh (Nat.le_refl _)
 refine⟨.ref s1.heap.objs.size,upd H1 s1.heap.objs.size (.lst xs),I1.laid (t':=s1.toks) (fun b u e=>Heap.get?_push_of_some _ e) (Nat.le_refl _) ?_,rfl,q _ hf⟩
 exact⟨z,us,0,r,Heap.get?_push_size _ rfl⟩
end
abbrev Sp:=List V→Hp→VK→XK→Prop
abbrev CXT:=List Env→Hp→Shared→XK→Value→Shared→Prop
structure Env0(P:Program)(w:World)(K:W.Frag)(mg:Str→Option Value)(base:Heap)(A:Around)(outer:List Env)(s:Shared)(H:Hp):Prop where
 frames:A.frames=some outer
 mod:Mod K mg base
 bs:∀b o,base.get? b=some o→s.heap.get? b=some o∧H b=none
 bsz:base.objs.size≤s.heap.objs.size
 funs:s.heap.FunFrames base outer
 frf:∀b∈E8 outer,H b=none
 hok:HOk P w H s.heap
 bare:AllBare s.gens
def CE(outer:List Env)(P:Program)(w:World)(H:Hp)(s:Shared)(Q:VK)(u:Value)(s':Shared):Prop :=
 ∃v H',s'.os=s.os∧AllBare s'.gens∧Un (E8 outer) [] H H' s.heap s'.heap∧HOk P w H' s'.heap∧RelV v u∧Q v H'
def CR(CX:CXT)(outer:List Env)(P:Program)(w:World)(H:Hp)(s:Shared)(Q:VK)(E:XK)(r:Result)(s':Shared):Prop :=
 match r with
 | .ok (.ret u)=>CE outer P w H s Q u s'
 | .ok _=>False
 | .error e=>CX outer H s E e s'
structure FnOk(P:Program)(w:World)(K:W.Frag)(mg:Str→Option Value)(base:Heap)(CX:CXT)(k:Nat)(f:Addr)(fd:FuncData)(ps:List Str)(sp:Sp):Prop where
 len:∀vs H Q E,sp vs H Q E→vs.length=ps.length
 run:∀(A:Around) (outer:List Env) (s:Shared) (H:Hp) (args:Args) (us:List Value) (vs:List V) (Q:VK) (E:XK),Room k A→Env0 P w K mg base A outer s H→BindsTo s fd args (ps.zip us)→Vals vs us→sp vs H Q E →
  codeAny (model P w) A (.call (.ref f) args) (CR CX outer P w H s Q E) s
theorem FnOk.mono{P:Program}{w:World}{K:W.Frag}{mg:Str→Option Value}{base:Heap}{CX:CXT}{j k:Nat}{f:Addr}{fd:FuncData}{ps:List Str}{sp:Sp}(F:FnOk P w K mg base CX j f fd ps sp)(h:j≤k) :
  FnOk P w K mg base CX k f fd ps sp:=⟨F.len,fun A outer s H args us vs Q E hr=>F.run A outer s H args us vs Q E (hr.mono h)⟩
theorem FnOk.imp{P:Program}{w:World}{K:W.Frag}{mg:Str→Option Value}{base:Heap}{CX:CXT}{k:Nat}{f:Addr}{fd:FuncData}{ps:List Str}{sp sp':Sp}(F:FnOk P w K mg base CX k f fd ps sp)
  (h:∀vs H Q E,sp' vs H Q E→sp vs H Q E):FnOk P w K mg base CX k f fd ps sp' :=
 ⟨fun vs H Q E q=>F.len vs H Q E (h _ _ _ _ q),fun A outer s H args us vs Q E hr he hb hv hs=>F.run A outer s H args us vs Q E hr he hb hv (h _ _ _ _ hs)⟩
theorem Env0.make{P:Program}{w:World}{K:W.Frag}{mg:Str→Option Value}{base:Heap}{A:Around}{outer:List Env}{s:Shared}{H:Hp}(e:Env0 P w K mg base A outer s H)(C:Addr)(us:List Value)(kw:List (Str×Value)) :
  Env0 P w K mg base (A.under (.builtin "type.__call__" ⟨.ref C::us,kw⟩)) outer s H:=⟨by first | exact e.frames | (simpa [Around.under,Code.envs,Code.isFrame,pushEnvs]using e.frames),e.mod,e.bs,e.bsz,e.funs,e.frf,e.hok,e.bare⟩
theorem Env0.in1{P:Program}{w:World}{K:W.Frag}{mg:Str→Option Value}{base:Heap}{A:Around}{outer:List Env}{s:Shared}{H:Hp}(e:Env0 P w K mg base A outer s H) :
  Env0 P w K mg base A.in1 outer s H:=⟨e.frames,e.mod,e.bs,e.bsz,e.funs,e.frf,e.hok,e.bare⟩
section
variable {X:Cx}{pins:List (Addr×Obj)}{σ:St}{H:Hp}{s s':Shared}
theorem Inv.env0(I:Inv X pins σ H s):Env0 X.prog X.w X.K X.mg X.base X.A X.stack s H :=
 ⟨I.ok.frames,I.ok.mod,I.bs,Nat.le_trans I.ok.bsz I.sz,I.stack,I.stkFree,I.hok,I.bare⟩
theorem Inv.after{Q:VK}{u:Value}(I:Inv X pins σ H s)(h:CE X.stack X.prog X.w H s Q u s'):EP X pins σ Q u s':=by
 obtain⟨v,H',os,bare,un,hok,r,q⟩:=h
 obtain⟨hh,g,d,t,os'⟩:=s'
 obtain rfl:os'=s.os:=os
 exact⟨v,H',I.call (h':=hh) (g':=g) (d':=d) (t':=t) (ch:=[]) un hok bare (fun b z=>absurd z (by simp)),r,q⟩
end
def a0Z(sp:Sp)(dvs:List V)(E:XK)(t:TA):TE:=fun σ H Q=>t σ H fun vs H1=>sp (vs++dvs) H1 Q E
def Binds(K:W.Frag)(fd:FuncData)(ps:List Str)(ds:List Value):Prop :=
 ∀(s:Shared) (us:List Value),K.In s.heap→(us++ds).length=ps.length→BindsTo s fd ⟨us,[]⟩ (ps.zip (us++ds))
theorem Binds.all{K:W.Frag}{fd:FuncData}{ps:List Str}(h:∀us:List Value,us.length=ps.length→bindArgs fd ⟨us,[]⟩=pure (ps.zip us)):Binds K fd ps []:=fun s us _ hl=>by
 rw[List.append_nil]at hl ⊢
 exact .of_eq (h us hl)
def a26(CX:CXT)(X:Cx)(E:XK):Prop:=∀(pins:List (Addr×Obj)) (σ:St) (H:Hp) (s:Shared) (e:Value) (s':Shared),Inv X pins σ H s→CX X.stack H s E e s'→X.xe e s'
section
variable {X:Cx}{CX:CXT}{k:Nat}{f C:Addr}{fd:FuncData}{ps:List Str}{sp:Sp}{dvs:List V}{ds:List Value}{E:XK}{x m:Str}{p pos apos:Pos}{e o:Expr}{es:List Expr}{ta:TE}{t:TA}
theorem b5g{pins:List (Addr×Obj)}{σ:St}{H:Hp}{s:Shared}{Q:VK}{us:List Value}{vs:List V}(F:FnOk X.prog X.w X.K X.mg X.base CX k f fd ps sp)(hr:Room k X.A)(hb:Binds X.K fd ps ds)(hd:Vals dvs ds)(hx:a26 CX X E)
  (I:Inv X pins σ H s) (r:Vals vs us) (h:sp (vs++dvs) H Q E):wpAny (model X.prog X.w) X.A (call (.ref f) us) (EP X pins σ Q) X.xe s:=by
 have r2:Vals (vs++dvs) (us++ds):=r.append hd
 have hl:(us++ds).length=ps.length:=by rw[← r2.length];exact F.len _ _ _ _ h
 refine wpAny_call (codeAny_mono (F.run X.A X.stack s H ⟨us,[]⟩ (us++ds) (vs++dvs) Q E hr I.env0 (hb s us I.kIn hl) r2 h) fun r s' hq=>?_)
 cases r with
 | error e=>exact hx pins σ H s e s' I hq
 | ok fl =>
  cases fl with
  | ret u=>exact I.after hq
  | next=>exact False.elim hq
  | brk=>exact False.elim hq
  | cont=>exact False.elim hq
theorem b3T(F:FnOk X.prog X.w X.K X.mg X.base CX k f fd ps sp)(hr:Room k X.A)(hg:Gl X x)(hm:X.mg x=some (.ref f))(hk:W.keepIn X.K (.ref f)=true)(hb:Binds X.K fd ps ds)(hd:Vals dvs ds)(hx:a26 CX X E)
  (ha:PA X (e::es) t) (hdb:(x == ("__debug__" : Str))=false:=by decide) (he:starEach (e::es) X.env=(false,eval e X.env)::starEach es X.env:=by rfl) (hpl:(backTo pos (starEach es X.env)).any (·.1)=false:=by rfl) :
  PE X (.Call (.Name x p) (e::es) [] pos) (a0Z sp dvs E t):=by
 intro pins s σ H Q I h
 refine wpAny_Call_Name_kw (Q8 I hg hm ?_ hdb)
 refine W.callWith_K (h₀:=X.base) I.ok.mod.kin hk (l3 (ha pos pins s σ H _ I h) fun us s1 ⟨vs,H1,I1,r,q⟩=>⟨I1.kIn,?_⟩) he hpl
 exact b5g F hr hb hd hx I1 r q
end
structure FnScope(N P:List Str)(sc:Scope):Prop where
 kind:sc.kind=.function
 co:sc.isCoroutine=false
 gen:sc.isGenerator=false
 nd:N.Nodup
 pre:N.take P.length=P
 par:∀x∈P,sc.names.lookup x=some .local∨sc.names.lookup x=some .cell
 nofree:∀y∈sc.names,y.2≠.free
theorem a6H{kindOf:Str→Option NameKind}{x:Str}:∀{binds:List (Str×Value)} {m:Str→Option Value},(∀v,(x,v) ∉ binds)→bindL kindOf binds m x=m x
 | [],_,_=>rfl
 | (n,v)::r,m,h=>by
  unfold bindL
  rw[a6H fun w hw=>h w (List.mem_cons_of_mem _ hw)]
  split
  ·have:x≠n:=by rintro rfl;exact h v List.mem_cons_self
   simp[this]
  ·rfl
theorem a6I{kindOf:Str→Option NameKind}{x:Str}:∀{binds:List (Str×Value)} {m:Str→Option Value},(∀v,(x,v) ∉ binds)→bindC kindOf binds m x=m x
 | [],_,_=>rfl
 | (n,v)::r,m,h=>by
  unfold bindC
  rw[a6I fun w hw=>h w (List.mem_cons_of_mem _ hw)]
  split
  ·rfl
  ·have:x≠n:=by rintro rfl;exact h v List.mem_cons_self
   simp[this]
theorem a27{kindOf:Str→Option NameKind}{x:Str}{v:Value}:∀{P:List Str} {vs:List Value} {i:Nat} {m:Str→Option Value},P.Nodup→P[i]? = some x→vs[i]? = some v→kindOf x=some .local →
  bindL kindOf (P.zip vs) m x=some v
 | [],_,_,_,_,h,_,_=>by simp at h
 | _::_,[],_,_,_,_,h,_=>by simp at h
 | p::P,w::vs,0,m,nd,h1,h2,hk=>by
  simp at h1 h2;subst h1;subst h2
  show bindL kindOf ((p,w)::P.zip vs) m p=_
  unfold bindL
  rw[a6H fun v hv=>(List.nodup_cons.mp nd).1 (List.of_mem_zip hv).1,if_pos hk]
  simp
 | p::P,w::vs,i+1,m,nd,h1,h2,hk=>by
  show bindL kindOf ((p,w)::P.zip vs) m x=_
  unfold bindL
  exact a27 (i:=i) (List.nodup_cons.mp nd).2 (by simpa using h1) (by simpa using h2) hk
theorem a28{kindOf:Str→Option NameKind}{x:Str}{v:Value}:∀{P:List Str} {vs:List Value} {i:Nat} {m:Str→Option Value},P.Nodup→P[i]? = some x→vs[i]? = some v→kindOf x≠some .local →
  bindC kindOf (P.zip vs) m x=some v
 | [],_,_,_,_,h,_,_=>by simp at h
 | _::_,[],_,_,_,_,h,_=>by simp at h
 | p::P,w::vs,0,m,nd,h1,h2,hk=>by
  simp at h1 h2;subst h1;subst h2
  show bindC kindOf ((p,w)::P.zip vs) m p=_
  unfold bindC
  rw[a6I fun v hv=>(List.nodup_cons.mp nd).1 (List.of_mem_zip hv).1,if_neg hk]
  simp
 | p::P,w::vs,i+1,m,nd,h1,h2,hk=>by
  show bindC kindOf ((p,w)::P.zip vs) m x=_
  unfold bindC
  exact a28 (i:=i) (List.nodup_cons.mp nd).2 (by simpa using h1) (by simpa using h2) hk
def start(N:List Str)(vs:List V):St:=vs.map some++List.replicate (N.length-vs.length) none
def V3(CX:CXT)(P:Program)(w:World)(K:W.Frag)(mg:Str→Option Value)(base:Heap)(N:List Str)(qual:Str)(scope:Scope)(f:Addr)(cd:Value)(A:Around)(outer:List Env)(s:Shared)(H:Hp)(E:XK):Cx where
 prog:=P
 w:=w
 K:=K
 mg:=mg
 base:=base
 A:=A.deeper (envOfC qual scope s.heap.objs.size f cd)
 N:=N
 s₀:=s
 H₀:=H
 env:=envOfC qual scope s.heap.objs.size f cd
 outer:=outer
 stack:=envOfC qual scope s.heap.objs.size f cd::outer
 ex:=[]
 calm:=true
 fn:=fun _=>true
 pn:=[]
 xe:=fun e s'=>wpAny (model P w) (A.deeper (envOfC qual scope s.heap.objs.size f cd)) (leaving (envOfC qual scope s.heap.objs.size f cd) e) (fun _ s''=>CX outer H s E e s'') (fun e' s''=>CX outer H s E e' s'') s'
theorem a2u{sc:Scope}{n:Nat}{x:Str}(h:sc.names.lookup x=some .cell):∃c,(cellsFrom n sc.names []).lookup x=some c:=by
 have q:=W.cellsFrom_some sc.names n [] (.inl h)
 exact Option.isSome_iff_exists.mp q
theorem b0H{CX:CXT}{P:Program}{w:World}{K:W.Frag}{mg:Str→Option Value}{base:Heap}{N ps:List Str}{qual:Str}{scope:Scope}{f:Addr}{cd:Value}{A:Around}{outer:List Env}{s s1:Shared}{H:Hp}{E:XK}{us:List Value}{vs:List V}
  (S:FnScope N ps scope) (hd:A.handled=none) (e0:Env0 P w K mg base A outer s H) (hl:vs.length=ps.length) (r:Vals vs us)
  (x:InCallC s s.heap.objs.size (bindL (envOfC qual scope s.heap.objs.size f cd).kindOf (ps.zip us) fun _=>none) (cellsFrom (s.heap.objs.size+1) scope.names []) (bindC (envOfC qual scope s.heap.objs.size f cd).kindOf (ps.zip us) fun _=>none) s1) :
  Inv (V3 CX P w K mg base N qual scope f cd A outer s H E) [] (start N vs) H s1:=by
 have hpl:ps.length≤N.length:=by have:=congrArg List.length S.pre;rw[List.length_take]at this;omega
 obtain⟨h1,tk,rfl,hk⟩:=x.done
 have noA:∀b:Addr,b ∉ (V3 CX P w K mg base N qual scope f cd A outer s H E).ex:=fun b z=>absurd (show b∈([]:List Addr)from z) (by simp)
 refine⟨⟨e0.mod,S.kind,rfl,rfl,Nat.le_refl _,fun y z c h1 h2=>?_,fun y hy=>?_,fun y c _ h=>?_,fun _=>hd,Around.frames_deeper e0.frames,.inr ⟨rfl,rfl⟩,fun b z=>absurd z (noA b),e0.bs,e0.bsz,fun b _ _=>noA b,fun b z=>absurd z (noA b),e0.funs,e0.frf⟩,
  rfl,e0.bare,Un.kept hk,⟨_,x.toInCall.ns,fun i y v h1 h2 h3=>?_⟩,fun y c h=>⟨_,x.cell y c h⟩,e0.hok.fresh (Nat.le_refl _),fun y c h=>?_,fun p hp=>absurd (show p∈([]:List (Addr×Obj))from hp) (by simp),e0.hok.kept hk,?_⟩
 ·exact name_of_addr x.apart (PySem.mem_of_lookup h1) (PySem.mem_of_lookup h2)
 ·have hy:scope.names.lookup y=some .cell∨scope.names.lookup y=some .free:=hy
  rcases hy with hy | hy
  ·exact a2u hy
  ·exact absurd rfl (S.nofree _ (PySem.mem_of_lookup hy))
 ·exact Nat.le_of_lt (x.above y c (PySem.mem_of_lookup h))
 ·have hi:i<vs.length:=by
   unfold start at h2
   by_cases hi:i<vs.length
   ·exact hi
   ·rw[List.getElem?_append_right (by simpa using hi)]at h2
    rw[List.getElem?_replicate]at h2
    split at h2<;>cases h2
  have ha:vs[i]? = some v:=by
   unfold start at h2
   rw[List.getElem?_append_left (by simpa using hi),List.getElem?_map]at h2
   cases e:vs[i]? with
   | none=>rw[e]at h2;cases h2
   | some a=>rw[e]at h2;cases h2;rfl
  obtain⟨u,hu,rv⟩:=r.get ha
  have hp:ps[i]? = some y:=by
   rw[← S.pre,List.getElem?_take_of_lt (by omega)];exact h1
  have ndP:ps.Nodup:=by rw[← S.pre];exact S.nd.sublist (List.take_sublist _ _)
  refine⟨u,rv,?_⟩
  rcases S.par y (List.mem_of_getElem? hp)with k | k
  ·exact .inl ⟨k,a27 ndP hp hu k⟩
  ·obtain⟨c,e⟩:=a2u (n:=s.heap.objs.size+1) k
   refine .inr ⟨.inl k,c,e,?_⟩
   have q:=x.cell y c e
   rw[a28 ndP hp hu (by show scope.names.lookup y≠_;rw[k];decide)]at q
   exact q
 ·exact e0.hok.fresh (Nat.le_of_lt (x.above y c (PySem.mem_of_lookup h)))
 ·unfold start
  show _=N.length
  rw[List.length_append,List.length_map,List.length_replicate]
  omega
theorem a9Q{CX:CXT}{P:Program}{w:World}{K:W.Frag}{mg:Str→Option Value}{base:Heap}{k:Nat}{f:Addr}{name qual:Str}{params:Arguments}{body:List Stmt}{scope:Scope}{dV kV doc pm cdv ct oc:Value}{an od:Option Addr}
  {osl:Array (Option Value)} {N ps:List Str} {sp:Sp} (lk:K.lookup f=some ⟨oc,od,.func (W.fnOf name qual params body scope dV kV doc pm an cdv ct),osl⟩) (hcd:W.codeIn K cdv qual=true) (S:FnScope N ps scope)
  (len:∀vs H Q E,sp vs H Q E→vs.length=ps.length)
  (hbody:∀(A:Around) (outer:List Env) (s:Shared) (H:Hp) (vs:List V) (Q:VK) (E:XK),Room k (A.deeper (envOfC qual scope s.heap.objs.size f cdv))→sp vs H Q E →
   ∃t,PSs (V3 CX P w K mg base N qual scope f cdv A outer s H E) body t∧t { nx:=fun _ H'=>Q .non H',rt:=Q } (start N vs) H) :
  FnOk P w K mg base CX (k+1) f (W.fnOf name qual params body scope dV kV doc pm an cdv ct) ps sp:=by
 refine⟨len,fun A outer s H args us vs Q E hr e0 hb r hsp=>?_⟩
 have hl:=len _ _ _ _ hsp
 have KX:K.In s.heap:=e0.mod.kin.keeps fun b o e=>(e0.bs b o e).1
 have lim:s.heap.NoLimit:=e0.mod.nolimit.keeps fun b o e=>(e0.bs b o e).1
 have hkind:∀y∈ps.zip us,scope.names.lookup y.1=some .local∨(scope.names.lookup y.1=some .cell∧((cellsFrom (s.heap.objs.size+1) scope.names []).lookup y.1).isSome=true):=fun⟨n,v⟩ hy=>by
  rcases S.par n (List.of_mem_zip hy).1 with q | q
  ·exact .inl q
  ·exact .inr ⟨q,W.cellsFrom_some _ _ _ (.inl q)⟩
 refine codeAny_call_function hr.depth (KX _ _ lk) rfl S.co S.gen rfl (W.codeRec_of KX hcd) (hb _ _ _ _ ?_)
 refine wpAny_newFunctionEnv_cells S.kind hkind fun env he s1 x=>?_
 subst he
 refine⟨lim.keeps x.toInCall.keep,codeAny_func ?_⟩
 obtain⟨t,ht,hq⟩:=hbody A outer s H vs Q E (hr.deeper _) hsp
 have I:Inv (V3 CX P w K mg base N qual scope f cdv A outer s H E) [] (start N vs) H s1:=b0H S hr.hd e0 hl r x
 refine wpAny_mono (ht [] s1 (start N vs) H _ I hq) (fun fl s' hs=>?_) fun e s' hs=>hs
 have fin:∀{σ':St} {H':Hp} {v:V} {u:Value},Inv (V3 CX P w K mg base N qual scope f cdv A outer s H E) [] σ' H' s'→RelV v u→Q v H'→CE outer P w H s Q u s' :=
  fun{σ' H' v u} J rv q=>⟨v,H',J.os,J.bare,J.base,J.hok,rv,q⟩
 cases fl with
 | ret u =>
  obtain⟨v,σ',H',J,rv,q⟩:=hs
  exact fin J rv q
 | next =>
  obtain⟨σ',H',J,q⟩:=hs
  exact fin (v:=V.non) (u:=Value.none) J rfl q
 | brk =>
  obtain⟨_,_,_,q⟩:=hs
  exact False.elim q
 | cont =>
  obtain⟨_,_,_,q⟩:=hs
  exact False.elim q
section
variable {X:Cx}{x:Str}{p pos:Pos}{e:Expr}{es:List Expr}{t:TA}{id T:String}{r:List V→Hp→VK→Prop}
def tCB(r:List V→Hp→VK→Prop)(t:TA):TE:=fun σ H Q=>t σ H fun vs H1=>r vs H1 Q
theorem n4(hc:P4 X (.builtin id) r)(hg:Gl X x)(hm:X.mg x=none)(hv:bootBuiltins x=some (.builtin id))(ha:PA X (e::es) t)(hn:x≠"__name__" := by decide)(hdb:(x == ("__debug__" : Str))=false:=by decide)
  (he:starEach (e::es) X.env=(false,eval e X.env)::starEach es X.env:=by rfl) (hpl:(backTo pos (starEach es X.env)).any (·.1)=false:=by rfl):PE X (.Call (.Name x p) (e::es) [] pos) (tCB r t):=by
 intro pins s σ H Q I h
 refine wpAny_Call_Name_kw (K4 I hg hm hv ?_ hn hdb)
 exact PyProof.Rows.callWith_builtin1 (l3 (ha pos pins s σ H _ I h) fun us s1 ⟨vs,H1,I1,r1,q1⟩=>hc pins s1 σ H1 vs us Q I1 r1 q1) he hpl
theorem a00(hc:P4 X (.type T) r)(hg:Gl X x)(hm:X.mg x=none)(hv:bootBuiltins x=some (.type T))(ha:PA X (e::es) t)(hn:x≠"__name__" := by decide)(hdb:(x == ("__debug__" : Str))=false:=by decide)
  (he:starEach (e::es) X.env=(false,eval e X.env)::starEach es X.env:=by rfl) (hpl:(backTo pos (starEach es X.env)).any (·.1)=false:=by rfl):PE X (.Call (.Name x p) (e::es) [] pos) (tCB r t):=by
 intro pins s σ H Q I h
 refine wpAny_Call_Name_kw (K4 I hg hm hv ?_ hn hdb)
 exact PyProof.Rows.callWith_type1 (l3 (ha pos pins s σ H _ I h) fun us s1 ⟨vs,H1,I1,r1,q1⟩=>hc pins s1 σ H1 vs us Q I1 r1 q1) he hpl
end
end L2
namespace HT
open PySem PyProof.Rows
def lexLt:List Int→List Int→Bool
 | [],[]=>false
 | [],_::_=>true
 | _::_,[]=>false
 | x::xs,y::ys=>if x=y then lexLt xs ys else decide (x<y)
theorem lexLt_cons(x y:Int)(xs ys:List Int):lexLt (x::xs) (y::ys)=if x=y then lexLt xs ys else decide (x<y):=rfl
section
variable {prog:Program}{w:World}{A:Around}{E:Value→Shared→Prop}{s:Shared}
theorem cat_tup{t b:Addr}{vs ws:List Value}{Q:Value→Shared→Prop}(ht:IsTup s.heap t vs.toArray)(hb:IsTup s.heap b ws.toArray)(hv:vs≠[])
  (h1:ws=[]→Q (.ref t) s) (h2:ws≠[]→Q (.ref s.heap.objs.size) { s with heap:=s.heap.push { cls:=.type "tuple",data:=.seq (vs++ws).toArray } })
  (hsz:vs.length+ws.length≤sizeLine):wpAny (model prog w) A (binaryOp .Add (.ref t) (.ref b)) Q E s:=by
 obtain⟨⟨cls,dd,data,sl⟩,ho,hc,n,hd⟩:=id ht
 obtain⟨⟨cls2,dd2,data2,sl2⟩,ho2,hc2,n2,hd2⟩:=id hb
 simp only at hc hd hc2 hd2
 subst hc hd hc2 hd2
 have e:vs.toArray++ws.toArray=(vs++ws).toArray:=by simp
 by_cases hw:ws=[]
 ·exact concat_meets ⟨_,ho,rfl⟩ ⟨_,ho2,rfl⟩ noFill_tuple_add seq_tuple_add PySem.F.slot_tuple_add PySem.F.entry_tuple_add (PySem.F.args_tuple_add_2 _ _)
   (tuple_addW1 t b vs.toArray ws.toArray n n2 dd dd2 sl sl2 (by simpa using hv) (by simp[hw])) ⟨ho,ho2,h1 hw⟩
 ·refine concat_meets ⟨_,ho,rfl⟩ ⟨_,ho2,rfl⟩ noFill_tuple_add seq_tuple_add PySem.F.slot_tuple_add PySem.F.entry_tuple_add (PySem.F.args_tuple_add_2 _ _)
   (tuple_addW2 t b vs.toArray ws.toArray n n2 dd dd2 sl sl2 (by simpa using hv) (by simpa using hw) (by rw[List.size_toArray,List.size_toArray];exact hsz)) ⟨ho,ho2,?_⟩
  rw[e]
  exact h2 hw
def sIx(n d:Nat):Option Int→Nat
 | none=>d
 | some v=>if v<0 then(v+(n:Int)).toNat else min v.toNat n
theorem sIx_nat(n d k:Nat):sIx n d (some (k:Int))=min k n:=by
 show(if(k:Int)<0 then((k:Int)+(n:Int)).toNat else min (k:Int).toNat n)=min k n
 rw[if_neg (by omega),Int.toNat_natCast]
theorem b5h(n d:Nat)(hd:d≤n)(o:Option Int):sIx n d o≤n:=by
 cases o with
 | none=>exact hd
 | some v =>
  show(if v<0 then(v+(n:Int)).toNat else min v.toNat n)≤n
  by_cases hv:v<0
  ·rw[if_pos hv];omega
  ·rw[if_neg hv];exact Nat.min_le_right _ _
theorem a82(v:Int)(n d:Nat):(if v<0 then max (v+(n:Int)) 0 else min v (n:Int))=((sIx n d (some v):Nat):Int):=by
 show(if v<0 then max (v+(n:Int)) 0 else min v (n:Int))=(((if v<0 then(v+(n:Int)).toNat else min v.toNat n):Nat):Int)
 by_cases hv:v<0
 ·simp only[if_pos hv];omega
 ·simp only[if_neg hv];omega
theorem a9R(lo hi:Option Int)(n:Nat):Builtin.Slice.sliceAdjust lo hi 1 (n:Int)=(((sIx n 0 lo:Nat):Int),((sIx n n hi:Nat):Int)):=by
 have h1:¬((1:Int)<0):=by omega
 unfold Builtin.Slice.sliceAdjust
 simp only[h1,if_false]
 refine Prod.ext ?_ ?_
 ·cases lo with
  | none=>rfl
  | some v=>exact a82 v n 0
 ·cases hi with
  | none=>rfl
  | some v=>exact a82 v n n
theorem a9S(i j:Nat):Builtin.Slice.slicePlaces (i:Int) (j:Int) 1=j-i:=by
 unfold Builtin.Slice.slicePlaces
 have h1:(1:Int) > 0:=by omega
 simp only[h1,if_true,Int.ediv_one]
 split<;>omega
theorem a46{v:Value}{o:Option Int}{Q:Option Int→Shared→Prop}(p:IsPart v o)(h:Q o s):wpAny (model prog w) A (Builtin.Slice.slicePartIndex v) Q E s:=by
 cases p with
 | none=>exact slicePart_none h
 | int i t=>exact slicePart_int h
theorem a4H{sl:Addr}{vl vu:Value}{lo hi:Option Int}{n:Nat}{Q:Int×Int×Nat→Shared→Prop}(hs:s.heap.IsSliceOf sl vl vu .none)(pl:IsPart vl lo)(pu:IsPart vu hi)
  (h:Q (((sIx n 0 lo:Nat):Int),1,sIx n n hi-sIx n 0 lo) s):wpAny (model prog w) A (Builtin.Slice.sliceApplied (.ref sl) (pure (n:Int))) Q E s:=by
 obtain⟨os,hos,hcs,hds⟩:=id hs
 unfold Builtin.Slice.sliceApplied Builtin.Slice.sliceFields
 refine wpAny_bind (wpAny_bind (wpAny_field hos hds (x:=vl) rfl (wpAny_bind (wpAny_field hos hds (x:=vu) rfl (wpAny_bind (wpAny_field hos hds (x:=.none) rfl (wpAny_pure ?_)))))))
 refine wpAny_bind (slicePart_none ?_)
 show wpAny _ _ (if((1:Int) == 0)=true then _ else _) _ _ s
 rw[if_neg (by decide)]
 refine wpAny_bind (a46 pl (wpAny_bind (a46 pu (wpAny_bind (wpAny_pure ?_)))))
 show wpAny _ _ (match Builtin.Slice.sliceAdjust lo hi 1 (n:Int)with | (lo,hi)=>pure (lo,(1:Int),Builtin.Slice.slicePlaces lo hi 1)) _ _ s
 rw[a9R lo hi n]
 show wpAny _ _ (pure (((sIx n 0 lo:Nat):Int),(1:Int),Builtin.Slice.slicePlaces ((sIx n 0 lo:Nat):Int) ((sIx n n hi:Nat):Int) 1)) _ _ s
 rw[a9S]
 exact wpAny_pure h
theorem b12(xs:Array Value)(i k:Nat):((List.range k).filterMap fun(m:Nat)=>xs[((i:Int)+(m:Int)*1).toNat]?).toArray=((xs.toList.drop i).take k).toArray:=by
 have e:(fun(m:Nat)=>xs[((i:Int)+(m:Int)*1).toNat]?)=fun m=>xs[i+m]?:=by
  funext m
  have:((i:Int)+(m:Int)*1).toNat=i+m:=by omega
  rw[this]
 rw[e]
 have:=pick_run xs i k
 rw[List.filterMap_map]at this
 have e2:((fun x=>xs[x]?)∘fun x=>i+x)=fun m=>xs[i+m]?:=rfl
 rw[e2]at this
 rw[this]
theorem getItem_tuple_cut{t sl:Addr}{items:Array Value}{vl vu:Value}{lo hi:Option Int}{Q:Value→Shared→Prop}(ht:IsTup s.heap t items)(hs:s.heap.IsSliceOf sl vl vu .none)(pl:IsPart vl lo)(pu:IsPart vu hi)
  (hw:¬(sIx items.size 0 lo=0∧sIx items.size items.size hi=items.size))
  (h:Q (.ref s.heap.objs.size) { s with heap:=s.heap.push { cls:=.type "tuple",data:=.seq ((items.toList.drop (sIx items.size 0 lo)).take (sIx items.size items.size hi-sIx items.size 0 lo)).toArray } })
  (hsz:items.size≤sizeLine):wpAny (model prog w) A (getItem (.ref t) (.ref sl)) Q E s:=by
 have htake:sizeOk (.seq ((items.toList.drop (sIx items.size 0 lo)).take (sIx items.size items.size hi-sIx items.size 0 lo)).toArray):=by
  show((items.toList.drop (sIx items.size 0 lo)).take (sIx items.size items.size hi-sIx items.size 0 lo)).toArray.size≤sizeLine
  rw[List.size_toArray,List.length_take,List.length_drop,Array.length_toList]
  omega
 have hj:sIx items.size items.size hi≤items.size:=b5h _ _ (Nat.le_refl _) hi
 obtain⟨os,hos,hcs,hds⟩:=id hs
 have hTs:s.TypeIs (.ref sl) "slice" := ⟨os,hos,hcs⟩
 unfold getItem
 try with_reducible refine wpAny_holding ?_
 first | refine wpAny_bind (wpAny_pure ?_) | skip
 refine wpAny_bind (wpAny_sequenceKey ht.typeIs (by decide) ?_)
 refine wpAny_bind (wpAny_callSpecial?_slot (name:=Str.ofString "__getitem__") ht.typeIs PyProof.Rows.slot_tuple_getitem
  (wpAny_call_entry PyProof.Rows.slot_tuple_getitem ht.typeIs entry_tuple_getitem ?_ (args_tuple_getitem _ _)))
 show wpAny _ _ (Builtin.Tuple.tupleItemsOf (.ref t) >>= _) _ _ s
 refine wpAny_bind (tupleItemsOf_ ht ?_)
 refine wpAny_bind (wpAny_typeOf hTs ?_)
 rw[if_pos (by decide)]
 refine wpAny_bind (a4H hs pl pu ?_)
 have hno:¬((((sIx items.size 0 lo:Nat):Int) == 0 && (1:Int) == 1 && (sIx items.size items.size hi-sIx items.size 0 lo) == items.size)=true):=by
  intro q
  rw[Bool.and_eq_true,Bool.and_eq_true]at q
  have q1:((sIx items.size 0 lo:Nat):Int)=0:=eq_of_beq q.1.1
  have q2:sIx items.size items.size hi-sIx items.size 0 lo=items.size:=eq_of_beq q.2
  exact hw ⟨by omega,by omega⟩
 show wpAny _ _ (if(((sIx items.size 0 lo:Nat):Int) == 0 && (1:Int) == 1 && (sIx items.size items.size hi-sIx items.size 0 lo) == items.size)=true then _ else _) _ _ s
 rw[if_neg hno,b12]
 first
  | exact wpAny_bind (m:=Builtin.Tuple.tupleExact _) (wpAny_newObj_type (wpAny_pure ⟨_,rfl,wpAny_pure h⟩) htake)
  | exact wpAny_bind (m:=Builtin.Tuple.tupleExact _) (wpAny_newObj_type (wpAny_bind (wpAny_pure (wpAny_pure ⟨_,rfl,wpAny_pure h⟩))) htake)
  | exact wpAny_bind (wpAny_bind (m:=Builtin.Tuple.tupleExact _) (wpAny_newObj_type (wpAny_pure (wpAny_pure ⟨_,rfl,wpAny_pure h⟩)) htake))
  | exact wpAny_bind (wpAny_bind (m:=Builtin.Tuple.tupleExact _) (wpAny_newObj_type (wpAny_pure ⟨_,rfl,wpAny_pure h⟩) htake))
end
end HT
namespace L2
open PySem PySem.Spec PyProof.Rows
abbrev TO:=St→Hp→(Option Int→Hp→Prop)→Prop
def PO(X:Cx)(e:Option Expr)(t:TO):Prop :=
 ∀(pins:List (Addr×Obj)) (s:Shared) (σ:St) (H:Hp) (Q:Option Int→Hp→Prop),Inv X pins σ H s→t σ H Q →
  wpAny (model X.prog X.w) X.A (evalPart e X.env) (fun u s'=>∃o H',Inv X pins σ H' s'∧IsPart u o∧Q o H') X.xe s
def a83:TO:=fun _ H Q=>Q none H
def b3p(t:TE):TO:=fun σ H Q=>t σ H fun x H1=>∃i,x=.int i∧Q (some i) H1
section
variable {X:Cx}{e:Expr}{te:TE}{lo hi:Option Expr}{tl th:TO}{pos p2:Pos}
theorem b3U:PO X none a83:=by
 intro pins s σ H Q I h
 rw[evalPart_none]
 exact wpAny_pure ⟨none,H,I,.none,h⟩
theorem a5_(h:PE X e te):PO X (some e) (b3p te):=by
 intro pins s σ H Q I hw
 rw[evalPart_some]
 refine l3 (h pins s σ H _ I hw) fun u s1 ⟨x,H1,I1,r1,q1⟩=>?_
 obtain⟨i,rfl,q⟩:=q1
 obtain⟨t,rfl⟩:=r1
 exact⟨some i,H1,I1,.int i t,q⟩
def SlR(X:Cx)(r:V→Option Int→Option Int→Hp→VK→Prop):Prop :=
 ∀(pins:List (Addr×Obj)) (s:Shared) (σ:St) (H:Hp) (x:V) (v vl vu:Value) (lo hi:Option Int) (sl:Addr) (Q:VK),Inv X pins σ H s→RelV x v→s.heap.IsSliceOf sl vl vu .none→IsPart vl lo→IsPart vu hi→r x lo hi H Q →
  ∃T id,typeLookup (.type T) "__getitem__" = pure (some (.builtin id))∧s.TypeIs v T∧wpAny (model X.prog X.w) X.A (getItem v (.ref sl)) (EP X pins σ Q) X.xe s
def tSl(r:V→Option Int→Option Int→Hp→VK→Prop)(te:TE)(tl th:TO):TE:=fun σ H Q=>te σ H fun x H1=>tl σ H1 fun l H2=>th σ H2 fun u H3=>r x l u H3 Q
theorem a7p{r:V→Option Int→Option Int→Hp→VK→Prop}(hr:SlR X r)(he:PE X e te)(hl:PO X lo tl)(hu:PO X hi th):PE X (.Subscript e (.Slice lo hi none p2) pos) (tSl r te tl th):=by
 intro pins s σ H Q I h
 refine Subscript_ (l3 (he pins s σ H _ I h) fun v s1 ⟨x,H1,I1,r1,q1⟩=>?_)
 refine wpAny_Slice (l3 (hl pins s1 σ H1 _ I1 q1) fun vl s2 ⟨l,H2,I2,pl,q2⟩=>l3 (hu pins s2 σ H2 _ I2 q2) fun vu s3 ⟨u,H3,I3,pu,q3⟩=>?_)
 rw[evalPart_none]
 refine wpAny_pure ?_
 have I4:Inv X pins σ H3 { s3 with heap:=s3.heap.push { cls:=.type "slice",data:=.fields #[vl,vu,.none] } }:=I3.kept (t':=s3.toks) fun b ob q=>Heap.get?_push_of_some _ q
 obtain⟨T,id,hT,ht,hg⟩:=hr pins { s3 with heap:=s3.heap.push { cls:=.type "slice",data:=.fields #[vl,vu,.none] } } σ H3 x v vl vu l u s3.heap.objs.size Q I4 r1 (Heap.IsSliceOf.new ..) pl pu q3
 show wpAny (model X.prog X.w) X.A (subscriptTail e (.Slice lo hi none p2) v (.ref s3.heap.objs.size)) (EP X pins σ Q) X.xe { s3 with heap:=s3.heap.push { cls:=.type "slice",data:=.fields #[vl,vu,.none] } }
 exact tail_any (ops:=[.ref s3.heap.objs.size,v]) ht hT hg (by with_unfolding_all rfl)
def a1i(xs:List V)(lo hi:Option Int):List V:=(xs.drop (HT.sIx xs.length 0 lo)).take (HT.sIx xs.length xs.length hi-HT.sIx xs.length 0 lo)
theorem a4q(xs:List V)(lo hi:Option Int):(a1i xs lo hi).length≤xs.length:=by
 unfold a1i
 rw[List.length_take,List.length_drop]
 omega
def b13(K:W.Frag):V→Option Int→Option Int→Hp→VK→Prop:=fun x lo hi H Q=>∃a xs,x=.ref a∧SqT K H a xs ∧
 ¬(HT.sIx xs.length 0 lo=0∧HT.sIx xs.length xs.length hi=xs.length)∧∀p,H p=none→Q (.ref p) (upd H p (.tup (a1i xs lo hi)))
theorem b5j:SlR X (b13 X.K):=by
 intro pins s σ H x v vl vu lo hi sl Q I rx hs pl pu h
 obtain⟨a,xs,rfl,hx,hw,q⟩:=h
 cases rx
 obtain⟨its,r,ht,hz⟩:=I.tuple hx
 have hlen:its.toArray.size=xs.length:=by rw[List.size_toArray];exact r.length.symm
 refine⟨"tuple",_,PyProof.Rows.slot_tuple_getitem.lookup,ht.typeIs,?_⟩
 refine HT.getItem_tuple_cut ht hs pl pu (by rw[hlen];exact hw) ?_ (by rw[hlen];exact hz)
 rw[hlen]
 refine⟨.ref s.heap.objs.size,_,I.laid (t':=s.toks) (o:=.tup (a1i xs lo hi)) (fun b ob q=>Heap.get?_push_of_some _ q) (Nat.le_refl _) ?_,rfl,q _ (I.hok.fresh (Nat.le_refl _))⟩
 exact⟨Nat.le_trans (a4q xs lo hi) hz,_,(r.drop (HT.sIx xs.length 0 lo)).take (HT.sIx xs.length xs.length hi-HT.sIx xs.length 0 lo),IsTup.new _ _⟩
def a9T(K:W.Frag):R2:=fun x y H Q=>∃a b xs ys,x=.ref a∧y=.ref b∧SqT K H a xs∧SqT K H b ys∧xs≠[]∧xs.length+ys.length≤sizeLine ∧
 (ys=[]→Q (.ref a) H)∧(ys≠[]→∀p,H p=none→Q (.ref p) (upd H p (.tup (xs++ys))))
theorem Vals.nil_iff{xs:List V}{us:List Value}(r:Vals xs us):us=[]↔xs=[]:=by
 cases r with
 | nil=>simp
 | cons _ _=>simp
theorem b3V:G4 X (binaryOp .Add) (a9T X.K):=by
 intro pins s σ H x y v u Q I rx ry h
 obtain⟨a,b,xs,ys,rfl,rfl,ha,hb,hx,hz,q1,q2⟩:=h
 cases rx
 cases ry
 obtain⟨its,r1,p1,_⟩:=I.tuple ha
 obtain⟨its2,r2,p2,_⟩:=I.tuple hb
 refine HT.cat_tup p1 p2 (fun z=>hx (r1.nil_iff.mp z)) (fun z=>⟨.ref a,H,I,rfl,q1 (r2.nil_iff.mp z)⟩) (fun z=>?_) (by rw[← r1.length,← r2.length];exact hz)
 refine⟨.ref s.heap.objs.size,_,I.laid (t':=s.toks) (o:=.tup (xs++ys)) (fun b ob q=>Heap.get?_push_of_some _ q) (Nat.le_refl _) ?_,rfl,q2 (fun w=>z (r2.nil_iff.mpr w)) _ (I.hok.fresh (Nat.le_refl _))⟩
 exact⟨by rw[List.length_append];exact hz,_,r1.append r2,IsTup.new _ _⟩
end
def ixN(n:Nat)(i:Int):Option Nat:=if 0≤i then(if i<n then some i.toNat else none)else if -(n:Int)≤i then some (i+n).toNat else none
def atI{α:Type}(xs:List α)(i:Int):Option α:=(ixN xs.length i).bind fun j=>xs[j]?
theorem b3W{n:Nat}{i:Int}{j:Nat}(h:ixN n i=some j):seqIndex? i n=some j∧j<n∧-(n:Int)≤i∧i<n:=by
 unfold ixN at h
 by_cases h0:0≤i
 ·rw[if_pos h0]at h
  by_cases h1:i<n
  ·rw[if_pos h1]at h
   have e:i.toNat=j:=Option.some.inj h
   exact⟨by rw[seqIndex_of h0 h1,e],by omega,by omega,h1⟩
  ·rw[if_neg h1]at h;cases h
 ·rw[if_neg h0]at h
  by_cases h1 : -(n:Int)≤i
  ·rw[if_pos h1]at h
   have e:(i+n).toNat=j:=Option.some.inj h
   exact⟨by rw[seqIndex_neg (by omega) h1,e],by omega,h1,by omega⟩
  ·rw[if_neg h1]at h;cases h
theorem a84{α:Type}{xs:List α}{i:Int}{v:α}(h:atI xs i=some v):∃j,seqIndex? i xs.length=some j∧xs[j]? = some v∧j<xs.length∧-(xs.length:Int)≤i∧i<xs.length:=by
 unfold atI at h
 cases e:ixN xs.length i with
 | none=>rw[e]at h;cases h
 | some j =>
  rw[e]at h
  obtain⟨h1,h2,h3,h4⟩:=b3W e
  exact⟨j,h1,h,h2,h3,h4⟩
def b3X(b:Expr):Prop:=∀o i,subscripted b false o i=operate [o,i] (getItem o i)
def IxR(X:Cx)(r:R2):Prop :=
 ∀(value slice:Expr) (pins:List (Addr×Obj)) (s:Shared) (σ:St) (H:Hp) (x y:V) (v u:Value) (Q:VK),Inv X pins σ H s→RelV x v→RelV y u→r x y H Q →
  subscripted slice false v u=operate [v,u] (getItem v u)→wpAny (model X.prog X.w) X.A (subscriptTail value slice v u) (EP X pins σ Q) X.xe s
def MtR(X:Cx)(id:String)(r:V→List V→Hp→VK→Prop):Prop :=
 ∀(pins:List (Addr×Obj)) (s:Shared) (σ:St) (H:Hp) (x:V) (xs:List V) (v:Value) (us:List Value) (Q:VK),Inv X pins σ H s→RelV x v→Vals xs us→r x xs H Q →
  wpAny (model X.prog X.w) X.A (call (.builtin id) (v::us)) (EP X pins σ Q) X.xe s
section
variable {X:Cx}{a b:Expr}{ta tb:TE}{pos:Pos}
theorem i9{r:R2}(hr:IxR X r)(ha:PE X a ta)(hb:PE X b tb)(hs:b3X b):PE X (.Subscript a b pos) (tOp r ta tb):=by
 intro pins s σ H Q I h
 exact Subscript_ (b11 ha hb I h fun v u s2 x y H2 I2 rx ry q=>hr a b pins s2 σ H2 x y v u Q I2 rx ry q (hs _ _))
def b14(K:W.Frag):R2:=fun x y H Q=>∃p xs i v,x=.ref p∧y=.int i∧SqL K H p xs∧atI xs i=some v∧Q v H
def b15(K:W.Frag):R2:=fun x y H Q=>∃p xs i v,x=.ref p∧y=.int i∧SqT K H p xs∧atI xs i=some v∧Q v H
theorem b3Y:IxR X (b14 X.K):=by
 intro value slice pins s σ H x y v u Q I rx ry h hs
 obtain⟨p,xs,i,z,rfl,rfl,hq,he,q⟩:=h
 cases rx
 obtain⟨t,rfl⟩:=ry
 obtain⟨its,r,pl,hz⟩:=I.list hq
 obtain⟨j,h1,h2,h3,h4,h5⟩:=a84 he
 obtain⟨w,ew,rw'⟩:=r.get h2
 have hl:=r.length
 have hn:=a25
 have fin:EP X pins σ Q w s:=⟨z,H,I,rw',q⟩
 by_cases h0:0≤i
 ·have hj:i.toNat=j:=by
   rw[seqIndex_of h0 h5]at h1
   exact Option.some.inj h1
  exact item_listR pl.isList h0 (by omega) (by rw[hj];simpa using ew) fin hs
 ·have hj:(i+(its.toArray.size:Int)).toNat=j:=by
   rw[seqIndex_neg (by omega) h4]at h1
   rw[List.size_toArray,← hl]
   exact Option.some.inj h1
  exact subscriptTail_builtinR (x:=w) pl.isList.typeIs slot_list_getitem.lookup
   (wpAny_getItem_list_neg (Q:=fun r s'=>r=w∧EP X pins σ Q r s') pl.isList (by omega) (by rw[List.size_toArray]<;>omega) (by omega) (by rw[hj];simpa using ew) ⟨rfl,fin⟩) hs
theorem b5k:IxR X (b15 X.K):=by
 intro value slice pins s σ H x y v u Q I rx ry h hs
 obtain⟨p,xs,i,z,rfl,rfl,hq,he,q⟩:=h
 cases rx
 obtain⟨t,rfl⟩:=ry
 obtain⟨its,r,pl,hz⟩:=I.tuple hq
 obtain⟨j,h1,h2,h3,h4,h5⟩:=a84 he
 obtain⟨w,ew,rw'⟩:=r.get h2
 have hl:=r.length
 have hn:=a25
 have fin:EP X pins σ Q w s:=⟨z,H,I,rw',q⟩
 exact subscriptTail_builtinR (x:=w) pl.typeIs slot_tuple_getitem.lookup
  (getItem_tuple (j:=j) (Q:=fun r s'=>r=w∧EP X pins σ Q r s') pl (by omega) (by omega) (by rw[List.size_toArray,← hl];exact h1) (by simpa using ew) ⟨rfl,fin⟩) hs
theorem Inv.lst{pins:List (Addr×Obj)}{σ:St}{H:Hp}{s:Shared}{p:Addr}{xs:List V}(I:Inv X pins σ H s)(h:H p=some (.lst xs)) :
  ∃(its:List Value) (n:Nat),Vals xs its∧s.heap.get? p=some { cls:=.type "list",data:=.seq its.toArray n }∧xs.length≤sizeLine:=by
 obtain⟨z,its,n,r,e⟩:=I.hok p _ h
 exact⟨its,n,r,e,z⟩
theorem a7q(lo hi:Option Int)(n:Nat):(sliceBounds lo hi none n).1=((HT.sIx n 0 lo:Nat):Int)∧(sliceBounds lo hi none n).2.1=((HT.sIx n n hi:Nat):Int)∧(sliceBounds lo hi none n).2.2=1:=by
 refine⟨?_,?_,rfl⟩
 ·cases lo with
  | none=>simp[sliceBounds,HT.sIx]
  | some i =>
   simp only[sliceBounds,HT.sIx,Option.getD_none,show(1:Int) > 0 by decide,if_true]
   by_cases h:i<0
   ·simp only[h,if_true]<;>omega
   ·simp only[h,if_false]<;>omega
 ·cases hi with
  | none=>simp[sliceBounds,HT.sIx]
  | some i =>
   simp only[sliceBounds,HT.sIx,Option.getD_none,show(1:Int) > 0 by decide,if_true]
   by_cases h:i<0
   ·simp only[h,if_true]<;>omega
   ·simp only[h,if_false]<;>omega
theorem a66(its:List Value)(lo hi:Option Int):slicePick its.toArray lo hi none=((its.drop (HT.sIx its.length 0 lo)).take (HT.sIx its.length its.length hi-HT.sIx its.length 0 lo)).toArray:=by
 obtain⟨h1,h2,h3⟩:=a7q lo hi its.toArray.size
 unfold slicePick
 rw[h1,h2,h3]
 simp only[sliceRange_one,pick_run,List.size_toArray]<;>rfl
def b16(K:W.Frag):V→Option Int→Option Int→Hp→VK→Prop:=fun x lo hi H Q=>∃a xs,x=.ref a∧SqL K H a xs∧∀p,H p=none→Q (.ref p) (upd H p (.lst (a1i xs lo hi)))
theorem b3Z:SlR X (b16 X.K):=by
 intro pins s σ H x v vl vu lo hi sl Q I rx hs pl pu h
 obtain⟨a,xs,rfl,hx,q⟩:=h
 cases rx
 obtain⟨its,r,ht,hz⟩:=I.list hx
 have hlen:=r.length
 refine⟨"list",_,slot_list_getitem.lookup,ht.isList.typeIs,?_⟩
 refine wpAny_getItem_list_slice ht.isList hs pl pu .none (by simp) ?_ (by rw[List.size_toArray]<;>omega)
 rw[a66,← hlen]
 refine⟨.ref s.heap.objs.size,_,I.laid (t':=s.toks) (o:=.lst (a1i xs lo hi)) (fun b ob q=>Heap.get?_push_of_some _ q) (Nat.le_refl _) ?_,rfl,q _ (I.hok.fresh (Nat.le_refl _))⟩
 exact⟨Nat.le_trans (a4q xs lo hi) hz,_,0,(r.drop (HT.sIx xs.length 0 lo)).take (HT.sIx xs.length xs.length hi-HT.sIx xs.length 0 lo),Heap.get?_push_size _ rfl⟩
def W4:V→Bool
 | .non=>true
 | .bl _=>true
 | .int _=>true
 | .str _=>true
 | _=>false
def eqV:V→V→Bool
 | .non,.non=>true
 | .bl a,.bl b=>a == b
 | .bl a,.int b=>(if a then 1 else 0) == b
 | .int a,.bl b=>a == (if b then 1 else 0)
 | .int a,.int b=>a == b
 | .str a,.str b=>a == b
 | _,_=>false
theorem b0K{A:Around}{s:Shared}{y x:V}{u v:Value}(ry:RelV y u)(rx:RelV x v)(fy:W4 y=true)(fx:W4 x=true):SeqAt.EqAt A s u v (eqV y x):=by
 cases y with
 | non =>
  cases ry
  cases x with
  | non=>cases rx;exact SeqAt.EqAt.same _
  | bl b=>cases rx;exact SeqAt.EqAt.none_bool b
  | int b=>obtain⟨t,rfl⟩:=rx;exact SeqAt.EqAt.none_int b t
  | str b=>obtain⟨t,rfl⟩:=rx;exact SeqAt.EqAt.none_str b t
  | _=>exact absurd (show false=true from fx) Bool.false_ne_true
 | bl a =>
  cases ry
  cases x with
  | non=>cases rx;exact SeqAt.EqAt.bool_none a
  | bl b=>cases rx;exact SeqAt.EqAt.bool_bool a b
  | int b=>obtain⟨t,rfl⟩:=rx;exact SeqAt.EqAt.bool_int a b t
  | str b=>obtain⟨t,rfl⟩:=rx;exact SeqAt.EqAt.bool_str a b t
  | _=>exact absurd (show false=true from fx) Bool.false_ne_true
 | int a =>
  obtain⟨t',rfl⟩:=ry
  cases x with
  | non=>cases rx;exact SeqAt.EqAt.int_none a t'
  | bl b=>cases rx;exact SeqAt.EqAt.int_bool a t' b
  | int b=>obtain⟨t,rfl⟩:=rx;exact SeqAt.EqAt.int_int a t' b t
  | str b=>obtain⟨t,rfl⟩:=rx;exact SeqAt.EqAt.int_str a t' b t
  | _=>exact absurd (show false=true from fx) Bool.false_ne_true
 | str a =>
  obtain⟨t',rfl⟩:=ry
  cases x with
  | non=>cases rx;exact SeqAt.EqAt.str_none a t'
  | bl b=>cases rx;exact SeqAt.EqAt.str_bool a t' b
  | int b=>obtain⟨t,rfl⟩:=rx;exact SeqAt.EqAt.str_int a t' b t
  | str b=>obtain⟨t,rfl⟩:=rx;exact SeqAt.EqAt.str_str a t' b t
  | _=>exact absurd (show false=true from fx) Bool.false_ne_true
 | _=>exact absurd (show false=true from fy) Bool.false_ne_true
def eqU(x:V)(u:Value):Bool:=match u with
 | .none=>eqV .non x
 | .bool b=>eqV (.bl b) x
 | .int i _=>eqV (.int i) x
 | .str z _=>eqV (.str z) x
 | _=>false
theorem b0L{x y:V}{u:Value}(r:RelV y u)(f:W4 y=true):eqU x u=eqV y x:=by
 cases y with
 | non=>cases r;rfl
 | bl b=>cases r;rfl
 | int i=>obtain⟨t,rfl⟩:=r;rfl
 | str z=>obtain⟨t,rfl⟩:=r;rfl
 | _=>exact absurd (show false=true from f) Bool.false_ne_true
theorem a6a{x:V}:∀{xs:List V} {us:List Value},Vals xs us→xs.all W4=true→us.any (eqU x)=xs.any fun y=>eqV y x
 | _,_,.nil,_=>rfl
 | y::xs,u::us,.cons r t,f=>by
  rw[List.all_cons,Bool.and_eq_true]at f
  rw[List.any_cons,List.any_cons,b0L r f.1,a6a t f.2]
theorem a4I{A:Around}{s:Shared}{x:V}{v:Value}(rx:RelV x v)(fx:W4 x=true):∀{xs:List V} {us:List Value},Vals xs us→xs.all W4=true→∀u∈us,SeqAt.EqAt A s u v (eqU x u)
 | _,_,.nil,_=>fun u hu=>by cases hu
 | y::xs,u::us,.cons r t,f=>fun u' hu=>by
  rw[List.all_cons,Bool.and_eq_true]at f
  rcases List.mem_cons.mp hu with rfl | hu
  ·rw[b0L r f.1];exact b0K r rx f.1 fx
  ·exact a4I rx fx t f.2 u' hu
def inV(x:V)(xs:List V):Bool:=xs.any fun y=>eqV y x
def rIn(K:W.Frag)(neg:Bool):R2:=fun x y H Q=>∃p xs,y=.ref p∧(SqL K H p xs∨SqT K H p xs)∧W4 x=true∧xs.all W4=true∧Q (.bl (if neg then !inV x xs else inV x xs)) H
theorem b0M:G4 X (compareOp .In) (rIn X.K false):=by
 intro pins s σ H x y v u Q I rx ry h
 obtain⟨p,xs,rfl,hq,fx,fs,q⟩:=h
 cases ry
 rcases hq with hq | hq
 ·obtain⟨its,r,pl,hz⟩:=I.list hq
  refine SeqAt.in_listAt (eqU x) pl.isList (fun w hw=>a4I rx fx r fs w (by simpa using hw)) ⟨.bl _,H,I,rfl,?_⟩
  rw[show its.toArray.any (eqU x)=its.any (eqU x) by simp,a6a r fs]
  exact q
 ·obtain⟨its,r,pl,hz⟩:=I.tuple hq
  refine SeqAt.in_tupleAt (eqU x) pl (fun w hw=>a4I rx fx r fs w (by simpa using hw)) ⟨.bl _,H,I,rfl,?_⟩
  rw[show its.toArray.any (eqU x)=its.any (eqU x) by simp,a6a r fs]
  exact q
theorem a7r:P4 X (.builtin "len") (fun xs H Q=>∃p ys,xs=[.ref p]∧(SqL X.K H p ys∨SqT X.K H p ys)∧Q (.int ys.length) H):=by
 intro pins s σ H xs us Q I r h
 obtain⟨p,ys,rfl,hq,q⟩:=h
 obtain⟨u,rfl,rx⟩:=a7g r
 cases rx
 have hn:=a25
 rcases hq with hq | hq
 ·obtain⟨its,r',pl,hz⟩:=I.list hq
  have hlen:=r'.length
  exact Calls.call_len_list pl.isList (by simp only[List.size_toArray]<;>omega) ⟨.int ys.length,H,I.tok _,⟨s.toks+1,by rw[List.size_toArray,hlen]⟩,q⟩
 ·obtain⟨its,r',pl,hz⟩:=I.tuple hq
  have hlen:=r'.length
  exact len_tuple pl (by simp only[List.size_toArray]<;>omega) ⟨.int ys.length,H,I.tok _,⟨s.toks+1,by rw[List.size_toArray,hlen]⟩,q⟩
theorem a7s:P4 X (.type "list") (fun xs H Q=>∃p ys,xs=[.ref p]∧(SqL X.K H p ys∨SqT X.K H p ys)∧∀l,H l=none→Q (.ref l) (upd H l (.lst ys))):=by
 intro pins s σ H xs us Q I r h
 obtain⟨p,ys,rfl,hq,q⟩:=h
 obtain⟨u,rfl,rx⟩:=a7g r
 cases rx
 have fin:∀(its:List Value),Vals ys its→ys.length≤sizeLine→∀(h':Heap) (c':Nat),(∀b o',s.heap.get? b=some o'→h'.get? b=some o') →
   h'.get? s.heap.objs.size=some { cls:=.type "list",dict:=none,data:=.seq its.toArray c',slots := #[] }→EP X pins σ Q (.ref s.heap.objs.size) { s with heap:=h' }:=fun its r' hz h' c' kp e =>
  ⟨.ref s.heap.objs.size,_,I.laid (t':=s.toks) kp (Nat.le_refl _) (show ObjOk X.prog X.w _ h' _ (.lst ys)from⟨hz,its,c',r',e⟩),rfl,q _ (I.hok.fresh (Nat.le_refl _))⟩
 rcases hq with hq | hq
 ·obtain⟨its,r',pl,hz⟩:=I.list hq
  have hlen:=r'.length
  obtain⟨o,ho,hc,n,hd⟩:=pl.isList
  exact call_list_seq p (.inl rfl) ho hc hd (fun h' c' kp e=>fin its r' hz h' c' kp e) (by simp only[List.size_toArray]<;>omega)
 ·obtain⟨its,r',pl,hz⟩:=I.tuple hq
  have hlen:=r'.length
  obtain⟨o,ho,hc,n,hd⟩:=pl
  exact call_list_seq p (.inr rfl) ho hc hd (fun h' c' kp e=>fin its r' hz h' c' kp e) (by simp only[List.size_toArray]<;>omega)
def tyV(K:W.Frag)(T:String)(x:V)(H:Hp):Prop:=match x with
 | .str _=>T = "str"
 | .int _=>T = "int"
 | .ref p=>(T = "list"∧∃xs,SqL K H p xs)∨(T = "tuple"∧∃o,K.lookup p=some o∧o.cls=.type "tuple"∧o.dict=none) ∨
   (T = "dict"∧((∃kvs,H p=some (.dK kvs))∨∃kvs,H p=some (.dT kvs)))∨(T = "set"∧∃S n,H p=some (.set S n))
 | _=>False
theorem b0N{pins:List (Addr×Obj)}{σ:St}{H:Hp}{s:Shared}{T:String}{x:V}{v:Value}(I:Inv X pins σ H s)(r:RelV x v)(ty:tyV X.K T x H) :
  s.TypeIs v T∧∀a,v=.ref a→∃ob,s.heap.get? a=some ob∧ob.dict=none:=by
 cases x with
 | str z =>
  obtain⟨t,rfl⟩:=r
  cases (show T = "str" from ty)
  exact⟨typeIs_str s z t,fun _ e=>nomatch e⟩
 | int i =>
  obtain⟨t,rfl⟩:=r
  cases (show T = "int" from ty)
  exact⟨typeIs_int s i t,fun _ e=>nomatch e⟩
 | ref p =>
  cases r
  rcases ty with⟨rfl,xs,hq⟩ | ⟨rfl,o,hk,hc,hd⟩ | ⟨rfl,hk⟩ | ⟨rfl,S,n,hk⟩
  ·obtain⟨its,_,pl,_⟩:=I.list hq
   refine⟨pl.isList.typeIs,fun a e=>?_⟩
   cases e
   obtain⟨o,n,e,c,hd,_⟩:=pl
   exact⟨o,e,hd⟩
  ·refine⟨⟨o,I.kIn p o hk,hc⟩,fun a e=>?_⟩
   cases e
   exact⟨o,I.kIn _ o hk,hd⟩
  ·have z:∃o,s.heap.get? p=some o∧o.ExactDict:=by
    rcases hk with⟨kvs,hk⟩ | ⟨kvs,hk⟩
    ·obtain⟨_,_,_,_,o,_,_,e,ex,_⟩:=I.hok p _ hk
     exact⟨o,e,ex⟩
    ·obtain⟨_,_,_,_,o,_,_,e,ex,_⟩:=I.hok p _ hk
     exact⟨o,e,ex⟩
   obtain⟨o,e,ex⟩:=z
   refine⟨⟨o,e,ex.1⟩,fun a e2=>?_⟩
   cases e2
   exact⟨o,e,ex.2.1⟩
  ·obtain⟨o,_,_,_,e,ex,_⟩:=I.hok p _ hk
   refine⟨⟨o,e,ex.1⟩,fun a e2=>?_⟩
   cases e2
   exact⟨o,e,ex.2.1⟩
 | _=>exact False.elim ty
def b17(K:W.Frag)(T:String)(r:V→List V→Hp→VK→Prop)(to:TE):TE:=fun σ H Q=>to σ H fun x H1=>tyV K T x H1∧r x [] H1 Q
def tBM(K:W.Frag)(T:String)(r:V→List V→Hp→VK→Prop)(to:TE)(t:TA):TE:=fun σ H Q=>to σ H fun x H1=>tyV K T x H1∧t σ H1 fun xs H2=>r x xs H2 Q
variable {o e:Expr}{es:List Expr}{to:TE}{t:TA}{name:Str}{apos cpos:Pos}{T id:String}{r:V→List V→Hp→VK→Prop}
theorem b5o(pa:PlainAttrs T)(slot:Slot T name id)(hty:typeOf (.builtin id)=pure (.type "method_descriptor"))(hm:MtR X id r)(ho:PE X o to)
  (hbase:attributeBase o name X.env (eval o X.env)=eval o X.env:=by rfl) (hline:(apos.endLine == cpos.line)=true:=by rfl):PE X (.Call (.Attribute o name apos) [] [] cpos) (b17 X.K T r to):=by
 intro pins s σ H Q I h
 refine wpAny_Call_method0_late hbase hline (l3 (ho pins s σ H _ I h) fun v s1 ⟨x,H1,I1,r1,ty,q1⟩=>?_)
 obtain⟨h1,h2⟩:=b0N I1 r1 ty
 exact⟨T,id,pa,slot,hty,h1,h2,Calls.callWith_builtin rfl (PySem.evalArgs_none (hm pins s1 σ H1 x [] v [] Q I1 r1 .nil q1))⟩
theorem b6o(pa:PlainAttrs T)(slot:Slot T name id)(hty:typeOf (.builtin id)=pure (.type "method_descriptor"))(hm:MtR X id r)(ho:PE X o to)(ha:PA X (e::es) t)
  (hbase:attributeBase o name X.env (eval o X.env)=eval o X.env:=by rfl)
  (hfew:((backTo cpos (starEach (e::es) X.env)).all (fun x=>!x.1) && (backToKw cpos (keywordEach [] X.env)).all (fun x=>x.1.isSome)
   && decide ((e::es).length+([]:List Keyword).length+(if([]:List Keyword).isEmpty then 0 else 1)<30))=true:=by rfl)
  (hline:(apos.endLine == cpos.line)=true:=by rfl) (hs:starEach (e::es) X.env=(false,eval e X.env)::starEach es X.env:=by rfl) (hplain:(backTo cpos (starEach es X.env)).any (·.1)=false:=by rfl) :
  PE X (.Call (.Attribute o name apos) (e::es) [] cpos) (tBM X.K T r to t):=by
 intro pins s σ H Q I h
 refine wpAny_Call_method_late hbase hfew hline rfl (l3 (ho pins s σ H _ I h) fun v s1 ⟨x,H1,I1,r1,ty,q1⟩=>?_)
 obtain⟨h1,h2⟩:=b0N I1 r1 ty
 refine⟨T,id,pa,slot,hty,h1,h2,?_⟩
 have hA:=ha cpos pins s1 σ H1 _ I1 q1
 rw[hs]at hA ⊢
 refine Calls.callWith_builtin (by show(false || (backTo cpos (starEach es X.env)).any (·.1))=false;rw[hplain]<;>rfl) (Calls.evalArgs_plain ?_)
 exact l3 hA fun us s2 ⟨vs,H2,I2,r2,q2⟩=>hm pins s2 σ H2 x vs v us Q I2 r1 r2 q2
end
def MtM(X:Cx)(id:String)(r:V→List V→Hp→VK→Prop):Prop :=
 ∀(pins:List (Addr×Obj)) (s:Shared) (σ:St) (H:Hp) (x:V) (xs:List V) (v:Value) (us:List Value) (Q:VK),Inv X pins σ H s→RelV x v→Vals xs us→r x xs H Q →
  wpAny (model X.prog X.w) X.A (call (.builtin id) (v::us)) (EP X pins σ Q) X.xe s
theorem Vals.one:∀{x:V} {us:List Value},Vals [x] us→∃u,us=[u]∧RelV x u
 | _,_,.cons r .nil=>⟨_,rfl,r⟩
theorem Vals.two:∀{x y:V} {us:List Value},Vals [x,y] us→∃u v,us=[u,v]∧RelV x u∧RelV y v
 | _,_,_,.cons r (.cons q .nil)=>⟨_,_,rfl,r,q⟩
theorem Vals.zero:∀{us:List Value},Vals [] us→us=[]
 | _,.nil=>rfl
theorem Vals.dropLast{xs:List V}{us:List Value}(h:Vals xs us):Vals xs.dropLast us.dropLast:=by
 induction h with
 | nil=>exact .nil
 | cons r t ih =>
  cases t with
  | nil=>exact .nil
  | cons q t'=>exact .cons r ih
theorem Vals.eraseIdx:∀{xs:List V} {us:List Value} (i:Nat),Vals xs us→Vals (xs.eraseIdx i) (us.eraseIdx i)
 | _,_,_,.nil=>.nil
 | _,_,0,.cons _ t=>t
 | _,_,i+1,.cons r t=>.cons r (Vals.eraseIdx i t)
theorem Vals.reverse{xs:List V}{us:List Value}(h:Vals xs us):Vals xs.reverse us.reverse:=by
 induction h with
 | nil=>exact .nil
 | cons r t ih=>rw[List.reverse_cons,List.reverse_cons];exact Vals.append ih (.cons r .nil)
theorem a9U{α:Type}(l:List α):l.eraseIdx (l.length-1)=l.dropLast:=by
 induction l with
 | nil=>rfl
 | cons a r ih =>
  cases r with
  | nil=>rfl
  | cons b r =>
   have e:(a::b::r).length-1=((b::r).length-1)+1:=by
    have h1:(a::b::r).length=r.length+2:=rfl
    have h2:(b::r).length=r.length+1:=rfl
    omega
   rw[e,List.eraseIdx_cons_succ,ih]
   all_goals rfl
section
variable {X:Cx}{pins:List (Addr×Obj)}{σ:St}{H:Hp}{s:Shared}{l b:Addr}{xs ys zs:List V}
theorem Inv.lset{its its':List Value}{n:Nat}{f:Array Value→Array Value}{t':Nat}(I:Inv X pins σ H s)(hH:H l=some (.lst xs))
  (e:s.heap.get? l=some { cls:=.type "list",data:=.seq its.toArray n }) (hf:f its.toArray=its'.toArray) (hv:Vals ys its') (hz:ys.length≤sizeLine) :
  Inv X pins σ (upd H l (.lst ys)) { s with heap:=s.heap.update l (Obj.mapSeq f),toks:=t' }:=by
 have q:=PySem.IsL.update e f
 rw[hf]at q
 refine I.write (x:=l) (e:=l) (by rw[hH];exact trivial) (.inl rfl) (fun b' u hb hu=>(Heap.get?_update_other s.heap (Obj.mapSeq f) (Ne.symm hb)).trans hu) ⟨_,q⟩ ?_
 exact⟨hz,its',_,hv,q⟩
theorem Inv.lnew{its:List Value}{t':Nat}(I:Inv X pins σ H s)(hv:Vals ys its)(hz:ys.length≤sizeLine) :
  Inv X pins σ (upd H s.heap.objs.size (.lst ys)) { s with heap:=s.heap.push { cls:=.type "list",data:=.seq its.toArray },toks:=t' } :=
 I.laid (fun _ _ q=>Heap.get?_push_of_some _ q) (Nat.le_refl _) ⟨hz,its,0,hv,Heap.get?_push_size _ rfl⟩
theorem Inv.fresh(I:Inv X pins σ H s):H s.heap.objs.size=none:=I.hok.fresh (Nat.le_refl _)
theorem Inv.lstM(I:Inv X pins σ H s)(hH:H l=some (.lst xs)):xs.length≤sizeLine∧∃(its:List Value) (n:Nat),Vals xs its∧xs.length=its.length∧s.heap.get? l=some { cls:=.type "list",data:=.seq its.toArray n }:=by
 obtain⟨z,its,n,r,e⟩:=I.hok l _ hH
 exact⟨z,its,n,r,r.length,e⟩
end
section
variable {X:Cx}
def a85:V→List V→Hp→VK→Prop:=fun x vs H Q=>∃l xs y,x=.ref l∧vs=[y]∧H l=some (.lst xs)∧xs.length<sizeLine∧Q .non (upd H l (.lst (xs++[y])))
theorem G5:MtM X "list.append" a85:=by
 intro pins s σ H x vs v us Q I rx rv h
 obtain⟨l,xs,y,rfl,rfl,hH,hz,q⟩:=h
 cases rx
 obtain⟨u,rfl,ru⟩:=rv.one
 obtain⟨z,its,n,r,hl,e⟩:=I.lstM hH
 refine call_meets F.slot_list_append ⟨_,e,rfl⟩ F.entry_list_append (F.args_list_append_2 _ _) (PySem.list_append l its.toArray n u (by rw[List.size_toArray];omega)) ⟨e,?_⟩
 refine⟨.non,_,I.lset (its':=its++[u]) hH e (by simp) (r.append (.cons ru .nil)) ?_,rfl,q⟩
 rw[List.length_append,List.length_singleton]
 omega
def b5p:V→List V→Hp→VK→Prop:=fun x vs H Q=>∃l xs y,x=.ref l∧vs=[]∧H l=some (.lst xs)∧xs[xs.length-1]? = some y∧Q y (upd H l (.lst xs.dropLast))
theorem a48:MtM X "list.pop" b5p:=by
 intro pins s σ H x vs v us Q I rx rv h
 obtain⟨l,xs,y,rfl,rfl,hH,hy,q⟩:=h
 cases rx
 have hus:=rv.zero
 subst hus
 obtain⟨z,its,n,r,hl,e⟩:=I.lstM hH
 obtain⟨u,hu,ru⟩:=r.get hy
 have hy':its.toArray[its.toArray.size-1]? = some u:=by
  show its.toArray[its.length-1]? = some u
  rw[← Array.getElem?_toList,← hl]
  exact hu
 refine call_meets F.slot_list_pop ⟨_,e,rfl⟩ F.entry_list_pop (F.args_list_pop_1 _) (MeetsSeq.list_pop_last l its.toArray n u hy' (by rw[List.size_toArray];omega)) ⟨e,?_⟩
 refine⟨y,_,I.lset (its':=its.dropLast) hH e ?_ r.dropLast ?_,ru,q⟩
 ·show its.toArray.eraseIdxIfInBounds (its.toArray.size-1)=its.dropLast.toArray
  rw[List.size_toArray,List.eraseIdxIfInBounds_toArray,a9U]
 ·rw[List.length_dropLast]
  omega
def b5q:R2:=fun x y H Q=>∃l b xs zs,x=.ref l∧y=.ref b∧H l=some (.lst xs)∧H b=some (.lst zs)∧xs.length+zs.length≤sizeLine∧∀p,H p=none→Q (.ref p) (upd H p (.lst (xs++zs)))
theorem b5r:G4 X (binaryOp .Add) b5q:=by
 intro pins s σ H x y v u Q I rx ry h
 obtain⟨l,b,xs,zs,rfl,rfl,hH,hB,hz,q⟩:=h
 cases rx
 cases ry
 obtain⟨z,its,n,r,hl,e⟩:=I.lstM hH
 obtain⟨z2,its2,n2,r2,hl2,e2⟩:=I.lstM hB
 refine PySem.P.add_list e e2 ?_ (by rw[List.size_toArray,List.size_toArray];omega)
 have ea:its.toArray++its2.toArray=(its++its2).toArray:=by simp
 rw[ea]
 exact⟨.ref _,_,I.lnew (t':=s.toks) (r.append r2) (by rw[List.length_append];omega),rfl,q _ I.fresh⟩
end
end L2
namespace Att
open PySem PySem.W PySem.Calls PyProof.Rows
theorem a49{P:Params}{h:Heap}:∀(ns:List Int) (vs:List Value),WellAll P h vs (ns.map WData.int)→IntsAre vs ns:=by
 intro ns
 induction ns with
 | nil =>
  intro vs w
  rw[List.map_nil]at w
  cases w
  exact .nil
 | cons n ns ih =>
  intro vs w
  rw[List.map_cons]at w
  cases w with
  | cons a b =>
   cases a
   exact .cons _ _ (ih _ b)
theorem script_of{l:OpenLaw}{n:Nat}(hn:l.most=some n){P:Params}{h:Heap}{args:List WData}{vals:List Value}
  (hpre:l.row.toRowW.claim.pre args=true) (hwl:WellAll P h vals args) :
  ∃a vs ns,vals=[Value.ref a]∧args=[WData.list (ns.map WData.int)]∧h.get? a=some { cls:=.type "list",data:=.seq vs.toArray }∧IntsAre vs ns∧ns.length≤n:=by
 have hsh:WShape.hasAll [] args [.list .int]=true:=(pre_splitW hpre).1
 have hc:l.pre.holds [] { args:=args }=true:=(pre_splitW hpre).2
 obtain⟨d,r,rfl,h1,h2⟩:=hasAllW_cons hsh
 obtain rfl:=hasAllW_nil h2
 obtain⟨xs,rfl,h3⟩:=hasW_list h1
 obtain⟨ns,rfl⟩:=items_int h3
 have hlen:ns.length≤n:=by
  unfold OpenLaw.pre at hc
  have h4:(WTm.not (.lt (.lit (.int (n:Int))) (.len (.arg 0)))).holds [] { args:=[.list (ns.map .int)] }=true:=by
   have h4:=(holds_andW hc).1
   rw[hn]at h4
   exact h4
  have h5:=condW_of h4 (w_not (w_lt w_lit (w_len_list (w_arg rfl))))
  rw[List.length_map]at h5
  refine Nat.le_of_not_lt fun q=>?_
  have q':(n:Int)<((ns.length:Nat):Int):=by omega
  first
   | (rw[decide_eq_true q']at h5;exact absurd h5 (by decide))
   | (simp at h5;omega)
 cases hwl with
 | cons w1 w2 =>
  cases w2
  cases w1 with
  | list ho hall=>exact⟨_,_,ns,rfl,rfl,ho,a49 ns _ hall,hlen⟩
theorem post_true(l:OpenLaw)(args:List WData):l.row.toRowW.claim.post args (.bool true) args=true :=
 postW_of (r:=l.row.toRowW) (X:=(true == true))
  (show WShape.has [] (.bool true) .bool=true by first | rfl | decide | simp[WShape.has,WShape.arms,WShape.armsAll])
  (show(WTm.eq .res (.lit (.bool true))).value [] { args:=args,res:=some (.bool true),after:=args }=some (.bool (true == true))from w_eq_bool (w_res rfl) w_lit) rfl
end Att
namespace L2
open PySem PySem.Spec PyProof.Rows
theorem a6K:∀{vs:List Value} {ns:List Int},IntsAre vs ns→Vals (ns.map V.int) vs
 | _,_,.nil=>.nil
 | _,_,.cons n t h=>.cons ⟨t,rfl⟩ (a6K h)
def a9V(H:Hp):Prop:=∀b,H b=none∨∃o xs,H b=some (.frz o (.lst xs))
theorem b18{P:Program}{w:World}{K:W.Frag}{mg mb:Str→Option Value}{CX:CXT}{k:Nat}{fa a:Addr}{fd:FuncData}{x:Str}{sp:Sp}{s₁:Shared}{vs:List Value}{ns:List Int}
  (KX:K.In s₁.heap) (hns:s₁.heap.Ns mainGlobals mg) (hb:s₁.heap.Ns builtinsNs mb) (hbb:∀x:Str,x≠"__name__"→mb x=bootBuiltins x) (hlim:s₁.heap.NoLimit) (hg:s₁.gens = #[])
  (ha:s₁.heap.get? a=some { cls:=.type "list",data:=.seq vs.toArray }) (hi:IntsAre vs ns) (hl:ns.length≤sizeLine) (hr:Room k callerA)
  (F:∀base:Heap,K.In base→base.Ns mainGlobals mg→FnOk P w K mg base CX k fa fd [x] sp) (hbind:∀(s:Shared) (u:Value),BindsTo s fd ⟨[u],[]⟩ [(x,u)])
  (hsp:∀H:Hp,a9V H→SqL K H a (ns.map V.int)→sp [.ref a] H (fun v _=>v=.bl true) fun _ _ _=>False)
  (hCX:∀H e s',CX [] H s₁ (fun _ _ _=>False) e s'→False) :
  codeAny (model P w) callerA (.call (.ref fa) ⟨[.ref a],[]⟩) (fun r s'=>r=.ok (.ret (.bool true))∧OldK s₁.heap s'.heap∧s'.os=s₁.os∧AllBare s'.gens) s₁:=by
 have rv:=a6K hi
 have lenV:=hi.length
 -- from an abstract heap in which nothing but the script may be tracked
 have core:∀H:Hp,a9V H→SqL K H a (ns.map V.int)→HOk P w H s₁.heap→(∀b,H b≠none→b=a)→(H a≠none→K.lookup a=none) →
   codeAny (model P w) callerA (.call (.ref fa) ⟨[.ref a],[]⟩) (fun r s'=>r=.ok (.ret (.bool true))∧OldK s₁.heap s'.heap∧s'.os=s₁.os∧AllBare s'.gens) s₁:=by
  intro H hO hS hok hA hK
  have base_of:∀{b:Addr} {o:Obj},s₁.heap.get? b=some o→H b=none→(a2s s₁.heap H).get? b=some o:=fun e n=>b1U e n
  have noA:∀{b:Addr} {o:Obj} {es:Array DictEntry} {ep:Nat},s₁.heap.get? b=some o→o.data=.dict es ep→H b=none:=fun{b o es ep} e d=>by
   cases q:H b with
   | none=>rfl
   | some u =>
    have e':b=a:=hA b (by rw[q];simp)
    subst e'
    rw[ha]at e;cases e
    have d':Data.seq vs.toArray _=Data.dict es ep:=d
    cases d'
  have nsK:∀{b:Addr} {m:Str→Option Value},s₁.heap.Ns b m→(a2s s₁.heap H).Ns b m:=fun{b m} ⟨o,es,ep,e,d,r⟩=>⟨o,es,ep,base_of e (noA e d),d,r⟩
  have hKb:K.In (a2s s₁.heap H):=fun b o e=>base_of (KX b o e) (by
   cases q:H b with
   | none=>rfl
   | some u =>
    have e':b=a:=hA b (by rw[q];simp)
    subst e'
    rw[hK (by rw[q];simp)]at e;cases e)
  have hM:Mod K mg (a2s s₁.heap H):=⟨hKb,nsK hns,⟨mb,nsK hb,hbb⟩,let ⟨mc,h1,h2⟩:=hlim; ⟨mc,nsK h1,h2⟩⟩
  have e0:Env0 P w K mg (a2s s₁.heap H) callerA [] s₁ H:=⟨rfl,hM,fun b o e=>b3O e,Nat.le_of_eq (b0w _ _),trivial,fun b hb=>absurd (show b∈([]:List Addr)from hb) (by simp),hok,.of_eq hg⟩
  refine codeAny_mono ((F _ hKb (nsK hns)).run callerA [] s₁ H ⟨[.ref a],[]⟩ [.ref a] [.ref a] _ _ hr e0 (hbind s₁ (.ref a)) (.cons rfl .nil) (hsp H hO hS)) fun r s' h=>?_
  cases r with
  | error e=>exact(hCX H e s' h).elim
  | ok fl =>
   cases fl with
   | next=>exact False.elim h
   | brk=>exact False.elim h
   | cont=>exact False.elim h
   | ret u =>
    obtain⟨v,H',os,bare,un,hok',r',q⟩:=h
    have q':v=.bl true:=q
    subst q'
    obtain rfl:u=Value.bool true:=r'
    refine⟨rfl,OldK.of_keep fun b o e=>?_,os,bare⟩
    cases q:H b with
    | none=>exact un.keep b o e q (by intro z;exact absurd (show b∈([]:List Addr)from z) (by simp)) (by simp)
    | some u =>
     rcases hO b with z | ⟨ob,xs,z⟩
     ·rw[q]at z;cases z
     ·have z2:=un.frzs b ob _ z
      obtain⟨e1,_⟩:=hok b _ z
      obtain⟨e2,_⟩:=hok' b _ z2
      rw[e]at e1;cases e1
      exact e2
 cases hk:K.lookup a with
 | some o =>
  -- the script is one of the module's own objects
  have e:=KX a o hk
  rw[ha]at e
  cases e
  refine core (fun _=>none) (fun _=>.inl rfl) (.inr ⟨_,vs.toArray,_,hk,rfl,rfl,rfl,by rw[List.size_toArray,lenV];exact hl,by simpa using rv⟩) (fun b u z=>by have z':(none:Option HO)=some u:=z;cases z') (fun b z=>absurd rfl z) fun z=>absurd rfl z
 | none =>
  refine core (fun b=>if b=a then some (.frz { cls:=.type "list",data:=.seq vs.toArray } (.lst (ns.map V.int)))else none) (fun b=>?_) (.inl (.inr ⟨{ cls:=.type "list",data:=.seq vs.toArray },if_pos rfl⟩)) (fun b u z=>?_) (fun b z=>?_) fun _=>hk
  ·by_cases hb:b=a
   ·exact .inr ⟨_,_,if_pos hb⟩
   ·exact .inl (if_neg hb)
  ·by_cases hb:b=a
   ·have z':=(if_pos hb).symm.trans z
    cases z'
    subst hb
    exact⟨ha,by rw[List.length_map];exact hl,vs,_,rv,ha⟩
   ·have z':=(if_neg hb).symm.trans z
    cases z'
  ·by_cases hb:b=a
   ·exact hb
   ·exact absurd (if_neg hb) z
def b30(s:Stmt)(j:Nat):Stmt:=match s with
 | .ClassDef _ _ _ body _ _ _ _ _ _ _=>body.getD j (.Pass ⟨0,0,0,0⟩)
 | _=>.Pass ⟨0,0,0,0⟩
def n0(s:Stmt):Arguments:=match s with
 | .FunctionDef _ a _ _ _ _ _ _ _ _=>a
 | _=>{ posonlyargs:=[],args:=[],vararg:=none,kwonlyargs:=[],kw_defaults:=[],kwarg:=none,defaults:=[] }
def k7(s:Stmt):List Stmt:=match s with
 | .FunctionDef _ _ b _ _ _ _ _ _ _=>b
 | _=>[]
def d6(s:Stmt):Scope:=match s with
 | .FunctionDef _ _ _ _ _ _ sc _ _ _=>sc
 | _=>{ kind:=.function,names:=[],isGenerator:=false,isCoroutine:=false }
abbrev CX0:CXT:=fun _ _ _ _ _ _=>False
abbrev E0:XK:=fun _ _ _=>False
structure Fun(K:W.Frag)(x qual:Str)(st:Stmt)(f:Addr)(fd:FuncData):Prop where
 ex:∃(oc:Value) (od:Option Addr) (kV doc pm:Value) (an:Option Addr) (cdv ct:Value) (osl:Array (Option Value)),
  fd=W.fnOf x qual (n0 st) (k7 st) (d6 st) .none kV doc pm an cdv ct∧K.lookup f=some ⟨oc,od,.func fd,osl⟩∧W.codeIn K cdv qual=true
 kp:W.keepIn K (.ref f)=true
section
variable {P:Program}{w:World}{K:W.Frag}{mg:Str→Option Value}{base:Heap}
theorem Fun.ok{x qual:Str}{st:Stmt}{f:Addr}{fd:FuncData}{N ps:List Str}{k:Nat}{sp:Sp}(F:Fun K x qual st f fd)(S:FnScope N ps (d6 st))(len:∀vs H Q E,sp vs H Q E→vs.length=ps.length)
  (hbody:∀(cdv:Value) (A:Around) (outer:List Env) (s:Shared) (H:Hp) (vs:List V) (Q:VK) (E:XK),Room k (A.deeper (envOfC qual (d6 st) s.heap.objs.size f cdv))→sp vs H Q E →
   ∃t,PSs (V3 CX0 P w K mg base N qual (d6 st) f cdv A outer s H E).nox (k7 st) t∧t { nx:=fun _ H'=>Q .non H',rt:=Q } (start N vs) H):FnOk P w K mg base CX0 (k+1) f fd ps sp:=by
 obtain⟨oc,od,kV,doc,pm,an,cdv,ct,osl,rfl,lk,hcd⟩:=F.ex
 refine a9Q lk hcd S len fun A outer s H vs Q E hr hsp=>?_
 obtain⟨t,h,q⟩:=hbody cdv A outer s H vs Q E hr hsp
 exact⟨t,h.nox,q⟩
theorem Fun.binds{x qual:Str}{st:Stmt}{f:Addr}{fd:FuncData}{ps:List Str}(F:Fun K x qual st f fd)
  (h:∀(kV doc pm:Value) (an:Option Addr) (cdv ct:Value) (us:List Value),us.length=ps.length→bindArgs (W.fnOf x qual (n0 st) (k7 st) (d6 st) .none kV doc pm an cdv ct) ⟨us,[]⟩=pure (ps.zip us)):Binds K fd ps []:=by
 obtain⟨oc,od,kV,doc,pm,an,cdv,ct,osl,rfl,lk,hcd⟩:=F.ex
 exact .all (h kV doc pm an cdv ct)
theorem x6{x qual:Str}{st:Stmt}{f:Addr}{oc:Value}{od an:Option Addr}{osl:Array (Option Value)}{kV doc pm cdv ct:Value}(l:K.lookup f=some ⟨oc,od,.func (W.fnOf x qual (n0 st) (k7 st) (d6 st) .none kV doc pm an cdv ct),osl⟩)
  (c:W.codeIn K cdv qual=true) (k:W.keepIn K (.ref f)=true):Fun K x qual st f (W.fnOf x qual (n0 st) (k7 st) (d6 st) .none kV doc pm an cdv ct):=⟨⟨oc,od,kV,doc,pm,an,cdv,ct,osl,rfl,l,c⟩,k⟩
end
section
variable {X:Cx}
theorem pv(i:Nat){x:Str}{pos:Pos}(hN:X.N[i]? = some x:=by rfl)(hv:Vis X.env.scope x:=by first | exact Or.inl rfl | exact Or.inr (Or.inl rfl) | exact Or.inr (Or.inr rfl))(hd:(x == ("__debug__" : Str))=false:=by decide)
  (hcd:(x == ("__classdict__" : Str))=false:=by decide):PE X (.Name x pos) (O4 i):=b42 hN hv hd hcd
end
def Same(H H':Hp):Prop:=∀b o,H b=some o→H' b=some o
theorem Same.refl(H:Hp):Same H H:=fun _ _ h=>h
theorem Same.trans{H H1 H2:Hp}(a:Same H H1)(b:Same H1 H2):Same H H2:=fun c o h=>b c o (a c o h)
theorem Same.free{H H':Hp}(e:Same H H'){l:Addr}(h:H' l=Option.none):H l=Option.none:=by
 cases q:H l with
 | none=>rfl
 | some o =>
  rw[e l o q]at h
  cases h
theorem Same.seq{K:W.Frag}{H H':Hp}{a:Addr}{xs:List V}(e:Same H H')(h:SqL K H a xs):SqL K H' a xs:=by
 rcases h with(h | ⟨o,h⟩) | h
 ·exact .inl (.inl (e _ _ h))
 ·exact .inl (.inr ⟨o,e _ _ h⟩)
 ·exact .inr h
end L2
set_option maxHeartbeats 4000000
namespace L2
open PySem PySem.Spec PyProof.Rows
theorem ObjOk.there{P:Program}{w:World}{H:Hp}{h:Heap}{a:Addr}{o:HO}(x:ObjOk P w H h a o):∃ob,h.get? a=some ob:=by
 cases o with
 | lst xs=>obtain⟨_,_,_,_,e⟩:=x;exact⟨_,e⟩
 | tup xs=>obtain⟨_,_,_,p⟩:=x;obtain⟨o,e,_⟩:=p;exact⟨_,e⟩
 | dK kvs=>obtain⟨_,_,_,_,o,_,_,e,_⟩:=x;exact⟨_,e⟩
 | dT kvs=>obtain⟨_,_,_,_,o,_,_,e,_⟩:=x;exact⟨_,e⟩
 | set S n=>obtain⟨o,_,_,_,e,_⟩:=x;exact⟨_,e⟩
 | ins C dx fs=>obtain⟨_,_,_,e,_⟩:=x;exact⟨_,e⟩
 | own y=>obtain⟨_,e⟩:=x;exact⟨_,e⟩
 | xd fs=>obtain⟨_,⟨_,_,_,e,_⟩,_⟩:=x;exact⟨_,e⟩
 | rng lo hi=>obtain⟨_,_,_,e⟩:=x;exact⟨_,e⟩
 | frz ob u=>obtain⟨e,_⟩:=x;exact⟨_,e⟩
 | tbl ps=>obtain⟨_,e,_⟩:=x;exact⟨_,e⟩
 | met f y=>exact⟨_,(show h.get? a=some _ from x)⟩
 | ext φ=>obtain⟨_,⟨_,e⟩,_⟩:=x;exact⟨_,e⟩
def Imp(X:Cx)(pins:List (Addr×Obj))(H:Hp)(b:Addr):Prop:=H b≠none∨(b ∉ X.ex∧∃o,X.s₀.heap.get? b=some o)∨∃p∈X.pn++pins,p.1=b
def a0m:Option Addr→Value
 | none=>.none
 | some n=>if n%2=0 then .ref (n/2)else .none
def a29:Option Addr→Option Addr
 | none=>none
 | some n=>if n%2=0 then none else some (n/2)
def TrX(h B:Heap)(e:Addr)(cls:Value)(cx:Option Addr)(fl:Value):Prop :=
 ∃oe vs T oT ts,(h.get? e=some oe∧oe.cls=cls∧oe.data=.fields vs∧oe.dict=a29 cx)∧(vs[1]? = some (.ref T)∧vs[2]? = some (a0m cx))∧(B.get? T=none∧T≠e)∧h.get? T=some oT∧oT.data=.fields ts∧ts[3]? = some fl
theorem Obj.dict_mapF(o:Obj)(g:Array Value→Array Value):(Obj.mapFields g o).dict=o.dict:=by
 obtain⟨a,b,c,d⟩:=o
 cases c<;>rfl
theorem a0n(T:Addr):(Value.ref T != Value.none)=true:=by simp
inductive Ph where | new | fly | any
def XTr(B h:Heap)(a:Addr)(cls:Value)(cx:Option Addr):Ph→Prop
 | .new=>∃oe vs,h.get? a=some oe∧oe.cls=cls∧oe.data=.fields vs∧vs[1]? = some .none∧vs[2]? = some (a0m cx)∧oe.dict=a29 cx
 | .fly=>TrX h B a cls cx .none
 | .any=>∃fl,TrX h B a cls cx fl
theorem XTr.there{B h:Heap}{a:Addr}{cls:Value}{cx:Option Addr}{ph:Ph}(x:XTr B h a cls cx ph):∃oe vs,h.get? a=some oe∧oe.cls=cls∧oe.data=.fields vs∧vs[2]? = some (a0m cx)∧oe.dict=a29 cx:=by
 cases ph with
 | new=>obtain⟨oe,vs,h1,h2,h3,_,h4,h5⟩:=x;exact⟨oe,vs,h1,h2,h3,h4,h5⟩
 | fly=>obtain⟨oe,vs,_,_,_,⟨h1,h2,h3,h5⟩,⟨_,h4⟩,_⟩:=x;exact⟨oe,vs,h1,h2,h3,h4,h5⟩
 | any=>obtain⟨_,oe,vs,_,_,_,⟨h1,h2,h3,h5⟩,⟨_,h4⟩,_⟩:=x;exact⟨oe,vs,h1,h2,h3,h4,h5⟩
section
variable {M:Model}{A:Around}{E:Value→Shared→Prop}{s:Shared}
def a4_(B:Heap)(l:List Env)(e:Addr)(cls:Value)(cx:Option Addr)(fl:Value)(h h':Heap):Prop:=B.StaysIn h'∧h'.FunFrames B l∧TrX h' B e cls cx fl∧h.UpToSlots h'
theorem a86{B:Heap}{env:Env}{outer:List Env}{L e:Addr}{oe:Obj}{vs:Array Value}{head:Value}{cx:Option Addr}{nx:Bool}{Q:Unit→Shared→Prop}(fr:A.frames=some (env::outer))(ff:s.heap.FunFrames B (env::outer))(hf:env.frame=some L)
  (ge:s.heap.get? e=some oe) (st:B.StaysIn s.heap) (be:B.get? e=none) (de:oe.data=.fields vs) (z1:1<vs.size) (z2:vs[2]? = some (a0m cx)) (z6:oe.dict=a29 cx) (q:∀h',a4_ B (env::outer) e oe.cls cx (rawInt L) s.heap h'→Q () { s with heap:=h' }) :
  wpAny M A (do let a ← frameOf env;let pl ← entryPlaceOf L nx;let b ← EntryCells.newEntry head a .none (rawInt L) .none pl;setField (.ref e) 1 b) Q E s:=by
 have nf:∀b o,s.heap.get? b=some o→(∀ws,o.data≠.fields ws)→b≠e:=fun b o gb nb zb=>by subst zb;rw[ge]at gb;cases gb;exact nb vs de
 have out:e ∉ (env::outer).filterMap (·.frame):=fun m=>by obtain⟨_,o,go,no⟩:=ff.mem m;exact nf e o go no rfl
 refine wpAny_bind (wpAny_frameOf_fun fr ff hf fun h1 only=>wpAny_bind (wpAny_entryPlaceOf fun pl place=>?_))
 unfold EntryCells.newEntry newFields
 refine wpAny_bind (wpAny_newObj_type ?_ (place.sizeOk5 _ _ _ _ _))
 have ge1:h1.get? e=some oe:=(only.2.1 e out).trans ge
 have st1:B.StaysIn h1:=fun b o gb=>(only.2.1 b fun m=>by have:=(ff.mem m).1;rw[this]at gb;cases gb).trans (st b o gb)
 have ne1:h1.objs.size≠e:=fun z=>absurd (Heap.lt_size ge1) (by rw[z];exact Nat.lt_irrefl _)
 refine wpAny_setField (Heap.get?_push_of_some _ ge1) de z1 (q _ ?_)
 have far:∀{ob:Obj} {g:Obj→Obj} {b:Addr} {o:Obj},b≠e→h1.get? b=some o→((h1.push ob).update e g).get? b=some o:=fun ne gb=>(Heap.get?_update_other _ _ (Ne.symm ne)).trans (Heap.get?_push_of_some _ gb)
 refine⟨fun b o gb=>far (fun z=>by rw[z,be]at gb;cases gb) (st1 b o gb),ff.of_keeps fun b o gb nb=>?_,?_,fun b o gb nb=>?_⟩
 ·obtain⟨sl,g⟩:=only.2.2 b o gb;exact⟨_,far (nf b o gb nb) g,rfl⟩
 ·have dd:=Obj.data_mapFields de (·.setIfInBounds 1 (Value.ref h1.objs.size))
  refine⟨_,_,h1.objs.size,_,_,⟨Heap.get?_update_self _ (Heap.get?_push_of_some _ ge1) (Obj.isFreed_of_fields dd),Obj.cls_mapFields _ _,dd,(Obj.dict_mapF _ _).trans z6⟩,⟨by simp[z1],by rw[Array.getElem?_setIfInBounds_ne (by decide)];exact z2⟩,⟨st1.fresh,ne1⟩,(Heap.get?_update_other _ _ (Ne.symm ne1)).trans (Heap.get?_push_size h1 rfl),rfl,?_⟩
  first | (simp;done) | (rcases place with rfl | ⟨_,_,_,_,_,_,_,rfl⟩<;>simp)
 ·obtain⟨sl,g⟩:=only.2.2 b o gb;exact⟨sl,far (nf b o gb nb) g⟩
theorem a9W{B:Heap}{env:Env}{outer:List Env}{L e:Addr}{oe:Obj}{vs:Array Value}{cx:Option Addr}{Q:Unit→Shared→Prop}(fr:A.frames=some (env::outer))(ff:s.heap.FunFrames B (env::outer))(hf:env.frame=some L)
  (ge:s.heap.get? e=some oe) (st:B.StaysIn s.heap) (be:B.get? e=none) (de:oe.data=.fields vs) (z1:vs[1]? = some .none) (z2:vs[2]? = some (a0m cx)) (z6:oe.dict=a29 cx) (q:∀h',a4_ B (env::outer) e oe.cls cx (rawInt L) s.heap h'→Q () { s with heap:=h' }):wpAny M A (noteFrame (.ref e) env) Q E s:=by
 unfold noteFrame
 simp only[hf]
 refine wpAny_bind (wpAny_field ge de z1 ?_)
 rw[if_neg (by decide)]
 exact a86 fr ff hf ge st be de (Array.getElem?_eq_some_iff.mp z1).1 z2 z6 q
theorem b31{B:Heap}{env:Env}{outer:List Env}{L e:Addr}{cls:Value}{cx:Option Addr}{Q:Unit→Shared→Prop}(fr:A.frames=some (env::outer))(ff:s.heap.FunFrames B (env::outer))(hf:env.frame=some L)
  {fl:Value} (t:TrX s.heap B e cls cx fl) (nl:¬(fl == rawInt L)=true) (st:B.StaysIn s.heap) (be:B.get? e=none) (q:∀h',a4_ B (env::outer) e cls cx (rawInt L) s.heap h'→Q () { s with heap:=h' }):wpAny M A (noteFrame (.ref e) env) Q E s:=by
 obtain⟨oe,vs,T,oT,ts,⟨ge,rfl,de,z6⟩,⟨z1,z2⟩,⟨bT,nT⟩,gT,dT,z3⟩:=t
 unfold noteFrame
 simp only[hf]
 refine wpAny_bind (wpAny_field ge de z1 ?_)
 rw[if_pos (a0n T)]
 refine wpAny_bind (wpAny_field gT dT z3 ?_)
 rw[if_neg nl]
 refine wpAny_bind (wpAny_setField gT dT (Array.getElem?_eq_some_iff.mp z3).1 ?_)
 have far:∀{g:Obj→Obj} b,b≠T→(s.heap.update T g).get? b=s.heap.get? b:=fun b ne=>Heap.get?_update_other _ _ (Ne.symm ne)
 have nf:∀b o,s.heap.get? b=some o→(∀ws,o.data≠.fields ws)→b≠T:=fun b o gb nb zb=>by subst zb;rw[gT]at gb;cases gb;exact nb ts dT
 refine a86 fr (ff.of_keeps fun b o gb nb=>⟨o,(far b (nf b o gb nb)).trans gb,rfl⟩) hf ((far e (Ne.symm nT)).trans ge) (fun b o gb=>(far b fun z=>by rw[z,bT]at gb;cases gb).trans (st b o gb)) be de (Array.getElem?_eq_some_iff.mp z1).1 z2 z6 fun h' x=>q h' ⟨x.1,x.2.1,x.2.2.1,fun b o gb nb=>?_⟩
 exact x.2.2.2 b o ((far b (nf b o gb nb)).trans gb) nb
theorem a9X{B:Heap}{env:Env}{L e:Addr}{cls:Value}{cx:Option Addr}{fl:Value}{Q:Unit→Shared→Prop}(hf:env.frame=some L)(t:TrX s.heap B e cls cx fl)(el:(fl == rawInt L)=true)(q:Q () s):wpAny M A (noteFrame (.ref e) env) Q E s:=by
 obtain⟨oe,vs,T,oT,ts,⟨ge,rfl,de,z6⟩,⟨z1,z2⟩,⟨bT,nT⟩,gT,dT,z3⟩:=t
 unfold noteFrame
 simp only[hf]
 refine wpAny_bind (wpAny_field ge de z1 ?_)
 rw[if_pos (a0n T)]
 refine wpAny_bind (wpAny_field gT dT z3 ?_)
 rw[if_pos el]
 exact wpAny_pure q
theorem a7t{B:Heap}{l:List Env}{e:Addr}{cls fl:Value}{cx fr:Option Addr}{Q:Unit→Shared→Prop}(st:B.StaysIn s.heap)(ff:s.heap.FunFrames B l)(t:TrX s.heap B e cls cx fl)
  (q:∀h',a4_ B l e cls cx (fr.elim Value.none fun f=>rawInt f) s.heap h'→Q () { s with heap:=h' }):wpAny M A (setFlight (.ref e) fr) Q E s:=by
 obtain⟨oe,vs,T,oT,ts,⟨ge,rfl,de,z6⟩,⟨z1,z2⟩,⟨bT,nT⟩,gT,dT,z3⟩:=t
 have z4:3<ts.size:=(Array.getElem?_eq_some_iff.mp z3).1
 have far:∀{g:Obj→Obj} b,b≠T→(s.heap.update T g).get? b=s.heap.get? b:=fun b ne=>Heap.get?_update_other _ _ (Ne.symm ne)
 have nf:∀b o,s.heap.get? b=some o→(∀ws,o.data≠.fields ws)→b≠T:=fun b o gb nb zb=>by subst zb;rw[gT]at gb;cases gb;exact nb ts dT
 unfold setFlight
 refine wpAny_bind (wpAny_field ge de z1 ?_)
 rw[if_pos (a0n T)]
 refine wpAny_setField gT dT z4 (q _ ⟨fun b o gb=>(far b fun z=>by rw[z,bT]at gb;cases gb).trans (st b o gb),ff.of_keeps fun b o gb nb=>⟨o,(far b (nf b o gb nb)).trans gb,rfl⟩,?_,fun b o gb nb=>⟨o.slots,(far b (nf b o gb nb)).trans gb⟩⟩)
 have dd:=Obj.data_mapFields dT (·.setIfInBounds 3 (fr.elim Value.none fun f=>rawInt f))
 exact⟨oe,vs,T,_,_,⟨(far e (Ne.symm nT)).trans ge,rfl,de,z6⟩,⟨z1,z2⟩,⟨bT,nT⟩,Heap.get?_update_self _ gT (Obj.isFreed_of_fields dd),dd,by simp[z4]⟩
end
structure XAt(X:Cx)(pins:List (Addr×Obj))(H:Hp)(s:Shared)(a:Addr)(cls:Value)(cx:Option Addr)(B:Heap)(ph:Ph):Prop where
 free:H a=none
 stays:B.StaysIn s.heap
 fresh:B.get? a=none
 frames:s.heap.FunFrames B X.stack
 cov:∀b o,s.heap.get? b=some o→Imp X pins H b→b ∉ E8 X.stack→B.get? b=some o
 tr:XTr B s.heap a cls cx ph
section
variable {X:Cx}{pins:List (Addr×Obj)}{σ:St}{H:Hp}{s:Shared}{a:Addr}{cls:Value}{cx:Option Addr}{B h':Heap}{ph:Ph}
theorem Imp.there(I:Inv X pins σ H s){b:Addr}(i:Imp X pins H b):∃o,s.heap.get? b=some o:=by
 rcases i with i | ⟨hx,o,i⟩ | ⟨p,hp,e⟩
 ·cases q:H b with
  | none=>exact absurd q i
  | some u=>exact(I.hok b u q).there
 ·exact I.base.there b o i hx
 ·exact⟨p.2,by rw[← e];exact(I.pin p hp).1⟩
theorem Inv.exc(I:Inv X pins σ H s)(cov:∀b o,s.heap.get? b=some o→Imp X pins H b→b ∉ E8 X.stack→B.get? b=some o)(st:B.StaysIn h')(ups:s.heap.UpToSlots h') :
  Inv X pins σ H { s with heap:=h' }:=by
 have fr:∀b,b∈E8 X.stack→∀o,s.heap.get? b=some o→∃sl,h'.get? b=some { o with slots:=sl }:=fun b hb o e=>by
  obtain⟨_,o',e',d⟩:=I.stack.mem hb
  rw[e]at e';cases e'
  exact ups b o e d
 have nfr:∀b,b ∉ X.fs→b≠X.env.locals→b ∉ E8 X.stack:=fun b h1 h2 z=>(List.mem_cons.mp (I.stkSub b z)).elim h2 h1
 have neL:∀b o,X.s₀.heap.get? b=some o→b≠X.env.locals:=fun b o e=>Nat.ne_of_lt (Nat.lt_of_lt_of_le (Heap.lt_size e) I.ok.above)
 have cellK:∀c v,s.heap.IsCell c v→h'.IsCell c v:=fun c v ⟨o,ho,hd⟩=>by
  obtain⟨sl,q⟩:=ups c o ho (fun vs z=>by rw[hd]at z;cases z)
  exact⟨_,q,hd⟩
 refine⟨I.ok,I.os,I.bare,⟨fun b o e n hb hx=>?_,fun b o e n hb hx=>?_,I.base.free,fun b o e hx=>?_,I.base.tups,I.base.frzs,I.base.tbls⟩,?_,fun x c e=>?_,I.free,I.freeC,fun p hp=>?_,?_,I.len⟩
 ·exact st _ _ (cov b o (I.base.keep b o e n hb hx) (.inr (.inl ⟨hx,o,e⟩)) (nfr b hb (neL b o e)))
 ·obtain⟨sl,e1⟩:=I.base.slot b o e n hb hx
  have hb':b∈E8 X.stack:=by
   rcases I.ok.stk with q | ⟨q,hf⟩
   ·rw[q];exact hb
   ·rw[q];unfold E8;rw[List.filterMap_cons,hf];exact List.mem_cons_of_mem _ hb
  obtain⟨sl',e2⟩:=fr b hb' _ e1
  exact⟨sl',e2⟩
 ·obtain⟨o',e1⟩:=I.base.there b o e hx
  by_cases hb:b∈E8 X.stack
  ·obtain⟨sl,q⟩:=fr b hb _ e1
   exact⟨_,q⟩
  ·exact⟨o',st _ _ (cov b o' e1 (.inr (.inl ⟨hx,o,e⟩)) hb)⟩
 ·obtain⟨m,hn,hl⟩:=I.loc
  refine⟨m,ups.ns hn,fun i x v e1 e2 e3=>?_⟩
  obtain⟨u,r,l⟩:=hl i x v e1 e2 e3
  refine⟨u,r,?_⟩
  rcases l with l | ⟨k,c,e,z⟩
  ·exact .inl l
  ·exact .inr ⟨k,c,e,cellK c _ z⟩
 ·obtain⟨v,z⟩:=I.cell x c e
  exact⟨v,cellK c v z⟩
 ·obtain⟨e,n,ne,nf,d⟩:=I.pin p hp
  exact⟨st _ _ (cov p.1 p.2 e (.inr (.inr ⟨p,hp,rfl⟩)) (nfr p.1 nf ne)),n,ne,nf,d⟩
 ·intro b u e
  refine(I.hok b u e).stay (fun c v hc q=>?_) (fun _ q=>q) (fun _ _ q=>q) fun _ _ _ q=>q
  have hc':H c≠none:=by
   rcases hc with z | z
   ·rw[z,e];exact fun q=>nomatch q
   ·rw[z];exact fun q=>nomatch q
  exact st _ _ (cov c v q (.inl hc') fun z=>hc' (I.stkFree c z))
theorem XAt.cov'(x:XAt X pins H s a cls cx B ph)(I:Inv X pins σ H s)(st:B.StaysIn h'):∀b o,h'.get? b=some o→Imp X pins H b→b ∉ E8 X.stack→B.get? b=some o:=fun b o e i n=>by
 obtain⟨o1,e1⟩:=i.there I
 have q:=x.cov b o1 e1 i n
 have q2:=st _ _ q
 rw[e]at q2;cases q2
 exact q
variable {M:Model}{A:Around}{E:Value→Shared→Prop}{Q:Unit→Shared→Prop}
theorem b19{e:Value}{env env0:Env}(h:env0.frame=env.frame):noteFrame e env=noteFrame e env0:=by
 unfold noteFrame PySem.frameOf
 rw[h]
theorem a6b{env0:Env}{out0:List Env}{F:Addr}(hA:A.frames=some X.stack)(hs:X.stack=env0::out0)(h0:env0.frame=X.env.frame)(hf:X.env.frame=some F)(I:Inv X pins σ H s)(x:XAt X pins H s a cls cx B ph)
  (hQ:∀h',Inv X pins σ H { s with heap:=h' }→XAt X pins H { s with heap:=h' } a cls cx B .any→Q () { s with heap:=h' }):wpAny M A (noteFrame (.ref a) X.env) Q E s:=by
 have hfr:A.frames=some (env0::out0):=by rw[hA,hs]
 have hl:s.heap.FunFrames B (env0::out0):=by rw[← hs];exact x.frames
 rw[b19 h0]
 have hf:env0.frame=some F:=h0.trans hf
 have fin:∀{fl:Value} h',a4_ B (env0::out0) a cls cx fl s.heap h'→Q () { s with heap:=h' }:=fun h' ⟨k1,k2,k3,k4⟩ =>
  hQ h' (I.exc x.cov k1 k4) ⟨x.free,k1,x.fresh,by rw[hs];exact k2,x.cov' I k1,_,k3⟩
 have on:∀fl,TrX s.heap B a cls cx fl→wpAny M A (noteFrame (.ref a) env0) Q E s:=fun fl t=>by
  by_cases z:(fl == rawInt F)=true
  ·exact a9X hf t z (hQ s.heap I ⟨x.free,x.stays,x.fresh,x.frames,x.cov,fl,t⟩)
  ·exact b31 hfr hl hf t z x.stays x.fresh fin
 cases ph with
 | new =>
  obtain⟨oe,vs,he,hc,hd,h1,h2,h6⟩:=x.tr
  refine a9W hfr hl hf he x.stays x.fresh hd h1 h2 h6 fun h' hN=>?_
  rw[hc]at hN
  exact fin h' hN
 | fly=>exact on _ x.tr
 | any=>obtain⟨fl,t⟩:=x.tr;exact on fl t
theorem a6c(I:Inv X pins σ H s)(x:XAt X pins H s a cls cx B ph)(hn:ph≠.new)
  (hQ:∀h',Inv X pins σ H { s with heap:=h' }→XAt X pins H { s with heap:=h' } a cls cx B .fly→Q () { s with heap:=h' }):wpAny M A (setFlight (.ref a) none) Q E s:=by
 have go:∀fl,TrX s.heap B a cls cx fl→wpAny M A (setFlight (.ref a) none) Q E s:=fun fl ht =>
  a7t x.stays x.frames ht fun h' ⟨k1,k2,k3,k4⟩=>hQ h' (I.exc x.cov k1 k4) ⟨x.free,k1,x.fresh,k2,x.cov' I k1,k3⟩
 cases ph with
 | new=>exact absurd rfl hn
 | fly=>exact go _ x.tr
 | any=>obtain⟨fl,t⟩:=x.tr;exact go fl t
end
def x9(P:Program)(w:World):CXT:=fun outer H s E e s' =>
 ∃(a:Addr) (cls:Value) (cx:Option Addr) (H':Hp) (B:Heap),e=.ref a∧s'.os=s.os∧AllBare s'.gens∧Un (E8 outer) [] H H' s.heap s'.heap∧HOk P w H' s'.heap∧B.StaysIn s'.heap∧B.get? a=none∧s'.heap.FunFrames B outer ∧
  TrX s'.heap B a cls cx .none∧H' a=none∧(∀b o,s'.heap.get? b=some o→(H' b≠none∨∃o',s.heap.get? b=some o')→b ∉ E8 outer→B.get? b=some o)∧E cls cx H'
def XAcc(X:Cx)(E:XK):Prop:=∀(pins:List (Addr×Obj)) (σ:St) (H:Hp) (s:Shared) (a:Addr) (cls:Value) (cx:Option Addr) (B:Heap) (ph:Ph),Inv X pins σ H s→XAt X pins H s a cls cx B ph→E cls cx H→X.xe (.ref a) s
theorem V4{P:Program}{w:World}{K:W.Frag}{mg:Str→Option Value}{base:Heap}{N:List Str}{qual:Str}{scope:Scope}{f:Addr}{cd:Value}{A:Around}{outer:List Env}{s:Shared}{H:Hp}{E:XK} :
  XAcc (V3 (x9 P w) P w K mg base N qual scope f cd A outer s H E) E:=by
 intro pins σ H1 s1 a cls cx B ph I x e
 show wpAny (model P w) (A.deeper (envOfC qual scope s.heap.objs.size f cd)) (leaving (envOfC qual scope s.heap.objs.size f cd) (.ref a)) _ _ s1
 unfold leaving
 refine wpAny_bind (a6b (X:=V3 (x9 P w) P w K mg base N qual scope f cd A outer s H E) I.ok.frames rfl rfl rfl I x fun h1 I1 x1=>?_)
 refine a6c I1 x1 (fun z=>nomatch z) fun h2 I2 x2=>?_
 refine⟨a,cls,cx,H1,B,rfl,I2.os,I2.bare,I2.base,I2.hok,x2.stays,x2.fresh,x2.frames.2.2,x2.tr,x2.free,fun b o e1 i n=>?_,e⟩
 have nl:b≠(envOfC qual scope s.heap.objs.size f cd).locals:=fun z=>by
  rcases i with i | ⟨o',i⟩
  ·exact i (by rw[z];exact I2.free)
  ·have:=Heap.lt_size i
   rw[z]at this
   exact absurd this (Nat.lt_irrefl _)
 refine x2.cov b o e1 (i.elim .inl fun z=>.inr (.inl ⟨List.not_mem_nil,z⟩)) fun z=>?_
 rcases List.mem_cons.mp (I2.stkSub b z)with q | q
 ·exact nl q
 ·exact n q
theorem XAcc.passes{X:Cx}{E:XK}(acc:XAcc X E):a26 (x9 X.prog X.w) X E:=by
 intro pins σ H s e s' I h
 obtain⟨a,cls,cx,H',B,rfl,os,bare,un,hok,st,fr,ff,tr,free,cov,hE⟩:=h
 have I':Inv X pins σ H' s':=I.call' (ch:=[]) os un hok bare (fun b z=>absurd z (by simp))
 refine acc pins σ H' s' a cls cx B .fly I' ⟨free,st,fr,ff,fun b o e i n=>cov b o e ?_ n,tr⟩ hE
 rcases i with i | ⟨hx,o',i⟩ | ⟨p,hp,q⟩
 ·exact .inl i
 ·exact .inr (I.base.there b o' i hx)
 ·exact .inr ⟨p.2,by rw[← q];exact(I.pin p hp).1⟩
end L2
namespace PySem.W
open PySem PySem.Spec PySem.Calls PyProof.Rows
structure ExcT(K:Frag)(C:Addr):Prop where
 ga:findIn K (.ref C) "__getattribute__" = some (some (.builtin "BaseException.__getattribute__"))
 gt:findIn K (.ref C) "__getattr__" = some none
 cl:findIn K (.ref C) "__class__" = some (some (.builtin "object.__class__"))
 mo:mroIn K C (.type "object")=some true
 sb:subIn K (.ref C) (.type "BaseException")=some true
section
variable {prog:Program}{w:World}{A:Around}{E:Value→Shared→Prop}{h:Heap}{g:Array GenState}{d:Drawn}{t:Nat}{os:OsState}{K:Frag}{x C:Addr}{o:Obj}{R:Result→Shared→Prop}
theorem a67{tp:Value}(X:K.In h)(hx:h.get? x=some o)(hc:o.cls=.ref C)(hm:mroIn K C (.type "object")=some true)
  (q:R (.ok (.ret (.ref C))) ⟨h,g,d,t,os⟩):codeAny (model prog w) A (.call (.builtin "getset_descriptor.__get__") ⟨[.builtin "object.__class__",.ref x,tp],[]⟩) R ⟨h,g,d,t,os⟩:=by
 have L0:Looks (model prog w) h (typeOf (.ref x)) (.ref C):=hc▸(Looks.ld hx).andThen .now
 have L1:=looks_mroIn (M:=model prog w) X hm
 refine codeAny_call_builtin KF.slot_gs.plain KF.entry_gs (KF.slot_gs.check _ _ _ _ _ _ _ _ KF.type_class (KF.args_gs _ _ _) ?_)
 unfold Builtin.«getset_descriptor.__get__» Builtin.Getset_descriptor.descrGet
 rw[dga_obj]
 refine wpAny_bind (wpAny_pure ?_)
 unfold Builtin.Getset_descriptor.descrGetter Builtin.Getset_descriptor.descrCheckInstance Builtin.Getset_descriptor.descrNameAndClass isInstance
 simp only[KF.owner_class]
 repeat lk
 refine⟨Code.quiet_builtin _ (by decide +kernel),codeAny_builtin KF.entry_class ?_⟩
 unfold Builtin.«object.__class__» shownTypeOf
 repeat lk
 exact q
theorem a5a{tk:Tok}{Q:Fin→Shared→Prop}(X:K.In h)(T:ExcT K C)(hx:h.get? x=some o)(hc:o.cls=.ref C)(q:Q (.done (.ret (.ref C))) ⟨h,g,d,t,os⟩) :
  wpAny (model prog w) A (Builtin.«object.__getattribute__» ⟨[.ref x,.str "__class__" tk],[]⟩) Q E ⟨h,g,d,t,os⟩:=by
 have L0:Looks (model prog w) h (typeOf (.ref x)) (.ref C):=hc▸(Looks.ld hx).andThen .now
 have L1:=looks_findIn (M:=model prog w) X T.cl
 have hT5:(⟨h,g,d,t,os⟩:Shared).TypeIs (.builtin "object.__class__") "getset_descriptor" := F.typeOf_object_class
 have f5:=F.typeOf_object_class
 have f6:=F.slot_gs_get.lookup
 have f7:=F.slot_gs_set.lookup
 repeat (any_goals (first | assumption | (with_reducible refine L0.at ?_) | (with_reducible refine wpAny_bind (L0.at ?_)) | (with_reducible refine L1.at ?_) | (with_reducible refine wpAny_bind (L1.at ?_)) | wp_step))
 refine a67 X hx hc T.mo ?_
 repeat (any_goals (first | assumption | wp_step))
theorem a2_{M:Model}{nameV:Value}{Q:Unit→Shared→Prop}(X:K.In h)(T:ExcT K C)(hx:h.get? x=some o)(hc:o.cls=.ref C)(hq:Q () ⟨h,g,d,t,os⟩):wpAny M A (checkBuiltinCall "BaseException.__getattribute__" ⟨[.ref x,nameV],[]⟩) Q E ⟨h,g,d,t,os⟩:=by
 have hk:builtinKind "BaseException.__getattribute__" = some .slot:=by decide +kernel
 have hsplit:splitId "BaseException.__getattribute__" = some ("BaseException","__getattribute__"):=by decide +kernel
 have L0:Looks M h (typeOf (.ref x)) (.ref C):=hc▸(Looks.ld hx).andThen .now
 have L1:=looks_subIn (M:=M) X T.sb
 have L2:Looks M h (isInstance (.ref x) (.type "BaseException")) true:=L0.andThen L1
 have ha:=F.args_bexc_ga (.ref x) nameV
 simp only[checkBuiltinCall,hk,hsplit]
 refine wpAny_bind (L2.at ?_)
 repeat (first | assumption | wp_step)
theorem a7u{tk:Tok}{Q:Value→Shared→Prop}(X:K.In h)(T:ExcT K C)(hx:h.get? x=some o)(hc:o.cls=.ref C)(hq:Q (.ref C) ⟨h,g,d,t,os⟩):wpAny (model prog w) A (getAttrBy (.ref x) (.str "__class__" tk) false) Q E ⟨h,g,d,t,os⟩:=by
 have L0:Looks (model prog w) h (typeOf (.ref x)) (.ref C):=hc▸(Looks.ld hx).andThen .now
 have L1:=looks_findIn (M:=model prog w) X T.ga
 have L2:=looks_findIn (M:=model prog w) X T.gt
 have f3:=F.attr_ValueError.ga.bind (.ref x)
 have hx2:(Value.builtin "BaseException.__getattribute__" == Value.builtin "object.__getattribute__")=false:=by decide +kernel
 have hx1:(onTheHeap (Value.ref C) && Value.builtin "BaseException.__getattribute__" == Value.builtin "object.__getattribute__")=false:=by rw[hx2];rfl
 repeat (any_goals (first | assumption | (with_reducible refine L0.at ?_) | (with_reducible refine wpAny_bind (L0.at ?_)) | (with_reducible refine L1.at ?_) | (with_reducible refine wpAny_bind (L1.at ?_)) | (with_reducible refine L2.at ?_) | (with_reducible refine wpAny_bind (L2.at ?_)) | wp_step))
 refine codeAny_call_builtin F.attr_ValueError.ga.plain F.entry_bexc_ga (a2_ X T hx hc (a5a X T hx hc ?_))
 repeat (any_goals (first | assumption | wp_step))
theorem a6d{Q:Option Value→Shared→Prop}(X:K.In h)(T:ExcT K C)(hx:h.get? x=some o)(hc:o.cls=.ref C)(hq:Q (some (.ref C)) ⟨h,g,d,t+1,os⟩):wpAny (model prog w) A (getAttr? (.ref x) "__class__") Q E ⟨h,g,d,t,os⟩:=by
 unfold getAttr? getAttrBy?
 repeat (any_goals (first | assumption | with_reducible apply a7u X T hx hc | wp_step))
end
def b5s(x C:Addr)(h:Heap):Prop:=∃o vs,h.get? x=some o∧o.cls=.ref C∧o.data=.fields vs
theorem kitx_exc{K:Frag}{x C:Addr}(T:ExcT K C):KitX K (.ref x) (.ref C) (b5s x C) where
 ty:=fun _ _ _ ⟨_,_,hx,hc,_⟩=>hc▸(Looks.ld hx).andThen .now
 it:=fun M h X _=>by
  have hm:=T.mo
  unfold mroIn at hm
  obtain⟨cd,hcd⟩:∃cd,clsIn K C=some cd:=by
   cases q:clsIn K C with
   | none=>rw[q]at hm;cases hm
   | some cd=>exact⟨cd,rfl⟩
  unfold clsIn at hcd
  split at hcd
  ·rename_i c' d' cd' sl' ho
   intro A' Q' E' s' k q
   unfold isType loadHead
   exact wpAny_bind (wpAny_loadPart (k _ _ (X _ _ ho)) (wpAny_pure q))
  ·cases hcd
 ne:=fun h tp dd its n sl X htp=>by
  have hm:=T.mo
  unfold mroIn at hm
  obtain⟨cd,hcd⟩:∃cd,clsIn K C=some cd:=by
   cases q:clsIn K C with
   | none=>rw[q]at hm;cases hm
   | some cd=>exact⟨cd,rfl⟩
  refine Bool.eq_false_iff.mpr fun q=>?_
  have e:C=tp:=Value.ref.inj (beq_iff_eq.mp q)
  subst e
  unfold clsIn at hcd
  split at hcd
  ·rename_i c' d' cd' sl' ho
   have z:=(X _ _ ho).symm.trans htp
   cases z
  ·cases hcd
 ca:=fun{_ _ _ _ _ s} X ⟨_,_,hx,hc,_⟩ k=>by
  obtain⟨h,g,d,t,os⟩:=s
  exact a6d X T hx hc k
end PySem.W
namespace L2
open PySem PySem.Spec PyProof.Rows
abbrev TJ:=St→Hp→Str→(Str→Hp→Prop)→Prop
def vErr:List Value:=[.type "ValueError",.type "Exception",.type "BaseException",.type "object"]
theorem b32{K:W.Frag}{h₀:Heap}{C:Addr}(KX:K.In h₀)(q:W.excIn K C vErr "ValueError.__new__" = true) :
  ∃bm N nm q bs hdct sn sub ab col dd k0 k1 k2 k3 k5 mN,h₀.get? C=some (excClassObj nm q C N bs bm hdct sn sub ab col dd k0 k1 k2 k3 k5 "ValueError.__new__")∧h₀.Ns N mN∧mN "__init__" = none∧OwnTail h₀ vErr bm:=by
 unfold W.excIn at q
 split at q
 ·rename_i dd cd sl ho
  split at q
  ·rename_i C' bm k0 k1 k2 k3 n k5 hm hs
   simp only[Bool.and_eq_true,beq_iff_eq,Bool.not_eq_true']at q
   obtain⟨⟨⟨⟨⟨rfl,rfl⟩,hdel⟩,ht⟩,hok⟩,hni⟩:=q
   obtain⟨nm,bs,mro,ns,qn,hd,sn,sub,ab,col,del⟩:=cd
   dsimp only at hm hdel hok hni
   subst hm hdel
   have hsl:sl = #[k0,k1,k2,k3,some (.builtin "ValueError.__new__"),k5]:=by
    obtain⟨l⟩:=sl
    simp only at hs
    rw[hs]
   subst hsl
   exact⟨bm,ns,nm,qn,bs,hd,sn,sub,ab,col,dd,k0,k1,k2,k3,k5,_,KX _ _ ho,.of_isNs (W.isNs_of_in KX hok),W.nsMap_none_of_in KX hok hni,W.tail_of_in KX ht⟩
  ·cases q
 ·cases q
section
variable {X:Cx}{E:XK}
theorem XAt.first{pins:List (Addr×Obj)}{σ:St}{H:Hp}{s:Shared}{h':Heap}{a:Addr}{cls:Value}{cx:Option Addr}{oe:Obj}{vs:Array Value}(I:Inv X pins σ H s)(k:∀b o,s.heap.get? b=some o→h'.get? b=some o)
  (n:s.heap.get? a=none) (g:h'.get? a=some oe) (hc:oe.cls=cls) (hd:oe.data=.fields vs) (z1:vs[1]? = some .none) (z2:vs[2]? = some (a0m cx)) (z6:oe.dict=a29 cx) :
  Inv X pins σ H { s with heap:=h' }∧XAt X pins H { s with heap:=h' } a cls cx (W.hideAll s.heap (E8 X.stack)) .new:=by
 have I':Inv X pins σ H { s with heap:=h' }:=I.kept (t':=s.toks) k
 have fr:H a=none:=by
  cases q:H a with
  | none=>rfl
  | some u=>obtain⟨o,e⟩:=(I.hok a u q).there;rw[n]at e;cases e
 refine⟨I',fr,fun b o e=>k b o (W.of_hideAll _ e),?_,(W.funFrames_hide I.stack fun env he b hb=>List.mem_filterMap.mpr ⟨env,he,hb⟩).of_keeps fun b o e _=>⟨o,k b o e,rfl⟩,fun b o e i n=>?_,⟨oe,vs,g,hc,hd,z1,z2,z6⟩⟩
 ·cases q:(W.hideAll s.heap (E8 X.stack)).get? a with
  | none=>rfl
  | some o=>have:=W.of_hideAll _ q;rw[n]at this;cases this
 ·obtain⟨o1,e1⟩:=i.there I
  have e2:=k _ _ e1
  rw[e]at e2;cases e2
  exact W.hideAll_get _ e1 n
theorem XAt.made{pins:List (Addr×Obj)}{σ:St}{H:Hp}{s:Shared}{h':Heap}{a:Addr}{cls:Value}{vs:List Value}(I:Inv X pins σ H s)(m:Heap.MadeExcOf s.heap h' a cls vs) :
  Inv X pins σ H { s with heap:=h' }∧XAt X pins H { s with heap:=h' } a cls none (W.hideAll s.heap (E8 X.stack)) .new:=by
 obtain⟨t,he,_,_⟩:=m.there
 exact XAt.first I m.keeps m.new he rfl rfl rfl rfl rfl
def b0P(C:Addr)(E:XK)(ta:TA):TS:=fun _ σ H=>ta σ H fun vs H1=>vs.length≤sizeLine∧E (.ref C) none H1
theorem b1_{x:Str}{C:Addr}{e₀:Expr}{k8:List Expr}{np cpos pos:Pos}{ta:TA}(acc:XAcc X E)(q:W.excIn X.K C vErr "ValueError.__new__" = true)(hg:Gl X x)(hm:X.mg x=some (.ref C))(ha:PA X (e₀::k8) ta)
  (hc:X.calm=true:=by rfl) (hex:X.ex=[]:=by rfl)
  (he:starEach (e₀::k8) X.env=(false,eval e₀ X.env)::starEach k8 X.env:=by rfl) (hplain:(backTo cpos (starEach k8 X.env)).any (·.1)=false:=by rfl) (hd:(x == ("__debug__" : Str))=false:=by decide) :
  PS X (.Raise (some (.Call (.Name x np) (e₀::k8) [] cpos)) none pos) (b0P C E ta):=by
 intro pins s σ H D I h
 obtain⟨tl,N,nm,qn,bs,hdct,sn,sub,ab,col,dd,k0,k1,k2,k3,k5,mN,hC,hN,hni,T⟩:=b32 I.mod.kin q
 have hp:=ha cpos pins s σ H _ I h
 rw[he]at hp
 refine wpAny_Raise_call_subT (C:=C) (nm:=nm) (q:=qn) (N:=N) (bs:=bs) (bm:=tl) (hdct:=hdct) (sn:=sn) (sub:=sub) (ab:=ab) (col:=col) (dd:=dd) (k0:=k0) (k1:=k1) (k2:=k2) (k3:=k3) (k5:=k5)
  PySem.F.excBase_ValueError (mN:=mN) (T.hasType PySem.F.excBase_ValueError.hasBase) (I.ok.hd hc) (by rw[he];show(false || (backTo cpos (starEach k8 X.env)).any (·.1))=false;rw[hplain];rfl) hni (Q8 I hg hm ⟨rfl,?_⟩ hd)
 rw[he]
 refine Calls.evalArgs_plain (l3 hp fun us s2 ⟨vs,H2,I2,rv,z,hE⟩=>⟨rfl,by rw[← rv.length];exact z,I2.bk _ _ hC,hN.keeps I2.bk,T.keeps I2.bk,fun h' e m=>?_⟩)
 obtain⟨I3,x3⟩:=XAt.made I2 m
 exact acc pins σ H2 _ e _ none _ .new I3 x3 hE
end
def D2(a:Addr)(cls:Value)(cx:Option Addr):HO:=.ext fun h=>∃o vs,h.get? a=some o∧o.cls=cls∧o.data=.fields vs∧vs[2]? = some (a0m cx)∧o.dict=a29 cx
section
variable {X:Cx}{pins:List (Addr×Obj)}{σ:St}{H:Hp}{s:Shared}{a:Addr}{cls:Value}{cx:Option Addr}{B:Heap}{ph:Ph}
theorem XAt.nofr(x:XAt X pins H s a cls cx B ph):a ∉ E8 X.stack:=fun z=>by
 obtain⟨oe,vs,e,_,d,_⟩:=x.tr.there
 obtain⟨_,o,e',d'⟩:=x.frames.mem z
 rw[e]at e';cases e'
 exact d' vs d
theorem XAt.noimp(x:XAt X pins H s a cls cx B ph):¬Imp X pins H a:=fun i=>by
 obtain⟨oe,vs,e,_,d,_⟩:=x.tr.there
 have:=x.cov a oe e i x.nofr
 rw[x.fresh]at this;cases this
theorem Inv.track(I:Inv X pins σ H s)(x:XAt X pins H s a cls cx B ph):Inv X pins σ (upd H a (D2 a cls cx)) s:=by
 obtain⟨oe,vs,e,hc,d,d2⟩:=x.tr.there
 have ni:=x.noimp
 refine⟨I.ok,I.os,I.bare,⟨I.base.keep,I.base.slot,fun b o e1 n hx=>?_,I.base.there,fun b xs q=>?_,fun b o u q=>?_,fun b ps q=>?_⟩,I.loc,I.cell,?_,fun y c q=>?_,fun p hp=>?_,fun b u q=>?_,I.len⟩
 ·rw[g8 (fun z=>ni (.inr (.inl ⟨by rw[← z];exact hx,o,by rw[← z];exact e1⟩)))]
  exact I.base.free b o e1 n hx
 ·have q1:=I.base.tups b xs q
  rw[g8 (j8 q1 x.free)];exact q1
 ·have q1:=I.base.frzs b o u q
  rw[g8 (j8 q1 x.free)];exact q1
 ·obtain⟨more,q1⟩:=I.base.tbls b ps q
  exact⟨more,by rw[g8 (j8 q1 x.free)];exact q1⟩
 ·rw[g8 fun z=>?_]
  ·exact I.free
  ·obtain⟨m,⟨o,es,ep,ho,hd,_⟩,_⟩:=I.loc
   rw[z,e]at ho;cases ho
   rw[d]at hd;cases hd
 ·rw[g8 fun z=>?_]
  ·exact I.freeC y c q
  ·obtain⟨v,o,ho,hd⟩:=I.cell y c q
   rw[z,e]at ho;cases ho
   rw[d]at hd;cases hd
 ·obtain⟨h1,h2,h3,h4,h5⟩:=I.pin p hp
  exact⟨h1,by rw[g8 (fun z=>ni (.inr (.inr ⟨p,hp,z⟩)))];exact h2,h3,h4,h5⟩
 ·by_cases hb:b=a
  ·subst hb
   rw[i8]at q;cases q
   exact⟨⟨oe,vs,e,hc,d,d2⟩,⟨oe,e⟩,fun h1 h2 ⟨o,ws,z1,z2,z3⟩ k=>⟨o,ws,k o z1,z2,z3⟩⟩
  ·rw[g8 hb]at q
   refine(I.hok b u q).stay (fun _ _ _ z=>z) (fun c z=>?_) (fun c xs z=>?_) fun c ob u z=>?_
   ·rw[g8 (j8 z x.free)];exact z
   ·rw[g8 (j8 z x.free)];exact z
   ·rw[g8 (j8 z x.free)];exact z
end
abbrev Cx.tryCx(X:Cx)(E2:Value→Shared→Prop)(pins:List (Addr×Obj)):Cx:={ X with xe:=E2,pn:=X.pn++pins }
abbrev Cx.inExc(X:Cx)(a:Addr):Cx:={ X with A:=X.A.mark (some (.ref a)),calm:=false }
section
variable {X:Cx}{pins:List (Addr×Obj)}{σ:St}{H:Hp}{s:Shared}{a:Addr}{E2:Value→Shared→Prop}
theorem Cx.Ok.tryCx(ok:X.Ok):(X.tryCx E2 pins).Ok:=⟨ok.mod,ok.kind,ok.glob,ok.blt,ok.above,ok.inj,ok.has,ok.cab,ok.hd,ok.frames,ok.stk,ok.exf,ok.bs,ok.bsz,ok.noex,ok.exfs,ok.funs,ok.frf⟩
theorem Cx.Ok.inExc(ok:X.Ok):(X.inExc a).Ok:=⟨ok.mod,ok.kind,ok.glob,ok.blt,ok.above,ok.inj,ok.has,ok.cab,(fun z=>nomatch z),ok.frames,ok.stk,ok.exf,ok.bs,ok.bsz,ok.noex,ok.exfs,ok.funs,ok.frf⟩
theorem Inv.toTry(I:Inv X pins σ H s):Inv (X.tryCx E2 pins) [] σ H s :=
 ⟨I.ok.tryCx,I.os,I.bare,I.base,I.loc,I.cell,I.free,I.freeC,fun p hp=>I.pin p (by rw[List.append_nil]at hp;exact hp),I.hok,I.len⟩
theorem Inv.ofTry{pins':List (Addr×Obj)}(ok:X.Ok)(I:Inv (X.tryCx E2 pins) pins' σ H s):Inv X pins σ H s :=
 ⟨ok,I.os,I.bare,I.base,I.loc,I.cell,I.free,I.freeC,fun p hp=>I.pin p (List.mem_append_left _ hp),I.hok,I.len⟩
theorem Inv.toExc(I:Inv X pins σ H s):Inv (X.inExc a) pins σ H s :=
 ⟨I.ok.inExc,I.os,I.bare,I.base,I.loc,I.cell,I.free,I.freeC,I.pin,I.hok,I.len⟩
theorem Inv.ofExc(ok:X.Ok)(I:Inv (X.inExc a) pins σ H s):Inv X pins σ H s :=
 ⟨ok,I.os,I.bare,I.base,I.loc,I.cell,I.free,I.freeC,I.pin,I.hok,I.len⟩
theorem SP.ofTry{pins':List (Addr×Obj)}{D:Ends}{f:Flow}{s':Shared}(ok:X.Ok)(h:SP (X.tryCx E2 pins) pins' D f s'):SP X pins D f s':=by
 cases f with
 | next=>obtain⟨σ',H',I,q⟩:=h;exact⟨σ',H',I.ofTry ok,q⟩
 | brk=>obtain⟨σ',H',I,q⟩:=h;exact⟨σ',H',I.ofTry ok,q⟩
 | cont=>obtain⟨σ',H',I,q⟩:=h;exact⟨σ',H',I.ofTry ok,q⟩
 | ret u=>obtain⟨v,σ',H',I,r,q⟩:=h;exact⟨v,σ',H',I.ofTry ok,r,q⟩
theorem SP.ofExc{D:Ends}{f:Flow}{s':Shared}(ok:X.Ok)(h:SP (X.inExc a) pins D f s'):SP X pins D f s':=by
 cases f with
 | next=>obtain⟨σ',H',I,q⟩:=h;exact⟨σ',H',I.ofExc ok,q⟩
 | brk=>obtain⟨σ',H',I,q⟩:=h;exact⟨σ',H',I.ofExc ok,q⟩
 | cont=>obtain⟨σ',H',I,q⟩:=h;exact⟨σ',H',I.ofExc ok,q⟩
 | ret u=>obtain⟨v,σ',H',I,r,q⟩:=h;exact⟨v,σ',H',I.ofExc ok,r,q⟩
theorem XAcc.inExc{E:XK}{a:Addr}(acc:XAcc X E)(ok:X.Ok):XAcc (X.inExc a) E:=fun pins σ H s b cls cx B ph I x e=>acc pins σ H s b cls cx B ph (I.ofExc ok) ⟨x.free,x.stays,x.fresh,x.frames,x.cov,x.tr⟩ e
end
section
variable {M:Model}{A:Around}{E:Value→Shared→Prop}{env:Env}
variable {nm q:Str}{C N:Addr}{bs bm:List Value}{hdct:Bool}{sn:List Str}{sub:List Value}{ab:Bool}{col:Option Bool}{dd:Option Addr}{k0 k1 k2 k3 k5:Option Value}{newId:String}
theorem a68:entryFor table "proto.unchain" = some Builtin.«proto.unchain» := entryFor_of_fast (by kernel_rfl)
theorem a7v{prog:Program}{w:World}{s:Shared}{e a:Addr}{oa:Obj}{va:Array Value}{R:Value→Shared→Prop}(ga:s.heap.get? a=some oa)(da:oa.data=.fields va)(za:va[2]? = some .none)(r:R .none s) :
  wpAny (model prog w) A (runValue (.builtin "proto.unchain" ⟨[.ref e,.ref a,.ref a,.bool false],[]⟩)) R E s:=by
 refine wpAny_runValue (codeAny_builtin a68 ?_)
 unfold Builtin.«proto.unchain»
 refine wpAny_bind (wpAny_field ga da za ?_)
 rw[if_pos (by decide)]
 repeat wp_step
 exact r
end
section
variable {X:Cx}{pins:List (Addr×Obj)}{σ:St}{H:Hp}{s:Shared}{a:Addr}{E2:Value→Shared→Prop}
theorem Inv.nameGoes{M:Model}{A:Around}{E:Value→Shared→Prop}{n:Str}{i:Nat}{pos:Pos}{Q:Unit→Shared→Prop}(I:Inv X pins σ H s)(hN:X.N.Nodup)(hi:X.N[i]? = some n)(hl:X.env.scope.names.lookup n=some .local)
  (h:∀h',Inv X pins (σ.set i none) H { s with heap:=h',toks:=s.toks+1 }→Q () { s with heap:=h',toks:=s.toks+1 }):wpAny M A (do bindName X.env n .none;unbindBehindTheSuite X.env n pos) Q E s:=by
 obtain⟨m,hn,hlo⟩:=id I.loc
 have hcls:(X.env.scope.kind == .class || (X.env.scope.kind == .module && X.env.locals != X.env.globals))=false:=by rw[I.ok.kind];rfl
 refine wpAny_nameGoes_keeps hl hn hcls fun h' v hn' hs=>h h' ?_
 obtain⟨oL,_,_,hoL,_⟩:=id hn
 have cne:=I.cne
 have neL:∀b o,X.s₀.heap.get? b=some o→b≠X.env.locals:=fun b o e=>Nat.ne_of_lt (Nat.lt_of_lt_of_le (Heap.lt_size e) I.ok.above)
 refine⟨I.ok,I.os,I.bare,⟨fun b o e k hb hx=>(hs.2 b (neL b o e)).trans (I.base.keep b o e k hb hx),fun b o e k hb hx=>?_,I.base.free,fun b o e hx=>?_,I.base.tups,I.base.frzs,I.base.tbls⟩,⟨_,hn',fun j y v' e1 e2 e3=>?_⟩,fun y c e=>?_,I.free,I.freeC,fun p hp=>?_,?_,by simpa using I.len⟩
 ·obtain⟨sl,e1⟩:=I.base.slot b o e k hb hx
  exact⟨sl,(hs.2 b (neL b o e)).trans e1⟩
 ·obtain⟨o',e1⟩:=I.base.there b o e hx
  exact⟨o',(hs.2 b (neL b o e)).trans e1⟩
 ·by_cases hj:j=i
  ·subst hj
   by_cases hlt:j<σ.length
   ·rw[List.getElem?_set_self hlt]at e2;cases e2
   ·rw[List.getElem?_eq_none (by rw[List.length_set];omega)]at e2;cases e2
  ·rw[List.getElem?_set_ne (Ne.symm hj)]at e2
   obtain⟨u',r',q⟩:=hlo j y v' e1 e2 e3
   refine⟨u',r',?_⟩
   rcases q with⟨k,e⟩ | ⟨k,c,e,z⟩
   ·refine .inl ⟨k,?_⟩
    have:y≠n:=fun e=>hj (a4F hN e1 (e▸hi))
    simp[this,e]
   ·exact .inr ⟨k,c,e,z.sameBut hs (cne y c e)⟩
 ·obtain⟨w',z⟩:=I.cell y c e
  exact⟨w',z.sameBut hs (cne y c e)⟩
 ·obtain⟨e,n',ne,nf,d⟩:=I.pin p hp
  exact⟨(hs.2 p.1 ne).trans e,n',ne,nf,d⟩
 ·intro b ob e
  refine(I.hok b ob e).stay (fun c w' hc q=>(hs.2 c ?_).trans q) (fun _ q=>q) (fun _ _ q=>q) fun _ _ _ q=>q
  rintro rfl
  rcases hc with rfl | hc
  ·rw[I.free]at e;cases e
  ·rw[I.free]at hc;cases hc
end
theorem C0{X:Cx}{P:Program}{w:World}:a26 (x9 P w) X E0:=fun _ _ _ _ _ _ _ h=>by
 obtain⟨_,_,_,_,_,_,_,_,_,_,_,_,_,_,_,_,hE⟩:=h
 exact hE.elim
section
variable {P:Program}{w:World}{K:W.Frag}{mg:Str→Option Value}{base:Heap}
theorem Fun.okE{x qual:Str}{st:Stmt}{f:Addr}{fd:FuncData}{N ps:List Str}{k:Nat}{sp:Sp}(F:Fun K x qual st f fd)(S:FnScope N ps (d6 st))(len:∀vs H Q E,sp vs H Q E→vs.length=ps.length)
  (hbody:∀(cdv:Value) (A:Around) (outer:List Env) (s:Shared) (H:Hp) (vs:List V) (Q:VK) (E:XK),Room k (A.deeper (envOfC qual (d6 st) s.heap.objs.size f cdv))→sp vs H Q E →
   ∃t,PSs (V3 (x9 P w) P w K mg base N qual (d6 st) f cdv A outer s H E) (k7 st) t∧t { nx:=fun _ H'=>Q .non H',rt:=Q } (start N vs) H):FnOk P w K mg base (x9 P w) (k+1) f fd ps sp:=by
 obtain⟨oc,od,kV,doc,pm,an,cdv,ct,osl,rfl,lk,hcd⟩:=F.ex
 exact a9Q lk hcd S len fun A outer s H vs Q E hr hsp=>hbody cdv A outer s H vs Q E hr hsp
structure FunD(K:W.Frag)(x qual:Str)(st:Stmt)(dT:Addr)(f:Addr)(fd:FuncData):Prop where
 ex:∃(oc:Value) (od:Option Addr) (kV doc pm:Value) (an:Option Addr) (cdv ct:Value) (osl:Array (Option Value)),
  fd=W.fnOf x qual (n0 st) (k7 st) (d6 st) (.ref dT) kV doc pm an cdv ct∧K.lookup f=some ⟨oc,od,.func fd,osl⟩∧W.codeIn K cdv qual=true
 kp:W.keepIn K (.ref f)=true
theorem FunD.okE{x qual:Str}{st:Stmt}{dT f:Addr}{fd:FuncData}{N ps:List Str}{k:Nat}{sp:Sp}(F:FunD K x qual st dT f fd)(S:FnScope N ps (d6 st))(len:∀vs H Q E,sp vs H Q E→vs.length=ps.length)
  (hbody:∀(cdv:Value) (A:Around) (outer:List Env) (s:Shared) (H:Hp) (vs:List V) (Q:VK) (E:XK),Room k (A.deeper (envOfC qual (d6 st) s.heap.objs.size f cdv))→sp vs H Q E →
   ∃t,PSs (V3 (x9 P w) P w K mg base N qual (d6 st) f cdv A outer s H E) (k7 st) t∧t { nx:=fun _ H'=>Q .non H',rt:=Q } (start N vs) H):FnOk P w K mg base (x9 P w) (k+1) f fd ps sp:=by
 obtain⟨oc,od,kV,doc,pm,an,cdv,ct,osl,rfl,lk,hcd⟩:=F.ex
 exact a9Q lk hcd S len fun A outer s H vs Q E hr hsp=>hbody cdv A outer s H vs Q E hr hsp
theorem FunD.binds{x qual:Str}{st:Stmt}{dT f:Addr}{fd:FuncData}{ps:List Str}{ds:List Value}{items:List Value}{o:Obj}{nn:Nat}(F:FunD K x qual st dT f fd)(ho:K.lookup dT=some o)(hs:o.data=.seq items.toArray nn)
  (h:∀(kV doc pm:Value) (an:Option Addr) (cdv ct:Value) (us:List Value),(us++ds).length=ps.length→∃k:Option (Array Value)→Sem (List (Str×Value)),
   bindArgs (W.fnOf x qual (n0 st) (k7 st) (d6 st) (.ref dT) kV doc pm an cdv ct) ⟨us,[]⟩=seqItems? (.ref dT) >>= k∧k (some items.toArray)=pure (ps.zip (us++ds))):Binds K fd ps ds:=by
 obtain⟨oc,od,kV,doc,pm,an,cdv,ct,osl,rfl,lk,hcd⟩:=F.ex
 intro s us KX hl
 obtain⟨k,h1,h2⟩:=h kV doc pm an cdv ct us hl
 exact W.binds_K KX rfl ho hs h1 h2
end
structure RoomW(k:Nat)(A:Around):Prop where
 dp:A.depth+3*k+5<recursionLimit
 un:A.units+16*k+200<cLine
theorem Room.w{k:Nat}{A:Around}(r:Room k A)(h:Option Value):RoomW k (A.mark h):=⟨r.dp,r.un⟩
theorem RoomW.deeper{k:Nat}{A:Around}(r:RoomW (k+1) A)(env:Env):RoomW k (A.deeper env) :=
 ⟨by have:=r.dp;show A.depth+1+3*k+5<_;omega,by have:=r.un;show A.units+3+16*k+200<_;omega⟩
structure FnOkW(P:Program)(w:World)(K:W.Frag)(mg:Str→Option Value)(base:Heap)(k:Nat)(f:Addr)(fd:FuncData)(ps:List Str)(sp:Sp):Prop where
 len:∀vs H Q E,sp vs H Q E→vs.length=ps.length
 run:∀(A:Around) (outer:List Env) (s:Shared) (H:Hp) (args:Args) (us:List Value) (vs:List V) (Q:VK),RoomW k A→Env0 P w K mg base A outer s H→BindsTo s fd args (ps.zip us)→Vals vs us→sp vs H Q E0 →
  codeAny (model P w) A (.call (.ref f) args) (CR CX0 outer P w H s Q E0) s
abbrev a01(P:Program)(w:World)(K:W.Frag)(mg:Str→Option Value)(base:Heap)(N:List Str)(qual:Str)(scope:Scope)(f:Addr)(cd:Value)(A:Around)(outer:List Env)(s:Shared)(H:Hp):Cx :=
 { V3 CX0 P w K mg base N qual scope f cd A outer s H E0 with calm:=false,xe:=fun _ _=>False }
theorem a5b{P:Program}{w:World}{K:W.Frag}{mg:Str→Option Value}{base:Heap}{N ps:List Str}{qual:Str}{scope:Scope}{f:Addr}{cd:Value}{A:Around}{outer:List Env}{s s1:Shared}{H:Hp}{us:List Value}{vs:List V}
  (S:FnScope N ps scope) (e0:Env0 P w K mg base A outer s H) (hl:vs.length=ps.length) (r:Vals vs us)
  (x:InCallC s s.heap.objs.size (bindL (envOfC qual scope s.heap.objs.size f cd).kindOf (ps.zip us) fun _=>none) (cellsFrom (s.heap.objs.size+1) scope.names []) (bindC (envOfC qual scope s.heap.objs.size f cd).kindOf (ps.zip us) fun _=>none) s1) :
  Inv (a01 P w K mg base N qual scope f cd A outer s H) [] (start N vs) H s1:=by
 have hpl:ps.length≤N.length:=by have:=congrArg List.length S.pre;rw[List.length_take]at this;omega
 obtain⟨h1,tk,rfl,hk⟩:=x.done
 have noA:∀b:Addr,b ∉ (a01 P w K mg base N qual scope f cd A outer s H).ex:=fun b z=>absurd (show b∈([]:List Addr)from z) (by simp)
 refine⟨⟨e0.mod,S.kind,rfl,rfl,Nat.le_refl _,fun y z c h1 h2=>?_,fun y hy=>?_,fun y c _ h=>?_,(fun z=>nomatch z),Around.frames_deeper e0.frames,.inr ⟨rfl,rfl⟩,fun b z=>absurd z (noA b),e0.bs,e0.bsz,fun b _ _=>noA b,fun b z=>absurd z (noA b),e0.funs,e0.frf⟩,
  rfl,e0.bare,Un.kept hk,⟨_,x.toInCall.ns,fun i y v h1 h2 h3=>?_⟩,fun y c h=>⟨_,x.cell y c h⟩,e0.hok.fresh (Nat.le_refl _),fun y c h=>?_,fun p hp=>absurd (show p∈([]:List (Addr×Obj))from hp) (by simp),e0.hok.kept hk,?_⟩
 ·exact name_of_addr x.apart (PySem.mem_of_lookup h1) (PySem.mem_of_lookup h2)
 ·have hy:scope.names.lookup y=some .cell∨scope.names.lookup y=some .free:=hy
  rcases hy with hy | hy
  ·exact a2u hy
  ·exact absurd rfl (S.nofree _ (PySem.mem_of_lookup hy))
 ·exact Nat.le_of_lt (x.above y c (PySem.mem_of_lookup h))
 ·have hi:i<vs.length:=by
   unfold start at h2
   by_cases hi:i<vs.length
   ·exact hi
   ·rw[List.getElem?_append_right (by simpa using hi)]at h2
    rw[List.getElem?_replicate]at h2
    split at h2<;>cases h2
  have ha:vs[i]? = some v:=by
   unfold start at h2
   rw[List.getElem?_append_left (by simpa using hi),List.getElem?_map]at h2
   cases e:vs[i]? with
   | none=>rw[e]at h2;cases h2
   | some a=>rw[e]at h2;cases h2;rfl
  obtain⟨u,hu,rv⟩:=r.get ha
  have hp:ps[i]? = some y:=by
   rw[← S.pre,List.getElem?_take_of_lt (by omega)];exact h1
  have ndP:ps.Nodup:=by rw[← S.pre];exact S.nd.sublist (List.take_sublist _ _)
  refine⟨u,rv,?_⟩
  rcases S.par y (List.mem_of_getElem? hp)with k | k
  ·exact .inl ⟨k,a27 ndP hp hu k⟩
  ·obtain⟨c,e⟩:=a2u (n:=s.heap.objs.size+1) k
   refine .inr ⟨.inl k,c,e,?_⟩
   have q:=x.cell y c e
   rw[a28 ndP hp hu (by show scope.names.lookup y≠_;rw[k];decide)]at q
   exact q
 ·exact e0.hok.fresh (Nat.le_of_lt (x.above y c (PySem.mem_of_lookup h)))
 ·unfold start
  show _=N.length
  rw[List.length_append,List.length_map,List.length_replicate]
  omega
section
variable {P:Program}{w:World}{K:W.Frag}{mg:Str→Option Value}{base:Heap}
theorem Fun.okW{x qual:Str}{st:Stmt}{f:Addr}{fd:FuncData}{N ps:List Str}{k:Nat}{sp:Sp}(F:Fun K x qual st f fd)(S:FnScope N ps (d6 st))(len:∀vs H Q E,sp vs H Q E→vs.length=ps.length)
  (hbody:∀(cdv:Value) (A:Around) (outer:List Env) (s:Shared) (H:Hp) (vs:List V) (Q:VK),RoomW k (A.deeper (envOfC qual (d6 st) s.heap.objs.size f cdv))→sp vs H Q E0 →
   ∃t,PSs (a01 P w K mg base N qual (d6 st) f cdv A outer s H) (k7 st) t∧t { nx:=fun _ H'=>Q .non H',rt:=Q } (start N vs) H):FnOkW P w K mg base (k+1) f fd ps sp:=by
 obtain⟨oc,od,kV,doc,pm,an,cdv,ct,osl,rfl,lk,hcd⟩:=F.ex
 refine⟨len,fun A outer s H args us vs Q hr e0 hb r hsp=>?_⟩
 have hl:=len _ _ _ _ hsp
 have KX:K.In s.heap:=e0.mod.kin.keeps fun b o e=>(e0.bs b o e).1
 have lim:s.heap.NoLimit:=e0.mod.nolimit.keeps fun b o e=>(e0.bs b o e).1
 have hkind:∀y∈ps.zip us,(d6 st).names.lookup y.1=some .local∨((d6 st).names.lookup y.1=some .cell∧((cellsFrom (s.heap.objs.size+1) (d6 st).names []).lookup y.1).isSome=true):=fun⟨n,v⟩ hy=>by
  rcases S.par n (List.of_mem_zip hy).1 with q | q
  ·exact .inl q
  ·exact .inr ⟨q,W.cellsFrom_some _ _ _ (.inl q)⟩
 refine codeAny_call_function (by have:=hr.dp;omega) (KX _ _ lk) rfl S.co S.gen rfl (W.codeRec_of KX hcd) (hb _ _ _ _ ?_)
 refine wpAny_newFunctionEnv_cells S.kind hkind fun env he s1 x=>?_
 subst he
 refine⟨lim.keeps x.toInCall.keep,codeAny_func ?_⟩
 obtain⟨t,ht,hq⟩:=hbody cdv A outer s H vs Q (hr.deeper _) hsp
 have I:=a5b S e0 hl r x
 refine wpAny_mono (ht [] s1 (start N vs) H _ I hq) (fun fl s' hs=>?_) fun e s' hs=>hs.elim
 have fin:∀{σ':St} {H':Hp} {v:V} {u:Value},Inv (a01 P w K mg base N qual (d6 st) f cdv A outer s H) [] σ' H' s'→RelV v u→Q v H'→CE outer P w H s Q u s' :=
  fun{σ' H' v u} J rv q=>⟨v,H',J.os,J.bare,J.base,J.hok,rv,q⟩
 cases fl with
 | ret u =>
  obtain⟨v,σ',H',J,rv,q⟩:=hs
  exact fin J rv q
 | next =>
  obtain⟨σ',H',J,q⟩:=hs
  exact fin (v:=V.non) (u:=Value.none) J rfl q
 | brk =>
  obtain⟨_,_,_,q⟩:=hs
  exact False.elim q
 | cont =>
  obtain⟨_,_,_,q⟩:=hs
  exact False.elim q
end
section
variable {X:Cx}{k:Nat}{f:Addr}{fd:FuncData}{ps:List Str}{sp:Sp}{x:Str}{p pos:Pos}{e:Expr}{es:List Expr}{t:TA}
def a1r(sp:Sp)(t:TA):TE:=fun σ H Q=>t σ H fun vs H1=>sp vs H1 Q E0
theorem b2a(F:FnOkW X.prog X.w X.K X.mg X.base k f fd ps sp)(hr:RoomW k X.A)(hg:Gl X x)(hm:X.mg x=some (.ref f))(hk:W.keepIn X.K (.ref f)=true)(hb:Binds X.K fd ps [])
  (ha:PA X (e::es) t) (hdb:(x == ("__debug__" : Str))=false:=by decide) (he:starEach (e::es) X.env=(false,eval e X.env)::starEach es X.env:=by rfl) (hp:(backTo pos (starEach es X.env)).any (·.1)=false:=by rfl) :
  PE X (.Call (.Name x p) (e::es) [] pos) (a1r sp t):=by
 intro pins s σ H Q I hq
 refine wpAny_Call_Name_kw (Q8 I hg hm ?_ hdb)
 refine W.callWith_K (h₀:=X.base) I.ok.mod.kin hk (l3 (ha pos pins s σ H _ I hq) fun us s1 ⟨vs,H1,I1,r,q⟩=>⟨I1.kIn,?_⟩) he hp
 have hl:us.length=ps.length:=by rw[← r.length];exact F.len _ _ _ _ q
 have hl':(us++([]:List Value)).length=ps.length:=by rw[List.append_nil];exact hl
 refine wpAny_call (codeAny_mono (F.run X.A X.stack s1 H1 ⟨us,[]⟩ us vs Q hr I1.env0 (by have:=hb s1 us I1.kIn hl';rw[List.append_nil]at this;exact this) r q) fun r s' hq=>?_)
 cases r with
 | error e=>exact False.elim hq
 | ok fl =>
  cases fl with
  | ret u=>exact I1.after hq
  | next=>exact False.elim hq
  | brk=>exact False.elim hq
  | cont=>exact False.elim hq
end
def a4J:V→Option Value
 | .ty n=>some (.type n)
 | .ref a=>some (.ref a)
 | _=>none
theorem a87{y:V}{c u:Value}(e:a4J y=some c)(r:RelV y u):u=c:=by
 cases y with
 | ty n=>cases e;exact r
 | ref a=>cases e;exact r
 | _=>cases e
theorem a7w:∀{ys:List V} {cs us:List Value},ys.mapM a4J=some cs→Vals ys us→us=cs
 | [],cs,_,e,.nil=>by cases e;rfl
 | y::ys,cs,u::us,e,.cons r t=>by
  rw[List.mapM_cons]at e
  cases h1:a4J y with
  | none=>rw[h1]at e;cases e
  | some c =>
   cases h2:ys.mapM a4J with
   | none=>rw[h1,h2]at e;cases e
   | some cr =>
    rw[h1,h2]at e
    have e':c::cr=cs:=Option.some.inj e
    subst e'
    rw[a87 h1 r,a7w h2 t]
inductive TyX(K:W.Frag)(H:Hp):V→Value→Prop where
 | of {x:V} {t:Value} (h:TyOf K H x t):TyX K H x t
 | exc {a C:Addr} {cx:Option Addr} (h:H a=some (D2 a (.ref C) cx)) (T:W.ExcT K C):TyX K H (.ref a) (.ref C)
section
variable {X:Cx}{pins:List (Addr×Obj)}{σ:St}{H:Hp}{s:Shared}{A:Around}{E:Value→Shared→Prop}{Q:Value→Shared→Prop}
theorem TyX.kit{x:V}{u t:Value}(I:Inv X pins σ H s)(rx:RelV x u)(ty:TyX X.K H x t):∃Φ:Heap→Prop,W.KitX X.K u t Φ∧Φ s.heap∧u≠.builtin "__main__.__loader__#opaque" := by
 cases ty with
 | @exc a C cx h T =>
  cases (show u=Value.ref a from rx)
  obtain⟨⟨o,vs,h1,h2,h3,_⟩,_⟩:=(show ObjOk X.prog X.w H s.heap a (D2 a (.ref C) cx)from I.hok a _ h)
  exact⟨_,W.kitx_exc T,⟨o,vs,h1,h2,h3⟩,fun z=>nomatch z⟩
 | of h =>
 cases h with
 | non=>cases (show u=Value.none from rx);exact⟨_,W.kitx_none,True.intro,fun z=>nomatch z⟩
 | bl y=>cases (show u=Value.bool y from rx);exact⟨_,W.kitx_bool,True.intro,fun z=>nomatch z⟩
 | int i=>obtain⟨t,q⟩:=(show ∃t,u=Value.int i t from rx);cases q;exact⟨_,W.kitx_int,True.intro,fun z=>nomatch z⟩
 | str y=>obtain⟨t,q⟩:=(show ∃t,u=Value.str y t from rx);cases q;exact⟨_,W.kitx_str,True.intro,fun z=>nomatch z⟩
 | flt y=>obtain⟨t,q⟩:=(show ∃t,u=Value.float y t from rx);cases q;exact⟨_,W.kitx_float,True.intro,fun z=>nomatch z⟩
 | @lst a xs ea =>
  cases (show u=Value.ref a from rx)
  obtain⟨_,_,n,_,h1⟩:=(show ObjOk X.prog X.w H s.heap a (.lst xs)from I.hok a _ ea)
  exact⟨_,W.kitx_list,⟨_,h1,rfl⟩,fun z=>nomatch z⟩
 | @frz a ob xs ea =>
  cases (show u=Value.ref a from rx)
  obtain⟨_,_,_,n,_,h1⟩:=(show ObjOk X.prog X.w H s.heap a (.frz ob (.lst xs))from I.hok a _ ea)
  exact⟨_,W.kitx_list,⟨_,h1,rfl⟩,fun z=>nomatch z⟩
 | @tup a xs ea =>
  cases (show u=Value.ref a from rx)
  obtain⟨_,_,_,p⟩:=(show ObjOk X.prog X.w H s.heap a (.tup xs)from I.hok a _ ea)
  obtain⟨o,h1,h2,_⟩:=p
  exact⟨_,W.kitx_tuple,⟨o,h1,h2⟩,fun z=>nomatch z⟩
 | @dK a kvs ea =>
  cases (show u=Value.ref a from rx)
  obtain⟨_,_,vs,_,p⟩:=(show ObjOk X.prog X.w H s.heap a (.dK kvs)from I.hok a _ ea)
  obtain⟨o,es,ep,h1,h2,_⟩:=p
  exact⟨_,W.kitx_dict,⟨o,h1,h2.1⟩,fun z=>nomatch z⟩
 | @dT a kvs ea =>
  cases (show u=Value.ref a from rx)
  obtain⟨_,_,xs,_,o,es,ep,h1,h2,_⟩:=(show ObjOk X.prog X.w H s.heap a (.dT kvs)from I.hok a _ ea)
  exact⟨_,W.kitx_dict,⟨o,h1,h2.1⟩,fun z=>nomatch z⟩
 | @ins a C dx fs ea cl ha hn htk hm =>
  cases (show u=Value.ref a from rx)
  obtain⟨mA,O,_⟩:=b3R I.hok ea
  obtain⟨od,J,_⟩:=O.look
  exact⟨_,W.kitx_own (cl.get _) cl.hd ha hn htk hm,J,fun z=>nomatch z⟩
def a7x(K:W.Frag):List V→Hp→VK→Prop:=fun xs H Q=>∃x y t c b,xs=[x,y]∧a4J y=some c∧TyX K H x t∧W.kitOne K t c=some b∧Q (.bl b) H
theorem b2b:P4 X (.builtin "isinstance") (a7x X.K):=by
 intro pins s σ H xs us Q I r h
 obtain⟨x,y,t,c,b,rfl,e1,e2,e3,q⟩:=h
 obtain⟨u,v,rfl,r1,r2⟩:=b3o r
 obtain rfl:=a87 e1 r2
 obtain⟨Φ,Z,p,n⟩:=e2.kit I r1
 exact W.kia_one Z I.kIn p e3 n fun tk=>⟨.bl b,H,I.tok _,rfl,q⟩
def a9Y(K:W.Frag):List V→Hp→VK→Prop:=fun xs H Q=>∃x p ys t cs b,xs=[x,.ref p]∧H p=some (.tup ys)∧ys.mapM a4J=some cs∧TyX K H x t∧W.kitAny K t cs=some b∧Q (.bl b) H
theorem b0Q:P4 X (.builtin "isinstance") (a9Y X.K):=by
 intro pins s σ H xs us Q I r h
 obtain⟨x,p,ys,t,cs,b,rfl,e0,e1,e2,e3,q⟩:=h
 obtain⟨u,v,rfl,r1,r2⟩:=b3o r
 cases (show v=Value.ref p from r2)
 obtain⟨_,its,rv,o,ho,hc,n,hd⟩:=(show ObjOk X.prog X.w H s.heap p (.tup ys)from I.hok p _ e0)
 obtain rfl:=a7w e1 rv
 obtain⟨Φ,Z,pp,nn⟩:=e2.kit I r1
 obtain⟨oc,od,oda,osl⟩:=o
 dsimp only at hc hd
 subst hc hd
 exact W.kia_tup Z I.kIn pp ho e3 nn fun tk=>⟨.bl b,H,I.tok _,rfl,q⟩
end
def b2c:List V→List V→Bool
 | [],[]=>true
 | x::xs,y::ys=>eqV x y && b2c xs ys
 | _,_=>false
section
variable {X:Cx}{pins:List (Addr×Obj)}{σ:St}{H:Hp}{s:Shared}
theorem a6e:G4 X (binaryOp .Mult) (rI IntMulOk fun i j=>.int (i*j)):=opI fun _ _ _ _ _ _ _ hc q=>mul_int q hc
theorem J2:G4 X (binaryOp .FloorDiv) (rI (fun _ j=>0<j∧j.natAbs.log2<9000) fun i j=>.int (i/j)):=opI fun i j _ _ _ _ _ hc q=>by
 have h0:j≠0:=by have:=hc.1;omega
 refine floordiv_int h0 ?_ (.inl (PyProof.noPylong_of_log2 hc.2))
 rw[Int.fdiv_eq_ediv_of_nonneg _ (Int.le_of_lt hc.1)]
 exact q
end
open PySem.W PySem.Calls
theorem a8G{ns:List Int}(h:WData.layableAll [WData.list (ns.map WData.int)]=true):∀n∈ns,Builtin.Int.intBits n≤2 ^ 20:=fun n hn=>by
 have h1:(WData.list (ns.map WData.int)).layable=true:=layableW_arg h _ (List.mem_singleton.mpr rfl)
 have h2:=layableW_item h1 (WData.int n) (List.mem_map.mpr ⟨n,hn,rfl⟩)
 have h3:=(layableW_iff.mp h2).2.2
 simpa only[WData.weight,Builtin.Int.intBits]using h3
theorem walk_ofB{l:OpenLaw}{n k:Nat}{q:Program}{loose:List Str}{XP:(Str→Option Value)→Heap→Prop}{YP:World→Heap→Prop}{d:DefRec}{K:Params→Frag}{CX:World→CXT}{sp:World→Sp}{x:Str}
  (hn:l.most=some n) (hn2:n≤sizeLine) (hdf:d.params.defaults=[]) (hr:Room k callerA)
  (hY:∀(w:World) (h:Heap),YP w h→(K w.params).In h)
  (F:∀(w:World) (mg:Str→Option Value) (fa:Addr) (h:Heap),(K w.params).In h→h.Ns mainGlobals mg→mg d.name=some (.ref fa) →
   ∃fd:FuncData,(∀(s:Shared) (u:Value),BindsTo s fd ⟨[u],[]⟩ [(x,u)]) ∧
    ∀base:Heap,(K w.params).In base→base.Ns mainGlobals mg→FnOk l.prog w (K w.params) mg base (CX w) k fa fd [x] (sp w))
  (hsp:∀(w:World) (H:Hp) (a:Addr) (ns:List Int),ns.length≤n→(∀m∈ns,Builtin.Int.intBits m≤2 ^ 20)→a9V H→SqL (K w.params) H a (ns.map V.int)→sp w [.ref a] H (fun v _=>v=.bl true) fun _ _ _=>False)
  (hCX:∀(w:World) (H:Hp) (s:Shared) (e:Value) (s':Shared),CX w [] H s (fun _ _ _=>False) e s'→False) :
  WalkO q loose XP YP l.row.toRowW d [] (fun f vs=>PySem.call f vs):=by
 intro w s₀ s₁ mg mb G Y fa o pm cd doc dV kV ho hd hcd hD hmg hg args vals as hpre hlay hrd hwl hlo
 obtain rfl:dV=.none:=Dflts.none hD hdf
 obtain rfl:kV=.none:=Dflts.noKw hD
 obtain⟨a,vs,ns,rfl,rfl,hobj,hints,hlen⟩:=Att.script_of hn hpre hwl
 have KX:=hY w _ Y
 obtain⟨fd,hb,hF⟩:=F w mg fa _ KX G.T.g hmg
 refine enter_call (codeAny_mono (b18 KX G.T.g G.T.b G.T.builtins G.T.nolimit hg hobj hints (Nat.le_trans hlen hn2) hr hF hb (fun H hO hS=>hsp w H a ns hlen (a8G hlay) hO hS) fun H e s'=>hCX w H s₁ e s') fun r s' hq=>?_)
 obtain⟨rfl,h2,h3,h4⟩:=hq
 exact⟨.inl ⟨.bool true,.bool true,[],rfl,fun _=>rfl,.bool true,Att.post_true l _,fun _=>⟨List.Pairwise.nil,fun _ hm=>(nomatch hm)⟩⟩,h2,h3,h4⟩
theorem b6p{P:Program}{w:World}{outer:List Env}(H:Hp)(s:Shared)(e:Value)(s':Shared)(h:x9 P w outer H s (fun _ _ _=>False) e s'):False:=by
 obtain⟨_,_,_,_,_,_,_,_,_,_,_,_,_,_,_,_,hE⟩:=h
 exact hE
structure Own(P:Program)(w:World)(K:W.Frag)(mg:Str→Option Value)(base:Heap)(k:Nat)(x:Str)(ps:List Str)(sp:Sp):Prop where
 ex:∃f fd,FnOk P w K mg base (x9 P w) k f fd ps sp∧Binds K fd ps []∧W.keepIn K (.ref f)=true∧mg x=some (.ref f)
structure OwnD(P:Program)(w:World)(K:W.Frag)(mg:Str→Option Value)(base:Heap)(k:Nat)(x:Str)(ps:List Str)(sp:Sp)(d:V):Prop where
 ex:∃f fd du,FnOk P w K mg base (x9 P w) k f fd ps sp∧Binds K fd ps []∧Binds K fd ps [du]∧RelV d du∧W.keepIn K (.ref f)=true∧mg x=some (.ref f)
structure OwnW(P:Program)(w:World)(K:W.Frag)(mg:Str→Option Value)(base:Heap)(k:Nat)(x:Str)(ps:List Str)(sp:Sp):Prop where
 ex:∃f fd,FnOkW P w K mg base k f fd ps sp∧Binds K fd ps []∧W.keepIn K (.ref f)=true∧mg x=some (.ref f)
section
variable {X:Cx}{k k':Nat}{ps:List Str}{sp:Sp}{x:Str}{p pos:Pos}{e:Expr}{es:List Expr}{t:TA}{E:XK}{d:V}
theorem y1(G:Own X.prog X.w X.K X.mg X.base k x ps sp)(hr:Room k' X.A)(hk:k≤k')(hx:a26 (x9 X.prog X.w) X E)(ha:PA X (e::es) t)(hg:Gl X x:=by rfl)
  (hdb:(x == ("__debug__" : Str))=false:=by decide) (he:starEach (e::es) X.env=(false,eval e X.env)::starEach es X.env:=by rfl) (hpl:(backTo pos (starEach es X.env)).any (·.1)=false:=by rfl) :
  PE X (.Call (.Name x p) (e::es) [] pos) (a0Z sp [] E t):=by
 obtain⟨f,fd,F,b,kp,m⟩:=G.ex
 exact b3T F (hr.mono hk) hg m kp b .nil hx ha hdb he hpl
theorem b33(G:OwnW X.prog X.w X.K X.mg X.base k x ps sp)(hr:RoomW k' X.A)(ha:PA X (e::es) t)(hk:k≤k':=by decide)(hg:Gl X x:=by rfl)
  (hdb:(x == ("__debug__" : Str))=false:=by decide) (he:starEach (e::es) X.env=(false,eval e X.env)::starEach es X.env:=by rfl) (hpl:(backTo pos (starEach es X.env)).any (·.1)=false:=by rfl) :
  PE X (.Call (.Name x p) (e::es) [] pos) (a1r sp t):=by
 obtain⟨f,fd,F,b,kp,m⟩:=G.ex
 exact b2a F ⟨by have:=hr.dp;omega,by have:=hr.un;omega⟩ hg m kp b ha hdb he hpl
end
theorem a5c:bootBuiltins "int" = some (.type "int"):=by decide +kernel
theorem a88:bootBuiltins "bool" = some (.type "bool"):=by decide +kernel
theorem a6f:bootBuiltins "list" = some (.type "list"):=by decide +kernel
theorem a7y:bootBuiltins "tuple" = some (.type "tuple"):=by decide +kernel
theorem a69:bootBuiltins "ValueError" = some (.type "ValueError"):=by decide +kernel
theorem w8:bootBuiltins "isinstance" = some (.builtin "isinstance"):=by decide +kernel
theorem D6:bootBuiltins "len" = some (.builtin "len"):=by decide +kernel
theorem V5{H:Hp}{p:Addr}(h:H p=none)(o:HO):Same H (upd H p o):=fun b u q=>by rw[g8 (j8 q h)];exact q
def Scr(K:W.Frag)(H:Hp)(a:Addr)(xs:List V):Prop:=(∃o,H a=some (.frz o (.lst xs))) ∨
  ∃(o:Obj) (its:Array Value) (n:Nat),K.lookup a=some o∧o.cls=.type "list"∧o.dict=none∧o.data=.seq its n∧its.size≤sizeLine∧Vals xs its.toList
theorem Scr.seq{K:W.Frag}{H:Hp}{a:Addr}{xs:List V}(h:Scr K H a xs):SqL K H a xs:=h.elim (fun z=>.inl (.inr z)) .inr
theorem Scr.of{K:W.Frag}{H:Hp}{a:Addr}{xs:List V}(h:SqL K H a xs)(o:a9V H):Scr K H a xs:=by
 rcases h with(h | h) | h
 ·rcases o a with z | ⟨o,ys,z⟩
  ·rw[h]at z;cases z
  ·rw[h]at z;cases z
 ·exact .inl h
 ·exact .inr h
theorem Scr.same{K:W.Frag}{H H':Hp}{a:Addr}{xs:List V}(g:Same H H')(h:Scr K H a xs):Scr K H' a xs:=h.elim (fun⟨o,z⟩=>.inl ⟨o,g _ _ z⟩) .inr
theorem Scr.upd{K:W.Frag}{H:Hp}{a l:Addr}{xs ys:List V}{o:HO}(hl:H l=some (.lst ys))(h:Scr K H a xs):Scr K (L2.upd H l o) a xs:=h.elim (fun⟨ob,z⟩=>.inl ⟨ob,by rw[g8 (b6m z hl (by intro q;cases q))];exact z⟩) .inr
section
variable {prog:Program}{w:World}{A:Around}{R:Result→Shared→Prop}{s:Shared}
theorem a8H{elt target iter:Expr}{ifs:List Expr}{scope:Scope}{pos:Pos}{it acc:Value}{env:Env}{N:Value→Shared→Prop}(hN:N=notedBy (model prog w) A env fun e s'=>R (.error e) s')(I:Nat→Shared→Prop)
  (turn:∀n s,I n s→wpAny (model prog w) A (pyNext it) (fun r s₁=>match r with
   | none=>R (.ok .next) s₁
   | some v=>wpAny (model prog w) A (letOwnedTupleGo target it v) (fun _ s₁'=>wpAny (model prog w) A (assign target env v) (fun _ s₂ =>
     wpAny (model prog w) A (forIn ifs true fun c r=>if r=true then do let ok ← isTrue c env (eval c env);pure (ForInStep.yield ok)else pure (ForInStep.yield r)) (fun ok s₃ =>
      if ok=true then wpAny (model prog w) A (eval elt env) (fun x s₄ =>
       wpAny (model prog w) A (call (.builtin "list.append") [acc,x]) (fun _ s₅=>∃m,m<n∧I m s₅) N s₄) N s₃
      else ∃m,m<n∧I m s₃) N s₂) N s₁') N s₁) N s)
  (n:Nat) (h:I n s) :
  codeAny (model prog w) A (.compLoop (.ListComp elt [⟨target,iter,ifs,0⟩] scope pos) 0 it acc env) R s:=by
 subst hN
 refine codeAny_loop rfl I (fun k z q=>?_) n h
 show wpAny _ A ((compTurn (.ListComp elt [⟨target,iter,ifs,0⟩] scope pos) 0 it acc env).onRaise (fun ex=>do noteFrame ex env;theTreesLotGoes ex)) _ _ z
 refine wpAny_noted ?_
 rw[compTurn_list]
 refine wpAny_bind (wpAny_standAt (wpAny_bind (l3 (turn k z q) fun r z1 q1=>?_)))
 cases r with
 | none=>exact wpAny_pure q1
 | some v =>
  refine wpAny_bind (l3 q1 fun _ z2 q2=>?_)
  refine wpAny_bind (l3 q2 fun _ z3 q3=>?_)
  refine wpAny_bind (l3 q3 fun ok z4 q4=>?_)
  cases ok with
  | false=>exact wpAny_pure ⟨rfl,q4⟩
  | true=>exact wpAny_bind (wpAny_bind (l3 q4 fun x z5 q5=>wpAny_bind (l3 q5 fun _ z6 q6=>wpAny_pure (wpAny_pure ⟨rfl,q6⟩))))
end
def D1(cells:List (Str×Addr)):List (Str×NameKind)→List (Str×Addr)→List (Str×Addr)
 | [],acc=>acc
 | (n,k)::r,acc=>if k == .free then(match cells.lookup n with
   | some c=>D1 cells r ((n,c)::acc)
   | none=>D1 cells r acc)else D1 cells r acc
theorem a02{cells:List (Str×Addr)}{x:Str}{c:Addr}:∀{names:List (Str×NameKind)} {acc:List (Str×Addr)},(∀d,acc.lookup x=some d→cells.lookup x=some d)→(D1 cells names acc).lookup x=some c→cells.lookup x=some c
 | [],acc,h,e=>h c e
 | (n,k)::r,acc,h,e=>by
  unfold D1 at e
  split at e
  ·split at e
   ·rename_i c' hc'
    refine a02 (fun d q=>?_) e
    rw[List.lookup_cons]at q
    split at q
    ·rename_i hx
     have hx':x=n:=by simpa using hx
     cases q
     rw[hx'];exact hc'
    ·exact h d q
   ·exact a02 h e
  ·exact a02 h e
theorem W5{cells:List (Str×Addr)}{x:Str}:∀{names:List (Str×NameKind)} {acc:List (Str×Addr)},(∃d,acc.lookup x=some d)→∃d,(D1 cells names acc).lookup x=some d
 | [],acc,h=>h
 | (n,k)::r,acc,h=>by
  unfold D1
  split
  ·split
   ·refine W5 ?_
    rw[List.lookup_cons]
    split
    ·exact⟨_,rfl⟩
    ·exact h
   ·exact W5 h
  ·exact W5 h
theorem X3{cells:List (Str×Addr)}{x:Str}:∀{names:List (Str×NameKind)} {acc:List (Str×Addr)},(x,NameKind.free)∈names→(∃c,cells.lookup x=some c)→∃d,(D1 cells names acc).lookup x=some d
 | [],acc,h,_=>by simp at h
 | (n,k)::r,acc,h,hc=>by
  unfold D1
  rcases List.mem_cons.mp h with e | h
  ·cases e
   obtain⟨c,hc⟩:=hc
   rw[if_pos (by rfl),hc]
   exact W5 ⟨c,by simp[List.lookup_cons]⟩
  ·split
   ·split
    ·exact X3 h hc
    ·exact X3 h hc
   ·exact X3 h hc
theorem a2v{env:Env}:∀(names:List (Str×NameKind)) (acc:List (Str×Addr)),(∀y∈names,y.2=.free→∃c,env.cells.lookup y.1=some c) →
  (forIn names acc fun(x:Str×NameKind) (cs:List (Str×Addr))=>if(x.2 == NameKind.free)=true then do let a ← cellOf env x.1;pure (ForInStep.yield ((x.1,a)::cs))else pure (ForInStep.yield cs):Sem (List (Str×Addr)))=pure (D1 env.cells names acc)
 | [],acc,_=>rfl
 | (n,k)::r,acc,h=>by
  rw[List.forIn_cons]
  unfold D1
  by_cases hk:(k == NameKind.free)=true
  ·obtain⟨c,hc⟩:=h (n,k) List.mem_cons_self (by simpa using hk)
   have e:cellOf env n=pure c:=by unfold cellOf;rw[hc]
   rw[if_pos hk,if_pos hk,hc,e]
   exact a2v r _ fun y hy=>h y (List.mem_cons_of_mem _ hy)
  ·rw[if_neg hk,if_neg hk]
   exact a2v r acc fun y hy=>h y (List.mem_cons_of_mem _ hy)
theorem a1j{scope:Scope}{env:Env}(h:∀y∈scope.names,y.2=.free→∃c,env.cells.lookup y.1=some c):closureFor scope env=pure (D1 env.cells scope.names []):=by
 have:=a2v (env:=env) scope.names [] h
 unfold closureFor
 exact(congrArg (· >>= pure) this).trans (by first | rfl | simp)
theorem N2{env:Env}:∀{names:List (Str×NameKind)} {x:Str} {k':NameKind},
  (names.map fun(n,k)=>if(k == NameKind.free && env.scope.kind == .function && env.kindOf n == some .cell)then(n,NameKind.cell)else(n,k)).lookup x=some k' →
  ∃k,names.lookup x=some k∧(k'=k∨(k=.free∧k'=.cell))
 | [],_,_,h=>by simp at h
 | (n,k)::r,x,k',h=>by
  rw[List.map_cons]at h
  dsimp only at h
  by_cases hc:(k == NameKind.free && env.scope.kind == .function && env.kindOf n == some .cell)=true
  ·rw[if_pos hc,List.lookup_cons]at h
   rw[List.lookup_cons]
   split at h
   ·rename_i hx
    cases h
    have hk:k=.free:=by
     have:=(Bool.and_eq_true _ _▸(Bool.and_eq_true _ _▸hc).1).1
     simpa using this
    exact⟨k,rfl,.inr ⟨hk,rfl⟩⟩
   ·rename_i hx
    obtain⟨k2,q1,q2⟩:=N2 h
    exact⟨k2,q1,q2⟩
  ·rw[if_neg hc,List.lookup_cons]at h
   rw[List.lookup_cons]
   split at h
   ·rename_i hx
    cases h
    exact⟨k,rfl,.inl rfl⟩
   ·rename_i hx
    obtain⟨k2,q1,q2⟩:=N2 h
    exact⟨k2,q1,q2⟩
theorem K9{env:Env}:∀{names:List (Str×NameKind)} {x:Str},names.lookup x=some .free →
  (names.map fun(n,k)=>if(k == NameKind.free && env.scope.kind == .function && env.kindOf n == some .cell)then(n,NameKind.cell)else(n,k)).lookup x=some .cell ∨
  (names.map fun(n,k)=>if(k == NameKind.free && env.scope.kind == .function && env.kindOf n == some .cell)then(n,NameKind.cell)else(n,k)).lookup x=some .free
 | [],_,h=>by simp at h
 | (n,k)::r,x,h=>by
  rw[List.map_cons]
  dsimp only
  rw[List.lookup_cons]at h
  by_cases hc:(k == NameKind.free && env.scope.kind == .function && env.kindOf n == some .cell)=true
  ·rw[if_pos hc,List.lookup_cons]
   split at h
   ·rename_i hx
    left;rfl
   ·rename_i hx
    exact K9 (env:=env) h
  ·rw[if_neg hc,List.lookup_cons]
   split at h
   ·rename_i hx
    right;exact h
   ·rename_i hx
    exact K9 (env:=env) h
structure CompSc(Sc scope:Scope)(N Nc:List Str)(k:Nat)(js:List Nat):Prop where
 cell:∀y∈scope.names,y.2≠.cell
 kind:scope.kind=.function
 names:∀y∈scope.names,y.2=.local→scope.names.lookup y.1=some .local
 free:∀y∈scope.names,y.2=.free→Sc.names.lookup y.1=some .cell∨Sc.names.lookup y.1=some .free
 nd:Nc.Nodup
 len:Nc.length=k+js.length
 cap:(Nc.drop k).map some=js.map fun j=>N[j]?
 caps:∀x∈Nc.drop k,scope.names.lookup x=some .free
def u2(k:Nat)(js:List Nat)(σ:St):St:=List.replicate k none++js.map fun j=>(σ[j]?).getD none
theorem a0o{names:List (Str×NameKind)}{x:Str}{k:NameKind}(h:names.lookup x=some k):(x,k)∈names:=PySem.mem_of_lookup h
abbrev t8(X:Cx)(scope:Scope)(Nc:List Str)(C:Addr)(s3:Shared)(H3:Hp)(fp:List Addr)(xe:Value→Shared→Prop):Cx :=
 { X with N:=Nc,s₀:=s3,H₀:=H3,env:=compEnvC scope (D1 X.env.cells scope.names []) C X.env,outer:=X.stack,ex:=fp,fn:=fun _=>false,pn:=[],xe:=xe }
section
variable {X:Cx}{pins:List (Addr×Obj)}{σ:St}{H3:Hp}{s3:Shared}{scope:Scope}{Nc:List Str}{k:Nat}{js:List Nat}{fp:List Addr}{xe:Value→Shared→Prop}{h₁:Heap}{m₀:Str→Option Value}{tk:Nat}
theorem a2w(I:Inv X pins σ H3 s3)(S:CompSc X.env.scope scope X.N Nc k js):∀y∈scope.names,y.2=.free→∃c,X.env.cells.lookup y.1=some c:=fun y hy hk=>I.ok.has y.1 (S.free y hy hk)
theorem P9{x:Str}{c:Addr}(e:(D1 X.env.cells scope.names []).lookup x=some c):X.env.cells.lookup x=some c:=a02 (fun d q=>by simp at q) e
theorem b2d(I:Inv X pins σ H3 s3)(S:CompSc X.env.scope scope X.N Nc k js)(hf:∀b∈fp,FpOk X pins H3 b)(hfo:∀b∈fp,b<s3.heap.objs.size)(hns:h₁.Ns s3.heap.objs.size m₀)(old:∀b o,s3.heap.get? b=some o→h₁.get? b=some o) :
  Inv (t8 X scope Nc s3.heap.objs.size s3 H3 fp xe) [] (u2 k js σ) H3 { s3 with heap:=h₁,toks:=tk }:=by
 have ok:=I.ok
 have hb0:∀b o,X.base.get? b=some o→b<X.s₀.heap.objs.size:=fun b o e=>Nat.lt_of_lt_of_le (Heap.lt_size e) ok.bsz
 refine⟨⟨ok.mod,S.kind,ok.glob,ok.blt,Nat.le_refl _,fun x y c h1 h2=>ok.inj x y c (P9 h1) (P9 h2),fun x hx=>?_,(fun x c z=>nomatch z),ok.hd,ok.frames,.inl rfl,fun b hb=>⟨Nat.ne_of_lt (hfo b hb),fun x c e=>(hf b hb).2.2.2.2.1 x c (P9 e)⟩,I.bs,Nat.le_trans ok.bsz I.sz,fun b o e hb=>?_,fun b hb z=>?_,I.stack,I.stkFree⟩,
  rfl,I.bare,Un.kept old,⟨m₀,hns,fun i x v e1 e2 e3=>?_⟩,fun x c e=>?_,I.hok.fresh (Nat.le_refl _),fun x c e=>I.freeC x c (P9 e),fun p hp=>absurd (show p∈([]:List (Addr×Obj))from hp) (by simp),I.hok.kept old,?_⟩
 ·have hx:(relabel scope X.env).names.lookup x=some .cell∨(relabel scope X.env).names.lookup x=some .free:=hx
  have hfree:scope.names.lookup x=some .free:=by
   rcases hx with hx | hx
   ·obtain⟨k2,q1,q2⟩:=N2 (env:=X.env) hx
    rcases q2 with q2 | ⟨q2,_⟩
    ·subst q2;exact absurd rfl (S.cell _ (a0o q1))
    ·rw[q2]at q1;exact q1
   ·obtain⟨k2,q1,q2⟩:=N2 (env:=X.env) hx
    rcases q2 with q2 | ⟨q2,q3⟩
    ·subst q2;exact q1
    ·cases q3
  exact X3 (a0o hfree) (ok.has x (S.free _ (a0o hfree) rfl))
 ·rcases(hf b hb).2.2.2.1 with z | z
  ·exact ok.noex b o e z
  ·exact absurd (Nat.lt_of_lt_of_le (hb0 b o e) z) (Nat.lt_irrefl _)
 ·rcases List.mem_cons.mp (I.stkSub b z)with q | q
  ·exact(hf b hb).2.1 q
  ·exact(hf b hb).2.2.1 q
 ·have hlen:(List.replicate k (none:Option V)).length=k:=List.length_replicate
  by_cases hi:i<k
  ·unfold u2 at e2
   rw[List.getElem?_append_left (by omega),List.getElem?_replicate]at e2
   split at e2<;>cases e2
  ·unfold u2 at e2
   rw[List.getElem?_append_right (by omega),hlen,List.getElem?_map]at e2
   cases hj:js[i-k]? with
   | none=>rw[hj]at e2;cases e2
   | some j =>
    rw[hj]at e2
    have e2':(σ[j]?).getD none=some v:=Option.some.inj e2
    have hσ:σ[j]? = some (some v):=by
     cases q:σ[j]? with
     | none=>rw[q]at e2';cases e2'
     | some y=>rw[q]at e2';simp at e2';rw[e2']
    have hx:(Nc.drop k)[i-k]? = some x:=by rw[List.getElem?_drop];rw[show k+(i-k)=i by omega];exact e1
    have hNj:X.N[j]? = some x:=by
     have:=congrArg (fun l=>l[i-k]?) S.cap
     simp only[List.getElem?_map,hx,hj,Option.map_some]at this
     exact(Option.some.inj this).symm
    have hfr:scope.names.lookup x=some .free:=S.caps x (List.mem_of_getElem? hx)
    have hk:=S.free _ (a0o hfr) rfl
    obtain⟨m,hn,hl⟩:=I.loc
    obtain⟨u,r,l⟩:=hl j x v hNj hσ (.inr hk)
    refine⟨u,r,.inr ⟨K9 hfr,?_⟩⟩
    rcases l with⟨l1,_⟩ | ⟨_,c,hc,hcell⟩
    ·have l1:X.env.scope.names.lookup x=some .local:=l1
     rcases hk with hk | hk
     ·rw[l1]at hk;cases hk
     ·rw[l1]at hk;cases hk
    ·obtain⟨d,hd⟩:=X3 (cells:=X.env.cells) (acc:=[]) (a0o hfr) ⟨c,hc⟩
     have:=P9 hd
     rw[hc]at this;cases this
     obtain⟨o,ho,hdd⟩:=hcell
     exact⟨c,hd,⟨o,old _ _ ho,hdd⟩⟩
 ·obtain⟨v,o,ho,hd⟩:=I.cell x c (P9 e)
  exact⟨v,o,old _ _ ho,hd⟩
 ·unfold u2
  rw[List.length_append,List.length_replicate,List.length_map]
  exact S.len.symm
end
def PF(X:Cx)(ifs:List Expr)(t:TT):Prop :=
 ∀(pins:List (Addr×Obj)) (s:Shared) (σ:St) (H:Hp) (Q:Bool→Hp→Prop),Inv X pins σ H s→t σ H Q →
  wpAny (model X.prog X.w) X.A (forIn ifs true fun c r=>if r=true then do let ok ← isTrue c X.env (eval c X.env);pure (ForInStep.yield ok)else pure (ForInStep.yield r)) (TP X pins σ Q) X.xe s
def b3r:TT:=fun _ H Q=>Q true H
theorem X4{X:Cx}:PF X [] b3r:=fun pins s σ H Q I h=>wpAny_tests_nil ⟨H,I,h⟩
theorem b5t{X:Cx}{c:Expr}{t:TT}(h:PT X c t):PF X [c] t:=fun pins s σ H Q I q=>wpAny_tests_one (h pins s σ H Q I q)
def S9(J:It)(g:TG)(tf:TT)(te:TE)(k:Nat)(σ0:St)(D:Addr)(Fin:Hp→Prop)(H1:Hp):Prop :=
 ∃W:Nat→Nat→List V→Hp→Prop,(∃m,W 0 m [] (upd H1 D (.lst [])))∧∀i m ys H,W i m ys H →
  (J.stop i H∧Fin H)∨(J.go i H∧∃N:List V→Hp→Prop,(∀ys' H',N ys' H'→∃m',m'<m∧W (i+1) m' ys' H')∧∀x H',J.yld i H x H'→g x σ0 H' fun σ2 H2=>(σ2.drop k=σ0.drop k∧σ2.length=σ0.length)∧tf σ2 H2 fun b H3 =>
   if b=true then te σ2 H3 fun y H4=>H4 D=some (.lst ys)∧ys.length<sizeLine∧N (ys++[y]) (upd H4 D (.lst (ys++[y])))else N ys H3)
section
variable {X:Cx}{pins:List (Addr×Obj)}{σ:St}{H:Hp}{s:Shared}{elt tg iter:Expr}{ifs:List Expr}{scope:Scope}{pos:Pos}{Nc:List Str}{k:Nat}{js:List Nat}{g:TG}{tf:TT}{te:TE}
theorem a2x{J:It}{fp:List Addr}{it:Addr}{tn:Nat→Heap→Prop}{E:Value→Shared→Prop}{RR:Value→Addr→Result→Shared→Prop}{Fin:Addr→Hp→Prop}(hc:X.calm=true)(S:CompSc X.env.scope scope X.N Nc k js)
  (hg:∀C s3 H3 fp xe,PG (t8 X scope Nc C s3 H3 fp xe) tg g) (hf:∀C s3 H3 fp xe,PF (t8 X scope Nc C s3 H3 fp xe) ifs tf)
  (he:∀C D H3,∃xe:Value→Shared→Prop,(∀e s',xe e s'→notedBy (model X.prog X.w) X.A (compEnvC scope (D1 X.env.cells scope.names []) C X.env) (fun e s'=>RR (.ref D) C (.error e) s') e s') ∧
   ∀s3,Inv X pins σ H3 s3→C=s3.heap.objs.size→(∀b∈fp,FpOk X pins H3 b)→PE (t8 X scope Nc C s3 H3 fp xe) elt te)
  (I2:Inv X pins σ H s) (T:Turn X.prog X.w X.K tg J fp it tn) (st2:tn 0 s.heap) (f2:∀b∈fp,FpOk X pins H b) (hR:∀D,H D=none→S9 J g tf te k (u2 k js σ) D (Fin D) H)
  (hRR:∀D C H' s' m',Inv X pins σ H' s'→s'.heap.Ns C m'→H' C=none→C≠X.env.locals→X.s₀.heap.objs.size≤C→(∀x c,X.env.cells.lookup x=some c→c≠C)→(∀p∈X.pn++pins,p.1≠C)→Fin D H'→RR (.ref D) C (.ok .next) s') :
  wpAny (model X.prog X.w) X.A (newList []) (fun acc s₃=>wpAny (model X.prog X.w) X.A (newFunctionEnv scope X.env.globals (D1 X.env.cells scope.names []) [] X.env.qual none .none (some X.env)) (fun cenv s₄ =>
   codeAny (model X.prog X.w) X.A (.compStart (.ListComp elt [⟨tg,iter,ifs,0⟩] scope pos) 0 (.ref it) acc { cenv with scope:=relabel scope X.env }) (RR acc cenv.locals) s₄) E s₃) E s:=by
 refine wpAny_newObj_type (wpAny_newFunctionEnv S.cell (by intro y hy;simp at hy) (fun h₁ hns₁ hsb₁=>?_) S.kind)
 dsimp only at hns₁ hsb₁ ⊢
 have I3:Inv X pins σ (upd H s.heap.objs.size (.lst [])) { s with heap:=s.heap.push { cls:=.type "list",data:=.seq ([]:List Value).toArray },toks:=s.toks }:=I2.lnew (its:=[]) .nil (Nat.zero_le _)
 have hDn:H s.heap.objs.size=none:=I2.fresh
 obtain⟨W,⟨m0,w0⟩,turn⟩:=hR _ hDn
 generalize hs3:({ s with heap:=s.heap.push { cls:=.type "list",data:=.seq ([]:List Value).toArray },toks:=s.toks }:Shared)=s3 at I3
 have e3:s3.heap=s.heap.push { cls:=.type "list",dict:=none,data:=.seq ([]:List Value).toArray }:=by rw[← hs3]
 rw[← e3]at hns₁ hsb₁ ⊢
 have fpo:∀b∈fp,b<s.heap.objs.size:=fun b hb=>by obtain⟨o,e,_⟩:=T.obj _ _ st2 b hb;exact Heap.lt_size e
 have sz3:s3.heap.objs.size=s.heap.objs.size+1:=by rw[e3,Heap.size_push]
 have fpo3:∀b∈fp,b<s3.heap.objs.size:=fun b hb=>by rw[sz3];exact Nat.lt_succ_of_lt (fpo b hb)
 have f3:∀b∈fp,FpOk X pins (upd H s.heap.objs.size (.lst [])) b:=fun b hb=>⟨by rw[g8 (Nat.ne_of_lt (fpo b hb))];exact(f2 b hb).1,(f2 b hb).2⟩
 have old:∀b o,s3.heap.get? b=some o→h₁.get? b=some o:=fun b o e=>hsb₁.extBut b o (Nat.ne_of_lt (Heap.lt_size e)) (Heap.get?_push_of_some _ e)
 have oldS:∀b o,s.heap.get? b=some o→h₁.get? b=some o:=fun b o e=>old b o (by rw[e3];exact Heap.get?_push_of_some _ e)
 obtain⟨xe,hxe,hel⟩:=he s3.heap.objs.size s.heap.objs.size (upd H s.heap.objs.size (.lst []))
 have hel:=hel s3 I3 rfl f3
 have I4:Inv (t8 X scope Nc s3.heap.objs.size s3 (upd H s.heap.objs.size (.lst [])) fp xe) [] (u2 k js σ) (upd H s.heap.objs.size (.lst [])) { s3 with heap:=h₁,toks:=s.toks+([]:List (Str×Value)).length } :=
  b2d I3 S f3 fpo3 hns₁ old
 have st4:tn 0 h₁:=T.keep _ _ _ st2 fun b hb o e=>oldS b o e
 have es3:({ s3 with heap:=h₁,toks:=s.toks+([]:List (Str×Value)).length }:Shared)={ s with heap:=h₁,toks:=s.toks+([]:List (Str×Value)).length }:=by rw[← hs3]
 rw[es3]at I4
 have ok:=I2.ok
 have lk:=I3.lt
 have hCL:s3.heap.objs.size≠X.env.locals:=Nat.ne_of_gt lk
 have stat:∀{H':Hp},(∀b∈fp,H' b=none)→∀b∈fp,FpOk (t8 X scope Nc s3.heap.objs.size s3 (upd H s.heap.objs.size (.lst [])) fp xe) [] H' b:=fun hn b hb =>
  ⟨hn b hb,Nat.ne_of_lt (fpo3 b hb),fun z=>(List.mem_cons.mp (I3.stkSub b z)).elim (fun q=>(f3 b hb).2.1 q) fun q=>(f3 b hb).2.2.1 q,.inl hb,fun x c e=>(f3 b hb).2.2.2.2.1 x c (P9 e),fun p hp=>absurd (show p∈([]:List (Addr×Obj))from hp) (by simp)⟩
 have loop:codeAny (model X.prog X.w) X.A (.compLoop (.ListComp elt [⟨tg,iter,ifs,0⟩] scope pos) 0 (.ref it) (.ref s.heap.objs.size) (compEnvC scope (D1 X.env.cells scope.names []) s3.heap.objs.size X.env))
    (RR (.ref s.heap.objs.size) s3.heap.objs.size) { s with heap:=h₁,toks:=s.toks+([]:List (Str×Value)).length }:=by
  refine a8H rfl (fun n s'=>∃i ys H',Inv (t8 X scope Nc s3.heap.objs.size s3 (upd H s.heap.objs.size (.lst [])) fp xe) [] (u2 k js σ) H' s'∧tn i s'.heap∧(∀b∈fp,H' b=none)∧W i n ys H') ?_ m0 ⟨0,[],_,I4,st4,fun b hb=>(f3 b hb).1,w0⟩
  rintro n s5 ⟨i,ys,H5,I5,st5,fr5,w5⟩
  rcases turn i n ys H5 w5 with⟨stop,fin⟩ | ⟨go,Nx,hNx,step⟩
  ·refine l3 (T.done (t8 X scope Nc s3.heap.objs.size s3 (upd H s.heap.objs.size (.lst [])) fp xe) rfl rfl rfl hc i [] s5 (u2 k js σ) H5 _ I5 (stat fr5) st5 stop) fun r s6 ⟨hr,I6⟩=>?_
   subst hr
   obtain⟨m6,hn6,_⟩:=I6.loc
   have J:Inv X pins σ H5 s6:=I3.call' (ch:=fp) (I6.os.trans rfl) I6.base I6.hok I6.bare fun b hb=>⟨(f3 b hb).2.2.2.1,(f3 b hb).2.1,(f3 b hb).2.2.2.2.1,(f3 b hb).2.2.2.2.2⟩
   refine hRR _ _ H5 s6 m6 J hn6 I6.free hCL (I3.sz) (fun x c e z=>?_) (fun p hp z=>?_) fin
   ·obtain⟨v,q⟩:=I3.cell x c e
    exact absurd q.lt (by rw[z];exact Nat.lt_irrefl _)
   ·exact absurd (Heap.lt_size (I3.pin p hp).1) (by rw[z];exact Nat.lt_irrefl _)
  ·refine l3 (T.item (t8 X scope Nc s3.heap.objs.size s3 (upd H s.heap.objs.size (.lst [])) fp xe) rfl rfl rfl hc i [] s5 (u2 k js σ) H5 _ I5 (stat fr5) st5 go) fun r s6 ⟨u,hr,h6⟩=>?_
   subst hr
   refine l3 h6 fun _ s7 ⟨x,H7,I7,r7,y7,st7,fr7⟩=>?_
   have I7':=I7.pinned (stat fr7) (T.obj _ _ st7)
   refine wpAny_mono (hg _ _ _ _ _ _ s7 _ H7 x u _ I7' r7 (step x H7 y7)) (fun _ s8 ⟨σ8,H8,I8,⟨d8,l8⟩,q8⟩=>?_) fun e s' z=>hxe e s' z
   refine wpAny_mono (hf _ _ _ _ _ _ s8 σ8 H8 _ I8 q8) (fun b s9 ⟨H9,I9,q9⟩=>?_) fun e s' z=>hxe e s' z
   have again:∀{H':Hp} {s':Shared} {ys':List V},Inv (t8 X scope Nc s3.heap.objs.size s3 (upd H s.heap.objs.size (.lst [])) fp xe) ([]++a1p fp s7.heap) σ8 H' s'→Nx ys' H' →
     ∃m,m<n∧∃i ys H',Inv (t8 X scope Nc s3.heap.objs.size s3 (upd H s.heap.objs.size (.lst [])) fp xe) [] (u2 k js σ) H' s'∧tn i s'.heap∧(∀b∈fp,H' b=none)∧W i m ys H':=fun{H' s' ys'} I' hw=>by
    obtain⟨m',hm,w'⟩:=hNx _ _ hw
    refine⟨m',hm,i+1,ys',H',(I'.unpinned).weak l8.symm fun j v e=>?_,T.keep _ _ _ st7 fun b hb o e=>(I'.pin (b,o) (List.mem_append_right _ (List.mem_append_right _ (N1 hb e)))).1,fun b hb=>?_,w'⟩
    ·by_cases hj:j<k
     ·unfold u2 at e
      rw[List.getElem?_append_left (by rw[List.length_replicate];exact hj),List.getElem?_replicate]at e
      split at e<;>cases e
     ·have e':((u2 k js σ).drop k)[j-k]? = some (some v):=by rw[List.getElem?_drop,show k+(j-k)=j by omega];exact e
      rw[← d8,List.getElem?_drop,show k+(j-k)=j by omega]at e'
      exact e'
    ·obtain⟨o,e,d⟩:=T.obj _ _ st7 b hb
     exact(I'.pin (b,o) (List.mem_append_right _ (List.mem_append_right _ (N1 hb e)))).2.1
   cases b with
   | false =>
    rw[if_neg Bool.false_ne_true]at q9 ⊢
    exact again I9 q9
   | true =>
    rw[if_pos rfl]at q9 ⊢
    refine wpAny_mono (hel _ s9 σ8 H9 _ I9 q9) (fun v s10 ⟨y,H10,I10,r10,hD,hz,w'⟩=>?_) fun e s' z=>hxe e s' z
    refine wpAny_mono (G5 (X:=t8 X scope Nc s3.heap.objs.size s3 (upd H s.heap.objs.size (.lst [])) fp xe) _ s10 σ8 H10 (.ref s.heap.objs.size) [y] (.ref s.heap.objs.size) [v] (fun _ H'=>H'=upd H10 s.heap.objs.size (.lst (ys++[y]))) I10 rfl (.cons r10 .nil)
     ⟨_,ys,y,rfl,rfl,hD,hz,rfl⟩) (fun _ s11 ⟨_,H11,I11,_,q11⟩=>?_) fun e s' z=>hxe e s' z
    subst q11
    exact again I11 w'
 exact codeAny_compStart_list loop (T.self _ 0 _ _ _ st4 loop)
end
def a32(wi:TI)(g:TG)(tf:TT)(te:TE)(k:Nat)(js:List Nat):TE:=fun σ H Q=>wi σ H fun J H1=>∀D,H1 D=none→S9 J g tf te k (u2 k js σ) D (fun H'=>Q (.ref D) H') H1
def a7z(i:Nat)(wi:TI)(g:TG)(tf:TT)(te:TE)(k:Nat)(js:List Nat):TS:=fun N σ H=>wi σ H fun J H1=>∀D,H1 D=none→S9 J g tf te k (u2 k js σ) D (fun H'=>N.nx (σ.set i (some (.ref D))) H') H1
section
variable {X:Cx}{elt tg iter:Expr}{ifs:List Expr}{scope:Scope}{pos:Pos}{Nc:List Str}{k:Nat}{js:List Nat}{wi:TI}{g:TG}{tf:TT}{te:TE}
theorem a33(hc:X.calm=true)(S:CompSc X.env.scope scope X.N Nc k js)(hi:PI X tg iter wi)(hg:∀C s3 H3 fp xe,PG (t8 X scope Nc C s3 H3 fp xe) tg g)(hf:∀C s3 H3 fp xe,PF (t8 X scope Nc C s3 H3 fp xe) ifs tf)
  (he:∀C s3 H3 fp xe,PE (t8 X scope Nc C s3 H3 fp xe) elt te) (hs:∀x,foldedSetIterable iter X.env x=pure x:=by intro _;rfl):PE X (.ListComp elt [⟨tg,iter,ifs,0⟩] scope pos) (a32 wi g tf te k js):=by
 intro pins s σ H Q I h
 rw[eval_ListComp]
 refine wpAny_comprehension_free (use:=none) rfl hs (a1j (a2w I S)) S.kind S.names (l3 (hi pins s σ H _ I h) fun v s1 h1=>l3 h1 fun itv s2 h2=>?_)
 obtain⟨it,fp,tn,J,H2,rfl,I2,T,st2,f2,hR⟩:=h2
 refine a2x (RR:=fun acc C=>compPost (model X.prog X.w) X.A X.xe none (EP X pins σ Q) acc C) (Fin:=fun D H'=>Q (.ref D) H') hc S hg hf (fun C D H3=>⟨fun _ _=>False,fun _ _ z=>z.elim,fun s3 _ _ _=>he _ _ _ _ _⟩) I2 T st2 f2 hR ?_
 intro D C H' s' m' I' hn hC hCL hsz hcl hpn q
 exact⟨m',hn,fun h' hs'=>⟨.ref D,H',I'.turned (t':=s'.toks) (fun b o hb e=>(hs'.2 b hb).trans e) hC hCL (.inr hsz) hcl hpn,rfl,q⟩⟩
theorem Z6{i:Nat}{y:Str}{py spos:Pos}(hc:X.calm=true)(S:CompSc X.env.scope scope X.N Nc k js)(hN:X.N.Nodup)(hy:X.N[i]? = some y)(hi:PI X tg iter wi)(hg:∀C s3 H3 fp xe,PG (t8 X scope Nc C s3 H3 fp xe) tg g)(hf:∀C s3 H3 fp xe,PF (t8 X scope Nc C s3 H3 fp xe) ifs tf)
  (he:∀C s3 H3 fp xe,PE (t8 X scope Nc C s3 H3 fp xe) elt te) (hl:X.env.scope.names.lookup y=some .local:=by rfl) (hs:∀x,foldedSetIterable iter X.env x=pure x:=by intro _;rfl)
  (hsw:swapsWith (.ListComp elt [⟨tg,iter,ifs,0⟩] scope pos) (some (.Name y py)) spos.line X.env=pure true:=by rfl):PS X (.Assign [.Name y py] (.ListComp elt [⟨tg,iter,ifs,0⟩] scope pos) spos) (a7z i wi g tf te k js):=by
 intro pins s σ H N I h
 rw[exec_Assign_Name_used _ _ _ _ hsw]
 refine wpAny_bind (wpAny_standAt (wpAny_bind ?_))
 show wpAny _ X.A (do let _ ← comprehension (.ListComp elt [⟨tg,iter,ifs,0⟩] scope pos) scope X.env _ (newList []) false (eval iter X.env) (some (assign (.Name y py) X.env))) _ _ s
 refine wpAny_bind (l3 (wpAny_comprehension_free (use:=some (assign (.Name y py) X.env)) (Q:=fun _ z=>SP X pins N .next z) rfl hs (a1j (a2w I S)) S.kind S.names
  (l3 (hi pins s σ H _ I h) fun v s1 h1=>l3 h1 fun itv s2 h2=>?_)) fun _ z hq=>wpAny_pure (wpAny_pure hq))
 obtain⟨it,fp,tn,J,H2,rfl,I2,T,st2,f2,hR⟩:=h2
 refine a2x (RR:=fun acc C=>compPost (model X.prog X.w) X.A X.xe (some (assign (.Name y py) X.env)) (fun _ z=>SP X pins N .next z) acc C) (Fin:=fun D H'=>N.nx (σ.set i (some (.ref D))) H') hc S hg hf
  (fun C D H3=>⟨fun _ _=>False,fun _ _ z=>z.elim,fun s3 _ _ _=>he _ _ _ _ _⟩) I2 T st2 f2 hR ?_
 intro D C H' s' m' I' hn hC hCL hsz hcl hpn q
 show wpAny _ X.A (assign (.Name y py) X.env (.ref D)) _ _ s'
 refine wpAny_assign_Name (a6D (v:=.ref D) I' hN hy (.inl hl) rfl (fun s'' I'' ⟨a,hsb,ha⟩=>?_) (.inr hl))
 have hCa:C≠a:=by
  rcases ha with ha | ha
  ·rw[ha];exact hCL
  ·exact fun z=>hcl y a ha z.symm
 exact⟨m',hn.sameBut hsb hCa,fun h' hs'=>⟨_,H',I''.turned (t':=s''.toks) (fun b o hb e=>(hs'.2 b hb).trans e) hC hCL (.inr hsz) hcl hpn,q⟩⟩
end
theorem b0R{K:W.Frag}{a:Addr}{xs:List V}{g:TG}{tf:TT}{te:TE}{k:Nat}{σ0:St}{D:Addr}{Fin:Hp→Prop}{H1:Hp}(Pv:Nat→List V→Hp→Prop)(h0:Pv 0 [] (upd H1 D (.lst [])))(hl:∀i ys H,i≤xs.length→Pv i ys H→SqL K H a xs)
  (hs:∀i x ys H,xs[i]? = some x→Pv i ys H→g x σ0 H fun σ2 H2=>(σ2.drop k=σ0.drop k∧σ2.length=σ0.length)∧tf σ2 H2 fun b H3 =>
   if b=true then te σ2 H3 fun y H4=>H4 D=some (.lst ys)∧ys.length<sizeLine∧Pv (i+1) (ys++[y]) (upd H4 D (.lst (ys++[y])))else Pv (i+1) ys H3)
  (hd:∀ys H,Pv xs.length ys H→Fin H):S9 (Itl K a) g tf te k σ0 D Fin H1:=by
 refine⟨fun i m ys H=>m=xs.length-i∧i≤xs.length∧Pv i ys H,⟨xs.length,by simp,Nat.zero_le _,h0⟩,?_⟩
 rintro i m ys H ⟨rfl,hi,p⟩
 have q:=hl i ys H hi p
 by_cases hlt:i<xs.length
 ·refine .inr ⟨⟨xs,xs[i],q,by simp[hlt]⟩,Pv (i+1),fun ys' H' z=>⟨xs.length-(i+1),by omega,rfl,hlt,z⟩,fun x H' y=>?_⟩
  obtain⟨e,y⟩:=y
  subst e
  exact hs i x ys _ (y xs q) p
 ·have e:i=xs.length:=by omega
  subst e
  exact .inl ⟨⟨xs,q,Nat.le_refl _⟩,hd ys H p⟩
theorem a9Z{lo:Int}{n:Nat}{g:TG}{tf:TT}{te:TE}{k:Nat}{σ0:St}{D:Addr}{Fin:Hp→Prop}{H1:Hp}(Pv:Nat→List V→Hp→Prop)(h0:Pv 0 [] (upd H1 D (.lst [])))
  (hs:∀i ys H,i<n→Pv i ys H→g (.int (lo+i)) σ0 H fun σ2 H2=>(σ2.drop k=σ0.drop k∧σ2.length=σ0.length)∧tf σ2 H2 fun b H3 =>
   if b=true then te σ2 H3 fun y H4=>H4 D=some (.lst ys)∧ys.length<sizeLine∧Pv (i+1) (ys++[y]) (upd H4 D (.lst (ys++[y])))else Pv (i+1) ys H3)
  (hd:∀ys H,Pv n ys H→Fin H):S9 (Itr lo n) g tf te k σ0 D Fin H1:=by
 refine⟨fun i m ys H=>m=n-i∧i≤n∧Pv i ys H,⟨n,by simp,Nat.zero_le _,h0⟩,?_⟩
 rintro i m ys H ⟨rfl,hi,p⟩
 by_cases hlt:i<n
 ·refine .inr ⟨hlt,Pv (i+1),fun ys' H' z=>⟨n-(i+1),by omega,rfl,hlt,z⟩,fun x H' y=>?_⟩
  obtain⟨e,y⟩:=y
  subst e y
  exact hs i ys _ hlt p
 ·have e:i=n:=by omega
  subst e
  exact .inl ⟨Nat.le_refl _,hd ys H p⟩
section
variable {X:Cx}{pins:List (Addr×Obj)}{σ:St}{H:Hp}{s:Shared}
theorem Inv.turnedL{h':Heap}{t':Nat}{ch:List Addr}{p:Addr}{o:HO}(I:Inv X pins σ H s)(k:∀b u,b ∉ ch→s.heap.get? b=some u→h'.get? b=some u)(hf:∀b∈ch,FpOk X pins H b)(hp:s.heap.objs.size≤p)(new:ObjOk X.prog X.w (upd H p o) h' p o) :
  Inv X pins σ (upd H p o) { s with heap:=h',toks:=t' }:=by
 have hn:=I.hok.fresh hp
 have nch:∀b u,H b=some u→b ∉ ch:=fun b u q z=>by rw[(hf b z).1]at q;cases q
 refine I.call (g':=s.gens) (d':=s.drawn) (ch:=ch) ⟨fun b u q _ _ hx=>k b u hx q,fun b u q _ _ hx=>⟨u.slots,k b u hx q⟩,fun b u q n _=>?_,fun b u q hx=>⟨u,k b u hx q⟩,fun b xs q=>?_,fun b u xs q=>?_,fun b ps q=>⟨#[],?_⟩⟩ (fun b u q=>?_) I.bare
  fun b hb=>⟨(hf b hb).2.2.2.1,(hf b hb).2.1,(hf b hb).2.2.2.2.1,(hf b hb).2.2.2.2.2⟩
 ·rw[g8 (Nat.ne_of_lt (Nat.lt_of_lt_of_le (Heap.lt_size q) hp))];exact n
 ·rw[g8 (j8 q hn)];exact q
 ·rw[g8 (j8 q hn)];exact q
 ·rw[g8 (j8 q hn),q];simp
 ·by_cases hb:b=p
  ·subst hb;rw[i8]at q;cases q;exact new
  ·rw[g8 hb]at q
   refine(I.hok b u q).stay (fun c v hc r=>k c v ?_ r) (fun c z=>?_) (fun c xs z=>?_) fun c ob u z=>?_
   ·rcases hc with hc | hc
    ·rw[hc];exact nch b u q
    ·exact nch c _ hc
   ·rw[g8 (j8 z hn)];exact z
   ·rw[g8 (j8 z hn)];exact z
   ·rw[g8 (j8 z hn)];exact z
theorem Inv.turnedN{h':Heap}{t':Nat}{ch:List Addr}(I:Inv X pins σ H s)(k:∀b u,b ∉ ch→s.heap.get? b=some u→h'.get? b=some u)(hf:∀b∈ch,FpOk X pins H b):Inv X pins σ H { s with heap:=h',toks:=t' }:=by
 have nch:∀b u,H b=some u→b ∉ ch:=fun b u q z=>by rw[(hf b z).1]at q;cases q
 refine I.call (g':=s.gens) (d':=s.drawn) (ch:=ch) ⟨fun b u q _ _ hx=>k b u hx q,fun b u q _ _ hx=>⟨u.slots,k b u hx q⟩,fun b u q n _=>n,fun b u q hx=>⟨u,k b u hx q⟩,fun b xs q=>q,fun b u xs q=>q,fun b ps q=>⟨#[],by rw[q];simp⟩⟩ (fun b u q=>?_) I.bare
  fun b hb=>⟨(hf b hb).2.2.2.1,(hf b hb).2.1,(hf b hb).2.2.2.2.1,(hf b hb).2.2.2.2.2⟩
 refine(I.hok b u q).stay (fun c v hc r=>k c v ?_ r) (fun c z=>z) (fun c xs z=>z) fun c ob u z=>z
 rcases hc with hc | hc
 ·rw[hc];exact nch b u q
 ·exact nch c _ hc
end
def Ite(K:W.Frag)(a:Addr):It :=
 ⟨fun i H=>∃xs x,SqL K H a xs∧xs[i]? = some x,fun i H v H'=>∃p x,v=.ref p∧H p=none∧H'=upd H p (.tup [.int i,x])∧∀xs,SqL K H a xs→xs[i]? = some x,fun i H=>∃xs,SqL K H a xs∧xs.length≤i⟩
theorem b0S{P:Program}{w:World}{K:W.Frag}{elts:List Expr}{x1}{tpos:Pos}(a it e:Addr)(hne:e≠it):Turn P w K (.Tuple elts x1 tpos) (Ite K a) [e,it] e (fun i h=>(∃old,IsEnum h e it i old)∧h.IsListIter it a i) where
 mem:=by simp
 obj:=fun i h ⟨⟨old,st⟩,it1⟩ b hb=>by
  rcases List.mem_cons.mp hb with q | hb
  ·subst q
   exact⟨_,st,fun v z=>nomatch (show Data.fields _=Data.cell v from z)⟩
  ·have q:b=it:=by simpa using hb
   subst q
   obtain⟨o,e1,c,d⟩:=it1
   exact⟨o,e1,fun v z=>by rw[d]at z;cases z⟩
 keep:=fun i h h' ⟨⟨old,st⟩,it1⟩ k=>⟨⟨old,k e (by simp) _ st⟩,it1.at fun o q=>k it (by simp) o q⟩
 item:=by
  intro X hP hw hK hc i pins s σ H E I hf st hg
  subst hP hw hK
  obtain⟨⟨old,st⟩,it1⟩:=st
  obtain⟨xs,x,hq,hx⟩:=hg
  obtain⟨its,rv,p,hz⟩:=I.list hq
  obtain⟨u,hu,ru⟩:=rv.get hx
  refine wpAny_pyNext_enum_item st it1 p.isList (x:=u) (by simpa using hu) hne fun h' q1 q2 q3 q4 q5=>⟨_,rfl,?_⟩
  refine wpAny_letOwnedTupleGo_enum (s:={ s with heap:=h',toks:=s.toks+1 }) q1 fun h2 r1 r2=>?_
  have ne1:s.heap.objs.size≠e:=Nat.ne_of_gt (Heap.lt_size st)
  have k2:∀b o,b ∉ [e,it]→s.heap.get? b=some o→h2.get? b=some o:=fun b o hb q=>by
   have hb1:b≠e:=fun z=>hb (by simp[z])
   have hb2:b≠it:=fun z=>hb (by simp[z])
   exact(r2.2 b hb1).trans (q5 b o hb1 hb2 q)
  have I1:Inv X pins σ (upd H s.heap.objs.size (.tup [.int i,x])) { s with heap:=h2,toks:=s.toks+1 }:=I.turnedL k2 hf (Nat.le_refl _)
   ⟨by show 2≤sizeLine;decide,[.int i s.toks,u],.cons ⟨_,rfl⟩ (.cons ru .nil),⟨_,(r2.2 _ ne1).trans q3,rfl,_,rfl⟩⟩
  refine⟨.ref s.heap.objs.size,_,I1,rfl,⟨_,x,rfl,I.fresh,rfl,fun ys hy=>by rw[I.list_inj hy hq];exact hx⟩,⟨⟨_,by rw[show((i+1:Nat):Int)=(i:Int)+1 by omega];exact r1⟩,?_⟩,fun b hb=>?_⟩
  ·exact q2.extBut r2.extBut (Ne.symm hne)
  ·obtain⟨o,e1,_⟩:∃o,s.heap.get? b=some o∧True:=by
    rcases List.mem_cons.mp hb with q | hb
    ·exact⟨_,by rw[q];exact st,trivial⟩
    ·have q:b=it:=by simpa using hb
     obtain⟨o,e1,_⟩:=it1
     exact⟨o,by rw[q];exact e1,trivial⟩
   rw[g8 (Nat.ne_of_lt (Heap.lt_size e1))]
   exact(hf b hb).1
 done:=by
  intro X hP hw hK hc i pins s σ H E I hf st hg
  subst hP hw hK
  obtain⟨⟨old,st⟩,it1⟩:=st
  obtain⟨xs,hq,hx⟩:=hg
  obtain⟨its,rv,p,hz⟩:=I.list hq
  have hl:=rv.length
  exact wpAny_pyNext_enum_end (I.ok.hd hc) st it1 p.isList (by simp;omega) fun h' eb=>⟨rfl,I.turnedN (t':=s.toks) (fun b o hb q=>eb b o (fun z=>hb (by simp[z])) q) hf⟩
 self:=fun _ _ _ _ _ st h=>wpAny_pyIter_enum st.1.choose_spec h
theorem b2e{K:PySem.W.Frag}{a:Addr}{xs:List V}{g:TG}{tb:TS}{D:Ends}{σ:St}{H:Hp}(Pv:Nat→St→Hp→Prop)(h0:Pv 0 σ H)(hl:∀i σ H,i≤xs.length→Pv i σ H→SqL K H a xs)
  (hs:∀i x σ H p,xs[i]? = some x→Pv i σ H→H p=none→g (.ref p) σ (upd H p (.tup [.int i,x])) fun σ2 H2=>tb { D with nx:=Pv (i+1),ct:=Pv (i+1),bk:=D.nx } σ2 H2) (hd:∀σ H,Pv xs.length σ H→D.nx σ H) :
  ∃W:Nat→Nat→St→Hp→Prop,(∃m,W 0 m σ H)∧∀i m σ H,W i m σ H →
   ((Ite K a).stop i H∧D.nx σ H)∨((Ite K a).go i H∧∃N:St→Hp→Prop,(∀σ' H',N σ' H'→∃m',m'<m∧W (i+1) m' σ' H')∧∀x H',(Ite K a).yld i H x H'→g x σ H' fun σ2 H2=>tb { D with nx:=N,ct:=N,bk:=D.nx } σ2 H2):=by
 refine⟨fun i m σ H=>m=xs.length-i∧i≤xs.length∧Pv i σ H,⟨xs.length,by simp,Nat.zero_le _,h0⟩,?_⟩
 rintro i m σ H ⟨rfl,hi,p⟩
 have q:=hl i σ H hi p
 by_cases hlt:i<xs.length
 ·refine .inr ⟨⟨xs,xs[i],q,by simp[hlt]⟩,Pv (i+1),fun σ' H' z=>⟨xs.length-(i+1),by omega,rfl,hlt,z⟩,fun v H' y=>?_⟩
  obtain⟨c,x,rfl,hc,rfl,y⟩:=y
  exact hs i x σ _ c (y xs q) p hc
 ·have e:i=xs.length:=by omega
  subst e
  exact .inl ⟨⟨xs,q,Nat.le_refl _⟩,hd σ H p⟩
theorem a7A:bootBuiltins "enumerate" = some (.type "enumerate"):=by decide +kernel
def b3s(K:W.Frag)(ta:TA):TI:=fun σ H R=>ta σ H fun vs H1=>∃a,vs=[.ref a]∧(∃xs,SqL K H1 a xs)∧R (Ite K a) H1
section
variable {X:Cx}
theorem a89{elts:List Expr}{x1}{tpos:Pos}{l:Expr}{ta:TA}{p pos:Pos}(hg:Gl X "enumerate")(hm:X.mg "enumerate" = none)(ha:PA X [l] ta)(hs:starEach [l] X.env=[(false,eval l X.env)]:=by rfl) :
  PI X (.Tuple elts x1 tpos) (.Call (.Name "enumerate" p) [l] [] pos) (b3s X.K ta):=by
 intro pins s σ H R I h
 refine Call_ (K4 I hg hm a7A (PyProof.Rows.callWith_type1 (l3 (ha pos pins s σ H _ I h) fun us s1 ⟨vs,H1,I1,r1,q1⟩=>?_) hs rfl))
 obtain⟨a,e,⟨xs,hq⟩,q⟩:=q1
 subst e
 obtain⟨u,rfl,ru⟩:=r1.one
 cases (show u=Value.ref a from ru)
 obtain⟨its,rv,pl,hz⟩:=I1.list hq
 refine call_enumerate_list pl.isList fun h' q1 q2 q3 q4=>?_
 have I2:Inv X pins σ H1 { s1 with heap:=h' }:=I1.kept (t':=s1.toks) q4
 refine wpAny_pyIter_enum (s:={ s1 with heap:=h' }) q1 ?_
 refine⟨s1.heap.objs.size+1,[s1.heap.objs.size+1,s1.heap.objs.size],_,_,H1,rfl,I2,b0S a s1.heap.objs.size _ (Nat.succ_ne_self _),⟨⟨_,q1⟩,q2⟩,fun b hb=>?_,q⟩
 have hb':s1.heap.objs.size≤b:=by
  rcases List.mem_cons.mp hb with z | z
  ·rw[z];exact Nat.le_succ _
  ·have z:b=s1.heap.objs.size:=by simpa using z
   rw[z];exact Nat.le_refl _
 exact I1.fpOk hb' (I1.hok.fresh hb')
end
section
variable {X:Cx}
def b64(x:Str)(n:Int):Str:=if n<1 then Str.empty else if(n == 1 || x.length == 0)=true then x else⟨(List.replicate n.toNat x.cps).foldl (· ++ ·) #[]⟩
end
section
variable {X:Cx}{K:W.Frag}
theorem u6(hK:X.K=K:=by rfl):IxR X (b14 K):=hK▸b3Y
theorem j5(hK:X.K=K:=by rfl):IxR X (b15 K):=hK▸b5k
theorem b2f(hK:X.K=K:=by rfl):SlR X (b16 K):=hK▸b3Z
theorem b34(hK:X.K=K:=by rfl):SlR X (b13 K):=hK▸b5j
theorem b0T(hK:X.K=K:=by rfl):G4 X (compareOp .In) (rIn K false):=hK▸b0M
theorem b2g(hK:X.K=K:=by rfl):G4 X (binaryOp .Add) (a9T K):=hK▸b3V
def a8_(K:W.Frag):List V→Hp→VK→Prop:=fun xs H Q=>∃p ys,xs=[.ref p]∧(SqL K H p ys∨SqT K H p ys)∧Q (.int ys.length) H
theorem r8(hK:X.K=K:=by rfl):P4 X (.builtin "len") (a8_ K):=hK▸a7r
def a9a(K:W.Frag):List V→Hp→VK→Prop:=fun xs H Q=>∃p ys,xs=[.ref p]∧(SqL K H p ys∨SqT K H p ys)∧∀l,H l=none→Q (.ref l) (upd H l (.lst ys))
theorem a2V(hK:X.K=K:=by rfl):P4 X (.type "list") (a9a K):=hK▸a7s
theorem G6(hK:X.K=K:=by rfl):P4 X (.builtin "isinstance") (a7x K):=hK▸b2b
theorem a5d(hK:X.K=K:=by rfl):P4 X (.builtin "isinstance") (a9Y K):=hK▸b0Q
theorem F7{es:List Expr}{k:Nat}{t:TGs}{n:Nat}{pos:Pos}(hc:X.calm=true)(h:PGs X es t)(hK:X.K=K:=by rfl)(hn:(assignEach es X.env).length=n:=by rfl)(hst:(assignEach es X.env).findIdx? (·.1)=none:=by rfl) :
  PG X (.Tuple es k pos) (b1W K n t):=hK▸b48 hc h hn hst
variable {o e:Expr}{es:List Expr}{to:TE}{t:TA}{name:Str}{apos cpos:Pos}{T id:String}{r:V→List V→Hp→VK→Prop}
theorem a34(pa:PlainAttrs T)(slot:Slot T name id)(hty:typeOf (.builtin id)=pure (.type "method_descriptor"))(hm:MtR X id r)(ho:PE X o to)(hK:X.K=K:=by rfl)
  (hbase:attributeBase o name X.env (eval o X.env)=eval o X.env:=by rfl) (hline:(apos.endLine == cpos.line)=true:=by rfl):PE X (.Call (.Attribute o name apos) [] [] cpos) (b17 K T r to):=hK▸b5o pa slot hty hm ho hbase hline
theorem a0p(pa:PlainAttrs T)(slot:Slot T name id)(hty:typeOf (.builtin id)=pure (.type "method_descriptor"))(hm:MtR X id r)(ho:PE X o to)(ha:PA X (e::es) t)(hK:X.K=K:=by rfl)
  (hbase:attributeBase o name X.env (eval o X.env)=eval o X.env:=by rfl)
  (hfew:((backTo cpos (starEach (e::es) X.env)).all (fun x=>!x.1) && (backToKw cpos (keywordEach [] X.env)).all (fun x=>x.1.isSome)
   && decide ((e::es).length+([]:List Keyword).length+(if([]:List Keyword).isEmpty then 0 else 1)<30))=true:=by rfl)
  (hline:(apos.endLine == cpos.line)=true:=by rfl) (hs:starEach (e::es) X.env=(false,eval e X.env)::starEach es X.env:=by rfl) (hplain:(backTo cpos (starEach es X.env)).any (·.1)=false:=by rfl) :
  PE X (.Call (.Attribute o name apos) (e::es) [] cpos) (tBM K T r to t):=hK▸b6o pa slot hty hm ho ha hbase hfew hline hs hplain
end
section
variable {X:Cx}
def b5u(K:W.Frag):List V→Hp→VK→Prop:=fun xs H Q=>∃(a:Addr) (bs:List Bool),xs=[.ref a]∧SqL K H a (bs.map V.bl)∧Q (.bl (bs.any id)) H
theorem a6M:∀(bs:List Bool),(List.range bs.length).any (fun i=>bs.getD i false)=bs.any id
 | []=>rfl
 | b::r=>by
  rw[List.length_cons,List.range_succ_eq_map,List.any_cons,List.any_map,List.any_cons,← a6M r];rfl
theorem b2h{bs:List Bool}{us:List Value}(r:Vals (bs.map V.bl) us){i:Nat}{v:Value}(h:us.toArray[i]? = some v):v=.bool (bs.getD i false):=by
 have h:us[i]? = some v:=by simpa using h
 have hi:i<bs.length:=by
  have:=(List.getElem?_eq_some_iff.mp h).1
  rw[← r.length,List.length_map]at this;exact this
 obtain⟨u,hu,ru⟩:=r.get (i:=i) (x:=.bl (bs.getD i false)) (by rw[List.getElem?_map,List.getElem?_eq_getElem hi];simp[hi])
 rw[h]at hu;cases hu
 exact ru
theorem a8I{prog:Program}{w:World}{A:Around}{bs:List Bool}{us:List Value}(r:Vals (bs.map V.bl) us):TruthOf prog w A (fun i v=>us.toArray[i]? = some v) (fun i=>bs.getD i false):=fun i v s Q E hP hQ=>by
 rw[b2h r hP]
 exact wpAny_truthy_bool hQ
theorem b0U{K:W.Frag}(hc:X.calm=true:=by rfl)(hK:X.K=K:=by rfl):P4 X (.builtin "any") (b5u K):=by
 subst hK
 intro pins s σ H xs us Q I r h
 obtain⟨a,bs,rfl,hq,q⟩:=h
 obtain⟨u,rfl,ru⟩:=r.one
 cases (show u=Value.ref a from ru)
 obtain⟨its,rv,pl,hz⟩:=I.list hq
 have hlt:a<s.heap.objs.size:=by obtain⟨_,e,_⟩:=pl.isList;exact Heap.lt_size e
 refine call_any_walk (wpAny_pyIter_list pl.isList ⟨_,_,_,_,_,_,_,rfl,Walks.list (A:=X.A.in1) (I.ok.hd hc) s.heap.objs.size a (Nat.ne_of_lt hlt) its.toArray,⟨⟨_,Heap.get?_push_size _ rfl,rfl,rfl⟩,pl.isList.push _⟩,a8I rv,fun h' tk hk=>?_⟩)
 have I':Inv X pins σ H { s with heap:=h',toks:=tk }:=I.kept fun b o e=>hk b o (by simpa using Nat.ne_of_lt (Heap.lt_size e)) (Heap.get?_push_of_some _ e)
 refine⟨.bl _,H,I',rfl,?_⟩
 rw[show its.toArray.size=bs.length by rw[List.size_toArray,← rv.length,List.length_map],a6M]
 exact q
theorem b5v:bootBuiltins "any" = some (.builtin "any"):=by decide +kernel
end
theorem a4t{h h' B B':Heap}:∀{l:List Env},h.FunFrames B l→(∀b∈E8 l,h'.get? b=h.get? b)→(∀b,B.get? b=none→B'.get? b=none)→h'.FunFrames B' l
 | [],_,_,_=>trivial
 | env::k8,⟨k,⟨L,o,f,b,g,n⟩,r⟩,hk,hb=>by
  refine⟨k,⟨L,o,f,hb L b,(hk L ?_).trans g,n⟩,a4t r (fun c hc=>hk c ?_) hb⟩
  ·exact List.mem_filterMap.mpr ⟨env,List.mem_cons_self,f⟩
  ·obtain⟨e,he,q⟩:=List.mem_filterMap.mp hc
   exact List.mem_filterMap.mpr ⟨e,List.mem_cons_of_mem _ he,q⟩
section
variable {X:Cx}{E:XK}{pins pins':List (Addr×Obj)}{σ σ':St}{H3 H':Hp}{s3 s':Shared}{scope:Scope}{Nc:List Str}{C a:Addr}{fp:List Addr}{xe:Value→Shared→Prop}{cls:Value}{cx:Option Addr}{B:Heap}
theorem a90(acc:XAcc X E)(I3:Inv X pins σ H3 s3)(hC:C=s3.heap.objs.size)(hfp:∀b∈fp,FpOk X pins H3 b)(I:Inv (t8 X scope Nc C s3 H3 fp xe) pins' σ' H' s')(x:XAt (t8 X scope Nc C s3 H3 fp xe) pins' H' s' a cls cx B .any)(hE:E cls cx H') :
  ∃m,s'.heap.Ns C m∧∀h',Heap.SameBut C s'.heap h'→∀cenv:Env,cenv.locals=C→wpAny (model X.prog X.w) X.A (passOn "comprehension.variables-let-go" (.ref a) cenv:Sem Value) (fun _ _=>False) X.xe { s' with heap:=h' }:=by
 obtain⟨m,hn,_⟩:=id I.loc
 refine⟨m,hn,fun h' hs cenv _=>?_⟩
 have J:Inv X pins σ H' s':=I3.call' (ch:=fp) (I.os.trans rfl) I.base I.hok I.bare fun b hb=>⟨(hfp b hb).2.2.2.1,(hfp b hb).2.1,(hfp b hb).2.2.2.2.1,(hfp b hb).2.2.2.2.2⟩
 have lt3:∀b o,s3.heap.get? b=some o→b≠C:=fun b o g z=>absurd (Heap.lt_size g) (by rw[z,hC];exact Nat.lt_irrefl _)
 have hCL:C≠X.env.locals:=by rw[hC];exact Nat.ne_of_gt I3.lt
 have hsz:X.s₀.heap.objs.size≤C:=by rw[hC];exact I3.sz
 have hcl:∀y c,X.env.cells.lookup y=some c→c≠C:=fun y c e z=>by
  obtain⟨v,o,ho,_⟩:=I3.cell y c e
  exact lt3 c o ho z
 have hpn:∀p∈X.pn++pins,p.1≠C:=fun p hp z=>lt3 p.1 p.2 (I3.pin p hp).1 z
 have hC0:H' C=none:=I.free
 have J':Inv X pins σ H' { s' with heap:=h' }:=J.turned (t':=s'.toks) (fun b o hb e=>(hs.2 b hb).trans e) hC0 hCL (.inr hsz) hcl hpn
 have nC:∀b∈E8 X.stack,b≠C:=fun b hb=>by
  obtain⟨_,o,g,_⟩:=I3.stack.mem hb
  exact lt3 b o g
 obtain⟨fl,oe,vs,T,oT,ts,⟨ge,ec,de,z6⟩,⟨z1,z2⟩,⟨bT,nT⟩,gT,dT,z3⟩:=x.tr
 have nf:∀{b:Addr} {o:Obj} {ws:Array Value},s'.heap.get? b=some o→o.data=.fields ws→b≠C:=fun g d z=>by
  obtain⟨o,es,ep,ho,hd,_⟩:=id hn
  rw[z]at g
  have:s'.heap.get? C=some o:=ho
  rw[g]at this;cases this
  rw[d]at hd;cases hd
 have ge':=(hs.2 a (nf ge de)).trans ge
 have gT':=(hs.2 T (nf gT dT)).trans gT
 have hid:∀{b:Addr},B.get? b=none→(W.hideAll B [C]).get? b=none:=fun{b} q=>by
  cases w:(W.hideAll B [C]).get? b with
  | none=>rfl
  | some o=>rw[W.of_hideAll _ w]at q;cases q
 have st:(W.hideAll B [C]).StaysIn h':=fun b o e=>by
  have hb:b≠C:=fun z=>by rw[z,W.hideAll_none [C] (by simp)]at e;cases e
  exact(hs.2 b hb).trans (x.stays b o (W.of_hideAll _ e))
 have ff:h'.FunFrames (W.hideAll B [C]) X.stack:=a4t x.frames (fun b hb=>hs.2 b (nC b hb)) fun b q=>hid q
 have tr:TrX h' (W.hideAll B [C]) a cls cx fl:=⟨oe,vs,T,oT,ts,⟨ge',ec,de,z6⟩,⟨z1,z2⟩,⟨hid bT,nT⟩,gT',dT,z3⟩
 have xx:XAt X pins H' { s' with heap:=h' } a cls cx (W.hideAll B [C]) .any:=by
  refine⟨x.free,st,hid x.fresh,ff,fun b o e i n=>?_,fl,tr⟩
  have hb:b≠C:=by
   rcases i with i | ⟨_,o',i⟩ | ⟨p,hp,q⟩
   ·exact fun z=>i (by rw[z];exact hC0)
   ·exact Nat.ne_of_lt (Nat.lt_of_lt_of_le (Heap.lt_size i) hsz)
   ·rw[← q];exact hpn p hp
  refine W.hideAll_get _ (x.cov b o ((hs.2 b hb).symm.trans e) ?_ n) (by simpa using hb)
  by_cases hh:H' b=none
  ·refine .inr (.inl ⟨fun hf=>?_,?_⟩)
   ·obtain⟨_,_,_,f4,_,f6⟩:=hfp b hf
    rcases i with i | ⟨hx,o',i⟩ | ⟨p,hp,q⟩
    ·exact i hh
    ·rcases f4 with f4 | f4
     ·exact hx f4
     ·exact absurd (Nat.lt_of_lt_of_le (Heap.lt_size i) f4) (Nat.lt_irrefl _)
    ·exact f6 p hp q
   ·rcases i with i | ⟨hx,o',i⟩ | ⟨p,hp,q⟩
    ·exact absurd hh i
    ·exact I3.base.there b o' i hx
    ·exact⟨p.2,by rw[← q];exact(I3.pin p hp).1⟩
  ·exact .inl hh
 unfold PySem.passOn
 refine wpAny_bind (wpAny_field (s:={ s' with heap:=h' }) ge' de z1 ?_)
 rw[if_neg (by simp)]
 refine wpAny_bind (a7t (s:={ s' with heap:=h' }) st ff tr fun h2 k=>wpAny_throw ?_)
 exact acc pins σ H' _ a cls cx _ .any (J'.exc xx.cov k.1 k.2.2.2) ⟨xx.free,k.1,xx.fresh,k.2.1,xx.cov' J' k.1,_,k.2.2.1⟩ hE
end
def a7B(X:Cx)(scope:Scope)(Nc:List Str)(C:Addr)(H3:Hp)(fp:List Addr)(pins:List (Addr×Obj))(σ:St)(E:XK):Value→Shared→Prop:=fun e s' =>
 ∃s3 a cls cx H' B ph pins' σ',e=.ref a∧Inv X pins σ H3 s3∧C=s3.heap.objs.size∧(∀b∈fp,FpOk X pins H3 b)∧Inv (t8 X scope Nc C s3 H3 fp fun _ _=>False) pins' σ' H' s'∧XAt (t8 X scope Nc C s3 H3 fp fun _ _=>False) pins' H' s' a cls cx B ph∧E cls cx H'
section
variable {X:Cx}{E:XK}{elt tg iter:Expr}{ifs:List Expr}{scope:Scope}{pos:Pos}{Nc:List Str}{k:Nat}{js:List Nat}{wi:TI}{g:TG}{tf:TT}{te:TE}
theorem b2j{pins:List (Addr×Obj)}{σ:St}{H3:Hp}{s3:Shared}{C:Addr}{fp:List Addr}(I3:Inv X pins σ H3 s3)(hC:C=s3.heap.objs.size)(hfp:∀b∈fp,FpOk X pins H3 b):XAcc (t8 X scope Nc C s3 H3 fp (a7B X scope Nc C H3 fp pins σ E)) E :=
 fun pins' σ' H' s' a cls cx B ph I x hE=>⟨s3,a,cls,cx,H',B,ph,pins',σ',rfl,I3,hC,hfp,I.wish _,⟨x.free,x.stays,x.fresh,x.frames,x.cov,x.tr⟩,hE⟩
theorem a91{pins:List (Addr×Obj)}{σ:St}{H3:Hp}{C F:Addr}{fp:List Addr}{env0:Env}{out0:List Env}{R:Value→Shared→Prop}(acc:XAcc X E)(hs0:X.stack=env0::out0)(h0:env0.frame=X.env.frame)(hF:X.env.frame=some F)
  (hR:∀a s',(∃m,s'.heap.Ns C m∧∀h',Heap.SameBut C s'.heap h'→∀cenv:Env,cenv.locals=C→wpAny (model X.prog X.w) X.A (passOn "comprehension.variables-let-go" (.ref a) cenv:Sem Value) (fun _ _=>False) X.xe { s' with heap:=h' })→R (.ref a) s') :
  ∀e s',a7B X scope Nc C H3 fp pins σ E e s'→notedBy (model X.prog X.w) X.A (compEnvC scope (D1 X.env.cells scope.names []) C X.env) R e s':=by
 rintro e s' ⟨s3,a,cls,cx,H',B,ph,pins',σ',rfl,I3,hC,hfp,I,x,hE⟩
 unfold notedBy
 exact a6b (X:=t8 X scope Nc C s3 H3 fp fun _ _=>False) I.ok.frames hs0 h0 hF I x fun h1 I1 x1=>hR a _ (a90 acc I3 hC hfp I1 x1 hE)
theorem b2k{env0:Env}{out0:List Env}{F:Addr}(acc:XAcc X E)(hc:X.calm=true)(S:CompSc X.env.scope scope X.N Nc k js)(hi:PI X tg iter wi)(hg:∀C s3 H3 fp xe,PG (t8 X scope Nc C s3 H3 fp xe) tg g)(hf:∀C s3 H3 fp xe,PF (t8 X scope Nc C s3 H3 fp xe) ifs tf)
  (he:∀C s3 H3 fp xe,XAcc (t8 X scope Nc C s3 H3 fp xe) E→PE (t8 X scope Nc C s3 H3 fp xe) elt te) (hs:∀x,foldedSetIterable iter X.env x=pure x:=by intro _;rfl)
  (hs0:X.stack=env0::out0:=by rfl) (h0:env0.frame=X.env.frame:=by rfl) (hF:X.env.frame=some F:=by rfl):PE X (.ListComp elt [⟨tg,iter,ifs,0⟩] scope pos) (a32 wi g tf te k js):=by
 intro pins s σ H Q I h
 rw[eval_ListComp]
 refine wpAny_comprehension_free (use:=none) rfl hs (a1j (a2w I S)) S.kind S.names (l3 (hi pins s σ H _ I h) fun v s1 h1=>l3 h1 fun itv s2 h2=>?_)
 obtain⟨it,fp,tn,J,H2,rfl,I2,T,st2,f2,hR⟩:=h2
 refine a2x (RR:=fun acc C=>compPost (model X.prog X.w) X.A X.xe none (EP X pins σ Q) acc C) (Fin:=fun D H'=>Q (.ref D) H') hc S hg hf
  (fun C D H3=>⟨a7B X scope Nc C H3 fp pins σ E,a91 acc hs0 h0 hF fun a s' z=>z,fun s3 I3 hC hfp=>he _ _ _ _ _ (b2j I3 hC hfp)⟩) I2 T st2 f2 hR ?_
 intro D C H' s' m' I' hn hC hCL hsz hcl hpn q
 exact⟨m',hn,fun h' hs'=>⟨.ref D,H',I'.turned (t':=s'.toks) (fun b o hb e=>(hs'.2 b hb).trans e) hC hCL (.inr hsz) hcl hpn,rfl,q⟩⟩
end
theorem a5e{X:Cx}{x:Str}{j:Nat}{pos:Pos}{es:List Expr}{t:TA}(hr:PA X es t):PA X (.Constant (.str x) j pos::es) (P5 (tC (.str x)) t):=a6 u0 hr
def Itz(K:W.Frag)(a b:Addr):It :=
 ⟨fun i H=>∃xs ys x y,SqL K H a xs∧SqL K H b ys∧xs[i]? = some x∧ys[i]? = some y,fun i H v H'=>∃p x y,v=.ref p∧H p=none∧H'=upd H p (.tup [x,y])∧(∀xs,SqL K H a xs→xs[i]? = some x)∧∀ys,SqL K H b ys→ys[i]? = some y,
  fun i H=>∃xs ys,SqL K H a xs∧SqL K H b ys∧(xs.length≤i∨ys.length≤i)⟩
theorem b2l{P:Program}{w:World}{K:W.Frag}{elts:List Expr}{x1}{tpos:Pos}(l1 l2 z TI TO i1 i2:Addr)(D:ZipApart z TI TO i1 i2 l1 l2):Turn P w K (.Tuple elts x1 tpos) (Itz K l1 l2) [z,TI,TO,i1,i2] z
  (fun i h=>IsZip h z TI TO .none∧IsPair h TI (.ref i1) (.ref i2)∧(∃a b,IsPair h TO a b)∧h.IsListIter i1 l1 i∧h.IsListIter i2 l2 i) where
 mem:=by simp
 obj:=fun i h ⟨hz,hTI,⟨a,b,hTO⟩,h1,h2⟩ c hc=>by
  simp only[List.mem_cons,List.not_mem_nil,or_false]at hc
  rcases hc with rfl | rfl | rfl | rfl | rfl
  ·exact⟨_,hz,fun v z=>nomatch (show Data.fields _=Data.cell v from z)⟩
  ·exact⟨_,hTI,fun v z=>nomatch (show Data.seq _ _=Data.cell v from z)⟩
  ·exact⟨_,hTO,fun v z=>nomatch (show Data.seq _ _=Data.cell v from z)⟩
  ·obtain⟨o,e1,c,d⟩:=h1;exact⟨o,e1,fun v z=>by rw[d]at z;cases z⟩
  ·obtain⟨o,e1,c,d⟩:=h2;exact⟨o,e1,fun v z=>by rw[d]at z;cases z⟩
 keep:=fun i h h' ⟨hz,hTI,⟨a,b,hTO⟩,h1,h2⟩ k=>⟨k z (by simp) _ hz,k TI (by simp) _ hTI,⟨a,b,k TO (by simp) _ hTO⟩,h1.at fun o q=>k i1 (by simp) o q,h2.at fun o q=>k i2 (by simp) o q⟩
 item:=by
  intro X hP hw hK hc i pins s σ H E I hf st hg
  subst hP hw hK
  obtain⟨hz,hTI,⟨a,b,hTO⟩,h1,h2⟩:=st
  obtain⟨xs,ys,x,y,hq,hq',hx,hy⟩:=hg
  obtain⟨its,rv,p,_⟩:=I.list hq
  obtain⟨u,hu,ru⟩:=rv.get hx
  obtain⟨its',rv',p',_⟩:=I.list hq'
  obtain⟨u',hu',ru'⟩:=rv'.get hy
  refine wpAny_pyNext_zip_item D hz hTI hTO h1 h2 p.isList p'.isList (x:=u) (y:=u') (by simpa using hu) (by simpa using hu') fun h' q1 q2 q3 q4 q5 q6 q7=>⟨_,rfl,?_⟩
  refine wpAny_letOwnedTupleGo_zip (s:={ s with heap:=h',toks:=s.toks }) q1 fun h3 r1 r2=>?_
  have nez:s.heap.objs.size≠z:=Nat.ne_of_gt (Heap.lt_size hz)
  have k2:∀c o,c ∉ [z,TI,TO,i1,i2]→s.heap.get? c=some o→h3.get? c=some o:=fun c o hb q =>
   (r2.2 c fun e=>hb (by simp[e])).trans (q7 c o (fun e=>hb (by simp[e])) (fun e=>hb (by simp[e])) (fun e=>hb (by simp[e])) (fun e=>hb (by simp[e])) q)
  have I1:Inv X pins σ (upd H s.heap.objs.size (.tup [x,y])) { s with heap:=h3,toks:=s.toks }:=I.turnedL k2 hf (Nat.le_refl _)
   ⟨by show 2≤sizeLine;decide,[u,u'],.cons ru (.cons ru' .nil),⟨_,(r2.2 _ nez).trans q5,rfl,_,rfl⟩⟩
  refine⟨.ref s.heap.objs.size,_,I1,rfl,⟨_,x,y,rfl,I.fresh,rfl,(fun zs hs=>by rw[I.list_inj hs hq];exact hx),fun zs hs=>by rw[I.list_inj hs hq'];exact hy⟩,
   ⟨r1,(r2.2 _ D.TIz).trans (q7 _ _ D.TIz D.TITO D.TIi1 D.TIi2 hTI),⟨_,_,(r2.2 _ D.TOz).trans q2⟩,q3.extBut r2.extBut D.i1z,q4.extBut r2.extBut D.i2z⟩,fun c hc=>?_⟩
  have:∃o,s.heap.get? c=some o:=by
   simp only[List.mem_cons,List.not_mem_nil,or_false]at hc
   rcases hc with rfl | rfl | rfl | rfl | rfl
   ·exact⟨_,hz⟩
   ·exact⟨_,hTI⟩
   ·exact⟨_,hTO⟩
   ·obtain⟨o,e1,_⟩:=h1;exact⟨o,e1⟩
   ·obtain⟨o,e1,_⟩:=h2;exact⟨o,e1⟩
  obtain⟨o,e1⟩:=this
  rw[g8 (Nat.ne_of_lt (Heap.lt_size e1))]
  exact(hf c hc).1
 done:=by
  intro X hP hw hK hc i pins s σ H E I hf st hg
  subst hP hw hK
  obtain⟨hz,hTI,⟨a,b,hTO⟩,h1,h2⟩:=st
  obtain⟨xs,ys,hq,hq',hx⟩:=hg
  obtain⟨its,rv,p,_⟩:=I.list hq
  obtain⟨its',rv',p',_⟩:=I.list hq'
  have hl:=rv.length
  have hl':=rv'.length
  refine wpAny_pyNext_zip_end (I.ok.hd hc) D hz hTI hTO h1 h2 p.isList p'.isList (hx.imp (fun h=>by simp;omega) fun h=>by simp;omega) fun h' eb=>⟨rfl,I.turnedN (t':=s.toks) (fun c o hb q=>?_) hf⟩
  exact eb c o (fun e=>hb (by simp[e])) (fun e=>hb (by simp[e])) (fun e=>hb (by simp[e])) (fun e=>hb (by simp[e])) q
 self:=fun _ _ _ _ _ st h=>wpAny_pyIter_zip st.1 h
theorem b2m{K:W.Frag}{a b:Addr}{xs ys:List V}{g:TG}{tf:TT}{te:TE}{k:Nat}{σ0:St}{D:Addr}{Fin:Hp→Prop}{H1:Hp}(Pv:Nat→List V→Hp→Prop)(h0:Pv 0 [] (upd H1 D (.lst [])))(hl:∀i zs H,Pv i zs H→SqL K H a xs∧SqL K H b ys)
  (hs:∀i x y zs H p,xs[i]? = some x→ys[i]? = some y→Pv i zs H→H p=none→g (.ref p) σ0 (upd H p (.tup [x,y])) fun σ2 H2=>(σ2.drop k=σ0.drop k∧σ2.length=σ0.length)∧tf σ2 H2 fun b H3 =>
   if b=true then te σ2 H3 fun y H4=>H4 D=some (.lst zs)∧zs.length<sizeLine∧Pv (i+1) (zs++[y]) (upd H4 D (.lst (zs++[y])))else Pv (i+1) zs H3)
  (hd:∀zs H,Pv (min xs.length ys.length) zs H→Fin H):S9 (Itz K a b) g tf te k σ0 D Fin H1:=by
 refine⟨fun i m zs H=>m=min xs.length ys.length-i∧i≤min xs.length ys.length∧Pv i zs H,⟨min xs.length ys.length,by simp,Nat.zero_le _,h0⟩,?_⟩
 rintro i m zs H ⟨rfl,hi,p⟩
 obtain⟨q,q'⟩:=hl i zs H p
 by_cases hlt:i<min xs.length ys.length
 ·have h1:i<xs.length:=by omega
  have h2:i<ys.length:=by omega
  refine .inr ⟨⟨xs,ys,xs[i],ys[i],q,q',by simp[h1],by simp[h2]⟩,Pv (i+1),fun ys' H' z=>⟨_,by omega,rfl,hlt,z⟩,fun v H' y=>?_⟩
  obtain⟨c,x,y',rfl,hc,rfl,e1,e2⟩:=y
  exact hs i x y' zs _ c (e1 xs q) (e2 ys q') p hc
 ·have e:i=min xs.length ys.length:=by omega
  subst e
  exact .inl ⟨⟨xs,ys,q,q',by omega⟩,hd zs H p⟩
theorem b5w:bootBuiltins "zip" = some (.type "zip"):=by decide +kernel
def b5x(K:W.Frag)(ta:TA):TI:=fun σ H R=>ta σ H fun vs H1=>∃a b,vs=[.ref a,.ref b]∧(∃xs,SqL K H1 a xs)∧(∃ys,SqL K H1 b ys)∧R (Itz K a b) H1
section
variable {X:Cx}
theorem b5y{elts:List Expr}{x1}{tpos:Pos}{l l':Expr}{ta:TA}{p pos:Pos}(hg:Gl X "zip")(hm:X.mg "zip" = none)(ha:PA X [l,l'] ta)(hs:starEach [l,l'] X.env=(false,eval l X.env)::starEach [l'] X.env:=by rfl)(hpl:(backTo pos (starEach [l'] X.env)).any (·.1)=false:=by rfl) :
  PI X (.Tuple elts x1 tpos) (.Call (.Name "zip" p) [l,l'] [] pos) (b5x X.K ta):=by
 intro pins s σ H R I h
 refine Call_ (K4 I hg hm b5w (PyProof.Rows.callWith_type1 (l3 (ha pos pins s σ H _ I h) fun us s1 ⟨vs,H1,I1,r1,q1⟩=>?_) hs hpl))
 obtain⟨a,b,e,⟨xs,hq⟩,⟨ys,hq'⟩,q⟩:=q1
 subst e
 obtain⟨u,u',rfl,ru,ru'⟩:∃u u',us=[u,u']∧RelV (.ref a) u∧RelV (.ref b) u':=by
  cases r1 with
  | cons r t=>cases t with
   | cons r' t'=>cases t';exact⟨_,_,rfl,r,r'⟩
 cases (show u=Value.ref a from ru)
 cases (show u'=Value.ref b from ru')
 obtain⟨its,rv,pl,hz⟩:=I1.list hq
 obtain⟨its',rv',pl',hz'⟩:=I1.list hq'
 refine call_zip_2 pl.isList pl'.isList fun h' q1 q2 q3 q4 q5 q6 q7=>?_
 have I2:Inv X pins σ H1 { s1 with heap:=h' }:=I1.kept (t':=s1.toks) q7
 refine wpAny_pyIter_zip (s:={ s1 with heap:=h' }) q1 ?_
 have la:a<s1.heap.objs.size:=by obtain⟨o,n,e,_⟩:=pl;exact Heap.lt_size e
 have lb:b<s1.heap.objs.size:=by obtain⟨o,n,e,_⟩:=pl';exact Heap.lt_size e
 refine⟨s1.heap.objs.size+4,[s1.heap.objs.size+4,s1.heap.objs.size+2,s1.heap.objs.size+3,s1.heap.objs.size,s1.heap.objs.size+1],_,_,H1,rfl,I2,b2l a b (s1.heap.objs.size+4) (s1.heap.objs.size+2) (s1.heap.objs.size+3) s1.heap.objs.size (s1.heap.objs.size+1) ?_,⟨q1,q2,⟨_,_,q3⟩,q4,q5⟩,fun c hc=>?_,q⟩
 ·constructor<;> (simp only[Addr,ne_eq]at *;omega)
 ·have hb':s1.heap.objs.size≤c:=by
   simp only[List.mem_cons,List.not_mem_nil,or_false]at hc
   rcases hc with rfl | rfl | rfl | rfl | rfl<;> (simp only[Addr]at *;omega)
  exact I1.fpOk hb' (I1.hok.fresh hb')
end
theorem a5f:∀{ns:List Int} {us:List Value},Vals (ns.map V.int) us→∃ps:List (Int×Tok),us=ps.map (fun p=>Value.int p.1 p.2)∧ps.map (·.1)=ns
 | [],_,.nil=>⟨[],rfl,rfl⟩
 | n::ns,_,.cons r t=>by
  obtain⟨tk,rfl⟩:=r
  obtain⟨ps,rfl,e⟩:=a5f t
  exact⟨(n,tk)::ps,rfl,by rw[List.map_cons,e]⟩
section
variable {X:Cx}{tg:Expr}
def b6q(lo hi st:Int):Nat:=(if lo<hi then(hi-lo-1)/st+1 else 0).toNat
end
def Gd(n:Nat)(lt:Nat→Nat→Bool){α:Type}:KasT α→(α→Prop)→Prop
 | .ret a,P=>P a
 | .ask i j k,P=>i<n∧j<n∧Gd n lt (k (lt i j)) P
theorem Gd.mono{n:Nat}{lt:Nat→Nat→Bool}{α:Type}{P P':α→Prop}(h:∀a,P a→P' a):∀{t:KasT α},Gd n lt t P→Gd n lt t P'
 | .ret a,g=>h a g
 | .ask i j k,g=>⟨g.1,g.2.1,Gd.mono h g.2.2⟩
theorem Gd.bind{n:Nat}{lt:Nat→Nat→Bool}{α β:Type}{P:β→Prop}{f:α→KasT β}:∀{t:KasT α},Gd n lt t (fun a=>Gd n lt (f a) P)→Gd n lt (t.bind f) P
 | .ret a,g=>g
 | .ask i j k,g=>⟨g.1,g.2.1,Gd.bind (t:=k (lt i j)) g.2.2⟩
theorem Gd.wp{n:Nat}{lt:Nat→Nat→Bool}{α:Type}{cmp:Nat→Nat→(Bool→Shared→Prop)→Shared→Prop}{s:Shared}(hc:∀i j C,i<n→j<n→C (lt i j) s→cmp i j C s){P:α→Prop}{Q:α→Shared→Prop}(q:∀a,P a→Q a s):∀{t:KasT α},Gd n lt t P→t.kasWp cmp Q s
 | .ret a,g=>q a g
 | .ask i j k,g=>hc i j _ g.1 g.2.1 (Gd.wp hc q (t:=k (lt i j)) g.2.2)
def ga(p:Array Nat)(k:Nat):Nat:=p.getD k 0
theorem a5g(p:Array Nat)(k:Nat):ga p k=(p[k]?).getD 0:=by
 unfold ga;simp[Array.getD_eq_getD_getElem?]
structure TPre(lt:Nat→Nat→Bool):Prop where
 irr:∀i,lt i i=false
 tr:∀i j k,lt j i=false→lt k j=false→lt k i=false
 asy:∀i j,lt i j=true→lt j i=false
section
variable {n:Nat}{lt:Nat→Nat→Bool}
def Up(lt:Nat→Nat→Bool)(p:Array Nat)(m:Nat):Prop:=∀i j,i≤j→j<m→lt (ga p j) (ga p i)=false
def Dn(lt:Nat→Nat→Bool)(p:Array Nat)(m:Nat):Prop:=∀i j,i≤j→j<m→lt (ga p i) (ga p j)=false
def Pmn(n:Nat)(p:Array Nat):Prop:=p.toList.Perm (List.range n)
theorem Pmn.size{p:Array Nat}(h:Pmn n p):p.size=n:=by have:=h.length_eq;simpa using this
theorem Pmn.bd{p:Array Nat}(h:Pmn n p){k:Nat}(hk:k<n):ga p k<n:=by
 have hs:=h.size
 have:ga p k∈p.toList:=by
  have e:ga p k=p[k]'(by omega):=by unfold ga;simp[Array.getD,hs,hk]
  rw[e];exact Array.getElem_mem_toList _
 exact List.mem_range.mp (h.mem_iff.mp this)
theorem Pmn.rev{p:Array Nat}(h:Pmn n p)(i j:Nat):Pmn n (kas_rev p i j):=((Array.perm_iff_toList_perm.mp (mirror_perm p i j _)).trans h)
theorem Pmn.bub{p:Array Nat}(h:Pmn n p)(i j:Nat):Pmn n (bubble p i j):=((Array.perm_iff_toList_perm.mp (bubble_perm p i j)).trans h)
theorem a3a{p:Array Nat}{i j:Nat}(hj:j≤p.size)(k:Nat):ga (kas_rev p i j) k=if i≤k∧k<j then ga p (i+j-1-k)else ga p k:=by
 rw[a5g,kas_rev,getElem?_mirror_all hj]
 split<;>rw[a5g]
theorem b5z{p:Array Nat}{src d:Nat}(hs:src<p.size)(hd:d≤src)(k:Nat):ga (bubble p src d) k=if k=src-d then ga p src else if src-d<k∧k≤src then ga p (k-1)else ga p k:=by
 rw[a5g,getElem?_bubble hs d hd]
 split
 ·rw[a5g]
 ·split<;>rw[a5g]
theorem a7C(T:TPre lt){p:Array Nat}(hp:Pmn n p):∀(f k:Nat),1≤k→k+f≤n→Up lt p k→Gd n lt (kas_asc p f k) (fun m=>k≤m∧m≤k+f∧Up lt p m∧(m<k+f→lt (ga p m) (ga p (m-1))=true))
 | 0,k,_,_,u=>⟨Nat.le_refl _,Nat.le_refl _,u,fun z=>absurd z (by omega)⟩
 | f+1,k,h1,h2,u=>by
  refine⟨hp.bd (by omega),hp.bd (by omega),?_⟩
  cases c:lt (p.getD k 0) (p.getD (k-1) 0)with
  | true=>simp only[if_true];exact⟨Nat.le_refl _,by omega,u,fun _=>c⟩
  | false =>
   simp only[Bool.false_eq_true,if_false]
   refine(a7C T hp f (k+1) (by omega) (by omega) fun i j hij hj=>?_).mono fun m h=>⟨by omega,by omega,h.2.2.1,fun z=>h.2.2.2 (by omega)⟩
   by_cases hjk:j<k
   ·exact u i j hij hjk
   ·have e:j=k:=by omega
    subst e
    by_cases hik:i=j
    ·subst hik;exact T.irr _
    ·exact T.tr _ _ _ (u i (j-1) (by omega) (by omega)) c
theorem a35(T:TPre lt):∀(f:Nat) (p:Array Nat) (k q:Nat),Pmn n p→q+1≤k→k+f≤n→Dn lt p k→(∀i,k-(q+1)≤i→i<k→lt (ga p (k-1)) (ga p i)=false∧lt (ga p i) (ga p (k-1))=false) →
  Gd n lt (kas_desc f p k q) (fun r=>Pmn n r.1∧k≤r.2.1∧r.2.1≤k+f∧r.2.2+1≤r.2.1∧Dn lt r.1 r.2.1∧∀i,r.2.1-(r.2.2+1)≤i→i<r.2.1→lt (ga r.1 (r.2.1-1)) (ga r.1 i)=false∧lt (ga r.1 i) (ga r.1 (r.2.1-1))=false)
 | 0,p,k,q,hp,hq,hk,d,eq=>⟨hp,Nat.le_refl _,Nat.le_refl _,hq,d,eq⟩
 | f+1,p,k,q,hp,hq,hk,d,eq=>by
  refine⟨hp.bd (by omega),hp.bd (by omega),?_⟩
  have ext:∀p':Array Nat,Dn lt p' k→(lt (ga p' (k-1)) (ga p' k)=false)→Dn lt p' (k+1):=fun p' d' c i j hij hj=>by
   by_cases hjk:j<k
   ·exact d' i j hij hjk
   ·have e:j=k:=by omega
    subst e
    by_cases hik:i=j
    ·subst hik;exact T.irr _
    ·exact T.tr _ _ _ c (d' i (j-1) (by omega) (by omega))
  cases c:lt (p.getD k 0) (p.getD (k-1) 0)with
  | true =>
   simp only[if_true]
   have c':lt (ga p (k-1)) (ga p k)=false:=T.asy _ _ c
   have one:∀p':Array Nat,∀i,k+1-(0+1)≤i→i<k+1→lt (ga p' (k+1-1)) (ga p' i)=false∧lt (ga p' i) (ga p' (k+1-1))=false:=fun p' i h1 h2=>by
    have e:i=k+1-1:=by omega
    rw[e];exact⟨T.irr _,T.irr _⟩
   by_cases hq0:q > 0
   ·rw[if_pos hq0]
    have hps:=hp.size
    have gr:=a3a (p:=p) (i:=k-(q+1)) (j:=k) (by omega)
    have eqv:∀i,i<k→lt (ga (kas_rev p (k-(q+1)) k) i) (ga p i)=false∧lt (ga p i) (ga (kas_rev p (k-(q+1)) k) i)=false:=fun i hi=>by
     rw[gr]
     split
     ·rename_i z
      have a:=eq (k-(q+1)+k-1-i) (by omega) (by omega)
      have b:=eq i z.1 z.2
      exact⟨T.tr _ _ _ b.1 a.2,T.tr _ _ _ a.1 b.2⟩
     ·exact⟨T.irr _,T.irr _⟩
    have gk:ga (kas_rev p (k-(q+1)) k) k=ga p k:=by rw[gr,if_neg (by omega)]
    have dr:Dn lt (kas_rev p (k-(q+1)) k) k:=fun i j hij hj=>T.tr _ _ _ (T.tr _ _ _ (eqv j hj).2 (d i j hij hj)) (eqv i (by omega)).1
    exact(a35 T f _ (k+1) 0 (hp.rev _ _) (by omega) (by omega) (ext _ dr (by rw[gk];exact T.tr _ _ _ c' (eqv (k-1) (by omega)).1)) (one _)).mono fun r h=>⟨h.1,by omega,by omega,h.2.2.2⟩
   ·rw[if_neg hq0]
    exact(a35 T f _ (k+1) 0 hp (by omega) (by omega) (ext _ d c') (one _)).mono fun r h=>⟨h.1,by omega,by omega,h.2.2.2⟩
  | false =>
   simp only[Bool.false_eq_true,if_false]
   refine⟨hp.bd (by omega),hp.bd (by omega),?_⟩
   cases e:lt (p.getD (k-1) 0) (p.getD k 0)with
   | true=>simp only[if_true];exact⟨hp,Nat.le_refl _,Nat.le_add_right _ _,hq,d,eq⟩
   | false =>
    simp only[Bool.false_eq_true,if_false]
    refine(a35 T f p (k+1) (q+1) hp (by omega) (by omega) (ext _ d e) fun i h1 h2=>?_).mono fun r h=>⟨h.1,by omega,by omega,h.2.2.2⟩
    rw[Nat.add_sub_cancel]
    by_cases hik:i=k
    ·subst hik;exact⟨T.irr _,T.irr _⟩
    ·have a:=eq i (by omega) (by omega)
     exact⟨T.tr _ _ _ a.1 c,T.tr _ _ _ e a.2⟩
theorem a7D(T:TPre lt){p:Array Nat}{k:Nat}(hp:Pmn n p)(h1:1≤k)(hk:k≤n)(d:Dn lt p k):Gd n lt (kas_tail3 k n p) (fun r=>Pmn n r.2∧1≤r.1∧r.1≤n∧Up lt r.2 r.1):=by
 have hps:=hp.size
 have gr:=a3a (p:=p) (i:=0) (j:=k) (by omega)
 refine Gd.bind ((a7C T (hp.rev 0 k) (n-k) k h1 (by omega) fun i j hij hj=>?_).mono fun m h=>⟨hp.rev 0 k,by show 1≤m;omega,by show m≤n;omega,h.2.2.1⟩)
 rw[gr,gr,if_pos (by omega),if_pos (by omega)]
 exact d _ _ (by omega) (by omega)
theorem a4u(T:TPre lt){p:Array Nat}{k:Nat}(hp:Pmn n p)(hk:k+1≤n)(d:Dn lt p (k+1)):Gd n lt (kas_descPart k n p) (fun r=>Pmn n r.2∧1≤r.1∧r.1≤n∧Up lt r.2 r.1):=by
 refine Gd.bind ((a35 T (n-(k+1)) p (k+1) 0 hp (by omega) (by omega) d fun i h1 h2=>?_).mono fun r h=>?_)
 ·have e:i=k+1-1:=by omega
  rw[e];exact⟨T.irr _,T.irr _⟩
 ·obtain⟨p',m,q⟩:=r
  obtain⟨hp',hm1,hm2,hq,d',eq⟩:=h
  dsimp only at *
  have hps:=hp'.size
  split
  ·have gr:=a3a (p:=p') (i:=m-(q+1)) (j:=m) (by omega)
   have eqv:∀i,i<m→lt (ga (kas_rev p' (m-(q+1)) m) i) (ga p' i)=false∧lt (ga p' i) (ga (kas_rev p' (m-(q+1)) m) i)=false:=fun i hi=>by
    rw[gr]
    split
    ·rename_i z
     have a:=eq (m-(q+1)+m-1-i) (by omega) (by omega)
     have b:=eq i z.1 z.2
     exact⟨T.tr _ _ _ b.1 a.2,T.tr _ _ _ a.1 b.2⟩
    ·exact⟨T.irr _,T.irr _⟩
   exact a7D T (hp'.rev _ _) (by omega) (by omega) fun i j hij hj=>T.tr _ _ _ (T.tr _ _ _ (eqv j hj).2 (d' i j hij hj)) (eqv i (by omega)).1
  ·exact a7D T hp' (by omega) (by omega) d'
theorem b2n(T:TPre lt){p:Array Nat}(hp:Pmn n p)(h1:1≤n):Gd n lt (kas_count n p) (fun r=>Pmn n r.2∧1≤r.1∧r.1≤n∧Up lt r.2 r.1):=by
 have hps:=hp.size
 refine Gd.bind ((a7C T hp (n-1) 1 (Nat.le_refl _) (by omega) fun i j hij hj=>?_).mono fun m h=>?_)
 ·have e:i=j:=by omega
  rw[e];exact T.irr _
 ·obtain⟨hm1,hm2,u,z⟩:=h
  split
  ·exact⟨hp,hm1,by omega,u⟩
  ·rename_i ne
   have hlt:m<n:=by
    have:m≠n:=fun q=>ne (by rw[q];exact beq_self_eq_true _)
    omega
   have zl:=z (by omega)
   split
   ·rename_i m1
    refine⟨hp.bd (by omega),hp.bd (by omega),?_⟩
    cases c:lt (p.getD 0 0) (p.getD (m-1) 0)with
    | true=>simp only[if_true];exact⟨hp,hm1,by omega,u⟩
    | false =>
     simp only[Bool.false_eq_true,if_false]
     have gr:=a3a (p:=p) (i:=0) (j:=m) (by omega)
     refine a4u T (hp.rev 0 m) (by omega) fun i j hij hj=>?_
     have all:∀a b,a<m→b<m→lt (ga p a) (ga p b)=false:=fun a b ha hb =>
      T.tr _ _ _ (u b (m-1) (by omega) (by omega)) (T.tr _ _ _ c (u 0 a (by omega) ha))
     rw[gr,gr]
     by_cases hjm:j<m
     ·rw[if_pos (by omega),if_pos (by omega)];exact all _ _ (by omega) (by omega)
     ·have e:j=m:=by omega
      subst e
      rw[if_neg (show ¬(0≤j∧j<j) by omega)]
      by_cases hij':i=j
      ·subst hij';rw[if_neg (by omega)];exact T.irr _
      ·rw[if_pos (by omega)]
       exact T.tr _ _ _ (T.asy _ _ zl) (all _ _ (by omega) (by omega))
   ·rename_i m1
    have e:m=1:=by omega
    subst e
    refine a4u T hp (by omega) fun i j hij hj=>?_
    by_cases hij':i=j
    ·subst hij';exact T.irr _
    ·have e1:i=0:=by omega
     have e2:j=1:=by omega
     subst e1 e2
     exact T.asy _ _ zl
theorem a4K(T:TPre lt){p:Array Nat}(hp:Pmn n p){k:Nat}(hk:k<n)(u:Up lt p k):∀(f l r:Nat),l≤r→r≤k→r-l≤f→(∀i,i<l→lt (ga p k) (ga p i)=false)→(∀i,r≤i→i<k→lt (ga p i) (ga p k)=false) →
  Gd n lt (kas_place p k f l r) (fun m=>m≤k∧(∀i,i<m→lt (ga p k) (ga p i)=false)∧∀i,m≤i→i<k→lt (ga p i) (ga p k)=false)
 | 0,l,r,h1,h2,h3,a,b=>⟨by omega,a,fun i hi=>b i (by omega)⟩
 | f+1,l,r,h1,h2,h3,a,b=>by
  show Gd n lt (if l≥r then _ else _) _
  split
  ·exact⟨by omega,a,fun i hi=>b i (by omega)⟩
  ·refine⟨hp.bd hk,hp.bd (by omega),?_⟩
   cases c:lt (p.getD k 0) (p.getD ((l+r)/2) 0)with
   | true =>
    simp only[if_true]
    refine a4K T hp hk u f l ((l+r)/2) (by omega) (by omega) (by omega) a fun i hi hik=>?_
    exact T.tr _ _ _ (T.asy _ _ c) (u ((l+r)/2) i hi hik)
   | false =>
    simp only[Bool.false_eq_true,if_false]
    refine a4K T hp hk u f ((l+r)/2+1) r (by omega) (by omega) (by omega) (fun i hi=>?_) b
    exact T.tr _ _ _ (u i ((l+r)/2) (by omega) (by omega)) c
theorem b0V(T:TPre lt):∀(f:Nat) (p:Array Nat) (k:Nat),Pmn n p→k+f=n→Up lt p k→Gd n lt (kas_bin f p k) (fun p'=>Pmn n p'∧Up lt p' n)
 | 0,p,k,hp,hk,u=>by
  have e:k=n:=by omega
  subst e;exact⟨hp,u⟩
 | f+1,p,k,hp,hk,u=>by
  have hps:=hp.size
  refine Gd.bind ((a4K T hp (by omega) u k 0 k (by omega) (by omega) (by omega) (fun i hi=>by omega) (fun i h1 h2=>by omega)).mono fun l h=>?_)
  obtain⟨hl,a,b⟩:=h
  have gb:=b5z (p:=p) (src:=k) (d:=k-l) (by omega) (by omega)
  refine b0V T f _ (k+1) (hp.bub _ _) (by omega) fun i j hij hj=>?_
  rw[gb,gb]
  have el:k-(k-l)=l:=by omega
  rw[el]
  by_cases e:i=j
  ·subst e;exact T.irr _
  by_cases hjl:j=l
  ·rw[if_pos hjl,if_neg (by omega),if_neg (by omega)];exact a i (by omega)
  ·rw[if_neg hjl]
   by_cases hil:i=l
   ·rw[if_pos hil,if_pos (by omega)];exact b (j-1) (by omega) (by omega)
   ·rw[if_neg hil]
    by_cases h1:l<j∧j≤k
    ·rw[if_pos h1]
     by_cases h2:l<i∧i≤k
     ·rw[if_pos h2];exact u _ _ (by omega) (by omega)
     ·rw[if_neg h2];exact u _ _ (by omega) (by omega)
    ·rw[if_neg h1,if_neg (by omega)];exact u _ _ hij (by omega)
theorem b35(T:TPre lt)(h1:1≤n):Gd n lt (kas_sort n) (fun p=>Pmn n p∧Up lt p n):=by
 refine Gd.bind ((b2n T (p:=List.toArray (List.range n)) (by unfold Pmn;simp) h1).mono fun r h=>?_)
 obtain⟨hp,m1,m2,u⟩:=h
 split
 ·exact b0V T _ _ _ hp (by omega) (by rw[Nat.max_eq_left m1];exact u)
 ·have e:r.1=n:=by omega
  exact⟨hp,e▸u⟩
end
section
variable {prog:Program}{w:World}{A:Around}{E:Value→Shared→Prop}{s:Shared}{b fin:Bool}{Q:Bool→Shared→Prop}
theorem a4v:∀{vs ws:List Value} {ns ms:List Int} (i:Nat),IntsAre vs ns→IntsAre ws ms→fin=decide (ns.length<ms.length)→Q (HT.lexLt ns ms) s→KatLex prog w A true fin Q (vs.zip ws) i s
 | _,_,_,_,i,.nil,.nil,hf,h=>by rw[List.zip_nil_left];refine kat_nil ?_;rw[hf];exact h
 | _,_,_,_,i,.nil,.cons c u t,hf,h=>by
  rw[List.zip_nil_left];refine kat_nil ?_;rw[hf,decide_eq_true (by simp)];exact h
 | _,_,_,_,i,.cons a t r,.nil,hf,h=>by
  rw[List.zip_nil_right];refine kat_nil ?_;rw[hf,decide_eq_false (by simp)];exact h
 | _,_,_,_,i,.cons (ns:=ns) a t r,.cons (ns:=ms) c u r',hf,h=>by
  rw[List.zip_cons_cons]
  rw[HT.lexLt_cons]at h
  refine kat_cons (wpAny_eqBool_int (kat_go (fun e=>?_) fun e=>?_))
  ·rw[if_pos (by simpa using e)]at h
   exact kat_yes (a4v (i+1) r r' (by rw[hf];simp) h)
  ·rw[if_neg (by simpa using e)]at h
   refine kat_no ?_
   by_cases hi:i=0
   ·subst hi
    show wpAny _ _ (oneLt' true _ _) _ _ _
    exact oneLt_int h
   ·have e0:(true && i == 0)=false:=by simpa using hi
    rw[e0]
    exact kat_one _ _ (PyProof.Rows.lt_int h)
def TupKey(h:Heap)(v:Value)(k:List Int):Prop:=∃a o xs m,v=.ref a∧h.get? a=some o∧o.cls=.type "tuple"∧o.data=.seq xs m∧IntsAre xs.toList k∧k≠[]
theorem TupKey.keeps{h h':Heap}{v:Value}{k:List Int}(t:TupKey h v k)(kp:∀a o,h.get? a=some o→h'.get? a=some o):TupKey h' v k:=by
 obtain⟨a,o,xs,m,e,ho,r⟩:=t
 exact⟨a,o,xs,m,e,kp _ _ ho,r⟩
theorem TupKey.lt{v u:Value}{k l:List Int}{C:Bool→Shared→Prop}{E:Value→Shared→Prop}(t:TupKey s.heap v k)(t':TupKey s.heap u l)(h:C (HT.lexLt k l) s):wpAny (model prog w) A (keyLt' (tuples' true) v u) C E s:=by
 obtain⟨a,o,xs,m,rfl,ho,_,hd,hi,_⟩:=t
 obtain⟨a',o',xs',m',rfl,ho',_,hd',hi',_⟩:=t'
 have z1:xs.size=k.length:=by rw[← hi.length];simp
 have z2:xs'.size=l.length:=by rw[← hi'.length];simp
 exact kat_lt ho hd ho' hd' (a4v 0 hi hi' (by rw[z1,z2]) h)
def TKs(h:Heap):List Value→List (List Int)→Prop
 | [],[]=>True
 | v::vs,k::ks=>TupKey h v k∧TKs h vs ks
 | _,_=>False
theorem TKs.keeps{h h':Heap}(kp:∀a o,h.get? a=some o→h'.get? a=some o):∀{vs:List Value} {ks:List (List Int)},TKs h vs ks→TKs h' vs ks
 | [],[],_=>trivial
 | [],_::_,t=>t.elim
 | _::_,[],t=>t.elim
 | v::vs,k::ks,t=>⟨t.1.keeps kp,TKs.keeps kp t.2⟩
theorem TKs.len{h:Heap}:∀{vs:List Value} {ks:List (List Int)},TKs h vs ks→vs.length=ks.length
 | [],[],_=>rfl
 | [],_::_,t=>t.elim
 | _::_,[],t=>t.elim
 | v::vs,k::ks,t=>by simp[t.2.len]
theorem TKs.at{h:Heap}:∀{vs:List Value} {ks:List (List Int)} (i:Nat),TKs h vs ks→i<vs.length→TupKey h (vs.getD i Value.none) (ks.getD i [])
 | [],_,i,_,hi=>absurd hi (Nat.not_lt_zero _)
 | _::_,[],_,t,_=>t.elim
 | v::vs,k::ks,0,t,_=>t.1
 | v::vs,k::ks,i+1,t,hi=>TKs.at (vs:=vs) (ks:=ks) i t.2 (by simpa using hi)
end
theorem b0W:bootBuiltins "sorted" = some (.builtin "sorted"):=by decide +kernel
theorem a4w:bootBuiltins "reversed" = some (.type "reversed"):=by decide +kernel
theorem a3b:∀ps:List (Int×Tok),IntsAre (ps.map fun p=>Value.int p.1 p.2) (ps.map (·.1))
 | []=>.nil
 | p::ps=>.cons p.1 p.2 (a3b ps)
namespace F'
end F'
open PySem PySem.Spec PyProof.Rows PySem.W
def b0X(X:Cx)(T:String)(r:List V→Hp→VK→Prop):Prop :=
 ∀(pins:List (Addr×Obj)) (s:Shared) (σ:St) (H:Hp) (xs:List V) (us:List Value) (Q:VK),Inv X pins σ H s→Vals xs us→r xs H Q →
  wpAny (model X.prog X.w) X.A (call (.type T) us) (fun v s1=>wpAny (model X.prog X.w) X.A (call (.type "list") [v]) (EP X pins σ Q) X.xe s1) X.xe s
section
variable {X:Cx}
theorem b0Y{T:String}{x:Str}{r:List V→Hp→VK→Prop}{e:Expr}{es:List Expr}{t:TA}{p p2 pos pos2:Pos}(hc:b0X X T r)(hg:Gl X "list")(hm:X.mg "list" = none)(hg2:Gl X x)(hm2:X.mg x=none)(hv2:bootBuiltins x=some (.type T))(ha:PA X (e::es) t)
  (hn:x≠"__name__" := by decide) (hdb:(x == ("__debug__" : Str))=false:=by decide)
  (he1:starEach [Expr.Call (.Name x p2) (e::es) [] pos2] X.env=(false,eval (.Call (.Name x p2) (e::es) [] pos2) X.env)::starEach [] X.env:=by rfl)
  (he:starEach (e::es) X.env=(false,eval e X.env)::starEach es X.env:=by rfl) (hpl:(backTo pos2 (starEach es X.env)).any (·.1)=false:=by rfl) :
  PE X (.Call (.Name "list" p) [.Call (.Name x p2) (e::es) [] pos2] [] pos) (tCB r t):=by
 intro pins s σ H Q I h
 refine wpAny_Call_Name_kw (K4 I hg hm a6f ?_)
 refine PyProof.Rows.callWith_type1 ?_ he1 (by rfl)
 rw[he1]
 show wpAny _ _ (spliced ((false,eval (.Call (.Name x p2) (e::es) [] pos2) X.env)::backTo pos (starEach [] X.env))) _ _ s
 refine Calls.spliced_cons ?_
 refine wpAny_Call_Name_kw (K4 I hg2 hm2 hv2 ?_ hn hdb)
 refine PyProof.Rows.callWith_type1 (l3 (ha pos2 pins s σ H _ I h) fun us s1 ⟨vs,H1,I1,r1,q1⟩=>?_) he hpl
 refine l3 (hc pins s1 σ H1 vs us Q I1 r1 q1) fun v s2 h2=>?_
 exact Calls.spliced_nil h2
end
abbrev TH:=Value→Option Addr→Addr→Ends→St→Hp→Prop
def PH(X:Cx)(hs:List ExceptHandler)(th:TH):Prop :=
 ∀(pins:List (Addr×Obj)) (s:Shared) (σ:St) (H:Hp) (a:Addr) (cls:Value) (cx:Option Addr) (B:Heap) (D:Ends),Inv X pins σ H s→XAt X pins H s a cls cx B .fly→th cls cx a D σ H→wpAny (model X.prog X.w) X.A (handleBy (.ref a) X.env hs) (SP X pins D) X.xe s
def b3u:TH:=fun _ _ _ _ _ _=>False
def b5A(K:W.Frag)(C:Addr)(i:Nat)(ts:Addr→TS)(k8:TH):TH:=fun cls cx a D σ H =>
 (W.exmOne K cls (.ref C)=some true∧ts a { nx:=fun σ' H2=>D.nx (σ'.set i none) H2,rt:=D.rt,bk:=fun σ' H2=>D.bk (σ'.set i none) H2,ct:=fun σ' H2=>D.ct (σ'.set i none) H2 } (σ.set i (some (.ref a))) (upd H a (D2 a cls cx)))∨(W.exmOne K cls (.ref C)=some false∧k8 cls cx a D σ H)
section
variable {X:Cx}
theorem b5B:PH X [] b3u:=fun _ _ _ _ _ _ _ _ _ _ _ h=>h.elim
theorem b6r{x n:Str}{i:Nat}{C:Addr}{suite:List Stmt}{b₀:Stmt}{np hpos:Pos}{hs:List ExceptHandler}{ts:Addr→TS}{k8:TH}(hg:Gl X x)(hm:X.mg x=some (.ref C))(hN:X.N.Nodup)(hi:X.N[i]? = some n)(hh:∀a,PSs (X.inExc a).nox (b₀::suite) (ts a))(hr:PH X hs k8)
  (hl:X.env.scope.names.lookup n=some .local:=by rfl) (hd:(x == ("__debug__" : Str))=false:=by decide):PH X (.ExceptHandler (some (.Name x np)) (some n) (b₀::suite) hpos::hs) (b5A X.K C i ts k8):=by
 intro pins s σ H a cls cx B D I x4 h
 have ok:=I.ok
 refine wpAny_handleBy_cons (codeAny_handlers_test (Q8 (I.toExc (a:=a)) hg hm ?_ hd)) (by intro q;cases q)
 obtain⟨oe,vs,e,hc,d,_⟩:=x4.tr.there
 have LT:W.Looks (model X.prog X.w) s.heap (typeOf (.ref a)) cls:=hc▸(W.Looks.ld e).andThen .now
 rcases h with⟨hx,hsu⟩ | ⟨hx,hn⟩
 ·refine(W.exm_one I.kIn LT hx).here ?_
  refine codeAny_handlers_suite_as ?_
  refine a6c I x4 (fun z=>nomatch z) fun h5 I5 x5=>?_
  have I6:=(I5.track x5).toExc (a:=a)
  refine a2t (X:=X.inExc a) (v:=.ref a) I6 hN hi (.inl hl) rfl (fun s6 I7=>?_) (.inr hl)
  refine wpAny_mono (hh a pins s6 _ _ _ (I7.wish _) hsu) (fun f s7 q=>?_) fun _ _ z=>z.elim
  have q:=(q.unwish).ofExc ok
  cases f with
  | next =>
   obtain⟨σ7,H7,I8,q⟩:=q
   exact I8.nameGoes hN hi hl fun h8 I9=>⟨_,H7,I9,q⟩
  | brk =>
   obtain⟨σ7,H7,I8,q⟩:=q
   exact I8.nameGoes hN hi hl fun h8 I9=>⟨_,H7,I9,q⟩
  | cont =>
   obtain⟨σ7,H7,I8,q⟩:=q
   exact I8.nameGoes hN hi hl fun h8 I9=>⟨_,H7,I9,q⟩
  | ret u =>
   obtain⟨v7,σ7,H7,I8,r,q⟩:=q
   exact I8.nameGoes hN hi hl fun h8 I9=>⟨v7,_,H7,I9,r,q⟩
 ·refine(W.exm_one I.kIn LT hx).here ?_
  exact hr pins s σ H a cls cx B D I x4 hn
def XAccAt(X:Cx)(σ:St)(E:XK):Prop:=∀(pins:List (Addr×Obj)) (H:Hp) (s:Shared) (a:Addr) (cls:Value) (cx:Option Addr) (B:Heap) (ph:Ph),Inv X pins σ H s→XAt X pins H s a cls cx B ph→E cls cx H→X.xe (.ref a) s
theorem XAccAt.passes{σ:St}{E:XK}(acc:XAccAt X σ E):∀(pins:List (Addr×Obj)) (H:Hp) (s:Shared) (e:Value) (s':Shared),Inv X pins σ H s→x9 X.prog X.w X.stack H s E e s'→X.xe e s':=by
 intro pins H s e s' I h
 obtain⟨a,cls,cx,H',B,rfl,os,bare,un,hok,st,fr,ff,tr,free,cov,hE⟩:=h
 have I':Inv X pins σ H' s':=I.call' (ch:=[]) os un hok bare (fun b z=>absurd z (by simp))
 refine acc pins H' s' a cls cx B .fly I' ⟨free,st,fr,ff,fun b o e i n=>cov b o e ?_ n,tr⟩ hE
 rcases i with i | ⟨hx,o',i⟩ | ⟨p,hp,q⟩
 ·exact .inl i
 ·exact .inr (I.base.there b o' i hx)
 ·exact .inr ⟨p.2,by rw[← q];exact(I.pin p hp).1⟩
theorem b36{k k':Nat}{ps:List Str}{sp:Sp}{x:Str}{p pos:Pos}{e:Expr}{es:List Expr}{t:TA}{E:XK}{σ:St}(G:Own X.prog X.w X.K X.mg X.base k x ps sp)(hr:Room k' X.A)(hk:k≤k')(acc:XAccAt X σ E)(ha:PA X (e::es) t)(hg:Gl X x)
  (hdb:(x == ("__debug__" : Str))=false:=by decide) (he:starEach (e::es) X.env=(false,eval e X.env)::starEach es X.env:=by rfl) (hpl:(backTo pos (starEach es X.env)).any (·.1)=false:=by rfl)
  {pins:List (Addr×Obj)} {s:Shared} {H:Hp} {Q:VK} (I:Inv X pins σ H s) (h:a0Z sp [] E t σ H Q):wpAny (model X.prog X.w) X.A (eval (.Call (.Name x p) (e::es) [] pos) X.env) (EP X pins σ Q) X.xe s:=by
 obtain⟨f,fd,F,b,kp,m⟩:=G.ex
 refine wpAny_Call_Name_kw (Q8 I hg m ?_ hdb)
 refine W.callWith_K (h₀:=X.base) I.ok.mod.kin kp (l3 (ha pos pins s σ H _ I h) fun us s1 ⟨vs,H1,I1,r,q⟩=>⟨I1.kIn,?_⟩) he hpl
 have q:sp (vs++[]) H1 Q E:=q
 rw[List.append_nil]at q
 have hl:us.length=ps.length:=by rw[← r.length];exact F.len _ _ _ _ q
 have hb:=b s1 us I1.kIn (by rw[List.append_nil];exact hl)
 rw[List.append_nil]at hb
 refine wpAny_call (codeAny_mono (F.run X.A X.stack s1 H1 ⟨us,[]⟩ us vs Q E (hr.mono hk) I1.env0 hb r q) fun r s' hq=>?_)
 cases r with
 | error e=>exact acc.passes pins H1 s1 e s' I1 hq
 | ok fl =>
  cases fl with
  | ret u=>exact I1.after hq
  | next=>exact False.elim hq
  | brk=>exact False.elim hq
  | cont=>exact False.elim hq
end
def Itv(K:W.Frag)(a:Addr)(n:Nat):It :=
 ⟨fun i H=>i<n∧∃xs,SqL K H a xs∧xs.length=n,fun i H x H'=>H'=H∧∀xs,SqL K H a xs→xs[n-1-i]? = some x,fun i H=>n≤i∧∃xs,SqL K H a xs∧xs.length=n⟩
theorem b2o{P:Program}{w:World}{K:PySem.W.Frag}{tg:Expr}(a it:Addr)(n:Nat)(hne:a≠it):Turn P w K tg (Itv K a n) [it] it (fun i h=>i≤n∧h.IsRevIter it a ((n:Int)-1-(i:Int))) where
 mem:=by simp
 obj:=fun i h ⟨_,o,e1,c,d⟩ b hb=>by
  have q:b=it:=by simpa using hb
  subst q
  exact⟨o,e1,fun v z=>by rw[d]at z;cases z⟩
 keep:=fun i h h' ⟨l,st⟩ k=>⟨l,st.at fun o q=>k it (by simp) o q⟩
 item:=by
  intro X hP hw hK hc i pins s σ H E I hf hst hg
  subst hP hw hK
  obtain⟨f0,f1,f2,f3,f4,f5⟩:=hf it (by simp)
  obtain⟨hi,xs,hq,hn⟩:=hg
  obtain⟨its,rv,p,hz⟩:=I.list hq
  have hl:=rv.length
  have hsz:its.toArray.size=n:=by rw[List.size_toArray];omega
  have W:=Walks.listRev (prog:=X.prog) (w:=X.w) (I.ok.hd hc) it a hne its.toArray
  rw[hsz]at W
  refine W.item i s _ _ hi ⟨hst.1,hst.2,p.isList⟩ fun v h' tk hv st' kk=>?_
  have hj:n-1-i<xs.length:=by omega
  obtain⟨u,hu,ru⟩:=rv.get (List.getElem?_eq_getElem hj)
  have hv':its[n-1-i]? = some v:=by simpa using hv
  rw[hu]at hv'
  cases hv'
  have I1:Inv X pins σ H { s with heap:=h',toks:=tk }:=I.turned (fun b o hb e=>kk b o (by simpa using hb) e) f0 f1 f3 f4 f5
  obtain⟨l',⟨o,eo,ec,ed⟩,_⟩:=st'
  exact⟨_,rfl,a30 (s:={ s with heap:=h',toks:=tk }) (n := "list_reverseiterator") eo ec ed (by decide) ⟨xs[n-1-i],H,I1,ru,⟨rfl,fun ys hy=>by rw[I.list_inj hy hq];exact List.getElem?_eq_getElem hj⟩,⟨l',⟨o,eo,ec,ed⟩⟩,fun b hb=>(hf b hb).1⟩⟩
 done:=by
  intro X hP hw hK hc i pins s σ H E I hf hst hg
  subst hP hw hK
  obtain⟨f0,f1,f2,f3,f4,f5⟩:=hf it (by simp)
  obtain⟨hi,xs,hq,hn⟩:=hg
  obtain⟨its,rv,p,hz⟩:=I.list hq
  have hl:=rv.length
  have hsz:its.toArray.size=n:=by rw[List.size_toArray];omega
  have W:=Walks.listRev (prog:=X.prog) (w:=X.w) (I.ok.hd hc) it a hne its.toArray
  rw[hsz]at W
  have e:i=n:=by have:=hst.1;omega
  subst e
  exact W.done s _ _ ⟨hst.1,hst.2,p.isList⟩ fun h' tk kp=>⟨rfl,I.turned (fun b o hb e=>kp b o (by simpa using hb) e) f0 f1 f3 f4 f5⟩
 self:=fun A i s Q E st h=>by
  obtain⟨_,st⟩:=st
  exact wpAny_pyIter_revIter st h
theorem b37{K:PySem.W.Frag}{a:Addr}{xs:List V}{g:TG}{tb:TS}{D:Ends}{σ:St}{H:Hp}(Pv:Nat→St→Hp→Prop)(h0:Pv 0 σ H)(hl:∀i σ H,i≤xs.length→Pv i σ H→SqL K H a xs)
  (hs:∀i x σ H,xs.reverse[i]? = some x→Pv i σ H→g x σ H fun σ2 H2=>tb { D with nx:=Pv (i+1),ct:=Pv (i+1),bk:=D.nx } σ2 H2) (hd:∀σ H,Pv xs.length σ H→D.nx σ H) :
  ∃W:Nat→Nat→St→Hp→Prop,(∃m,W 0 m σ H)∧∀i m σ H,W i m σ H →
   ((Itv K a xs.length).stop i H∧D.nx σ H)∨((Itv K a xs.length).go i H∧∃N:St→Hp→Prop,(∀σ' H',N σ' H'→∃m',m'<m∧W (i+1) m' σ' H')∧∀x H',(Itv K a xs.length).yld i H x H'→g x σ H' fun σ2 H2=>tb { D with nx:=N,ct:=N,bk:=D.nx } σ2 H2):=by
 refine⟨fun i m σ H=>m=xs.length-i∧i≤xs.length∧Pv i σ H,⟨xs.length,by simp,Nat.zero_le _,h0⟩,?_⟩
 rintro i m σ H ⟨rfl,hi,p⟩
 have q:=hl i σ H hi p
 by_cases hlt:i<xs.length
 ·refine .inr ⟨⟨hlt,xs,q,rfl⟩,Pv (i+1),fun σ' H' z=>⟨xs.length-(i+1),by omega,rfl,hlt,z⟩,fun v H' y=>?_⟩
  obtain⟨rfl,y⟩:=y
  refine hs i v σ _ ?_ p
  rw[List.getElem?_reverse hlt]
  exact y xs q
 ·have e:i=xs.length:=by omega
  subst e
  exact .inl ⟨⟨Nat.le_refl _,xs,q,rfl⟩,hd σ H p⟩
def b5C(K:W.Frag)(ta:TA):TI:=fun σ H R=>ta σ H fun vs H1=>∃a xs,vs=[.ref a]∧SqL K H1 a xs∧R (Itv K a xs.length) H1
section
variable {X:Cx}{tg:Expr}
theorem b5D{l:Expr}{ta:TA}{p pos:Pos}(hg:Gl X "reversed")(hm:X.mg "reversed" = none)(ha:PA X [l] ta)(hs:starEach [l] X.env=[(false,eval l X.env)]:=by rfl) :
  PI X tg (.Call (.Name "reversed" p) [l] [] pos) (b5C X.K ta):=by
 intro pins s σ H R I h
 refine Call_ (K4 I hg hm a4w (PyProof.Rows.callWith_type1 (l3 (ha pos pins s σ H _ I h) fun us s1 ⟨vs,H1,I1,r1,q1⟩=>?_) hs rfl))
 obtain⟨a,xs,e,hq,q⟩:=q1
 subst e
 obtain⟨u,rfl,ru⟩:=r1.one
 cases (show u=Value.ref a from ru)
 obtain⟨its,rv,pl,hz⟩:=I1.list hq
 have la:a<s1.heap.objs.size:=by obtain⟨o,n,e,_⟩:=pl;exact Heap.lt_size e
 have hlen:=rv.length
 refine call_reversed_list pl.isList ?_
 have el:((its.toArray.size:Nat):Int)-1=(xs.length:Int)-1-((0:Nat):Int):=by simp;omega
 rw[el]
 have I2:Inv X pins σ H1 { s1 with heap:=s1.heap.push (revObj a ((xs.length:Int)-1-((0:Nat):Int))) }:=I1.kept (t':=s1.toks) fun b o e=>Heap.get?_push_of_some _ e
 have hit:(s1.heap.push (revObj a ((xs.length:Int)-1-((0:Nat):Int)))).IsRevIter s1.heap.objs.size a ((xs.length:Int)-1-((0:Nat):Int)):=⟨_,Heap.get?_push_size _ rfl,rfl,rfl⟩
 refine wpAny_pyIter_revIter (s:={ s1 with heap:=s1.heap.push (revObj a ((xs.length:Int)-1-((0:Nat):Int))) }) hit ?_
 refine⟨s1.heap.objs.size,[s1.heap.objs.size],_,_,H1,rfl,I2,b2o a s1.heap.objs.size xs.length (Nat.ne_of_lt la),⟨Nat.zero_le _,hit⟩,fun b hb=>?_,q⟩
 have z:b=s1.heap.objs.size:=by simpa using hb
 subst z
 exact I1.fpOk (Nat.le_refl _) (I1.hok.fresh (Nat.le_refl _))
end
section
variable {prog:Program}{w:World}{A:Around}{E:Value→Shared→Prop}{s:Shared}{fin:Bool}{Q:Bool→Shared→Prop}
theorem a5h{rs rs':List Value}:∀{vs ws:List Value} {ns ms:List Int} (i:Nat),IntsAre vs ns→IntsAre ws ms→ns.length=ms.length→ns≠ms→Q (HT.lexLt ns ms) s→KatLex prog w A true fin Q ((vs++rs).zip (ws++rs')) i s
 | _,_,_,_,i,.nil,.nil,_,hn,_=>absurd rfl hn
 | _,_,_,_,i,.nil,.cons c u t,hf,_,_=>by simp at hf
 | _,_,_,_,i,.cons a t r,.nil,hf,_,_=>by simp at hf
 | _,_,_,_,i,.cons (ns:=ns) a t r,.cons (ns:=ms) c u r',hf,hn,h=>by
  rw[List.cons_append,List.cons_append,List.zip_cons_cons]
  rw[HT.lexLt_cons]at h
  refine kat_cons (wpAny_eqBool_int (kat_go (fun e=>?_) fun e=>?_))
  ·have e':a=c:=by simpa using e
   rw[if_pos e']at h
   exact kat_yes (a5h (i+1) r r' (by simpa using hf) (fun z=>hn (by rw[e',z])) h)
  ·rw[if_neg (by simpa using e)]at h
   refine kat_no ?_
   by_cases hi:i=0
   ·subst hi
    show wpAny _ _ (oneLt' true _ _) _ _ _
    exact oneLt_int h
   ·have e0:(true && i == 0)=false:=by simpa using hi
    rw[e0]
    exact kat_one _ _ (PyProof.Rows.lt_int h)
def TupPre(h:Heap)(v:Value)(k:List Int):Prop:=∃a o xs m vs rs,v=.ref a∧h.get? a=some o∧o.cls=.type "tuple"∧o.data=.seq xs m∧xs.toList=vs++rs∧IntsAre vs k∧k≠[]∧∀u∈xs.toList,(u == u)=true
theorem TupPre.keeps{h h':Heap}{v:Value}{k:List Int}(t:TupPre h v k)(kp:∀a o,h.get? a=some o→h'.get? a=some o):TupPre h' v k:=by
 obtain⟨a,o,xs,m,vs,rs,e,ho,r⟩:=t
 exact⟨a,o,xs,m,vs,rs,e,kp _ _ ho,r⟩
theorem TupPre.lt{v u:Value}{k l:List Int}{C:Bool→Shared→Prop}(t:TupPre s.heap v k)(t':TupPre s.heap u l)(hl:k.length=l.length)(hn:k≠l)(h:C (HT.lexLt k l) s):wpAny (model prog w) A (keyLt' (tuples' true) v u) C E s:=by
 obtain⟨a,o,xs,m,vs,rs,rfl,ho,_,hd,hx,hi,_⟩:=t
 obtain⟨a',o',xs',m',vs',rs',rfl,ho',_,hd',hx',hi',_⟩:=t'
 refine kat_lt ho hd ho' hd' ?_
 rw[hx,hx']
 exact a5h 0 hi hi' hl hn h
def TPs(h:Heap):List Value→List (List Int)→Prop
 | [],[]=>True
 | v::vs,k::ks=>TupPre h v k∧TPs h vs ks
 | _,_=>False
theorem TPs.keeps{h h':Heap}(kp:∀a o,h.get? a=some o→h'.get? a=some o):∀{vs:List Value} {ks:List (List Int)},TPs h vs ks→TPs h' vs ks
 | [],[],_=>trivial
 | [],_::_,t=>t.elim
 | _::_,[],t=>t.elim
 | v::vs,k::ks,t=>⟨t.1.keeps kp,TPs.keeps kp t.2⟩
theorem TPs.at{h:Heap}:∀{vs:List Value} {ks:List (List Int)} (i:Nat),TPs h vs ks→i<vs.length→TupPre h (vs.getD i Value.none) (ks.getD i [])
 | [],_,i,_,hi=>absurd hi (Nat.not_lt_zero _)
 | _::_,[],_,t,_=>t.elim
 | v::vs,k::ks,0,t,_=>t.1
 | v::vs,k::ks,i+1,t,hi=>TPs.at (vs:=vs) (ks:=ks) i t.2 (by simpa using hi)
end
theorem a6_{pos:Pos}{a b:Int}{c cv:Value}(l:List Value)(h:TriplesOk l)(e:codeAmong pos (l++[rawInt a,rawInt b,c])=some cv):codeAmong pos l=some cv∨cv=c:=by
 fun_induction TriplesOk l with
 | case1 =>
  simp only[List.nil_append,codeAmong,rawInt]at e
  split at e
  ·exact .inr (Option.some.inj e).symm
  ·cases e
 | case2 a t b u x k8 ih =>
  simp only[List.cons_append,codeAmong]at e ⊢
  split at e
  ·exact .inl (by rename_i z;rw[if_pos z];exact e)
  ·rename_i z;rw[if_neg z];exact ih h e
 | case3=>exact h.elim
def b6s(oc:Obj)(q:Str):Prop:=∃vs t,oc.data=.fields vs∧vs[1]? = some (.str q t)
section
variable {X:Cx}{pins:List (Addr×Obj)}{σ:St}{H:Hp}{s:Shared}{params:Arguments}{body:Expr}{scope:Scope}{lpos:Pos}{c P:Addr}{q:Str}{tq:Tok}{qs:Array Value}{Q:Value→Shared→Prop}{E:Value→Shared→Prop}
theorem Inv.grown{h':Heap}{tk:Nat}{c':Addr}{oc:Obj}{ps:Array Value}{a b:Int}(I:Inv X pins σ H s)(hT:H P=some (.tbl qs))(hqs:qs[0]? = some (Value.str q tq))(eP:s.heap.get? P=some (tabObj ps))(tr:TriplesOk ps.toList)
  (al:∀pos cv,codeAmong pos ps.toList=some cv→∃c oc u,cv=Value.ref c∧H c=some (.frz oc u)∧∃vs q' t t2,oc.data=.fields vs∧vs[1]? = some (Value.str q' t2)∧qs[0]? = some (Value.str q' t))
  (hx:Heap.ExtBut P s.heap h') (hge:s.heap.objs.size≤c') (hoc:h'.get? c'=some oc) (hq:b6s oc q) (htb:h'.get? P=some (tabObj (ps ++ #[rawInt a,rawInt b,.ref c']))) :
  Inv X pins σ (upd H c' (.frz oc (.own c'))) { s with heap:=h',toks:=tk }:=by
 have hn:H c'=none:=I.hok.fresh hge
 have neP:∀b',H b'=none→b'≠P:=fun b' n z=>by rw[z,hT]at n;cases n
 refine I.un (t':=tk) ⟨fun b o e n _ _=>hx b o (neP b n) e,fun b o e n _ _=>⟨o.slots,hx b o (neP b n) e⟩,fun b o e n _=>by rw[g8 (Nat.ne_of_lt (Nat.lt_of_lt_of_le (Heap.lt_size e) hge))];exact n,fun b o e _=>?_,fun b xs e=>by rw[g8 (j8 e hn)];exact e,fun b o u e=>by rw[g8 (j8 e hn)];exact e,fun b qs e=>⟨#[],by rw[g8 (j8 e hn),e];simp⟩⟩ fun b u e=>?_
 ·by_cases z:b=P
  ·rw[z];exact⟨_,htb⟩
  ·exact⟨o,hx b o z e⟩
 ·by_cases z:b=c'
  ·subst z
   rw[i8]at e;cases e
   exact⟨hoc,oc,hoc⟩
  ·rw[g8 z]at e
   by_cases y:b=P
   ·subst y
    rw[hT]at e;cases e
    refine⟨_,htb,by rw[Array.toList_append];exact TriplesOk_snoc _ _ _ _ tr,fun pos cv e=>?_⟩
    rw[Array.toList_append]at e
    rcases a6_ _ tr e with e | rfl
    ·obtain⟨c,o,u,e1,e2,r⟩:=al pos cv e
     exact⟨c,o,u,e1,by rw[g8 (j8 e2 hn)];exact e2,r⟩
    ·obtain⟨vs,t,d1,d2⟩:=hq
     exact⟨c',oc,.own c',rfl,i8,vs,q,tq,t,d1,d2,hqs⟩
   ·refine(I.hok b u e).stay (fun d v hd r=>hx d v ?_ r) (fun d r=>by rw[g8 (j8 r hn)];exact r) (fun d xs r=>by rw[g8 (j8 r hn)];exact r) fun d o u r=>by rw[g8 (j8 r hn)];exact r
    rcases hd with rfl | hd
    ·exact y
    ·intro z;rw[z,hT]at hd;cases hd
end
section
variable {X:Cx}{pins:List (Addr×Obj)}{σ:St}{H:Hp}{s:Shared}{A':Around}{E:Value→Shared→Prop}
theorem FpOk.to{H':Hp}{b:Addr}(f:FpOk X pins H b)(n:H' b=none):FpOk X pins H' b:=⟨n,f.2⟩
end
def TbAt(P:Addr)(q:Str)(H:Hp):Prop:=∃(qs:Array Value) (t:Tok),H P=some (.tbl qs)∧qs[0]? = some (Value.str q t)
theorem TbAt.now{P:Addr}{q:Str}{fs ex:List Addr}{H H':Hp}{h h':Heap}(t:TbAt P q H)(u:Un fs ex H H' h h'):TbAt P q H':=by
 obtain⟨qs,t,e,e2⟩:=t
 obtain⟨more,e3⟩:=u.tbls _ _ e
 refine⟨_,t,e3,?_⟩
 have h0:0<qs.size:=by
  by_cases z:0<qs.size
  ·exact z
  ·rw[Array.getElem?_eq_none (by omega)]at e2;cases e2
 rw[Array.getElem?_append_left h0];exact e2
def TbAll(TB:List (Addr×Str))(H:Hp):Prop:=∀P q,TB.lookup P=some q→TbAt P q H
theorem TbAll.now{TB:List (Addr×Str)}{fs ex:List Addr}{H H':Hp}{h h':Heap}(t:TbAll TB H)(u:Un fs ex H H' h h'):TbAll TB H':=fun P q e=>(t P q e).now u
end L2
namespace HT
open PySem PyProof.Rows
end HT
namespace L2
open PySem PySem.Spec PyProof.Rows
open PySem.W
def Rise(a:Array Nat):Prop:=a.toList.Pairwise (· < ·)
theorem Rise.lt{a:Array Nat}(h:Rise a){i j:Nat}(hij:i<j)(hj:j<a.size):a.getD i 0<a.getD j 0:=by
 have hi:i<a.size:=Nat.lt_trans hij hj
 have:=List.pairwise_iff_getElem.mp h i j (by simpa using hi) (by simpa using hj) hij
 simpa [Array.getD,hi,hj]using this
theorem a4L(xs:Array Nat)(j:Nat)(hr:Rise xs):∀(fuel lo hi:Nat),hi-lo≤fuel→lo≤hi→hi≤xs.size→(∀i,i<lo→xs.getD i 0<j)→(∀i,hi≤i→i<xs.size→j≤xs.getD i 0) →
  SetTable.below.go xs j fuel lo hi≤xs.size∧(∀i,i<SetTable.below.go xs j fuel lo hi→xs.getD i 0<j)∧(∀i,SetTable.below.go xs j fuel lo hi≤i→i<xs.size→j≤xs.getD i 0)
 | 0,lo,hi,hf,hl,hs,h1,h2=>by
  rw[SetTable.below.go.eq_def]
  exact⟨by show lo≤_;omega,h1,fun i hi' hi2=>h2 i (by have:lo≤i:=hi';omega) hi2⟩
 | fuel+1,lo,hi,hf,hl,hs,h1,h2=>by
  rw[SetTable.below.go.eq_def]
  show(if lo<hi then(if xs.getD ((lo+hi)/2) j<j then SetTable.below.go xs j fuel ((lo+hi)/2+1) hi else SetTable.below.go xs j fuel lo ((lo+hi)/2))else lo)≤xs.size∧(∀i,i<(if lo<hi then(if xs.getD ((lo+hi)/2) j<j then SetTable.below.go xs j fuel ((lo+hi)/2+1) hi else SetTable.below.go xs j fuel lo ((lo+hi)/2))else lo)→xs.getD i 0<j)∧(∀i,(if lo<hi then(if xs.getD ((lo+hi)/2) j<j then SetTable.below.go xs j fuel ((lo+hi)/2+1) hi else SetTable.below.go xs j fuel lo ((lo+hi)/2))else lo)≤i→i<xs.size→j≤xs.getD i 0)
  by_cases c:lo<hi
  ·rw[if_pos c]
   have hm:(lo+hi)/2<xs.size:=by omega
   have e:xs.getD ((lo+hi)/2) j=xs.getD ((lo+hi)/2) 0:=by simp[Array.getD,hm]
   by_cases c2:xs.getD ((lo+hi)/2) j<j
   ·rw[if_pos c2]
    refine a4L xs j hr fuel _ hi (by omega) (by omega) hs (fun i hi'=>?_) h2
    by_cases z:i=(lo+hi)/2
    ·rw[z,← e];exact c2
    ·have:=hr.lt (i:=i) (j:=(lo+hi)/2) (by omega) hm
     omega
   ·rw[if_neg c2]
    refine a4L xs j hr fuel lo _ (by omega) (by omega) (by omega) h1 (fun i hi' hi2=>?_)
    by_cases z:i=(lo+hi)/2
    ·rw[z,← e];omega
    ·have:=hr.lt (i:=(lo+hi)/2) (j:=i) (by omega) hi2
     omega
  ·rw[if_neg c]
   exact⟨by omega,h1,fun i hi' hi2=>h2 i (by omega) hi2⟩
theorem a7E{xs:Array Nat}(j:Nat)(hr:Rise xs):SetTable.below xs j≤xs.size∧(∀i,i<SetTable.below xs j→xs.getD i 0<j)∧(∀i,SetTable.below xs j≤i→i<xs.size→j≤xs.getD i 0) :=
 a4L xs j hr xs.size 0 xs.size (by omega) (by omega) (Nat.le_refl _) (fun i h=>by omega) (fun i h h2=>by omega)
theorem b2p{xs:Array Nat}{j p:Nat}(hr:Rise xs)(hp:p≤xs.size)(h1:∀i,i<p→xs.getD i 0<j)(h2:∀i,p≤i→i<xs.size→j≤xs.getD i 0):SetTable.below xs j=p:=by
 obtain⟨a,b,c⟩:=a7E j hr
 by_cases z:SetTable.below xs j<p
 ·have:=h1 _ z
  have:=c _ (Nat.le_refl _) (by omega)
  omega
 ·by_cases z2:p<SetTable.below xs j
  ·have:=b _ z2
   have:=h2 _ (Nat.le_refl _) (by omega)
   omega
  ·omega
theorem b2q{t:SetTable}{j:Nat}(hr:Rise t.place)(hj:(t.place[SetTable.below t.place j]? == some j)=false):Rise (t.put j).1.place:=by
 obtain⟨a,b,c⟩:=a7E j hr
 show(SetTable.insertAt t.place (SetTable.below t.place j) j).toList.Pairwise (· < ·)
 rw[SetTable.toList_insertAt,List.pairwise_append]
 have hn:∀i,SetTable.below t.place j≤i→i<t.place.size→j<t.place.getD i 0:=by
  intro i h1 h2
  have h3:=c i h1 h2
  by_cases z:t.place.getD i 0=j
  ·exfalso
   have:i=SetTable.below t.place j:=by
    by_cases q:SetTable.below t.place j<i
    ·have:=hr.lt q h2
     have:=c (SetTable.below t.place j) (Nat.le_refl _) (by omega)
     omega
    ·omega
   rw[← this]at hj
   have e:t.place[i]? = some j:=by rw[Array.getElem?_eq_getElem h2];congr 1;simpa [Array.getD,h2]using z
   rw[e]at hj
   simp at hj
  ·omega
 have mt:∀x∈t.place.toList.take (SetTable.below t.place j),x<j:=by
  intro x hx
  obtain⟨i,hi,e⟩:=List.getElem_of_mem hx
  rw[List.length_take]at hi
  rw[List.getElem_take]at e
  have hi3:t.place.toList.length=t.place.size:=by simp
  have hi2:i<t.place.size:=by omega
  have:=b i (by omega)
  simp[Array.getD,hi2]at this
  simp at e
  omega
 have md:∀x∈t.place.toList.drop (SetTable.below t.place j),j<x:=by
  intro x hx
  obtain⟨i,hi,e⟩:=List.getElem_of_mem hx
  rw[List.length_drop]at hi
  rw[List.getElem_drop]at e
  have hi3:t.place.toList.length=t.place.size:=by simp
  have hi2:SetTable.below t.place j+i<t.place.size:=by omega
  have:=hn (SetTable.below t.place j+i) (by omega) hi2
  simp[Array.getD,hi2]at this
  simp at e
  omega
 refine⟨List.Pairwise.sublist (List.take_sublist _ _) hr,List.pairwise_cons.mpr ⟨md,List.Pairwise.sublist (List.drop_sublist _ _) hr⟩,fun x hx y hy=>?_⟩
 rcases List.mem_cons.mp hy with rfl | hy
 ·exact mt x hx
 ·have:=mt x hx
  have:=md y hy
  omega
structure TbR(led:Bool)(t:SetTable):Prop where
 rise:Rise t.place
 dum:t.dummies = #[]
 led:t.led=led
theorem TbR.standIn{led:Bool}{t:SetTable}(T:TbR led t)(n:Nat):TbR led (t.standIn n):=by
 refine⟨?_,rfl,T.led⟩
 show(Array.range n).toList.Pairwise (· < ·)
 rw[Array.toList_range]
 exact List.pairwise_lt_range
theorem TbR.orStandIn{led:Bool}{t:SetTable}(T:TbR led t)(n:Nat):TbR led (t.orStandIn n):=by
 unfold SetTable.orStandIn
 split
 ·exact T
 ·exact T.standIn n
theorem a9b(j:Nat):SetTable.has #[] j=false:=by
 unfold SetTable.has
 simp
theorem a7F{t:SetTable}(hd:t.dummies = #[])(ha:Nat→Int)(h:Int):∀(fuel:Nat) (p:SetTable.Probe),p.dummy=none→∀j d,SetTable.probe.go t ha h fuel p=some (.empty j d)→d=none∧(t.place[SetTable.below t.place j]? == some j)=false
 | 0,p,_,j,d,e=>by rw[SetTable.probe.go.eq_def]at e;cases e
 | fuel+1,p,hp,j,d,e=>by
  rw[SetTable.probe.go.eq_def]at e
  have adv:(t.advance p).dummy=none:=by
   unfold SetTable.advance
   split
   ·exact hp
   ·exact hp
  have e:(match t.slot p.j with
   | SetTable.Slot.empty=>some (SetTable.Met.empty p.j p.dummy)
   | SetTable.Slot.dummy=>SetTable.probe.go t ha h fuel (t.advance { j:=p.j,more:=p.more,i:=p.i,perturb:=p.perturb,dummy:=some p.j })
   | SetTable.Slot.live i=>if(ha i == h)=true then some (SetTable.Met.candidate p.j i (t.advance p))else SetTable.probe.go t ha h fuel (t.advance p))=some (.empty j d):=e
  split at e
  ·rename_i hs
   injection e with e
   injection e with e1 e2
   subst e1
   refine⟨by rw[← e2];exact hp,?_⟩
   unfold SetTable.slot at hs
   by_cases z:(t.place[SetTable.below t.place p.j]? == some p.j)=true
   ·rw[if_pos z]at hs;cases hs
   ·simpa using z
  ·rename_i hs
   exfalso
   unfold SetTable.slot at hs
   rw[hd,a9b]at hs
   by_cases z:(t.place[SetTable.below t.place p.j]? == some p.j)=true
   ·rw[if_pos z]at hs;cases hs
   ·rw[if_neg z,if_neg (by decide)]at hs;cases hs
  ·split at e
   ·cases e
   ·exact a7F hd ha h fuel _ adv j d e
theorem b0Z{led:Bool}{t:SetTable}(T:TbR led t)(es:Array (Int×Value))(h:Int)(x:Value):TbR led (layNew t es h x).2.1:=by
 unfold layNew
 cases e:t.freeSlot h with
 | none=>exact T.standIn _
 | some q =>
  obtain⟨slot,wd⟩:=q
  show TbR led ((t.put slot).1.orStandIn _)
  refine TbR.orStandIn (t:=(t.put slot).1) ⟨?_,?_,T.led⟩ _
  ·unfold SetTable.freeSlot at e
   split at e
   ·rename_i j d hp
    obtain⟨h1,h2⟩:=a7F T.dum _ h _ (t.probeStart h) rfl j d hp
    subst h1
    injection e with e
    injection e with e1 e2
    have e1:j=slot:=e1
    subst e1
    exact b2q T.rise h2
   ·cases e
  ·show(if SetTable.has t.dummies slot=true then _ else t.dummies) = #[]
   rw[T.dum,a9b]
   rfl
theorem a8J{led:Bool}{t:SetTable}(T:TbR led t)(es:Array (Int×Value))(wanted:Nat):TbR led (relayAll t es wanted).2.1:=by
 unfold relayAll
 cases e:t.relaid (Array.map (fun x=>x.fst) es) wanted with
 | none=>exact T.standIn _
 | some q =>
  obtain⟨t',order⟩:=q
  show TbR led (if _ then _ else _:_×_×_).2.1
  split
  ·show TbR led t'
   unfold SetTable.relaid SetTable.laid at e
   cases e2:SetTable.layClean (SetTable.sizeAbove wanted-1) (Array.map (fun x=>x.fst) es)with
   | none=>rw[e2]at e;cases e
   | some owner =>
    rw[e2]at e
    have e:=Option.some.inj e
    injection e with e1 e3
    rw[← e1]
    refine⟨?_,rfl,T.led⟩
    show(List.map (fun x=>x.fst) (List.filterMap (fun j=>Option.map (fun x=>(j,x)) (owner.getD j none)) (List.range (SetTable.sizeAbove wanted-1+1)))).toArray.toList.Pairwise (· < ·)
    rw[List.toList_toArray,List.pairwise_map]
    refine List.Pairwise.filterMap _ (R:=(· < ·)) ?_ List.pairwise_lt_range
    intro a b hab x hx y hy
    cases ea:owner.getD a none with
    | none=>simp[ea]at hx
    | some u=>cases eb:owner.getD b none with
     | none=>simp[eb]at hy
     | some v =>
      simp[ea]at hx
      simp[eb]at hy
      subst hx;subst hy
      exact hab
  ·exact T.standIn _
def L8(e:Int×Value):Int:=match e.2 with
 | .int k _=>k
 | _=>0
def IsI(e:Int×Value):Prop:=∃k t,e=(hashInt k,Value.int k t)
structure SetR(w:World)(h:Heap)(a:Addr)(L:List Int):Prop where
 ex:∃o es ep t,h.get? a=some o∧o.ExactSet∧o.data=.set es ep t∧(∀e∈es.toList,IsI e)∧(es.toList.map L8).Nodup∧(∀k,k∈es.toList.map L8↔k∈L)∧es.size<scanBound∧t.fits es.size=true∧TbR (!w.params.followText "set-order") t
section
variable {prog:Program}{w:World}{A:Around}{E:Value→Shared→Prop}{s:Shared}
theorem a03(k:Int)(t:Tok):Value.isInt k (.int k t)=true:=by simp[Value.isInt]
theorem b00{k j:Int}{t:Tok}:Value.isInt k (.int j t)=true↔j=k:=by
 constructor
 ·intro h;simp[Value.isInt]at h;exact h
 ·rintro rfl;exact a03 _ _
theorem a4M{es:List (Int×Value)}(h:∀e∈es,IsI e):ElemsOf (intKind prog w) es:=by
 intro e he
 obtain⟨k,t,rfl⟩:=h e he
 exact⟨⟨k,a03 k t,rfl⟩,rfl⟩
theorem b38{es:List (Int×Value)}(h:∀e∈es,IsI e)(k:Int):(∃j,List.findIdx? (fun e=>Value.isInt k e.snd) es=some j∧k∈es.map L8)∨(List.findIdx? (fun e=>Value.isInt k e.snd) es=none∧k ∉ es.map L8):=by
 have hi:∀e∈es,(Value.isInt k e.snd=true↔L8 e=k):=by
  intro e he
  obtain⟨j,t,rfl⟩:=h e he
  exact b00
 cases e:List.findIdx? (fun e=>Value.isInt k e.snd) es with
 | none =>
  refine .inr ⟨rfl,fun m=>?_⟩
  obtain⟨x,hx,hk⟩:=List.mem_map.mp m
  rw[List.findIdx?_eq_none_iff]at e
  have:=e x hx
  rw[(hi x hx).mpr hk]at this
  cases this
 | some j =>
  refine .inl ⟨j,rfl,?_⟩
  rw[List.findIdx?_eq_some_iff_getElem]at e
  obtain⟨h1,h2,_⟩:=e
  exact List.mem_map.mpr ⟨es[j],List.getElem_mem h1,(hi _ (List.getElem_mem h1)).mp h2⟩
theorem a6O(prog:Program)(w:World){h:Heap}{a:Addr}{o:Obj}{es es':Array (Int×Value)}{ep:Nat}{t t':SetTable}(ho:h.get? a=some o)(hx:o.ExactSet)(hd:o.data=.set es ep t)(hI:∀e∈es'.toList,IsI e)(hs:es'.size<scanBound)(hf:t'.fits es'.size=true) :
  (h.update a (Obj.putSet es' t')).get? a=some { cls:=o.cls,dict:=o.dict,data:=.set es' (ep+1) t',slots:=o.slots }:=by
 classical
 exact(SetOf_store (knd:=intKind prog w) ho hx hd (S':=fun k=>decide (∃e,e∈es'.toList∧(intKind prog w).is k e.snd=true)) (a4M hI) (fun k=>decide_eq_true_iff) hs hf).1
theorem b2r{g:Bool→Sem Unit}(hg:∀b s₁ (Q':Unit→Shared→Prop),Q' () s₁→wpAny (model prog w) A (g b) Q' E s₁){a:Addr}{L:List Int}{k:Int}{u:Tok}{o:Obj}{es es1:Array (Int×Value)}{ep:Nat}{t t1:SetTable}{wd gave:Bool}{R:Option Bool→Shared→Prop}
  (ho:s.heap.get? a=some o) (hx:o.ExactSet) (hd:o.data=.set es ep t) (hI1:∀e∈es1.toList,IsI e) (hN1:(es1.toList.map L8).Nodup) (hL1:∀k',k'∈es1.toList.map L8↔k'∈L) (hs1:es1.size<scanBound) (hfit:t1.fits es1.size=true) (T1:TbR (!w.params.followText "set-order") t1)
  (fin1:∀h1,Heap.SameBut a s.heap h1→SetR w h1 a L→R (some true) { s with heap:=h1 }) :
  wpAny (model prog w) A (do
   g gave
   if t1.plain=true then do
    let byValue ← hashByValue 8 (.int k u)
    storeSet a es1 (if byValue=true then t1 else{ t1 with plain:=false })
    if(!wd && (if byValue=true then t1 else{ t1 with plain:=false }).tooFull)=true then do
     g (relayAll (if byValue=true then t1 else{ t1 with plain:=false }) es1 (SetTable.grown es1.size)).2.2
     storeSet a (relayAll (if byValue=true then t1 else{ t1 with plain:=false }) es1 (SetTable.grown es1.size)).1 (relayAll (if byValue=true then t1 else{ t1 with plain:=false }) es1 (SetTable.grown es1.size)).2.1
     pure (some true)
    else pure (some true)
   else do
    let byValue ← pure true
    storeSet a es1 (if byValue=true then t1 else{ t1 with plain:=false })
    if(!wd && (if byValue=true then t1 else{ t1 with plain:=false }).tooFull)=true then do
     g (relayAll (if byValue=true then t1 else{ t1 with plain:=false }) es1 (SetTable.grown es1.size)).2.2
     storeSet a (relayAll (if byValue=true then t1 else{ t1 with plain:=false }) es1 (SetTable.grown es1.size)).1 (relayAll (if byValue=true then t1 else{ t1 with plain:=false }) es1 (SetTable.grown es1.size)).2.1
     pure (some true)
    else pure (some true)) R E s:=by
 have hsl:es1.size≤sizeLine:=fits_of_scanBound hs1
 have k8:wpAny (model prog w) A (do
    storeSet a es1 t1
    if(!wd && t1.tooFull)=true then do
     g (relayAll t1 es1 (SetTable.grown es1.size)).2.2
     storeSet a (relayAll t1 es1 (SetTable.grown es1.size)).1 (relayAll t1 es1 (SetTable.grown es1.size)).2.1
     pure (some true)
    else pure (some true)) R E s:=by
  refine wpAny_bind (wpAny_storeSet_of ho hd ?_ hsl)
  have g1:=a6O prog w ho hx hd hI1 hs1 hfit
  have x1:(Obj.mk o.cls o.dict (.set es1 (ep+1) t1) o.slots).ExactSet:=hx
  have sm1:=Heap.SameBut.update s.heap a (Obj.putSet es1 t1)
  by_cases c:(!wd && t1.tooFull)=true
  ·rw[if_pos c]
   have hp2:=relayAll_perm t1 es1 (SetTable.grown es1.size)
   have hf2:=relayAll_fits t1 es1 (SetTable.grown es1.size)
   have T2:=a8J T1 es1 (SetTable.grown es1.size)
   generalize relayAll t1 es1 (SetTable.grown es1.size)=q2 at *
   obtain⟨es2,t2,gave2⟩:=q2
   have hp2:es2.toList.Perm es1.toList:=hp2
   have hI2:∀e∈es2.toList,IsI e:=fun e he=>hI1 e (hp2.mem_iff.mp he)
   have hz2:es2.size=es1.size:=by have:=hp2.length_eq;simpa using this
   have hpk2:=hp2.map L8
   refine wpAny_bind (hg _ _ _ ?_)
   refine wpAny_bind (wpAny_storeSet_of g1 rfl ?_ (by show es2.size≤_;rw[hz2];exact hsl))
   refine wpAny_pure ?_
   have g2:=a6O prog w g1 x1 rfl hI2 (by rw[hz2];exact hs1) hf2
   have sm2:=Heap.SameBut.update (s.heap.update a (Obj.putSet es1 t1)) a (Obj.putSet es2 t2)
   exact fin1 _ ⟨sm2.1.trans sm1.1,fun b hb=>(sm2.2 b hb).trans (sm1.2 b hb)⟩ ⟨_,es2,_,t2,g2,x1,rfl,hI2,hpk2.nodup_iff.mpr hN1,fun k'=>(hpk2.mem_iff).trans (hL1 k'),by rw[hz2];exact hs1,hf2,T2⟩
  ·rw[if_neg c]
   exact wpAny_pure (fin1 _ sm1 ⟨_,es1,_,t1,g1,x1,rfl,hI1,hN1,hL1,hs1,hfit,T1⟩)
 refine wpAny_bind (hg _ _ _ ?_)
 split
 ·refine wpAny_bind ?_
  rw[hashByValue.eq_3 8 k u]
  exact wpAny_pure k8
 ·exact wpAny_bind (wpAny_pure k8)
theorem b6t{a:Addr}{L:List Int}{k:Int}{u:Tok}{Q:Bool→Shared→Prop}(S:SetR w s.heap a L)(hn:∀es:List Int,es.Nodup→(∀k,k∈es↔k∈L)→es.length+1<scanBound)
  (h:∀h' b,Heap.SameBut a s.heap h'→SetR w h' a (L++[k])→Q b { s with heap:=h' }):wpAny (model prog w) A (setAddHashed a (.int k u) (hashInt k)) Q E s:=by
 obtain⟨o,es,ep,t,ho,hx,hd,hI,hN,hL,hs,hf,T⟩:=S.ex
 have hlen:es.size+1<scanBound:=by
  have:=hn _ hN hL
  simpa using this
 unfold setAddHashed
 refine wpAny_holding ?_
 rw[setAddHashedIn.eq_def]
 show wpAny _ _ (setState a >>= _) _ _ _
 refine wpAny_bind (wpAny_setState_of ho hd hf ?_)
 show wpAny _ _ (if byScan (.int k u) es=true then _ else _) _ _ _
 rw[if_pos (byScan_of (knd:=intKind prog w) rfl hs (a4M hI))]
 refine wpAny_bind ?_
 unfold setAddByScan
 refine wpAny_bind (wpAny_rule ?_)
 refine wpAny_bind (wpAny_setScan_of (knd:=intKind prog w) (k:=k) (a03 k u) ho hd hf (a4M hI) ?_)
 have hsame:Heap.SameBut a s.heap s.heap:=⟨rfl,fun b _=>rfl⟩
 rcases b38 hI k with⟨j,e,m⟩ | ⟨e,m⟩
 ·have e:List.findIdx? (fun e=>(intKind prog w).is k e.snd) es.toList=some j:=e
  rw[e]
  show wpAny _ _ (pure (some false)) _ _ _
  refine wpAny_pure ?_
  show wpAny _ _ (pure false) _ _ _
  refine wpAny_pure ?_
  refine h s.heap false hsame ⟨o,es,ep,t,ho,hx,hd,hI,hN,fun k'=>?_,hs,hf,T⟩
  rw[hL k',List.mem_append,List.mem_singleton]
  constructor
  ·exact .inl
  ·rintro(z | rfl)
   ·exact z
   ·exact(hL _).mp m
 ·have e:List.findIdx? (fun e=>(intKind prog w).is k e.snd) es.toList=none:=e
  rw[e]
  have hp:=layNew_perm t es (hashInt k) (.int k u)
  have hfit:=layNew_fits t es (hashInt k) (.int k u)
  have T1:=b0Z T es (hashInt k) (.int k u)
  dsimp only
  generalize layNew t es (hashInt k) (.int k u)=q at *
  obtain⟨es1,t1,wd,gave⟩:=q
  have hI1:∀e∈es1.toList,IsI e:=fun e he=>by
   have:=(hp.mem_iff (a:=e)).mp he
   rw[Array.toList_push,List.mem_append,List.mem_singleton]at this
   rcases this with z | rfl
   ·exact hI e z
   ·exact⟨k,u,rfl⟩
  have hpk:(es1.toList.map L8).Perm (es.toList.map L8++[k]):=by
   have:=hp.map L8
   rw[Array.toList_push,List.map_append]at this
   exact this
  have hN1:(es1.toList.map L8).Nodup:=by
   rw[hpk.nodup_iff,List.nodup_append]
   exact⟨hN,by simp,fun x hx y hy=>by rw[List.mem_singleton.mp hy];rintro rfl;exact m hx⟩
  have hL1:∀k',k'∈es1.toList.map L8↔k'∈L++[k]:=fun k'=>by
   rw[hpk.mem_iff,List.mem_append,List.mem_append,hL k']
  have hz:es1.size=es.size+1:=by
   have:=hp.length_eq
   simpa using this
  have hs1:es1.size<scanBound:=by omega
  refine b2r (fun b s₁ Q' q=>?_) ho hx hd hI1 hN1 hL1 hs1 hfit T1 fun h1 sm z=>wpAny_pure (h h1 true sm z)
  cases b with
  | true=>exact wpAny_rule q
  | false=>exact wpAny_pure q
end
theorem a4N:∀(es L:List Int),es.Nodup→(∀x∈es,x∈L)→es.length≤L.length
 | [],L,_,_=>Nat.zero_le _
 | x::es,L,h,m=>by
  rw[List.nodup_cons]at h
  have hx:=m x List.mem_cons_self
  have:=a4N es (L.erase x) h.2 fun y hy=>(List.mem_erase_of_ne (show y≠x from fun z=>h.1 (by rw[← z];exact hy))).mpr (m y (List.mem_cons_of_mem _ hy))
  rw[List.length_erase_of_mem hx]at this
  have:0<L.length:=List.length_pos_of_mem hx
  rw[List.length_cons]
  omega
section
variable {prog:Program}{w:World}{A:Around}{E:Value→Shared→Prop}{s:Shared}
theorem SetR.frame{h h':Heap}{a:Addr}{L:List Int}(S:SetR w h a L)(e:∀o,h.get? a=some o→h'.get? a=some o):SetR w h' a L:=by
 obtain⟨o,es,ep,t,ho,r⟩:=S.ex
 exact⟨o,es,ep,t,e o ho,r⟩
theorem b2s{a:Addr}{L:List Int}{k:Int}{u:Tok}{Q:Bool→Shared→Prop}(S:SetR w s.heap a L)(hn:L.length+1<scanBound)
  (h:∀h' b,Heap.SameBut a s.heap h'→SetR w h' a (L++[k])→Q b { s with heap:=h',toks:=s.toks+1 }):wpAny (model prog w) A (setAdd a (.int k u)) Q E s:=by
 unfold setAdd
 refine wpAny_holding ?_
 refine wpAny_bind ((intKind prog w).pyHash (k:=k) (a03 k u) ?_)
 refine b6t (s:={ s with toks:=s.toks+1 }) S (fun es hN hL=>?_) h
 have:=a4N es L hN fun x hx=>(hL x).mp hx
 omega
theorem b2t{R:Result→Shared→Prop}{I:Addr}{fp wr:List Addr}{G:Array GenState→Array GenState→Prop}{n:Nat}{P:Nat→Value→Prop}{St:Nat→Shared→Prop}(W:WalksS prog w A.in1 I fp wr G n P St)(S:Addr)(hS:S ∉ fp)(val:Nat→Int)(hv:∀i v,P i v→∃t,v=Value.int (val i) t)(hn:n+1<scanBound) :
  ∀(k i:Nat) (s:Shared),n-i=k→i≤n→St i s→SetR w s.heap S ((List.range i).map val)→(∀s',Moved (S::wr) G s s'→SetR w s'.heap S ((List.range n).map val)→R (.ok (.ret .none)) s') →
   codeAny (model prog w) A (.builtin "set.update.loop" ⟨[.ref S,.ref I],[]⟩) R s:=by
 intro k
 induction k with
 | zero =>
  intro i s hk hi st SR fin
  have e:i=n:=by omega
  subst e
  refine codeAny_builtin F.entry_set_update_loop ?_
  rw[Around.under_plainId F.plain_set_update_loop _]
  show wpAny _ A.in1 (pyNext (.ref I) >>= _) _ _ _
  refine wpAny_bind (W.done s _ _ st fun s' mv=>?_)
  refine wpAny_pure (fin s' ⟨fun b o hb e=>mv.heap b o (fun z=>hb (List.mem_cons_of_mem _ z)) e,mv.gens,mv.drawn,mv.os,mv.toks⟩ (SR.frame fun o e=>mv.heap S o (fun z=>hS (W.sub S z)) e))
 | succ k ih =>
  intro i s hk hi st SR fin
  refine codeAny_builtin F.entry_set_update_loop ?_
  rw[Around.under_plainId F.plain_set_update_loop _]
  show wpAny _ A.in1 (pyNext (.ref I) >>= _) _ _ _
  refine wpAny_bind (W.item i s _ _ (by omega) st fun v s' pv st' mv=>?_)
  obtain⟨t,rfl⟩:=hv i v pv
  refine wpAny_bind (wpAny_holding (b2s (L:=(List.range i).map val) (SR.frame fun o e=>mv.heap S o (fun z=>hS (W.sub S z)) e) (by rw[List.length_map,List.length_range];omega) fun h' b sm SR'=>?_))
  refine wpAny_pure ⟨plainId_quiet F.plain_set_update_loop _,ih (i+1) _ (by omega) (by omega) (W.frame (i+1) s' h' (s'.toks+1) st' (Nat.le_succ _) fun b hb o e=>(sm.2 b (fun z=>hS (z▸hb))).trans e) ?_ fun s'' mv2 SR2=>fin s'' ⟨fun b o hb e=>?_,W.gtrans _ _ _ mv.gens mv2.gens,mv2.drawn.trans mv.drawn,mv2.os.trans mv.os,Nat.le_trans mv.toks (Nat.le_trans (Nat.le_succ _) mv2.toks)⟩ SR2⟩
  ·rw[List.range_succ,List.map_append]
   exact SR'
  ·refine mv2.heap b o hb ((sm.2 b fun z=>hb (z▸List.mem_cons_self)).trans (mv.heap b o (fun z=>hb (List.mem_cons_of_mem _ z)) e))
theorem a4O(a:Value){Q₁:Value→Shared→Prop}(h:Q₁ (.ref s.heap.objs.size) { s with heap:=s.heap.push { cls:=.type "set",data:=.set #[] 0 (SetTable.fresh 0 0 (!w.params.followText "set-order")) } }) :
  codeAny (model prog w) A (.call (.builtin "set.__new__") ⟨[.type "set",a],[]⟩) (wants Q₁ E) s:=by
 refine codeAny_call_builtin F.plain_set_new F.entry_set_new ?_
 rw[F.newCall_set_1 a]
 refine wpAny_pure ?_
 show wpAny _ _ (Builtin.Frozenset.newClass "set" ⟨[.type "set",a],[]⟩ >>= _) _ _ _
 refine wpAny_bind ?_
 unfold Builtin.Frozenset.newClass
 dsimp only
 refine wpAny_bind (m:=PySem.isType (.type "set")) (wpAny_pure ?_)
 rw[if_neg (by decide)]
 refine wpAny_bind ?_
 rw[sub_set_self]
 refine wpAny_pure ?_
 rw[if_neg (by decide)]
 refine wpAny_pure ?_
 refine wpAny_bind ?_
 show wpAny _ _ (newSet (.type "set")) _ _ _
 unfold newSet setsByText
 refine wpAny_bind ?_
 refine wpAny_bind (wpAny_askSetting ?_)
 refine wpAny_pure ?_
 refine wpAny_newObj_type ?_
 exact wpAny_pure h
theorem a92{a l:Addr}{items:Array Value}{ns:List Int}{R:PySem.Fin→Shared→Prop}{E':Value→Shared→Prop}(hh:A.handled=none)(hl:s.heap.IsList l items)(hi:IntsAre items.toList ns)(hn:items.size+1<scanBound)(hal:a≠l)
  (ho:s.heap.get? a=some { cls:=.type "set",data:=.set #[] 0 (SetTable.fresh 0 0 (!w.params.followText "set-order")) })
  (h:∀s',SetR w s'.heap a ns→(∀b o,b≠a→s.heap.get? b=some o→s'.heap.get? b=some o)→s'.gens=s.gens→s'.drawn=s.drawn→s'.os=s.os→R (.done (.ret .none)) s') :
  wpAny (model prog w) A (Builtin.«set.__init__» ⟨[.ref a,.ref l],[]⟩) R E' s:=by
 have tset:s.TypeIs (.ref a) "set" := ⟨_,ho,rfl⟩
 have tlst:s.TypeIs (.ref l) "list" := by obtain⟨o,h1,h2,_⟩:=hl;exact⟨o,h1,h2⟩
 have hfit:(SetTable.fresh 0 0 (!w.params.followText "set-order")).fits (#[]:Array (Int×Value)).size=true:=by
  show(SetTable.fits _ 0)=true
  rw[SetTable.fits.eq_1]
  rfl
 unfold Builtin.«set.__init__»
 refine wpAny_bind (m:=noKeywords "set" _) (wpAny_pure ?_)
 dsimp only
 refine wpAny_bind ?_
 unfold typeNameOfCut shownTypeOf
 refine wpAny_bind ?_
 refine wpAny_bind (wpAny_typeOf tset ?_)
 rw[if_neg (by decide)]
 refine wpAny_pure ?_
 refine wpAny_pure ?_
 refine wpAny_bind (m:=checkCount _ 0 1 _) (wpAny_pure ?_)
 refine wpAny_bind (m:=Builtin.Frozenset.addrOf _) (wpAny_pure ?_)
 refine wpAny_bind ?_
 unfold setUsed
 refine wpAny_bind (wpAny_setState_of ho rfl hfit ?_)
 refine wpAny_pure ?_
 refine wpAny_ite_false rfl ?_
 refine wpAny_bind ?_
 unfold Builtin.Frozenset.updateFrom
 refine wpAny_bind ?_
 unfold Builtin.Frozenset.isAnySet
 refine wpAny_bind (wpAny_isInstance tlst F.sub_list_set ?_)
 show wpAny _ _ (PySem.isInstance (.ref l) (.type "frozenset")) _ _ _
 refine wpAny_isInstance tlst F.sub_list_frozenset ?_
 rw[if_neg (by decide)]
 refine wpAny_bind (wpAny_typeOf tlst ?_)
 rw[if_neg (by decide)]
 refine wpAny_bind (wpAny_pyIter_list hl ?_)
 refine wpAny_bind (wpAny_runValue ?_)
 have hI:s.heap.objs.size≠l:=by
  obtain⟨o,h1,_⟩:=hl
  exact Nat.ne_of_gt (Heap.lt_size h1)
 have hIa:s.heap.objs.size≠a:=Nat.ne_of_gt (Heap.lt_size ho)
 have W:=(Walks.list (prog:=prog) (w:=w) (A:=A.in1) hh s.heap.objs.size l (Ne.symm hI) items).toS
 refine b2t W a (by simp[Ne.symm hIa,hal]) (fun i=>ns.getD i 0) (fun i v e=>hi.int_at i v (by simpa using e)) hn items.size 0 _ rfl (Nat.zero_le _) ⟨?_,?_⟩ ?_ fun s' mv SR=>?_
 ·exact⟨_,Heap.get?_push_size _ rfl,rfl,rfl⟩
 ·exact hl.push _
 ·refine⟨_,#[],0,_,Heap.get?_push_of_some _ ho,⟨rfl,rfl,rfl⟩,rfl,fun e he=>absurd he (by simp),by simp,fun k=>by simp,by decide,hfit,⟨by simp[SetTable.fresh,Rise],rfl,rfl⟩⟩
 ·refine wpAny_pure ?_
  refine wpAny_pure (h s' ?_ (fun b o hb e=>mv.heap b o (by simp[hb];exact Nat.ne_of_lt (Heap.lt_size e)) (Heap.get?_push_of_some _ e)) mv.gens mv.drawn mv.os)
  have e:(List.range items.size).map (fun i=>ns.getD i 0)=ns:=by
   have hlen:items.size=ns.length:=by
    have:∀{vs:List Value} {ns:List Int},IntsAre vs ns→vs.length=ns.length:=by
     intro vs ns h
     induction h with
     | nil=>rfl
     | cons n t _ ih=>simp[ih]
    simpa using this hi
   rw[hlen]
   apply List.ext_getElem
   ·simp
   ·intro i h1 h2
    simp[h2]
  rw[← e]
  exact SR
theorem a93{l:Addr}{items:Array Value}{ns:List Int}{Q:Value→Shared→Prop}(hh:A.handled=none)(hl:s.heap.IsList l items)(hi:IntsAre items.toList ns)(hn:items.size+1<scanBound)
  (h:∀s',SetR w s'.heap s.heap.objs.size ns→(∀b o,s.heap.get? b=some o→s'.heap.get? b=some o)→s'.gens=s.gens→s'.drawn=s.drawn→s'.os=s.os→Q (.ref s.heap.objs.size) s') :
  wpAny (model prog w) A (call (.type "set") [.ref l]) Q E s:=by
 have ho:(s.heap.push { cls:=.type "set",data:=.set #[] 0 (SetTable.fresh 0 0 (!w.params.followText "set-order")) }).get? s.heap.objs.size=some { cls:=.type "set",data:=.set #[] 0 (SetTable.fresh 0 0 (!w.params.followText "set-order")) }:=Heap.get?_push_size _ rfl
 have hne:s.heap.objs.size≠l:=by
  obtain⟨o,h1,_⟩:=hl
  exact Nat.ne_of_gt (Heap.lt_size h1)
 refine wpAny_call (codeAny_of_tree ?_)
 show wpAny _ _ (pure (PySem.Fin.again (.builtin "type.__call__" ⟨[.type "set",.ref l],[]⟩))) _ _ _
 refine wpAny_pure ⟨Code.quiet_builtin _ (by decide +kernel),codeAny_builtin F.entry_type_call ?_⟩
 rw[Around.under_plain (weight_type_call_type _ _ _) rfl]
 unfold Builtin.«type.__call__»
 dsimp only
 refine wpAny_ite_false (by decide) ?_
 refine wpAny_ite_false (by decide +kernel) ?_
 refine wpAny_bind (wpAny_of_eq (F.typeCall_set_1 _) ?_)
 obtain⟨c,tl,e⟩:=F.called_set.mro
 refine wpAny_bind (wpAny_of_eq e ?_)
 refine wpAny_ite_false (by rfl) ?_
 refine wpAny_bind (wpAny_of_eq F.called_set.made ?_)
 dsimp only
 refine wpAny_bind (wpAny_pure ?_)
 refine wpAny_bind (wpAny_holding (wpAny_call (a4O (Q₁:=_) _ ?_)))
 refine wpAny_bind (wpAny_isInstance (T := "set") (U := "set") ⟨_,ho,rfl⟩ sub_set_self ?_)
 refine wpAny_ite_false (by rfl) ?_
 refine wpAny_bind (wpAny_holding (wpAny_callSpecial?_slot (T := "set") ⟨_,ho,rfl⟩ F.called_set.init (wpAny_call (codeAny_call_builtin F.called_set.init.plain F.entry_set_init (check_set_init_1 ⟨_,ho,rfl⟩ ?_)))))
 refine a92 (A:=A.in1.in1) hh (hl.push _) hi hn hne ho fun s' SR kp hg hd hos=>?_
 dsimp only
 refine wpAny_ite_false (by decide) ?_
 refine wpAny_pure (h s' SR (fun b o e=>kp b o (Nat.ne_of_lt (Heap.lt_size e)) (Heap.get?_push_of_some _ e)) hg hd hos)
end
theorem a6g:entryFor table "set.__iter__" = some Builtin.«frozenset.__iter__» := entryFor_alias (by kernel_rfl) rfl (show Manifest.canonical (String.map (fun c=>if(c.isAlphanum || c == '_' || c == '.')=true then c else '_') "set.__iter__") ++ "" = "frozenset.__iter__" by decide +kernel) (by kernel_rfl)
theorem a6h:entryFor table "set_iterator.__next__" = some Builtin.«set_iterator.__next__» := entryFor_of_fast (by kernel_rfl)
theorem K5:Slot "set_iterator" (Str.ofString "__next__") "set_iterator.__next__" :=
 Slot.of (owner := "set_iterator") (n := "__next__") rfl (by decide +kernel) (by decide +kernel) (by decide +kernel) (.inl (by decide +kernel)) (by rfl) (by decide +kernel)
section
variable {prog:Program}{w:World}{A:Around}{E:Value→Shared→Prop}{s:Shared}
theorem b2u{r:Addr}{Q:Bool→Shared→Prop}(h:s.TypeIs (.ref r) "set")(q:Q false s):wpAny (model prog w) A (Builtin.List.listLengthHint (.ref r)) Q E s:=by
 unfold Builtin.List.listLengthHint
 refine wpAny_bind (wpAny_specialOf h F.slot_set_len.lookup ?_)
 dsimp only
 rw[show splitId "set.__len__" = some ("set","__len__")from by rfl]
 dsimp only
 refine wpAny_bind (wpAny_isInstance h sub_set_self ?_)
 refine wpAny_ite_false rfl ?_
 refine wpAny_ite_true (by decide +kernel) ?_
 refine wpAny_bind (wpAny_typeOf h ?_)
 exact wpAny_pure q
theorem a2y{α:Type}:∀{l:List α} {i:Nat} (h:i<l.length),(l[i]::l.eraseIdx i).Perm l
 | x::l,0,_=>.refl _
 | x::l,i+1,h=>by
  have h':i<l.length:=by simpa using h
  show(l[i]::x::l.eraseIdx i).Perm (x::l)
  exact(List.Perm.swap _ _ _).trans ((a2y h').cons x)
theorem a9c{α:Type}(next:Nat→Nat):∀(fuel k:Nat) (left:List α) (out:Array α),left.length≤fuel→(pickOrder.go next fuel k left out).toList.Perm (out.toList++left)
 | 0,k,left,out,h=>by
  have e:left=[]:=List.eq_nil_of_length_eq_zero (by omega)
  rw[pickOrder.go.eq_1,e,List.append_nil]
 | fuel+1,k,left,out,h=>by
  rw[pickOrder.go.eq_def]
  dsimp only
  cases e:left[next k%left.length]? with
  | none =>
   dsimp only
   have e0:left=[]:=by
    cases left with
    | nil=>rfl
    | cons x l =>
     have:next k%(x::l).length<(x::l).length:=Nat.mod_lt _ (by simp)
     rw[List.getElem?_eq_getElem this]at e
     cases e
   rw[e0,List.append_nil]
  | some x =>
   dsimp only
   obtain⟨hlt,hx⟩:=List.getElem?_eq_some_iff.mp e
   refine(a9c next fuel (k+1) (left.eraseIdx (next k%left.length)) (out.push x) ?_).trans ?_
   ·rw[List.length_eraseIdx_of_lt hlt];omega
   ·rw[Array.toList_push,List.append_assoc]
    refine List.Perm.append_left _ ?_
    have:=a2y hlt
    rw[hx]at this
    exact this
theorem b01{α:Type}(next:Nat→Nat)(xs:Array α):(pickOrder next xs).toList.Perm xs.toList:=by
 have:=a9c next xs.size 0 xs.toList #[] (by simp)
 simpa [pickOrder]using this
theorem a6P{α:Type}:∀(n:Nat) (xs:List α) {Q:List α→Shared→Prop} {s:Shared},xs.length≤n→(∀ys d,ys.Perm xs→Q ys { s with drawn:=d })→wpAny (model prog w) A (drawOrder n xs) Q E s
 | 0,xs,Q,s,h,q=>by
  have e:xs=[]:=List.eq_nil_of_length_eq_zero (by omega)
  subst e
  rw[drawOrder.eq_1]
  exact wpAny_pure (q [] s.drawn (.refl _))
 | n+1,[],Q,s,h,q=>by
  rw[drawOrder.eq_2 _ (by omega)]
  exact wpAny_pure (q [] s.drawn (.refl _))
 | n+1,x::xs,Q,s,h,q=>by
  rw[drawOrder.eq_def]
  dsimp only
  refine wpAny_bind ?_
  intro Γ p hΓ
  unfold choose
  rw[Sem.wp_choose]
  refine⟨by simp,?_⟩
  have hlt:(model prog w).w.draws Source.order (s.drawn.get Source.order)%(x::xs).length<(x::xs).length:=Nat.mod_lt _ (by simp)
  generalize (model prog w).w.draws Source.order (s.drawn.get Source.order)%(x::xs).length=i at *
  show Sem.wp _ Γ (pure i) _ _ p _
  refine(wpAny_pure (M:=model prog w) (A:=A) (E:=E) (a:=i) (Q:=fun i s'=>wpAny (model prog w) A (match(x::xs)[i]? with
   | some x_2=>do
    let __do_lift ← drawOrder n ((x::xs).eraseIdx i)
    pure (x_2::__do_lift)
   | none=>unsupported "internal:drawOrder") Q E s') (s:={ s with drawn:=s.drawn.bump Source.order }) ?_) Γ p hΓ
  rw[List.getElem?_eq_getElem hlt]
  dsimp only
  refine wpAny_bind (a6P n _ (by rw[List.length_eraseIdx_of_lt hlt];omega) fun ys d hy=>?_)
  refine wpAny_pure (q _ d ?_)
  exact(hy.cons _).trans (a2y hlt)
end
def itO(first:Value)(i:Nat)(a:Addr)(n ep:Nat):Obj:={ cls:=.type "set_iterator",data:=.fields #[first,.int (i:Int) 0,.ref a,.int (n:Int) 0,.int (ep:Int) 0] }
section
variable {prog:Program}{w:World}{A:Around}{E:Value→Shared→Prop}{s:Shared}
theorem a2z{I a:Addr}{es:Array (Int×Value)}{ep i:Nat}{first:Value}{Q:Option Value→Shared→Prop}(hI:s.heap.get? I=some (itO first i a es.size ep))
  (h:wpAny (model prog w) A.in1 (Builtin.«set_iterator.__next__» ⟨[.ref I],[]⟩) (fun fin s'=>∃v,fin=.done (.ret v)∧Q (some v) s') (fun e s'=>(∃x o,e=.ref x∧s'.heap.get? x=some o∧o.cls=.type "StopIteration")∧Q none s') s) :
  wpAny (model prog w) A (pyNext (.ref I)) Q E s:=by
 unfold pyNext
 refine wpAny_bind (wpAny_attempt (wpAny_callSpecial?_slot (T := "set_iterator") ⟨_,hI,rfl⟩ K5 (wpAny_call_entry K5 ⟨_,hI,rfl⟩ a6h (wpAny_mono h (fun fin s' ⟨v,e,q⟩=>⟨v,e,?_⟩) fun e s' ⟨⟨x,o,e1,e2,e3⟩,q⟩=>?_) (by rfl))))
 ·exact wpAny_pure q
 ·subst e1
  refine wpAny_bind (wpAny_isInstance (T := "StopIteration") ⟨o,e2,e3⟩ isSubtype_stop ?_)
  exact wpAny_ite_true rfl (wpAny_pure q)
theorem b2v{I a:Addr}{o:Obj}{es:Array (Int×Value)}{ep i slot nx:Nat}{t:SetTable}{x:Value}{Q:Option Value→Shared→Prop}(hI:s.heap.get? I=some (itO (.int (slot:Int) 0) i a es.size ep))(ho:s.heap.get? a=some o)(hd:o.data=.set es ep t)(hf:t.fits es.size=true)
  (hs:∀{A':Around} {E':Value→Shared→Prop} {Q':Option (Value×Nat)→Shared→Prop},Q' (some (x,nx)) s→wpAny (model prog w) A' (setNext a slot i ep) Q' E' s)
  (q:∀h',h'.get? I=some (itO (.int (nx:Int) 0) (i+1) a es.size ep)→Heap.SameBut I s.heap h'→Q (some x) { s with heap:=h' }):wpAny (model prog w) A (pyNext (.ref I)) Q E s:=by
 refine a2z hI ?_
 unfold Builtin.«set_iterator.__next__»
 refine wpAny_bind (m:=slotArgs "__next__" 0 _) (wpAny_pure ?_)
 dsimp only
 refine wpAny_bind (wpAny_fieldsOf hI rfl ?_)
 dsimp only
 refine wpAny_bind (wpAny_setEntries_of ho hd hf ?_)
 refine wpAny_ite_false (by simp) ?_
 simp only[Int.toNat_natCast]
 refine wpAny_bind (hs ?_)
 dsimp only
 refine wpAny_bind (wpAny_setField_rec hI (by simp) fun h1 g1 s1=>?_)
 refine wpAny_bind (wpAny_setField_rec (s:={ s with heap:=h1 }) g1 (by simp) fun h2 g2 s2=>?_)
 refine wpAny_pure ⟨x,rfl,q h2 ?_ ⟨s2.1.trans s1.1,fun b hb=>(s2.2 b hb).trans (s1.2 b hb)⟩⟩
 rw[g2]
 rfl
theorem b39{I a:Addr}{o:Obj}{es:Array (Int×Value)}{ep i slot:Nat}{t:SetTable}{Q:Option Value→Shared→Prop}(hh:A.handled=none)(hI:s.heap.get? I=some (itO (.int (slot:Int) 0) i a es.size ep))(ho:s.heap.get? a=some o)(hd:o.data=.set es ep t)(hf:t.fits es.size=true)
  (hs:∀{A':Around} {E':Value→Shared→Prop} {Q':Option (Value×Nat)→Shared→Prop},Q' none s→wpAny (model prog w) A' (setNext a slot i ep) Q' E' s)
  (q:∀h',(∀b o,b≠I→s.heap.get? b=some o→h'.get? b=some o)→Q none { s with heap:=h' }):wpAny (model prog w) A (pyNext (.ref I)) Q E s:=by
 refine a2z hI ?_
 unfold Builtin.«set_iterator.__next__»
 refine wpAny_bind (m:=slotArgs "__next__" 0 _) (wpAny_pure ?_)
 dsimp only
 refine wpAny_bind (wpAny_fieldsOf hI rfl ?_)
 dsimp only
 refine wpAny_bind (wpAny_setEntries_of ho hd hf ?_)
 refine wpAny_ite_false (by simp) ?_
 simp only[Int.toNat_natCast]
 refine wpAny_bind (hs ?_)
 dsimp only
 refine wpAny_bind (wpAny_setField_rec hI (by simp) fun h1 g1 s1=>?_)
 refine wpAny_bind ?_
 unfold newExc
 refine wpAny_bind (wpAny_newTuple ?_ (Nat.zero_le _))
 refine wpAny_bind ?_
 unfold firstArgMember
 dsimp only
 refine wpAny_bind (wpAny_pure ?_)
 refine wpAny_pure ?_
 refine wpAny_newObj_type ?_
 refine wpAny_raiseNew_none hh ⟨⟨_,_,rfl,Heap.get?_push_size _ rfl,rfl⟩,?_⟩
 exact q _ fun b o hb e=>Heap.get?_push_of_some _ (Heap.get?_push_of_some _ ((s1.2 b hb).trans e))
theorem a94{I a T:Addr}{o:Obj}{es:Array (Int×Value)}{ep i j:Nat}{t:SetTable}{ps:List Nat}{e:Int×Value}{Q:Option Value→Shared→Prop}(hI:s.heap.get? I=some (itO (.ref T) i a es.size ep))(ho:s.heap.get? a=some o)(hd:o.data=.set es ep t)(hf:t.fits es.size=true)
  (hT:s.heap.get? T=some (seqObj "tuple" (ps.map fun(i:Nat)=>rawInt (i:Int)).toArray 0)) (hj:ps[i]? = some j) (he:es[j]? = some e)
  (q:∀h',h'.get? I=some (itO (.ref T) (i+1) a es.size ep)→Heap.SameBut I s.heap h'→Q (some e.2) { s with heap:=h' }):wpAny (model prog w) A (pyNext (.ref I)) Q E s:=by
 refine a2z hI ?_
 unfold Builtin.«set_iterator.__next__»
 refine wpAny_bind (m:=slotArgs "__next__" 0 _) (wpAny_pure ?_)
 dsimp only
 refine wpAny_bind (wpAny_fieldsOf hI rfl ?_)
 dsimp only
 refine wpAny_bind (wpAny_setEntries_of ho hd hf ?_)
 refine wpAny_ite_false (by simp) ?_
 simp only[Int.toNat_natCast]
 refine wpAny_bind (wpAny_seqItems hT rfl ?_)
 have e0:(ps.map fun(i:Nat)=>rawInt (i:Int)).toArray[i]? = some (.int (j:Int) 0):=by
  rw[List.getElem?_toArray,List.getElem?_map,hj]
  rfl
 dsimp only
 rw[e0]
 dsimp only
 refine wpAny_bind ?_
 unfold setNextDrawn
 refine wpAny_bind (wpAny_setState_of ho hd hf ?_)
 dsimp only
 refine wpAny_ite_false (by simp) ?_
 rw[Int.toNat_natCast,he]
 refine wpAny_pure ?_
 refine wpAny_bind (wpAny_setField_rec hI (by simp) fun h1 g1 s1=>?_)
 refine wpAny_pure ⟨e.2,rfl,q h1 ?_ s1⟩
 rw[g1]
 rfl
theorem b02{I a T:Addr}{o:Obj}{es:Array (Int×Value)}{ep i:Nat}{t:SetTable}{ps:List Nat}{Q:Option Value→Shared→Prop}(hh:A.handled=none)(hI:s.heap.get? I=some (itO (.ref T) i a es.size ep))(ho:s.heap.get? a=some o)(hd:o.data=.set es ep t)(hf:t.fits es.size=true)
  (hT:s.heap.get? T=some (seqObj "tuple" (ps.map fun(i:Nat)=>rawInt (i:Int)).toArray 0)) (hj:ps[i]? = none)
  (q:∀h',(∀b o,b≠I→s.heap.get? b=some o→h'.get? b=some o)→Q none { s with heap:=h' }):wpAny (model prog w) A (pyNext (.ref I)) Q E s:=by
 refine a2z hI ?_
 unfold Builtin.«set_iterator.__next__»
 refine wpAny_bind (m:=slotArgs "__next__" 0 _) (wpAny_pure ?_)
 dsimp only
 refine wpAny_bind (wpAny_fieldsOf hI rfl ?_)
 dsimp only
 refine wpAny_bind (wpAny_setEntries_of ho hd hf ?_)
 refine wpAny_ite_false (by simp) ?_
 simp only[Int.toNat_natCast]
 refine wpAny_bind (wpAny_seqItems hT rfl ?_)
 have e0:(ps.map fun(i:Nat)=>rawInt (i:Int)).toArray[i]? = none:=by
  rw[List.getElem?_toArray,List.getElem?_map,hj]
  rfl
 dsimp only
 rw[e0]
 dsimp only
 refine wpAny_bind (wpAny_setField_rec hI (by simp) fun h1 g1 s1=>?_)
 refine wpAny_bind (wpAny_setField_rec (s:={ s with heap:=h1 }) g1 (by simp) fun h2 g2 s2=>?_)
 refine wpAny_bind ?_
 unfold newExc
 refine wpAny_bind (wpAny_newTuple ?_ (Nat.zero_le _))
 refine wpAny_bind ?_
 unfold firstArgMember
 dsimp only
 refine wpAny_bind (wpAny_pure ?_)
 refine wpAny_pure ?_
 refine wpAny_newObj_type ?_
 refine wpAny_raiseNew_none hh ⟨⟨_,_,rfl,Heap.get?_push_size _ rfl,rfl⟩,?_⟩
 exact q _ fun b o hb e=>Heap.get?_push_of_some _ (Heap.get?_push_of_some _ ((s2.2 b hb).trans ((s1.2 b hb).trans e)))
end
theorem a7a:entryFor table "set_iterator.__iter__" = some Builtin.«dict_keyiterator.__iter__» := entryFor_alias (by kernel_rfl) rfl (show Manifest.canonical (String.map (fun c=>if(c.isAlphanum || c == '_' || c == '.')=true then c else '_') "set_iterator.__iter__") ++ "" = "dict_keyiterator.__iter__" by decide +kernel) (by kernel_rfl)
theorem a3c:Slot "set_iterator" (Str.ofString "__iter__") "set_iterator.__iter__" :=
 Slot.of (owner := "set_iterator") (n := "__iter__") rfl (by decide +kernel) (by decide +kernel) (by decide +kernel) (.inl (by decide +kernel)) (by rfl) (by decide +kernel)
section
variable {prog:Program}{w:World}{A:Around}{E:Value→Shared→Prop}{s:Shared}
theorem a7G{a:Addr}{o:Obj}{es:Array (Int×Value)}{ep:Nat}{t:SetTable}(ho:s.heap.get? a=some o)(hd:o.data=.set es ep t)(hf:t.fits es.size=true)(bt:w.params.followText "set-order" = true)(slot i:Nat){Q:Option (Value×Nat)→Shared→Prop}
  (q:Q (((pickOrder (w.params.setOrder a ep) es)[i]?).map fun e=>(e.2,slot)) s):wpAny (model prog w) A (setNext a slot i ep) Q E s:=by
 unfold setNext
 refine wpAny_bind (wpAny_setState_of ho hd hf ?_)
 dsimp only
 unfold setsByText
 refine wpAny_bind (wpAny_bind (wpAny_askSetting (wpAny_pure ?_)))
 refine wpAny_ite_true (by show decide (w.params.followText "set-order" = true)=true;rw[bt];rfl) ?_
 refine wpAny_ite_false (by simp) ?_
 refine wpAny_bind ?_
 unfold setWalk
 refine wpAny_bind (wpAny_setState_of ho hd hf ?_)
 dsimp only
 unfold setsByText
 refine wpAny_bind (wpAny_bind (wpAny_askSetting (wpAny_pure ?_)))
 refine wpAny_ite_true (by show decide (w.params.followText "set-order" = true)=true;rw[bt];rfl) ?_
 refine wpAny_bind (wpAny_askSetting ?_)
 refine wpAny_pure ?_
 exact wpAny_pure q
def X5(t:SetTable)(i:Nat):Nat:=if i=0 then 0 else t.place.getD (i-1) 0+1
theorem a95{t:SetTable}{i:Nat}(hr:Rise t.place)(hi:i≤t.place.size):SetTable.below t.place (X5 t i)=i:=by
 refine b2p hr hi (fun k hk=>?_) (fun k hk hk2=>?_)
 ·unfold X5
  rw[if_neg (by omega)]
  by_cases z:k=i-1
  ·rw[z];omega
  ·have:=hr.lt (i:=k) (j:=i-1) (by omega) (by omega)
   omega
 ·unfold X5
  by_cases z:i=0
  ·rw[if_pos z];omega
  ·rw[if_neg z]
   have:=hr.lt (i:=i-1) (j:=k) (by omega) hk2
   omega
theorem a7b{a:Addr}{o:Obj}{es:Array (Int×Value)}{ep:Nat}{t:SetTable}(ho:s.heap.get? a=some o)(hd:o.data=.set es ep t)(hf:t.fits es.size=true)(bt:w.params.followText "set-order" = false)(hp:(!t.plain && decide (es.size > 1))=false)(T:TbR true t)(i g:Nat)(hi:i≤es.size){Q:Option (Value×Nat)→Shared→Prop}
  (q:Q ((es[i]?).map fun e=>(e.2,X5 t (i+1))) s):wpAny (model prog w) A (setNext a (X5 t i) g ep) Q E s:=by
 have hps:t.place.size=es.size:=by
  rw[SetTable.fits.eq_1,Bool.and_eq_true]at hf
  exact beq_iff_eq.mp hf.1
 unfold setNext
 refine wpAny_bind (wpAny_setState_of ho hd hf ?_)
 dsimp only
 unfold setsByText
 refine wpAny_bind (wpAny_bind (wpAny_askSetting (wpAny_pure ?_)))
 refine wpAny_ite_false (by show decide (w.params.followText "set-order" = true)=false;rw[bt];rfl) ?_
 refine wpAny_ite_false (by show decide ((!t.plain && decide (es.size > 1))=true)=false;rw[hp];rfl) ?_
 show wpAny _ _ ((if(!t.led && !es.isEmpty)=true then unsupported "set:maker-not-led" else pure ()) >>= _) _ _ _
 rw[T.led]
 refine wpAny_bind (wpAny_ite_false rfl (wpAny_pure ?_))
 rw[a95 T.rise (by omega)]
 by_cases z:i<es.size
 ·rw[Array.getElem?_eq_getElem z]at q ⊢
  have z2:i<t.place.size:=by omega
  rw[Array.getElem?_eq_getElem z2]
  refine wpAny_pure ?_
  have e:X5 t (i+1)=t.place[i]+1:=by
   unfold X5
   rw[if_neg (by omega),Nat.add_sub_cancel]
   simp[Array.getD,z2]
  rw[e]at q
  exact q
 ·rw[Array.getElem?_eq_none (by omega)]at q ⊢
  exact wpAny_pure q
theorem a9d{I a:Addr}{first:Value}{i n ep:Nat}{Q:Value→Shared→Prop}(hI:s.heap.get? I=some (itO first i a n ep))(q:Q (.ref I) s):wpAny (model prog w) A (pyIter (.ref I)) Q E s:=by
 have tI:s.TypeIs (.ref I) "set_iterator" := ⟨_,hI,rfl⟩
 refine wpAny_pyIter_slot tI a3c (wpAny_call_entry a3c tI a7a ?_ (by rfl))
 unfold Builtin.«dict_keyiterator.__iter__»
 refine wpAny_bind (m:=slotArgs "__iter__" 0 _) (wpAny_pure ?_)
 exact wpAny_pure ⟨_,rfl,"set_iterator",_,tI,K5.lookup,q⟩
theorem b03{I a:Addr}{o:Obj}{es:Array (Int×Value)}{ep:Nat}{t:SetTable}{ord:List (Int×Value)}{sl:Nat→Nat}(hne:I≠a)(hd:o.data=.set es ep t)(hf:t.fits es.size=true)(hl:ord.length=es.size)
  (hn:∀(s:Shared) (i:Nat) {A':Around} {E':Value→Shared→Prop} {Q':Option (Value×Nat)→Shared→Prop},s.heap.get? a=some o→i≤es.size→Q' ((ord[i]?).map fun e=>(e.2,sl (i+1))) s→wpAny (model prog w) A' (setNext a (sl i) i ep) Q' E' s) (hh:A.handled=none) :
  WalksS prog w A I [I,a] [I] (fun x y=>y=x) es.size (fun i v=>∃e,ord[i]? = some e∧v=e.2) (fun i s=>s.heap.get? I=some (itO (.int (sl i:Int) 0) i a es.size ep)∧s.heap.get? a=some o) where
 sub:=fun b hb=>by simp only[List.mem_singleton]at hb;simp[hb]
 grefl:=fun _=>rfl
 gtrans:=fun _ _ _ h1 h2=>h2.trans h1
 frame:=fun i s h' tk ⟨h1,h2⟩ _ k=>⟨k I (by simp) _ h1,k a (by simp) _ h2⟩
 item:=fun i s Q E hi ⟨h1,h2⟩ k=>by
  have e:=List.getElem?_eq_getElem (l:=ord) (i:=i) (by omega)
  refine b2v (x:=ord[i].2) (nx:=sl (i+1)) h1 h2 hd hf (fun q'=>hn s i h2 (by omega) (by rw[e];exact q')) fun h' g' sm=>k _ { s with heap:=h' } ⟨_,e,rfl⟩ ⟨g',(sm.2 a (Ne.symm hne)).trans h2⟩ ⟨fun b o hb eb=>(sm.2 b (fun z=>hb (by simp[z]))).trans eb,rfl,rfl,rfl,Nat.le_refl _⟩
 done:=fun s Q E ⟨h1,h2⟩ k=>by
  have e:=List.getElem?_eq_none (l:=ord) (i:=es.size) (by omega)
  exact b39 hh h1 h2 hd hf (fun q'=>hn s es.size h2 (Nat.le_refl _) (by rw[e];exact q')) fun h' kp=>k { s with heap:=h' } ⟨fun b o hb eb=>kp b o (fun z=>hb (by simp[z])) eb,rfl,rfl,rfl,Nat.le_refl _⟩
 self:=fun i s Q E ⟨h1,_⟩ q=>a9d h1 q
theorem a8K{I a T:Addr}{o:Obj}{es:Array (Int×Value)}{ep:Nat}{t:SetTable}{ps:List Nat}(hne:I≠a)(hnT:I≠T)(hd:o.data=.set es ep t)(hf:t.fits es.size=true)(hp:ps.Perm (List.range es.size))(hh:A.handled=none) :
  WalksS prog w A I [I,a,T] [I] (fun x y=>y=x) es.size (fun i v=>∃e,(ps.map fun j=>es.getD j (0,.none))[i]? = some e∧v=e.2) (fun i s=>s.heap.get? I=some (itO (.ref T) i a es.size ep)∧s.heap.get? a=some o∧s.heap.get? T=some (seqObj "tuple" (ps.map fun(i:Nat)=>rawInt (i:Int)).toArray 0)) where
 sub:=fun b hb=>by simp only[List.mem_singleton]at hb;simp[hb]
 grefl:=fun _=>rfl
 gtrans:=fun _ _ _ h1 h2=>h2.trans h1
 frame:=fun i s h' tk ⟨h1,h2,h3⟩ _ k=>⟨k I (by simp) _ h1,k a (by simp) _ h2,k T (by simp) _ h3⟩
 item:=fun i s Q E hi ⟨h1,h2,h3⟩ k=>by
  have hlen:ps.length=es.size:=by rw[hp.length_eq,List.length_range]
  have e:=List.getElem?_eq_getElem (l:=ps) (i:=i) (by omega)
  have hj:ps[i]<es.size:=List.mem_range.mp (hp.mem_iff.mp (List.getElem_mem _))
  have e2:es[ps[i]]? = some (es.getD ps[i] (0,.none)):=by rw[Array.getElem?_eq_getElem hj];simp[Array.getD,hj]
  refine a94 h1 h2 hd hf h3 e e2 fun h' g' sm=>k _ { s with heap:=h' } ⟨_,by rw[List.getElem?_map,e];rfl,rfl⟩ ⟨g',(sm.2 a (Ne.symm hne)).trans h2,(sm.2 T (Ne.symm hnT)).trans h3⟩ ⟨fun b o hb eb=>(sm.2 b (fun z=>hb (by simp[z]))).trans eb,rfl,rfl,rfl,Nat.le_refl _⟩
 done:=fun s Q E ⟨h1,h2,h3⟩ k=>by
  have hlen:ps.length=es.size:=by rw[hp.length_eq,List.length_range]
  exact b02 hh h1 h2 hd hf h3 (List.getElem?_eq_none (by omega)) fun h' kp=>k { s with heap:=h' } ⟨fun b o hb eb=>kp b o (fun z=>hb (by simp[z])) eb,rfl,rfl,rfl,Nat.le_refl _⟩
 self:=fun i s Q E ⟨h1,_⟩ q=>a9d h1 q
theorem b2w{a:Addr}{o:Obj}{es:Array (Int×Value)}{ep:Nat}{t:SetTable}{Q:Value→Shared→Prop}(ho:s.heap.get? a=some o)(hx:o.ExactSet)(hd:o.data=.set es ep t)(hf:t.fits es.size=true)(T:TbR (!w.params.followText "set-order") t)(hs:es.size<scanBound)
  (q:∀(I:Addr) (fp:List Addr) (ord:List (Int×Value)) (St:Nat→Shared→Prop) (s':Shared),(∀A',A'.handled=none→WalksS prog w A' I fp [I] (fun x y=>y=x) es.size (fun i v=>∃e,ord[i]? = some e∧v=e.2) St)→St 0 s'→ord.Perm es.toList→(∀b o,s.heap.get? b=some o→s'.heap.get? b=some o∧b≠I)→(∀b∈fp,b=a∨s.heap.get? b=none)→s'.gens=s.gens→s'.os=s.os→s.toks≤s'.toks→(∀b∈fp,∃o,s'.heap.get? b=some o)→Q (.ref I) s') :
  wpAny (model prog w) A (pyIter (.ref a)) Q E s:=by
 have tset:s.TypeIs (.ref a) "set" := ⟨o,ho,hx.1⟩
 have hsl:es.size≤sizeLine:=fits_of_scanBound hs
 refine wpAny_pyIter_slot tset F.slot_set_iter (wpAny_call_entry F.slot_set_iter tset a6g ?_ (F.args_set_iter_1 _))
 unfold Builtin.«frozenset.__iter__»
 refine wpAny_bind (m:=Builtin.Frozenset.slot0 "__iter__" _) (wpAny_pure ?_)
 refine wpAny_bind (m:=Builtin.Frozenset.sizeOf a) (wpAny_bind (wpAny_setEntries_of ho hd hf (wpAny_pure ?_)))
 refine wpAny_bind ?_
 unfold setDrawn
 refine wpAny_bind (wpAny_setState_of ho hd hf ?_)
 dsimp only
 unfold setsByText
 refine wpAny_bind (wpAny_bind (wpAny_askSetting (wpAny_pure ?_)))
 refine wpAny_pure ?_
 show wpAny _ _ (if(!w.params.followText "set-order" && (!t.plain && decide (es.size > 1)))=true then _ else _) _ _ _
 by_cases c:(!w.params.followText "set-order" && (!t.plain && decide (es.size > 1)))=true
 ·rw[if_pos c]
  refine wpAny_bind (a6P es.size (List.range es.size) (by simp) fun ps d hps=>?_)
  have hlen:ps.length=es.size:=by rw[hps.length_eq,List.length_range]
  refine wpAny_bind (wpAny_newTuple ?_ (by rw[List.length_map,hlen];exact hsl))
  have hoT:=Heap.get?_push_of_some (seqObj "tuple" (ps.map fun(i:Nat)=>rawInt (i:Int)).toArray 0) ho
  refine wpAny_bind (wpAny_setEpoch_of hoT hd hf ?_)
  refine wpAny_bind (m:=newFields "set_iterator" _) (wpAny_newObj_type ?_ (by show 5≤_;decide))
  have hIz:(s.heap.push (seqObj "tuple" (ps.map fun(i:Nat)=>rawInt (i:Int)).toArray 0)).objs.size=s.heap.objs.size+1:=size_push' _ _
  have haz:a<s.heap.objs.size:=Heap.lt_size ho
  refine wpAny_pure ⟨_,rfl,"set_iterator",_,⟨_,Heap.get?_push_size _ rfl,rfl⟩,K5.lookup,?_⟩
  have hI:((s.heap.push (seqObj "tuple" (ps.map fun(i:Nat)=>rawInt (i:Int)).toArray 0)).push (itO (.ref s.heap.objs.size) 0 a es.size ep)).get? (s.heap.push (seqObj "tuple" (ps.map fun(i:Nat)=>rawInt (i:Int)).toArray 0)).objs.size=some (itO (.ref s.heap.objs.size) 0 a es.size ep):=Heap.get?_push_size _ rfl
  have hT:(s.heap.push (seqObj "tuple" (ps.map fun(i:Nat)=>rawInt (i:Int)).toArray 0)).get? s.heap.objs.size=some (seqObj "tuple" (ps.map fun(i:Nat)=>rawInt (i:Int)).toArray 0):=Heap.get?_push_size _ rfl
  refine q _ [_,a,s.heap.objs.size] (ps.map fun j=>es.getD j (0,.none)) _ _ (fun A' hA'=>a8K (Nat.ne_of_gt (by rw[hIz];exact Nat.lt_succ_of_lt haz)) (Nat.ne_of_gt (by rw[hIz];exact Nat.lt_succ_self _)) hd hf hps hA') ⟨hI,Heap.get?_push_of_some _ hoT,Heap.get?_push_of_some _ hT⟩ ?_ (fun b o e=>⟨Heap.get?_push_of_some _ (Heap.get?_push_of_some _ e),Nat.ne_of_lt (by rw[hIz];exact Nat.lt_succ_of_lt (Heap.lt_size e))⟩) ?_ rfl rfl (Nat.le_refl _) ?_
  ·have:=hps.map fun j=>es.getD j (0,Value.none)
   refine this.trans (.of_eq ?_)
   apply List.ext_getElem
   ·simp
   ·intro i h1 h2
    have:i<es.size:=by simpa using h2
    simp[Array.getD,this]
  ·intro b hb
   simp only[List.mem_cons,List.not_mem_nil,or_false]at hb
   rcases hb with rfl | rfl | rfl
   ·exact .inr (Heap.get?_none_of_le (by rw[hIz];omega))
   ·exact .inl rfl
   ·exact .inr (Heap.get?_none_of_le (Nat.le_refl _))
  ·intro b hb
   simp only[List.mem_cons,List.not_mem_nil,or_false]at hb
   rcases hb with rfl | rfl | rfl
   ·exact⟨_,hI⟩
   ·exact⟨_,Heap.get?_push_of_some _ hoT⟩
   ·exact⟨_,Heap.get?_push_of_some _ hT⟩
 ·rw[if_neg c]
  refine wpAny_bind (wpAny_pure ?_)
  refine wpAny_bind (wpAny_setEpoch_of ho hd hf ?_)
  refine wpAny_bind (m:=newFields "set_iterator" _) (wpAny_newObj_type ?_ (by show 5≤_;decide))
  have haz:a<s.heap.objs.size:=Heap.lt_size ho
  refine wpAny_pure ⟨_,rfl,"set_iterator",_,⟨_,Heap.get?_push_size _ rfl,rfl⟩,K5.lookup,?_⟩
  have hI:(s.heap.push (itO (.int ((0:Nat):Int) 0) 0 a es.size ep)).get? s.heap.objs.size=some (itO (.int ((0:Nat):Int) 0) 0 a es.size ep):=Heap.get?_push_size _ rfl
  have fin:∀(ord:List (Int×Value)) (sl:Nat→Nat),sl 0=0→ord.Perm es.toList→(∀(s:Shared) (i:Nat) {A':Around} {E':Value→Shared→Prop} {Q':Option (Value×Nat)→Shared→Prop},s.heap.get? a=some o→i≤es.size→Q' ((ord[i]?).map fun e=>(e.2,sl (i+1))) s→wpAny (model prog w) A' (setNext a (sl i) i ep) Q' E' s)→Q (.ref s.heap.objs.size) { s with heap:=s.heap.push (itO (.int ((0:Nat):Int) 0) 0 a es.size ep) }:=by
   intro ord sl h0 hp hn
   refine q _ [s.heap.objs.size,a] ord _ _ (fun A' hA'=>b03 (sl:=sl) (Nat.ne_of_gt haz) hd hf (by have:=hp.length_eq;simpa using this) hn hA') ⟨by rw[h0];exact hI,Heap.get?_push_of_some _ ho⟩ hp (fun b o e=>⟨Heap.get?_push_of_some _ e,Nat.ne_of_lt (Heap.lt_size e)⟩) ?_ rfl rfl (Nat.le_refl _) ?_
   ·intro b hb
    simp only[List.mem_cons,List.not_mem_nil,or_false]at hb
    rcases hb with rfl | rfl
    ·exact .inr (Heap.get?_none_of_le (Nat.le_refl _))
    ·exact .inl rfl
   ·intro b hb
    simp only[List.mem_cons,List.not_mem_nil,or_false]at hb
    rcases hb with rfl | rfl
    ·exact⟨_,hI⟩
    ·exact⟨_,Heap.get?_push_of_some _ ho⟩
  cases bt:w.params.followText "set-order" with
  | true =>
   refine fin (pickOrder (w.params.setOrder a ep) es).toList (fun _=>0) rfl (b01 _ _) fun s i A' E' Q' h1 h2 q'=>a7G h1 hd hf bt 0 i ?_
   rw[Array.getElem?_toList]at q'
   exact q'
  | false =>
   rw[bt]at c T
   refine fin es.toList (X5 t) rfl (.refl _) fun s i A' E' Q' h1 h2 q'=>a7b h1 hd hf bt (by simpa using c) T i i h2 ?_
   rw[Array.getElem?_toList]at q'
   exact q'
end
section
variable {prog:Program}{w:World}{A:Around}{E:Value→Shared→Prop}{s:Shared}
theorem b04{es:List (Int×Value)}(h:∀e∈es,IsI e):IntsAre (es.map (·.2)) (es.map L8):=by
 induction es with
 | nil=>exact .nil
 | cons e es ih =>
  obtain⟨k,t,rfl⟩:=h e List.mem_cons_self
  exact .cons k t (ih fun e m=>h e (List.mem_cons_of_mem _ m))
theorem a8L{a:Addr}{L:List Int}{Q:List Value→Shared→Prop}(S:SetR w s.heap a L)(hh:A.handled=none)
  (h:∀(s':Shared) (vs:List Value) (ks:List Int),(∀b o,s.heap.get? b=some o→s'.heap.get? b=some o)→s'.gens=s.gens→s'.os=s.os→s.heap.objs.size<s'.heap.objs.size→IntsAre vs ks→ks.Nodup→(∀k,k∈ks↔k∈L)→Q vs s') :
  wpAny (model prog w) A (collect (.ref a)) Q E s:=by
 obtain⟨o,es,ep,t,ho,hx,hd,hI,hN,hL,hs,hf,T⟩:=S.ex
 have hsl:es.size≤sizeLine:=fits_of_scanBound hs
 unfold collect
 refine wpAny_bind (wpAny_runValue (codeAny_builtin F.entry_proto_collect ?_))
 rw[Around.under_plainId F.plain_proto_collect _]
 show wpAny _ A.in1 (newList [] >>= fun l=>again (.builtin "list.__iadd__" ⟨[l,.ref a],[]⟩)) _ _ s
 refine wpAny_bind (wpAny_newObj_type ?_)
 refine wpAny_pure ⟨plainId_quiet F.plain_list_iadd _,codeAny_builtin F.entry_list_iadd ?_⟩
 rw[Around.under_plainId F.plain_list_iadd _]
 show wpAny _ A.in1 (Builtin.List.listExtendWith (.ref s.heap.objs.size) (.ref a) (.ref s.heap.objs.size)) _ _ _
 have hS:(s.heap.push { cls:=.type "list",data:=.seq ([]:List Value).toArray }).get? s.heap.objs.size=some (seqObj "list" #[] 0):=Heap.get?_push_size _ rfl
 have ho1:(s.heap.push { cls:=.type "list",data:=.seq ([]:List Value).toArray }).get? a=some o:=Heap.get?_push_of_some _ ho
 have hne:s.heap.objs.size≠a:=Nat.ne_of_gt (Heap.lt_size ho)
 have kp1:∀b o,s.heap.get? b=some o→(s.heap.push { cls:=.type "list",data:=.seq ([]:List Value).toArray }).get? b=some o:=fun b o e=>Heap.get?_push_of_some _ e
 generalize s.heap.push { cls:=.type "list",data:=.seq ([]:List Value).toArray }=h1 at *
 have hlt:∀b o,s.heap.get? b=some o→b≠s.heap.objs.size:=fun b o e=>Nat.ne_of_lt (Heap.lt_size e)
 generalize s.heap.objs.size=D at *
 unfold Builtin.List.listExtendWith
 have tset:({ s with heap:=h1 }:Shared).TypeIs (.ref a) "set" := ⟨o,ho1,hx.1⟩
 refine wpAny_bind (wpAny_typeOf tset ?_)
 refine wpAny_ite_false (by
  show decide ((D == a || _ || _)=true)=false
  rw[beq_false_of_ne hne]
  rfl) ?_
 refine wpAny_bind (b2w (s:={ s with heap:=h1 }) ho1 hx hd hf T hs fun I fp ord St s' W st0 hp kp2 hfp hg hos htk hfo=>?_)
 have tset2:s'.TypeIs (.ref a) "set" := ⟨o,(kp2 a o ho1).1,hx.1⟩
 refine wpAny_bind (wpAny_holding (b2u tset2 ?_))
 refine wpAny_ite_true (by decide +kernel) ?_
 refine wpAny_bind (wpAny_rule ?_)
 have hDs:s'.heap.get? D=some (seqObj "list" #[] 0):=(kp2 D _ hS).1
 have hDf:D ∉ fp:=fun z=>by
  rcases hfp D z with z | z
  ·exact hne z
  ·have z:h1.get? D=none:=z
   rw[hS]at z;cases z
 refine wpAny_bind ?_
 unfold Builtin.List.listTouch
 have sm1:=Heap.SameBut.update s'.heap D (Obj.mapSeq fun x=>x.push Value.none)
 obtain⟨c1,g1⟩:∃c1,(s'.heap.update D (Obj.mapSeq fun x=>x.push Value.none)).get? D=some (seqObj "list" (#[].push Value.none) c1):=⟨_,get?_update_seq hDs fun x=>x.push Value.none⟩
 refine wpAny_bind (listUpdate_at hDs rfl ?_ (Nat.zero_le _) (by decide))
 have sm2:=Heap.SameBut.update (s'.heap.update D (Obj.mapSeq fun x=>x.push Value.none)) D (Obj.mapSeq fun x=>x.pop)
 obtain⟨c2,g2⟩:∃c2,((s'.heap.update D (Obj.mapSeq fun x=>x.push Value.none)).update D (Obj.mapSeq fun x=>x.pop)).get? D=some (seqObj "list" (#[].push Value.none).pop c2):=⟨_,get?_update_seq g1 fun x=>x.pop⟩
 refine listUpdate_at (s:={ s' with heap:=s'.heap.update D (Obj.mapSeq fun x=>x.push Value.none) }) g1 rfl ?_ (by decide) (by decide)
 have kp3:∀b o,b≠D→s'.heap.get? b=some o→((s'.heap.update D (Obj.mapSeq fun x=>x.push Value.none)).update D (Obj.mapSeq fun x=>x.pop)).get? b=some o:=fun b o hb e=>(sm2.2 b hb).trans ((sm1.2 b hb).trans e)
 generalize (s'.heap.update D (Obj.mapSeq fun x=>x.push Value.none)).update D (Obj.mapSeq fun x=>x.pop)=h3 at *
 have hlen:ord.length=es.size:=by have:=hp.length_eq;simpa using this
 refine wpAny_pure ⟨plainId_quiet F.plain_extend_loop _,codeAny_extend_loopS (W A.in1 hh) hsl D hDf (.ref D) es.size 0 { s' with heap:=h3 } #[] c2 rfl (Nat.zero_le _) ((W A.in1 hh).frame 0 s' h3 s'.toks st0 (Nat.le_refl _) fun b hb o e=>kp3 b o (fun z=>hDf (z▸hb)) e) g2 ⟨rfl,fun j v e=>by simp at e⟩ fun s4 acc c' mv hD4 items=>?_⟩
 show wpAny _ A (load D >>= _) _ _ _
 refine wpAny_bind (wpAny_load hD4 ?_)
 have hacc:acc.toList=ord.map (·.2):=by
  apply List.ext_getElem?
  intro j
  by_cases z:j<acc.size
  ·have e:=Array.getElem?_eq_getElem z
   obtain⟨e',h1',h2'⟩:=items.2 j _ e
   rw[Array.getElem?_toList,e,List.getElem?_map,h1',h2']
   rfl
  ·rw[Array.getElem?_toList,Array.getElem?_eq_none (by omega),List.getElem?_eq_none (by rw[List.length_map,hlen,← items.1];omega)]
 have hIo:∀e∈ord,IsI e:=fun e he=>hI e (hp.mem_iff.mp he)
 refine wpAny_pure (h s4 acc.toList (ord.map L8) (fun b o e=>mv.heap b o ?_ (kp3 b o (hlt b o e) (kp2 b o (kp1 b o e)).1)) (mv.gens.trans hg) (mv.os.trans hos) (Heap.lt_size hD4) (by rw[hacc];exact b04 hIo) ((hp.map L8).nodup_iff.mpr hN) fun k=>((hp.map L8).mem_iff).trans (hL k))
 simp only[List.mem_cons,List.not_mem_nil,or_false,not_or]
 exact⟨hlt b o e,(kp2 b o (kp1 b o e)).2⟩
end
theorem b2x(key:Nat→Int):TPre (fun i j=>decide (key i<key j)):=by
 refine⟨fun i=>by simp,fun i j k h1 h2=>?_,fun i j h=>?_⟩
 ·have h1:=of_decide_eq_false h1
  have h2:=of_decide_eq_false h2
  exact decide_eq_false (by omega)
 ·have h:=of_decide_eq_true h
  exact decide_eq_false (by omega)
theorem a3d:∀{vs:List Value} {ns:List Int},IntsAre vs ns→vs.length=ns.length:=by
 intro vs ns h
 induction h with
 | nil=>rfl
 | cons n t _ ih=>simp[ih]
theorem a1k{vs:List Value}{ns:List Int}(h:IntsAre vs ns){i:Nat}(hi:i<vs.length):∃t,vs.getD i Value.none=.int (ns.getD i 0) t:=by
 obtain⟨t,e⟩:=h.int_at i vs[i] (List.getElem?_eq_getElem hi)
 refine⟨t,?_⟩
 rw[List.getD_eq_getElem?_getD,List.getElem?_eq_getElem hi]
 exact e
theorem a7H{vs:List Value}{ns:List Int}(h:IntsAre vs ns):∀v∈vs,∃n t,v=Value.int n t:=by
 induction h with
 | nil=>intro v m;cases m
 | cons n t _ ih =>
  intro v m
  rcases List.mem_cons.mp m with rfl | m
  ·exact⟨n,t,rfl⟩
  ·exact ih v m
section
variable {prog:Program}{w:World}{A:Around}{E:Value→Shared→Prop}{s:Shared}
theorem b05{D:Addr}{h1:Heap}{vs:List Value}{ks:List Int}{Q:Value→Shared→Prop}(hoL:h1.get? D=some (seqObj "list" vs.toArray 0))(hk:IntsAre vs ks)(h64:vs.length<64)(keep:∀b o,s.heap.get? b=some o→h1.get? b=some o)(nD:∀b o,s.heap.get? b=some o→b≠D)
  (h:∀(h':Heap) (p:List Nat) (c:Nat),(∀b o,s.heap.get? b=some o→h'.get? b=some o)→h'.get? D=some (seqObj "list" (p.map fun i=>vs.getD i Value.none).toArray c)→p.Perm (List.range vs.length) →
   p.Pairwise (fun i j=>decide (ks.getD j 0<ks.getD i 0)=false)→Q (.ref D) { s with heap:=h' }) :
  wpAny (model prog w) A.in1 (holding [.ref D] (call (.builtin "list.sort") [.ref D] []) >>= fun _=>(ret (.ref D):Sem PySem.Fin)) (fun fin s'=>∃v,fin=.done (.ret v)∧Q v s') E { s with heap:=h1 }:=by
 refine wpAny_bind (wpAny_holding (wpAny_call_entry slot_list_sort ⟨_,hoL,rfl⟩ entry_list_sort ?body (args_list_sort _)))
 case body =>
  have hD:D<h1.objs.size:=Heap.lt_size hoL
  have s1:=Heap.SameBut.update h1 D (Obj.mapSeq fun _=>(#[]:Array Value))
  obtain⟨e1,ho1⟩:∃e1,(h1.update D (Obj.mapSeq fun _=>(#[]:Array Value))).get? D=some (seqObj "list" #[] e1):=⟨_,get?_update_seq hoL fun _ => #[]⟩
  have keep2:∀b o,s.heap.get? b=some o→(((h1.update D (Obj.mapSeq fun _=>(#[]:Array Value))).push (seqObj "tuple" vs.toArray 0)).push (seqObj "list" #[] 0)).get? b=some o:=fun b o q=>by
   have hb:b≠D:=nD b o q
   exact Heap.get?_push_of_some _ (Heap.get?_push_of_some _ ((s1.2 b hb).trans (keep b o q)))
  have ho6:(((h1.update D (Obj.mapSeq fun _=>(#[]:Array Value))).push (seqObj "tuple" vs.toArray 0)).push (seqObj "list" #[] 0)).get? D=some (seqObj "list" #[] e1):=Heap.get?_push_of_some _ (Heap.get?_push_of_some _ ho1)
  rw[list_sort_plain]
  refine wpAny_bind (listItems_at (s:={ s with heap:=h1 }) hoL rfl ?_)
  refine wpAny_bind (listUpdate_at (s:={ s with heap:=h1 }) hoL rfl ?_ (by rw[List.size_toArray,sizeLine_eq];omega) (Nat.zero_le _))
  refine wpAny_bind (seqEpoch_at ho1 rfl ?_)
  refine wpAny_bind (wpAny_newTuple ?_ (by show vs.length≤_;rw[sizeLine_eq];omega))
  refine wpAny_bind (wpAny_newList ?_ (Nat.zero_le _))
  refine wpAny_holding ?_
  show wpAny (model prog w) _ _ _ E { s with heap:=((h1.update D (Obj.mapSeq fun _=>(#[]:Array Value))).push (seqObj "tuple" vs.toArray 0)).push (seqObj "list" #[] 0) }
  dsimp only
  generalize ((h1.update D (Obj.mapSeq fun _=>(#[]:Array Value))).push (seqObj "tuple" vs.toArray 0)).push (seqObj "list" #[] 0)=h2 at keep2 ho6 ⊢
  have last:∀(st':SortSt) (p:List Nat),(arrOf st').map (·.2)=(p.map fun i=>vs.getD i Value.none).toArray→failedOf st'=none→p.Perm (List.range vs.length)→p.Pairwise (fun i j=>decide (ks.getD j 0<ks.getD i 0)=false) →
    wpAny (model prog w) A.in1.in1 (do
     let touched:=(← seqEpoch D) != e1
     Builtin.List.listUpdate (.ref D) fun _=>(arrOf st').map (·.2)
     if let some e:=failedOf st' then rule "list.sort.comparison-raised";throw e
     if touched then rule "list.sort.modified";raiseError "ValueError" "list modified during sort"
     ret .none:Sem PySem.Fin) (fun fin s'=>∃v,fin=.done (.ret v)∧wpAny (model prog w) A.in1 (pure (.done (.ret (.ref D))):Sem PySem.Fin) (fun fin s'=>∃v,fin=.done (.ret v)∧Q v s') E s') E { s with heap:=h2 }:=by
   intro st' p hout hf hp hs
   have hsz3:((p.map fun i=>vs.getD i Value.none).toArray).size=vs.length:=by rw[List.size_toArray,List.length_map,hp.length_eq,List.length_range]
   have s2:=Heap.SameBut.update h2 D (Obj.mapSeq fun _=>(p.map fun i=>vs.getD i Value.none).toArray)
   obtain⟨c2,hc2⟩:∃c2,(h2.update D (Obj.mapSeq fun _=>(p.map fun i=>vs.getD i Value.none).toArray)).get? D=some (seqObj "list" (p.map fun i=>vs.getD i Value.none).toArray c2):=⟨_,get?_update_seq ho6 fun _=>_⟩
   rw[hout,hf]
   refine wpAny_bind (seqEpoch_at ho6 rfl ?_)
   refine wpAny_bind (listUpdate_at (s:={ s with heap:=h2 }) ho6 rfl ?_ (Nat.zero_le _) (Nat.le_trans (Nat.le_of_eq hsz3) (by rw[sizeLine_eq];omega)))
   simp only[bne_self_eq_false,Bool.false_eq_true,if_false]
   exact wpAny_pure ⟨_,rfl,wpAny_pure ⟨_,rfl,h _ p c2 (fun b o q=>by
    have hb:b≠D:=nD b o q
    exact(s2.2 b hb).trans (keep2 b o q)) hc2 hp hs⟩⟩
  by_cases h2':vs.toArray.size<2
  ·rw[if_pos h2',if_pos h2']
   refine wpAny_bind (wpAny_pure ?_)
   rw[StateT.run_pure]
   refine wpAny_bind (wpAny_pure ?_)
   have hlen:vs.length<2:=by simpa using h2'
   refine last (SortSt.mk' general' (vs.toArray.zip vs.toArray) #[] 7 none) (List.range vs.length) ?_ rfl (List.Perm.refl _) ?_
   ·show(vs.toArray.zip vs.toArray).map (·.2)=_
    match vs,hlen with
    | [],_=>simp
    | [_],_=>simp
   ·match hn:vs.length,hlen with
    | 0,_=>exact .nil
    | 1,_=>exact List.pairwise_singleton _ _
  ·rw[if_neg h2',if_neg h2']
   have hlen:2≤vs.length:=by simp at h2';omega
   refine wpAny_bind (kas_kind (T:=.type "int") hlen (fun v hv=>by obtain⟨i,t,rfl⟩:=a7H hk v hv;exact .of_pure rfl) (by decide +kernel) (by decide +kernel) ?_)
   have gd:=b35 (n:=vs.length) (b2x fun i=>ks.getD i 0) (by omega)
   refine wpAny_bind (wpAny_mono (kat_run (κ:=oneType') (vs:=vs) (ks:=vs) (Q:=fun st' s'=>∃p:Array Nat,p.size=vs.length∧arrOf st'=p.map (kas_item (vs.toArray.zip vs.toArray))∧failedOf st'=none∧s'={ s with heap:=h2 }∧Pmn vs.length p∧Up (fun i j=>decide (ks.getD i 0<ks.getD j 0)) p vs.length)
    (G:=fun p s'=>s'={ s with heap:=h2 }∧Pmn vs.length p∧Up (fun i j=>decide (ks.getD i 0<ks.getD j 0)) p vs.length)
    rfl hlen h64 (fun p' st' s' a1 a2 a3 a4=>⟨p',a1,a2,a3,a4⟩) (gd.wp (fun i j C hi hj hC=>by
     obtain⟨t1,e1⟩:=a1k hk hi
     obtain⟨t2,e2⟩:=a1k hk hj
     show wpAny _ _ (keyLt' oneType' (vs.getD i Value.none) (vs.getD j Value.none)) _ _ _
     rw[e1,e2]
     exact kat_lt_int hC) fun p hp=>⟨rfl,hp⟩)) ?_ fun _ _ x=>x)
   rintro⟨⟨⟩,st'⟩ s' ⟨p,hp,har,hf,rfl,hP,hU⟩
   refine last st' p.toList (kat_snds rfl har) hf hP ?_
   rw[List.pairwise_iff_getElem]
   intro i j hi hj hij
   have hU':=hU i j (by omega) (by rw[← hp];simpa using hj)
   simp only[Array.length_toList]at hi hj
   have e1:ga p i=p[i]:=by unfold ga;simp[Array.getD,hi]
   have e2:ga p j=p[j]:=by unfold ga;simp[Array.getD,hj]
   rw[e1,e2]at hU'
   simpa using hU'
theorem b5E{ks:List Int}{p:List Nat}(hd:ks.Nodup)(hp:p.Perm (List.range ks.length))(hs:p.Pairwise (fun i j=>decide (ks.getD j 0<ks.getD i 0)=false)):(p.map fun i=>ks.getD i 0).Pairwise (· < ·)∧∀k,k∈(p.map fun i=>ks.getD i 0)↔k∈ks:=by
 have hpm:(p.map fun i=>ks.getD i 0).Perm ks:=by
  have:=hp.map fun i=>ks.getD i 0
  refine this.trans (.of_eq ?_)
  apply List.ext_getElem
  ·simp
  ·intro i h1 h2
   simp[h2]
 have hnd:(p.map fun i=>ks.getD i 0).Nodup:=hpm.nodup_iff.mpr hd
 refine⟨?_,fun k=>hpm.mem_iff⟩
 rw[List.pairwise_map]
 rw[List.nodup_iff_pairwise_ne,List.pairwise_map]at hnd
 refine(hs.and hnd).imp ?_
 intro i j ⟨h1,h2⟩
 have:=of_decide_eq_false h1
 omega
theorem a5j:∀{vs:List Value} {ks:List Int} (p:List Nat),IntsAre vs ks→(∀i∈p,i<vs.length)→Vals ((p.map fun i=>ks.getD i 0).map V.int) (p.map fun i=>vs.getD i Value.none)
 | _,_,[],_,_=>.nil
 | vs,ks,i::p,r,h=>by
  obtain⟨t,e⟩:=a1k r (h i (by simp))
  exact .cons ⟨t,e⟩ (a5j p r fun j hj=>h j (by simp[hj]))
theorem a96{a:Addr}{L:List Int}{Q:Value→Shared→Prop}(S:SetR w s.heap a L)(hh:A.handled=none)(h64:L.length<64)
  (h:∀(s':Shared) (D:Addr) (vs:List Value) (ks:List Int) (c:Nat),(∀b o,s.heap.get? b=some o→s'.heap.get? b=some o)→s'.gens=s.gens→s'.os=s.os→s.heap.objs.size≤D→s'.heap.get? D=some (seqObj "list" vs.toArray c)→Vals (ks.map V.int) vs→vs.length<64→ks.Pairwise (· < ·)→(∀k,k∈ks↔k∈L)→Q (.ref D) s') :
  wpAny (model prog w) A (call (.builtin "sorted") [.ref a]) Q E s:=by
 refine Calls.call_function_entry kind_sorted plain_sorted entry_sorted (args_sorted1 _) ?_
 unfold Builtin.«sorted»
 refine wpAny_bind (m:=checkCount "sorted" 1 1 _) (wpAny_pure ?_)
 refine wpAny_bind (a8L (A:=A.in1) S hh fun s1 vs ks kp hg hos hsz hi hd hL=>?_)
 have hle:vs.length<64:=by
  have:=a4N ks L hd fun x m=>(hL x).mp m
  rw[a3d hi]
  omega
 refine wpAny_bind (wpAny_newList ?_ (by rw[sizeLine_eq];omega))
 refine b05 (s:=s1) (h1:=s1.heap.push (seqObj "list" vs.toArray 0)) (Heap.get?_push_size _ rfl) hi hle (fun b o e=>Heap.get?_push_of_some _ e) (fun b o e=>Nat.ne_of_lt (Heap.lt_size e)) fun h' p c kp2 hD hp hs=>?_
 have hp2:p.Perm (List.range ks.length):=by rw[← a3d hi];exact hp
 obtain⟨q1,q2⟩:=b5E hd hp2 hs
 exact h { s1 with heap:=h' } s1.heap.objs.size _ _ c (fun b o e=>kp2 b o (kp b o e)) hg hos (Nat.le_of_lt hsz) hD (a5j p hi fun i m=>List.mem_range.mp (hp.mem_iff.mp m)) (by rw[List.length_map,hp.length_eq,List.length_range];exact hle) q1 fun k=>(q2 k).trans (hL k)
end
def b06(K:W.Frag)(ta:TA):TE:=fun σ H Q=>ta σ H fun xs H1=>∃(a:Addr) (ns:List Int),xs=[.ref a]∧SqL K H1 a (ns.map V.int)∧ns.length<64 ∧
 ∀l (ks:List Int),H1 l=none→ks.Pairwise (· < ·)→(∀k,k∈ks↔k∈ns)→Q (.ref l) (upd H1 l (.lst (ks.map V.int)))
theorem b5F:bootBuiltins "set" = some (.type "set"):=by decide +kernel
section
variable {X:Cx}
theorem Inv.laidD{pins:List (Addr×Obj)}{σ:St}{H:Hp}{s s':Shared}{a:Addr}{o:HO}(I:Inv X pins σ H s)(k:∀b u,s.heap.get? b=some u→s'.heap.get? b=some u)(hg:s'.gens=s.gens)(hos:s'.os=s.os)(hp:s.heap.objs.size≤a)(new:ObjOk X.prog X.w (upd H a o) s'.heap a o):Inv X pins σ (upd H a o) s':=by
 have J:=I.laid (t':=s'.toks) k hp new
 have hb:AllBare s'.gens:=by rw[hg];exact I.bare
 obtain⟨ok,os,bare,base,loc,cell,free,freeC,pin,hok,len⟩:=J
 exact⟨ok,hos.trans I.os,hb,base,loc,cell,free,freeC,pin,hok,len⟩
theorem b2y{e:Expr}{p p2 pos pos2:Pos}{ta:TA}(hcalm:X.calm=true)(hg:Gl X "sorted")(hm:X.mg "sorted" = none)(hg2:Gl X "set")(hm2:X.mg "set" = none)(ha:PA X [e] ta)
  (he:starEach [Expr.Call (.Name "set" p2) [e] [] pos2] X.env=(false,eval (.Call (.Name "set" p2) [e] [] pos2) X.env)::starEach [] X.env:=by rfl) (hplain:(backTo pos (starEach [] X.env)).any (·.1)=false:=by rfl)
  (he2:starEach [e] X.env=(false,eval e X.env)::starEach [] X.env:=by rfl) (hpl2:(backTo pos2 (starEach [] X.env)).any (·.1)=false:=by rfl) :
  PE X (.Call (.Name "sorted" p) [.Call (.Name "set" p2) [e] [] pos2] [] pos) (b06 X.K ta):=by
 intro pins s σ H Q I h
 have hh:X.A.handled=none:=I.ok.hd hcalm
 refine wpAny_Call_Name_kw (K4 I hg hm b0W ?_)
 refine PyProof.Rows.callWith_builtin1 ?_ he hplain
 rw[he]
 show wpAny _ _ (spliced ((false,eval (.Call (.Name "set" p2) [e] [] pos2) X.env)::backTo pos (starEach [] X.env))) _ _ s
 refine Calls.spliced_cons ?_
 refine wpAny_Call_Name_kw (K4 I hg2 hm2 b5F ?_)
 refine PyProof.Rows.callWith_type1 (l3 (ha pos2 pins s σ H _ I h) fun us s1 ⟨vs,H1,I1,r1,a,ns,e1,hq,h64,q⟩=>?_) he2 hpl2
 subst e1
 obtain⟨u,rfl,ru⟩:=r1.one
 cases (show u=Value.ref a from ru)
 obtain⟨its,rv,pl,hz⟩:=I1.list hq
 obtain⟨ps,rfl,ep⟩:=a5f rv
 have hi:=a3b ps
 have hln:ps.length=ns.length:=by rw[← ep];simp
 refine a93 (A:=X.A) hh pl.isList (by simpa using hi) (by simp[hln];show _<4096;omega) fun s2 SR kp hg2 hd2 ho2=>?_
 refine Calls.spliced_nil ?_
 refine a96 SR hh (by rw[ep];exact h64) fun s3 D vs ks c kp2 hg3 ho3 hD hDo rvs hlen hpw hmem=>?_
 have hsz:s1.heap.objs.size≤D:=by
  obtain⟨o,es,ep',t,ho,_⟩:=SR.ex
  exact Nat.le_trans (Nat.le_of_lt (Heap.lt_size ho)) hD
 refine⟨.ref D,upd H1 D (.lst (ks.map V.int)),I1.laidD (s':=s3) (fun b o e=>kp2 b o (kp b o e)) (hg3.trans hg2) (ho3.trans ho2) hsz ?_,rfl,q D ks (I1.hok.fresh hsz) hpw fun k=>by rw[hmem k,ep]⟩
 refine⟨?_,vs,c,rvs,hDo⟩
 rw[rvs.length,sizeLine_eq]
 omega
end
end L2
namespace HT
open PySem PyProof.Rows
inductive IB:List Value→List Value→List Int→List Int→Prop
 | nil:IB [] [] [] []
 | int (a:Int) (t:Tok) (c:Int) (u:Tok) {vs ws:List Value} {ns ms:List Int} (h:IB vs ws ns ms):IB (.int a t::vs) (.int c u::ws) (a::ns) (c::ms)
 | bl (p q:Bool) {vs ws:List Value} {ns ms:List Int} (h:IB vs ws ns ms):IB (.bool p::vs) (.bool q::ws) (b2i p::ns) (b2i q::ms)
theorem IB.len{vs ws:List Value}{ns ms:List Int}(h:IB vs ws ns ms):vs.length=ws.length:=by
 induction h with
 | nil=>rfl
 | int _ _ _ _ _ ih=>simp[ih]
 | bl _ _ _ ih=>simp[ih]
end HT
namespace L2
open PySem PySem.Spec PyProof.Rows
open PySem.W
section
variable {n:Nat}{lt:Nat→Nat→Bool}
def Prx(n:Nat)(p:Array Nat)(m:Nat):Prop:=(∀i,i<m→ga p i<m)∧∀i,m≤i→i<n→ga p i=i
theorem Prx.up{p:Array Nat}{m k:Nat}(h:Prx n p m)(hk:m≤k)(hn:k≤n):Prx n p k:=by
 refine⟨fun i hi=>?_,fun i h1 h2=>h.2 i (by omega) h2⟩
 by_cases z:i<m
 ·have:=h.1 i z;omega
 ·rw[h.2 i (by omega) (by omega)];exact hi
structure DR(n:Nat)(lt:Nat→Nat→Bool)(p:Array Nat)(k:Nat):Prop where
 pre:Prx n p k
 d1:∀i j,i<j→j<k→lt (ga p i) (ga p j)=false
 d2:∀i j,i<j→j<k→lt (ga p j) (ga p i)=false→ga p j<ga p i
structure DG(n:Nat)(lt:Nat→Nat→Bool)(p:Array Nat)(k q:Nat):Prop where
 pre:Prx n p (k-(q+1))
 d1:∀i j,i<j→j<k→lt (ga p i) (ga p j)=false
 d2:∀i j,i<j→j<k-(q+1)→lt (ga p j) (ga p i)=false→ga p j<ga p i
 d3:∀i,i<k-(q+1)→lt (ga p (k-1)) (ga p i)=true
 d4:∀i,k-(q+1)≤i→i<k→lt (ga p (k-1)) (ga p i)=false
theorem DR.snoc{p:Array Nat}{k:Nat}(T:TPre lt)(d:DR n lt p k)(h:∀i,i<k→lt (ga p k) (ga p i)=true)(hk:k<n):DG n lt p (k+1) 0:=by
 have e:k+1-(0+1)=k:=by omega
 refine⟨by rw[e];exact d.pre,fun i j hij hj=>?_,fun i j hij hj=>by rw[e]at hj;exact d.d2 i j hij hj,fun i hi=>by rw[e]at hi;rw[Nat.add_sub_cancel];exact h i hi,fun i h1 h2=>?_⟩
 ·by_cases z:j<k
  ·exact d.d1 i j hij z
  ·have e:j=k:=by omega
   subst e
   exact T.asy _ _ (h i hij)
 ·have e:i=k:=by omega
  subst e
  rw[Nat.add_sub_cancel];exact T.irr _
theorem DG.alike{p:Array Nat}{k q:Nat}(T:TPre lt)(d:DG n lt p k q)(hq:q+1≤k){i j:Nat}(h1:k-(q+1)≤i)(h2:i<k)(h3:k-(q+1)≤j)(h4:j<k):lt (ga p i) (ga p j)=false:=by
 have a:lt (ga p i) (ga p (k-1))=false:=by
  by_cases z:i=k-1
  ·rw[z];exact T.irr _
  ·exact d.d1 i (k-1) (by omega) (by omega)
 exact T.tr _ _ _ (d.d4 j h3 h4) a
theorem DG.rev{p:Array Nat}{k q:Nat}(T:TPre lt)(hp:Pmn n p)(d:DG n lt p k q)(hq:q+1≤k)(hk:k≤n):DR n lt (kas_rev p (k-(q+1)) k) k:=by
 have hps:=hp.size
 have gr:=a3a (p:=p) (i:=k-(q+1)) (j:=k) (by omega)
 have pi:∀i,k-(q+1)≤i→i<n→ga p i=i:=d.pre.2
 refine⟨⟨fun i hi=>?_,fun i h1 h2=>?_⟩,fun i j hij hj=>?_,fun i j hij hj=>?_⟩
 ·rw[gr]
  split
  ·rw[pi _ (by omega) (by omega)];omega
  ·have:=d.pre.1 i (by omega);omega
 ·rw[gr,if_neg (by omega)];exact pi i (by omega) h2
 ·rw[gr,gr]
  by_cases zj:k-(q+1)≤j
  ·rw[if_pos (show k-(q+1)≤j∧j<k by omega)]
   by_cases zi:k-(q+1)≤i
   ·rw[if_pos (by omega)]
    exact d.alike T hq (by omega) (by omega) (by omega) (by omega)
   ·rw[if_neg (by omega)]
    exact d.d1 _ _ (by omega) (by omega)
  ·rw[if_neg (show ¬(k-(q+1)≤j∧j<k) by omega),if_neg (by omega)]
   exact d.d1 _ _ hij hj
 ·rw[gr,gr]
  by_cases zj:k-(q+1)≤j
  ·rw[if_pos (show k-(q+1)≤j∧j<k by omega)]
   by_cases zi:k-(q+1)≤i
   ·rw[if_pos (by omega)]
    intro _
    rw[pi _ (by omega) (by omega),pi _ (by omega) (by omega)]
    omega
   ·rw[if_neg (by omega)]
    intro z
    have a:=d.alike T hq (i:=k-1) (j:=k-(q+1)+k-1-j) (by omega) (by omega) (by omega) (by omega)
    have b:=T.tr _ _ _ z a
    rw[d.d3 i (by omega)]at b
    cases b
  ·rw[if_neg (show ¬(k-(q+1)≤j∧j<k) by omega),if_neg (by omega)]
   exact d.d2 _ _ hij (by omega)
theorem DG.one{p:Array Nat}{k:Nat}(T:TPre lt)(d:DG n lt p k 0)(hk1:1≤k)(hk:k≤n):DR n lt p k:=by
 refine⟨d.pre.up (by omega) hk,d.d1,fun i j hij hj z=>?_⟩
 by_cases e:j=k-1
 ·subst e
  rw[d.d3 i (by omega)]at z
  cases z
 ·exact d.d2 i j hij (by omega) z
end
theorem SqL.ext{K:W.Frag}{H1 H2:Hp}{a:Addr}{xs:List V}(h:SqL K H1 a xs)(ex:∀a o,H1 a=some o→H2 a=some o):SqL K H2 a xs:=by
 rcases h with(h | ⟨o,h⟩) | h
 ·exact .inl (.inl (ex _ _ h))
 ·exact .inl (.inr ⟨o,ex _ _ h⟩)
 ·exact .inr h
def Srt(lt:Keyed→Keyed→Bool)(l:List Keyed):Prop:=l.Pairwise fun x y=>lt y x=false
section
variable {lt:Keyed→Keyed→Bool}{aL bL o ra rb u:List Keyed}{x y:Keyed}
theorem Srt.drop{l:List Keyed}(h:Srt lt l)(n:Nat):Srt lt (l.drop n):=List.Pairwise.sublist (List.drop_sublist n l) h
end
def SameG(st st':SortSt):Prop:=kindOf st'=kindOf st∧arrOf st'=arrOf st∧pendingOf st'=pendingOf st∧failedOf st'=failedOf st
theorem SameG.refl(st:SortSt):SameG st st:=⟨rfl,rfl,rfl,rfl⟩
theorem SameG.trans{a b c:SortSt}(h:SameG a b)(g:SameG b c):SameG a c:=⟨g.1.trans h.1,g.2.1.trans h.2.1,g.2.2.1.trans h.2.2.1,g.2.2.2.trans h.2.2.2⟩
section
variable {lt:Keyed→Keyed→Bool}{aL bL o ra rb u:List Keyed}{x y:Keyed}
theorem Srt.left{l m:List Keyed}(h:Srt lt (l++m)):Srt lt l:=(List.pairwise_append.mp h).1
end
section
variable {lt:Keyed→Keyed→Bool}{Dm:Keyed→Prop}{a b out:Array Keyed}{na nb:Nat}{x y:Keyed}
theorem Srt.take{l:List Keyed}(h:Srt lt l)(n:Nat):Srt lt (l.take n):=List.Pairwise.sublist (List.take_sublist n l) h
end
section
variable {prog:Program}{w:World}{A:Around}{E:Value→Shared→Prop}{s:Shared}{κ:SortKind}{lt:Keyed→Keyed→Bool}{Dm:Keyed→Prop}{st:SortSt}
theorem Srt.right{l m:List Keyed}(h:Srt lt (l++m)):Srt lt m:=(List.pairwise_append.mp h).2.1
end
def gk(p:Array Keyed)(k:Nat):Keyed:=p.getD k (Value.none,Value.none)
theorem a5k(p:Array Keyed)(k:Nat):gk p k=(p[k]?).getD (Value.none,Value.none):=by unfold gk;simp[Array.getD_eq_getD_getElem?]
abbrev a97(p:Array Keyed)(i j:Nat):Array Keyed:=mirror p i j ((j-i)/2)
theorem b5G{p:Array Keyed}{i j:Nat}(hj:j≤p.size)(k:Nat):gk (a97 p i j) k=if i≤k∧k<j then gk p (i+j-1-k)else gk p k:=by
 rw[a5k,a97,getElem?_mirror_all hj]
 split<;>rw[a5k]
theorem b5H{p:Array Keyed}{src d:Nat}(hs:src<p.size)(hd:d≤src)(k:Nat):gk (bubble p src d) k=if k=src-d then gk p src else if src-d<k∧k≤src then gk p (k-1)else gk p k:=by
 rw[a5k,getElem?_bubble hs d hd]
 split
 ·rw[a5k]
 ·split<;>rw[a5k]
structure Rst(a0:Array Keyed)(lo hi:Nat)(a:Array Keyed):Prop where
 pm:a.Perm a0
 out:∀x,(x<lo∨hi≤x)→gk a x=gk a0 x
theorem Rst.refl(a:Array Keyed)(lo hi:Nat):Rst a lo hi a:=⟨.refl _,fun _ _=>rfl⟩
theorem Rst.size{a0 a:Array Keyed}{lo hi:Nat}(h:Rst a0 lo hi a):a.size=a0.size:=h.pm.size_eq
theorem Rst.rev{a0 a:Array Keyed}{lo hi i j:Nat}(h:Rst a0 lo hi a)(hi':lo≤i)(hj:j≤hi)(hs:hi≤a0.size):Rst a0 lo hi (a97 a i j) :=
 ⟨(mirror_perm _ _ _ _).trans h.pm,fun x hx=>by rw[b5G (by rw[h.size];omega),if_neg (by omega)];exact h.out x hx⟩
theorem Rst.bub{a0 a:Array Keyed}{lo hi src d:Nat}(h:Rst a0 lo hi a)(h1:lo≤src-d)(hd:d≤src)(h2:src<hi)(hs:hi≤a0.size):Rst a0 lo hi (bubble a src d) :=
 ⟨(bubble_perm _ _ _).trans h.pm,fun x hx=>by rw[b5H (by rw[h.size];omega) hd,if_neg (by omega),if_neg (by omega)];exact h.out x hx⟩
structure StR(st0:SortSt)(lo hi:Nat)(st:SortSt):Prop where
 k:kindOf st=kindOf st0
 p:pendingOf st=pendingOf st0
 f:failedOf st=failedOf st0
 r:Rst (arrOf st0) lo hi (arrOf st)
section
variable {prog:Program}{w:World}{A:Around}{E:Value→Shared→Prop}{s:Shared}{κ:SortKind}{lt:Keyed→Keyed→Bool}{Dm:Keyed→Prop}{st0 st:SortSt}{lo n m:Nat}
theorem StR.rev{hi i j:Nat}(R:StR st0 lo hi st)(h1:lo≤i)(h2:j≤hi)(hs:hi≤(arrOf st0).size):StR st0 lo hi (setArr st (a97 (arrOf st) i j)):=⟨R.k,R.p,R.f,R.r.rev h1 h2 hs⟩
end
def PRun(lt:Keyed→Keyed→Bool):List (Nat×Nat×Nat)→List (List Keyed)→Nat→Prop
 | [],[],_=>True
 | p::ps,S::ss,o=>p.1=o∧p.2.1=S.length∧1≤S.length∧Srt lt S∧PRun lt ps ss (o+S.length)
 | _,_,_=>False
section
variable {lt:Keyed→Keyed→Bool}
theorem PRun.len:∀{pl:List (Nat×Nat×Nat)} {segs:List (List Keyed)} {o:Nat},PRun lt pl segs o→pl.length=segs.length∧pl.length≤segs.flatten.length
 | [],[],_,_=>⟨rfl,Nat.le_refl _⟩
 | p::ps,S::ss,o,h=>by
  obtain⟨_,_,h1,_,h2⟩:=h
  have:=PRun.len h2
  simp only[List.length_cons,List.flatten_cons,List.length_append]
  omega
 | [],_::_,_,h=>h.elim
 | _::_,[],_,h=>h.elim
theorem PRun.snoc:∀{pl:List (Nat×Nat×Nat)} {segs:List (List Keyed)} {o:Nat} {c:Nat×Nat×Nat} {S:List Keyed},PRun lt pl segs o→c.1=o+segs.flatten.length→c.2.1=S.length→1≤S.length→Srt lt S→PRun lt (pl++[c]) (segs++[S]) o
 | [],[],o,c,S,_,h1,h2,h3,h4=>⟨by simpa using h1,h2,h3,h4,trivial⟩
 | p::ps,U::ss,o,c,S,h,h1,h2,h3,h4=>by
  obtain⟨a1,a2,a3,a4,a5⟩:=h
  refine⟨a1,a2,a3,a4,PRun.snoc a5 ?_ h2 h3 h4⟩
  rw[h1];simp only[List.flatten_cons,List.length_append];omega
 | [],_::_,_,_,_,h,_,_,_,_=>h.elim
 | _::_,[],_,_,_,h,_,_,_,_=>h.elim
theorem PRun.split:∀{pl:List (Nat×Nat×Nat)} {segs:List (List Keyed)} {o i:Nat},PRun lt pl segs o→i+1<pl.length→∃p1 a b p2 s1 U V s2,pl=p1++a::b::p2∧p1.length=i∧segs=s1++U::V::s2∧a.1=o+s1.flatten.length∧a.2.1=U.length∧b.1=a.1+U.length∧b.2.1=V.length∧1≤U.length∧1≤V.length∧Srt lt U∧Srt lt V ∧
  ∀(W:List Keyed) (c:Nat×Nat×Nat),W.length=U.length+V.length→Srt lt W→c.1=a.1→c.2.1=W.length→PRun lt (p1++c::p2) (s1++W::s2) o
 | p::q::ps,S::S'::ss,o,0,h,_=>by
  obtain⟨a1,a2,a3,a4,b1,b2,b3,b4,b5⟩:=h
  refine⟨[],p,q,ps,[],S,S',ss,rfl,rfl,rfl,by simpa using a1,a2,by omega,b2,a3,b3,a4,b4,fun W c hW hs h1 h2=>⟨by rw[h1];exact a1,h2,by omega,hs,?_⟩⟩
  rw[hW,← Nat.add_assoc]
  exact b5
 | p::ps,S::ss,o,i+1,h,hi=>by
  obtain⟨a1,a2,a3,a4,a5⟩:=h
  obtain⟨p1,a,b,p2,s1,U,V,s2,e1,e2,e3,e4,e5,e6,e7,e8,e9,e10,e11,e12⟩:=PRun.split a5 (i:=i) (by rw[List.length_cons]at hi;omega)
  refine⟨p::p1,a,b,p2,S::s1,U,V,s2,by rw[e1];rfl,by rw[List.length_cons,e2],by rw[e3];rfl,by rw[e4];simp only[List.flatten_cons,List.length_append];omega,e5,e6,e7,e8,e9,e10,e11,fun W c hW hs h1 h2=>⟨a1,a2,a3,a4,e12 W c hW hs h1 h2⟩⟩
 | [p],[S],o,0,h,hi=>by simp at hi
 | [p],S::S'::ss,o,0,h,hi=>by simp at hi
 | p::q::ps,[S],o,0,h,_=>by obtain⟨_,_,_,_,h⟩:=h;exact h.elim
 | [],[],_,_,_,hi=>by simp at hi
 | [],_::_,_,_,h,_=>h.elim
 | _::_,[],_,_,h,_=>h.elim
end
structure SI(lt:Keyed→Keyed→Bool)(st0 st:SortSt)(lo:Nat)(k8:List Keyed):Prop where
 k:kindOf st=kindOf st0
 f:failedOf st=none
 pm:(arrOf st).Perm (arrOf st0)
 run:∃segs,(arrOf st).toList=segs.flatten++k8∧segs.flatten.length=lo∧PRun lt (pendingOf st).toList segs 0
section
variable {prog:Program}{w:World}{A:Around}{E:Value→Shared→Prop}{s:Shared}{κ:SortKind}{lt:Keyed→Keyed→Bool}{Dm:Keyed→Prop}{st0 st:SortSt}{lo n:Nat}{k8:List Keyed}
theorem SI.push{S:List Keyed}{pw:Nat}(I:SI lt st0 st lo (S++k8))(hn:S.length=n)(h1:1≤n)(hs:Srt lt S):SI lt st0 (setPending st ((pendingOf st).push (lo,n,pw))) (lo+n) k8:=by
 obtain⟨segs,e1,e2,pr⟩:=I.run
 refine⟨I.k,I.f,I.pm,segs++[S],by show(arrOf st).toList=_;rw[e1];simp,by simp only[List.flatten_append,List.flatten_cons,List.flatten_nil,List.length_append,List.length_nil];omega,?_⟩
 show PRun lt ((pendingOf st).push (lo,n,pw)).toList _ 0
 rw[Array.toList_push]
 exact pr.snoc (by show lo=_;omega) (by show n=_;omega) (by omega) hs
end
section
variable {κ:Type} [DecidableEq κ]
def Z0(kvs:List (κ×V))(k:κ):Option V:=(kvs.find? fun kv=>decide (kv.1=k)).map (·.2)
def a3e(kvs:List (κ×V))(k:κ)(v:V):List (κ×V) :=
 if(kvs.any fun kv=>decide (kv.1=k))=true then kvs.map (fun kv=>if kv.1=k then(kv.1,v)else kv)else kvs++[(k,v)]
def b3v(kvs:List (κ×V))(k:κ):List (κ×V):=kvs.filter fun kv=>decide (kv.1≠k)
theorem a4P{p:κ×V}{r:List (κ×V)}{k:κ}(e:p.1=k):Z0 (p::r) k=some p.2:=by simp[Z0,List.find?_cons,e]
theorem a4Q{p:κ×V}{r:List (κ×V)}{k:κ}(e:¬p.1=k):Z0 (p::r) k=Z0 r k:=by simp[Z0,List.find?_cons,e]
theorem a7I(k:κ):∀kvs:List (κ×V),(kvs.any fun kv=>decide (kv.1=k))=(Z0 kvs k).isSome
 | []=>rfl
 | p::r=>by
  rw[List.any_cons]
  by_cases e:p.1=k
  ·simp only[a4P e,decide_eq_true e,Bool.true_or,Option.isSome_some]
  ·rw[a4Q e,decide_eq_false e,Bool.false_or];exact a7I k r
theorem RelO.isSome_eq{o:Option V}{u:Option Value}(r:RelO o u):o.isSome=u.isSome:=by
 cases o with
 | none=>cases u with
  | none=>rfl
  | some _=>exact(show False from r).elim
 | some _=>cases u with
  | none=>exact(show False from r).elim
  | some _=>rfl
theorem RelO.getD{o:Option V}{u:Option Value}{d:V}{d':Value}(r:RelO o u)(rd:RelV d d'):RelV (o.getD d) (u.getD d'):=by
 cases o with
 | none=>cases u with
  | none=>exact rd
  | some _=>exact(show False from r).elim
 | some _=>cases u with
  | none=>exact(show False from r).elim
  | some _=>exact r
theorem KV.val{kvs:List (κ×V)}{vs:List (κ×Value)}(r:KV kvs vs)(k:κ):RelO (Z0 kvs k) (valueAt vs k):=by
 unfold KV at r
 induction r with
 | nil=>exact True.intro
 | @cons p q ps qs h t ih =>
  obtain⟨h1,h2⟩:=h
  by_cases e:p.1=k
  ·have e':q.1=k:=h1.symm.trans e
   have b:valueAt (q::qs) k=some q.2:=by simp[valueAt,List.find?_cons,e']
   rw[a4P e,b];exact h2
  ·have e':¬q.1=k:=fun z=>e (h1.trans z)
   have b:valueAt (q::qs) k=valueAt qs k:=by simp[valueAt,List.find?_cons,e']
   rw[a4Q e,b];exact ih
theorem KV.any{kvs:List (κ×V)}{vs:List (κ×Value)}(r:KV kvs vs)(k:κ):(kvs.any fun kv=>decide (kv.1=k))=vs.any fun kv=>decide (kv.1=k):=by
 unfold KV at r
 induction r with
 | nil=>rfl
 | cons h t ih=>rw[List.any_cons,List.any_cons,ih,h.1]
theorem KV.repl{kvs:List (κ×V)}{vs:List (κ×Value)}(r:KV kvs vs)(k:κ){y:V}{u:Value}(ry:RelV y u) :
  KV (kvs.map fun kv=>if kv.1=k then(kv.1,y)else kv) (vs.map fun kv=>if kv.1=k then(kv.1,u)else kv):=by
 unfold KV at r ⊢
 induction r with
 | nil=>exact .nil
 | @cons p q ps qs h t ih =>
  rw[List.map_cons,List.map_cons]
  refine .cons ?_ ih
  obtain⟨h1,h2⟩:=h
  by_cases e:p.1=k
  ·rw[if_pos e,if_pos (h1.symm.trans e)];exact⟨h1,ry⟩
  ·rw[if_neg e,if_neg (fun z=>e (h1.trans z))];exact⟨h1,h2⟩
theorem KV.put{kvs:List (κ×V)}{vs:List (κ×Value)}(r:KV kvs vs)(k:κ){y:V}{u:Value}(ry:RelV y u):KV (a3e kvs k y) (stored vs k u):=by
 unfold a3e stored
 rw[r.any k]
 by_cases e:(vs.any fun kv=>decide (kv.1=k))=true
 ·rw[if_pos e,if_pos e];exact r.repl k ry
 ·rw[if_neg e,if_neg e];exact Paired.snoc r ⟨rfl,ry⟩
theorem KV.drop{kvs:List (κ×V)}{vs:List (κ×Value)}(r:KV kvs vs)(k:κ):KV (b3v kvs k) (without vs k):=by
 unfold KV at r ⊢
 unfold b3v without
 induction r with
 | nil=>exact .nil
 | @cons p q ps qs h t ih =>
  obtain⟨h1,h2⟩:=h
  rw[List.filter_cons,List.filter_cons]
  by_cases e:p.1=k
  ·have a:¬decide (p.1≠k)=true:=by simp[e]
   have b:¬decide (q.1≠k)=true:=by simp[h1.symm.trans e]
   rw[if_neg a,if_neg b];exact ih
  ·have e':¬q.1=k:=fun z=>e (h1.trans z)
   have a:decide (p.1≠k)=true:=by simp[e]
   have b:decide (q.1≠k)=true:=by simp[e']
   rw[if_pos a,if_pos b];exact .cons ⟨h1,h2⟩ ih
theorem KV.keys{kvs:List (κ×V)}{vs:List (κ×Value)}(r:KV kvs vs):kvs.map (·.1)=vs.map (·.1):=by
 unfold KV at r
 induction r with
 | nil=>rfl
 | cons h t ih=>rw[List.map_cons,List.map_cons,ih,h.1]
theorem KV.length{kvs:List (κ×V)}{vs:List (κ×Value)}(r:KV kvs vs):kvs.length=vs.length:=Paired.length r
end
abbrev KT(H:Hp):List (List y0×V)→List (List y0×Addr×Value)→Prop:=Paired fun p q=>p.1=q.1∧H q.2.1=some (.tup (p.1.map kV))∧RelV p.2 q.2.2
theorem KT.val{H:Hp}{kvs:List (List y0×V)}{xs:List (List y0×Addr×Value)}(r:KT H kvs xs)(k:List y0):RelO (Z0 kvs k) ((atKey xs k).map (·.2)):=by
 induction r with
 | nil=>exact True.intro
 | @cons p q ps qs h t ih =>
  obtain⟨h1,_,h2⟩:=h
  by_cases e:p.1=k
  ·have e':q.1=k:=h1.symm.trans e
   have b:atKey (q::qs) k=some q.2:=by simp[atKey,List.find?_cons,e']
   rw[a4P e,b];exact h2
  ·have e':¬q.1=k:=fun z=>e (h1.trans z)
   have b:atKey (q::qs) k=atKey qs k:=by simp[atKey,List.find?_cons,e']
   rw[a4Q e,b];exact ih
theorem KT.repl{H:Hp}{kvs:List (List y0×V)}{xs:List (List y0×Addr×Value)}(r:KT H kvs xs)(k:List y0){y:V}{u:Value}(ry:RelV y u) :
  KT H (kvs.map fun kv=>if kv.1=k then(kv.1,y)else kv) (xs.map (putAt k u)):=by
 induction r with
 | nil=>exact .nil
 | @cons p q ps qs h t ih =>
  rw[List.map_cons,List.map_cons]
  refine .cons ?_ ih
  obtain⟨h1,h2,h3⟩:=h
  unfold putAt
  by_cases e:p.1=k
  ·rw[if_pos e,if_pos (h1.symm.trans e)];exact⟨h1,h2,ry⟩
  ·rw[if_neg e,if_neg (fun z=>e (h1.trans z))];exact⟨h1,h2,h3⟩
theorem KT.put{H:Hp}{kvs:List (List y0×V)}{xs:List (List y0×Addr×Value)}(r:KT H kvs xs)(k:List y0){b:Addr}{y:V}{u:Value}(hb:H b=some (.tup (k.map kV)))(ry:RelV y u) :
  KT H (a3e kvs k y) (storedH xs k b u):=by
 have e:(kvs.any fun kv=>decide (kv.1=k))=(atKey xs k).isSome:=by
  rw[a7I,(r.val k).isSome_eq,Option.isSome_map]
 unfold a3e storedH
 rw[e]
 by_cases q:(atKey xs k).isSome=true
 ·rw[if_pos q,if_pos q];exact r.repl k ry
 ·rw[if_neg q,if_neg q];exact Paired.snoc r ⟨rfl,hb,ry⟩
theorem KT.keeps{H H':Hp}{kvs:List (List y0×V)}{xs:List (List y0×Addr×Value)}(r:KT H kvs xs)(ht:∀b ys,H b=some (.tup ys)→H' b=some (.tup ys)):KT H' kvs xs :=
 Paired.mapP r fun _ _ z=>⟨z.1,ht _ _ z.2.1,z.2.2⟩
def DGet(H:Hp)(a:Addr)(y:V)(r:Option V):Prop :=
 (∃kvs k,Rd H a (.dK kvs)∧y=kV k∧r=Z0 kvs k)∨∃kvs k b,Rd H a (.dT kvs)∧y=.ref b∧H b=some (.tup (k.map kV))∧r=Z0 kvs k
def DPut(H:Hp)(a:Addr)(y v:V)(H':Hp):Prop :=
 (∃kvs k,H a=some (.dK kvs)∧y=kV k∧kvs.length<sizeLine∧H'=upd H a (.dK (a3e kvs k v))) ∨
 ∃kvs k b,H a=some (.dT kvs)∧y=.ref b∧H b=some (.tup (k.map kV))∧kvs.length<sizeLine∧H'=upd H a (.dT (a3e kvs k v))
theorem DGet.k{H:Hp}{a:Addr}{kvs:List (y0×V)}{k:y0}(e:H a=some (.dK kvs)):DGet H a (kV k) (Z0 kvs k):=.inl ⟨kvs,k,.inl e,rfl,rfl⟩
theorem DGet.t{H:Hp}{a b:Addr}{kvs:List (List y0×V)}{k:List y0}(e:H a=some (.dT kvs))(eb:H b=some (.tup (k.map kV))):DGet H a (.ref b) (Z0 kvs k):=.inr ⟨kvs,k,b,.inl e,rfl,eb,rfl⟩
theorem DPut.k{H:Hp}{a:Addr}{kvs:List (y0×V)}{k:y0}{v:V}(e:H a=some (.dK kvs))(hl:kvs.length<sizeLine):DPut H a (kV k) v (upd H a (.dK (a3e kvs k v))):=.inl ⟨kvs,k,e,rfl,hl,rfl⟩
theorem DPut.t{H:Hp}{a b:Addr}{kvs:List (List y0×V)}{k:List y0}{v:V}(e:H a=some (.dT kvs))(eb:H b=some (.tup (k.map kV)))(hl:kvs.length<sizeLine) :
  DPut H a (.ref b) v (upd H a (.dT (a3e kvs k v))):=.inr ⟨kvs,k,b,e,rfl,eb,hl,rfl⟩
end L2
namespace PySem.W
open PySem PySem.Spec PySem.Calls PyProof.Rows
def onlyVE:List Value→Bool
 | .ref _::r=>onlyVE r
 | l=>l == L2.vErr
theorem a6Q(self:Value):∀l:List Value,onlyVE l=true→refuseLoop self "__setattr__" l=pure ()
 | [],e=>by cases (show([] == L2.vErr)=true from e)
 | y::r,e=>by
  unfold onlyVE at e
  split at e
  ·rename_i c r' q
   cases q
   rw[refuseLoop_ref]
   exact a6Q self _ e
  ·rw[beq_iff_eq.mp e]
   exact PySem.F.store_ValueError.passes self
structure ExcS(K:Frag)(C:Addr)(f:Str):Prop where
 sa:findIn K (.ref C) "__setattr__" = some (some (.builtin "object.__setattr__"))
 mr:((clsIn K C).any fun cd=>onlyVE cd.mro)=true
 mo:mroIn K C (.type "object")=some true
 hd:hasDictIn K C=true
 na:findIn K (.ref C) f=some none
section
variable {prog:Program}{w:World}{A:Around}{E:Value→Shared→Prop}{s:Shared}{K:Frag}{x C:Addr}{o:Obj}{vs:Array Value}{f:Str}{v:Value}
theorem b3_{tk:Tok}{R:Result→Shared→Prop}(X:K.In s.heap)(T:ExcS K C f)(hx:s.heap.get? x=some o)(hc:o.cls=.ref C)(hd:o.dict=none)(hf:o.data=.fields vs)
  (q:∀h' tk',h'.get? x=some { o with dict:=some s.heap.objs.size }→h'.Ns1 s.heap.objs.size (fun y=>if y=f then some v else none)→(∀b ob,b≠x→s.heap.get? b=some ob→h'.get? b=some ob)→R (.ok (.ret .none)) { s with heap:=h',toks:=tk' }) :
  codeAny (model prog w) A (.call (.builtin "object.__setattr__") ⟨[.ref x,.str f tk,v],[]⟩) R s:=by
 obtain⟨cd,hcd,ho⟩:=any_some T.mr
 obtain⟨cd',hcd',hhd⟩:=any_some T.hd
 rw[hcd]at hcd';cases hcd'
 have LT:Looks (model prog w) s.heap (typeOf (.ref x)) (.ref C):=hc▸(Looks.ld hx).andThen .now
 have SF:=PySem.F.store_object
 have sub:Looks (model prog w) s.heap (isInstance (.ref x) (.type "object")) true:=LT.andThen (looks_mroIn X T.mo)
 have hm:Looks (model prog w) s.heap (mroOf (.ref C)) cd.mro:=(looks_clsIn X hcd).andThen .now
 refine codeAny_call_builtin SF.slot.plain SF.entry (@check_slot (model prog w) _ _ s "object.__setattr__" "object" "__setattr__" (.ref x) [.str f tk,v] [] _ SF.kind SF.split sub (SF.args (.ref x) (.str f tk) v) ?_)
 show wpAny _ _ (Builtin.«object.__setattr__» ⟨[.ref x,.str f tk,v],[]⟩) _ _ _
 rw[osa_eq,refuse_eq]
 refine wpAny_bind (wpAny_bind (LT.here (wpAny_bind (hm.here ?_))))
 rw[a6Q _ _ ho]
 refine wpAny_pure (wpAny_bind (LT.here (wpAny_bind ((looks_findIn X T.na).here (wpAny_bind (wpAny_pure ?_))))))
 show wpAny _ _ (Builtin.ObjectAttr.storeInOwnDict (.ref x) (.ref C) (.str f tk) f v false) _ _ _
 refine wpAny_bind (wpAny_pure (wpAny_bind ?_))
 unfold Builtin.ObjectAttr.ownDictForStores instanceDict
 refine wpAny_bind (wpAny_loadPart hx ?_)
 rw[hc]
 refine wpAny_bind ((looks_clsIn X hcd).here ?_)
 rw[if_neg (by rw[hhd];decide)]
 dsimp only
 rw[hd]
 dsimp only
 rw[if_neg (by simp[typeHasDict]),hf]
 dsimp only
 have hx₁:(s.heap.push { cls:=.type "dict",data:=.dict #[] }).get? x=some o:=Heap.get?_push_of_some _ hx
 have hxs:x≠s.heap.objs.size:=Nat.ne_of_lt (Heap.lt_size hx)
 refine wpAny_bind (wpAny_alloc' ?_)
 refine wpAny_bind (wpAny_update' hx₁ ?_)
 refine wpAny_pure ?_
 have hgd:((s.heap.push { cls:=.type "dict",data:=.dict #[] }).update x fun o=>{ cls:=o.cls,dict:=some s.heap.objs.size,data:=o.data,slots:=o.slots }).get? s.heap.objs.size
   = some { cls:=.type "dict",data:=.dict #[] } :=
  (Heap.get?_update_ne _ _ _ _ hxs.symm).trans (Heap.get?_push_at rfl rfl)
 have hnd:((s.heap.push { cls:=.type "dict",data:=.dict #[] }).update x fun o=>{ cls:=o.cls,dict:=some s.heap.objs.size,data:=o.data,slots:=o.slots }).Ns s.heap.objs.size (fun _=>none) :=
  ⟨_,#[],_,hgd,rfl,fun e he=>absurd he (by simp),fun _=>rfl⟩
 show wpAny _ _ (Builtin.ObjectAttr.storeInDict s.heap.objs.size (.str f tk) f v) _ _ _
 unfold Builtin.ObjectAttr.storeInDict Builtin.ObjectAttr.newKeyGuard
 refine wpAny_bind (wpAny_pure (wpAny_bind (wpAny_nsSet1 (Heap.Ns1.of_empty hnd) fun h' hn' hs=>?_)))
 obtain⟨oD,esD,epD,hoD,hdD,hcD⟩:=hn'.count (Within.cons f v Within.nil)
 refine wpAny_bind (wpAny_lookBehind hoD (by rw[hdD];exact pastItsLine_dict (Nat.le_trans hcD (by rw[List.length_cons,List.length_nil,sizeLine_eq];omega))) ?_)
 refine wpAny_pure (q h' _ ?_ hn' fun b ob hb e=>?_)
 ·refine(hs.2 x hxs).trans (Heap.get?_update_self _ hx₁ ?_)
  rw[show({ cls:=o.cls,dict:=some s.heap.objs.size,data:=o.data,slots:=o.slots }:Obj).isFreed=false from Obj.isFreed_of_fields hf]
 ·exact(hs.2 b (Nat.ne_of_lt (Heap.lt_size e))).trans ((Heap.get?_update_ne _ _ _ _ hb).trans (Heap.get?_push_of_some _ e))
theorem exc_setattr{Q:Unit→Shared→Prop}(X:K.In s.heap)(T:ExcS K C f)(hx:s.heap.get? x=some o)(hc:o.cls=.ref C)(hd:o.dict=none)(hf:o.data=.fields vs)
  (q:∀h' tk',h'.get? x=some { o with dict:=some s.heap.objs.size }→h'.Ns1 s.heap.objs.size (fun y=>if y=f then some v else none)→(∀b ob,b≠x→s.heap.get? b=some ob→h'.get? b=some ob)→Q () { s with heap:=h',toks:=tk' }) :
  wpAny (model prog w) A (setAttr (.ref x) f v) Q E s:=by
 have I:InstAt s.heap x o C none:=⟨hx,hc,by unfold notCls;rw[hf],by rw[hd];trivial⟩
 exact set_plain X I T.sa (b3_ (s:={ s with toks:=s.toks+1 }) X T hx hc hd hf q)
end
end PySem.W
namespace PySem.W
open PySem PySem.Spec PySem.Calls PyProof.Rows
section
variable {prog:Program}{w:World}{A:Around}{E:Value→Shared→Prop}{h:Heap}{g:Array GenState}{d:Drawn}{t:Nat}{os:OsState}{K:Frag}
variable {nm q:Str}{C N:Addr}{bs bm bmB:List Value}{hdct:Bool}{sn:List Str}{sub:List Value}{ab:Bool}{col:Option Bool}{dd:Option Addr}{k0 k1 k2 k3 k5:Option Value}{B newId initId:String}
abbrev a6i(C tu:Addr):Obj:={ cls:=.ref C,data:=.fields #[.ref tu,.none,.none,.none,.bool false,.none] }
theorem a6j(X:K.In h)(F:ExcBaseFacts B newId initId bmB)(T:OwnTail h bmB bm){k8:List Value}{fI:Addr}{Q:Fin→Shared→Prop}
  (hC:h.get? C=some (excClassObj nm q C N bs bm hdct sn sub ab col dd k0 k1 k2 k3 k5 newId)) (hi:findIn K (.ref C) "__init__" = some (some (.ref fI))) (hf:typeIn K (.ref fI)=some (.type "function"))
  (hq:∀h' e,Heap.MadeExcOf h h' e (.ref C) k8→h.objs.size≤e→wpAny (model prog w) A (call (.ref fI) (.ref e::k8)) (fun r s'=>r=.none∧Q (.done (.ret (.ref e))) s') E ⟨h',g,d,t,os⟩) (hrest:k8.length≤sizeLine) :
  wpAny (model prog w) A (Builtin.«type.__call__» ⟨.ref C::k8,[]⟩) Q E ⟨h,g,d,t,os⟩:=by
 repeat (first | with_reducible refine wpAny_loadPart_at hC ?_ | with_reducible refine wpAny_madeBy_exc hC ?_ | wp_step)
 refine codeAny_call_builtin_code (Code.quiet_builtin _ F.quiet) (wpAny_check_new_subT F T hC ?_)
 refine codeAny_exc_new_subT F T hC ?_ hrest
 show wpAny _ _ _ _ _ _
 have kp:∀b o,h.get? b=some o→((h.push { cls:=.type "tuple",data:=.seq k8.toArray }).push (a6i C h.objs.size)).get? b=some o:=fun b o e=>Heap.get?_push_of_some _ (Heap.get?_push_of_some _ e)
 have hC₁:=kp _ _ hC
 have X₁:=X.keeps kp
 have hget:((h.push { cls:=.type "tuple",data:=.seq k8.toArray }).push (a6i C h.objs.size)).get? (h.objs.size+1)=some (a6i C h.objs.size):=by heap_get
 have hcC:(Value.ref C::bm).contains (.ref C)=true:=by simp
 unfold isInstance
 repeat (first | with_reducible refine wpAny_loadPart_at hget ?_ | (with_reducible refine wpAny_isSubtype_exc hC₁ ?_;rw[hcC]) | wp_step)
 show wpAny _ _ (typeLookup (.ref C) _) _ _ _
 refine Looks.here (s:=⟨_,g,d,t,os⟩) (looks_findIn X₁ hi) ?_
 refine wpAny_holding (wpAny_bind (Looks.here (s:=⟨_,g,d,t,os⟩) (bind_fn X₁ _ hf) ?_))
 refine wpAny_bind (wpAny_mono (hq _ (h.objs.size+1) ⟨kp,Heap.get?_none_of_le (Nat.le_succ _),h.objs.size,hget,Heap.get?_none_of_le (Nat.le_refl _),?_⟩ (Nat.le_succ _)) (fun r s' hr=>?_) fun _ _ x=>x)
 ·exact Heap.get?_push_of_some _ (Heap.get?_push_at rfl rfl)
 ·obtain⟨rfl,hQ⟩:=hr
  wp_walk
  exact hQ
theorem call_excI(X:K.In h)(F:ExcBaseFacts B newId initId bmB)(T:OwnTail h bmB bm){k8:List Value}{fI:Addr}{Q:Value→Shared→Prop}
  (hC:h.get? C=some (excClassObj nm q C N bs bm hdct sn sub ab col dd k0 k1 k2 k3 k5 newId)) (hi:findIn K (.ref C) "__init__" = some (some (.ref fI))) (hf:typeIn K (.ref fI)=some (.type "function"))
  (hq:∀h' e,Heap.MadeExcOf h h' e (.ref C) k8→h.objs.size≤e→wpAny (model prog w) (A.under (.builtin "type.__call__" ⟨.ref C::k8,[]⟩)) (call (.ref fI) (.ref e::k8)) (fun r s'=>r=.none∧Q (.ref e) s') E ⟨h',g,d,t,os⟩) (hrest:k8.length≤sizeLine) :
  wpAny (model prog w) A (call (.ref C) k8) Q E ⟨h,g,d,t,os⟩:=by
 have f1:=tc_lookup
 have f2:=tc_bind (.ref C)
 have hT:(⟨h,g,d,t,os⟩:Shared).TypeIs (.ref C) "type" := ⟨_,hC,rfl⟩
 refine wpAny_call (codeAny_of_tree ?_)
 show wpAny _ _ (callAny (.ref C) _) _ _ _
 repeat (any_goals (first | assumption | with_reducible refine wpAny_loadPart_at hC ?_ | wp_step))
 refine⟨rfl,?_⟩
 exact codeAny_call_builtin_at (Code.quiet_builtin _ (by decide +kernel)) entry_typeCall (wpAny_check_type_call_sub hC (a6j X F T hC hi hf (fun h' e hm he=>hq h' e hm he) hrest))
theorem raise_madeI{M:Model}{env:Env}{s:Shared}{x:Sem Value}{Q:Flow→Shared→Prop}(hbase:bm.contains (.type "BaseException")=true)(hh:A.handled=none)
  (hx:wpAny M A x (fun v s₁=>∃e oe,v=.ref e∧s₁.heap.get? C=some (excClassObj nm q C N bs bm hdct sn sub ab col dd k0 k1 k2 k3 k5 newId)∧s₁.heap.get? e=some oe∧oe.cls=.ref C∧(∃tu,oe.data=.fields #[.ref tu,.none,.none,.none,.bool false,.none])∧E (.ref e) s₁) E s) :
  wpAny M A (raiseStmt env (some x) none) Q E s:=by
 have hcB:(Value.ref C::bm).contains (.type "BaseException")=true:=by rw[List.contains_cons,hbase,Bool.or_true]
 unfold raiseStmt
 refine wpAny_bind (wpAny_mono hx (fun v s₁ h₁=>?_) fun _ _ x=>x)
 obtain⟨e,oe,rfl,hC,he,hc,⟨tu,hdt⟩,hE⟩:=h₁
 obtain⟨oc,od,odt,osl⟩:=oe
 dsimp only at hc hdt
 subst hc hdt
 obtain⟨hp,g,d,tk,os⟩:=s₁
 repeat (first | with_reducible refine wpAny_loadPart_at he ?_ | with_reducible refine wpAny_loadPart_at hC ?_ | (with_reducible refine wpAny_isSubtype_exc hC ?_;rw[hcB]) | wp_step)
 exact wpAny_raiseNew_none hh hE
end
end PySem.W
namespace L2
open PySem PySem.Spec PyProof.Rows
def Q0(a C:Addr)(od:Option Addr):HO:=.ext fun h=>∃o tu,h.get? a=some o∧o.cls=.ref C∧o.dict=od∧o.data=.fields #[.ref tu,.none,.none,.none,.bool false,.none]
section
variable {X:Cx}{pins:List (Addr×Obj)}{σ:St}{H:Hp}{s:Shared}{a C:Addr}{f:Str}
theorem a9e{P:Program}{w:World}{H:Hp}{h:Heap}{o:Obj}{tu:Addr}{od:Option Addr}(e:h.get? a=some o)(hc:o.cls=.ref C)(hd:o.dict=od)(hf:o.data=.fields #[.ref tu,.none,.none,.none,.bool false,.none]):ObjOk P w H h a (Q0 a C od) :=
 ⟨⟨o,tu,e,hc,hd,hf⟩,⟨o,e⟩,fun h1 h2 ⟨o1,t1,z1,z2,z3,z4⟩ k=>⟨o1,t1,k o1 z1,z2,z3,z4⟩⟩
theorem b4a{y:V}{u:Value}{A:Around}{E:Value→Shared→Prop}{Q:Unit→Shared→Prop}(I:Inv X pins σ H s)(e:H a=some (Q0 a C none))(T:W.ExcS X.K C f)(ry:RelV y u)
  (h:∀dx s',H dx=none→dx≠a→Inv X pins σ (upd (upd H a (Q0 a C (some dx))) dx (.xd [(f,y)])) s'→Q () s'):wpAny (model X.prog X.w) A (setAttr (.ref a) f u) Q E s:=by
 obtain⟨⟨o,tu,hx,hc,hd,hf⟩,_⟩:=(show ObjOk X.prog X.w H s.heap a (Q0 a C none)from I.hok a _ e)
 refine W.exc_setattr I.kIn T hx hc hd hf fun h' tk' g1 g2 g3=>?_
 have ns:s.heap.objs.size≠a:=fun z=>absurd (Heap.lt_size hx) (by rw[z];exact Nat.lt_irrefl _)
 refine h s.heap.objs.size _ (I.hok.fresh (Nat.le_refl _)) ns ?_
 have hfr:({ o with dict:=some s.heap.objs.size }:Obj).isFreed=false:=Obj.isFreed_of_fields hf
 have u1:=Heap.get?_update_self (h:=s.heap) (fun o=>{ o with dict:=some s.heap.objs.size }) hx hfr
 have far:∀b,b≠a→(s.heap.update a fun o=>{ o with dict:=some s.heap.objs.size }).get? b=s.heap.get? b:=fun b n=>Heap.get?_update_other _ _ (Ne.symm n)
 have I1:Inv X pins σ (upd H a (Q0 a C (some s.heap.objs.size))) { s with heap:=s.heap.update a fun o=>{ o with dict:=some s.heap.objs.size } } :=
  I.write (x:=a) (e:=a) (t':=s.toks) (by rw[e];exact True.intro) (.inl rfl) (fun b q hb z=>(far b hb).trans z) ⟨_,u1⟩ (a9e u1 hc rfl hf)
 refine I1.laid (a:=s.heap.objs.size) (t':=tk') (fun b q z=>?_) ?_ ⟨_,g2,fun g=>?_⟩
 ·by_cases hb:b=a
  ·subst hb;rw[u1]at z;cases z;exact g1
  ·rw[far b hb]at z;exact g3 b q hb z
 ·exact Nat.le_of_eq (by simp[Heap.update])
 ·show RelO ([(f,y)].lookup g) (if g=f then some u else none)
  by_cases z:g=f
  ·subst z
   rw[if_pos rfl,List.lookup_cons,beq_self_eq_true]
   exact ry
  ·rw[if_neg z,List.lookup_cons,beq_false_of_ne z]
   exact True.intro
def sXF(K:W.Frag)(ta tv:TE)(f:Str):TS:=fun D σ H=>tv σ H fun y H1=>ta σ H1 fun x H2=>∃a C,x=.ref a∧H2 a=some (Q0 a C none)∧W.ExcS K C f∧∀dx,H2 dx=none→dx≠a→D.nx σ (upd (upd H2 a (Q0 a C (some dx))) dx (.xd [(f,y)]))
theorem b6u{o value:Expr}{pos pos':Pos}{ta tv:TE}(ha:PE X o ta)(hv:PE X value tv)(hs:swapsWith value (some (.Attribute o f pos')) pos.line X.env=pure false):PS X (.Assign [.Attribute o f pos'] value pos) (sXF X.K ta tv f):=by
 intro pins s σ H D I h
 refine plainObj_wpAny_Assign_Attribute (l3 (hv pins s σ H _ I h) fun u s1 ⟨y,H1,I1,ry,q⟩=>l3 (ha pins s1 σ H1 _ I1 q) fun ov s2 ⟨x,H2,I2,rx,a,C,ex,ea,T,q2⟩=>?_) hs
 subst ex
 obtain rfl:ov=Value.ref a:=rx
 exact b4a I2 ea T ry fun dx s3 n1 n2 I3=>⟨σ,_,I3,q2 dx n1 n2⟩
def a2A(H:Hp)(a:Addr):Hp:=fun b=>if b=a then none else H b
theorem Inv.untrack{φ:Heap→Prop}(I:Inv X pins σ H s)(e:H a=some (.ext φ)):Inv X pins σ (a2A H a) s:=by
 have ne:∀{b:Addr} {o:HO},H b=some o→(∀ψ,o≠.ext ψ)→a2A H a b=some o:=fun{b o} q n=>by
  unfold a2A
  rw[if_neg (fun z=>by rw[z,e]at q;cases q;exact n φ rfl)]
  exact q
 have none':∀{b:Addr},H b=none→a2A H a b=none:=fun{b} q=>by unfold a2A;split<;>first | rfl | exact q
 refine⟨I.ok,I.os,I.bare,⟨I.base.keep,I.base.slot,fun b o e1 n hx=>none' (I.base.free b o e1 n hx),I.base.there,fun b xs q=>ne (I.base.tups b xs q) (fun _ z=>nomatch z),fun b o u q=>ne (I.base.frzs b o u q) (fun _ z=>nomatch z),fun b ps q=>?_⟩,I.loc,I.cell,none' I.free,fun y c q=>none' (I.freeC y c q),fun p hp=>?_,fun b u q=>?_,I.len⟩
 ·obtain⟨more,q1⟩:=I.base.tbls b ps q
  exact⟨more,ne q1 (fun _ z=>nomatch z)⟩
 ·obtain⟨h1,h2,h3,h4,h5⟩:=I.pin p hp
  exact⟨h1,none' h2,h3,h4,h5⟩
 ·have q1:H b=some u:=by
   unfold a2A at q
   split at q
   ·cases q
   ·exact q
  exact(I.hok b u q1).stay (fun _ _ _ z=>z) (fun c z=>ne z (fun _ z=>nomatch z)) (fun c xs z=>ne z (fun _ z=>nomatch z)) fun c ob u z=>ne z (fun _ z=>nomatch z)
end
def a5l(K:W.Frag)(C:Addr):Bool:=match K.lookup C with
 | some ⟨.type "type",_,.cls cd,sl⟩=>(match cd.mro,sl.toList with
  | .ref C'::bm,[_,_,_,_,some (.builtin n),_]=>C' == C && n == "ValueError.__new__" && !cd.hasDel && W.tailIn K vErr bm
  | _,_=>false)
 | _=>false
theorem b2z{K:W.Frag}{h₀:Heap}{C:Addr}(KX:K.In h₀)(q:a5l K C=true) :
  ∃bm N nm q bs hdct sn sub ab col dd k0 k1 k2 k3 k5,h₀.get? C=some (excClassObj nm q C N bs bm hdct sn sub ab col dd k0 k1 k2 k3 k5 "ValueError.__new__")∧OwnTail h₀ vErr bm:=by
 unfold a5l at q
 split at q
 ·rename_i dd cd sl ho
  split at q
  ·rename_i C' bm k0 k1 k2 k3 n k5 hm hs
   simp only[Bool.and_eq_true,beq_iff_eq,Bool.not_eq_true']at q
   obtain⟨⟨⟨rfl,rfl⟩,hdel⟩,ht⟩:=q
   obtain⟨nm,bs,mro,ns,qn,hd,sn,sub,ab,col,a2A⟩:=cd
   dsimp only at hm hdel
   subst hm hdel
   have hsl:sl = #[k0,k1,k2,k3,some (.builtin "ValueError.__new__"),k5]:=by
    obtain⟨l⟩:=sl
    simp only at hs
    rw[hs]
   subst hsl
   exact⟨bm,ns,nm,qn,bs,hd,sn,sub,ab,col,dd,k0,k1,k2,k3,k5,KX _ _ ho,W.tail_of_in KX ht⟩
  ·cases q
 ·cases q
def a6k(C:Addr)(f:Str):Sp:=fun vs H Q _=>∃a v,vs=[.ref a,v]∧H a=some (Q0 a C none)∧∀dx,H dx=none→dx≠a→Q .non (upd (upd H a (Q0 a C (some dx))) dx (.xd [(f,v)]))
structure MkX(K:W.Frag)(C fI:Addr):Prop where
 obj:a5l K C=true
 init:W.findIn K (.ref C) "__init__" = some (some (.ref fI))
 fn:W.typeIn K (.ref fI)=some (.type "function")
section
variable {X:Cx}{E:XK}{k:Nat}
def a6l(C:Addr)(f:Str)(E:XK)(ta:TA):TS:=fun _ σ H=>ta σ H fun vs H1=>∃v,vs=[v]∧∀dx,H1 dx=none→E (.ref C) (some (2*dx+1)) (upd H1 dx (.xd [(f,v)]))
theorem b07{x f:Str}{C fI:Addr}{fd:FuncData}{ps:List Str}{e₀:Expr}{k8:List Expr}{np cpos pos:Pos}{ta:TA}(acc:XAcc X E)(M:MkX X.K C fI)(F:FnOk X.prog X.w X.K X.mg X.base (x9 X.prog X.w) k fI fd ps (a6k C f))(hr:Room (k+1) X.A)(hb:Binds X.K fd ps [])
  (hg:Gl X x) (hm:X.mg x=some (.ref C)) (ha:PA X (e₀::k8) ta)
  (hc:X.calm=true:=by rfl) (hex:X.ex=[]:=by rfl)
  (he:starEach (e₀::k8) X.env=(false,eval e₀ X.env)::starEach k8 X.env:=by rfl) (hplain:(backTo cpos (starEach k8 X.env)).any (·.1)=false:=by rfl) (hd:(x == ("__debug__" : Str))=false:=by decide) :
  PS X (.Raise (some (.Call (.Name x np) (e₀::k8) [] cpos)) none pos) (a6l C f E ta):=by
 intro pins s σ H D I h
 obtain⟨tl,N,nm,qn,bs,hdct,sn,sub,ab,col,dd,k0,k1,k2,k3,k5,hC,T⟩:=b2z I.mod.kin M.obj
 have hp:=ha cpos pins s σ H _ I h
 rw[he]at hp
 have pl:(backTo cpos (starEach (e₀::k8) X.env)).any (·.1)=false:=by rw[he];show(false || (backTo cpos (starEach k8 X.env)).any (·.1))=false;rw[hplain];rfl
 rw[arm_exec_Raise]
 simp only[evalOpt,Option.map]
 refine wpAny_bind (wpAny_standAt (W.raise_madeI (C:=C) (nm:=nm) (q:=qn) (N:=N) (bs:=bs) (bm:=tl) (hdct:=hdct) (sn:=sn) (sub:=sub) (ab:=ab) (col:=col) (dd:=dd) (k0:=k0) (k1:=k1) (k2:=k2) (k3:=k3) (k5:=k5) (newId := "ValueError.__new__") (T.hasType PySem.F.excBase_ValueError.hasBase) (I.ok.hd hc) ?_))
 refine wpAny_bind (wpAny_mono (wpAny_Call_ofName (wpAny_mono (Q8 I hg hm (Q:=fun f s1=>f=.ref C∧s1=s) ⟨rfl,rfl⟩ hd) (fun f s1 h1=>?_) fun _ _ x=>x)) (fun v s3 h3=>wpAny_bind (wpAny_standAt (wpAny_pure h3))) fun _ _ x=>x)
 obtain⟨rfl,rfl⟩:=h1
 unfold callWith
 refine wpAny_bind (wpAny_holding (wpAny_mono (Q:=fun us s2=>∃v H2,us.kw=[]∧Inv X pins σ H2 s2∧Vals [v] us.pos∧∀dx,H2 dx=none→E (.ref C) (some (2*dx+1)) (upd H2 dx (.xd [(f,v)]))) ?_ (fun us s2 h2=>wpAny_bind (wpAny_standAt ?_)) fun _ _ x=>x))
 ·rw[he]
  exact Calls.evalArgs_plain (l3 hp fun us s2 ⟨vs,H2,I2,rv,v,ev,hE⟩=>⟨v,H2,rfl,I2,by rw[← ev];exact rv,hE⟩)
 obtain⟨upos,ukw⟩:=us
 obtain⟨v,H2,ekw,I2,rv,hE⟩:=h2
 obtain rfl:ukw=[]:=ekw
 have C2:=I2.bk _ _ hC
 have T2:=T.keeps I2.bk
 have hlen:upos.length≤sizeLine:=by rw[← rv.length,sizeLine_eq];show 1≤_;omega
 have K2:=I2.kIn
 obtain⟨hp2,g2,d2,tk2,os2⟩:=s2
 simp only[pl]
 refine wpAny_bind (wpAny_keeperOf_exc C2 ?_)
 refine wpAny_bind (W.call_excI (K:=X.K) K2 PySem.F.excBase_ValueError T2 C2 M.init M.fn (fun h' e m me=>?_) hlen)
 obtain⟨tu,ht,_,_⟩:=m.there
 have fe:H2 e=none:=I2.hok.fresh me
 have I3:Inv X pins σ (upd H2 e (Q0 e C none)) ⟨h',g2,d2,tk2,os2⟩:=I2.laid (a:=e) (t':=tk2) m.keeps me (a9e ht rfl rfl rfl)
 have sp3:a6k C f [.ref e,v] (upd H2 e (Q0 e C none)) (fun r H'=>r=.non∧∃dx,H2 dx=none∧dx≠e∧H'=upd (upd (upd H2 e (Q0 e C none)) e (Q0 e C (some dx))) dx (.xd [(f,v)])) E :=
  ⟨e,v,rfl,i8,fun dx n1 n2=>⟨rfl,dx,by rw[g8 n2]at n1;exact n1,n2,rfl⟩⟩
 have r3:Vals [V.ref e,v] (Value.ref e::upos):=.cons rfl rv
 have hl:(Value.ref e::upos++[]).length=ps.length:=by
  have z:=r3.length
  rw[F.len _ _ _ _ sp3]at z
  rw[List.append_nil]
  exact z.symm
 have hb3:=hb ⟨h',g2,d2,tk2,os2⟩ (Value.ref e::upos) I3.kIn hl
 rw[List.append_nil]at hb3
 refine wpAny_call (codeAny_mono (F.run _ X.stack _ _ ⟨Value.ref e::upos,[]⟩ (Value.ref e::upos) _ _ E (hr.make C upos []) (I3.env0.make C upos []) hb3 r3 sp3) fun r s' hq'=>?_)
 cases r with
 | error e'=>exact acc.passes pins σ _ _ e' s' I3 hq'
 | ok fl =>
  cases fl with
  | next=>exact False.elim hq'
  | brk=>exact False.elim hq'
  | cont=>exact False.elim hq'
  | ret u =>
   obtain⟨v0,H',I4,rv0,ev,dx,n1,n2,eH⟩:=I3.after hq'
   subst ev
   refine⟨rv0,wpAny_bind (wpAny_holding (wpAny_point (wpAny_pure ?_)))⟩
   have He:H' e=some (Q0 e C (some dx)):=by rw[eH,g8 (Ne.symm n2),i8]
   have I5:=I4.untrack He
   have eD:a2A H' e=upd H2 dx (.xd [(f,v)]):=by
    funext b
    unfold a2A
    by_cases z:b=e
    ·rw[if_pos z,z,g8 (Ne.symm n2)];exact fe.symm
    ·rw[if_neg z,eH]
     by_cases z2:b=dx
     ·rw[z2,i8,i8]
     ·rw[g8 z2,g8 z2,g8 z,g8 z]
   rw[eD]at I5
   obtain⟨⟨oe,tu',ge,gc,gd,gf⟩,_⟩:=(show ObjOk X.prog X.w H' s'.heap e (Q0 e C (some dx))from I4.hok e _ He)
   refine⟨e,oe,rfl,I4.bk _ _ hC,ge,gc,⟨tu',gf⟩,?_⟩
   have odd:¬(2*dx+1)%2=0:=by
    show ¬(2*dx+1:Nat)%2=0
    rw[Nat.mul_add_mod];decide
   refine acc pins σ _ s' e (.ref C) (some (2*dx+1)) (W.hideAll s'.heap (e::E8 X.stack)) .new I5 ⟨by rw[g8 (Ne.symm n2)];exact fe,fun b o q=>W.of_hideAll _ q,W.hideAll_none _ List.mem_cons_self,W.funFrames_hide I5.stack fun env he b hb=>List.mem_cons_of_mem _ (List.mem_filterMap.mpr ⟨env,he,hb⟩),fun b o q i n=>?_,⟨oe,_,ge,gc,gf,rfl,?_,?_⟩⟩ (hE dx n1)
   ·refine W.hideAll_get _ q fun z=>?_
    rcases List.mem_cons.mp z with z | z
    ·subst z
     have gone:∀o',(⟨hp2,g2,d2,tk2,os2⟩:Shared).heap.get? b=some o'→False:=fun o' w=>absurd (Heap.lt_size w) (Nat.not_lt.mpr me)
     rcases i with i | ⟨hx,o',i⟩ | ⟨p,hp',w⟩
     ·exact i (by rw[g8 (Ne.symm n2)];exact fe)
     ·obtain⟨o2,w⟩:=I2.base.there b o' i hx
      exact gone _ w
     ·exact gone _ (by rw[← w];exact(I2.pin p hp').1)
    ·exact n z
   ·show some Value.none=some (if(2*dx+1)%2=0 then _ else Value.none)
    rw[if_neg odd]
   ·show oe.dict=(if(2*dx+1)%2=0 then none else some ((2*dx+1)/2))
    rw[if_neg odd,gd]
    congr 1
    show dx=(2*dx+1:Nat)/2
    rw[Nat.mul_add_div (by decide)]
    simp
end
end L2
namespace PySem.W
open PySem PySem.Spec PySem.Calls PyProof.Rows
section
variable {prog:Program}{w:World}{A:Around}{E:Value→Shared→Prop}{h:Heap}{g:Array GenState}{d:Drawn}{t:Nat}{os:OsState}{K:Frag}{x C:Addr}{o od:Obj}{f:Str}{v:Value}
theorem a7J{tk:Tok}{Q:Fin→Shared→Prop}(X:K.In h)(I:InstAt h x o C (some od))(hf:findObj K C (some od) f=some (.value v))(q:Q (.done (.ret v)) ⟨h,g,d,t,os⟩) :
  wpAny (model prog w) A (Builtin.«object.__getattribute__» ⟨[.ref x,.str f tk],[]⟩) Q E ⟨h,g,d,t,os⟩:=by
 have L0:=I.type (M:=model prog w)
 have L1:=looks_find (M:=model prog w) X I hf
 refine wpAny_bind (wpAny_pure (wpAny_bind (wpAny_pure (wpAny_bind (L0.at (wpAny_bind (L1.at ?_)))))))
 exact wpAny_pure q
theorem exc_at_by{tk:Tok}{b b2:Bool}{Q:Value→Shared→Prop}(X:K.In h)(T:ExcT K C)(I:InstAt h x o C (some od))(hf:findObj K C (some od) f=some (.value v))(hh:handedIn v=true)(hq:Q v ⟨h,g,d,t,os⟩):wpAny (model prog w) A (getAttrBy (.ref x) (.str f tk) b b2) Q E ⟨h,g,d,t,os⟩:=by
 have L0:=I.type (M:=model prog w)
 have L1:=looks_findIn (M:=model prog w) X T.ga
 have L2:=looks_findIn (M:=model prog w) X T.gt
 have f3:=F.attr_ValueError.ga.bind (.ref x)
 have hx2:(Value.builtin "BaseException.__getattribute__" == Value.builtin "object.__getattribute__")=false:=by decide +kernel
 have hx1:(onTheHeap (Value.ref C) && Value.builtin "BaseException.__getattribute__" == Value.builtin "object.__getattribute__")=false:=by rw[hx2];rfl
 have hd:=handedOut_of hh
 have hx3:¬(b2 && onTheHeap (Value.builtin "BaseException.__getattribute__"))=true:=by cases b2<;>exact Bool.false_ne_true
 repeat (any_goals (first | assumption | (with_reducible refine L0.at ?_) | (with_reducible refine wpAny_bind (L0.at ?_)) | (with_reducible refine L1.at ?_) | (with_reducible refine wpAny_bind (L1.at ?_)) | (with_reducible refine L2.at ?_) | (with_reducible refine wpAny_bind (L2.at ?_)) | wp_step))
 refine codeAny_call_builtin F.attr_ValueError.ga.plain F.entry_bexc_ga (a2_ X T I.at_ I.cls (a7J X I hf ?_))
 show wpAny (model prog w) A (handedOut v) Q E _
 rw[hd]
 exact wpAny_pure hq
end
end PySem.W
namespace L2
open PySem PySem.Spec PyProof.Rows
def b5I(K:W.Frag)(ta:TE)(f:Str):TE:=fun σ H Q=>ta σ H fun x H1=>∃a C dx y,x=.ref a∧H1 a=some (D2 a (.ref C) (some (2*dx+1)))∧H1 dx=some (.xd [(f,y)])∧W.ExcT K C∧W.hasDictIn K C=true∧W.findIn K (.ref C) f=some none∧Q y H1
section
variable {X:Cx}{e:Expr}{f:Str}{pos:Pos}{ta:TE}
theorem b2A(dx:Nat):a29 (some (2*dx+1))=some dx:=by
 show(if(2*dx+1)%2=0 then none else some ((2*dx+1)/2))=some dx
 rw[if_neg (by rw[Nat.mul_add_mod];decide),Nat.mul_add_div (by decide)]
 simp
theorem a7K(he:PE X e ta)(hb:attributeBase e f X.env (eval e X.env)=eval e X.env):PE X (.Attribute e f pos) (b5I X.K ta f):=by
 intro pins s σ H Q I h
 refine b3S hb (l3 (he pins s σ H _ I h) fun u s1 ⟨x,H1,I1,rx,a,C,dx,y,ex,ea,ed,T,hh,hn,q⟩=>?_)
 subst ex
 obtain rfl:u=Value.ref a:=rx
 obtain⟨⟨o,vs,hx,hc,hdt,_,hdi⟩,_⟩:=(show ObjOk X.prog X.w H1 s1.heap a (D2 a (.ref C) (some (2*dx+1)))from I1.hok a _ ea)
 obtain⟨mA,hns,r⟩:=(show ObjOk X.prog X.w H1 s1.heap dx (.xd [(f,y)])from I1.hok dx _ ed)
 rw[b2A]at hdi
 obtain⟨u,hu,ru⟩:=RelO.some_of (v:=y) (o:=mA f) (by have:=r f;rw[List.lookup_cons,beq_self_eq_true]at this;exact this)
 obtain⟨od,god,hl⟩:=a6G hns
 have J:W.InstAt s1.heap a o C (some od):=⟨hx,hc,by unfold W.notCls;rw[hdt],by rw[hdi];exact god⟩
 have K1:=I1.kIn
 obtain⟨hp,g,d,t,os⟩:=s1
 unfold getAttr
 refine wpAny_bind (wpAny_mkText ?_)
 refine W.exc_at_by K1 T J (W.findObj_own hh hn rfl (by rw[hl,hu])) (b0G ru) ?_
 exact⟨y,H1,I1.tok _,ru,q⟩
end
open PySem.W
theorem a6R:Manifest.owners.lookup (String.ofList ['d','e','s','r','e','v','e','r'].reverse)=some Manifest.sig_reversed:=by kernel_rfl
theorem K6:Slot "reversed" "__next__" "reversed.__next__" :=
 .of (owner := "reversed") (n := "__next__") (by rw[typeLookup_type,builtinLookup_eq_fast];kernel_rfl) (by decide +kernel) (by decide +kernel) (by decide +kernel)
  (by first | exact .inl (by decide +kernel) | exact .inr (by decide +kernel)) (by rw[isSubtype_type];kernel_rfl)
theorem a1s:entryFor table "reversed.__next__" = some Builtin.«reversed.__next__» := entryFor_of_tree (by kernel_rfl)
theorem a04(a:Value):argsOk "reversed.__next__" ⟨[a],[]⟩:=by
 unfold argsOk;rw[signature?_of (id := "reversed.__next__") (n:=['_','_','t','x','e','n','_','_']) (o:=['d','e','s','r','e','v','e','r']) (by kernel_rfl) a6R];kernel_rfl
theorem a2W:Slot "reversed" "__iter__" "reversed.__iter__" :=
 .of (owner := "reversed") (n := "__iter__") (by rw[typeLookup_type,builtinLookup_eq_fast];kernel_rfl) (by decide +kernel) (by decide +kernel) (by decide +kernel)
  (by first | exact .inl (by decide +kernel) | exact .inr (by decide +kernel)) (by rw[isSubtype_type];kernel_rfl)
theorem a5m(a:Value):argsOk "reversed.__iter__" ⟨[a],[]⟩:=by
 unfold argsOk;rw[signature?_of (id := "reversed.__iter__") (n:=['_','_','r','e','t','i','_','_']) (o:=['d','e','s','r','e','v','e','r']) (by kernel_rfl) a6R];kernel_rfl
theorem a6m:entryFor table "reversed.__iter__" = some Builtin.«dict_keyiterator.__iter__» :=
 entryFor_alias (id' := "dict_keyiterator.__iter__") (by kernel_rfl) (by first | rfl | decide +kernel | (unfold String.splitOn;simp +decide [String.splitOnAux])) (by decide +kernel) (by kernel_rfl)
theorem a8M:typeLookup (.type "tuple") "__reversed__" = pure none:=by rw[typeLookup_type,builtinLookup_eq_fast];kernel_rfl
theorem a6n:isSubtype (.type "tuple") (.type "dict")=pure false:=by rw[isSubtype_type];kernel_rfl
theorem a5n:TypeCalled "reversed" "reversed.__new__" "object.__init__" where
 notType:=by decide +kernel
 canCreate:=F.create_reversed
 mro:=⟨_,_,F.mro_reversed⟩
 made:=F.made_reversed
 plain:=F.plain_reversed_new
 sub:=F.sub_reversed_self
 init:=.of (owner := "object") (n := "__init__") (by rw[typeLookup_type,builtinLookup_eq_fast];kernel_rfl) (by decide +kernel) (by decide +kernel) (by decide +kernel)
  (by first | exact .inl (by decide +kernel) | exact .inr (by decide +kernel)) (by rw[isSubtype_type];kernel_rfl)
def a3f(t:Addr)(i:Int):Obj:={ cls:=.type "reversed",data:=.fields #[.ref t,rawInt i] }
def IsRvo(h:Heap)(a t:Addr)(i:Int):Prop:=∃o,h.get? a=some o∧o.cls=.type "reversed"∧o.data=.fields #[.ref t,rawInt i]
theorem IsRvo.typeIs{s:Shared}{a l:Addr}{i:Int}(x:IsRvo s.heap a l i):s.TypeIs (.ref a) "reversed" := let ⟨o,ho,hc,_⟩:=x; ⟨o,ho,hc⟩
theorem IsRvo.at{h h':Heap}{a l:Addr}{i:Int}(x:IsRvo h a l i)(e:∀o,h.get? a=some o→h'.get? a=some o):IsRvo h' a l i:=let ⟨o,ho,r⟩:=x; ⟨o,e _ ho,r⟩
theorem a2Y(t:Addr)(items:Array Value)(hfit:(items.size:Int)<2 ^ 63) :
  Meets (Builtin.«reversed.__new__» ⟨[.type "reversed",.ref t],[]⟩) (fun _ R s=>IsTup s.heap t items ∧
   R (.ok (.ret (.ref s.heap.objs.size))) { s with heap:=s.heap.push (a3f t ((items.size:Int)-1)),toks:=s.toks+1+1 }) :=
 .of_wp fun prog w A R s h=>by
  obtain⟨ht,h⟩:=h
  unfold Builtin.«reversed.__new__»
  refine wpAny_bind (wpAny_of_eq (newClass_reversed _) ?_)
  try dsimp only
  refine wpAny_bind (wpAny_of_eq (a:=()) (by first | rfl | kernel_rfl) ?_)
  refine wpAny_bind (wpAny_of_eq (a:=()) (by first | rfl | kernel_rfl) ?_)
  try dsimp only
  refine wpAny_bind (wpAny_specialOf ht.typeIs a8M ?_)
  try dsimp only
  refine wpAny_bind ?_
  show wpAny _ _ (isInstance (.ref t) (.type "dict") >>= _) _ _ _
  refine wpAny_bind (wpAny_isInstance ht.typeIs a6n ?_)
  show wpAny _ _ (specialOf (.ref t) "__getitem__" >>= _) _ _ _
  refine wpAny_bind (wpAny_specialOf ht.typeIs slot_tuple_getitem.lookup ?_)
  dsimp only
  rw[if_pos (by decide)]
  refine wpAny_pure ?_
  show wpAny _ _ (call (.builtin "len") [.ref t] >>= _) _ _ _
  refine wpAny_bind (len_tuple ht hfit ?_)
  refine wpAny_bind (m:=asInt? (.int items.size (s.toks+1))) (wpAny_pure ?_)
  dsimp only
  refine wpAny_bind (m:=Builtin.SmallTypes.newRecord (.type "reversed") [.ref t,rawInt ((items.size:Int)-1)]) ?_
  show wpAny _ _ (newObj (.type "reversed") (.fields #[.ref t,rawInt ((items.size:Int)-1)])) _ _ _
  exact wpAny_newObj_type (wpAny_pure ⟨_,rfl,h⟩)
theorem a2Z{prog:Program}{w:World}{A:Around}{E:Value→Shared→Prop}{s:Shared}{t:Addr}{items:Array Value}{Q:Value→Shared→Prop}(ht:IsTup s.heap t items)(hfit:(items.size:Int)<2 ^ 63)
  (h:Q (.ref s.heap.objs.size) { s with heap:=s.heap.push (a3f t ((items.size:Int)-1)),toks:=s.toks+1+1 }):wpAny (model prog w) A (call (.type "reversed") [.ref t]) Q E s :=
 callType_new a5n (by decide) (F.typeCall_reversed_1 _) (F.newCall_reversed_1 _) (fun obj=>F.args_object_init_2 obj _) F.entry_reversed_new
  (a2Y t items hfit) ⟨ht,⟨⟨_,Heap.get?_push_size _ rfl,rfl⟩,h⟩⟩
section
variable {prog:Program}{w:World}{A:Around}{E:Value→Shared→Prop}{s:Shared}
theorem a7c{it t:Addr}{i:Nat}{items:Array Value}{x:Value}{Q:Option Value→Shared→Prop}(hit:IsRvo s.heap it t (i:Int))(ht:IsTup s.heap t items)(hx:items[i]? = some x)(hf:items.size<2 ^ 62)
  (hQ:∀h' tk,IsRvo h' it t ((i:Int)-1)→Heap.SameBut it s.heap h'→Q (some x) { s with heap:=h',toks:=tk }):wpAny (model prog w) A (pyNext (.ref it)) Q E s:=by
 obtain⟨o,ho,hc,hd⟩:=id hit
 have hi:i<items.size:=by
  rcases Nat.lt_or_ge i items.size with h | h
  ·exact h
  ·rw[Array.getElem?_eq_none h]at hx;cases hx
 unfold pyNext
 refine wpAny_bind (wpAny_attempt (wpAny_callSpecial?_slot (name:=Str.ofString "__next__") hit.typeIs K6
  (wpAny_call_entry K6 hit.typeIs a1s ?_ (a04 _))))
 unfold Builtin.«reversed.__next__»
 refine wpAny_bind (wpAny_of_eq (a:=(Value.ref it,[])) rfl ?_)
 try dsimp only
 refine wpAny_bind (wpAny_field ho hd (x:=.ref t) rfl ?_)
 refine wpAny_bind (wpAny_field ho hd (x:=rawInt (i:Int)) rfl ?_)
 show wpAny _ _ (if(i:Int)<0 then _ else _) _ _ s
 rw[if_neg (by omega)]
 show wpAny _ _ (specialOf (.ref t) "__getitem__" >>= _) _ _ _
 refine wpAny_bind (wpAny_specialOf ht.typeIs slot_tuple_getitem.lookup ?_)
 show wpAny _ _ (mkInt (i:Int) >>= _) _ _ _
 refine wpAny_bind (wpAny_mkInt ?_)
 refine wpAny_bind (wpAny_attempt (getItem_tuple (s:={ s with toks:=s.toks+1 }) (j:=i) (x:=x) ht (by omega) (by omega) (seqIndex_of (by omega) (by omega)) hx ?_))
 dsimp only
 refine wpAny_bind (wpAny_field (s:={ s with toks:=s.toks+1 }) ho hd (x:=rawInt (i:Int)) rfl ?_)
 show wpAny _ _ (setField (.ref it) 1 (rawInt ((i:Int)-1)) >>= _) _ _ _
 refine wpAny_bind (wpAny_setField (s:={ s with toks:=s.toks+1 }) ho hd (by simp) ?_)
 refine wpAny_pure ⟨x,rfl,wpAny_pure (hQ _ _ ?_ (Heap.SameBut.update ..))⟩
 exact⟨_,Heap.get?_update_self _ ho (Obj.isFreed_of_fields (Obj.data_mapFields hd _)),(Obj.cls_mapFields ..).trans hc,by
  rw[Obj.data_mapFields hd];simp⟩
theorem a7L{it t:Addr}{Q:Option Value→Shared→Prop}(hh:A.handled=none)(hit:IsRvo s.heap it t (-1))
  (hQ:∀h',Heap.ExtBut it s.heap h'→Q none { s with heap:=h' }):wpAny (model prog w) A (pyNext (.ref it)) Q E s:=by
 obtain⟨o,ho,hc,hd⟩:=id hit
 unfold pyNext
 refine wpAny_bind (wpAny_attempt (wpAny_callSpecial?_slot (name:=Str.ofString "__next__") hit.typeIs K6
  (wpAny_call_entry K6 hit.typeIs a1s ?_ (a04 _))))
 unfold Builtin.«reversed.__next__»
 refine wpAny_bind (wpAny_of_eq (a:=(Value.ref it,[])) rfl ?_)
 try dsimp only
 refine wpAny_bind (wpAny_field ho hd (x:=.ref t) rfl ?_)
 refine wpAny_bind (wpAny_field ho hd (x:=rawInt (-1)) rfl ?_)
 show wpAny _ _ (if(-1:Int)<0 then _ else _) _ _ s
 rw[if_pos (by decide)]
 refine wpAny_bind (wpAny_rule ?_)
 refine wpAny_bind ?_
 show wpAny _ _ (setField (.ref it) 1 (rawInt (-1)) >>= _) _ _ _
 refine wpAny_bind (wpAny_setField ho hd (by simp) ?_)
 have g1:=Heap.get?_update_self (Obj.mapFields fun x=>x.setIfInBounds 1 (rawInt (-1))) ho (Obj.isFreed_of_fields (Obj.data_mapFields hd _))
 refine wpAny_setField (s:={ s with heap:=_ }) g1 (Obj.data_mapFields hd _) (by simp) ?_
 refine wpAny_bind ?_
 show wpAny _ _ (newExc (.type "StopIteration") [] >>= _) _ _ _
 refine wpAny_bind ?_
 simp only[newExc,newTuple]
 refine wpAny_bind (wpAny_newObj_type ?_ (by size_fits))
 refine wpAny_bind (m:=firstArgMember _ _) (wpAny_of_eq (a:=Value.none) (by first | rfl | (simp only[firstArgMember];rfl)) ?_)
 refine wpAny_newObj_type ?_ (by size_fits)
 simp only[raiseNew]
 refine wpAny_bind (wpAny_handled ?_)
 first | rw[show A.in1.handled=none from hh] | rw[hh]
 refine wpAny_bind (wpAny_pure (wpAny_throw ?_))
 refine wpAny_bind (wpAny_isInstance (T := "StopIteration") (b:=true) ⟨_,Heap.get?_push_size _ rfl,rfl⟩ isSubtype_stop ?_)
 have x2:Heap.ExtBut it s.heap ((s.heap.update it (Obj.mapFields fun x=>x.setIfInBounds 1 (rawInt (-1)))).update it (Obj.mapFields fun x=>x.setIfInBounds 0 Value.none)):=fun b o hb hg=>(Heap.SameBut.update _ it _).extBut b o hb ((Heap.SameBut.update s.heap it _).extBut b o hb hg)
 exact wpAny_pure (hQ _ ((x2.push _).push _))
theorem a7M{it t:Addr}{i:Int}{Q:Value→Shared→Prop}(hit:IsRvo s.heap it t i)(h:Q (.ref it) s):wpAny (model prog w) A (pyIter (.ref it)) Q E s:=by
 refine wpAny_pyIter_slot hit.typeIs a2W (wpAny_call_entry a2W hit.typeIs a6m ?_ (a5m _))
 show wpAny _ _ (ret (.ref it)) _ _ s
 exact wpAny_pure ⟨_,rfl,"reversed",_,hit.typeIs,K6.lookup,h⟩
end
def Itw(K:W.Frag)(a:Addr)(n:Nat):It :=
 ⟨fun i H=>i<n∧∃xs,SqT K H a xs∧xs.length=n,fun i H x H'=>H'=H∧∀xs,SqT K H a xs→xs[n-1-i]? = some x,fun i H=>n≤i∧∃xs,SqT K H a xs∧xs.length=n⟩
theorem b2B{P:Program}{w:World}{K:W.Frag}{tg:Expr}(a it:Addr)(n:Nat)(hne:a≠it):Turn P w K tg (Itw K a n) [it] it (fun i h=>i≤n∧IsRvo h it a ((n:Int)-1-(i:Int))) where
 mem:=by simp
 obj:=fun i h ⟨_,o,e1,c,d⟩ b hb=>by
  have q:b=it:=by simpa using hb
  subst q
  exact⟨o,e1,fun v z=>by rw[d]at z;cases z⟩
 keep:=fun i h h' ⟨l,st⟩ k=>⟨l,st.at fun o q=>k it (by simp) o q⟩
 item:=by
  intro X hP hw hK hc i pins s σ H E I hf hst hg
  subst hP hw hK
  obtain⟨f0,f1,f2,f3,f4,f5⟩:=hf it (by simp)
  obtain⟨hi,xs,hq,hn⟩:=hg
  obtain⟨its,rv,p,hz⟩:=I.tuple hq
  have hl:=rv.length
  have hn63:=a25
  have hsl:sizeLine=2 ^ 24:=rfl
  have hj:n-1-i<xs.length:=by omega
  obtain⟨u,hu,ru⟩:=rv.get (List.getElem?_eq_getElem hj)
  have e:(n:Int)-1-(i:Int)=((n-1-i:Nat):Int):=by omega
  have hit:=hst.2
  rw[e]at hit
  refine a7c hit p (x:=u) (by simpa using hu) (by rw[List.size_toArray];omega) fun h' tk st' sb=>?_
  have I1:Inv X pins σ H { s with heap:=h',toks:=tk }:=I.turned (fun b o hb e=>(sb.2 b hb).trans e) f0 f1 f3 f4 f5
  have e2:((n-1-i:Nat):Int)-1=(n:Int)-1-((i+1:Nat):Int):=by omega
  rw[e2]at st'
  obtain⟨o,eo,ec,ed⟩:=st'
  exact⟨_,rfl,a30 (s:={ s with heap:=h',toks:=tk }) (n := "reversed") eo ec ed (by decide) ⟨xs[n-1-i],H,I1,ru,⟨rfl,fun ys hy=>by rw[I.tuple_inj hy hq];exact List.getElem?_eq_getElem hj⟩,⟨by omega,⟨o,eo,ec,ed⟩⟩,fun b hb=>(hf b hb).1⟩⟩
 done:=by
  intro X hP hw hK hc i pins s σ H E I hf hst hg
  subst hP hw hK
  obtain⟨f0,f1,f2,f3,f4,f5⟩:=hf it (by simp)
  obtain⟨hi,xs,hq,hn⟩:=hg
  have e:i=n:=by have:=hst.1;omega
  subst e
  have hit:=hst.2
  rw[show(i:Int)-1-(i:Int) = -1 by omega]at hit
  exact a7L (I.ok.hd hc) hit fun h' kp=>⟨rfl,I.turned (t':=s.toks) (fun b o hb e=>kp b o hb e) f0 f1 f3 f4 f5⟩
 self:=fun A i s Q E st h=>a7M st.2 h
def b3w(K:W.Frag)(ta:TA):TI:=fun σ H R=>ta σ H fun vs H1=>∃a xs,vs=[.ref a]∧SqT K H1 a xs∧R (Itw K a xs.length) H1
section
variable {X:Cx}{tg:Expr}
theorem b4b{l:Expr}{ta:TA}{p pos:Pos}(hg:Gl X "reversed")(hm:X.mg "reversed" = none)(ha:PA X [l] ta)(hs:starEach [l] X.env=[(false,eval l X.env)]:=by rfl) :
  PI X tg (.Call (.Name "reversed" p) [l] [] pos) (b3w X.K ta):=by
 intro pins s σ H R I h
 refine Call_ (K4 I hg hm a4w (PyProof.Rows.callWith_type1 (l3 (ha pos pins s σ H _ I h) fun us s1 ⟨vs,H1,I1,r1,q1⟩=>?_) hs rfl))
 obtain⟨a,xs,e,hq,q⟩:=q1
 subst e
 obtain⟨u,rfl,ru⟩:=r1.one
 cases (show u=Value.ref a from ru)
 obtain⟨its,rv,pl,hz⟩:=I1.tuple hq
 have la:a<s1.heap.objs.size:=by obtain⟨o,e,_⟩:=id pl;exact Heap.lt_size e
 have hlen:=rv.length
 have hn63:=a25
 have hsl:sizeLine=2 ^ 24:=rfl
 refine a2Z pl (by rw[List.size_toArray];omega) ?_
 have el:((its.toArray.size:Nat):Int)-1=(xs.length:Int)-1-((0:Nat):Int):=by simp;omega
 rw[el]
 have I2:Inv X pins σ H1 { s1 with heap:=s1.heap.push (a3f a ((xs.length:Int)-1-((0:Nat):Int))),toks:=s1.toks+1+1 }:=I1.kept (t':=s1.toks+1+1) fun b o e=>Heap.get?_push_of_some _ e
 have hit:IsRvo (s1.heap.push (a3f a ((xs.length:Int)-1-((0:Nat):Int)))) s1.heap.objs.size a ((xs.length:Int)-1-((0:Nat):Int)):=⟨_,Heap.get?_push_size _ rfl,rfl,rfl⟩
 refine a7M (s:={ s1 with heap:=s1.heap.push (a3f a ((xs.length:Int)-1-((0:Nat):Int))),toks:=s1.toks+1+1 }) hit ?_
 refine⟨s1.heap.objs.size,[s1.heap.objs.size],_,_,H1,rfl,I2,b2B a s1.heap.objs.size xs.length (Nat.ne_of_lt la),⟨Nat.zero_le _,hit⟩,fun b hb=>?_,q⟩
 have z:b=s1.heap.objs.size:=by simpa using hb
 subst z
 exact I1.fpOk (Nat.le_refl _) (I1.hok.fresh (Nat.le_refl _))
end
abbrev DK:=Sum (List y0) (List (List y0))
def dkO(ks:DK)(xs:List V):HO:=match ks with
 | .inl ks=>.dK (ks.zip xs)
 | .inr ks=>.dT (ks.zip xs)
def dkN:DK→Nat
 | .inl ks=>ks.length
 | .inr ks=>ks.length
theorem a9f{ks:DK}{xs ys:List V}:dkO ks xs≠.lst ys:=by cases ks<;>exact fun z=>nomatch z
inductive D where
 | non | bl (b:Bool) | int (i:Int) | str (x:Str) | ty (n:String) | cls (n:Str) | tup (ds:List D) | lst (ds:List D) | scr (ns:List Int) | exc (c:Str) | obj (c:Str) (ns:List Str) (ds:List D) | dic (ks:DK) (ds:List D) | exv (c f:Str) (d:D)
mutual
def Rp(K:W.Frag)(cl:Str→Addr)(F:Hp):D→V→Prop
 | .non,v=>v=.non
 | .bl b,v=>v=.bl b
 | .int i,v=>v=.int i
 | .str x,v=>v=.str x
 | .ty n,v=>v=.ty n
 | .cls n,v=>v=.ref (cl n)
 | .tup ds,v=>∃a xs,v=.ref a∧F a=some (.tup xs)∧Rps K cl F ds xs
 | .lst ds,v=>∃a xs,v=.ref a∧F a=some (.lst xs)∧Rps K cl F ds xs
 | .scr ns,v=>∃a,v=.ref a∧Scr K F a (ns.map V.int)
 | .exc c,v=>∃a cx,v=.ref a∧F a=some (D2 a (.ref (cl c)) cx)
 | .obj c ns ds,v=>∃a dx xs,v=.ref a∧F a=some (.ins (cl c) dx (ns.zip xs))∧ns.length=xs.length∧Rps K cl F ds xs
 | .dic ks ds,v=>∃a xs,v=.ref a∧F a=some (dkO ks xs)∧dkN ks=xs.length∧Rps K cl F ds xs
 | .exv c f d,v=>∃a dx y,v=.ref a∧F a=some (D2 a (.ref (cl c)) (some (2*dx+1)))∧F dx=some (.xd [(f,y)])∧Rp K cl F d y
def Rps(K:W.Frag)(cl:Str→Addr)(F:Hp):List D→List V→Prop
 | [],vs=>vs=[]
 | d::ds,vs=>∃v r,vs=v::r∧Rp K cl F d v∧Rps K cl F ds r
end
section
variable {K:W.Frag}{cl:Str→Addr}{F F' H H':Hp}
mutual
theorem Rp.mono(g:Same F F'):∀(d:D) (v:V),Rp K cl F d v→Rp K cl F' d v
 | .non,_,h=>by simpa only[Rp]using h
 | .bl _,_,h=>by simpa only[Rp]using h
 | .int _,_,h=>by simpa only[Rp]using h
 | .str _,_,h=>by simpa only[Rp]using h
 | .ty _,_,h=>by simpa only[Rp]using h
 | .cls _,_,h=>by simpa only[Rp]using h
 | .tup ds,v,h=>by
  simp only[Rp]at h ⊢
  obtain⟨a,xs,e,h1,h2⟩:=h
  exact⟨a,xs,e,g _ _ h1,Rps.mono g ds xs h2⟩
 | .lst ds,v,h=>by
  simp only[Rp]at h ⊢
  obtain⟨a,xs,e,h1,h2⟩:=h
  exact⟨a,xs,e,g _ _ h1,Rps.mono g ds xs h2⟩
 | .scr ns,v,h=>by
  simp only[Rp]at h ⊢
  obtain⟨a,e,h1⟩:=h
  exact⟨a,e,h1.same g⟩
 | .exc c,v,h=>by
  simp only[Rp]at h ⊢
  obtain⟨a,cx,e,h1⟩:=h
  exact⟨a,cx,e,g _ _ h1⟩
 | .obj c ns ds,v,h=>by
  simp only[Rp]at h ⊢
  obtain⟨a,dx,xs,e,h1,hl,h2⟩:=h
  exact⟨a,dx,xs,e,g _ _ h1,hl,Rps.mono g ds xs h2⟩
 | .dic ks ds,v,h=>by
  simp only[Rp]at h ⊢
  obtain⟨a,xs,e,h1,hl,h2⟩:=h
  exact⟨a,xs,e,g _ _ h1,hl,Rps.mono g ds xs h2⟩
 | .exv c f d,v,h=>by
  simp only[Rp]at h ⊢
  obtain⟨a,dx,y,e,h1,h2,h3⟩:=h
  exact⟨a,dx,y,e,g _ _ h1,g _ _ h2,Rp.mono g d y h3⟩
theorem Rps.mono(g:Same F F'):∀(ds:List D) (vs:List V),Rps K cl F ds vs→Rps K cl F' ds vs
 | [],_,h=>by simpa only[Rps]using h
 | d::ds,vs,h=>by
  simp only[Rps]at h ⊢
  obtain⟨v,r,e,h1,h2⟩:=h
  exact⟨v,r,e,Rp.mono g d v h1,Rps.mono g ds r h2⟩
end
theorem Rps.nil:Rps K cl F [] []:=by simp only[Rps]
theorem Rps.cons{d:D}{v:V}{ds:List D}{vs:List V}(h:Rp K cl F d v)(t:Rps K cl F ds vs):Rps K cl F (d::ds) (v::vs):=by simp only[Rps];exact⟨v,vs,rfl,h,t⟩
theorem Rps.inv{d:D}{ds:List D}{vs:List V}(h:Rps K cl F (d::ds) vs):∃v r,vs=v::r∧Rp K cl F d v∧Rps K cl F ds r:=by simpa only[Rps]using h
theorem Rps.inv0{vs:List V}(h:Rps K cl F [] vs):vs=[]:=by simpa only[Rps]using h
theorem Rps.length:∀{ds:List D} {vs:List V},Rps K cl F ds vs→ds.length=vs.length
 | [],vs,h=>by rw[h.inv0];rfl
 | d::ds,vs,h=>by obtain⟨v,r,rfl,_,t⟩:=h.inv;simp[t.length]
theorem Rps.get:∀{ds:List D} {vs:List V} {i:Nat} {d:D},Rps K cl F ds vs→ds[i]? = some d→∃v,vs[i]? = some v∧Rp K cl F d v
 | [],_,_,_,_,e=>by simp at e
 | d::ds,vs,0,x,h,e=>by
  obtain⟨v,r,rfl,h1,_⟩:=h.inv
  simp at e;subst e
  exact⟨v,rfl,h1⟩
 | d::ds,vs,i+1,x,h,e=>by
  obtain⟨v,r,rfl,_,t⟩:=h.inv
  obtain⟨u,h1,h2⟩:=t.get (i:=i) (d:=x) (by simpa using e)
  exact⟨u,by simpa using h1,h2⟩
theorem Rps.get'{ds:List D}{vs:List V}{i:Nat}{v:V}(h:Rps K cl F ds vs)(e:vs[i]? = some v):∃d,ds[i]? = some d∧Rp K cl F d v:=by
 have hi:i<ds.length:=by
  have:=(List.getElem?_eq_some_iff.mp e).1
  rw[h.length];exact this
 obtain⟨u,h1,h2⟩:=h.get (List.getElem?_eq_getElem hi)
 rw[e]at h1;cases h1
 exact⟨_,List.getElem?_eq_getElem hi,h2⟩
theorem Rps.append:∀{ds es:List D} {vs us:List V},Rps K cl F ds vs→Rps K cl F es us→Rps K cl F (ds++es) (vs++us)
 | [],_,_,_,h,t=>by rw[h.inv0];exact t
 | d::ds,_,_,_,h,t=>by obtain⟨v,r,rfl,h1,h2⟩:=h.inv;exact .cons h1 (h2.append t)
theorem Rps.one{d:D}{v:V}(h:Rp K cl F d v):Rps K cl F [d] [v]:=.cons h .nil
theorem Rps.set{d:D}{v:V}(r:Rp K cl F d v):∀{ds:List D} {vs:List V} (i:Nat),Rps K cl F ds vs→Rps K cl F (ds.set i d) (vs.set i v)
 | [],_,_,h=>by rw[h.inv0];exact .nil
 | _::_,_,0,h=>by obtain⟨_,_,rfl,_,h2⟩:=h.inv;exact .cons r h2
 | _::_,_,i+1,h=>by obtain⟨_,_,rfl,h1,h2⟩:=h.inv;exact .cons h1 (h2.set r i)
theorem Rps.drop:∀{ds:List D} {vs:List V} (n:Nat),Rps K cl F ds vs→Rps K cl F (ds.drop n) (vs.drop n)
 | _,_,0,h=>h
 | [],_,_+1,h=>by rw[h.inv0];exact .nil
 | _::_,_,n+1,h=>by obtain⟨_,_,rfl,_,h2⟩:=h.inv;exact h2.drop n
theorem Rps.take:∀{ds:List D} {vs:List V} (n:Nat),Rps K cl F ds vs→Rps K cl F (ds.take n) (vs.take n)
 | _,_,0,h=>.nil
 | [],_,_+1,h=>by rw[h.inv0];exact .nil
 | _::_,_,n+1,h=>by obtain⟨_,_,rfl,h1,h2⟩:=h.inv;exact .cons h1 (h2.take n)
theorem Rps.ints:∀{ns:List Int} {vs:List V},Rps K cl F (ns.map D.int) vs→vs=ns.map V.int
 | [],_,h=>h.inv0
 | n::ns,_,h=>by
  obtain⟨v,r,rfl,h1,h2⟩:=h.inv
  rw[h2.ints]
  simp only[Rp]at h1
  rw[h1];rfl
theorem Rps.ofInts:∀{ns:List Int},Rps K cl F (ns.map D.int) (ns.map V.int)
 | []=>.nil
 | _::_=>.cons (by simp only[Rp]) Rps.ofInts
theorem Rps.bls:∀{bs:List Bool} {vs:List V},Rps K cl F (bs.map D.bl) vs→vs=bs.map V.bl
 | [],_,h=>h.inv0
 | n::ns,_,h=>by
  obtain⟨v,r,rfl,h1,h2⟩:=h.inv
  rw[h2.bls]
  simp only[Rp]at h1
  rw[h1];rfl
theorem Rps.strs:∀{bs:List Str} {vs:List V},Rps K cl F (bs.map D.str) vs→vs=bs.map V.str
 | [],_,h=>h.inv0
 | n::ns,_,h=>by
  obtain⟨v,r,rfl,h1,h2⟩:=h.inv
  rw[h2.strs]
  simp only[Rp]at h1
  rw[h1];rfl
end
inductive Sl where | no | fz (d:D) | ow (ds:List D) | hd (ds:List D) | od (ks:DK) (ds:List D) | hk (ks:DK) (ds:List D)
abbrev DE:=List Sl
def Mu(env:DE)(i:Nat):Prop:=∃ds:List D,env[i]? = some (.ow ds)∨env[i]? = some (.hd ds)
def isO:Sl→Prop
 | .ow _=>True
 | .od _ _=>True
 | _=>False
def R6:Sl→DK→List D→Prop
 | .od ks ds,ks',ds'=>ks=ks'∧ds=ds'
 | .hk ks ds,ks',ds'=>ks=ks'∧ds=ds'
 | _,_,_=>False
def Ow(σ:St)(env:DE)(a:Addr):Prop:=∃(i:Nat) (s:Sl),isO s∧env[i]? = some s∧σ[i]? = some (some (V.ref a))
structure RelOd(K:W.Frag)(cl:Str→Addr)(σ:St)(H F:Hp)(env:DE):Prop where
 at_:∀(i:Nat) (s:Sl) (ks:DK) (ds:List D),env[i]? = some s→R6 s ks ds→∃a xs,σ[i]? = some (some (.ref a))∧H a=some (dkO ks xs)∧F a=none∧dkN ks=xs.length∧Rps K cl F ds xs
 inj:∀(i j:Nat) (s t:Sl) (ks ls:DK) (ds es:List D) (a:Addr),env[i]? = some s→R6 s ks ds→env[j]? = some t→R6 t ls es→σ[i]? = some (some (.ref a))→σ[j]? = some (some (.ref a))→i=j
structure Rel(K:W.Frag)(cl:Str→Addr)(σ:St)(H F:Hp)(env:DE):Prop where
 sub:Same F H
 len:σ.length=env.length
 fz:∀(i:Nat) (d:D),env[i]? = some (.fz d)→∃v,σ[i]? = some (some v)∧Rp K cl F d v
 mu:∀(i:Nat) (ds:List D),(env[i]? = some (.ow ds)∨env[i]? = some (.hd ds))→∃a xs,σ[i]? = some (some (.ref a))∧H a=some (.lst xs)∧F a=none∧Rps K cl F ds xs
 inj:∀(i j:Nat) (a:Addr),Mu env i→Mu env j→σ[i]? = some (some (.ref a))→σ[j]? = some (some (.ref a))→i=j
 od:RelOd K cl σ H F env
structure Frm(σ:St)(H F:Hp)(env:DE)(σ':St)(H' F':Hp)(env':DE):Prop where
 fz:Same F F'
 hid:∀a o,H a=some o→F a=none→¬Ow σ env a→H' a=some o∧F' a=none∧¬Ow σ' env' a
 keep:∀(i:Nat) (ds:List D),env[i]? = some (.hd ds)→env'[i]? = some (.hd ds)∧σ'[i]? = σ[i]?
 dom:∀a,H' a=none→H a=none
structure Gr(H F H' F':Hp):Prop where
 fz:Same F F'
 sub:Same F' H'
 hid:∀a o,H a=some o→F a=none→H' a=some o∧F' a=none
section
variable {K:W.Frag}{cl:Str→Addr}{σ σ' σ'':St}{H H' H'' F F' F'':Hp}{env env' env'':DE}
theorem RelOd.to(R:RelOd K cl σ H F env)(he:∀(i:Nat) (s:Sl) (ks:DK) (ds:List D),env'[i]? = some s→R6 s ks ds→∃t,env[i]? = some t∧R6 t ks ds∧σ'[i]? = σ[i]?)
  (hh:∀(i:Nat) (a:Addr) (ks:DK) (xs:List V),σ[i]? = some (some (.ref a))→H a=some (dkO ks xs)→F a=none→H' a=some (dkO ks xs)∧F' a=none) (sF:Same F F'):RelOd K cl σ' H' F' env' :=
 ⟨fun i s ks ds h d=>by
  obtain⟨t,h1,d1,e1⟩:=he i s ks ds h d
  obtain⟨a,xs,e,hH,hF,hn,r⟩:=R.at_ i t ks ds h1 d1
  obtain⟨h2,f2⟩:=hh i a ks xs e hH hF
  exact⟨a,xs,by rw[e1];exact e,h2,f2,hn,r.mono sF⟩,
  fun i j s t ks ls ds es a hi di hj dj ei ej=>by
  obtain⟨s1,h1,d1,e1⟩:=he i s ks ds hi di
  obtain⟨t1,h2,d2,e2⟩:=he j t ls es hj dj
  exact R.inj i j s1 t1 ks ls ds es a h1 d1 h2 d2 (by rw[← e1];exact ei) (by rw[← e2];exact ej)⟩
theorem RelOd.gr(R:RelOd K cl σ H F env)(g:Gr H F H' F'):RelOd K cl σ H' F' env:=R.to (fun i s ks ds h d=>⟨s,h,d,rfl⟩) (fun _ a ks xs _ h f=>g.hid a _ h f) g.fz
theorem RelOd.set{i:Nat}{s:Sl}{v:Option V}(R:RelOd K cl σ H F env)(n:∀ks ds,¬R6 s ks ds):RelOd K cl (σ.set i v) H F (env.set i s) :=
 R.to (fun j t ks ds h d=>by
  by_cases z:j=i
  ·subst z
   have hj:j<env.length:=by have:=(List.getElem?_eq_some_iff.mp h).1;rwa [List.length_set]at this
   rw[List.getElem?_set_self hj]at h;cases h;exact absurd d (n ks ds)
  ·rw[List.getElem?_set_ne (Ne.symm z)]at h
   exact⟨t,h,d,List.getElem?_set_ne (Ne.symm z)⟩) (fun _ a ks xs _ h f=>⟨h,f⟩) (Same.refl _)
theorem RelOd.setE{i:Nat}{s:Sl}(R:RelOd K cl σ H F env)(n:∀ks ds,¬R6 s ks ds):RelOd K cl σ H F (env.set i s) :=
 R.to (fun j t ks ds h d=>by
  by_cases z:j=i
  ·subst z
   have hj:j<env.length:=by have:=(List.getElem?_eq_some_iff.mp h).1;rwa [List.length_set]at this
   rw[List.getElem?_set_self hj]at h;cases h;exact absurd d (n ks ds)
  ·rw[List.getElem?_set_ne (Ne.symm z)]at h
   exact⟨t,h,d,rfl⟩) (fun _ a ks xs _ h f=>⟨h,f⟩) (Same.refl _)
theorem RelOd.lst(R:RelOd K cl σ H F env)(hh:∀(a:Addr) (o:HO),(∀xs,o≠.lst xs)→H a=some o→F a=none→H' a=some o∧F' a=none)(sF:Same F F'):RelOd K cl σ H' F' env :=
 R.to (fun i s ks ds h d=>⟨s,h,d,rfl⟩) (fun _ a ks xs _ h f=>hh a _ (fun _=>a9f) h f) sF
theorem RelOd.own(R:RelOd K cl σ H F env)(hh:∀(i:Nat) (s:Sl) (ks:DK) (ds:List D) (a:Addr) (xs:List V),env[i]? = some s→R6 s ks ds→σ[i]? = some (some (.ref a))→H a=some (dkO ks xs)→F a=none→H' a=some (dkO ks xs)∧F' a=none)(sF:Same F F'):RelOd K cl σ H' F' env :=
 ⟨fun i s ks ds h d=>by
  obtain⟨a,xs,e,hH,hF,hn,r⟩:=R.at_ i s ks ds h d
  obtain⟨h2,f2⟩:=hh i s ks ds a xs h d e hH hF
  exact⟨a,xs,e,h2,f2,hn,r.mono sF⟩,R.inj⟩
theorem RelOd.frzL{a:Addr}{xs:List V}{o:HO}(R:RelOd K cl σ H F env)(hH:H a=some (.lst xs))(hF:F a=none):RelOd K cl σ H (upd F a o) env :=
 R.lst (fun c u n h f=>⟨h,by rw[g8 (fun z=>by rw[z,hH]at h;exact n xs (Option.some.inj h).symm)];exact f⟩) (V5 hF _)
theorem RelOd.updL{a:Addr}{xs:List V}{o:HO}(R:RelOd K cl σ H F env)(hH:H a=some (.lst xs)):RelOd K cl σ (upd H a o) F env :=
 R.lst (fun c u n h f=>⟨by rw[g8 (fun z=>by rw[z,hH]at h;exact n xs (Option.some.inj h).symm)];exact h,f⟩) (Same.refl _)
theorem RelOd.newO{a:Addr}{o:HO}(R:RelOd K cl σ H F env)(hH:H a=none):RelOd K cl σ (upd H a o) F env :=
 R.lst (fun c u n h f=>⟨by rw[g8 (fun z=>by rw[z,hH]at h;cases h)];exact h,f⟩) (Same.refl _)
theorem RelOd.none(n:∀(i:Nat) (s:Sl) ks ds,env[i]? = some s→¬R6 s ks ds):RelOd K cl σ H F env:=⟨fun i s ks ds h d=>absurd d (n i s ks ds h),fun i j s t ks ls ds es a h d=>absurd d (n i s ks ds h)⟩
theorem a5o{d:D}:∀ks ds,¬R6 (.fz d) ks ds:=fun _ _ h=>h
theorem a2B{d:List D}:∀ks ds,¬R6 (.ow d) ks ds:=fun _ _ h=>h
theorem a5p{d:List D}:∀ks ds,¬R6 (.hd d) ks ds:=fun _ _ h=>h
theorem a98:∀ks ds,¬R6 .no ks ds:=fun _ _ h=>h
theorem Frm.refl:Frm σ H F env σ H F env:=⟨Same.refl _,fun _ _ h f o=>⟨h,f,o⟩,fun _ _ h=>⟨h,rfl⟩,fun _ h=>h⟩
theorem Frm.trans(a:Frm σ H F env σ' H' F' env')(b:Frm σ' H' F' env' σ'' H'' F'' env''):Frm σ H F env σ'' H'' F'' env'' :=
 ⟨a.fz.trans b.fz,fun x o h f w=>by obtain⟨h1,f1,w1⟩:=a.hid x o h f w;exact b.hid x o h1 f1 w1,
  fun i ds h=>by obtain⟨h1,e1⟩:=a.keep i ds h;obtain⟨h2,e2⟩:=b.keep i ds h1;exact⟨h2,e2.trans e1⟩,fun x h=>a.dom x (b.dom x h)⟩
theorem Gr.dom(g:Gr H F H' F')(a:Addr)(h:H' a=none):H a=none:=by
 cases e:H a with
 | none=>rfl
 | some o =>
  cases f:F a with
  | none=>rw[(g.hid a o e f).1]at h;cases h
  | some u=>rw[g.sub _ _ (g.fz _ _ f)]at h;cases h
theorem Rel.gr(R:Rel K cl σ H F env)(g:Gr H F H' F'):Rel K cl σ H' F' env :=
 ⟨g.sub,R.len,fun i d h=>by obtain⟨v,e,r⟩:=R.fz i d h;exact⟨v,e,r.mono g.fz⟩,
  fun i ds h=>by obtain⟨a,xs,e,hH,hF,r⟩:=R.mu i ds h;obtain⟨h1,f1⟩:=g.hid a _ hH hF;exact⟨a,xs,e,h1,f1,r.mono g.fz⟩,R.inj,R.od.gr g⟩
theorem Rel.frm(R:Rel K cl σ H F env)(g:Gr H F H' F'):Frm σ H F env σ H' F' env :=
 ⟨g.fz,fun a o h f w=>by obtain⟨h1,f1⟩:=g.hid a o h f;exact⟨h1,f1,w⟩,fun _ _ h=>⟨h,rfl⟩,g.dom⟩
theorem Gr.refl(s:Same F H):Gr H F H F:=⟨Same.refl _,s,fun _ _ h f=>⟨h,f⟩⟩
theorem Gr.trans(a:Gr H F H' F')(b:Gr H' F' H'' F''):Gr H F H'' F'':=⟨a.fz.trans b.fz,b.sub,fun x o h f=>by obtain⟨h1,f1⟩:=a.hid x o h f;exact b.hid x o h1 f1⟩
theorem Gr.new{p:Addr}{o:HO}(s:Same F H)(hp:H p=none):Gr H F (upd H p o) (upd F p o):=by
 have fp:F p=none:=s.free hp
 refine⟨V5 fp o,fun b u e=>?_,fun a u e f=>?_⟩
 ·by_cases z:b=p
  ·subst z;rw[i8]at e ⊢;exact e
  ·rw[g8 z]at e ⊢;exact s _ _ e
 ·have z:a≠p:=fun z=>by rw[z,hp]at e;cases e
  rw[g8 z,g8 z];exact⟨e,f⟩
theorem Rel.freeze{i:Nat}{ds:List D}(R:Rel K cl σ H F env)(h:env[i]? = some (.ow ds)):∃a F',σ[i]? = some (some (.ref a))∧Frm σ H F env σ H F' (env.set i (.fz (.lst ds)))∧Rel K cl σ H F' (env.set i (.fz (.lst ds)))∧Rp K cl F' (.lst ds) (.ref a):=by
 obtain⟨a,xs,e,hH,hF,r⟩:=R.mu i ds (.inl h)
 have hi:i<env.length:=(List.getElem?_eq_some_iff.mp h).1
 have sF:Same F (upd F a (.lst xs)):=V5 hF _
 have oth:∀j,j≠i→(env.set i (.fz (.lst ds)))[j]? = env[j]?:=fun j hj=>List.getElem?_set_ne (Ne.symm hj)
 have self:(env.set i (.fz (.lst ds)))[i]? = some (.fz (.lst ds)):=List.getElem?_set_self hi
 have mui:∀j,Mu (env.set i (.fz (.lst ds))) j→j≠i∧Mu env j:=fun j ⟨es,q⟩=>by
  by_cases z:j=i
  ·subst z;rw[self]at q;rcases q with q | q<;>cases q
  ·rw[oth j z]at q;exact⟨z,es,q⟩
 have rl:Rp K cl (upd F a (.lst xs)) (.lst ds) (.ref a):=by simp only[Rp];exact⟨a,xs,rfl,i8,r.mono sF⟩
 refine⟨a,upd F a (.lst xs),e,⟨sF,fun b o hb fb w=>?_,fun j es q=>?_,fun _ h=>h⟩,⟨fun b o q=>?_,by rw[List.length_set];exact R.len,fun j d q=>?_,fun j es q=>?_,fun j k b hj hk e1 e2=>R.inj j k b (mui j hj).2 (mui k hk).2 e1 e2,(R.od.lst (fun c u n h f=>⟨h,by rw[g8 (fun z=>by rw[z,hH]at h;exact n xs (Option.some.inj h).symm)];exact f⟩) sF).setE a5o⟩,rl⟩
 ·have z:b≠a:=fun z=>w ⟨i,.ow ds,True.intro,h,by rw[z];exact e⟩
  refine⟨hb,by rw[g8 z];exact fb,fun⟨j,es,oo,q,e1⟩=>?_⟩
  by_cases y:j=i
  ·subst y;rw[self]at q;cases q;exact oo
  ·rw[oth j y]at q;exact w ⟨j,es,oo,q,e1⟩
 ·have z:j≠i:=fun z=>by subst z;rw[h]at q;cases q
  exact⟨by rw[oth j z];exact q,rfl⟩
 ·by_cases z:b=a
  ·subst z;rw[i8]at q;cases q;exact hH
  ·rw[g8 z]at q;exact R.sub _ _ q
 ·by_cases z:j=i
  ·subst z;rw[self]at q;cases q;exact⟨_,e,rl⟩
  ·rw[oth j z]at q;obtain⟨v,e1,r1⟩:=R.fz j d q;exact⟨v,e1,r1.mono sF⟩
 ·have z:j≠i:=(mui j ⟨es,q⟩).1
  rw[oth j z]at q
  obtain⟨b,ys,e1,h1,f1,r1⟩:=R.mu j es q
  have nb:b≠a:=fun y=>z (R.inj j i b ⟨es,q⟩ ⟨ds,.inl h⟩ e1 (by rw[y];exact e))
  exact⟨b,ys,e1,h1,by rw[g8 nb];exact f1,r1.mono sF⟩
theorem Rel.put{i:Nat}{d:D}{v:V}(R:Rel K cl σ H F env)(hi:i<env.length)(nh:∀ds,env[i]?≠some (.hd ds))(r:Rp K cl F d v):Rel K cl (σ.set i (some v)) H F (env.set i (.fz d)):=by
 refine⟨R.sub,by rw[List.length_set,List.length_set];exact R.len,fun j e q=>?_,fun j es q=>?_,fun j k b hj hk e1 e2=>?_,R.od.set a5o⟩
 ·by_cases z:j=i
  ·subst z
   rw[List.getElem?_set_self hi]at q;cases q
   exact⟨v,List.getElem?_set_self (by rw[R.len];exact hi),r⟩
  ·rw[List.getElem?_set_ne (Ne.symm z)]at q
   obtain⟨u,e1,r1⟩:=R.fz j e q
   exact⟨u,by rw[List.getElem?_set_ne (Ne.symm z)];exact e1,r1⟩
 ·have z:j≠i:=fun z=>by
   subst z
   rw[List.getElem?_set_self hi]at q
   rcases q with q | q<;>cases q
  rw[List.getElem?_set_ne (Ne.symm z)]at q
  obtain⟨a,xs,e1,h1,f1,r1⟩:=R.mu j es q
  exact⟨a,xs,by rw[List.getElem?_set_ne (Ne.symm z)];exact e1,h1,f1,r1⟩
 ·have nz:∀j,Mu (env.set i (.fz d)) j→j≠i∧Mu env j:=fun j ⟨es,q⟩=>by
   by_cases z:j=i
   ·subst z
    rw[List.getElem?_set_self hi]at q
    rcases q with q | q<;>cases q
   ·rw[List.getElem?_set_ne (Ne.symm z)]at q;exact⟨z,es,q⟩
  obtain⟨zj,mj⟩:=nz j hj
  obtain⟨zk,mk⟩:=nz k hk
  rw[List.getElem?_set_ne (Ne.symm zj)]at e1
  rw[List.getElem?_set_ne (Ne.symm zk)]at e2
  exact R.inj j k b mj mk e1 e2
theorem Rel.putO{i:Nat}{ds:List D}{a:Addr}{xs:List V}(R:Rel K cl σ H F env)(hi:i<env.length)(hH:H a=some (.lst xs))(hF:F a=none)(na:∀j,Mu env j→σ[j]?≠some (some (.ref a)))(r:Rps K cl F ds xs):Rel K cl (σ.set i (some (.ref a))) H F (env.set i (.ow ds)):=by
 have his:i<σ.length:=by rw[R.len];exact hi
 have nz:∀j,j≠i→Mu (env.set i (.ow ds)) j→Mu env j:=fun j z ⟨es,q⟩=>by
  rw[List.getElem?_set_ne (Ne.symm z)]at q;exact⟨es,q⟩
 refine⟨R.sub,by rw[List.length_set,List.length_set];exact R.len,fun j e q=>?_,fun j es q=>?_,fun j k b hj hk e1 e2=>?_,R.od.set a2B⟩
 ·have z:j≠i:=fun z=>by subst z;rw[List.getElem?_set_self hi]at q;cases q
  rw[List.getElem?_set_ne (Ne.symm z)]at q
  obtain⟨u,e1,r1⟩:=R.fz j e q
  exact⟨u,by rw[List.getElem?_set_ne (Ne.symm z)];exact e1,r1⟩
 ·by_cases z:j=i
  ·subst z
   rw[List.getElem?_set_self hi]at q
   rcases q with q | q
   ·cases q;exact⟨a,xs,List.getElem?_set_self his,hH,hF,r⟩
   ·cases q
  ·rw[List.getElem?_set_ne (Ne.symm z)]at q
   obtain⟨b,ys,e1,h1,f1,r1⟩:=R.mu j es q
   exact⟨b,ys,by rw[List.getElem?_set_ne (Ne.symm z)];exact e1,h1,f1,r1⟩
 ·by_cases zj:j=i
  ·by_cases zk:k=i
   ·rw[zj,zk]
   ·subst zj
    rw[List.getElem?_set_self his]at e1
    rw[List.getElem?_set_ne (Ne.symm zk)]at e2
    cases e1
    exact absurd e2 (na k (nz k zk hk))
  ·rw[List.getElem?_set_ne (Ne.symm zj)]at e1
   by_cases zk:k=i
   ·subst zk
    rw[List.getElem?_set_self his]at e2
    cases e2
    exact absurd e1 (na j (nz j zj hj))
   ·rw[List.getElem?_set_ne (Ne.symm zk)]at e2
    exact R.inj j k b (nz j zj hj) (nz k zk hk) e1 e2
theorem Frm.put{i:Nat}{d:D}{x:Option V}(nh:∀ds,env[i]?≠some (.hd ds)):Frm σ H F env (σ.set i x) H F (env.set i (.fz d)):=by
 refine⟨Same.refl _,fun a o h f w=>⟨h,f,fun⟨j,ds,oo,q,e⟩=>?_⟩,fun j ds q=>?_,fun _ h=>h⟩
 ·by_cases z:j=i
  ·subst z
   have hj:j<env.length:=by have:=(List.getElem?_eq_some_iff.mp q).1;rwa [List.length_set]at this
   rw[List.getElem?_set_self hj]at q
   cases q;exact oo
  ·rw[List.getElem?_set_ne (Ne.symm z)]at q e
   exact w ⟨j,ds,oo,q,e⟩
 ·have z:j≠i:=fun z=>by subst z;exact nh ds q
  rw[List.getElem?_set_ne (Ne.symm z),List.getElem?_set_ne (Ne.symm z)]
  exact⟨q,rfl⟩
theorem Frm.putO{i:Nat}{s0:Sl}{a:Addr}(f:Frm σ H F env σ' H' F' env')(ha:H a=none)(nh:∀ds,env'[i]?≠some (.hd ds)):Frm σ H F env (σ'.set i (some (.ref a))) H' F' (env'.set i s0):=by
 refine⟨f.fz,fun b o h g w=>?_,fun j ds q=>?_,f.dom⟩
 ·obtain⟨h1,f1,w1⟩:=f.hid b o h g w
  refine⟨h1,f1,fun⟨j,ds,oo,q,e⟩=>?_⟩
  by_cases z:j=i
  ·subst z
   have hj:j<σ'.length:=by have:=(List.getElem?_eq_some_iff.mp e).1;rwa [List.length_set]at this
   rw[List.getElem?_set_self hj]at e
   cases e
   rw[ha]at h;cases h
  ·rw[List.getElem?_set_ne (Ne.symm z)]at q e
   exact w1 ⟨j,ds,oo,q,e⟩
 ·obtain⟨q1,e1⟩:=f.keep j ds q
  have z:j≠i:=fun z=>by subst z;exact nh ds q1
  rw[List.getElem?_set_ne (Ne.symm z),List.getElem?_set_ne (Ne.symm z)]
  exact⟨q1,e1⟩
end
inductive XN where | p (c:Str) | v (c f:Str) (d:D)
instance:Coe Str XN:=⟨.p⟩
def XN.nm:XN→Str
 | .p c=>c
 | .v c _ _=>c
def XN.d:XN→D
 | .p c=>.exc c
 | .v c f d=>.exv c f d
def Xf(K:W.Frag)(cl:Str→Addr)(F:Hp):XN→Option Addr→Prop
 | .p _,cx=>cx=none
 | .v _ f d,cx=>∃dx y,cx=some (2*dx+1)∧F dx=some (.xd [(f,y)])∧Rp K cl F d y
inductive R(α:Type) where | ok (a:α) (e:DE) | ex (c:XN)
inductive RS where | nx (e:DE) | rt (d:D) | ro (ds:List D) | rz (dss:List (List D)) | rp (n:Int) (ds:List D) | bk (e:DE) | ct (e:DE) | ex (c:XN)
def bnd{α β:Type}(x:Option (R α))(k:α→DE→Option (R β)):Option (R β):=match x with
 | none=>none
 | some (.ok a e)=>k a e
 | some (.ex c)=>some (.ex c)
def v8{α:Type}(x:Option (R α))(k:α→DE→Option RS):Option RS:=match x with
 | none=>none
 | some (.ok a e)=>k a e
 | some (.ex c)=>some (.ex c)
def R7{α:Type}(x:Option α)(e:DE):Option (R α):=match x with
 | none=>none
 | some a=>some (.ok a e)
@[simp] theorem L9{α β:Type}(a:α)(e:DE)(k:α→DE→Option (R β)):bnd (some (.ok a e)) k=k a e:=rfl
@[simp] theorem a3g{α β:Type}(c:XN)(k:α→DE→Option (R β)):bnd (some (.ex c)) k=some (.ex c):=rfl
@[simp] theorem a3h{α β:Type}(k:α→DE→Option (R β)):bnd (none:Option (R α)) k=none:=rfl
@[simp] theorem O7{α:Type}(a:α)(e:DE)(k:α→DE→Option RS):v8 (some (.ok a e)) k=k a e:=rfl
@[simp] theorem a3i{α:Type}(c:XN)(k:α→DE→Option RS):v8 (some (.ex c)) k=some (.ex c):=rfl
@[simp] theorem a3j{α:Type}(k:α→DE→Option RS):v8 (none:Option (R α)) k=none:=rfl
@[simp] theorem M0{α:Type}(a:α)(e:DE):R7 (some a) e=some (.ok a e):=rfl
@[simp] theorem M1{α:Type}(e:DE):R7 (none:Option α) e=none:=rfl
structure FX(σ:St)(H F:Hp)(env:DE)(H' F':Hp):Prop where
 fz:Same F F'
 sub:Same F' H'
 hid:∀a o,H a=some o→F a=none→¬Ow σ env a→H' a=some o∧F' a=none
 dom:∀a,H' a=none→H a=none
section
variable {K:W.Frag}{cl:Str→Addr}{E:XK}{σ σ':St}{H H' H1 F F' F1:Hp}{env env' env1:DE}{α β γ δ:Type}
theorem Frm.fx{H2 F2:Hp}(a:Frm σ H F env σ' H1 F1 env1)(b:FX σ' H1 F1 env1 H2 F2):FX σ H F env H2 F2 :=
 ⟨a.fz.trans b.fz,b.sub,fun x o h f w=>by obtain⟨h1,f1,w1⟩:=a.hid x o h f w;exact b.hid x o h1 f1 w1,fun x h=>a.dom x (b.dom x h)⟩
theorem Frm.toFX(a:Frm σ H F env σ' H1 F1 env1)(s:Same F1 H1):FX σ H F env H1 F1:=⟨a.fz,s,fun x o h f w=>by obtain⟨h1,f1,_⟩:=a.hid x o h f w;exact⟨h1,f1⟩,a.dom⟩
abbrev Py(α β:Type):=α→St→Hp→Hp→Hp→DE→β→Prop
def PM(P:Py α β):Prop:=∀a σ H0 H1 H' F' e b,(∀x:Addr,H1 x=none→H0 x=none)→P a σ H1 H' F' e b→P a σ H0 H' F' e b
def Ct(K:W.Frag)(cl:Str→Addr)(E:XK)(P:Py α β)(r:Option (R α))(σ:St)(H F:Hp)(env:DE)(Q:β→Hp→Prop):Prop:=match r with
 | none=>False
 | some (.ok a e)=>∀b H' F',Frm σ H F env σ H' F' e→Rel K cl σ H' F' e→P a σ H H' F' e b→Q b H'
 | some (.ex c)=>∀H' F',FX σ H F env H' F'→∀cx,Xf K cl F' c cx→E (.ref (cl c.nm)) cx H'
def Rz(K:W.Frag)(cl:Str→Addr)(F' H':Hp)(nw:Addr→Prop)(dss:List (List D))(as:List Addr):Prop:=as.Nodup∧as.length=dss.length∧∀(k:Nat) (a:Addr) (ds:List D),as[k]? = some a→dss[k]? = some ds→∃xs,H' a=some (.lst xs)∧F' a=none∧nw a∧Rps K cl F' ds xs
theorem Rz.imp{nw nw':Addr→Prop}{dss:List (List D)}{as:List Addr}(h:Rz K cl F' H' nw dss as)(i:∀a xs,H' a=some (.lst xs)→F' a=none→nw a→nw' a):Rz K cl F' H' nw' dss as :=
 ⟨h.1,h.2.1,fun k a ds e1 e2=>by obtain⟨xs,h1,h2,h3,h4⟩:=h.2.2 k a ds e1 e2;exact⟨xs,h1,h2,i a xs h1 h2 h3,h4⟩⟩
def Cs(K:W.Frag)(cl:Str→Addr)(E:XK)(r:Option RS)(σ:St)(H F:Hp)(env:DE)(N:Ends):Prop:=match r with
 | none=>False
 | some (.nx e)=>∀σ' H' F',Frm σ H F env σ' H' F' e→Rel K cl σ' H' F' e→N.nx σ' H'
 | some (.bk e)=>∀σ' H' F',Frm σ H F env σ' H' F' e→Rel K cl σ' H' F' e→N.bk σ' H'
 | some (.ct e)=>∀σ' H' F',Frm σ H F env σ' H' F' e→Rel K cl σ' H' F' e→N.ct σ' H'
 | some (.rt d)=>∀v H' F',FX σ H F env H' F'→Rp K cl F' d v→N.rt v H'
 | some (.ro ds)=>∀a xs H' F',FX σ H F env H' F'→H' a=some (.lst xs)→F' a=none→(∀o,H a=some o→Ow σ env a)→Rps K cl F' ds xs→N.rt (.ref a) H'
 | some (.rz dss)=>∀p as H' F',FX σ H F env H' F'→H p=none→H' p=some (.tup (as.map V.ref))→F' p=none→Rz K cl F' H' (fun a=>∀o,H a=some o→Ow σ env a) dss as→N.rt (.ref p) H'
 | some (.rp n ds)=>∀p a xs H' F',FX σ H F env H' F'→H p=none→H' p=some (.tup [.int n,.ref a])→F' p=none→H' a=some (.lst xs)→F' a=none→(∀o,H a=some o→Ow σ env a)→Rps K cl F' ds xs→N.rt (.ref p) H'
 | some (.ex c)=>∀H' F',FX σ H F env H' F'→∀cx,Xf K cl F' c cx→E (.ref (cl c.nm)) cx H'
theorem Ct.mono{P:Py α β}{r:Option (R α)}{Q Q':β→Hp→Prop}(h:Ct K cl E P r σ H F env Q)(q:∀b H',Q b H'→Q' b H'):Ct K cl E P r σ H F env Q':=by
 unfold Ct at h ⊢
 split at h
 ·exact h
 ·exact fun b H' F' f R p=>q _ _ (h b H' F' f R p)
 ·exact h
theorem Ct.from{P2:Py γ δ}{r:Option (R γ)}{Q:δ→Hp→Prop}(f:Frm σ H F env σ H1 F1 env1)(pm:PM P2)(h:Ct K cl E P2 r σ H F env Q):Ct K cl E P2 r σ H1 F1 env1 Q:=by
 unfold Ct at h ⊢
 split at h
 ·exact h
 ·exact fun b H' F' f2 R2 p2=>h b H' F' (f.trans f2) R2 (pm _ _ _ _ _ _ _ _ f.dom p2)
 ·exact fun H' F' x=>h H' F' (f.fx x)
theorem Ct.bnd{P1:Py α β}{P2:Py γ δ}{r:Option (R α)}{k:α→DE→Option (R γ)}{Q:δ→Hp→Prop}(h:Ct K cl E P2 (bnd r k) σ H F env Q)(pm:PM P2) :
  Ct K cl E P1 r σ H F env fun b H1=>∃F1 env1 a,Same F F1∧Rel K cl σ H1 F1 env1∧P1 a σ H H1 F1 env1 b∧Ct K cl E P2 (k a env1) σ H1 F1 env1 Q:=by
 unfold Ct
 rcases r with _ | ⟨a,e⟩ | c
 ·exact h
 ·intro b H1 F1 f R p
  refine⟨F1,e,a,f.fz,R,p,?_⟩
  have h:Ct K cl E P2 (k a e) σ H F env Q:=h
  exact Ct.from f pm h
 ·exact h
theorem Cs.from{r:Option RS}{N:Ends}(f:Frm σ H F env σ' H1 F1 env1)(h:Cs K cl E r σ H F env N):Cs K cl E r σ' H1 F1 env1 N:=by
 unfold Cs at h ⊢
 split at h
 ·exact h
 ·exact fun σ' H' F' f2 R2=>h σ' H' F' (f.trans f2) R2
 ·exact fun σ' H' F' f2 R2=>h σ' H' F' (f.trans f2) R2
 ·exact fun σ' H' F' f2 R2=>h σ' H' F' (f.trans f2) R2
 ·exact fun v H' F' x p=>h v H' F' (f.fx x) p
 ·refine fun a xs H' F' x ha fa nw p=>h a xs H' F' (f.fx x) ha fa (fun o e=>?_) p
  refine Classical.byContradiction fun w=>?_
  cases q:F a with
  | none =>
   obtain⟨h1,f1,w1⟩:=f.hid a o e q w
   exact w1 (nw o h1)
  | some u=>rw[x.fz _ _ (f.fz _ _ q)]at fa;cases fa
 ·refine fun p as H' F' x hp ht fp rz=>h p as H' F' (f.fx x) (f.dom p hp) ht fp (rz.imp fun a xs ha fa nw o e=>?_)
  refine Classical.byContradiction fun w=>?_
  cases q:F a with
  | none =>
   obtain⟨h1,f1,w1⟩:=f.hid a o e q w
   exact w1 (nw o h1)
  | some u=>rw[x.fz _ _ (f.fz _ _ q)]at fa;cases fa
 ·refine fun p a xs H' F' x hp ht fp ha fa nw r=>h p a xs H' F' (f.fx x) (f.dom p hp) ht fp ha fa (fun o e=>?_) r
  refine Classical.byContradiction fun w=>?_
  cases q:F a with
  | none =>
   obtain⟨h1,f1,w1⟩:=f.hid a o e q w
   exact w1 (nw o h1)
  | some u=>rw[x.fz _ _ (f.fz _ _ q)]at fa;cases fa
 ·exact fun H' F' x=>h H' F' (f.fx x)
theorem Cs.bnd{P1:Py α β}{r:Option (R α)}{k:α→DE→Option RS}{N:Ends}(h:Cs K cl E (v8 r k) σ H F env N) :
  Ct K cl E P1 r σ H F env fun b H1=>∃F1 env1 a,Frm σ H F env σ H1 F1 env1∧Rel K cl σ H1 F1 env1∧P1 a σ H H1 F1 env1 b∧Cs K cl E (k a env1) σ H F env N:=by
 unfold Ct
 rcases r with _ | ⟨a,e⟩ | c
 ·exact h
 ·intro b H1 F1 f R p
  exact⟨F1,e,a,f,R,p,h⟩
 ·exact h
end
def PZ(K:W.Frag)(cl:Str→Addr):Py D V:=fun d _ _ _ F' _ v=>Rp K cl F' d v
def PAs(K:W.Frag)(cl:Str→Addr):Py (List D) (List V):=fun ds _ _ _ F' _ vs=>Rps K cl F' ds vs
def PB:Py Bool Bool:=fun b _ _ _ _ _ c=>c=b
def PI':Py (Option Int) (Option Int):=fun b _ _ _ _ _ c=>c=b
def PN(K:W.Frag)(cl:Str→Addr):Py (List D) V:=fun ds σ H H' F' e v=>∃a xs,v=.ref a∧H a=none∧H' a=some (.lst xs)∧F' a=none∧(∀j,Mu e j→σ[j]?≠some (some (.ref a)))∧Rps K cl F' ds xs
theorem M3{K cl}:PM (PZ K cl):=fun _ _ _ _ _ _ _ _ _ h=>h
theorem b5J{K cl}:PM (PAs K cl):=fun _ _ _ _ _ _ _ _ _ h=>h
theorem a99:PM PB:=fun _ _ _ _ _ _ _ _ _ h=>h
theorem b65:PM PI':=fun _ _ _ _ _ _ _ _ _ h=>h
theorem a2C{K cl}:PM (PN K cl):=fun _ _ _ _ _ _ _ _ g ⟨a,xs,e,h,r⟩=>⟨a,xs,e,g a h,r⟩
abbrev ZF:=DE→Option (R D)
abbrev NF:=DE→Option (R (List D))
abbrev AF:=DE→Option (R (List D))
abbrev BF:=DE→Option (R Bool)
abbrev OF:=DE→Option (R (Option Int))
abbrev SF:=DE→Option RS
section
variable (K:W.Frag)(cl:Str→Addr)(E:XK)
def t5(t:TE)(f:ZF):Prop:=∀σ H Q env F,Rel K cl σ H F env→Ct K cl E (PZ K cl) (f env) σ H F env Q→t σ H Q
def RfN(t:TE)(f:NF):Prop:=∀σ H Q env F,Rel K cl σ H F env→Ct K cl E (PN K cl) (f env) σ H F env Q→t σ H Q
def T5(t:TA)(f:AF):Prop:=∀σ H Q env F,Rel K cl σ H F env→Ct K cl E (PAs K cl) (f env) σ H F env Q→t σ H Q
def R8(t:TT)(f:BF):Prop:=∀σ H Q env F,Rel K cl σ H F env→Ct K cl E PB (f env) σ H F env Q→t σ H Q
def RfO(t:TO)(f:OF):Prop:=∀σ H Q env F,Rel K cl σ H F env→Ct K cl E PI' (f env) σ H F env Q→t σ H Q
def RfS(t:TS)(f:SF):Prop:=∀(N:Ends) σ H env F,Rel K cl σ H F env→Cs K cl E (f env) σ H F env N→t N σ H
end
def eC(d:D):ZF:=fun e=>some (.ok d e)
def eV(i:Nat):ZF:=fun e=>match e[i]? with
 | some (.fz d)=>some (.ok d e)
 | some (.ow ds)=>some (.ok (.lst ds) (e.set i (.fz (.lst ds))))
 | _=>none
def look(e:DE)(i:Nat):Option D:=match e[i]? with
 | some (.fz d)=>some d
 | some (.ow ds)=>some (.lst ds)
 | some (.hd ds)=>some (.lst ds)
 | _=>none
def Rb(K:W.Frag)(cl:Str→Addr)(F H:Hp)(d:D)(v:V):Prop:=Rp K cl F d v∨∃a xs ds,v=.ref a∧d=.lst ds∧H a=some (.lst xs)∧Rps K cl F ds xs
section
variable {K:W.Frag}{cl:Str→Addr}{E:XK}{σ:St}{H F:Hp}{env:DE}
theorem Rel.look{i:Nat}{d:D}(R:Rel K cl σ H F env)(h:look env i=some d):∃v,σ[i]? = some (some v)∧Rb K cl F H d v:=by
 unfold L2.look at h
 split at h
 ·rename_i q;cases h;obtain⟨v,e,r⟩:=R.fz i d q;exact⟨v,e,.inl r⟩
 ·rename_i ds q;cases h;obtain⟨a,xs,e,hH,_,r⟩:=R.mu i ds (.inl q);exact⟨_,e,.inr ⟨a,xs,ds,rfl,rfl,hH,r⟩⟩
 ·rename_i ds q;cases h;obtain⟨a,xs,e,hH,_,r⟩:=R.mu i ds (.inr q);exact⟨_,e,.inr ⟨a,xs,ds,rfl,rfl,hH,r⟩⟩
 ·cases h
theorem g0{v:V}{d:D}(h:∀F,Rp K cl F d v:=by intro F;simp only[Rp]):t5 K cl E (tC v) (eC d):=fun σ H Q env F R h'=>h' v H F Frm.refl R (h F)
theorem d5{i:Nat}:t5 K cl E (O4 i) (eV i):=by
 intro σ H Q env F R h
 unfold eV at h
 split at h
 ·rename_i d q
  obtain⟨v,e,r⟩:=R.fz i d q
  exact⟨v,e,h v H F Frm.refl R r⟩
 ·rename_i ds q
  obtain⟨a,F',e,fr,R',r⟩:=R.freeze q
  exact⟨_,e,h _ H F' fr R' r⟩
 ·exact h.elim
end
def OpOk(K:W.Frag)(cl:Str→Addr)(r:R2)(g:D→D→Option D):Prop:=∀x y d e z H F Q,Same F H→Rb K cl F H d x→Rb K cl F H e y→g d e=some z→(∀v H' F',Gr H F H' F'→Rp K cl F' z v→Q v H')→r x y H Q
def eB(g:D→D→Option D)(f k:ZF):ZF:=fun e=>bnd (f e) fun d e1=>bnd (k e1) fun d' e2=>R7 (g d d') e2
def n9(g:D→D→Option D)(i:Nat)(k:ZF):ZF:=fun e=>match look e i with
 | none=>none
 | some _=>bnd (k e) fun d' e2=>match look e2 i with
  | some d=>R7 (g d d') e2
  | none=>none
def eBW(g:D→D→Option D)(f:ZF)(j:Nat):ZF:=fun e=>bnd (f e) fun d e2=>match look e2 j with
 | some d'=>R7 (g d d') e2
 | none=>none
def a7N(g:D→D→Option D)(i j:Nat):ZF:=fun e=>match look e i,look e j with
 | some d,some d'=>R7 (g d d') e
 | _,_=>none
section
variable {K:W.Frag}{cl:Str→Addr}{E:XK}{r:R2}{g:D→D→Option D}{ta tb:TE}{f k:ZF}{i j:Nat}
theorem OpOk.fin{σ:St}{H F:Hp}{env:DE}{x y:V}{d e:D}{Q:VK}(ok:OpOk K cl r g)(R:Rel K cl σ H F env)(hx:Rb K cl F H d x)(hy:Rb K cl F H e y)(h:Ct K cl E (PZ K cl) (R7 (g d e) env) σ H F env Q):r x y H Q:=by
 cases hz:g d e with
 | none=>rw[hz]at h;exact h.elim
 | some z =>
  rw[hz]at h
  exact ok x y d e z H F Q R.sub hx hy hz fun v H' F' gr p=>h v H' F' (R.frm gr) (R.gr gr) p
theorem d9(ok:OpOk K cl r g)(ha:t5 K cl E ta f)(hb:t5 K cl E tb k):t5 K cl E (tOp r ta tb) (eB g f k):=by
 intro σ H Q env F R h
 refine ha σ H _ env F R ((Ct.bnd h M3).mono fun x H1 ⟨F1,e1,d,s1,R1,p1,h1⟩=>?_)
 refine hb σ H1 _ e1 F1 R1 ((Ct.bnd h1 M3).mono fun y H2 ⟨F2,e2,e,s2,R2,p2,h2⟩=>?_)
 exact ok.fin R2 (.inl (Rp.mono s2 _ _ p1)) (.inl p2) h2
theorem z9(ok:OpOk K cl r g)(hb:t5 K cl E tb k):t5 K cl E (tOp r (O4 i) tb) (n9 g i k):=by
 intro σ H Q env F R h
 unfold n9 at h
 cases q:look env i with
 | none=>rw[q]at h;exact h.elim
 | some d0 =>
  rw[q]at h
  obtain⟨x,e0,_⟩:=R.look q
  refine⟨x,e0,hb σ H _ env F R ((Ct.bnd h M3).mono fun y H2 ⟨F2,e2,e,s2,R2,p2,h2⟩=>?_)⟩
  cases q2:look e2 i with
  | none=>rw[q2]at h2;exact h2.elim
  | some d =>
   rw[q2]at h2
   obtain⟨x',e',rb⟩:=R2.look q2
   rw[e0]at e';cases e'
   exact ok.fin R2 rb (.inl p2) h2
end
section
variable {K:W.Frag}{cl:Str→Addr}{E:XK}
theorem Rb.int{F H:Hp}{i:Int}{v:V}(h:Rb K cl F H (.int i) v):v=.int i:=by
 rcases h with h | ⟨_,_,_,_,z,_⟩
 ·simpa only[Rp]using h
 ·cases z
theorem Rb.bl{F H:Hp}{i:Bool}{v:V}(h:Rb K cl F H (.bl i) v):v=.bl i:=by
 rcases h with h | ⟨_,_,_,_,z,_⟩
 ·simpa only[Rp]using h
 ·cases z
theorem Rb.str{F H:Hp}{i:Str}{v:V}(h:Rb K cl F H (.str i) v):v=.str i:=by
 rcases h with h | ⟨_,_,_,_,z,_⟩
 ·simpa only[Rp]using h
 ·cases z
theorem Rb.non{F H:Hp}{v:V}(h:Rb K cl F H .non v):v=.non:=by
 rcases h with h | ⟨_,_,_,_,z,_⟩
 ·simpa only[Rp]using h
 ·cases z
theorem Rb.lst{F H:Hp}{ds:List D}{v:V}(s:Same F H)(h:Rb K cl F H (.lst ds) v):∃a xs,v=.ref a∧H a=some (.lst xs)∧Rps K cl F ds xs:=by
 rcases h with h | ⟨a,xs,ds',e,z,h,r⟩
 ·simp only[Rp]at h
  obtain⟨a,xs,e,h,r⟩:=h
  exact⟨a,xs,e,s _ _ h,r⟩
 ·cases z;exact⟨a,xs,e,h,r⟩
theorem Rb.tup{F H:Hp}{ds:List D}{v:V}(s:Same F H)(h:Rb K cl F H (.tup ds) v):∃a xs,v=.ref a∧H a=some (.tup xs)∧Rps K cl F ds xs:=by
 rcases h with h | ⟨_,_,_,_,z,_⟩
 ·simp only[Rp]at h
  obtain⟨a,xs,e,h,r⟩:=h
  exact⟨a,xs,e,s _ _ h,r⟩
 ·cases z
theorem Rb.scr{F H:Hp}{ns:List Int}{v:V}(s:Same F H)(h:Rb K cl F H (.scr ns) v):∃a,v=.ref a∧Scr K H a (ns.map V.int):=by
 rcases h with h | ⟨_,_,_,_,z,_⟩
 ·simp only[Rp]at h
  obtain⟨a,e,h⟩:=h
  exact⟨a,e,h.same s⟩
 ·cases z
def gI(C:Int→Int→Prop) [∀i j,Decidable (C i j)] (g:Int→Int→D):D→D→Option D
 | .int i,.int j=>if C i j then some (g i j)else none
 | _,_=>none
def gI0(g:Int→Int→D):D→D→Option D
 | .int i,.int j=>some (g i j)
 | _,_=>none
theorem a9_{C:Int→Int→Prop} [∀i j,Decidable (C i j)] {g:Int→Int→V} {g':Int→Int→D} (hg:∀F i j,Rp K cl F (g' i j) (g i j)):OpOk K cl (rI C g) (gI C g'):=by
 intro x y d e z H F Q s hx hy h q
 unfold gI at h
 split at h
 ·rename_i i j
  split at h
  ·rename_i c;cases h
   exact⟨i,j,hx.int,hy.int,c,q _ H F (.refl s) (hg F i j)⟩
  ·cases h
 ·cases h
theorem a36{g:Int→Int→V}{g':Int→Int→D}(hg:∀F i j,Rp K cl F (g' i j) (g i j)):OpOk K cl (rI0 g) (gI0 g'):=by
 intro x y d e z H F Q s hx hy h q
 unfold gI0 at h
 split at h
 ·rename_i i j
  cases h
  exact⟨i,j,hx.int,hy.int,q _ H F (.refl s) (hg F i j)⟩
 ·cases h
end
section
variable {K:W.Frag}{cl:Str→Addr}{E:XK}{σ:St}{H F:Hp}{env:DE}
theorem Rel.newN{p:Addr}{o:HO}(R:Rel K cl σ H F env)(hp:H p=none):Rel K cl σ (upd H p o) F env∧Frm σ H F env σ (upd H p o) F env:=by
 have fp:F p=none:=R.sub.free hp
 have ne:∀a u,H a=some u→a≠p:=fun a u h z=>by rw[z,hp]at h;cases h
 refine⟨⟨R.sub.trans (V5 hp _),R.len,R.fz,fun i ds h=>?_,R.inj,R.od.newO hp⟩,⟨Same.refl _,fun a u h f w=>?_,fun _ _ h=>⟨h,rfl⟩,fun a h=>?_⟩⟩
 ·obtain⟨a,xs,e,hH,hF,r⟩:=R.mu i ds h
  exact⟨a,xs,e,by rw[g8 (ne _ _ hH)];exact hH,hF,r⟩
 ·exact⟨by rw[g8 (ne _ _ h)];exact h,f,w⟩
 ·by_cases z:a=p
  ·rw[z];exact hp
  ·rw[g8 z]at h;exact h
theorem Ct.newN{p:Addr}{xs:List V}{ds:List D}{Q:VK}(R:Rel K cl σ H F env)(hp:H p=none)(r:Rps K cl F ds xs)(h:Ct K cl E (PN K cl) (some (.ok ds env)) σ H F env Q):Q (.ref p) (upd H p (.lst xs)):=by
 obtain⟨R',f⟩:=R.newN (o:=.lst xs) hp
 refine h _ _ F f R' ⟨p,xs,rfl,hp,i8,R.sub.free hp,fun j mj e=>?_,r⟩
 obtain⟨ds',q⟩:=mj
 obtain⟨a,ys,e1,hH,_⟩:=R.mu j ds' q
 rw[e]at e1;cases e1
 rw[hp]at hH;cases hH
def zN(f:NF):ZF:=fun e=>bnd (f e) fun ds e1=>some (.ok (.lst ds) e1)
theorem W6{t:TE}{f:NF}(h:RfN K cl E t f):t5 K cl E t (zN f):=by
 intro σ H Q env F R q
 refine h σ H Q env F R ?_
 unfold zN at q
 rcases hf:f env with _ | ⟨ds,e1⟩ | c
 ·rw[hf]at q;exact q
 ·rw[hf]at q
  rintro b H' F' fr R' ⟨a,xs,rfl,hn,hH,hF,nm,r⟩
  have sF:Same F' (upd F' a (.lst xs)):=V5 hF _
  refine q _ H' (upd F' a (.lst xs)) ⟨fr.fz.trans sF,fun b o hb fb w=>?_,fr.keep,fr.dom⟩ ⟨fun b o z=>?_,R'.len,fun i d z=>?_,fun i es z=>?_,R'.inj,R'.od.frzL hH hF⟩ (by show Rp K cl _ (.lst ds) _;simp only[Rp];exact⟨a,xs,rfl,i8,r.mono sF⟩)
  ·obtain⟨h1,f1,w1⟩:=fr.hid b o hb fb w
   have nb:b≠a:=fun z=>by rw[z,hn]at hb;cases hb
   exact⟨h1,by rw[g8 nb];exact f1,w1⟩
  ·by_cases y:b=a
   ·subst y;rw[i8]at z;cases z;exact hH
   ·rw[g8 y]at z;exact R'.sub _ _ z
  ·obtain⟨v,e,r1⟩:=R'.fz i d z
   exact⟨v,e,r1.mono sF⟩
  ·obtain⟨b,ys,e,h1,f1,r1⟩:=R'.mu i es z
   have nb:b≠a:=fun y=>nm i ⟨es,z⟩ (by rw[e,y])
   exact⟨b,ys,e,h1,by rw[g8 nb];exact f1,r1.mono sF⟩
 ·rw[hf]at q;exact q
def aN:AF:=fun e=>some (.ok [] e)
def aC(f:ZF)(k:AF):AF:=fun e=>bnd (f e) fun d e1=>bnd (k e1) fun ds e2=>some (.ok (d::ds) e2)
theorem g9:T5 K cl E a1h aN:=fun σ H Q env F R h=>h [] H F Frm.refl R .nil
theorem b6{te:TE}{ta:TA}{f:ZF}{k:AF}(hf:t5 K cl E te f)(hk:T5 K cl E ta k):T5 K cl E (P5 te ta) (aC f k):=by
 intro σ H Q env F R h
 refine hf σ H _ env F R ((Ct.bnd h b5J).mono fun x H1 ⟨F1,e1,d,s1,R1,p1,h1⟩=>?_)
 refine hk σ H1 _ e1 F1 R1 ((Ct.bnd h1 b5J).mono fun xs H2 ⟨F2,e2,ds,s2,R2,p2,h2⟩=>?_)
 exact h2 (x::xs) H2 F2 Frm.refl R2 (.cons (Rp.mono s2 _ _ p1) p2)
def eT(f:AF):ZF:=fun e=>bnd (f e) fun ds e1=>if ds.length≤sizeLine then some (.ok (.tup ds) e1)else none
def eL(f:AF):NF:=fun e=>bnd (f e) fun ds e1=>if ds.length≤sizeLine then some (.ok ds e1)else none
theorem n5{ta:TA}{f:AF}(hf:T5 K cl E ta f):t5 K cl E (b5e ta) (eT f):=by
 intro σ H Q env F R h
 refine hf σ H _ env F R ((Ct.bnd h M3).mono fun xs H1 ⟨F1,e1,ds,s1,R1,p1,h1⟩=>?_)
 have hl:ds.length=xs.length:=Rps.length p1
 split at h1
 ·rename_i z
  refine⟨by rw[← hl];exact z,fun p hp=>?_⟩
  have g:Gr H1 F1 (upd H1 p (.tup xs)) (upd F1 p (.tup xs)):=.new R1.sub hp
  exact h1 _ _ _ (R1.frm g) (R1.gr g) (by show Rp K cl _ (.tup ds) _;simp only[Rp];exact⟨p,xs,rfl,i8,Rps.mono g.fz _ _ p1⟩)
 ·exact h1.elim
theorem a4R{ta:TA}{f:AF}(hf:T5 K cl E ta f):RfN K cl E (b5f ta) (eL f):=by
 intro σ H Q env F R h
 refine hf σ H _ env F R ((Ct.bnd h a2C).mono fun xs H1 ⟨F1,e1,ds,s1,R1,p1,h1⟩=>?_)
 have hl:ds.length=xs.length:=Rps.length p1
 split at h1
 ·rename_i z
  exact⟨by rw[← hl];exact z,fun p hp=>Ct.newN R1 hp p1 h1⟩
 ·exact h1.elim
def bZ(f:ZF):BF:=fun e=>bnd (f e) fun d e1=>match d with
 | .bl b=>some (.ok b e1)
 | _=>none
theorem B0{t:TE}{f:ZF}(hf:t5 K cl E t f):R8 K cl E (tB t) (bZ f):=by
 intro σ H Q env F R h
 refine hf σ H _ env F R ((Ct.bnd h a99).mono fun x H1 ⟨F1,e1,d,s1,R1,p1,h1⟩=>?_)
 split at h1
 ·rename_i b
  have:x=.bl b:=by have:=(show Rp K cl F1 (.bl b) x from p1);simpa only[Rp]using this
  exact⟨b,this,h1 b H1 F1 Frm.refl R1 rfl⟩
 ·exact h1.elim
theorem w9{t:TE}{f:ZF}(hf:t5 K cl E t f):R8 K cl E (b3n t) (bZ f):=B0 hf
def C1(f:BF):BF:=fun e=>bnd (f e) fun b e1=>some (.ok (!b) e1)
def y3(f k:BF):BF:=fun e=>bnd (f e) fun b e1=>if b=true then k e1 else some (.ok false e1)
def bOr(f k:BF):BF:=fun e=>bnd (f e) fun b e1=>if b=true then some (.ok true e1)else k e1
theorem F8{t:TT}{f:BF}(hf:R8 K cl E t f):R8 K cl E (b44 t) (C1 f):=by
 intro σ H Q env F R h
 refine hf σ H _ env F R ((Ct.bnd h a99).mono fun x H1 ⟨F1,e1,d,s1,R1,p1,h1⟩=>?_)
 cases (show x=d from p1)
 exact h1 _ H1 F1 Frm.refl R1 rfl
theorem N3{t u:TT}{f k:BF}(hf:R8 K cl E t f)(hk:R8 K cl E u k):R8 K cl E (b43 t u) (y3 f k):=by
 intro σ H Q env F R h
 refine hf σ H _ env F R ((Ct.bnd h a99).mono fun x H1 ⟨F1,e1,d,s1,R1,p1,h1⟩=>?_)
 cases (show x=d from p1)
 by_cases z:x=true
 ·rw[if_pos z]at h1 ⊢;exact hk σ H1 Q e1 F1 R1 h1
 ·rw[if_neg z]at h1 ⊢;exact h1 _ H1 F1 Frm.refl R1 rfl
theorem a5q{t u:TT}{f k:BF}(hf:R8 K cl E t f)(hk:R8 K cl E u k):R8 K cl E (tOr t u) (bOr f k):=by
 intro σ H Q env F R h
 refine hf σ H _ env F R ((Ct.bnd h a99).mono fun x H1 ⟨F1,e1,d,s1,R1,p1,h1⟩=>?_)
 cases (show x=d from p1)
 by_cases z:x=true
 ·rw[if_pos z]at h1 ⊢;exact h1 _ H1 F1 Frm.refl R1 rfl
 ·rw[if_neg z]at h1 ⊢;exact hk σ H1 Q e1 F1 R1 h1
def a4S(f:ZF):ZF:=fun e=>bnd (f e) fun d e1=>match d with
 | .bl b=>some (.ok (.bl (!b)) e1)
 | _=>none
def J3(f k:ZF):ZF:=fun e=>bnd (f e) fun d e1=>match d with
 | .bl b=>if b=true then k e1 else some (.ok (.bl false) e1)
 | _=>none
def eOr(f k:ZF):ZF:=fun e=>bnd (f e) fun d e1=>match d with
 | .bl b=>if b=true then some (.ok (.bl true) e1)else k e1
 | _=>none
def eIf(c:BF)(f k:ZF):ZF:=fun e=>bnd (c e) fun b e1=>if b=true then f e1 else k e1
theorem b1a{t:TE}{f:ZF}(hf:t5 K cl E t f):t5 K cl E (b3i t) (a4S f):=by
 intro σ H Q env F R h
 refine hf σ H _ env F R ((Ct.bnd h M3).mono fun x H1 ⟨F1,e1,d,s1,R1,p1,h1⟩=>?_)
 split at h1
 ·rename_i b
  have:x=.bl b:=by have:=(show Rp K cl F1 (.bl b) x from p1);simpa only[Rp]using this
  exact⟨b,this,h1 _ H1 F1 Frm.refl R1 (by show Rp K cl F1 (.bl _) _;simp only[Rp])⟩
 ·exact h1.elim
theorem M4{t u:TE}{f k:ZF}(hf:t5 K cl E t f)(hk:t5 K cl E u k):t5 K cl E (b3h t u) (J3 f k):=by
 intro σ H Q env F R h
 refine hf σ H _ env F R ((Ct.bnd h M3).mono fun x H1 ⟨F1,e1,d,s1,R1,p1,h1⟩=>?_)
 split at h1
 ·rename_i b
  have:x=.bl b:=by have:=(show Rp K cl F1 (.bl b) x from p1);simpa only[Rp]using this
  refine⟨b,this,?_⟩
  by_cases z:b=true
  ·rw[if_pos z]at h1 ⊢;exact hk σ H1 Q e1 F1 R1 h1
  ·rw[if_neg z]at h1 ⊢;exact h1 _ H1 F1 Frm.refl R1 (by show Rp K cl F1 (.bl _) _;simp only[Rp])
 ·exact h1.elim
theorem b0a{t u:TE}{f k:ZF}(hf:t5 K cl E t f)(hk:t5 K cl E u k):t5 K cl E (b45 t u) (eOr f k):=by
 intro σ H Q env F R h
 refine hf σ H _ env F R ((Ct.bnd h M3).mono fun x H1 ⟨F1,e1,d,s1,R1,p1,h1⟩=>?_)
 split at h1
 ·rename_i b
  have:x=.bl b:=by have:=(show Rp K cl F1 (.bl b) x from p1);simpa only[Rp]using this
  refine⟨b,this,?_⟩
  by_cases z:b=true
  ·rw[if_pos z]at h1 ⊢;exact h1 _ H1 F1 Frm.refl R1 (by show Rp K cl F1 (.bl _) _;simp only[Rp])
  ·rw[if_neg z]at h1 ⊢;exact hk σ H1 Q e1 F1 R1 h1
 ·exact h1.elim
def nIf(c:BF)(f k:NF):NF:=fun e=>bnd (c e) fun b e1=>if b=true then f e1 else k e1
def b2C(K:W.Frag)(cl:Str→Addr)(r:V→Hp→VK→Prop)(g:D→Option D):Prop:=∀x d z H F Q,Same F H→Rb K cl F H d x→g d=some z→(∀v H' F',Gr H F H' F'→Rp K cl F' z v→Q v H')→r x H Q
def eU(g:D→Option D)(f:ZF):ZF:=fun e=>bnd (f e) fun d e1=>R7 (g d) e1
theorem b5K{r:V→Hp→VK→Prop}{g:D→Option D}{t:TE}{f:ZF}(ok:b2C K cl r g)(hf:t5 K cl E t f):t5 K cl E (tUn r t) (eU g f):=by
 intro σ H Q env F R h
 refine hf σ H _ env F R ((Ct.bnd h M3).mono fun x H1 ⟨F1,e1,d,s1,R1,p1,h1⟩=>?_)
 cases hz:g d with
 | none=>rw[hz]at h1;exact h1.elim
 | some z =>
  rw[hz]at h1
  exact ok x d z H1 F1 Q R1.sub (.inl p1) hz fun v H' F' gr p=>h1 v H' F' (R1.frm gr) (R1.gr gr) p
def a3k:D→Option D
 | .int i=>some (.int (-i))
 | _=>none
theorem b5L:b2C K cl (rU fun i=>.int (-i)) a3k:=by
 intro x d z H F Q s hx h q
 unfold a3k at h
 split at h
 ·rename_i i;cases h
  exact⟨i,hx.int,q _ H F (.refl s) (by simp only[Rp])⟩
 ·cases h
def a7O(K:W.Frag)(cl:Str→Addr)(r:List V→Hp→VK→Prop)(g:List D→Option D):Prop:=∀xs ds z H F Q,Same F H→Rps K cl F ds xs→g ds=some z→(∀v H' F',Gr H F H' F'→Rp K cl F' z v→Q v H')→r xs H Q
def CbOk1(K:W.Frag)(cl:Str→Addr)(r:List V→Hp→VK→Prop)(g:D→Option D):Prop:=∀x d z H F Q,Same F H→Rb K cl F H d x→g d=some z→(∀v H' F',Gr H F H' F'→Rp K cl F' z v→Q v H')→r [x] H Q
def X6(g:List D→Option D)(f:AF):ZF:=fun e=>bnd (f e) fun ds e1=>R7 (g ds) e1
def y4(g:D→Option D)(i:Nat):ZF:=fun e=>match look e i with
 | some d=>R7 (g d) e
 | none=>none
theorem a05{r:List V→Hp→VK→Prop}{g:List D→Option D}{t:TA}{f:AF}(ok:a7O K cl r g)(hf:T5 K cl E t f):t5 K cl E (tCB r t) (X6 g f):=by
 intro σ H Q env F R h
 refine hf σ H _ env F R ((Ct.bnd h M3).mono fun x H1 ⟨F1,e1,d,s1,R1,p1,h1⟩=>?_)
 cases hz:g d with
 | none=>rw[hz]at h1;exact h1.elim
 | some z =>
  rw[hz]at h1
  exact ok x d z H1 F1 Q R1.sub p1 hz fun v H' F' gr p=>h1 v H' F' (R1.frm gr) (R1.gr gr) p
theorem L4{r:List V→Hp→VK→Prop}{g:D→Option D}{i:Nat}(ok:CbOk1 K cl r g):t5 K cl E (tCB r (P5 (O4 i) a1h)) (y4 g i):=by
 intro σ H Q env F R h
 unfold y4 at h
 cases q:look env i with
 | none=>rw[q]at h;exact h.elim
 | some d =>
  rw[q]at h
  obtain⟨x,e,rb⟩:=R.look q
  refine⟨x,e,?_⟩
  cases hz:g d with
  | none=>simp only[hz,M1]at h;exact h.elim
  | some z =>
   simp only[hz,M0]at h
   exact ok x d z H F Q R.sub rb hz fun v H' F' gr p=>h v H' F' (R.frm gr) (R.gr gr) p
def g1(g:D→Option D):List D→Option D
 | [d]=>g d
 | _=>none
theorem CbOk1.cb{r:List V→Hp→VK→Prop}{g:D→Option D}(ok:CbOk1 K cl r g):a7O K cl r (g1 g):=by
 intro xs ds z H F Q s hx h q
 unfold g1 at h
 split at h
 ·obtain⟨v,r,rfl,h1,h2⟩:=hx.inv
  rw[h2.inv0]
  exact ok v _ z H F Q s (.inl h1) h q
 ·cases h
def b0b(K:W.Frag)(cl:Str→Addr)(r:List V→Hp→VK→Prop)(g:D→Option (List D)):Prop:=∀x d zs H F Q,Same F H→Rb K cl F H d x→g d=some zs→(∀p xs,H p=none→Rps K cl F zs xs→Q (.ref p) (upd H p (.lst xs)))→r [x] H Q
def nCB(g:D→Option (List D))(f:ZF):NF:=fun e=>bnd (f e) fun d e1=>R7 (g d) e1
def nCV(g:D→Option (List D))(i:Nat):NF:=fun e=>match look e i with
 | some d=>R7 (g d) e
 | none=>none
theorem b5M{r:List V→Hp→VK→Prop}{g:D→Option (List D)}{t:TE}{f:ZF}(ok:b0b K cl r g)(hf:t5 K cl E t f):RfN K cl E (tCB r (P5 t a1h)) (nCB g f):=by
 intro σ H Q env F R h
 refine hf σ H _ env F R ((Ct.bnd h a2C).mono fun x H1 ⟨F1,e1,d,s1,R1,p1,h1⟩=>?_)
 cases hz:g d with
 | none=>rw[hz]at h1;exact h1.elim
 | some z =>
  rw[hz]at h1
  exact ok x d z H1 F1 Q R1.sub (.inl p1) hz fun p xs hp r=>Ct.newN R1 hp r h1
theorem b1c{r:List V→Hp→VK→Prop}{g:D→Option (List D)}{i:Nat}(ok:b0b K cl r g):RfN K cl E (tCB r (P5 (O4 i) a1h)) (nCV g i):=by
 intro σ H Q env F R h
 unfold nCV at h
 cases q:look env i with
 | none=>rw[q]at h;exact h.elim
 | some d =>
  rw[q]at h
  obtain⟨x,e,rb⟩:=R.look q
  refine⟨x,e,?_⟩
  cases hz:g d with
  | none=>simp only[hz,M1]at h;exact h.elim
  | some z =>
   simp only[hz,M0]at h
   exact ok x d z H F Q R.sub rb hz fun p xs hp r=>Ct.newN R hp r h
def b5N(K:W.Frag)(cl:Str→Addr)(r:R2)(g:D→D→Option (List D)):Prop:=∀x y d e zs H F Q,Same F H→Rb K cl F H d x→Rb K cl F H e y→g d e=some zs→(∀p xs,H p=none→Rps K cl F zs xs→Q (.ref p) (upd H p (.lst xs)))→r x y H Q
def nB(g:D→D→Option (List D))(f k:ZF):NF:=fun e=>bnd (f e) fun d e1=>bnd (k e1) fun d' e2=>R7 (g d d') e2
theorem b6v{r:R2}{g:D→D→Option (List D)}{ta tb:TE}{f k:ZF}(ok:b5N K cl r g)(ha:t5 K cl E ta f)(hb:t5 K cl E tb k):RfN K cl E (tOp r ta tb) (nB g f k):=by
 intro σ H Q env F R h
 refine ha σ H _ env F R ((Ct.bnd h a2C).mono fun x H1 ⟨F1,e1,d,s1,R1,p1,h1⟩=>?_)
 refine hb σ H1 _ e1 F1 R1 ((Ct.bnd h1 a2C).mono fun y H2 ⟨F2,e2,e,s2,R2,p2,h2⟩=>?_)
 cases hz:g d e with
 | none=>rw[hz]at h2;exact h2.elim
 | some z =>
  rw[hz]at h2
  exact ok x y d e z H2 F2 Q R2.sub (.inl (Rp.mono s2 _ _ p1)) (.inl p2) hz fun p xs hp r=>Ct.newN R2 hp r h2
end
section
variable {K:W.Frag}{cl:Str→Addr}{E:XK}{σ:St}{H F:Hp}{env:DE}
instance decMul(i j:Int):Decidable (IntMulOk i j):=by unfold IntMulOk;infer_instance
instance decPow(i j:Int):Decidable (a57 i j):=by unfold a57;infer_instance
abbrev y6:=gI0 fun i j=>.int (i+j)
abbrev N4:=gI0 fun i j=>.int (i-j)
abbrev a0r:=gI IntMulOk fun i j=>.int (i*j)
abbrev V6:=gI (fun _ j=>0<j∧j.natAbs.log2<9000) fun i j=>.int (i/j)
abbrev B9:=gI (fun _ j=>0<j) fun i j=>.int (i%j)
abbrev a6o:=gI a57 fun i j=>.int (i ^ j.toNat)
abbrev F9:=gI0 fun i j=>.bl (decide (i<j))
abbrev gLe:=gI0 fun i j=>.bl (decide (i≤j))
abbrev Z4:=gI0 fun i j=>.bl (decide (j<i))
abbrev gGe:=gI0 fun i j=>.bl (decide (j≤i))
theorem A8:OpOk K cl (rI0 fun i j=>.int (i+j)) y6:=a36 fun F i j=>by simp only[Rp]
theorem a3m:OpOk K cl (rI0 fun i j=>.int (i-j)) N4:=a36 fun F i j=>by simp only[Rp]
theorem a7P:OpOk K cl (rI IntMulOk fun i j=>.int (i*j)) a0r:=a9_ fun F i j=>by simp only[Rp]
theorem T6:OpOk K cl (rI (fun _ j=>0<j∧j.natAbs.log2<9000) fun i j=>.int (i/j)) V6:=a9_ fun F i j=>by simp only[Rp]
theorem B4:OpOk K cl (rI (fun _ j=>0<j) fun i j=>.int (i%j)) B9:=a9_ fun F i j=>by simp only[Rp]
theorem a7Q:OpOk K cl (rI a57 fun i j=>.int (i ^ j.toNat)) a6o:=a9_ fun F i j=>by simp only[Rp]
theorem T7:OpOk K cl (rI0 fun i j=>.bl (decide (i<j))) F9:=a36 fun F i j=>by simp only[Rp]
theorem a06:OpOk K cl (rI0 fun i j=>.bl (decide (i≤j))) gLe:=a36 fun F i j=>by simp only[Rp]
theorem a37:OpOk K cl (rI0 fun i j=>.bl (decide (j<i))) Z4:=a36 fun F i j=>by simp only[Rp]
theorem a7h:OpOk K cl (rI0 fun i j=>.bl (decide (j≤i))) gGe:=a36 fun F i j=>by simp only[Rp]
def toV:D→Option V
 | .non=>some .non
 | .bl b=>some (.bl b)
 | .int i=>some (.int i)
 | .str x=>some (.str x)
 | _=>none
theorem Rb.toV{d:D}{v u:V}(h:Rb K cl F H d v)(e:toV d=some u):v=u:=by
 cases d with
 | non=>cases e;exact h.non
 | bl b=>cases e;exact h.bl
 | int i=>cases e;exact h.int
 | str x=>cases e;exact h.str
 | _=>cases e
def D7(neg:Bool)(d e:D):Option D:=match toV d,toV e with
 | some x,some y=>if a58 x y=true then some (.bl (if neg then !decide (x=y)else decide (x=y)))else none
 | _,_=>none
theorem a07:OpOk K cl rEq (D7 false):=by
 intro x y d e z H F Q s hx hy h q
 unfold D7 at h
 split at h
 ·rename_i u w hu hw
  split at h
  ·rename_i c;cases h
   rw[hx.toV hu,hy.toV hw]
   exact⟨c,q _ H F (.refl s) (by simp only[Rp];rfl)⟩
  ·cases h
 ·cases h
theorem b3x:OpOk K cl rNe (D7 true):=by
 intro x y d e z H F Q s hx hy h q
 unfold D7 at h
 split at h
 ·rename_i u w hu hw
  split at h
  ·rename_i c;cases h
   rw[hx.toV hu,hy.toV hw]
   exact⟨c,q _ H F (.refl s) (by simp only[Rp];rfl)⟩
  ·cases h
 ·cases h
@[simp] theorem a1v(neg:Bool)(a b:Int):D7 neg (.int a) (.int b)=some (.bl (if neg then !decide (a=b)else decide (a=b))):=by
 unfold D7 toV
 simp only[a58,if_true,V.int.injEq]
@[simp] theorem a1w(neg:Bool)(a b:Str):D7 neg (.str a) (.str b)=some (.bl (if neg then !decide (a=b)else decide (a=b))):=by
 unfold D7 toV
 simp only[a58,if_true,V.str.injEq]
@[simp] theorem a5t(neg:Bool)(a b:Bool):D7 neg (.bl a) (.bl b)=some (.bl (if neg then !decide (a=b)else decide (a=b))):=by
 unfold D7 toV
 simp only[a58,if_true,V.bl.injEq]
def D3(neg:Bool)(d e:D):Option D:=match d,e with
 | .non,.non=>some (.bl (!neg))
 | _,.non=>some (.bl neg)
 | _,_=>none
theorem Rb.notNon{d:D}{v:V}(h:Rb K cl F H d v)(n:d≠.non):v≠.non:=by
 rcases h with h | ⟨_,_,_,rfl,_⟩
 ·cases d<;>simp only[Rp]at h
  ·exact absurd rfl n
  all_goals first | (rw[h];intro z;cases z) | (obtain⟨_,_,rfl,_⟩:=h;intro z;cases z) | (obtain⟨_,rfl,_⟩:=h;intro z;cases z) | (obtain⟨_,_,_,rfl,_⟩:=h;intro z;cases z)
 ·intro z;cases z
theorem b5O:OpOk K cl (fun x y H Q=>y=.non∧Q (.bl (decide (x=.non))) H) (D3 false):=by
 intro x y d e z H F Q s hx hy h q
 unfold D3 at h
 split at h
 ·cases h;rw[hx.non];exact⟨hy.non,q _ H F (.refl s) (by simp[Rp])⟩
 ·rename_i n;cases h
  exact⟨hy.non,q _ H F (.refl s) (by simp only[Rp];rw[decide_eq_false (hx.notNon n)])⟩
 ·cases h
theorem a6p:OpOk K cl (fun x y H Q=>y=.non∧Q (.bl (!decide (x=.non))) H) (D3 true):=by
 intro x y d e z H F Q s hx hy h q
 unfold D3 at h
 split at h
 ·cases h;rw[hx.non];exact⟨hy.non,q _ H F (.refl s) (by simp[Rp])⟩
 ·rename_i n;cases h
  exact⟨hy.non,q _ H F (.refl s) (by simp only[Rp];rw[decide_eq_false (hx.notNon n)];rfl)⟩
 ·cases h
theorem Rps.atI{ds:List D}{xs:List V}{i:Int}{d:D}(h:Rps K cl F ds xs)(e:atI ds i=some d):∃v,L2.atI xs i=some v∧Rp K cl F d v:=by
 unfold L2.atI at e ⊢
 rw[← h.length]
 cases q:ixN ds.length i with
 | none=>rw[q]at e;cases e
 | some j=>rw[q]at e;exact h.get e
def l4(d e:D):Option D:=match d,e with
 | .lst ds,.int i=>atI ds i
 | .scr ns,.int i=>(atI ns i).map .int
 | _,_=>none
def i0(d e:D):Option D:=match d,e with
 | .tup ds,.int i=>atI ds i
 | _,_=>none
theorem b4c{α β:Type}(f:α→β)(xs:List α)(i:Int):atI (xs.map f) i=(atI xs i).map f:=by
 unfold L2.atI
 rw[List.length_map]
 cases ixN xs.length i with
 | none=>rfl
 | some j=>simp
theorem A0:OpOk K cl (b14 K) l4:=by
 intro x y d e z H F Q s hx hy h q
 unfold l4 at h
 split at h
 ·obtain⟨a,xs,rfl,hH,r⟩:=hx.lst s
  obtain⟨v,e,p⟩:=r.atI h
  exact⟨a,xs,_,v,rfl,hy.int,.of hH,e,q v H F (.refl s) p⟩
 ·rename_i ns i
  obtain⟨a,rfl,hS⟩:=hx.scr s
  cases hz:atI ns i with
  | none=>rw[hz]at h;cases h
  | some n =>
   rw[hz]at h;cases h
   exact⟨a,_,_,.int n,rfl,hy.int,hS.seq,by rw[b4c,hz];rfl,q _ H F (.refl s) (by simp only[Rp])⟩
 ·cases h
theorem k9:OpOk K cl (b15 K) i0:=by
 intro x y d e z H F Q s hx hy h q
 unfold i0 at h
 split at h
 ·obtain⟨a,xs,rfl,hH,r⟩:=hx.tup s
  obtain⟨v,e,p⟩:=r.atI h
  exact⟨a,xs,_,v,rfl,hy.int,.of hH,e,q v H F (.refl s) p⟩
 ·cases h
def O8:D→D→Bool
 | .non,.non=>true
 | .bl a,.bl b=>a == b
 | .bl a,.int b=>(if a then 1 else 0) == b
 | .int a,.bl b=>a == (if b then 1 else 0)
 | .int a,.int b=>a == b
 | .str a,.str b=>a == b
 | _,_=>false
def Z1:List D→List D→Bool
 | [],[]=>true
 | x::xs,y::ys=>O8 x y && Z1 xs ys
 | _,_=>false
def j9:D→Bool
 | .non=>true
 | .bl _=>true
 | .int _=>true
 | .str _=>true
 | _=>false
theorem Rp.flat{d:D}{v:V}(h:Rp K cl F d v)(f:j9 d=true):toV d=some v∧W4 v=true:=by
 cases d<;>simp only[Rp]at h<;>first | (subst h;exact⟨rfl,rfl⟩) | cases f
theorem Rps.flat:∀{ds:List D} {vs:List V},Rps K cl F ds vs→ds.all j9=true→vs.all W4=true
 | [],_,h,_=>by rw[h.inv0];rfl
 | d::ds,_,h,f=>by
  obtain⟨v,r,rfl,h1,h2⟩:=h.inv
  rw[List.all_cons,Bool.and_eq_true]at f
  rw[List.all_cons,(h1.flat f.1).2,h2.flat f.2];rfl
theorem Rp.eq{d e:D}{v u:V}(h:Rp K cl F d v)(g:Rp K cl F e u)(fd:j9 d=true)(fe:j9 e=true):eqV v u=O8 d e:=by
 have h1:=(h.flat fd).1
 have h2:=(g.flat fe).1
 cases d<;>cases e<;>first | (cases h1;cases h2;rfl) | (cases fd;done) | (cases fe;done)
theorem Rps.eq:∀{ds es:List D} {vs us:List V},Rps K cl F ds vs→Rps K cl F es us→ds.all j9=true→es.all j9=true→b2c vs us=Z1 ds es
 | [],[],_,_,h,g,_,_=>by rw[h.inv0,g.inv0];rfl
 | [],_::_,_,_,h,g,_,_=>by rw[h.inv0];obtain⟨_,_,rfl,_,_⟩:=g.inv;rfl
 | _::_,[],_,_,h,g,_,_=>by rw[g.inv0];obtain⟨_,_,rfl,_,_⟩:=h.inv;rfl
 | d::ds,e::es,_,_,h,g,fd,fe=>by
  obtain⟨v,r,rfl,h1,h2⟩:=h.inv
  obtain⟨u,r',rfl,g1,g2⟩:=g.inv
  rw[List.all_cons,Bool.and_eq_true]at fd fe
  unfold b2c Z1
  rw[h1.eq g1 fd.1 fe.1,h2.eq g2 fd.2 fe.2]
def a7R(neg:Bool)(d e:D):Option D:=match d,e with
 | .lst ds,.lst es=>if(ds.all j9 && es.all j9)=true then some (.bl (if neg then !Z1 ds es else Z1 ds es))else none
 | .tup ds,.tup es=>if(ds.all j9 && es.all j9)=true then some (.bl (if neg then !Z1 ds es else Z1 ds es))else none
 | _,_=>none
def O5(d e:D):Option (List D):=match d,e with
 | .lst ds,.lst es=>if ds.length+es.length≤sizeLine then some (ds++es)else none
 | _,_=>none
theorem b5P:b5N K cl b5q O5:=by
 intro x y d e zs H F Q s hx hy h q
 unfold O5 at h
 split at h
 ·split at h
  ·rename_i c;cases h
   obtain⟨a,xs,rfl,hH,r⟩:=hx.lst s
   obtain⟨b,ys,rfl,hH',r'⟩:=hy.lst s
   exact⟨a,b,xs,ys,rfl,rfl,hH,hH',by rw[← r.length,← r'.length];exact c,fun p hp=>q p _ hp (r.append r')⟩
  ·cases h
 ·cases h
def a08(d e:D):Option D:=match d,e with
 | .tup ds,.tup es=>if ds≠[]∧es≠[]∧ds.length+es.length≤sizeLine then some (.tup (ds++es))else none
 | _,_=>none
def t6:D→Option D
 | .lst ds=>some (.int ds.length)
 | .tup ds=>some (.int ds.length)
 | .scr ns=>some (.int ns.length)
 | _=>none
theorem D8:CbOk1 K cl (a8_ K) t6:=by
 intro x d z H F Q s hx h q
 unfold t6 at h
 split at h
 ·cases h
  obtain⟨a,xs,rfl,hH,r⟩:=hx.lst s
  exact⟨a,xs,rfl,.inl (.of hH),q _ H F (.refl s) (by simp only[Rp];rw[r.length])⟩
 ·cases h
  obtain⟨a,xs,rfl,hH,r⟩:=hx.tup s
  exact⟨a,xs,rfl,.inr (.of hH),q _ H F (.refl s) (by simp only[Rp];rw[r.length])⟩
 ·cases h
  obtain⟨a,rfl,hS⟩:=hx.scr s
  exact⟨a,_,rfl,.inl hS.seq,q _ H F (.refl s) (by simp only[Rp];rw[List.length_map])⟩
 ·cases h
def a7S:D→Option D
 | .int i=>some (.int (if i<0 then -i else i))
 | _=>none
def T8:D→Option (List D)
 | .lst ds=>some ds
 | .tup ds=>some ds
 | .scr ns=>some (ns.map .int)
 | _=>none
theorem a9i:b0b K cl (a9a K) T8:=by
 intro x d zs H F Q s hx h q
 unfold T8 at h
 split at h
 ·cases h
  obtain⟨a,xs,rfl,hH,r⟩:=hx.lst s
  exact⟨a,xs,rfl,.inl (.of hH),fun p hp=>q p _ hp r⟩
 ·cases h
  obtain⟨a,xs,rfl,hH,r⟩:=hx.tup s
  exact⟨a,xs,rfl,.inr (.of hH),fun p hp=>q p _ hp r⟩
 ·cases h
  obtain⟨a,rfl,hS⟩:=hx.scr s
  exact⟨a,_,rfl,.inl hS.seq,fun p hp=>q p _ hp Rps.ofInts⟩
 ·cases h
def Z7:List D→Option (List Bool)
 | []=>some []
 | .bl b::ds=>(Z7 ds).map (b :: ·)
 | _=>none
theorem a7T:∀{ds:List D} {bs:List Bool},Z7 ds=some bs→ds=bs.map .bl
 | [],_,h=>by cases h;rfl
 | .bl b::ds,_,h=>by
  unfold Z7 at h
  cases q:Z7 ds with
  | none=>rw[q]at h;cases h
  | some bs=>rw[q]at h;cases h;rw[a7T q];rfl
 | .non::_,_,h=>by cases h
 | .int _::_,_,h=>by cases h
 | .str _::_,_,h=>by cases h
 | .ty _::_,_,h=>by cases h
 | .cls _::_,_,h=>by cases h
 | .tup _::_,_,h=>by cases h
 | .lst _::_,_,h=>by cases h
 | .scr _::_,_,h=>by cases h
 | .exc _::_,_,h=>by cases h
 | .obj _ _ _::_,_,h=>by cases h
 | .dic _ _::_,_,h=>by cases h
 | .exv _ _ _::_,_,h=>by cases h
def a4T:D→Option D
 | .lst ds=>(Z7 ds).map fun bs=>.bl (bs.any id)
 | _=>none
theorem b5Q:CbOk1 K cl (b5u K) a4T:=by
 intro x d z H F Q s hx h q
 unfold a4T at h
 split at h
 ·rename_i ds
  cases hb:Z7 ds with
  | none=>rw[hb]at h;cases h
  | some bs =>
   rw[hb]at h;cases h
   obtain⟨a,xs,rfl,hH,r⟩:=hx.lst s
   rw[a7T hb]at r
   rw[r.bls]at hH
   exact⟨a,bs,rfl,.of hH,q _ H F (.refl s) (by simp only[Rp])⟩
 ·cases h
end
inductive R1 where | ret (d:D) | own (ds:List D) | owz (dss:List (List D)) | owp (n:Int) (ds:List D) | ex (c:XN)
def l5(K:W.Frag)(cl:Str→Addr)(g:List D→Option R1):Sp:=fun vs H Q E=>∃ds F,Same F H∧Rps K cl F ds vs∧match g ds with
 | none=>False
 | some (.ret d)=>∀v H' F',Gr H F H' F'→Rp K cl F' d v→Q v H'
 | some (.own es)=>∀a xs H' F',Gr H F H' F'→H a=none→H' a=some (.lst xs)→F' a=none→Rps K cl F' es xs→Q (.ref a) H'
 | some (.owz dss)=>∀p as H' F',Gr H F H' F'→H p=none→H' p=some (.tup (as.map V.ref))→F' p=none→Rz K cl F' H' (fun a=>H a=none) dss as→Q (.ref p) H'
 | some (.owp n es)=>∀p a xs H' F',Gr H F H' F'→H p=none→H' p=some (.tup [.int n,.ref a])→F' p=none→H a=none→H' a=some (.lst xs)→F' a=none→Rps K cl F' es xs→Q (.ref p) H'
 | some (.ex c)=>∀H' F',Gr H F H' F'→∀cx,Xf K cl F' c cx→E (.ref (cl c.nm)) cx H'
def toZ(r:Option R1)(e:DE):Option (R D):=match r with
 | none=>none
 | some (.ret d)=>some (.ok d e)
 | some (.own ds)=>some (.ok (.lst ds) e)
 | some (.owz _)=>none
 | some (.owp _ _)=>none
 | some (.ex c)=>some (.ex c)
def a0s(r:Option R1)(e:DE):Option (R D):=match r with
 | some (.ret d)=>some (.ok d e)
 | some (.own ds)=>some (.ok (.lst ds) e)
 | _=>none
def W7(g:List D→Option R1)(f:AF):ZF:=fun e=>bnd (f e) fun ds e1=>toZ (g ds) e1
def l6(g:List D→Option R1)(f:AF):ZF:=fun e=>bnd (f e) fun ds e1=>a0s (g ds) e1
def put(i:Nat)(s:Sl)(e:DE):Option RS:=match e[i]? with
 | none=>none
 | some (.hd _)=>none
 | some _=>some (.nx (e.set i s))
def P6(i:Nat)(r:Option R1)(e:DE):Option RS:=match r with
 | none=>none
 | some (.ret d)=>put i (.fz d) e
 | some (.own ds)=>put i (.ow ds) e
 | some (.owz _)=>none
 | some (.owp _ _)=>none
 | some (.ex c)=>some (.ex c)
def X7(i:Nat)(r:Option R1)(e:DE):Option RS:=match r with
 | some (.ret d)=>put i (.fz d) e
 | some (.own ds)=>put i (.ow ds) e
 | _=>none
def a09(r:Option R1):Option RS:=match r with
 | none=>none
 | some (.ret d)=>some (.rt d)
 | some (.own ds)=>some (.ro ds)
 | some (.owz dss)=>some (.rz dss)
 | some (.owp n ds)=>some (.rp n ds)
 | some (.ex c)=>some (.ex c)
def a1x(r:Option R1):Option RS:=match r with
 | some (.ret d)=>some (.rt d)
 | some (.own ds)=>some (.ro ds)
 | _=>none
def m7:SF:=fun e=>some (.nx e)
def f9(f k:SF):SF:=fun e=>match f e with
 | some (.nx e1)=>k e1
 | r=>r
def p6(i:Nat)(f:ZF):SF:=fun e=>v8 (f e) fun d e1=>put i (.fz d) e1
def r9(i:Nat)(f:NF):SF:=fun e=>v8 (f e) fun ds e1=>put i (.ow ds) e1
def J4(i:Nat)(g:List D→Option R1)(f:AF):SF:=fun e=>v8 (f e) fun ds e1=>P6 i (g ds) e1
def A1(i:Nat)(g:List D→Option R1)(f:AF):SF:=fun e=>v8 (f e) fun ds e1=>X7 i (g ds) e1
def i5(f:ZF):SF:=fun e=>v8 (f e) fun d _=>some (.rt d)
def a2D(f:NF):SF:=fun e=>v8 (f e) fun ds _=>some (.ro ds)
def a5u(g:List D→Option R1)(f:AF):SF:=fun e=>v8 (f e) fun ds _=>a09 (g ds)
def a3n(g:List D→Option R1)(f:AF):SF:=fun e=>v8 (f e) fun ds _=>a1x (g ds)
def N5(i:Nat):SF:=fun e=>match e[i]? with
 | some (.fz d)=>some (.rt d)
 | some (.ow ds)=>some (.ro ds)
 | _=>none
def a5v:SF:=fun _=>some (.rt .non)
def m5(c:BF)(f k:SF):SF:=fun e=>v8 (c e) fun b e1=>if b=true then f e1 else k e1
def sEx(f:ZF):SF:=fun e=>v8 (f e) fun _ e1=>some (.nx e1)
def sBk:SF:=fun e=>some (.bk e)
def sCt:SF:=fun e=>some (.ct e)
def a0t(c:Str)(f:AF):SF:=fun e=>v8 (f e) fun ds _=>if ds.length≤sizeLine then some (.ex (.p c))else none
def D4(i:Nat)(f:ZF):SF:=fun e=>match look e i with
 | some (.lst _)=>v8 (f e) fun d e1=>match e1[i]? with
  | some (.ow ds)=>if ds.length<sizeLine then some (.nx (e1.set i (.ow (ds++[d]))))else none
  | _=>none
 | _=>none
def a7U(i:Nat)(k:ZF)(f:ZF):SF:=fun e=>v8 (f e) fun d e1=>match look e1 i with
 | none=>none
 | some _=>v8 (k e1) fun j e2=>match e2[i]?,j with
  | some (.ow ds),.int j=>match ixN ds.length j with
   | some n=>some (.nx (e2.set i (.ow (ds.set n d))))
   | none=>none
  | _,_=>none
section
variable {K:W.Frag}{cl:Str→Addr}{E:XK}{σ:St}{H F:Hp}{env:DE}
theorem Gr.fx{H' F':Hp}(g:Gr H F H' F'):FX σ H F env H' F':=⟨g.fz,g.sub,fun a o h f _=>g.hid a o h f,g.dom⟩
theorem a7V{g:List D→Option R1}{ds:List D}{vs:List V}{Q:VK}(R:Rel K cl σ H F env)(p:Rps K cl F ds vs)(h:Ct K cl E (PZ K cl) (toZ (g ds) env) σ H F env Q):l5 K cl g (vs++[]) H Q E:=by
 rw[List.append_nil]
 refine⟨ds,F,R.sub,p,?_⟩
 unfold toZ at h
 split at h
 ·exact h.elim
 ·exact fun v H' F' gr r=>h v H' F' (R.frm gr) (R.gr gr) r
 ·rename_i es _
  intro a xs H' F' gr ha hH hF r
  have sF:Same F' (upd F' a (.lst xs)):=V5 hF _
  have gr':Gr H F H' (upd F' a (.lst xs)):=by
   refine⟨gr.fz.trans sF,fun b o z=>?_,fun b o hb fb=>?_⟩
   ·by_cases y:b=a
    ·subst y;rw[i8]at z;cases z;exact hH
    ·rw[g8 y]at z;exact gr.sub _ _ z
   ·obtain⟨h1,f1⟩:=gr.hid b o hb fb
    have nb:b≠a:=fun z=>by rw[z,ha]at hb;cases hb
    exact⟨h1,by rw[g8 nb];exact f1⟩
  exact h _ H' _ (R.frm gr') (R.gr gr') (by show Rp K cl _ (.lst es) _;simp only[Rp];exact⟨a,xs,rfl,i8,r.mono sF⟩)
 ·exact h.elim
 ·exact h.elim
 ·exact fun H' F' gr=>h H' F' gr.fx
theorem a9j{r:Option R1}{e:DE}{P:Py D V}{Q:VK}(h:Ct K cl E P (a0s r e) σ H F env Q):toZ r e=a0s r e∧∀c,r≠some (.ex c):=by
 unfold a0s at h
 split at h
 ·exact⟨rfl,fun c z=>by cases z⟩
 ·exact⟨rfl,fun c z=>by cases z⟩
 ·exact h.elim
theorem a9k{g:List D→Option R1}{t:TA}{f:AF}(hf:T5 K cl E t f):t5 K cl E (a0Z (l5 K cl g) [] E t) (W7 g f):=by
 intro σ H Q env F R h
 refine hf σ H _ env F R ((Ct.bnd h M3).mono fun vs H1 ⟨F1,e1,ds,s1,R1,p1,h1⟩=>a7V R1 p1 h1)
theorem A2{g:List D→Option R1}{t:TA}{f:AF}(hf:T5 K cl E t f):t5 K cl E (a0Z (l5 K cl g) [] E0 t) (l6 g f):=by
 intro σ H Q env F R h
 refine hf σ H _ env F R ((Ct.bnd h M3).mono fun vs H1 ⟨F1,e1,ds,s1,R1,p1,h1⟩=>?_)
 refine a7V R1 p1 ?_
 obtain⟨z,n⟩:=a9j h1
 rw[z]
 unfold Ct at h1 ⊢
 split at h1
 ·exact h1
 ·exact h1
 ·rename_i c q
  exact absurd q (by unfold a0s;split<;>intro y<;>cases y)
theorem u7:RfS K cl E b3j m7:=fun N σ H env F R h=>h σ H F Frm.refl R
theorem h9{t u:TS}{f k:SF}(hf:RfS K cl E t f)(hk:RfS K cl E u k):RfS K cl E (b1V t u) (f9 f k):=by
 intro N σ H env F R h
 refine hf _ σ H env F R ?_
 unfold f9 at h
 split at h
 ·rename_i e1 q
  rw[q]
  intro σ' H' F' fr R'
  exact hk N σ' H' e1 F' R' (h.from fr)
 ·rename_i n
  unfold Cs at h ⊢
  split at h
  ·exact h
  ·rename_i e q;exact absurd q (n e)
  all_goals exact h
theorem Z2{i:Nat}{s:Sl}{e:DE}{N:Ends}{σ0:St}{H0 F0:Hp}{env0:DE}(h:Cs K cl E (put i s e) σ0 H0 F0 env0 N):i<e.length∧(∀ds,e[i]?≠some (.hd ds))∧Cs K cl E (some (.nx (e.set i s))) σ0 H0 F0 env0 N:=by
 unfold put at h
 split at h
 ·exact h.elim
 ·exact h.elim
 ·rename_i z n q
  exact⟨(List.getElem?_eq_some_iff.mp q).1,fun ds y=>by rw[q]at y;cases y;exact n ds rfl,h⟩
theorem A3{i:Nat}{t:TE}{f:ZF}(hf:t5 K cl E t f):RfS K cl E (a21 t (a0W i)) (p6 i f):=by
 intro N σ H env F R h
 refine hf σ H _ env F R ((Cs.bnd h).mono fun x H1 ⟨F1,e1,d,fr,R1,p1,h1⟩=>?_)
 obtain⟨hi,nh,h2⟩:=Z2 h1
 exact h2 _ H1 F1 (fr.trans (Frm.put nh)) (R1.put hi nh p1)
theorem R9{i:Nat}{t:TE}{f:NF}(hf:RfN K cl E t f):RfS K cl E (a21 t (a0W i)) (r9 i f):=by
 intro N σ H env F R h
 refine hf σ H _ env F R ((Cs.bnd h).mono fun x H1 ⟨F1,e1,ds,fr,R1,p1,h1⟩=>?_)
 obtain⟨a,xs,rfl,hn,hH,hF,nm,r⟩:=p1
 obtain⟨hi,nh,h2⟩:=Z2 h1
 exact h2 _ H1 F1 (fr.putO hn nh) (R1.putO hi hH hF nm r)
theorem l7{t:TE}{f:ZF}(hf:t5 K cl E t f):RfS K cl E (a9J t) (i5 f):=by
 intro N σ H env F R h
 exact hf σ H _ env F R ((Cs.bnd h).mono fun x H1 ⟨F1,e1,d,fr,R1,p1,h1⟩=>h1 x H1 F1 (fr.toFX R1.sub) p1)
theorem b4d{t:TE}{f:NF}(hf:RfN K cl E t f):RfS K cl E (a9J t) (a2D f):=by
 intro N σ H env F R h
 refine hf σ H _ env F R ((Cs.bnd h).mono fun x H1 ⟨F1,e1,ds,fr,R1,p1,h1⟩=>?_)
 obtain⟨a,xs,rfl,hn,hH,hF,nm,r⟩:=p1
 exact h1 a xs H1 F1 (fr.toFX R1.sub) hH hF (fun o e=>by rw[hn]at e;cases e) r
theorem a9l{i:Nat}:RfS K cl E (a9J (O4 i)) (N5 i):=by
 intro N σ H env F R h
 unfold N5 at h
 split at h
 ·rename_i d q
  obtain⟨v,e,r⟩:=R.fz i d q
  exact⟨v,e,h v H F (Frm.refl.toFX R.sub) r⟩
 ·rename_i ds q
  obtain⟨a,xs,e,hH,hF,r⟩:=R.mu i ds (.inl q)
  exact⟨_,e,h a xs H F (Frm.refl.toFX R.sub) hH hF (fun o _=>⟨i,.ow ds,True.intro,q,e⟩) r⟩
 ·exact h.elim
theorem r0{c:TT}{t u:TS}{b:BF}{f k:SF}(hc:R8 K cl E c b)(hf:RfS K cl E t f)(hk:RfS K cl E u k):RfS K cl E (b46 c t u) (m5 b f k):=by
 intro N σ H env F R h
 refine hc σ H _ env F R ((Cs.bnd h).mono fun x H1 ⟨F1,e1,d,fr,R1,p1,h1⟩=>?_)
 cases (show x=d from p1)
 by_cases z:x=true
 ·rw[if_pos z]at h1 ⊢;exact hf N σ H1 e1 F1 R1 (h1.from fr)
 ·rw[if_neg z]at h1 ⊢;exact hk N σ H1 e1 F1 R1 (h1.from fr)
theorem b6w{t:TE}{f:ZF}(hf:t5 K cl E t f):RfS K cl E (a9I t) (sEx f):=by
 intro N σ H env F R h
 exact hf σ H _ env F R ((Cs.bnd h).mono fun x H1 ⟨F1,e1,d,fr,R1,p1,h1⟩=>h1 σ H1 F1 fr R1)
theorem b2D{c:Str}{t:TA}{f:AF}(hf:T5 K cl E t f):RfS K cl E (b0P (cl c) E t) (a0t c f):=by
 intro N σ H env F R h
 refine hf σ H _ env F R ((Cs.bnd h).mono fun xs H1 ⟨F1,e1,ds,fr,R1,p1,h1⟩=>?_)
 have hl:ds.length=xs.length:=Rps.length p1
 split at h1
 ·rename_i z
  exact⟨by rw[← hl];exact z,h1 H1 F1 (fr.toFX R1.sub) none rfl⟩
 ·exact h1.elim
theorem a6q{i:Nat}{g:List D→Option R1}{t:TA}{f:AF}(hf:T5 K cl E t f):RfS K cl E (a21 (a0Z (l5 K cl g) [] E t) (a0W i)) (J4 i g f):=by
 intro N σ H env F R h
 refine hf σ H _ env F R ((Cs.bnd h).mono fun vs H1 ⟨F1,e1,ds,fr,R1,p1,h1⟩=>?_)
 show l5 K cl g (vs++[]) H1 _ E
 rw[List.append_nil]
 refine⟨ds,F1,R1.sub,p1,?_⟩
 unfold P6 at h1
 split at h1
 ·exact h1.elim
 ·obtain⟨hi,nh,h2⟩:=Z2 h1
  exact fun v H' F' gr r=>h2 _ H' F' ((fr.trans (R1.frm gr)).trans (Frm.put nh)) ((R1.gr gr).put hi nh r)
 ·obtain⟨hi,nh,h2⟩:=Z2 h1
  intro a xs H' F' gr ha hH hF r
  refine h2 _ H' F' ((fr.trans (R1.frm gr)).putO (fr.dom a ha) nh) ((R1.gr gr).putO hi hH hF (fun j mj e=>?_) r)
  obtain⟨es,q⟩:=mj
  obtain⟨b,ys,e',hb,_⟩:=R1.mu j es q
  rw[e]at e';cases e'
  rw[ha]at hb;cases hb
 ·exact h1.elim
 ·exact h1.elim
 ·exact fun H' F' gr=>h1 H' F' (fr.fx gr.fx)
theorem a7W{i:Nat}{g:List D→Option R1}{t:TA}{f:AF}(hf:T5 K cl E t f):RfS K cl E (a21 (a0Z (l5 K cl g) [] E0 t) (a0W i)) (A1 i g f):=by
 intro N σ H env F R h
 refine hf σ H _ env F R ((Cs.bnd h).mono fun vs H1 ⟨F1,e1,ds,fr,R1,p1,h1⟩=>?_)
 show l5 K cl g (vs++[]) H1 _ E0
 rw[List.append_nil]
 refine⟨ds,F1,R1.sub,p1,?_⟩
 unfold X7 at h1
 split at h1
 ·rename_i q;rw[q]
  obtain⟨hi,nh,h2⟩:=Z2 h1
  exact fun v H' F' gr r=>h2 _ H' F' ((fr.trans (R1.frm gr)).trans (Frm.put nh)) ((R1.gr gr).put hi nh r)
 ·rename_i q;rw[q]
  obtain⟨hi,nh,h2⟩:=Z2 h1
  intro a xs H' F' gr ha hH hF r
  refine h2 _ H' F' ((fr.trans (R1.frm gr)).putO (fr.dom a ha) nh) ((R1.gr gr).putO hi hH hF (fun j mj e=>?_) r)
  obtain⟨es,q⟩:=mj
  obtain⟨b,ys,e',hb,_⟩:=R1.mu j es q
  rw[e]at e';cases e'
  rw[ha]at hb;cases hb
 ·exact h1.elim
theorem Rel.change{i:Nat}{ds es:List D}{a:Addr}{ys:List V}(R:Rel K cl σ H F env)(h:env[i]? = some (.ow ds))(e:σ[i]? = some (some (.ref a)))(r:Rps K cl F es ys) :
  Rel K cl σ (upd H a (.lst ys)) F (env.set i (.ow es))∧Frm σ H F env σ (upd H a (.lst ys)) F (env.set i (.ow es)):=by
 obtain⟨a',xs,e',hH,hF,_⟩:=R.mu i ds (.inl h)
 rw[e]at e';cases e'
 have hi:i<env.length:=(List.getElem?_eq_some_iff.mp h).1
 have self:(env.set i (.ow es))[i]? = some (.ow es):=List.getElem?_set_self hi
 have oth:∀j,j≠i→(env.set i (.ow es))[j]? = env[j]?:=fun j hj=>List.getElem?_set_ne (Ne.symm hj)
 have mui:∀j,Mu (env.set i (.ow es)) j→Mu env j:=fun j ⟨fs,q⟩=>by
  by_cases z:j=i
  ·subst z;exact⟨ds,.inl h⟩
  ·rw[oth j z]at q;exact⟨fs,q⟩
 refine⟨⟨fun b o q=>?_,by rw[List.length_set];exact R.len,fun j d q=>?_,fun j fs q=>?_,fun j k b hj hk=>R.inj j k b (mui j hj) (mui k hk),(R.od.updL hH).setE a2B⟩,⟨Same.refl _,fun b o hb fb w=>?_,fun j fs q=>?_,fun b q=>?_⟩⟩
 ·have z:b≠a:=fun z=>by rw[z,hF]at q;cases q
  rw[g8 z];exact R.sub _ _ q
 ·have z:j≠i:=fun z=>by subst z;rw[self]at q;cases q
  rw[oth j z]at q;exact R.fz j d q
 ·by_cases z:j=i
  ·subst z
   rw[self]at q
   rcases q with q | q
   ·cases q;exact⟨a,ys,e,i8,hF,r⟩
   ·cases q
  ·rw[oth j z]at q
   obtain⟨b,zs,e1,h1,f1,r1⟩:=R.mu j fs q
   have nb:b≠a:=fun y=>z (R.inj j i b ⟨fs,q⟩ ⟨ds,.inl h⟩ e1 (by rw[y];exact e))
   exact⟨b,zs,e1,by rw[g8 nb];exact h1,f1,r1⟩
 ·have z:b≠a:=fun z=>w ⟨i,.ow ds,True.intro,h,by rw[z];exact e⟩
  refine⟨by rw[g8 z];exact hb,fb,fun⟨j,fs,oo,q,e1⟩=>?_⟩
  by_cases y:j=i
  ·subst y;rw[e]at e1;cases e1;exact z rfl
  ·rw[oth j y]at q;exact w ⟨j,fs,oo,q,e1⟩
 ·have z:j≠i:=fun z=>by subst z;rw[h]at q;cases q
  exact⟨by rw[oth j z];exact q,rfl⟩
 ·by_cases z:b=a
  ·rw[z,i8]at q;cases q
  ·rw[g8 z]at q;exact q
theorem a0u{i:Nat}{t:TE}{f:ZF}(hf:t5 K cl E t f):RfS K cl E (a9I (tBM K "list" a85 (O4 i) (P5 t a1h))) (D4 i f):=by
 intro N σ H env F R h
 unfold D4 at h
 split at h
 ·rename_i ds0 q
  obtain⟨x,e0,rb⟩:=R.look q
  obtain⟨a0,xs0,rfl,hH0,_⟩:=rb.lst R.sub
  refine⟨_,e0,.inl ⟨rfl,xs0,.of hH0⟩,?_⟩
  ·refine hf σ H _ env F R ((Cs.bnd h).mono fun y H1 ⟨F1,e1,d,fr,R1,p1,h1⟩=>?_)
   split at h1
   ·rename_i ds q1
    split at h1
    ·rename_i c
     obtain⟨a,xs,e,hH,hF,r⟩:=R1.mu i ds (.inl q1)
     rw[e0]at e;cases e
     obtain⟨R2,f2⟩:=R1.change q1 e0 (r.append (.one p1))
     exact⟨_,xs,y,rfl,rfl,hH,by rw[← r.length];exact c,h1 σ _ F1 (fr.trans f2) R2⟩
    ·exact h1.elim
   ·exact h1.elim
 ·exact h.elim
end
abbrev GF:=D→DE→Option DE
def g6(i:Nat):GF:=fun d e=>match e[i]? with
 | none=>none
 | some (.hd _)=>none
 | some _=>some (e.set i (.fz d))
def T9:List GF→List D→DE→Option DE
 | [],[],e=>some e
 | b::bs,d::ds,e=>match b d e with
  | none=>none
  | some e1=>T9 bs ds e1
 | _,_,_=>none
def w6(bs:List GF):GF:=fun d e=>match d with
 | .tup ds=>T9 bs ds e
 | _=>none
section
variable (K:W.Frag)(cl:Str→Addr)
def G7(k:Nat)(g:TG)(b:GF):Prop:=∀v σ H Q d env env' F,Rel K cl σ H F env→Rp K cl F d v→b d env=some env'→(∀σ',σ'.drop k=σ.drop k→σ'.length=σ.length→Frm σ H F env σ' H F env'→Rel K cl σ' H F env'→Q σ' H)→g v σ H Q
def b0c(k:Nat)(t:TGs)(bs:List GF):Prop:=∀vs σ H Q ds env env' F,Rel K cl σ H F env→Rps K cl F ds vs→T9 bs ds env=some env'→(∀σ',σ'.drop k=σ.drop k→σ'.length=σ.length→Frm σ H F env σ' H F env'→Rel K cl σ' H F env'→Q σ' H)→t vs σ H Q
end
section
variable {K:W.Frag}{cl:Str→Addr}{E:XK}{σ:St}{H F:Hp}{env:DE}{k:Nat}
theorem b2E{α:Type}{l:List α}{i k:Nat}{x:α}(h:i<k):(l.set i x).drop k=l.drop k:=by
 apply List.ext_getElem?
 intro j
 rw[List.getElem?_drop,List.getElem?_drop,List.getElem?_set_ne (by omega)]
theorem i6{i:Nat}(hi:i<k):G7 K cl k (a0W i) (g6 i):=by
 intro v σ H Q d env env' F R p h q
 unfold g6 at h
 split at h
 ·cases h
 ·cases h
 ·rename_i z n e
  cases h
  have nh:∀ds,env[i]?≠some (.hd ds):=fun ds y=>by rw[e]at y;cases y;exact n ds rfl
  exact q _ (b2E hi) List.length_set (Frm.put nh) (R.put (List.getElem?_eq_some_iff.mp e).1 nh p)
theorem G0:b0c K cl k b47 []:=by
 intro vs σ H Q ds env env' F R p h q
 cases ds with
 | nil=>cases h;exact⟨p.inv0,q σ rfl rfl Frm.refl R⟩
 | cons _ _=>cases h
theorem m4{t:TG}{u:TGs}{b:GF}{bs:List GF}(h1:G7 K cl k t b)(h2:b0c K cl k u bs):b0c K cl k (b3k t u) (b::bs):=by
 intro vs σ H Q ds env env' F R p h q
 cases ds with
 | nil=>cases h
 | cons d ds =>
  obtain⟨v,r,rfl,p1,p2⟩:=p.inv
  unfold T9 at h
  split at h
  ·cases h
  ·rename_i e1 hb
   refine⟨v,r,rfl,h1 v σ H _ d env e1 F R p1 hb fun σ1 d1 l1 f1 R1=>?_⟩
   exact h2 r σ1 H _ ds e1 env' F R1 p2 h fun σ2 d2 l2 f2 R2=>q σ2 (d2.trans d1) (l2.trans l1) (f1.trans f2) R2
theorem a6V:∀{bs:List GF} {ds:List D} {e e':DE},T9 bs ds e=some e'→ds.length=bs.length
 | [],[],_,_,_=>rfl
 | [],_::_,_,_,h=>by cases h
 | _::_,[],_,_,h=>by cases h
 | b::bs,d::ds,e,e',h=>by
  unfold T9 at h
  split at h
  ·cases h
  ·simp[a6V h]
theorem G1{t:TGs}{bs:List GF}{n:Nat}(h:b0c K cl k t bs)(hn:bs.length=n):G7 K cl k (b1W K n t) (w6 bs):=by
 intro v σ H Q d env env' F R p e q
 unfold w6 at e
 split at e
 ·rename_i ds
  simp only[Rp]at p
  obtain⟨a,xs,rfl,hF,r⟩:=p
  exact⟨a,xs,rfl,.of (R.sub _ _ hF),by rw[← r.length,a6V e,hn],h xs σ H Q ds env env' F R r e q⟩
 ·cases e
def Q1(f:ZF)(b:GF):SF:=fun e=>v8 (f e) fun d e1=>match b d e1 with
 | none=>none
 | some e2=>some (.nx e2)
theorem a0v{t:TE}{g:TG}{f:ZF}{b:GF}(hf:t5 K cl E t f)(hg:G7 K cl k g b):RfS K cl E (a21 t g) (Q1 f b):=by
 intro N σ H env F R h
 refine hf σ H _ env F R ((Cs.bnd h).mono fun x H1 ⟨F1,e1,d,fr,R1,p1,h1⟩=>?_)
 split at h1
 ·exact h1.elim
 ·rename_i e2 hb
  exact hg x σ H1 _ d e1 e2 F1 R1 p1 hb fun σ' _ _ f2 R2=>h1 σ' H1 F1 (fr.trans f2) R2
def l9(b:GF)(body:SF):List D→DE→Option RS
 | [],e=>some (.nx e)
 | d::ds,e=>match b d e with
  | none=>none
  | some e1=>match body e1 with
   | some (.nx e2)=>l9 b body ds e2
   | some (.ct e2)=>l9 b body ds e2
   | some (.bk e2)=>some (.nx e2)
   | r=>r
theorem Q2{b:GF}{body:SF}{g:TG}{tb:TS}{d:D}{x:V}{ds:List D}{e1:DE}{N:Ends}{σ1:St}{H1 F1:Hp}{Pv:St→Hp→Prop}(hb:RfS K cl E tb body)(hg:G7 K cl k g b)
  (f1:Frm σ H F env σ1 H1 F1 e1) (R1:Rel K cl σ1 H1 F1 e1) (p:Rp K cl F1 d x) (h:Cs K cl E (l9 b body (d::ds) e1) σ H F env N)
  (hP:∀σ' H' F' e',Frm σ H F env σ' H' F' e'→Rel K cl σ' H' F' e'→Cs K cl E (l9 b body ds e') σ H F env N→Pv σ' H') :
  g x σ1 H1 fun σ2 H2=>tb { N with nx:=Pv,ct:=Pv,bk:=N.nx } σ2 H2:=by
 unfold l9 at h
 split at h
 ·exact h.elim
 ·rename_i e2 hbd
  refine hg x σ1 H1 _ d e1 e2 F1 R1 p hbd fun σ2 _ _ f2 R2=>?_
  refine hb _ σ2 H1 e2 F1 R2 ?_
  split at h
  ·rename_i e3 q;rw[q]
   exact fun σ' H' F' f3 R3=>hP σ' H' F' e3 ((f1.trans f2).trans f3) R3 h
  ·rename_i e3 q;rw[q]
   exact fun σ' H' F' f3 R3=>hP σ' H' F' e3 ((f1.trans f2).trans f3) R3 h
  ·rename_i e3 q;rw[q]
   exact fun σ' H' F' f3 R3=>h σ' H' F' ((f1.trans f2).trans f3) R3
  ·rename_i n1 n2 n3
   have h2:=h.from (f1.trans f2)
   unfold Cs at h2 ⊢
   split at h2
   ·exact h2
   ·rename_i e q;exact absurd q (n1 e)
   ·rename_i e q;exact absurd q (n3 e)
   ·rename_i e q;exact absurd q (n2 e)
   ·exact h2
   ·exact h2
   ·exact h2
   ·exact h2
   ·exact h2
theorem D9{α:Type}{l:List α}{i:Nat}{x:α}(h:l[i]? = some x):l.drop i=x::l.drop (i+1):=by
 obtain⟨hi,e⟩:=List.getElem?_eq_some_iff.mp h
 rw[← e];exact List.drop_eq_getElem_cons hi
theorem b66{b:GF}{body:SF}{g:TG}{tb:TS}{ds:List D}{xs:List V}{a:Addr}{N:Ends}(hb:RfS K cl E tb body)(hg:G7 K cl k g b)(R:Rel K cl σ H F env)
  (hl:∀σ' H' F' e',Frm σ H F env σ' H' F' e'→Rel K cl σ' H' F' e'→SqL K H' a xs) (r:Rps K cl F ds xs) (h:Cs K cl E (l9 b body ds env) σ H F env N) :
  ∃W:Nat→Nat→St→Hp→Prop,(∃m,W 0 m σ H)∧∀i m σ H,W i m σ H →
   ((Itl K a).stop i H∧N.nx σ H)∨((Itl K a).go i H∧∃M:St→Hp→Prop,(∀σ' H',M σ' H'→∃m',m'<m∧W (i+1) m' σ' H')∧∀x H',(Itl K a).yld i H x H'→g x σ H' fun σ2 H2=>tb { N with nx:=M,ct:=M,bk:=N.nx } σ2 H2):=by
 refine b1Z (xs:=xs) (fun i σ' H'=>∃F' e',Frm σ H F env σ' H' F' e'∧Rel K cl σ' H' F' e'∧Cs K cl E (l9 b body (ds.drop i) e') σ H F env N) ⟨F,env,Frm.refl,R,h⟩ (fun i σ' H' _ ⟨F',e',f,R',_⟩=>hl σ' H' F' e' f R') (fun i x σ' H' hx ⟨F',e',f,R',h'⟩=>?_) (fun σ' H' ⟨F',e',f,R',h'⟩=>?_)
 ·obtain⟨d,hd,p⟩:=r.get' hx
  rw[D9 hd]at h'
  exact Q2 hb hg f R' (Rp.mono f.fz _ _ p) h' fun σ2 H2 F2 e2 f2 R2 h2=>⟨F2,e2,f2,R2,h2⟩
 ·rw[← r.length,List.drop_length]at h'
  exact h' σ' H' F' f R'
theorem b67{b:GF}{body:SF}{g:TG}{tb:TS}{ds:List D}{xs:List V}{a:Addr}{N:Ends}(hb:RfS K cl E tb body)(hg:G7 K cl k g b)(R:Rel K cl σ H F env)
  (hl:∀σ' H' F' e',Frm σ H F env σ' H' F' e'→Rel K cl σ' H' F' e'→SqT K H' a xs) (r:Rps K cl F ds xs) (h:Cs K cl E (l9 b body ds env) σ H F env N) :
  ∃W:Nat→Nat→St→Hp→Prop,(∃m,W 0 m σ H)∧∀i m σ H,W i m σ H →
   ((Itt K a).stop i H∧N.nx σ H)∨((Itt K a).go i H∧∃M:St→Hp→Prop,(∀σ' H',M σ' H'→∃m',m'<m∧W (i+1) m' σ' H')∧∀x H',(Itt K a).yld i H x H'→g x σ H' fun σ2 H2=>tb { N with nx:=M,ct:=M,bk:=N.nx } σ2 H2):=by
 refine b3Q (xs:=xs) (fun i σ' H'=>∃F' e',Frm σ H F env σ' H' F' e'∧Rel K cl σ' H' F' e'∧Cs K cl E (l9 b body (ds.drop i) e') σ H F env N) ⟨F,env,Frm.refl,R,h⟩ (fun i σ' H' _ ⟨F',e',f,R',_⟩=>hl σ' H' F' e' f R') (fun i x σ' H' hx ⟨F',e',f,R',h'⟩=>?_) (fun σ' H' ⟨F',e',f,R',h'⟩=>?_)
 ·obtain⟨d,hd,p⟩:=r.get' hx
  rw[D9 hd]at h'
  exact Q2 hb hg f R' (Rp.mono f.fz _ _ p) h' fun σ2 H2 F2 e2 f2 R2 h2=>⟨F2,e2,f2,R2,h2⟩
 ·rw[← r.length,List.drop_length]at h'
  exact h' σ' H' F' f R'
def seqL:D→Option (List D)
 | .lst ds=>some ds
 | .scr ns=>some (ns.map .int)
 | _=>none
theorem Rp.seqL{d:D}{ds:List D}{v:V}(p:Rp K cl F d v)(s:L2.seqL d=some ds):∃a xs,v=.ref a∧Rps K cl F ds xs∧∀H',Same F H'→SqL K H' a xs:=by
 unfold L2.seqL at s
 split at s
 ·cases s;simp only[Rp]at p
  obtain⟨a,xs,e,h,r⟩:=p
  exact⟨a,xs,e,r,fun H' g=>.of (g _ _ h)⟩
 ·cases s;simp only[Rp]at p
  obtain⟨a,e,h⟩:=p
  exact⟨a,_,e,Rps.ofInts,fun H' g=>(h.same g).seq⟩
 ·cases s
def a3o(f:ZF)(b:GF)(body:SF):SF:=fun e=>v8 (f e) fun d e1=>match seqL d with
 | none=>none
 | some ds=>l9 b body ds e1
theorem b5R{t:TE}{g:TG}{tb:TS}{f:ZF}{b:GF}{body:SF}(hf:t5 K cl E t f)(hg:G7 K cl k g b)(hb:RfS K cl E tb body):RfS K cl E (a4G (a9L K t) g tb) (a3o f b body):=by
 intro N σ H env F R h
 refine hf σ H _ env F R ((Cs.bnd h).mono fun x H1 ⟨F1,e1,d,fr,R1,p1,h1⟩=>?_)
 split at h1
 ·exact h1.elim
 ·rename_i ds hs
  obtain⟨a,xs,rfl,r,hl⟩:=Rp.seqL p1 hs
  exact⟨a,rfl,⟨xs,hl H1 R1.sub⟩,b66 hb hg R1 (fun σ' H' F' e' f2 R2=>hl H' (f2.fz.trans R2.sub)) r (h1.from fr)⟩
def L5(f:ZF)(b:GF)(body:SF):SF:=fun e=>v8 (f e) fun d e1=>match d with
 | .tup ds=>l9 b body ds e1
 | _=>none
theorem b4e{t:TE}{g:TG}{tb:TS}{f:ZF}{b:GF}{body:SF}(hf:t5 K cl E t f)(hg:G7 K cl k g b)(hb:RfS K cl E tb body):RfS K cl E (a4G (b49 K t) g tb) (L5 f b body):=by
 intro N σ H env F R h
 refine hf σ H _ env F R ((Cs.bnd h).mono fun x H1 ⟨F1,e1,d,fr,R1,p1,h1⟩=>?_)
 split at h1
 ·have p1:=(show Rp K cl F1 (.tup _) x from p1)
  simp only[Rp]at p1
  obtain⟨a,xs,rfl,hF,r⟩:=p1
  exact⟨a,rfl,⟨xs,.of (R1.sub _ _ hF)⟩,b67 hb hg R1 (fun σ' H' F' e' f2 R2=>.of (R2.sub _ _ (f2.fz _ _ hF))) r (h1.from fr)⟩
 ·exact h1.elim
def J5(lo:Int)(n:Nat):List D:=(List.range n).map fun(i:Nat)=>.int (lo+(i:Int))
theorem a6W{lo:Int}{n i:Nat}(h:i<n):(J5 lo n).drop i=.int (lo+i)::(J5 lo n).drop (i+1):=D9 (by unfold J5;rw[List.getElem?_map,List.getElem?_range h];rfl)
theorem a7X{lo:Int}{n:Nat}:(J5 lo n).length=n:=by unfold J5;rw[List.length_map,List.length_range]
theorem b68{b:GF}{body:SF}{g:TG}{tb:TS}{lo:Int}{n:Nat}{N:Ends}(hb:RfS K cl E tb body)(hg:G7 K cl k g b)(R:Rel K cl σ H F env)(h:Cs K cl E (l9 b body (J5 lo n) env) σ H F env N) :
  ∃W:Nat→Nat→St→Hp→Prop,(∃m,W 0 m σ H)∧∀i m σ H,W i m σ H →
   ((Itr lo n).stop i H∧N.nx σ H)∨((Itr lo n).go i H∧∃M:St→Hp→Prop,(∀σ' H',M σ' H'→∃m',m'<m∧W (i+1) m' σ' H')∧∀x H',(Itr lo n).yld i H x H'→g x σ H' fun σ2 H2=>tb { N with nx:=M,ct:=M,bk:=N.nx } σ2 H2):=by
 refine b0E (fun i σ' H'=>∃F' e',Frm σ H F env σ' H' F' e'∧Rel K cl σ' H' F' e'∧Cs K cl E (l9 b body ((J5 lo n).drop i) e') σ H F env N) ⟨F,env,Frm.refl,R,h⟩ (fun i σ' H' hx ⟨F',e',f,R',h'⟩=>?_) (fun σ' H' ⟨F',e',f,R',h'⟩=>?_)
 ·rw[a6W hx]at h'
  exact Q2 hb hg f R' (by simp only[Rp]) h' fun σ2 H2 F2 e2 f2 R2 h2=>⟨F2,e2,f2,R2,h2⟩
 ·rw[show(J5 lo n).drop n=[]from List.drop_eq_nil_of_le (by rw[a7X];exact Nat.le_refl _)]at h'
  exact h' σ' H' F' f R'
def Z3(ds:List D):Option (Int×Nat):=match ds with
 | [.int j]=>if -(2 ^ 62)≤j∧j<2 ^ 62 then some (0,j.toNat)else none
 | _=>none
theorem a9m{ds:List D}{vs:List V}{lo:Int}{n:Nat}(h:Z3 ds=some (lo,n))(p:Rps K cl F ds vs):∃j:Int,vs=[.int j]∧-(2 ^ 62)≤j∧j<2 ^ 62∧lo=0∧n=j.toNat:=by
 unfold Z3 at h
 split at h
 ·rename_i j
  split at h
  ·rename_i c;cases h
   exact⟨j,(Rps.ints (ns:=[j]) p),c.1,c.2,rfl,rfl⟩
  ·cases h
 ·cases h
def P7(rg:List D→Option (Int×Nat))(f:AF)(b:GF)(body:SF):SF:=fun e=>v8 (f e) fun ds e1=>match rg ds with
 | none=>none
 | some (lo,n)=>l9 b body (J5 lo n) e1
theorem a7Y{t:TA}{g:TG}{tb:TS}{f:AF}{b:GF}{body:SF}(hf:T5 K cl E t f)(hg:G7 K cl k g b)(hb:RfS K cl E tb body):RfS K cl E (a4G (a9M t) g tb) (P7 Z3 f b body):=by
 intro N σ H env F R h
 refine hf σ H _ env F R ((Cs.bnd h).mono fun x H1 ⟨F1,e1,ds,fr,R1,p1,h1⟩=>?_)
 split at h1
 ·exact h1.elim
 ·rename_i lo n hs
  obtain⟨j,e,c1,c2,rfl,rfl⟩:=a9m hs p1
  exact⟨j,e,c1,c2,b68 hb hg R1 (h1.from fr)⟩
def B5(c:BF)(body:SF):Nat→SF
 | 0,_=>none
 | n+1,e=>v8 (c e) fun b e1=>if b=true then(match body e1 with
   | some (.nx e2)=>B5 c body n e2
   | some (.ct e2)=>B5 c body n e2
   | some (.bk e2)=>some (.nx e2)
   | r=>r)else some (.nx e1)
theorem b2F{tc:TT}{tb:TS}{c:BF}{body:SF}{n:Nat}(hc:R8 K cl E tc c)(hb:RfS K cl E tb body):RfS K cl E (b0B tc tb) (B5 c body n):=by
 intro N σ H env F R h
 refine⟨fun m σ' H'=>∃F' e',Rel K cl σ' H' F' e'∧Cs K cl E (B5 c body m e') σ' H' F' e' N,⟨n,F,env,R,h⟩,?_⟩
 rintro m σ1 H1 ⟨F1,e1,R1,h1⟩
 cases m with
 | zero=>exact h1.elim
 | succ m =>
  refine hc σ1 H1 _ e1 F1 R1 ((Cs.bnd h1).mono fun x H2 ⟨F2,e2,d,f2,R2,p2,h2⟩=>?_)
  cases (show x=d from p2)
  by_cases z:x=true
  ·rw[if_pos z]at h2 ⊢
   refine⟨fun σ' H'=>∃F' e',Rel K cl σ' H' F' e'∧Cs K cl E (B5 c body m e') σ' H' F' e' N,fun σ' H' q=>⟨m,Nat.lt_succ_self m,q⟩,?_⟩
   refine hb _ σ1 H2 e2 F2 R2 ?_
   split at h2
   ·rename_i e3 q;rw[q]
    exact fun σ' H' F' f3 R3=>⟨F',e3,R3,h2.from (f2.trans f3)⟩
   ·rename_i e3 q;rw[q]
    exact fun σ' H' F' f3 R3=>⟨F',e3,R3,h2.from (f2.trans f3)⟩
   ·rename_i e3 q;rw[q]
    exact fun σ' H' F' f3 R3=>h2 σ' H' F' (f2.trans f3) R3
   ·rename_i n1 n2 n3
    have h3:=h2.from f2
    unfold Cs at h3 ⊢
    split at h3
    ·exact h3
    ·rename_i e q;exact absurd q (n1 e)
    ·rename_i e q;exact absurd q (n3 e)
    ·rename_i e q;exact absurd q (n2 e)
    ·exact h3
    ·exact h3
    ·exact h3
    ·exact h3
    ·exact h3
  ·rw[if_neg z]at h2 ⊢;exact h2 σ1 H2 F2 f2 R2
end
section
variable {K:W.Frag}{cl:Str→Addr}{E:XK}{σ:St}{H F:Hp}{env:DE}{k:Nat}
def unhide(i:Nat)(ds:List D)(r:Option RS):Option RS:=match r with
 | some (.nx e)=>some (.nx (e.set i (.ow ds)))
 | some (.bk _)=>none
 | some (.ct _)=>none
 | r=>r
theorem Rel.hide{i:Nat}{ds:List D}(R:Rel K cl σ H F env)(h:env[i]? = some (.ow ds)):Rel K cl σ H F (env.set i (.hd ds)):=by
 have hi:i<env.length:=(List.getElem?_eq_some_iff.mp h).1
 have self:(env.set i (.hd ds))[i]? = some (.hd ds):=List.getElem?_set_self hi
 have oth:∀j,j≠i→(env.set i (.hd ds))[j]? = env[j]?:=fun j hj=>List.getElem?_set_ne (Ne.symm hj)
 have mui:∀(j:Nat) (fs:List D),(env.set i (.hd ds))[j]? = some (.ow fs)∨(env.set i (.hd ds))[j]? = some (.hd fs)→env[j]? = some (.ow fs)∨env[j]? = some (.hd fs):=fun j fs q=>by
  by_cases z:j=i
  ·subst z;rw[self]at q;rcases q with q | q<;>cases q;exact .inl h
  ·rw[oth j z]at q;exact q
 refine⟨R.sub,by rw[List.length_set];exact R.len,fun j d q=>?_,fun j fs q=>R.mu j fs (mui j fs q),fun j l b ⟨fs,q⟩ ⟨gs,q'⟩=>R.inj j l b ⟨fs,mui j fs q⟩ ⟨gs,mui l gs q'⟩,R.od.setE a5p⟩
 have z:j≠i:=fun z=>by subst z;rw[self]at q;cases q
 rw[oth j z]at q;exact R.fz j d q
theorem Ow.hide{i:Nat}{ds:List D}{a:Addr}(w:Ow σ (env.set i (.hd ds)) a):Ow σ env a:=by
 obtain⟨j,fs,oo,q,e⟩:=w
 by_cases z:j=i
 ·subst z
  have hj:j<env.length:=by have:=(List.getElem?_eq_some_iff.mp q).1;rwa [List.length_set]at this
  rw[List.getElem?_set_self hj]at q;cases q;exact oo.elim
 ·rw[List.getElem?_set_ne (Ne.symm z)]at q;exact⟨j,fs,oo,q,e⟩
theorem Rel.unhide{i:Nat}{ds:List D}(R:Rel K cl σ H F env)(h:env[i]? = some (.hd ds)):Rel K cl σ H F (env.set i (.ow ds)):=by
 have hi:i<env.length:=(List.getElem?_eq_some_iff.mp h).1
 have self:(env.set i (.ow ds))[i]? = some (.ow ds):=List.getElem?_set_self hi
 have oth:∀j,j≠i→(env.set i (.ow ds))[j]? = env[j]?:=fun j hj=>List.getElem?_set_ne (Ne.symm hj)
 have mui:∀(j:Nat) (fs:List D),(env.set i (.ow ds))[j]? = some (.ow fs)∨(env.set i (.ow ds))[j]? = some (.hd fs)→env[j]? = some (.ow fs)∨env[j]? = some (.hd fs):=fun j fs q=>by
  by_cases z:j=i
  ·subst z;rw[self]at q;rcases q with q | q<;>cases q;exact .inr h
  ·rw[oth j z]at q;exact q
 refine⟨R.sub,by rw[List.length_set];exact R.len,fun j d q=>?_,fun j fs q=>R.mu j fs (mui j fs q),fun j l b ⟨fs,q⟩ ⟨gs,q'⟩=>R.inj j l b ⟨fs,mui j fs q⟩ ⟨gs,mui l gs q'⟩,R.od.setE a2B⟩
 have z:j≠i:=fun z=>by subst z;rw[self]at q;cases q
 rw[oth j z]at q;exact R.fz j d q
theorem Cs.hide{i:Nat}{ds:List D}{r:Option RS}{N:Ends}(R:Rel K cl σ H F env)(h:env[i]? = some (.ow ds))(c:Cs K cl E (unhide i ds r) σ H F env N):Cs K cl E r σ H F (env.set i (.hd ds)) N:=by
 have hi:i<env.length:=(List.getElem?_eq_some_iff.mp h).1
 have self:(env.set i (.hd ds))[i]? = some (.hd ds):=List.getElem?_set_self hi
 have fx:∀{H' F'},FX σ H F (env.set i (.hd ds)) H' F'→FX σ H F env H' F':=fun x=>⟨x.fz,x.sub,fun a o h f w=>x.hid a o h f fun y=>w y.hide,x.dom⟩
 rcases r with _ | r
 ·exact c
 cases r with
 | nx e =>
  intro σ' H' F' f R'
  obtain⟨q,eσ⟩:=f.keep i ds self
  refine c σ' H' F' ⟨f.fz,fun a o ha fa w=>?_,fun j fs q'=>?_,f.dom⟩ (R'.unhide q)
  ·obtain⟨h1,f1,w1⟩:=f.hid a o ha fa fun y=>w y.hide
   refine⟨h1,f1,fun⟨j,fs,oo,q2,e2⟩=>?_⟩
   by_cases z:j=i
   ·subst z
    rw[eσ]at e2
    exact w ⟨j,.ow ds,True.intro,h,e2⟩
   ·rw[List.getElem?_set_ne (Ne.symm z)]at q2
    exact w1 ⟨j,fs,oo,q2,e2⟩
  ·have z:j≠i:=fun z=>by subst z;rw[h]at q';cases q'
   obtain⟨q2,e2⟩:=f.keep j fs (by rw[List.getElem?_set_ne (Ne.symm z)];exact q')
   exact⟨by rw[List.getElem?_set_ne (Ne.symm z)];exact q2,e2⟩
 | bk e=>exact c.elim
 | ct e=>exact c.elim
 | rt d=>exact fun v H' F' x p=>c v H' F' (fx x) p
 | ro es=>exact fun a xs H' F' x ha fa nw p=>c a xs H' F' (fx x) ha fa (fun o e=>(nw o e).hide) p
 | rp n es=>exact fun p a xs H' F' x hp ht fp ha fa nw r=>c p a xs H' F' (fx x) hp ht fp ha fa (fun o e=>(nw o e).hide) r
 | rz dss=>exact fun p as H' F' x hp ht fp rz=>c p as H' F' (fx x) hp ht fp (rz.imp fun a xs ha fa nw o e=>(nw o e).hide)
 | ex n=>exact fun H' F' x=>c H' F' (fx x)
def a5w(i:Nat)(b:GF)(body:SF):SF:=fun e=>match e[i]? with
 | some (.fz d)=>(match seqL d with
  | none=>none
  | some ds=>l9 b body ds e)
 | some (.ow ds)=>unhide i ds (l9 b body ds (e.set i (.hd ds)))
 | some (.hd ds)=>l9 b body ds e
 | _=>none
theorem Rel.hid_stays{i:Nat}{ds:List D}(R:Rel K cl σ H F env)(h:env[i]? = some (.hd ds)):∃a xs,σ[i]? = some (some (.ref a))∧Rps K cl F ds xs∧H a=some (.lst xs)∧∀σ' H' F' e',Frm σ H F env σ' H' F' e'→H' a=some (.lst xs):=by
 obtain⟨a,xs,e,hH,hF,r⟩:=R.mu i ds (.inr h)
 refine⟨a,xs,e,r,hH,fun σ' H' F' e' f=>(f.hid a _ hH hF fun⟨j,fs,oo,q,e'⟩=>?_).1⟩
 cases fs with
 | ow fs =>
  have z:i=j:=R.inj i j a ⟨ds,.inr h⟩ ⟨fs,.inl q⟩ e e'
  subst z;rw[h]at q;cases q
 | od ks fs =>
  obtain⟨a',xs',e2,h2,_⟩:=R.od.at_ j _ ks fs q ⟨rfl,rfl⟩
  rw[e']at e2;cases e2
  rw[hH]at h2
  exact a9f (Option.some.inj h2).symm
 | no=>exact oo
 | fz _=>exact oo
 | hd _=>exact oo
 | hk _ _=>exact oo
def enD(n:Nat):List D→List D
 | []=>[]
 | d::ds=>.tup [.int n,d]::enD (n+1) ds
theorem a9n:∀{ds:List D} {n i:Nat} {d:D},ds[i]? = some d→(enD n ds)[i]? = some (.tup [.int (n+i:Nat),d])
 | [],_,_,_,h=>by simp at h
 | _::_,n,0,_,h=>by simp at h;subst h;rfl
 | _::ds,n,i+1,d,h=>by
  have:=a9n (ds:=ds) (n:=n+1) (i:=i) (d:=d) (by simpa using h)
  show(enD (n+1) ds)[i]? = _
  rw[this,show n+1+i=n+(i+1) by omega]
theorem a9o:∀{ds:List D} {n:Nat},(enD n ds).length=ds.length
 | [],_=>rfl
 | _::ds,n=>by show(enD (n+1) ds).length+1=ds.length+1;rw[a9o]
theorem b2G{b:GF}{body:SF}{g:TG}{tb:TS}{ds:List D}{xs:List V}{a:Addr}{N:Ends}(hb:RfS K cl E tb body)(hg:G7 K cl k g b)(R:Rel K cl σ H F env)
  (hl:∀σ' H' F' e',Frm σ H F env σ' H' F' e'→Rel K cl σ' H' F' e'→SqL K H' a xs) (r:Rps K cl F ds xs) (h:Cs K cl E (l9 b body (enD 0 ds) env) σ H F env N) :
  ∃W:Nat→Nat→St→Hp→Prop,(∃m,W 0 m σ H)∧∀i m σ H,W i m σ H →
   ((Ite K a).stop i H∧N.nx σ H)∨((Ite K a).go i H∧∃M:St→Hp→Prop,(∀σ' H',M σ' H'→∃m',m'<m∧W (i+1) m' σ' H')∧∀x H',(Ite K a).yld i H x H'→g x σ H' fun σ2 H2=>tb { N with nx:=M,ct:=M,bk:=N.nx } σ2 H2):=by
 refine b2e (xs:=xs) (fun i σ' H'=>∃F' e',Frm σ H F env σ' H' F' e'∧Rel K cl σ' H' F' e'∧Cs K cl E (l9 b body ((enD 0 ds).drop i) e') σ H F env N) ⟨F,env,Frm.refl,R,h⟩ (fun i σ' H' _ ⟨F',e',f,R',_⟩=>hl σ' H' F' e' f R') (fun i x σ' H' p hx ⟨F',e',f,R',h'⟩ hp=>?_) (fun σ' H' ⟨F',e',f,R',h'⟩=>?_)
 ·obtain⟨d,hd,pd⟩:=r.get' hx
  rw[D9 (a9n hd),Nat.zero_add]at h'
  have gr:Gr H' F' (upd H' p (.tup [.int i,x])) (upd F' p (.tup [.int i,x])):=.new R'.sub hp
  refine Q2 hb hg (f.trans (R'.frm gr)) (R'.gr gr) ?_ h' fun σ2 H2 F2 e2 f2 R2 h2=>⟨F2,e2,f2,R2,h2⟩
  simp only[Rp]
  exact⟨p,_,rfl,i8,.cons (by simp only[Rp]) (.one (Rp.mono (f.fz.trans gr.fz) _ _ pd))⟩
 ·rw[← r.length,List.drop_eq_nil_of_le (by rw[a9o];exact Nat.le_refl _)]at h'
  exact h' σ' H' F' f R'
def a5x(f:ZF)(b:GF)(body:SF):SF:=fun e=>v8 (f e) fun d e1=>match seqL d with
 | none=>none
 | some ds=>l9 b body (enD 0 ds) e1
def M5(i:Nat)(b:GF)(body:SF):SF:=fun e=>match e[i]? with
 | some (.fz d)=>(match seqL d with
  | none=>none
  | some ds=>l9 b body (enD 0 ds) e)
 | some (.ow ds)=>unhide i ds (l9 b body (enD 0 ds) (e.set i (.hd ds)))
 | some (.hd ds)=>l9 b body (enD 0 ds) e
 | _=>none
theorem a7Z{i:Nat}{g:TG}{tb:TS}{b:GF}{body:SF}(hg:G7 K cl k g b)(hb:RfS K cl E tb body):RfS K cl E (a4G (b3s K (P5 (O4 i) a1h)) g tb) (M5 i b body):=by
 intro N σ H env F R h
 unfold M5 at h
 split at h
 ·rename_i d q
  split at h
  ·exact h.elim
  ·rename_i ds hs
   obtain⟨v,e,p⟩:=R.fz i d q
   obtain⟨a,xs,rfl,r,hl⟩:=Rp.seqL p hs
   exact⟨_,e,a,rfl,⟨xs,hl H R.sub⟩,b2G hb hg R (fun σ' H' F' e' f2 R2=>hl H' (f2.fz.trans R2.sub)) r h⟩
 ·rename_i ds q
  have hi:i<env.length:=(List.getElem?_eq_some_iff.mp q).1
  have R':=R.hide q
  obtain⟨a,xs,e,r,hH,st⟩:=R'.hid_stays (i:=i) (ds:=ds) (List.getElem?_set_self hi)
  exact⟨_,e,a,rfl,⟨xs,.of hH⟩,b2G hb hg R' (fun σ' H' F' e' f2 R2=>.of (st σ' H' F' e' f2)) r (h.hide R q)⟩
 ·rename_i ds q
  obtain⟨a,xs,e,r,hH,st⟩:=R.hid_stays q
  exact⟨_,e,a,rfl,⟨xs,.of hH⟩,b2G hb hg R (fun σ' H' F' e' f2 R2=>.of (st σ' H' F' e' f2)) r h⟩
 ·exact h.elim
def a6r(e:DE):Bool:=e.all fun s=>match s with
 | .hd _=>false
 | _=>true
def b5S(n i:Nat)(exm:Str→Bool)(body suite:SF):SF:=fun e=>match body e with
 | some (.ex (.v _ _ _))=>none
 | some (.ex (.p c))=>if(exm c && a6r e)=true then(match suite ((List.replicate n Sl.no).set i (.fz (.exc c)))with
   | some (.nx e2)=>put i .no e2
   | some (.rt d)=>some (.rt d)
   | some (.ro ds)=>some (.ro ds)
   | _=>none)else none
 | r=>r
theorem Rel.drop{i:Nat}(R:Rel K cl σ H F env)(nh:∀ds,env[i]?≠some (.hd ds)):Rel K cl (σ.set i none) H F (env.set i .no)∧Frm σ H F env (σ.set i none) H F (env.set i .no):=by
 have key:∀(j:Nat) (s:Sl),(env.set i .no)[j]? = some s→s≠.no→j≠i∧env[j]? = some s:=fun j s q ns=>by
  by_cases z:j=i
  ·subst z
   have hj:j<env.length:=by have:=(List.getElem?_eq_some_iff.mp q).1;rwa [List.length_set]at this
   rw[List.getElem?_set_self hj]at q;cases q;exact absurd rfl ns
  ·rw[List.getElem?_set_ne (Ne.symm z)]at q;exact⟨z,q⟩
 have muk:∀j,Mu (env.set i .no) j→j≠i∧Mu env j:=fun j ⟨ds,q⟩=>by
  rcases q with q | q
  ·obtain⟨z,q⟩:=key j _ q (fun z=>by cases z);exact⟨z,ds,.inl q⟩
  ·obtain⟨z,q⟩:=key j _ q (fun z=>by cases z);exact⟨z,ds,.inr q⟩
 refine⟨⟨R.sub,by rw[List.length_set,List.length_set];exact R.len,fun j d q=>?_,fun j ds q=>?_,fun j l b hj hl e1 e2=>?_,R.od.set a98⟩,⟨Same.refl _,fun a o h f w=>⟨h,f,fun⟨j,ds,oo,q,e⟩=>?_⟩,fun j ds q=>?_,fun _ h=>h⟩⟩
 ·obtain⟨z,q⟩:=key j _ q (fun z=>by cases z)
  obtain⟨v,e,p⟩:=R.fz j d q
  exact⟨v,by rw[List.getElem?_set_ne (Ne.symm z)];exact e,p⟩
 ·have:j≠i∧(env[j]? = some (.ow ds)∨env[j]? = some (.hd ds)):=by
   rcases q with q | q
   ·obtain⟨z,q⟩:=key j _ q (fun z=>by cases z);exact⟨z,.inl q⟩
   ·obtain⟨z,q⟩:=key j _ q (fun z=>by cases z);exact⟨z,.inr q⟩
  obtain⟨z,q⟩:=this
  obtain⟨a,xs,e,r⟩:=R.mu j ds q
  exact⟨a,xs,by rw[List.getElem?_set_ne (Ne.symm z)];exact e,r⟩
 ·obtain⟨zj,mj⟩:=muk j hj
  obtain⟨zl,ml⟩:=muk l hl
  rw[List.getElem?_set_ne (Ne.symm zj)]at e1
  rw[List.getElem?_set_ne (Ne.symm zl)]at e2
  exact R.inj j l b mj ml e1 e2
 ·obtain⟨z,q⟩:=key j _ q (fun z=>by subst z;exact oo)
  rw[List.getElem?_set_ne (Ne.symm z)]at e
  exact w ⟨j,ds,oo,q,e⟩
 ·have z:j≠i:=fun z=>by subst z;exact nh ds q
  rw[List.getElem?_set_ne (Ne.symm z),List.getElem?_set_ne (Ne.symm z)]
  exact⟨q,rfl⟩
end
section
variable {K:W.Frag}{cl:Str→Addr}{E:XK}{σ:St}{H F:Hp}{env:DE}{k:Nat}
def Q3:Option Sl→Sl
 | some (.fz d)=>.fz d
 | some (.ow ds)=>.hd ds
 | some (.hd ds)=>.hd ds
 | some (.od ks ds)=>.hk ks ds
 | some (.hk ks ds)=>.hk ks ds
 | _=>.no
def n8(k:Nat)(js:List Nat)(e:DE):DE:=List.replicate k .no++js.map fun j=>Q3 e[j]?
def p7(b:GF)(c:BF)(el:ZF)(ec:DE)(eo:DE):List D→List D→Option (R (List D))
 | [],acc=>some (.ok acc eo)
 | d::ds,acc=>match b d ec with
  | none=>none
  | some e1=>bnd (c e1) fun t e2=>if t=true then bnd (el e2) fun y _=>if acc.length<sizeLine then p7 b c el ec eo ds (acc++[y])else none
   else p7 b c el ec eo ds acc
theorem X8{js:List Nat}{e:DE}{i:Nat}{s:Sl}(h:(n8 k js e)[i]? = some s)(n:s≠.no):k≤i∧∃j,js[i-k]? = some j∧Q3 e[j]? = s:=by
 unfold n8 at h
 by_cases z:i<k
 ·rw[List.getElem?_append_left (by rw[List.length_replicate];exact z),List.getElem?_replicate,if_pos z]at h
  cases h;exact absurd rfl n
 ·rw[List.getElem?_append_right (by rw[List.length_replicate];omega),List.length_replicate,List.getElem?_map]at h
  cases q:js[i-k]? with
  | none=>rw[q]at h;cases h
  | some j=>rw[q]at h;cases h;exact⟨by omega,j,rfl,rfl⟩
theorem J6{js:List Nat}{i j:Nat}{v:V}(hk:k≤i)(hj:js[i-k]? = some j)(h:σ[j]? = some (some v)):(u2 k js σ)[i]? = some (some v):=by
 unfold u2
 rw[List.getElem?_append_right (by rw[List.length_replicate];exact hk),List.length_replicate,List.getElem?_map,hj]
 simp[h]
theorem RelOd.comp{js:List Nat}(R:RelOd K cl σ H F env)(nd:js.Nodup):RelOd K cl (u2 k js σ) H F (n8 k js env):=by
 have cap:∀{j:Nat} {s:Sl} {ks:DK} {ds:List D},Q3 env[j]? = s→R6 s ks ds→∃t,env[j]? = some t∧R6 t ks ds:=fun{j s ks ds} h d=>by
  unfold Q3 at h
  split at h<;>subst h
  ·exact d.elim
  ·exact d.elim
  ·exact d.elim
  ·rename_i q;exact⟨_,q,d⟩
  ·rename_i q;exact⟨_,q,d⟩
  ·exact d.elim
 have get:∀(i:Nat) (s:Sl) (ks:DK) (ds:List D),(n8 k js env)[i]? = some s→R6 s ks ds→k≤i∧∃j t,js[i-k]? = some j∧env[j]? = some t∧R6 t ks ds:=fun i s ks ds h d=>by
  obtain⟨hk,j,hj,c⟩:=X8 h (fun z=>by subst z;exact d)
  obtain⟨t,q,dt⟩:=cap c d
  exact⟨hk,j,t,hj,q,dt⟩
 refine⟨fun i s ks ds h d=>?_,fun i l s t ks ls ds es b hi di hl dl ei el=>?_⟩
 ·obtain⟨hk,j,t,hj,q,dt⟩:=get i s ks ds h d
  obtain⟨a,xs,e,r⟩:=R.at_ j t ks ds q dt
  exact⟨a,xs,J6 hk hj e,r⟩
 ·obtain⟨hk,j,s',hj,q,dt⟩:=get i s ks ds hi di
  obtain⟨hk',m,t',hm,q',dt'⟩:=get l t ls es hl dl
  obtain⟨a,xs,e,_⟩:=R.at_ j s' ks ds q dt
  obtain⟨a',xs',e',_⟩:=R.at_ m t' ls es q' dt'
  have h1:=J6 (k:=k) hk hj e
  have h2:=J6 (k:=k) hk' hm e'
  rw[ei]at h1;cases h1
  rw[el]at h2;cases h2
  have jm:j=m:=R.inj j m s' t' ks ls ds es b q dt q' dt' e e'
  subst jm
  obtain⟨hi',ej⟩:=List.getElem?_eq_some_iff.mp hj
  obtain⟨hl',em⟩:=List.getElem?_eq_some_iff.mp hm
  have:i-k=l-k:=(List.getElem_inj nd).mp (ej.trans em.symm)
  omega
theorem Rel.comp{js:List Nat}(R:Rel K cl σ H F env)(nd:js.Nodup):Rel K cl (u2 k js σ) H F (n8 k js env):=by
 have cap:∀{j:Nat} {ds:List D},Q3 env[j]? = .hd ds→env[j]? = some (.ow ds)∨env[j]? = some (.hd ds):=fun{j ds} h=>by
  unfold Q3 at h
  split at h
  ·cases h
  ·rename_i q;cases h;exact .inl q
  ·rename_i q;cases h;exact .inr q
  ·cases h
  ·cases h
  ·cases h
 have noow:∀{j:Nat} {ds:List D},Q3 env[j]?≠.ow ds:=fun{j ds} h=>by
  unfold Q3 at h
  split at h<;>cases h
 have mu':∀(i:Nat) (ds:List D),((n8 k js env)[i]? = some (.ow ds)∨(n8 k js env)[i]? = some (.hd ds))→k≤i∧∃j,js[i-k]? = some j∧(env[j]? = some (.ow ds)∨env[j]? = some (.hd ds)):=fun i ds q=>by
  rcases q with q | q
  ·obtain⟨hk,j,hj,c⟩:=X8 q (fun z=>by cases z);exact absurd c noow
  ·obtain⟨hk,j,hj,c⟩:=X8 q (fun z=>by cases z);exact⟨hk,j,hj,cap c⟩
 refine⟨R.sub,?_,fun i d q=>?_,fun i ds q=>?_,fun i l b ⟨ds,q⟩ ⟨es,q'⟩ e1 e2=>?_,R.od.comp nd⟩
 ·unfold u2 n8
  rw[List.length_append,List.length_append,List.length_replicate,List.length_replicate,List.length_map,List.length_map]
 ·obtain⟨hk,j,hj,c⟩:=X8 q (fun z=>by cases z)
  have:env[j]? = some (.fz d):=by
   unfold Q3 at c
   split at c
   ·rename_i q;cases c;exact q
   all_goals cases c
  obtain⟨v,e,p⟩:=R.fz j d this
  exact⟨v,J6 hk hj e,p⟩
 ·obtain⟨hk,j,hj,c⟩:=mu' i ds q
  obtain⟨a,xs,e,r⟩:=R.mu j ds c
  exact⟨a,xs,J6 hk hj e,r⟩
 ·obtain⟨hk,j,hj,c⟩:=mu' i ds q
  obtain⟨hl,m,hm,c'⟩:=mu' l es q'
  obtain⟨a,xs,e,_⟩:=R.mu j ds c
  obtain⟨a',xs',e',_⟩:=R.mu m es c'
  have h1:=J6 (k:=k) hk hj e
  have h2:=J6 (k:=k) hl hm e'
  rw[e1]at h1;cases h1
  rw[e2]at h2;cases h2
  have jm:j=m:=R.inj j m b ⟨ds,c⟩ ⟨es,c'⟩ e e'
  subst jm
  obtain⟨hi',ei⟩:=List.getElem?_eq_some_iff.mp hj
  obtain⟨hl',el⟩:=List.getElem?_eq_some_iff.mp hm
  have:i-k=l-k:=(List.getElem_inj nd).mp (ei.trans el.symm)
  omega
def NoOw(e:DE):Prop:=∀(i:Nat) (s:Sl),isO s→e[i]?≠some s
theorem b1f{js:List Nat}{e:DE}:NoOw (n8 k js e):=fun i s oo q=>by
 obtain⟨hk,j,hj,c⟩:=X8 q (fun z=>by subst z;exact oo)
 unfold Q3 at c
 split at c<;>subst c<;>exact oo
theorem NoOw.not{e:DE}(n:NoOw e){σ:St}{a:Addr}:¬Ow σ e a:=fun⟨i,ds,oo,q,_⟩=>n i ds oo q
theorem Frm.gr{σ':St}{H' F':Hp}{env':DE}(f:Frm σ H F env σ' H' F' env')(n:NoOw env)(s:Same F' H'):Gr H F H' F':=⟨f.fz,s,fun a o h g=>by obtain⟨h1,f1,_⟩:=f.hid a o h g n.not;exact⟨h1,f1⟩⟩
theorem FX.gr{H' F':Hp}(f:FX σ H F env H' F')(n:NoOw env):Gr H F H' F':=⟨f.fz,f.sub,fun a o h g=>f.hid a o h g n.not⟩
structure Grow(K:W.Frag)(cl:Str→Addr)(σ:St)(H0 F0:Hp)(env:DE)(B:Addr)(acc:List D)(ys:List V)(H F:Hp):Prop where
 rel:Rel K cl σ H F env
 frm:Frm σ H0 F0 env σ H F env
 new:H0 B=none
 at_:H B=some (.lst ys)
 un:F B=none
 far:∀j,Mu env j→σ[j]?≠some (some (.ref B))
 rps:Rps K cl F acc ys
 stay:∀a o,H0 a=some o→F0 a=none→H a=some o∧F a=none
theorem Grow.start{B:Addr}(R:Rel K cl σ H F env)(hB:H B=none):Grow K cl σ H F env B [] [] (upd H B (.lst [])) F:=by
 obtain⟨R',f⟩:=R.newN (o:=.lst []) hB
 refine⟨R',f,hB,i8,R.sub.free hB,fun j ⟨ds,q⟩ e=>?_,.nil,fun a o h f=>⟨by rw[g8 (fun z=>by rw[z,hB]at h;cases h)];exact h,f⟩⟩
 obtain⟨a,ys,e1,hH,_⟩:=R.mu j ds q
 rw[e]at e1;cases e1
 rw[hB]at hH;cases hH
theorem Grow.gr{B:Addr}{acc:List D}{ys:List V}{H0 F0 H' F':Hp}(g:Grow K cl σ H0 F0 env B acc ys H F)(r:Gr H F H' F'):Grow K cl σ H0 F0 env B acc ys H' F' :=
 ⟨g.rel.gr r,g.frm.trans (g.rel.frm r),g.new,(r.hid B _ g.at_ g.un).1,(r.hid B _ g.at_ g.un).2,g.far,g.rps.mono r.fz,fun a o h f=>by obtain⟨h1,f1⟩:=g.stay a o h f;exact r.hid a o h1 f1⟩
theorem Grow.push{B:Addr}{acc:List D}{ys:List V}{H0 F0:Hp}{d:D}{y:V}(g:Grow K cl σ H0 F0 env B acc ys H F)(p:Rp K cl F d y):Grow K cl σ H0 F0 env B (acc++[d]) (ys++[y]) (upd H B (.lst (ys++[y]))) F:=by
 have ne:∀a o,F a=some o→a≠B:=fun a o h z=>by rw[z,g.un]at h;cases h
 refine⟨⟨fun a o h=>by rw[g8 (ne a o h)];exact g.rel.sub _ _ h,g.rel.len,g.rel.fz,fun j ds q=>?_,g.rel.inj,g.rel.od.updL g.at_⟩,⟨g.frm.fz,fun a o h f w=>?_,g.frm.keep,fun a h=>?_⟩,g.new,i8,g.un,g.far,g.rps.append (.one p),fun a o h f=>by rw[g8 (fun z=>by rw[z,g.new]at h;cases h)];exact g.stay a o h f⟩
 ·obtain⟨a,xs,e,hH,r⟩:=g.rel.mu j ds q
  have z:a≠B:=fun z=>g.far j ⟨ds,q⟩ (by rw[e,z])
  exact⟨a,xs,e,by rw[g8 z];exact hH,r⟩
 ·have z:a≠B:=fun z=>by rw[z,g.new]at h;cases h
  rw[g8 z];exact g.frm.hid a o h f w
 ·by_cases z:a=B
  ·rw[z,i8]at h;cases h
  ·rw[g8 z]at h;exact g.frm.dom a h
theorem a3p{b:GF}{c:BF}{el:ZF}{g:TG}{tf:TT}{te:TE}{js:List Nat}{B:Addr}{d:D}{x:V}{ds acc:List D}{ys:List V}{H0 F0:Hp}{Q:VK}{Pv:List V→Hp→Prop}(nd:js.Nodup)
  (hg:G7 K cl k g b) (hc:R8 K cl E tf c) (he:t5 K cl E te el) (gw:Grow K cl σ H0 F0 env B acc ys H F) (p:Rp K cl F d x)
  (h:Ct K cl E (PN K cl) (p7 b c el (n8 k js env) env (d::ds) acc) σ H0 F0 env Q)
  (hP:∀acc' ys' H' F',Grow K cl σ H0 F0 env B acc' ys' H' F'→Ct K cl E (PN K cl) (p7 b c el (n8 k js env) env ds acc') σ H0 F0 env Q→Pv ys' H') :
  g x (u2 k js σ) H fun σ2 H2=>(σ2.drop k=(u2 k js σ).drop k∧σ2.length=(u2 k js σ).length)∧tf σ2 H2 fun t H3 =>
   if t=true then te σ2 H3 fun y H4=>H4 B=some (.lst ys)∧ys.length<sizeLine∧Pv (ys++[y]) (upd H4 B (.lst (ys++[y])))else Pv ys H3:=by
 unfold p7 at h
 have Rc:Rel K cl (u2 k js σ) H F (n8 k js env):=gw.rel.comp nd
 split at h
 ·exact h.elim
 ·rename_i e1 hb
  refine hg x _ H _ d _ e1 F Rc p hb fun σ2 d2 l2 f2 R2=>⟨⟨d2,l2⟩,?_⟩
  have n1:NoOw (n8 k js env):=b1f
  -- ways out by an exception
  have exc:∀{H' F':Hp} {σ':St} {e':DE} {H'' F'':Hp} {n:XN},Frm (u2 k js σ) H F (n8 k js env) σ' H' F' e'→FX σ' H' F' e' H'' F''→(∀H' F',FX σ H0 F0 env H' F'→∀cx,Xf K cl F' n cx→E (.ref (cl n.nm)) cx H')→∀cx,Xf K cl F'' n cx→E (.ref (cl n.nm)) cx H'':=fun{H' F' σ' e' H'' F'' n} f fx q=>by
   have gr:Gr H F H'' F'':=(f.fx fx).gr n1
   exact q _ _ (gw.frm.fx gr.fx)
  refine hc σ2 H _ e1 F R2 ?_
  cases hce:c e1 with
  | none=>rw[hce]at h;exact h.elim
  | some rc =>
   rw[hce]at h
   cases rc with
   | ex n=>exact fun H' F' fx=>exc f2 fx h
   | ok t e2 =>
    intro t' H3 F3 f3 R3 ht
    have ht:t'=t:=ht
    subst ht
    have h:Ct K cl E (PN K cl) (if t'=true then bnd (el e2) fun y _=>if acc.length<sizeLine then p7 b c el (n8 k js env) env ds (acc++[y])else none else p7 b c el (n8 k js env) env ds acc) σ H0 F0 env Q:=h
    have gr3:Gr H F H3 F3:=(f2.trans f3).gr n1 R3.sub
    by_cases z:t'=true
    ·rw[if_pos z]at h ⊢
     refine he σ2 H3 _ e2 F3 R3 ?_
     cases hel:el e2 with
     | none=>rw[hel]at h;exact h.elim
     | some re =>
      rw[hel]at h
      cases re with
      | ex n=>exact fun H' F' fx=>exc (f2.trans f3) fx h
      | ok y e3 =>
       intro v H4 F4 f4 R4 hv
       have h:Ct K cl E (PN K cl) (if acc.length<sizeLine then p7 b c el (n8 k js env) env ds (acc++[y])else none) σ H0 F0 env Q:=h
       split at h
       ·rename_i hlen
        have gr4:Gr H F H4 F4:=((f2.trans f3).trans f4).gr n1 R4.sub
        have gw4:=gw.gr gr4
        exact⟨gw4.at_,by rw[← gw4.rps.length];exact hlen,hP _ _ _ _ (gw4.push hv) h⟩
       ·exact h.elim
    ·rw[if_neg z]at h ⊢
     exact hP _ _ _ _ (gw.gr gr3) h
theorem a4U{b:GF}{c:BF}{el:ZF}{js:List Nat}{B:Addr}{acc:List D}{ys:List V}{H0 F0:Hp}{Q:VK}(gw:Grow K cl σ H0 F0 env B acc ys H F)(h:Ct K cl E (PN K cl) (p7 b c el (n8 k js env) env [] acc) σ H0 F0 env Q):Q (.ref B) H :=
 h _ H F gw.frm gw.rel ⟨B,ys,rfl,gw.new,gw.at_,gw.un,gw.far,gw.rps⟩
theorem b0d{b:GF}{c:BF}{el:ZF}{g:TG}{tf:TT}{te:TE}{js:List Nat}{ds:List D}{xs:List V}{a B:Addr}{Q:VK}(nd:js.Nodup)(hg:G7 K cl k g b)(hc:R8 K cl E tf c)(he:t5 K cl E te el)(R:Rel K cl σ H F env)(hB:H B=none)
  (hl:∀H' F',Same F F'→Same F' H'→(∀a o,H a=some o→F a=none→H' a=some o∧F' a=none)→SqL K H' a xs) (r:Rps K cl F ds xs) (h:Ct K cl E (PN K cl) (p7 b c el (n8 k js env) env ds []) σ H F env Q) :
  S9 (Itl K a) g tf te k (u2 k js σ) B (fun H'=>Q (.ref B) H') H:=by
 refine b0R (xs:=xs) (fun i ys H'=>∃F' acc,Grow K cl σ H F env B acc ys H' F'∧Ct K cl E (PN K cl) (p7 b c el (n8 k js env) env (ds.drop i) acc) σ H F env Q) ⟨F,[],.start R hB,h⟩ (fun i ys H' _ ⟨F',acc,gw,_⟩=>hl H' F' gw.frm.fz gw.rel.sub gw.stay) (fun i x ys H' hx ⟨F',acc,gw,h'⟩=>?_) (fun ys H' ⟨F',acc,gw,h'⟩=>?_)
 ·obtain⟨d,hd,p⟩:=r.get' hx
  rw[D9 hd]at h'
  exact a3p (Pv:=fun ys' H2=>∃F' acc,Grow K cl σ H F env B acc ys' H2 F'∧Ct K cl E (PN K cl) (p7 b c el (n8 k js env) env (ds.drop (i+1)) acc) σ H F env Q) nd hg hc he gw (Rp.mono gw.frm.fz _ _ p) h' fun acc' ys' H2 F2 gw2 h2=>⟨F2,acc',gw2,h2⟩
 ·rw[← r.length,List.drop_length]at h'
  exact a4U gw h'
theorem b5T{b:GF}{c:BF}{el:ZF}{g:TG}{tf:TT}{te:TE}{js:List Nat}{lo:Int}{n:Nat}{B:Addr}{Q:VK}(nd:js.Nodup)(hg:G7 K cl k g b)(hc:R8 K cl E tf c)(he:t5 K cl E te el)(R:Rel K cl σ H F env)(hB:H B=none)
  (h:Ct K cl E (PN K cl) (p7 b c el (n8 k js env) env (J5 lo n) []) σ H F env Q) :
  S9 (Itr lo n) g tf te k (u2 k js σ) B (fun H'=>Q (.ref B) H') H:=by
 refine a9Z (fun i ys H'=>∃F' acc,Grow K cl σ H F env B acc ys H' F'∧Ct K cl E (PN K cl) (p7 b c el (n8 k js env) env ((J5 lo n).drop i) acc) σ H F env Q) ⟨F,[],.start R hB,h⟩ (fun i ys H' hx ⟨F',acc,gw,h'⟩=>?_) (fun ys H' ⟨F',acc,gw,h'⟩=>?_)
 ·rw[a6W hx]at h'
  exact a3p (Pv:=fun ys' H2=>∃F' acc,Grow K cl σ H F env B acc ys' H2 F'∧Ct K cl E (PN K cl) (p7 b c el (n8 k js env) env ((J5 lo n).drop (i+1)) acc) σ H F env Q) nd hg hc he gw (by simp only[Rp]) h' fun acc' ys' H2 F2 gw2 h2=>⟨F2,acc',gw2,h2⟩
 ·rw[show(J5 lo n).drop n=[]from List.drop_eq_nil_of_le (by rw[a7X];exact Nat.le_refl _)]at h'
  exact a4U gw h'
def v9:BF:=fun e=>some (.ok true e)
theorem M6:R8 K cl E b3r v9:=fun σ H Q env F R h=>h true H F Frm.refl R rfl
def a5y(k:Nat)(js:List Nat)(f:ZF)(b:GF)(c:BF)(el:ZF):NF:=fun e=>bnd (f e) fun d e1=>match seqL d with
 | none=>none
 | some ds=>p7 b c el (n8 k js e1) e1 ds []
def x8(i:Nat)(k:Nat)(js:List Nat)(b:GF)(c:BF)(el:ZF):NF:=fun e=>match look e i with
 | some d=>(match seqL d with
  | none=>none
  | some ds=>p7 b c el (n8 k js e) e ds [])
 | none=>none
def O9(rg:List D→Option (Int×Nat))(k:Nat)(js:List Nat)(f:AF)(b:GF)(c:BF)(el:ZF):NF:=fun e=>bnd (f e) fun ds e1=>match rg ds with
 | none=>none
 | some (lo,n)=>p7 b c el (n8 k js e1) e1 (J5 lo n) []
theorem Q4{i:Nat}{g:TG}{tf:TT}{te:TE}{js:List Nat}{b:GF}{c:BF}{el:ZF}(nd:js.Nodup)(hg:G7 K cl k g b)(hc:R8 K cl E tf c)(he:t5 K cl E te el):RfN K cl E (a32 (a9L K (O4 i)) g tf te k js) (x8 i k js b c el):=by
 intro σ H Q env F R h
 unfold x8 look at h
 cases q:env[i]? with
 | none=>rw[q]at h;exact h.elim
 | some s =>
  rw[q]at h
  cases s with
  | no=>exact h.elim
  | od _ _=>exact h.elim
  | hk _ _=>exact h.elim
  | fz d =>
   have h:Ct K cl E (PN K cl) (match seqL d with
    | none=>none
    | some ds=>p7 b c el (n8 k js env) env ds []) σ H F env Q:=h
   split at h
   ·exact h.elim
   ·rename_i ds hs
    obtain⟨v,e,p⟩:=R.fz i d q
    obtain⟨a,xs,rfl,r,hl⟩:=Rp.seqL p hs
    exact⟨_,e,a,rfl,⟨xs,hl H R.sub⟩,fun B hB=>b0d nd hg hc he R hB (fun H' F' f2 s2 _=>hl H' (f2.trans s2)) r h⟩
  | ow ds =>
   have h:Ct K cl E (PN K cl) (p7 b c el (n8 k js env) env ds []) σ H F env Q:=h
   obtain⟨a,xs,e,hH,hF,r⟩:=R.mu i ds (.inl q)
   exact⟨_,e,a,rfl,⟨xs,.of hH⟩,fun B hB=>b0d nd hg hc he R hB (fun H' F' _ _ st=>.of (st a _ hH hF).1) r h⟩
  | hd ds =>
   have h:Ct K cl E (PN K cl) (p7 b c el (n8 k js env) env ds []) σ H F env Q:=h
   obtain⟨a,xs,e,hH,hF,r⟩:=R.mu i ds (.inr q)
   exact⟨_,e,a,rfl,⟨xs,.of hH⟩,fun B hB=>b0d nd hg hc he R hB (fun H' F' _ _ st=>.of (st a _ hH hF).1) r h⟩
theorem b1g{t:TA}{g:TG}{tf:TT}{te:TE}{js:List Nat}{f:AF}{b:GF}{c:BF}{el:ZF}(nd:js.Nodup)(hf:T5 K cl E t f)(hg:G7 K cl k g b)(hc:R8 K cl E tf c)(he:t5 K cl E te el):RfN K cl E (a32 (a9M t) g tf te k js) (O9 Z3 k js f b c el):=by
 intro σ H Q env F R h
 refine hf σ H _ env F R ((Ct.bnd h a2C).mono fun x H1 ⟨F1,e1,ds,s1,R1,p1,h1⟩=>?_)
 split at h1
 ·exact h1.elim
 ·rename_i lo n hs
  obtain⟨j,e,c1,c2,rfl,rfl⟩:=a9m hs p1
  exact⟨j,e,c1,c2,fun B hB=>b5T nd hg hc he R1 hB h1⟩
theorem Z8{i:Nat}{wi:TI}{g:TG}{tf:TT}{te:TE}{js:List Nat}{f:NF}(h:RfN K cl E (a32 wi g tf te k js) f):RfS K cl E (a7z i wi g tf te k js) (r9 i f):=fun N σ H env F R q=>R9 h N σ H env F R q
end
def fD(n m:Nat)(body:SF)(ds:List D):Option R1:=if ds.length=m then(match body (ds.map .fz++List.replicate (n-ds.length) .no)with
 | some (.nx _)=>some (.ret .non)
 | some (.rt d)=>some (.ret d)
 | some (.ro es)=>some (.own es)
 | some (.rz dss)=>some (.owz dss)
 | some (.rp n es)=>some (.owp n es)
 | some (.ex c)=>some (.ex c)
 | _=>none)else none
section
variable {P:Program}{w:World}{K:W.Frag}{mg:Str→Option Value}{base:Heap}{cl:Str→Addr}
theorem a6X{N:List Str}{vs:List V}{ds:List D}{H F:Hp}(s:Same F H)(p:Rps K cl F ds vs):Rel K cl (start N vs) H F (ds.map .fz++List.replicate (N.length-ds.length) .no)∧NoOw (ds.map .fz++List.replicate (N.length-ds.length) .no):=by
 have key:∀(i:Nat) (t:Sl),(ds.map Sl.fz++List.replicate (N.length-ds.length) .no)[i]? = some t→t≠.no→∃d,ds[i]? = some d∧t=.fz d:=fun i t q n=>by
  by_cases z:i<ds.length
  ·rw[List.getElem?_append_left (by rw[List.length_map];exact z),List.getElem?_map]at q
   cases hd:ds[i]? with
   | none=>rw[hd]at q;cases q
   | some d=>rw[hd]at q;cases q;exact⟨d,rfl,rfl⟩
  ·rw[List.getElem?_append_right (by rw[List.length_map];omega),List.getElem?_replicate]at q
   split at q
   ·cases q;exact absurd rfl n
   ·cases q
 have no:NoOw (ds.map .fz++List.replicate (N.length-ds.length) .no):=fun i es oo q=>by
  obtain⟨d,_,z⟩:=key i _ q (fun z=>by subst z;exact oo)
  subst z;exact oo
 refine⟨⟨s,?_,fun i d q=>?_,fun i es q=>?_,fun i j b ⟨es,q⟩ _ _ _=>?_,.none fun j s ks ds q d=>by obtain⟨_,_,rfl⟩:=key j s q (fun z=>by subst z;exact d);exact d⟩,no⟩
 ·unfold start
  rw[List.length_append,List.length_append,List.length_map,List.length_map,List.length_replicate,List.length_replicate,p.length]
 ·obtain⟨d',hd,z⟩:=key i _ q (fun z=>by cases z)
  cases z
  obtain⟨v,hv,r⟩:=p.get hd
  refine⟨v,?_,r⟩
  unfold start
  rw[List.getElem?_append_left (by rw[List.length_map];exact(List.getElem?_eq_some_iff.mp hv).1),List.getElem?_map,hv];rfl
 ·rcases q with q | q
  ·obtain⟨d,_,z⟩:=key i _ q (fun z=>by cases z);cases z
  ·obtain⟨d,_,z⟩:=key i _ q (fun z=>by cases z);cases z
 ·rcases q with q | q
  ·obtain⟨d,_,z⟩:=key i _ q (fun z=>by cases z);cases z
  ·obtain⟨d,_,z⟩:=key i _ q (fun z=>by cases z);cases z
theorem a38{n m:Nat}{body:SF}{vs:List V}{H:Hp}{Q:VK}{E:XK}(h:l5 K cl (fD n m body) vs H Q E):vs.length=m:=by
 obtain⟨ds,F,s,p,h⟩:=h
 unfold fD at h
 by_cases z:ds.length=m
 ·rw[← p.length];exact z
 ·rw[if_neg z]at h;exact h.elim
theorem a2E{N:List Str}{m:Nat}{body:SF}{t:TS}{vs:List V}{H:Hp}{Q:VK}{E:XK}(hb:RfS K cl E t body)(h:l5 K cl (fD N.length m body) vs H Q E):t { nx:=fun _ H'=>Q .non H',rt:=Q } (start N vs) H:=by
 obtain⟨ds,F,s,p,h⟩:=h
 obtain⟨R,no⟩:=a6X (N:=N) s p
 refine hb _ _ H _ F R ?_
 unfold fD at h
 by_cases z:ds.length=m
 ·rw[if_pos z]at h
  cases r:body (ds.map .fz++List.replicate (N.length-ds.length) .no)with
  | none=>rw[r]at h;exact h.elim
  | some rs =>
   rw[r]at h
   cases rs with
   | nx e=>exact fun σ' H' F' f R'=>h .non H' F' (f.gr no R'.sub) (by simp only[Rp])
   | rt d=>exact fun v H' F' x q=>h v H' F' (x.gr no) q
   | ro es =>
    refine fun a xs H' F' x ha fa nw q=>h a xs H' F' (x.gr no) ?_ ha fa q
    cases e:H a with
    | none=>rfl
    | some o=>exact absurd (nw o e) no.not
   | rz dss =>
    refine fun p as H' F' x hp ht fp rz=>h p as H' F' (x.gr no) hp ht fp (rz.imp fun a xs ha fa nw=>?_)
    cases e:H a with
    | none=>rfl
    | some o=>exact absurd (nw o e) no.not
   | rp n es =>
    refine fun p a xs H' F' x hp ht fp ha fa nw q=>h p a xs H' F' (x.gr no) hp ht fp ?_ ha fa q
    cases e:H a with
    | none=>rfl
    | some o=>exact absurd (nw o e) no.not
   | bk e=>exact h.elim
   | ct e=>exact h.elim
   | ex c=>exact fun H' F' x=>h H' F' (x.gr no)
 ·rw[if_neg z]at h;exact h.elim
theorem Fun.okD{x qual:Str}{st:Stmt}{f:Addr}{fd:FuncData}{N ps:List Str}{k:Nat}{body:SF}(F:Fun K x qual st f fd)(S:FnScope N ps (d6 st))
  (hbody:∀(cdv:Value) (A:Around) (outer:List Env) (s:Shared) (H:Hp) (E:XK),Room k (A.deeper (envOfC qual (d6 st) s.heap.objs.size f cdv)) →
   ∃t,PSs (V3 (x9 P w) P w K mg base N qual (d6 st) f cdv A outer s H E) (k7 st) t∧RfS K cl E t body):FnOk P w K mg base (x9 P w) (k+1) f fd ps (l5 K cl (fD N.length ps.length body)) :=
 F.okE S (fun vs H Q E h=>a38 h) fun cdv A outer s H vs Q E hr h=>by
  obtain⟨t,h1,h2⟩:=hbody cdv A outer s H E hr
  exact⟨t,h1,a2E h2 h⟩
theorem FunD.okD{x qual:Str}{st:Stmt}{dT f:Addr}{fd:FuncData}{N ps:List Str}{k:Nat}{body:SF}(F:FunD K x qual st dT f fd)(S:FnScope N ps (d6 st))
  (hbody:∀(cdv:Value) (A:Around) (outer:List Env) (s:Shared) (H:Hp) (E:XK),Room k (A.deeper (envOfC qual (d6 st) s.heap.objs.size f cdv)) →
   ∃t,PSs (V3 (x9 P w) P w K mg base N qual (d6 st) f cdv A outer s H E) (k7 st) t∧RfS K cl E t body):FnOk P w K mg base (x9 P w) (k+1) f fd ps (l5 K cl (fD N.length ps.length body)) :=
 F.okE S (fun vs H Q E h=>a38 h) fun cdv A outer s H vs Q E hr h=>by
  obtain⟨t,h1,h2⟩:=hbody cdv A outer s H E hr
  exact⟨t,h1,a2E h2 h⟩
theorem b4f{g:List D→Option R1}{vs:List V}{H:Hp}{Q:VK}{E:XK}{a:Addr}{ns:List Int}(e:vs=[.ref a])(h:Scr K H a (ns.map V.int))(q:∀H',Q (.bl true) H')(m:g [.scr ns]=some (.ret (.bl true))):l5 K cl g vs H Q E:=by
 refine⟨[.scr ns],H,Same.refl _,?_,?_⟩
 ·rw[e];exact .one (by simp only[Rp];exact⟨a,rfl,h⟩)
 ·rw[m]
  intro v H' F' _ p
  have p:Rp K cl F' (.bl true) v:=p
  simp only[Rp]at p
  rw[p];exact q H'
def tyN:D→Option String
 | .non=>some "NoneType"
 | .bl _=>some "bool"
 | .int _=>some "int"
 | .str _=>some "str"
 | .lst _=>some "list"
 | .tup _=>some "tuple"
 | _=>none
theorem a9p{K:W.Frag}(t n:String)(ht:t∈["NoneType","bool","int","str","list","tuple"])(hn:n∈["bool","int","str","list","tuple"]):W.kitOne K (.type t) (.type n)=some (t == n || (t == "bool" && n == "int")):=by
 simp only[List.mem_cons,List.not_mem_nil,or_false]at ht hn
 rcases ht with rfl | rfl | rfl | rfl | rfl | rfl<;>rcases hn with rfl | rfl | rfl | rfl | rfl<;>first | rfl | with_unfolding_all rfl
def a70:List D→Option D
 | [d,.ty n]=>match tyN d with
  | some t=>if n∈["bool","int","str","list","tuple"]then some (.bl (t == n || (t == "bool" && n == "int")))else none
  | none=>none
 | _=>none
theorem a9q{d:D}{t:String}(h:tyN d=some t):t∈["NoneType","bool","int","str","list","tuple"]:=by
 cases d<;>cases h<;>decide
theorem b1h{F H:Hp}{d:D}{t:String}{v:V}(s:Same F H)(p:Rp K cl F d v)(h:tyN d=some t):TyX K H v (.type t):=by
 cases d<;>cases h<;>simp only[Rp]at p
 ·subst p;exact .of .non
 ·subst p;exact .of (.bl _)
 ·subst p;exact .of (.int _)
 ·subst p;exact .of (.str _)
 ·obtain⟨a,xs,rfl,h,_⟩:=p;exact .of (.tup (s _ _ h))
 ·obtain⟨a,xs,rfl,h,_⟩:=p;exact .of (.lst (s _ _ h))
theorem b5U:a7O K cl (a7x K) a70:=by
 intro xs ds z H F Q s hx h q
 unfold a70 at h
 split at h
 ·rename_i d n
  split at h
  ·rename_i t ht
   split at h
   ·rename_i hn;cases h
    obtain⟨v,r,rfl,p1,p2⟩:=hx.inv
    obtain⟨u,r',rfl,p3,p4⟩:=p2.inv
    rw[p4.inv0]
    simp only[Rp]at p3
    subst p3
    exact⟨v,_,_,_,_,rfl,rfl,b1h s p1 ht,a9p t n (a9q ht) hn,q _ H F (.refl s) (by simp only[Rp])⟩
   ·cases h
  ·cases h
 ·cases h
def W8(n:String)(d:D):Option D:=match tyN d with
 | some t=>if n∈["bool","int","str","list","tuple"]then some (.bl (t == n || (t == "bool" && n == "int")))else none
 | none=>none
def N6(i:Nat)(n:String):ZF:=fun e=>match look e i with
 | some d=>R7 (W8 n d) e
 | none=>none
theorem a1y{E:XK}{i:Nat}{n:String}{t:TE}(ht:t=tC (.ty n):=by rfl):t5 K cl E (tCB (a7x K) (P5 (O4 i) (P5 t a1h))) (N6 i n):=by
 subst ht
 intro σ H Q env F R h
 unfold N6 at h
 cases q:look env i with
 | none=>rw[q]at h;exact h.elim
 | some d =>
  rw[q]at h
  obtain⟨x,e,rb⟩:=R.look q
  refine⟨x,e,?_⟩
  cases hz:W8 n d with
  | none=>simp only[hz,M1]at h;exact h.elim
  | some z =>
   simp only[hz,M0]at h
   unfold W8 at hz
   split at hz
   ·rename_i t ht
    split at hz
    ·rename_i hn;cases hz
     refine⟨x,_,_,_,_,rfl,rfl,?_,a9p t n (a9q ht) hn,h _ H F Frm.refl R (by show Rp K cl F (.bl _) _;simp only[Rp])⟩
     rcases rb with p | ⟨a,xs,ds,rfl,rfl,hH,_⟩
     ·exact b1h R.sub p ht
     ·cases ht;exact .of (.lst hH)
    ·cases hz
   ·cases hz
end
section
variable {P:Program}{w:World}{mg:Str→Option Value}{base:Heap}{K:W.Frag}{cl:Str→Addr}{E:XK}
theorem b2H{g:List D→Option R1}{t:TA}{f:AF}(hf:T5 K cl E t f):t5 K cl E (a1r (l5 K cl g) t) (l6 g f):=by
 intro σ H Q env F R h
 refine hf σ H _ env F R ((Ct.bnd h M3).mono fun vs H1 ⟨F1,e1,ds,s1,R1,p1,h1⟩=>?_)
 obtain⟨z,n⟩:=a9j h1
 have:l5 K cl g (vs++[]) H1 Q E0:=by
  refine a7V R1 p1 ?_
  rw[z]
  unfold Ct at h1 ⊢
  split at h1
  ·exact h1
  ·exact h1
  ·rename_i c q
   exact absurd q (by unfold a0s;split<;>intro y<;>cases y)
 rw[List.append_nil]at this
 exact this
theorem Fun.okWD{x qual:Str}{st:Stmt}{f:Addr}{fd:FuncData}{N ps:List Str}{k:Nat}{body:SF}(F:Fun K x qual st f fd)(S:FnScope N ps (d6 st))
  (hbody:∀(cdv:Value) (A:Around) (outer:List Env) (s:Shared) (H:Hp),RoomW k (A.deeper (envOfC qual (d6 st) s.heap.objs.size f cdv)) →
   ∃t,PSs (a01 P w K mg base N qual (d6 st) f cdv A outer s H) (k7 st) t∧RfS K cl E0 t body):FnOkW P w K mg base (k+1) f fd ps (l5 K cl (fD N.length ps.length body)) :=
 F.okW S (fun vs H Q E h=>a38 h) fun cdv A outer s H vs Q hr h=>by
  obtain⟨t,h1,h2⟩:=hbody cdv A outer s H hr
  exact⟨t,h1,a2E h2 h⟩
def a71:D→Option Str
 | .cls n=>some n
 | _=>none
def a7i(xT:Str→List Str→Option Bool):List D→Option D
 | [.exc c,.tup cs]=>match cs.mapM a71 with
  | some ns=>(xT c ns).map .bl
  | none=>none
 | [.exv c _ _,.tup cs]=>match cs.mapM a71 with
  | some ns=>(xT c ns).map .bl
  | none=>none
 | _=>none
def a7j(x1:Str→Str→Option Bool)(x2:Str→String→Option Bool):List D→Option D
 | [.exc c,.cls n]=>(x1 c n).map .bl
 | [.exc c,.ty n]=>(x2 c n).map .bl
 | [.exv c _ _,.cls n]=>(x1 c n).map .bl
 | [.exv c _ _,.ty n]=>(x2 c n).map .bl
 | _=>none
theorem a4V:∀{cs:List D} {ns:List Str} {F:Hp} {ys:List V},cs.mapM a71=some ns→Rps K cl F cs ys→ys.mapM a4J=some (ns.map fun m=>Value.ref (cl m))
 | [],_,_,_,h,p=>by cases h;rw[p.inv0];rfl
 | c::cs,_,_,_,h,p=>by
  obtain⟨v,r,rfl,p1,p2⟩:=p.inv
  rw[List.mapM_cons]at h ⊢
  cases hc:a71 c with
  | none=>rw[hc]at h;cases h
  | some n =>
   rw[hc]at h
   cases hcs:cs.mapM a71 with
   | none=>rw[hcs]at h;cases h
   | some ns =>
    rw[hcs]at h;cases h
    have hv:v=.ref (cl n):=by
     cases c<;>cases hc
     simpa only[Rp]using p1
    rw[hv,a4V hcs p2];rfl
theorem a9r{xT:Str→List Str→Option Bool}(hx:∀c ns b,xT c ns=some b→W.ExcT K (cl c)∧W.kitAny K (.ref (cl c)) (ns.map fun m=>.ref (cl m))=some b):a7O K cl (a9Y K) (a7i xT):=by
 intro xs ds z H F Q s p h q
 unfold a7i at h
 split at h
 ·rename_i c cs
  split at h
  ·rename_i ns hn
   cases hb:xT c ns with
   | none=>rw[hb]at h;cases h
   | some b =>
    rw[hb]at h;cases h
    obtain⟨v,r,rfl,p1,p2⟩:=p.inv
    obtain⟨u,r',rfl,p3,p4⟩:=p2.inv
    rw[p4.inv0]
    simp only[Rp]at p1 p3
    obtain⟨a,cx,rfl,ha⟩:=p1
    obtain⟨t,ys,rfl,ht,r⟩:=p3
    obtain⟨hT,hk⟩:=hx c ns b hb
    exact⟨_,t,ys,_,_,b,rfl,s _ _ ht,a4V hn r,.exc (s _ _ ha) hT,hk,q _ H F (.refl s) (by simp only[Rp])⟩
  ·cases h
 ·rename_i c f' d' cs
  split at h
  ·rename_i ns hn
   cases hb:xT c ns with
   | none=>rw[hb]at h;cases h
   | some b =>
    rw[hb]at h;cases h
    obtain⟨v,r,rfl,p1,p2⟩:=p.inv
    obtain⟨u,r',rfl,p3,p4⟩:=p2.inv
    rw[p4.inv0]
    simp only[Rp]at p1 p3
    obtain⟨a,dx,y,rfl,ha,_⟩:=p1
    obtain⟨t,ys,rfl,ht,r⟩:=p3
    obtain⟨hT,hk⟩:=hx c ns b hb
    exact⟨_,t,ys,_,_,b,rfl,s _ _ ht,a4V hn r,.exc (s _ _ ha) hT,hk,q _ H F (.refl s) (by simp only[Rp])⟩
  ·cases h
 ·cases h
theorem a9s{x1:Str→Str→Option Bool}{x2:Str→String→Option Bool}(h1:∀c n b,x1 c n=some b→W.ExcT K (cl c)∧W.kitOne K (.ref (cl c)) (.ref (cl n))=some b)
  (h2:∀c n b,x2 c n=some b→W.ExcT K (cl c)∧W.kitOne K (.ref (cl c)) (.type n)=some b):a7O K cl (a7x K) (a7j x1 x2):=by
 intro xs ds z H F Q s p h q
 unfold a7j at h
 split at h
 ·rename_i c n
  cases hb:x1 c n with
  | none=>rw[hb]at h;cases h
  | some b =>
   rw[hb]at h;cases h
   obtain⟨v,r,rfl,p1,p2⟩:=p.inv
   obtain⟨u,r',rfl,p3,p4⟩:=p2.inv
   rw[p4.inv0]
   simp only[Rp]at p1 p3
   obtain⟨a,cx,rfl,ha⟩:=p1
   subst p3
   obtain⟨hT,hk⟩:=h1 c n b hb
   exact⟨_,_,_,_,b,rfl,rfl,.exc (s _ _ ha) hT,hk,q _ H F (.refl s) (by simp only[Rp])⟩
 ·rename_i c n
  cases hb:x2 c n with
  | none=>rw[hb]at h;cases h
  | some b =>
   rw[hb]at h;cases h
   obtain⟨v,r,rfl,p1,p2⟩:=p.inv
   obtain⟨u,r',rfl,p3,p4⟩:=p2.inv
   rw[p4.inv0]
   simp only[Rp]at p1 p3
   obtain⟨a,cx,rfl,ha⟩:=p1
   subst p3
   obtain⟨hT,hk⟩:=h2 c n b hb
   exact⟨_,_,_,_,b,rfl,rfl,.exc (s _ _ ha) hT,hk,q _ H F (.refl s) (by simp only[Rp])⟩
 ·rename_i c f' d' n
  cases hb:x1 c n with
  | none=>rw[hb]at h;cases h
  | some b =>
   rw[hb]at h;cases h
   obtain⟨v,r,rfl,p1,p2⟩:=p.inv
   obtain⟨u,r',rfl,p3,p4⟩:=p2.inv
   rw[p4.inv0]
   simp only[Rp]at p1 p3
   obtain⟨a,dx,y,rfl,ha,_⟩:=p1
   subst p3
   obtain⟨hT,hk⟩:=h1 c n b hb
   exact⟨_,_,_,_,b,rfl,rfl,.exc (s _ _ ha) hT,hk,q _ H F (.refl s) (by simp only[Rp])⟩
 ·rename_i c f' d' n
  cases hb:x2 c n with
  | none=>rw[hb]at h;cases h
  | some b =>
   rw[hb]at h;cases h
   obtain⟨v,r,rfl,p1,p2⟩:=p.inv
   obtain⟨u,r',rfl,p3,p4⟩:=p2.inv
   rw[p4.inv0]
   simp only[Rp]at p1 p3
   obtain⟨a,dx,y,rfl,ha,_⟩:=p1
   subst p3
   obtain⟨hT,hk⟩:=h2 c n b hb
   exact⟨_,_,_,_,b,rfl,rfl,.exc (s _ _ ha) hT,hk,q _ H F (.refl s) (by simp only[Rp])⟩
 ·cases h
def a3q(g g':D→D→Option D)(fa fb fc:ZF):ZF:=fun e=>bnd (fa e) fun d e1=>bnd (fb e1) fun d' e2=>match g d d' with
 | some (.bl b)=>if b=true then bnd (fc e2) fun d'' e3=>R7 (g' d' d'') e3 else some (.ok (.bl false) e2)
 | _=>none
end
section
variable {α β:Type}
def L3(r:Option RS)(k:SF):Option RS:=match r with
 | some (.nx e)=>k e
 | r=>r
theorem a1z{f k:SF}{e:DE}:f9 f k e=L3 (f e) k:=rfl
theorem V7{e:DE}{k:SF}:L3 (some (.nx e)) k=k e:=rfl
theorem a1A{d:D}{k:SF}:L3 (some (.rt d)) k=some (.rt d):=rfl
theorem a1B{d:List D}{k:SF}:L3 (some (.ro d)) k=some (.ro d):=rfl
theorem a1C{d:XN}{k:SF}:L3 (some (.ex d)) k=some (.ex d):=rfl
theorem a1D{e:DE}{k:SF}:L3 (some (.bk e)) k=some (.bk e):=rfl
theorem a1E{e:DE}{k:SF}:L3 (some (.ct e)) k=some (.ct e):=rfl
theorem a1F{k:SF}:L3 none k=none:=rfl
theorem a0x{c:Prop} [Decidable c] {a b:Option RS} {k:SF}:L3 (if c then a else b) k=if c then L3 a k else L3 b k:=by split<;>rfl
theorem a39{c:Prop} [Decidable c] {a b:Option (R α)} {k:α→DE→Option (R β)}:bnd (if c then a else b) k=if c then bnd a k else bnd b k:=by split<;>rfl
theorem a1G{c:Prop} [Decidable c] {a b:Option (R α)} {k:α→DE→Option RS}:v8 (if c then a else b) k=if c then v8 a k else v8 b k:=by split<;>rfl
theorem a1H{c:Prop} [Decidable c] {a b:Option α} {e:DE}:R7 (if c then a else b) e=if c then R7 a e else R7 b e:=by split<;>rfl
theorem a3_{c:Prop} [Decidable c] {a b:Option R1} {e:DE}:toZ (if c then a else b) e=if c then toZ a e else toZ b e:=by split<;>rfl
theorem a2F{c:Prop} [Decidable c] {a b:Option R1} {e:DE}:a0s (if c then a else b) e=if c then a0s a e else a0s b e:=by split<;>rfl
theorem a0_{c:Prop} [Decidable c] {i:Nat} {a b:Option R1} {e:DE}:P6 i (if c then a else b) e=if c then P6 i a e else P6 i b e:=by split<;>rfl
theorem Z9{c:Prop} [Decidable c] {i:Nat} {a b:Option R1} {e:DE}:X7 i (if c then a else b) e=if c then X7 i a e else X7 i b e:=by split<;>rfl
theorem a1a{c:Prop} [Decidable c] {a b:Option R1}:a09 (if c then a else b)=if c then a09 a else a09 b:=by split<;>rfl
theorem a0a{c:Prop} [Decidable c] {a b:Option R1}:a1x (if c then a else b)=if c then a1x a else a1x b:=by split<;>rfl
theorem a1I{d:D}{e:DE}:toZ (some (.ret d)) e=some (.ok d e):=rfl
theorem a1J{d:List D}{e:DE}:toZ (some (.own d)) e=some (.ok (.lst d) e):=rfl
theorem a3r{d:XN}{e:DE}:toZ (some (.ex d)) e=some (.ex d):=rfl
theorem a0y{d:D}{e:DE}:a0s (some (.ret d)) e=some (.ok d e):=rfl
theorem a0z{d:List D}{e:DE}:a0s (some (.own d)) e=some (.ok (.lst d) e):=rfl
theorem X9{i:Nat}{d:D}{e:DE}:P6 i (some (.ret d)) e=put i (.fz d) e:=rfl
theorem Y0{i:Nat}{d:List D}{e:DE}:P6 i (some (.own d)) e=put i (.ow d) e:=rfl
theorem a0A{i:Nat}{d:XN}{e:DE}:P6 i (some (.ex d)) e=some (.ex d):=rfl
theorem U0{i:Nat}{d:D}{e:DE}:X7 i (some (.ret d)) e=put i (.fz d) e:=rfl
theorem U1{i:Nat}{d:List D}{e:DE}:X7 i (some (.own d)) e=put i (.ow d) e:=rfl
theorem Y1{d:D}:a09 (some (.ret d))=some (.rt d):=rfl
theorem Y2{d:List D}:a09 (some (.own d))=some (.ro d):=rfl
theorem a0B{d:XN}:a09 (some (.ex d))=some (.ex d):=rfl
theorem U2{d:D}:a1x (some (.ret d))=some (.rt d):=rfl
theorem U3{d:List D}:a1x (some (.own d))=some (.ro d):=rfl
def U4(r:Option RS):Option R1:=match r with
 | some (.nx _)=>some (.ret .non)
 | some (.rt d)=>some (.ret d)
 | some (.ro es)=>some (.own es)
 | some (.rz dss)=>some (.owz dss)
 | some (.rp n es)=>some (.owp n es)
 | some (.ex c)=>some (.ex c)
 | _=>none
theorem a5A{n m:Nat}{body:SF}{ds:List D}(h:ds.length=m):fD n m body ds=U4 (body (ds.map .fz++List.replicate (n-m) .no)):=by
 unfold fD;rw[if_pos h,h];rfl
theorem a1K{e:DE}:U4 (some (.nx e))=some (.ret .non):=rfl
theorem V8{d:D}:U4 (some (.rt d))=some (.ret d):=rfl
theorem a1L{d:List (List D)}:U4 (some (.rz d))=some (.owz d):=rfl
theorem a1M{d:List (List D)}{k:SF}:L3 (some (.rz d)) k=some (.rz d):=rfl
theorem Y3{d:List (List D)}:a09 (some (.owz d))=some (.rz d):=rfl
theorem a1N{d:List D}:U4 (some (.ro d))=some (.own d):=rfl
theorem a1O{d:XN}:U4 (some (.ex d))=some (.ex d):=rfl
theorem a0C{c:Prop} [Decidable c] {a b:Option RS}:U4 (if c then a else b)=if c then U4 a else U4 b:=by split<;>rfl
def U5(r:Option RS)(k:SF):Option RS:=match r with
 | some (.nx e)=>k e
 | some (.ct e)=>k e
 | some (.bk e)=>some (.nx e)
 | r=>r
theorem a1P{e:DE}{k:SF}:U5 (some (.nx e)) k=k e:=rfl
theorem a1Q{e:DE}{k:SF}:U5 (some (.ct e)) k=k e:=rfl
theorem a1R{e:DE}{k:SF}:U5 (some (.bk e)) k=some (.nx e):=rfl
theorem a1S{d:D}{k:SF}:U5 (some (.rt d)) k=some (.rt d):=rfl
theorem a1T{d:List (List D)}{k:SF}:U5 (some (.rz d)) k=some (.rz d):=rfl
theorem a1U{d:List D}{k:SF}:U5 (some (.ro d)) k=some (.ro d):=rfl
theorem a1V{d:XN}{k:SF}:U5 (some (.ex d)) k=some (.ex d):=rfl
theorem a2G{c:Prop} [Decidable c] {a b:Option RS} {k:SF}:U5 (if c then a else b) k=if c then U5 a k else U5 b k:=by split<;>rfl
theorem a0D{b:GF}{body:SF}{e:DE}:l9 b body [] e=some (.nx e):=rfl
def B6(x:Option DE)(k:SF):Option RS:=match x with
 | none=>none
 | some e=>k e
theorem G8{b:GF}{body:SF}{d:D}{ds:List D}{e:DE}:l9 b body (d::ds) e=B6 (b d e) fun e1=>U5 (body e1) (l9 b body ds):=by
 rw[l9];cases b d e<;>rfl
theorem E1{e:DE}{k:SF}:B6 (some e) k=k e:=rfl
def a3s(n i:Nat)(exm:Str→Bool)(suite:SF)(e:DE)(r:Option RS):Option RS:=match r with
 | some (.ex (.v _ _ _))=>none
 | some (.ex (.p c))=>if(exm c && a6r e)=true then(match suite ((List.replicate n Sl.no).set i (.fz (.exc c)))with
   | some (.nx e2)=>put i .no e2
   | some (.rt d)=>some (.rt d)
   | some (.ro ds)=>some (.ro ds)
   | _=>none)else none
 | r=>r
theorem Y4{n i:Nat}{exm:Str→Bool}{body suite:SF}{e:DE}:b5S n i exm body suite e=a3s n i exm suite e (body e):=rfl
def b0e(i:Nat)(r:Option RS):Option RS:=match r with
 | some (.nx e2)=>put i .no e2
 | some (.rt d)=>some (.rt d)
 | some (.ro ds)=>some (.ro ds)
 | _=>none
theorem a1W{i:Nat}{e:DE}:b0e i (some (.nx e))=put i .no e:=rfl
theorem a1X{i:Nat}{d:D}:b0e i (some (.rt d))=some (.rt d):=rfl
theorem a1Y{i:Nat}{d:List D}:b0e i (some (.ro d))=some (.ro d):=rfl
theorem a1Z{n i:Nat}{exm:Str→Bool}{suite:SF}{e:DE}{c:Str}:a3s n i exm suite e (some (.ex (.p c)))=if(exm c && a6r e)=true then b0e i (suite ((List.replicate n Sl.no).set i (.fz (.exc c))))else none:=rfl
theorem a11{n i:Nat}{exm:Str→Bool}{suite:SF}{e:DE}{d:D}:a3s n i exm suite e (some (.rt d))=some (.rt d):=rfl
theorem a12{n i:Nat}{exm:Str→Bool}{suite:SF}{e:DE}{d:List D}:a3s n i exm suite e (some (.ro d))=some (.ro d):=rfl
theorem a13{n i:Nat}{exm:Str→Bool}{suite:SF}{e e1:DE}:a3s n i exm suite e (some (.nx e1))=some (.nx e1):=rfl
theorem a2H{n i:Nat}{exm:Str→Bool}{suite:SF}{e:DE}{c:Prop} [Decidable c] {a b:Option RS}:a3s n i exm suite e (if c then a else b)=if c then a3s n i exm suite e a else a3s n i exm suite e b:=by split<;>rfl
theorem a14(a b:Int):y6 (.int a) (.int b)=some (.int (a+b)):=rfl
theorem a15(a b:Int):N4 (.int a) (.int b)=some (.int (a-b)):=rfl
theorem a3t(a b:Int):F9 (.int a) (.int b)=some (.bl (decide (a<b))):=rfl
theorem a3u(a b:Int):gLe (.int a) (.int b)=some (.bl (decide (a≤b))):=rfl
theorem a3v(a b:Int):Z4 (.int a) (.int b)=some (.bl (decide (b<a))):=rfl
theorem a3w(a b:Int):gGe (.int a) (.int b)=some (.bl (decide (b≤a))):=rfl
theorem a9t{a b:Int}(h:IntMulOk a b):a0r (.int a) (.int b)=some (.int (a*b)):=by show(if _ then _ else _)=_;rw[if_pos h]
theorem a16{a b:Int}(h:0<b∧b.natAbs.log2<9000):V6 (.int a) (.int b)=some (.int (a/b)):=by show(if _ then _ else _)=_;rw[if_pos h]
theorem a0d{a b:Int}(h:0<b):B9 (.int a) (.int b)=some (.int (a%b)):=by show(if _ then _ else _)=_;rw[if_pos h]
theorem a0e{a b:Int}(h:a57 a b):a6o (.int a) (.int b)=some (.int (a ^ b.toNat)):=by show(if _ then _ else _)=_;rw[if_pos h]
end
def Fits(i:Int):Prop:=Builtin.Int.intBits i≤2 ^ 20
theorem b4g{a b:Int}(h:a.natAbs≤b.natAbs):Builtin.Int.intBits a≤Builtin.Int.intBits b:=by
 unfold Builtin.Int.intBits
 split
 ·exact Nat.zero_le _
 ·rename_i ha
  have ha':a.natAbs≠0:=by
   intro z;apply ha;first | exact Int.natAbs_eq_zero.mp z | (simpa using z)
  have hb':b.natAbs≠0:=by omega
  split
  ·rename_i hb
   exact absurd (by first | exact Int.natAbs_eq_zero.mpr hb | (simpa using hb)) hb'
  ·have h1:b.natAbs<2 ^ (b.natAbs.log2+1):=Nat.lt_log2_self
   have h2:a.natAbs.log2<b.natAbs.log2+1:=(Nat.log2_lt ha').mpr (by omega)
   omega
theorem Fits.le{a b:Int}(h:Fits b)(l:a.natAbs≤b.natAbs):Fits a:=Nat.le_trans (b4g l) h
theorem Fits.mod{i n:Int}(hn:0<n)(h:Fits n):Fits (i%n):=by
 refine h.le ?_
 have h1:=Int.emod_nonneg i (show n≠0 by omega)
 have h2:=Int.emod_lt_of_pos i hn
 omega
theorem b1i{a b:Int}(h:a.natAbs<2 ^ 64):IntMulOk a b:=IntMulOk.of_left (intBits_le_64 (by omega) (by omega))
theorem b0f{a b:Int}(h:b.natAbs<2 ^ 64):IntMulOk a b:=IntMulOk.of_right (intBits_le_64 (by omega) (by omega))
theorem a3x{a b:Int}(h:a.natAbs<2 ^ 64):a0r (.int a) (.int b)=some (.int (a*b)):=a9t (b1i h)
theorem a3y{a b:Int}(h:b.natAbs<2 ^ 64):a0r (.int a) (.int b)=some (.int (a*b)):=a9t (b0f h)
section
variable {α:Type}
theorem a2I{a:α}{l:List α}:atI (a::l) 0=some a:=by unfold atI ixN;simp
theorem a4a{a:α}{l:List α}{n:Nat}:atI (a::l) ((n:Int)+1)=atI l n:=by
 unfold atI ixN
 have h1:(0:Int)≤(n:Int)+1:=by omega
 have h2:(0:Int)≤(n:Int):=by omega
 rw[if_pos h1,if_pos h2]
 by_cases z:(n:Int)<(l.length:Int)
 ·rw[if_pos z,if_pos (by rw[List.length_cons];push_cast;omega)]
  show(a::l)[((n:Int)+1).toNat]? = l[((n:Int)).toNat]?
  rw[show((n:Int)+1).toNat=n+1 by omega,show((n:Int)).toNat=n by omega]
  rfl
 ·rw[if_neg z,if_neg (by rw[List.length_cons];push_cast;omega)]
  rfl
theorem a2J{a b:α}{l:List α}:atI (a::b::l) 1=some b:=(a4a (n:=0)).trans a2I
theorem a4b{a b c:α}{l:List α}:atI (a::b::c::l) 2=some c:=(a4a (n:=1)).trans a2J
theorem a4c{a b c d:α}{l:List α}:atI (a::b::c::d::l) 3=some d:=(a4a (n:=2)).trans a4b
theorem a5B{a b c d e:α}{l:List α}:atI (a::b::c::d::e::l) 4=some e:=(a4a (n:=3)).trans a4c
theorem a5C{a b c d e f:α}{l:List α}:atI (a::b::c::d::e::f::l) 5=some f:=(a4a (n:=4)).trans a5B
theorem a7k{a b c d e f g:α}{l:List α}:atI (a::b::c::d::e::f::g::l) 6=some g:=(a4a (n:=5)).trans a5C
end
def m9(ns:List Int)(k:Int):Int:=ns.getD k.toNat 0
theorem b4h{ns:List Int}{k:Int}(hk:0≤k):(if k<(ns.length:Int)then(match atI ns k with
  | none=>none
  | some n=>some (R1.ret (D.int n)))else some (R1.ret (D.int 0)))=some (R1.ret (D.int (m9 ns k))):=by
 unfold m9
 by_cases z:k<(ns.length:Int)
 ·rw[if_pos z]
  have h:k.toNat<ns.length:=by omega
  have e:atI ns k=some ns[k.toNat]:=by
   unfold atI ixN
   rw[if_pos hk,if_pos z]
   exact List.getElem?_eq_getElem h
  rw[e,List.getD_eq_getElem?_getD,List.getElem?_eq_getElem h];rfl
 ·rw[if_neg z,List.getD_eq_getElem?_getD,List.getElem?_eq_none (by omega)];rfl
theorem a6s{j:Int}(h : -(2 ^ 62)≤j∧j<2 ^ 62):Z3 [.int j]=some (0,j.toNat):=by
 show(if _ then _ else _)=_
 rw[if_pos h]
section
variable {K:W.Frag}{cl:Str→Addr}{E:XK}{σ:St}{H F:Hp}{env:DE}{k:Nat}
def a0E(ds es:List D):List D:=List.zipWith (fun a b=>.tup [a,b]) ds es
theorem b2I{ds es:List D}{i:Nat}{d e:D}(h:ds[i]? = some d)(h':es[i]? = some e):(a0E ds es)[i]? = some (.tup [d,e]):=by
 unfold a0E;rw[List.getElem?_zipWith,h,h']
theorem b2J{ds es:List D}:(a0E ds es).length=min ds.length es.length:=by unfold a0E;rw[List.length_zipWith]
def a2K(ds:List D):Option (List D):=match ds with
 | [d,e]=>match seqL d,seqL e with
  | some xs,some ys=>some (a0E xs ys)
  | _,_=>none
 | _=>none
theorem b4i{ds zs:List D}{vs:List V}(h:a2K ds=some zs)(p:Rps K cl F ds vs):∃a a' xs ys ds' es',vs=[.ref a,.ref a']∧zs=a0E ds' es'∧Rps K cl F ds' xs∧Rps K cl F es' ys∧∀H',Same F H'→SqL K H' a xs∧SqL K H' a' ys:=by
 unfold a2K at h
 split at h
 ·rename_i d e
  split at h
  ·rename_i xs ys h1 h2
   cases h
   obtain⟨v,r,rfl,p1,p2⟩:=p.inv
   obtain⟨u,r',rfl,p3,p4⟩:=p2.inv
   rw[p4.inv0]
   obtain⟨a,us,rfl,q1,l1⟩:=Rp.seqL p1 h1
   obtain⟨a',us',rfl,q2,l2⟩:=Rp.seqL p3 h2
   exact⟨a,a',us,us',xs,ys,rfl,rfl,q1,q2,fun H' g=>⟨l1 H' g,l2 H' g⟩⟩
  ·cases h
 ·cases h
def a5D(f:AF)(b:GF)(body:SF):SF:=fun e=>v8 (f e) fun ds e1=>match a2K ds with
 | none=>none
 | some zs=>l9 b body zs e1
theorem b6x{b:GF}{c:BF}{el:ZF}{g:TG}{tf:TT}{te:TE}{js:List Nat}{ds es:List D}{xs ys:List V}{a a' B:Addr}{Q:VK}(nd:js.Nodup)(hg:G7 K cl k g b)(hc:R8 K cl E tf c)(he:t5 K cl E te el)(R:Rel K cl σ H F env)(hB:H B=none)
  (hl:∀H' F',Same F F'→Same F' H'→SqL K H' a xs∧SqL K H' a' ys) (r:Rps K cl F ds xs) (r':Rps K cl F es ys) (h:Ct K cl E (PN K cl) (p7 b c el (n8 k js env) env (a0E ds es) []) σ H F env Q) :
  S9 (Itz K a a') g tf te k (u2 k js σ) B (fun H'=>Q (.ref B) H') H:=by
 refine b2m (xs:=xs) (ys:=ys) (fun i zs H'=>∃F' acc,Grow K cl σ H F env B acc zs H' F'∧Ct K cl E (PN K cl) (p7 b c el (n8 k js env) env ((a0E ds es).drop i) acc) σ H F env Q) ⟨F,[],.start R hB,h⟩ (fun i zs H' ⟨F',acc,gw,_⟩=>hl H' F' gw.frm.fz gw.rel.sub) (fun i x y zs H' p hx hy ⟨F',acc,gw,h'⟩ hp=>?_) (fun zs H' ⟨F',acc,gw,h'⟩=>?_)
 ·obtain⟨d,hd,pd⟩:=r.get' hx
  obtain⟨d',hd',pd'⟩:=r'.get' hy
  rw[D9 (b2I hd hd')]at h'
  have gr:Gr H' F' (upd H' p (.tup [x,y])) (upd F' p (.tup [x,y])):=.new gw.rel.sub hp
  refine a3p (Pv:=fun zs' H2=>∃F' acc,Grow K cl σ H F env B acc zs' H2 F'∧Ct K cl E (PN K cl) (p7 b c el (n8 k js env) env ((a0E ds es).drop (i+1)) acc) σ H F env Q) nd hg hc he (gw.gr gr) ?_ h' fun acc' ys' H2 F2 gw2 h2=>⟨F2,acc',gw2,h2⟩
  simp only[Rp]
  exact⟨p,_,rfl,i8,.cons (Rp.mono (gw.frm.fz.trans gr.fz) _ _ pd) (.one (Rp.mono (gw.frm.fz.trans gr.fz) _ _ pd'))⟩
 ·rw[← r.length,← r'.length,List.drop_eq_nil_of_le (by rw[b2J];exact Nat.le_refl _)]at h'
  exact a4U gw h'
def a0F(k:Nat)(js:List Nat)(f:AF)(b:GF)(c:BF)(el:ZF):NF:=fun e=>bnd (f e) fun ds e1=>match a2K ds with
 | none=>none
 | some zs=>p7 b c el (n8 k js e1) e1 zs []
theorem b2K{t:TA}{g:TG}{tf:TT}{te:TE}{js:List Nat}{f:AF}{b:GF}{c:BF}{el:ZF}(nd:js.Nodup)(hf:T5 K cl E t f)(hg:G7 K cl k g b)(hc:R8 K cl E tf c)(he:t5 K cl E te el):RfN K cl E (a32 (b5x K t) g tf te k js) (a0F k js f b c el):=by
 intro σ H Q env F R h
 refine hf σ H _ env F R ((Ct.bnd h a2C).mono fun x H1 ⟨F1,e1,ds,s1,R1,p1,h1⟩=>?_)
 split at h1
 ·exact h1.elim
 ·rename_i zs hs
  obtain⟨a,a',xs,ys,ds',es',rfl,rfl,q1,q2,hl⟩:=b4i hs p1
  exact⟨a,a',rfl,⟨xs,(hl H1 R1.sub).1⟩,⟨ys,(hl H1 R1.sub).2⟩,fun B hB=>b6x nd hg hc he R1 hB (fun H' F' f2 s2=>hl H' (f2.trans s2)) q1 q2 h1⟩
def oN:OF:=fun e=>some (.ok none e)
def oS(f:ZF):OF:=fun e=>bnd (f e) fun d e1=>match d with
 | .int i=>some (.ok (some i) e1)
 | _=>none
theorem b6y:RfO K cl E a83 oN:=fun σ H Q env F R h=>h none H F Frm.refl R rfl
theorem b0g{t:TE}{f:ZF}(hf:t5 K cl E t f):RfO K cl E (b3p t) (oS f):=by
 intro σ H Q env F R h
 refine hf σ H _ env F R ((Ct.bnd h b65).mono fun x H1 ⟨F1,e1,d,s1,R1,p1,h1⟩=>?_)
 split at h1
 ·rename_i i
  have:x=.int i:=by have:=(show Rp K cl F1 (.int i) x from p1);simpa only[Rp]using this
  exact⟨i,this,h1 _ H1 F1 Frm.refl R1 rfl⟩
 ·exact h1.elim
def a3z(xs:List D)(lo hi:Option Int):List D:=(xs.drop (HT.sIx xs.length 0 lo)).take (HT.sIx xs.length xs.length hi-HT.sIx xs.length 0 lo)
theorem Rps.cut{ds:List D}{xs:List V}(h:Rps K cl F ds xs)(lo hi:Option Int):Rps K cl F (a3z ds lo hi) (a1i xs lo hi):=by
 unfold a3z a1i
 rw[h.length]
 exact(h.drop _).take _
def nSl(f:ZF)(l u:OF):NF:=fun e=>bnd (f e) fun d e1=>bnd (l e1) fun lo e2=>bnd (u e2) fun hi e3=>match seqL d with
 | some ds=>some (.ok (a3z ds lo hi) e3)
 | none=>none
def a2L(i:Nat)(l u:OF):NF:=fun e=>match look e i with
 | none=>none
 | some _=>bnd (l e) fun lo e2=>bnd (u e2) fun hi e3=>match look e3 i with
  | some d=>(match seqL d with
   | some ds=>some (.ok (a3z ds lo hi) e3)
   | none=>none)
  | none=>none
theorem Rb.seqL{d:D}{ds:List D}{v:V}(s:Same F H)(p:Rb K cl F H d v)(q:L2.seqL d=some ds):∃a xs,v=.ref a∧Rps K cl F ds xs∧SqL K H a xs:=by
 rcases p with p | ⟨a,xs,es,e,rfl,h,r⟩
 ·obtain⟨a,xs,e,r,l⟩:=Rp.seqL p q;exact⟨a,xs,e,r,l H s⟩
 ·cases q;exact⟨a,xs,e,r,.of h⟩
theorem b5V{i:Nat}{tl tu:TO}{l u:OF}(hl:RfO K cl E tl l)(hu:RfO K cl E tu u):RfN K cl E (tSl (b16 K) (O4 i) tl tu) (a2L i l u):=by
 intro σ H Q env F R h
 unfold a2L at h
 cases q:look env i with
 | none=>rw[q]at h;exact h.elim
 | some d0 =>
  rw[q]at h
  obtain⟨x,e0,_⟩:=R.look q
  refine⟨x,e0,?_⟩
  refine hl σ H _ env F R ((Ct.bnd h a2C).mono fun lo H2 ⟨F2,e2,lo',s2,R2,p2,h2⟩=>?_)
  refine hu σ H2 _ e2 F2 R2 ((Ct.bnd h2 a2C).mono fun hi H3 ⟨F3,e3,hi',s3,R3,p3,h3⟩=>?_)
  cases (show lo=lo' from p2)
  cases (show hi=hi' from p3)
  cases q2:look e3 i with
  | none=>simp only[q2]at h3;exact h3.elim
  | some d =>
   simp only[q2]at h3
   obtain⟨x',e',rb⟩:=R3.look q2
   rw[e0]at e';cases e'
   split at h3
   ·rename_i ds hs
    obtain⟨a,xs,rfl,r,hq⟩:=rb.seqL R3.sub hs
    exact⟨a,xs,rfl,hq,fun p hp=>Ct.newN R3 hp (r.cut _ _) h3⟩
   ·exact h3.elim
end
section
variable {P:Program}{w:World}{mg:Str→Option Value}{base:Heap}{K:W.Frag}{cl:Str→Addr}{E:XK}{σ:St}{H F:Hp}{env:DE}{k:Nat}
def P8:List D→Option (List Int)
 | []=>some []
 | .int b::ds=>(P8 ds).map (b :: ·)
 | _=>none
theorem a9u:∀{ds:List D} {bs:List Int},P8 ds=some bs→ds=bs.map .int
 | [],_,h=>by cases h;rfl
 | .int b::ds,_,h=>by
  unfold P8 at h
  cases q:P8 ds with
  | none=>rw[q]at h;cases h
  | some bs=>rw[q]at h;cases h;rw[a9u q];rfl
 | .non::_,_,h=>by cases h
 | .bl _::_,_,h=>by cases h
 | .str _::_,_,h=>by cases h
 | .ty _::_,_,h=>by cases h
 | .cls _::_,_,h=>by cases h
 | .tup _::_,_,h=>by cases h
 | .lst _::_,_,h=>by cases h
 | .scr _::_,_,h=>by cases h
 | .exc _::_,_,h=>by cases h
 | .obj _ _ _::_,_,h=>by cases h
 | .dic _ _::_,_,h=>by cases h
 | .exv _ _ _::_,_,h=>by cases h
theorem ints_map:∀(ns:List Int),P8 (ns.map .int)=some ns
 | []=>rfl
 | n::ns=>by show(P8 (ns.map .int)).map (n :: ·)=_;rw[ints_map ns];rfl
def a72:D→Option D
 | .lst ds=>(P8 ds).map fun ns=>.int ns.sum
 | _=>none
def b69(d:Int):List Int→Int
 | []=>d
 | n::ns=>ns.foldl max n
def a4d(ds es:List D):Option Int:=match ds,es with
 | [.lst xs],[.int d]=>(P8 xs).map (b69 d)
 | _,_=>none
def a5E(f:AF)(g:AF):ZF:=fun e=>bnd (f e) fun ds e1=>bnd (g e1) fun es e2=>match a4d ds es with
 | some m=>some (.ok (.int m) e2)
 | none=>none
def a4W(f:ZF)(l u:OF):ZF:=fun e=>bnd (f e) fun d e1=>bnd (l e1) fun lo e2=>bnd (u e2) fun hi e3=>match d with
 | .tup ds=>if HT.sIx ds.length 0 lo=0∧HT.sIx ds.length ds.length hi=ds.length then none else some (.ok (.tup (a3z ds lo hi)) e3)
 | _=>none
theorem b5W{t:TE}{tl tu:TO}{f:ZF}{l u:OF}(hf:t5 K cl E t f)(hl:RfO K cl E tl l)(hu:RfO K cl E tu u):t5 K cl E (tSl (b13 K) t tl tu) (a4W f l u):=by
 intro σ H Q env F R h
 refine hf σ H _ env F R ((Ct.bnd h M3).mono fun x H1 ⟨F1,e1,d,s1,R1,p1,h1⟩=>?_)
 refine hl σ H1 _ e1 F1 R1 ((Ct.bnd h1 M3).mono fun lo H2 ⟨F2,e2,lo',s2,R2,p2,h2⟩=>?_)
 refine hu σ H2 _ e2 F2 R2 ((Ct.bnd h2 M3).mono fun hi H3 ⟨F3,e3,hi',s3,R3,p3,h3⟩=>?_)
 cases (show lo=lo' from p2)
 cases (show hi=hi' from p3)
 split at h3
 ·rename_i ds
  split at h3
  ·exact h3.elim
  ·rename_i hc
   have p:=Rp.mono (s2.trans s3) _ _ p1
   simp only[Rp]at p
   obtain⟨a,xs,rfl,ha,r⟩:=p
   refine⟨a,xs,rfl,.of (R3.sub _ _ ha),by rw[← r.length];exact hc,fun p hp=>?_⟩
   have g:Gr H3 F3 (upd H3 p (.tup (a1i xs lo hi))) (upd F3 p (.tup (a1i xs lo hi))):=.new R3.sub hp
   exact h3 _ _ _ (R3.frm g) (R3.gr g) (by show Rp K cl _ (.tup _) _;simp only[Rp];exact⟨p,_,rfl,i8,Rps.mono g.fz _ _ (r.cut _ _)⟩)
 ·exact h3.elim
def a3A(k:Nat)(js:List Nat)(f:ZF)(b:GF)(c:BF)(el:ZF):NF:=fun e=>bnd (f e) fun d e1=>match d with
 | .tup ds=>p7 b c el (n8 k js e1) e1 ds []
 | _=>none
end
def b5X(x:Option DE)(k:DE→Option (R (List D))):Option (R (List D)):=match x with
 | none=>none
 | some e=>k e
theorem S0{e:DE}{k:DE→Option (R (List D))}:b5X (some e) k=k e:=rfl
theorem Y5{b:GF}{c:BF}{el:ZF}{ec eo:DE}{acc:List D}:p7 b c el ec eo [] acc=some (.ok acc eo):=rfl
theorem N7{b:GF}{c:BF}{el:ZF}{ec eo:DE}{d:D}{ds acc:List D}:p7 b c el ec eo (d::ds) acc=b5X (b d ec) fun e1=>bnd (c e1) fun t e2=>if t=true then bnd (el e2) fun y _=>if acc.length<sizeLine then p7 b c el ec eo ds (acc++[y])else none else p7 b c el ec eo ds acc:=by
 rw[p7];cases b d ec<;>rfl
section
variable {K:W.Frag}{cl:Str→Addr}{E:XK}{σ:St}{H F:Hp}{env:DE}{k:Nat}
def a5F:List D→Option D
 | [.int i,.int j]=>some (.int (if j > i then j else i))
 | _=>none
def a5G:List D→Option D
 | [.int i,.int j]=>some (.int (if j<i then j else i))
 | _=>none
def U6:D→Option D
 | .int i=>some (.int i)
 | .bl b=>some (.int (if b then 1 else 0))
 | _=>none
theorem a9v:CbOk1 K cl (fun xs H Q=>(∃i,xs=[.int i]∧Q (.int i) H)∨∃k,xs=[.bl k]∧Q (.int (if k then 1 else 0)) H) U6:=by
 intro x d z H F Q s hx h q
 unfold U6 at h
 split at h
 ·rename_i i;cases h;rw[hx.int];exact .inl ⟨i,rfl,q _ H F (.refl s) (by simp only[Rp])⟩
 ·rename_i i;cases h;rw[hx.bl];exact .inr ⟨i,rfl,q _ H F (.refl s) (by simp only[Rp])⟩
 ·cases h
def inD(d:D)(es:List D):Bool:=es.any fun e=>O8 e d
theorem Rps.inV{d:D}{v:V}(p:Rp K cl F d v)(f:j9 d=true):∀{es:List D} {us:List V},Rps K cl F es us→es.all j9=true→L2.inV v us=inD d es
 | [],_,h,_=>by rw[h.inv0];rfl
 | e::es,_,h,fe=>by
  obtain⟨u,r,rfl,h1,h2⟩:=h.inv
  rw[List.all_cons,Bool.and_eq_true]at fe
  have:=Rps.inV p f h2 fe.2
  unfold L2.inV inD at this ⊢
  rw[List.any_cons,List.any_cons,h1.eq p fe.1 f,this]
def gIn(neg:Bool)(d e:D):Option D:=match e with
 | .lst es=>if(j9 d && es.all j9)=true then some (.bl (if neg then !inD d es else inD d es))else none
 | .tup es=>if(j9 d && es.all j9)=true then some (.bl (if neg then !inD d es else inD d es))else none
 | _=>none
theorem Rb.flat{d:D}{v:V}(h:Rb K cl F H d v)(f:j9 d=true):Rp K cl F d v:=by
 rcases h with h | ⟨_,_,_,_,rfl,_⟩
 ·exact h
 ·cases f
theorem b3y{neg:Bool}:OpOk K cl (rIn K neg) (gIn neg):=by
 intro x y d e z H F Q s hx hy h q
 unfold gIn at h
 split at h
 ·split at h
  ·rename_i c;cases h
   rw[Bool.and_eq_true]at c
   obtain⟨a,xs,rfl,hH,r⟩:=hy.lst s
   have px:=hx.flat c.1
   refine⟨a,xs,rfl,.inl (.of hH),(px.flat c.1).2,r.flat c.2,q _ H F (.refl s) ?_⟩
   simp only[Rp];rw[r.inV px c.1 c.2]
  ·cases h
 ·split at h
  ·rename_i c;cases h
   rw[Bool.and_eq_true]at c
   obtain⟨a,xs,rfl,hH,r⟩:=hy.tup s
   have px:=hx.flat c.1
   refine⟨a,xs,rfl,.inr (.of hH),(px.flat c.1).2,r.flat c.2,q _ H F (.refl s) ?_⟩
   simp only[Rp];rw[r.inV px c.1 c.2]
  ·cases h
 ·cases h
def a73(i:Nat)(g:Int→Int→Int)(f:ZF):SF:=fun e=>match e[i]? with
 | some (.fz (.int a))=>v8 (f e) fun d e1=>match d with
  | .int b=>put i (.fz (.int (g a b))) e1
  | _=>none
 | _=>none
def Q5(i:Nat):ZF:=fun e=>match e[i]? with
 | some (.ow ds)=>(match ds.getLast? with
  | some d=>some (.ok d (e.set i (.ow ds.dropLast)))
  | none=>none)
 | _=>none
theorem Rps.dropLast{ds:List D}{xs:List V}(h:Rps K cl F ds xs):Rps K cl F ds.dropLast xs.dropLast:=by
 rw[List.dropLast_eq_take,List.dropLast_eq_take,h.length];exact h.take _
theorem a5H{i:Nat}:t5 K cl E (b17 K "list" b5p (O4 i)) (Q5 i):=by
 intro σ H Q env F R h
 unfold Q5 at h
 split at h
 ·rename_i ds q
  split at h
  ·rename_i d hd
   obtain⟨a,xs,e,hH,hF,r⟩:=R.mu i ds (.inl q)
   have hd':ds[ds.length-1]? = some d:=by rw[← List.getLast?_eq_getElem?];exact hd
   obtain⟨v,hv,p⟩:=r.get hd'
   obtain⟨R2,f2⟩:=R.change q e r.dropLast
   refine⟨_,e,.inl ⟨rfl,xs,.of hH⟩,a,xs,v,rfl,rfl,hH,by rw[← r.length];exact hv,h v _ F f2 R2 p⟩
  ·exact h.elim
 ·exact h.elim
def a3C(i:Nat)(g:List D→List D):SF:=fun e=>match e[i]? with
 | some (.ow ds)=>some (.nx (e.set i (.ow (g ds))))
 | _=>none
def a74(i:Nat)(f:NF):SF:=fun e=>match look e i with
 | some (.lst _)=>v8 (f e) fun es e1=>match e1[i]? with
  | some (.ow ds)=>if ds.length+es.length≤sizeLine then some (.nx (e1.set i (.ow (ds++es))))else none
  | _=>none
 | _=>none
def a5I(d e:D):Option D:=match d,e with
 | .str i,.str j=>if i.length+j.length≤sizeLine then some (.str (i++j))else none
 | _,_=>none
end
mutual
def u5:D→D→Bool
 | .tup ds,e=>(match e with
  | .tup es=>D0 ds es
  | _=>false)
 | .lst ds,e=>(match e with
  | .lst es=>D0 ds es
  | _=>false)
 | d,e=>O8 d e
def D0:List D→List D→Bool
 | [],es=>es.isEmpty
 | d::ds,es=>(match es with
  | []=>false
  | e::es=>u5 d e && D0 ds es)
end
mutual
def i7:D→Bool
 | .tup ds=>v5 ds
 | .lst ds=>v5 ds
 | d=>j9 d
def v5:List D→Bool
 | []=>true
 | d::ds=>i7 d && v5 ds
end
mutual
def E5:D→Nat
 | .tup ds=>A4 ds+1
 | .lst ds=>A4 ds+1
 | _=>0
def A4:List D→Nat
 | []=>0
 | d::ds=>max (E5 d) (A4 ds)
end
def a75(ds es:List D)(j:Nat):Bool:=match ds[j]?,es[j]? with
 | some d,some e=>u5 d e
 | _,_=>true
theorem U7:∀{ds es:List D},ds.length=es.length→(List.range ds.length).all (a75 ds es)=D0 ds es
 | [],[],_=>by simp[D0]
 | d::ds,e::es,h=>by
  have h':ds.length=es.length:=by simpa using h
  simp only[D0]
  show(List.range (ds.length+1)).all _=(u5 d e && D0 ds es)
  rw[List.range_succ_eq_map,List.all_cons,List.all_map,← U7 h']
  rfl
theorem a0G:∀{ds es:List D},ds.length≠es.length→D0 ds es=false
 | [],[],h=>absurd rfl h
 | _::_,[],_=>by simp[D0]
 | [],_::_,_=>by simp[D0]
 | d::ds,e::es,h=>by
  simp only[D0]
  rw[a0G (fun q=>h (by simp[q])),Bool.and_false]
section
variable {K:W.Frag}{cl:Str→Addr}{F:Hp}
theorem a2M{d e:D}{v:V}(fd:j9 d=true)(p:Rp K cl F d v)(q:Rp K cl F e v)(pe:i7 e=true):O8 d e=true:=by
 cases d<;>first | (cases fd;done) | skip
 all_goals simp only[Rp]at p;subst p
 all_goals cases e<;>simp only[Rp]at q<;>first | (cases q;done) | (cases q;simp[O8];done) | (obtain⟨_,_,z,_⟩:=q;cases z;done) | (obtain⟨_,z,_⟩:=q;cases z;done) | (simp[i7,j9]at pe;done)
mutual
theorem a6t:∀(d e:D) (v:V),Rp K cl F d v→Rp K cl F e v→i7 d=true→i7 e=true→u5 d e=true
 | .tup ds,e,v,p,q,pd,pe=>by
  simp only[Rp]at p
  obtain⟨a,xs,rfl,ha,r⟩:=p
  cases e<;>simp only[Rp]at q
  case tup es =>
   obtain⟨a',ys,z,ha',r'⟩:=q
   cases z;rw[ha]at ha';cases ha'
   simp only[i7]at pd pe
   simp only[u5]
   exact a4X ds es xs r r' pd pe
  case lst es =>
   obtain⟨a',ys,z,ha',r'⟩:=q
   cases z;rw[ha]at ha';cases ha'
  all_goals first | (cases q;done) | (simp[i7,j9]at pe;done)
 | .lst ds,e,v,p,q,pd,pe=>by
  simp only[Rp]at p
  obtain⟨a,xs,rfl,ha,r⟩:=p
  cases e<;>simp only[Rp]at q
  case lst es =>
   obtain⟨a',ys,z,ha',r'⟩:=q
   cases z;rw[ha]at ha';cases ha'
   simp only[i7]at pd pe
   simp only[u5]
   exact a4X ds es xs r r' pd pe
  case tup es =>
   obtain⟨a',ys,z,ha',r'⟩:=q
   cases z;rw[ha]at ha';cases ha'
  all_goals first | (cases q;done) | (simp[i7,j9]at pe;done)
 | .non,e,v,p,q,pd,pe=>by simp only[u5];exact a2M rfl p q pe
 | .bl _,e,v,p,q,pd,pe=>by simp only[u5];exact a2M rfl p q pe
 | .int _,e,v,p,q,pd,pe=>by simp only[u5];exact a2M rfl p q pe
 | .str _,e,v,p,q,pd,pe=>by simp only[u5];exact a2M rfl p q pe
 | .ty _,e,v,p,q,pd,pe=>by simp[i7,j9]at pd
 | .cls _,e,v,p,q,pd,pe=>by simp[i7,j9]at pd
 | .scr _,e,v,p,q,pd,pe=>by simp[i7,j9]at pd
 | .exc _,e,v,p,q,pd,pe=>by simp[i7,j9]at pd
 | .obj _ _ _,e,v,p,q,pd,pe=>by simp[i7,j9]at pd
 | .dic _ _,e,v,p,q,pd,pe=>by simp[i7,j9]at pd
 | .exv _ _ _,e,v,p,q,pd,pe=>by simp[i7,j9]at pd
theorem a4X:∀(ds es:List D) (vs:List V),Rps K cl F ds vs→Rps K cl F es vs→v5 ds=true→v5 es=true→D0 ds es=true
 | [],es,vs,p,q,_,_=>by
  rw[p.inv0]at q
  cases es with
  | nil=>simp[D0]
  | cons e es=>obtain⟨_,_,z,_⟩:=q.inv;cases z
 | d::ds,es,vs,p,q,pd,pe=>by
  obtain⟨v,r,rfl,p1,p2⟩:=p.inv
  cases es with
  | nil=>have:=q.inv0;cases this
  | cons e es =>
   obtain⟨v',r',z,q1,q2⟩:=q.inv
   cases z
   simp only[v5,Bool.and_eq_true]at pd pe
   simp only[D0]
   rw[a6t d e v p1 q1 pd.1 pe.1,a4X ds es r p2 q2 pd.2 pe.2];rfl
end
end
section
variable {X:Cx}{cl:Str→Addr}{F:Hp}{pins:List (Addr×Obj)}{σ:St}{H:Hp}{s:Shared}
theorem a2N{a:Addr}{d:D}{v:V}{u:Value}{A:Around}(hu:A.units<cLine)(hl:(∃xs,SqL X.K H a xs)∨∃xs,SqT X.K H a xs)(I:Inv X pins σ H s)(f:j9 d=true)(p:Rp X.K cl F d v)(r:RelV v u):SeqAt.EqAt A s (.ref a) u false∧SeqAt.EqAt A s u (.ref a) false:=by
 rcases hl with⟨xs,h⟩ | ⟨xs,h⟩
 ·obtain⟨us,r1,p1,z1⟩:=I.list h
  have q:=p1.isList
  cases d<;>first | (cases f;done) | skip
  all_goals simp only[Rp]at p;subst p
  ·cases r;exact⟨.list_none q hu,.none_list q hu⟩
  ·cases r;exact⟨.list_bool _ q hu,.bool_list _ q hu⟩
  ·obtain⟨t,rfl⟩:=r;exact⟨.list_int _ _ q hu,.int_list _ _ q hu⟩
  ·obtain⟨t,rfl⟩:=r;exact⟨.list_str _ _ q hu,.str_list _ _ q hu⟩
 ·obtain⟨us,r1,q,z1⟩:=I.tuple h
  cases d<;>first | (cases f;done) | skip
  all_goals simp only[Rp]at p;subst p
  ·cases r;exact⟨.tuple_none q hu,.none_tuple q hu⟩
  ·cases r;exact⟨.tuple_bool _ q hu,.bool_tuple _ q hu⟩
  ·obtain⟨t,rfl⟩:=r;exact⟨.tuple_int _ _ q hu,.int_tuple _ _ q hu⟩
  ·obtain⟨t,rfl⟩:=r;exact⟨.tuple_str _ _ q hu,.str_tuple _ _ q hu⟩
theorem J7{d:D}(p:i7 d=true):j9 d=true∨(∃ds,d=.tup ds)∨∃ds,d=.lst ds:=by
 cases d<;>first | exact .inl rfl | exact .inr (.inl ⟨_,rfl⟩) | exact .inr (.inr ⟨_,rfl⟩) | (simp[i7,j9]at p;done)
theorem b2L{d e:D}(f:j9 d=true):u5 d e=O8 d e:=by cases d<;>first | (cases f;done) | simp only[u5]
theorem a1b{d e:D}{v u:V}{a b:Value}{A:Around}(I:Inv X pins σ H s)(sF:Same F H)(hu:A.units<cLine)(f:j9 d=true)(p:Rp X.K cl F d v)(q:Rp X.K cl F e u)(rv:RelV v a)(ru:RelV u b)(pe:i7 e=true):SeqAt.EqAt A s a b (u5 d e):=by
 rw[b2L f]
 rcases J7 pe with fe | ⟨es,rfl⟩ | ⟨es,rfl⟩
 ·rw[← p.eq q f fe]
  exact b0K rv ru (p.flat f).2 (q.flat fe).2
 ·simp only[Rp]at q
  obtain⟨c,ys,rfl,hb,r'⟩:=q
  cases ru
  have:=(a2N (A:=A) hu (.inr ⟨ys,.of (sF _ _ hb)⟩) I f p rv).2
  have z:O8 d (.tup es)=false:=by cases d<;>first | (cases f;done) | rfl
  rw[z];exact this
 ·simp only[Rp]at q
  obtain⟨c,ys,rfl,hb,r'⟩:=q
  cases ru
  have:=(a2N (A:=A) hu (.inl ⟨ys,.of (sF _ _ hb)⟩) I f p rv).2
  have z:O8 d (.lst es)=false:=by cases d<;>first | (cases f;done) | rfl
  rw[z];exact this
mutual
theorem b4j(I:Inv X pins σ H s)(sF:Same F H):∀(d e:D) (v u:V) (a b:Value) (A:Around),A.units+E5 d<cLine→Rp X.K cl F d v→Rp X.K cl F e u→RelV v a→RelV u b→i7 d=true→i7 e=true→SeqAt.EqAt A s a b (u5 d e)
 | .tup ds,e,v,u,va,ua,A,hu,p,q,rv,ru,pd,pe=>by
  have p0:=p
  have hu':A.units<cLine:=by omega
  simp only[E5]at hu
  simp only[Rp]at p
  obtain⟨a,xs,rfl,ha,r⟩:=p
  cases rv
  have ha':=sF _ _ ha
  rcases J7 pe with f | ⟨es,rfl⟩ | ⟨es,rfl⟩
  ·have:=(a2N (A:=A) hu' (.inr ⟨xs,.of ha'⟩) I f q ru).1
   have z:u5 (.tup ds) e=false:=by cases e<;>first | (cases f;done) | simp only[u5]
   rw[z];exact this
  ·have q0:=q
   simp only[Rp]at q
   obtain⟨b,ys,rfl,hb,r'⟩:=q
   cases ru
   have hb':=sF _ _ hb
   by_cases z:a=b
   ·subst z
    rw[a6t _ _ _ p0 q0 pd pe]
    exact .same _
   ·obtain⟨us,r1,p1,_⟩:=I.tuple (.of ha')
    obtain⟨ws,r2,p2,_⟩:=I.tuple (.of hb')
    simp only[i7]at pd pe
    have he:∀j (h1:j<us.toArray.size) (h2:j<ws.toArray.size),SeqAt.EqAt A.in1 s us.toArray[j] ws.toArray[j] (a75 ds es j):=a0H I sF ds es xs ys us ws A.in1 (by show A.units+1+A4 ds<cLine;omega) r r' r1 r2 pd pe
    have:=SeqAt.EqAt.of_refs z (SeqAt.RcAt.tuples p1 p2 hu' he)
    have e1:us.toArray.size=ds.length:=by simp[← r1.length,r.length]
    have e2:ws.toArray.size=es.length:=by simp[← r2.length,r'.length]
    rw[e1,e2]at this
    simp only[u5]
    by_cases hl:ds.length=es.length
    ·rw[← hl,Nat.min_self,U7 hl,beq_self_eq_true,Bool.and_true]at this
     exact this
    ·rw[a0G hl]
     rw[beq_eq_false_iff_ne.mpr hl,Bool.and_false]at this
     exact this
  ·simp only[Rp]at q
   obtain⟨b,ys,rfl,hb,r'⟩:=q
   cases ru
   obtain⟨us,r1,p1,_⟩:=I.tuple (.of ha')
   obtain⟨ws,r2,p2,_⟩:=I.list (.of (sF _ _ hb))
   simp only[u5]
   exact .tuple_list p1 p2.isList hu'
 | .lst ds,e,v,u,va,ua,A,hu,p,q,rv,ru,pd,pe=>by
  have p0:=p
  have hu':A.units<cLine:=by omega
  simp only[E5]at hu
  simp only[Rp]at p
  obtain⟨a,xs,rfl,ha,r⟩:=p
  cases rv
  have ha':=sF _ _ ha
  rcases J7 pe with f | ⟨es,rfl⟩ | ⟨es,rfl⟩
  ·have:=(a2N (A:=A) hu' (.inl ⟨xs,.of ha'⟩) I f q ru).1
   have z:u5 (.lst ds) e=false:=by cases e<;>first | (cases f;done) | simp only[u5]
   rw[z];exact this
  ·simp only[Rp]at q
   obtain⟨b,ys,rfl,hb,r'⟩:=q
   cases ru
   obtain⟨us,r1,p1,_⟩:=I.list (.of ha')
   obtain⟨ws,r2,p2,_⟩:=I.tuple (.of (sF _ _ hb))
   simp only[u5]
   exact .list_tuple p1.isList p2 hu'
  ·have q0:=q
   simp only[Rp]at q
   obtain⟨b,ys,rfl,hb,r'⟩:=q
   cases ru
   have hb':=sF _ _ hb
   by_cases z:a=b
   ·subst z
    rw[a6t _ _ _ p0 q0 pd pe]
    exact .same _
   ·obtain⟨us,r1,p1,_⟩:=I.list (.of ha')
    obtain⟨ws,r2,p2,_⟩:=I.list (.of hb')
    simp only[i7]at pd pe
    have he:∀j (h1:j<us.toArray.size) (h2:j<ws.toArray.size),SeqAt.EqAt A.in1 s us.toArray[j] ws.toArray[j] (a75 ds es j):=a0H I sF ds es xs ys us ws A.in1 (by show A.units+1+A4 ds<cLine;omega) r r' r1 r2 pd pe
    have e1:us.toArray.size=ds.length:=by simp[← r1.length,r.length]
    have e2:ws.toArray.size=es.length:=by simp[← r2.length,r'.length]
    simp only[u5]
    by_cases hl:ds.length=es.length
    ·have:=SeqAt.EqAt.of_refs z (SeqAt.RcAt.lists p1.isList p2.isList (by rw[e1,e2,hl]) hu' he)
     rw[e1,U7 hl]at this
     exact this
    ·rw[a0G hl]
     exact SeqAt.EqAt.of_refs z (SeqAt.RcAt.lists_lengths p1.isList p2.isList (by rw[e1,e2];simp[hl]) hu')
 | .non,e,v,u,va,ua,A,hu,p,q,rv,ru,pd,pe=>a1b I sF (by omega) rfl p q rv ru pe
 | .bl _,e,v,u,va,ua,A,hu,p,q,rv,ru,pd,pe=>a1b I sF (by omega) rfl p q rv ru pe
 | .int _,e,v,u,va,ua,A,hu,p,q,rv,ru,pd,pe=>a1b I sF (by omega) rfl p q rv ru pe
 | .str _,e,v,u,va,ua,A,hu,p,q,rv,ru,pd,pe=>a1b I sF (by omega) rfl p q rv ru pe
 | .ty _,e,v,u,va,ua,A,hu,p,q,rv,ru,pd,pe=>by simp[i7,j9]at pd
 | .cls _,e,v,u,va,ua,A,hu,p,q,rv,ru,pd,pe=>by simp[i7,j9]at pd
 | .scr _,e,v,u,va,ua,A,hu,p,q,rv,ru,pd,pe=>by simp[i7,j9]at pd
 | .exc _,e,v,u,va,ua,A,hu,p,q,rv,ru,pd,pe=>by simp[i7,j9]at pd
 | .obj _ _ _,e,v,u,va,ua,A,hu,p,q,rv,ru,pd,pe=>by simp[i7,j9]at pd
 | .dic _ _,e,v,u,va,ua,A,hu,p,q,rv,ru,pd,pe=>by simp[i7,j9]at pd
 | .exv _ _ _,e,v,u,va,ua,A,hu,p,q,rv,ru,pd,pe=>by simp[i7,j9]at pd
theorem a0H(I:Inv X pins σ H s)(sF:Same F H):∀(ds es:List D) (xs ys:List V) (us ws:List Value) (A:Around),A.units+A4 ds<cLine→Rps X.K cl F ds xs→Rps X.K cl F es ys→Vals xs us→Vals ys ws→v5 ds=true→v5 es=true→∀j (h1:j<us.toArray.size) (h2:j<ws.toArray.size),SeqAt.EqAt A s us.toArray[j] ws.toArray[j] (a75 ds es j)
 | [],es,xs,ys,us,ws,A,hu,p,q,rv,rw',pd,pe=>fun j h1 h2=>by
  rw[p.inv0]at rv;cases rv;simp at h1
 | d::ds,es,xs,ys,us,ws,A,hu,p,q,rv,rw',pd,pe=>fun j h1 h2=>by
  obtain⟨x,xs',rfl,p1,p2⟩:=p.inv
  cases rv with
  | cons r1 t1 =>
   cases es with
   | nil=>rw[q.inv0]at rw';cases rw';simp at h2
   | cons e es =>
    obtain⟨y,ys',rfl,q1,q2⟩:=q.inv
    cases rw' with
    | cons r2 t2 =>
     simp only[v5,Bool.and_eq_true]at pd pe
     simp only[A4]at hu
     cases j with
     | zero=>exact b4j I sF d e x y _ _ A (by omega) p1 q1 r1 r2 pd.1 pe.1
     | succ j =>
      have:=a0H I sF ds es xs' ys' _ _ A (by omega) p2 q2 t1 t2 pd.2 pe.2 j (by simpa using h1) (by simpa using h2)
      simpa [a75]using this
end
end
theorem b2M{A:Around}{k:Nat}(hr:Room k A):A.units+41<cLine:=Nat.lt_of_le_of_lt (Nat.add_le_add_left (by decide:41≤64) _) hr.units
def J8 : D→Bool
 | .tup _=>true
 | .lst _=>true
 | _=>false
theorem Rb.toRp{K:W.Frag}{cl:Str→Addr}{F H:Hp}{d:D}{v:V}(s:Same F H)(h:Rb K cl F H d v):∃F',Same F F'∧Same F' H∧Rp K cl F' d v:=by
 rcases h with h | ⟨a,xs,ds,rfl,rfl,ha,r⟩
 ·exact⟨F,Same.refl _,s,h⟩
 ·have g:Same F (upd F a (.lst xs)):=fun b o q=>by
   by_cases z:b=a
   ·subst z;have:=s _ _ q;rw[ha]at this;cases this;exact i8
   ·rw[g8 z];exact q
  refine⟨upd F a (.lst xs),g,fun b o q=>?_,?_⟩
  ·by_cases z:b=a
   ·subst z;rw[i8]at q;cases q;exact ha
   ·rw[g8 z]at q;exact s _ _ q
  ·simp only[Rp];exact⟨a,xs,rfl,i8,r.mono g⟩
section
variable {X:Cx}{cl:Str→Addr}{F:Hp}{pins:List (Addr×Obj)}{σ:St}{H:Hp}{s:Shared}
theorem a4e{a:Addr}{d:D}{v:V}{u:Value}{A:Around}(hu:A.units<cLine)(hl:(∃xs,SqL X.K H a xs)∨∃xs,SqT X.K H a xs)(I:Inv X pins σ H s)(f:j9 d=true)(p:Rp X.K cl F d v)(r:RelV v u) :
  (SeqAt.RcAt A s (.ref a) u false∧SeqAt.RcAt A s u (.ref a) false)∧SeqAt.RcNeAt A s (.ref a) u true∧SeqAt.RcNeAt A s u (.ref a) true:=by
 rcases hl with⟨xs,h⟩ | ⟨xs,h⟩
 ·obtain⟨us,r1,p1,z1⟩:=I.list h
  have q:=p1.isList
  cases d<;>first | (cases f;done) | skip
  all_goals simp only[Rp]at p;subst p
  ·cases r;exact⟨⟨.list_none q hu,.none_list q hu⟩,.list_none q hu,.none_list q hu⟩
  ·cases r;exact⟨⟨.list_bool _ q hu,.bool_list _ q hu⟩,.list_bool _ q hu,.bool_list _ q hu⟩
  ·obtain⟨t,rfl⟩:=r;exact⟨⟨.list_int _ _ q hu,.int_list _ _ q hu⟩,.list_int _ _ q hu,.int_list _ _ q hu⟩
  ·obtain⟨t,rfl⟩:=r;exact⟨⟨.list_str _ _ q hu,.str_list _ _ q hu⟩,.list_str _ _ q hu,.str_list _ _ q hu⟩
 ·obtain⟨us,r1,q,z1⟩:=I.tuple h
  cases d<;>first | (cases f;done) | skip
  all_goals simp only[Rp]at p;subst p
  ·cases r;exact⟨⟨.tuple_none q hu,.none_tuple q hu⟩,.tuple_none q hu,.none_tuple q hu⟩
  ·cases r;exact⟨⟨.tuple_bool _ q hu,.bool_tuple _ q hu⟩,.tuple_bool _ q hu,.bool_tuple _ q hu⟩
  ·obtain⟨t,rfl⟩:=r;exact⟨⟨.tuple_int _ _ q hu,.int_tuple _ _ q hu⟩,.tuple_int _ _ q hu,.int_tuple _ _ q hu⟩
  ·obtain⟨t,rfl⟩:=r;exact⟨⟨.tuple_str _ _ q hu,.str_tuple _ _ q hu⟩,.tuple_str _ _ q hu,.str_tuple _ _ q hu⟩
theorem b4k{d e:D}{v u:V}{a b:Value}{A:Around}(I:Inv X pins σ H s)(sF:Same F H)(hu:A.units+E5 d<cLine)(p:Rp X.K cl F d v)(q:Rp X.K cl F e u)(rv:RelV v a)(ru:RelV u b)(pd:i7 d=true)(pe:i7 e=true)(hs:J8 d=true∨J8 e=true) :
  SeqAt.RcAt A s a b (u5 d e)∧SeqAt.RcNeAt A s a b (!u5 d e):=by
 have hu':A.units<cLine:=by omega
 rcases J7 pd with fd | ⟨ds,rfl⟩ | ⟨ds,rfl⟩
 ·have se:J8 e=true:=hs.resolve_left (by cases d<;>first | (cases fd;done) | simp[J8])
  rcases J7 pe with fe | ⟨es,rfl⟩ | ⟨es,rfl⟩
  ·cases e<;>first | (cases fe;done) | (cases se;done)
  ·simp only[Rp]at q
   obtain⟨c,ys,rfl,hb,r'⟩:=q
   cases ru
   have:=a4e (A:=A) hu' (.inr ⟨ys,.of (sF _ _ hb)⟩) I fd p rv
   have z:u5 d (.tup es)=false:=by cases d<;>first | (cases fd;done) | simp[u5,O8]
   rw[z];exact⟨this.1.2,this.2.2⟩
  ·simp only[Rp]at q
   obtain⟨c,ys,rfl,hb,r'⟩:=q
   cases ru
   have:=a4e (A:=A) hu' (.inl ⟨ys,.of (sF _ _ hb)⟩) I fd p rv
   have z:u5 d (.lst es)=false:=by cases d<;>first | (cases fd;done) | simp[u5,O8]
   rw[z];exact⟨this.1.2,this.2.2⟩
 ·simp only[E5]at hu
  simp only[Rp]at p
  obtain⟨l,xs,rfl,ha,r⟩:=p
  cases rv
  have ha':=sF _ _ ha
  obtain⟨us,r1,p1,_⟩:=I.tuple (.of ha')
  rcases J7 pe with fe | ⟨es,rfl⟩ | ⟨es,rfl⟩
  ·have:=a4e (A:=A) hu' (.inr ⟨xs,.of ha'⟩) I fe q ru
   have z:u5 (.tup ds) e=false:=by cases e<;>first | (cases fe;done) | simp only[u5]
   rw[z];exact⟨this.1.1,this.2.1⟩
  ·simp only[Rp]at q
   obtain⟨c,ys,rfl,hb,r'⟩:=q
   cases ru
   obtain⟨ws,r2,p2,_⟩:=I.tuple (.of (sF _ _ hb))
   simp only[i7]at pd pe
   have he:=a0H I sF ds es xs ys us ws A.in1 (by show A.units+1+A4 ds<cLine;omega) r r' r1 r2 pd pe
   have h1:=SeqAt.RcAt.tuples p1 p2 hu' he
   have h2:=SeqAt.RcNeAt.tuples p1 p2 hu' he
   have e1:us.toArray.size=ds.length:=by simp[← r1.length,r.length]
   have e2:ws.toArray.size=es.length:=by simp[← r2.length,r'.length]
   rw[e1,e2]at h1 h2
   simp only[u5]
   by_cases hl:ds.length=es.length
   ·rw[← hl,Nat.min_self,U7 hl,beq_self_eq_true,Bool.and_true]at h1 h2
    exact⟨h1,h2⟩
   ·rw[a0G hl]
    rw[beq_eq_false_iff_ne.mpr hl,Bool.and_false]at h1 h2
    exact⟨h1,h2⟩
  ·simp only[Rp]at q
   obtain⟨c,ys,rfl,hb,r'⟩:=q
   cases ru
   obtain⟨ws,r2,p2,_⟩:=I.list (.of (sF _ _ hb))
   simp only[u5]
   exact⟨.tuple_list p1 p2.isList hu',.tuple_list p1 p2.isList hu'⟩
 ·simp only[E5]at hu
  simp only[Rp]at p
  obtain⟨l,xs,rfl,ha,r⟩:=p
  cases rv
  have ha':=sF _ _ ha
  obtain⟨us,r1,p1,_⟩:=I.list (.of ha')
  rcases J7 pe with fe | ⟨es,rfl⟩ | ⟨es,rfl⟩
  ·have:=a4e (A:=A) hu' (.inl ⟨xs,.of ha'⟩) I fe q ru
   have z:u5 (.lst ds) e=false:=by cases e<;>first | (cases fe;done) | simp only[u5]
   rw[z];exact⟨this.1.1,this.2.1⟩
  ·simp only[Rp]at q
   obtain⟨c,ys,rfl,hb,r'⟩:=q
   cases ru
   obtain⟨ws,r2,p2,_⟩:=I.tuple (.of (sF _ _ hb))
   simp only[u5]
   exact⟨.list_tuple p1.isList p2 hu',.list_tuple p1.isList p2 hu'⟩
  ·simp only[Rp]at q
   obtain⟨c,ys,rfl,hb,r'⟩:=q
   cases ru
   obtain⟨ws,r2,p2,_⟩:=I.list (.of (sF _ _ hb))
   simp only[i7]at pd pe
   have he:=a0H I sF ds es xs ys us ws A.in1 (by show A.units+1+A4 ds<cLine;omega) r r' r1 r2 pd pe
   have e1:us.toArray.size=ds.length:=by simp[← r1.length,r.length]
   have e2:ws.toArray.size=es.length:=by simp[← r2.length,r'.length]
   simp only[u5]
   by_cases hl:ds.length=es.length
   ·have h1:=SeqAt.RcAt.lists p1.isList p2.isList (by rw[e1,e2,hl]) hu' he
    have h2:=SeqAt.RcNeAt.lists p1.isList p2.isList (by rw[e1,e2,hl]) hu' he
    rw[e1,U7 hl]at h1 h2
    exact⟨h1,h2⟩
   ·rw[a0G hl]
    exact⟨SeqAt.RcAt.lists_lengths p1.isList p2.isList (by rw[e1,e2];simp[hl]) hu',SeqAt.RcNeAt.lists_lengths p1.isList p2.isList (by rw[e1,e2];simp[hl]) hu'⟩
end
def b5Y(K:W.Frag)(cl:Str→Addr)(neg:Bool):R2:=fun x y H Q=>∃F d e,Same F H∧Rp K cl F d x∧Rp K cl F e y∧i7 d=true∧i7 e=true∧E5 d≤40∧(J8 d=true∨J8 e=true)∧Q (.bl (if neg then !u5 d e else u5 d e)) H
theorem a6u{X:Cx}{K:W.Frag}{cl:Str→Addr}(hu:X.A.units+41<cLine)(hK:X.K=K:=by rfl):G4 X (compareOp .Eq) (b5Y K cl false):=by
 subst hK
 intro pins s σ H x y v u Q I rx ry h
 obtain⟨F,d,e,sF,p,q,pd,pe,hd,hs,hQ⟩:=h
 exact(b4k I sF (by omega) p q rx ry pd pe hs).1 X.prog X.w _ _ ⟨.bl _,H,I,rfl,hQ⟩
def D5(neg:Bool)(d e:D):Option D:=if(i7 d && i7 e && decide (E5 d≤40) && (J8 d || J8 e))=true then some (.bl (if neg then !u5 d e else u5 d e))else none
theorem a76{K:W.Frag}{cl:Str→Addr}{neg:Bool}:OpOk K cl (b5Y K cl neg) (D5 neg):=by
 intro x y d e z H F Q s hx hy h q
 unfold D5 at h
 split at h
 ·rename_i c;cases h
  simp only[Bool.and_eq_true,Bool.or_eq_true,decide_eq_true_eq]at c
  obtain⟨F1,g1,s1,p1⟩:=hx.toRp s
  have hy1:Rb K cl F1 H e y:=by
   rcases hy with hy | ⟨a,xs,ds,e1,e2,ha,r⟩
   ·exact .inl (hy.mono g1)
   ·exact .inr ⟨a,xs,ds,e1,e2,ha,r.mono g1⟩
  obtain⟨F2,g2,s2,p2⟩:=hy1.toRp s1
  exact⟨F2,d,e,s2,p1.mono g2,p2,c.1.1.1,c.1.1.2,c.1.2,c.2,q _ H F (.refl s) (by simp only[Rp])⟩
 ·cases h
mutual
theorem a77:∀(d:D),i7 d=true→u5 d d=true
 | .tup ds,h=>by simp only[i7]at h;simp only[u5];exact a3D ds h
 | .lst ds,h=>by simp only[i7]at h;simp only[u5];exact a3D ds h
 | .non,_=>by simp[u5,O8]
 | .bl _,_=>by simp[u5,O8]
 | .int _,_=>by simp[u5,O8]
 | .str _,_=>by simp[u5,O8]
 | .ty _,h=>by simp[i7,j9]at h
 | .cls _,h=>by simp[i7,j9]at h
 | .scr _,h=>by simp[i7,j9]at h
 | .exc _,h=>by simp[i7,j9]at h
 | .obj _ _ _,h=>by simp[i7,j9]at h
 | .dic _ _,h=>by simp[i7,j9]at h
 | .exv _ _ _,h=>by simp[i7,j9]at h
theorem a3D:∀(ds:List D),v5 ds=true→D0 ds ds=true
 | [],_=>by simp[D0]
 | d::ds,h=>by
  simp only[v5,Bool.and_eq_true]at h
  simp only[D0]
  rw[a77 d h.1,a3D ds h.2];rfl
end
theorem a3E{d:D}(neg:Bool)(h1:i7 d=true)(h2:E5 d≤40)(h3:J8 d=true):D5 neg d d=some (.bl (!neg)):=by
 unfold D5
 rw[if_pos (by simp[h1,h2,h3]),a77 d h1]
 cases neg<;>rfl
theorem a8N{α:Type}{f:α→D}{l:List α}(h:∀a∈l,i7 (f a)=true):v5 (l.map f)=true:=by
 induction l with
 | nil=>rfl
 | cons a l ih =>
  simp only[List.map_cons,v5,Bool.and_eq_true]
  exact⟨h a List.mem_cons_self,ih fun b hb=>h b (List.mem_cons_of_mem _ hb)⟩
theorem b1k{α:Type}{f:α→D}{l:List α}{n:Nat}(h:∀a∈l,E5 (f a)≤n):A4 (l.map f)≤n:=by
 induction l with
 | nil=>simp[A4]
 | cons a l ih =>
  simp only[List.map_cons,A4]
  have:=h a List.mem_cons_self
  have:=ih fun b hb=>h b (List.mem_cons_of_mem _ hb)
  omega
section
variable {K:W.Frag}{cl:Str→Addr}{E:XK}{σ:St}{H F:Hp}{env:DE}{k:Nat}
def b6_(K:W.Frag)(cl:Str→Addr)(E:XK)(a:Addr)(t:TS)(f:SF):Prop:=∀(N:Ends) σ H env F,Rel K cl σ H F env→(∃cls,F a=some (D2 a cls none))→Cs K cl E (f env) σ H F env N→t N σ H
theorem RfS.x{a:Addr}{t:TS}{f:SF}(h:RfS K cl E t f):b6_ K cl E a t f:=fun N σ H env F R _ c=>h N σ H env F R c
end
def a1l:Sl→Sl
 | .ow ds=>.fz (.lst ds)
 | .hd ds=>.fz (.lst ds)
 | .od ks ds=>.fz (.dic ks ds)
 | .hk ks ds=>.fz (.dic ks ds)
 | s=>s
def G2:DE→DE
 | []=>[]
 | s::e=>a1l s::G2 e
mutual
def noL:D→Bool
 | .lst _=>false
 | .scr _=>false
 | .exc _=>false
 | .obj _ _ _=>false
 | .dic _ _=>false
 | .exv _ _ _=>false
 | .tup ds=>noLs ds
 | _=>true
def noLs:List D→Bool
 | []=>true
 | d::ds=>noL d && noLs ds
end
def E9(σ:St)(env:DE)(b:Addr):Prop:=(∃j,Mu env j∧σ[j]? = some (some (.ref b)))∨∃(j:Nat) (s:Sl) (ks:DK) (ds:List D),env[j]? = some s∧R6 s ks ds∧σ[j]? = some (some (.ref b))
def a4Y(o:HO):Prop:=(∃xs,o=.lst xs)∨∃ks xs,o=dkO ks xs
theorem a6v:∀(e:DE),G2 e=e.map a1l
 | []=>rfl
 | s::e=>by rw[G2,a6v e];rfl
section
variable {K:W.Frag}{cl:Str→Addr}{E:XK}{σ:St}{H F F1 H' F' F2:Hp}{env:DE}
mutual
theorem Rp.noL(g:∀b o,F' b=some o→¬a4Y o→F2 b=some o):∀(d:D) (v:V),L2.noL d=true→Rp K cl F' d v→Rp K cl F2 d v
 | .non,_,_,h=>by simpa only[Rp]using h
 | .bl _,_,_,h=>by simpa only[Rp]using h
 | .int _,_,_,h=>by simpa only[Rp]using h
 | .str _,_,_,h=>by simpa only[Rp]using h
 | .ty _,_,_,h=>by simpa only[Rp]using h
 | .cls _,_,_,h=>by simpa only[Rp]using h
 | .tup ds,v,n,h=>by
  simp only[Rp]at h ⊢
  obtain⟨a,xs,e,h1,h2⟩:=h
  exact⟨a,xs,e,g _ _ h1 (fun z=>by rcases z with⟨_,z⟩ | ⟨ks,_,z⟩;exact nomatch z;cases ks<;>exact nomatch z),Rps.noL g ds xs (by simpa only[L2.noL]using n) h2⟩
 | .lst ds,v,n,h=>by simp[L2.noL]at n
 | .scr ns,v,n,h=>by simp[L2.noL]at n
 | .exc c,v,n,h=>by simp[L2.noL]at n
 | .obj _ _ _,v,n,h=>by simp[L2.noL]at n
 | .dic _ _,v,n,h=>by simp[L2.noL]at n
 | .exv _ _ _,v,n,h=>by simp[L2.noL]at n
theorem Rps.noL(g:∀b o,F' b=some o→¬a4Y o→F2 b=some o):∀(ds:List D) (vs:List V),L2.noLs ds=true→Rps K cl F' ds vs→Rps K cl F2 ds vs
 | [],_,_,h=>by simpa only[Rps]using h
 | d::ds,vs,n,h=>by
  simp only[Rps]at h ⊢
  simp only[L2.noLs,Bool.and_eq_true]at n
  obtain⟨v,r,e,h1,h2⟩:=h
  exact⟨v,r,e,Rp.noL g d v n.1 h1,Rps.noL g ds r n.2 h2⟩
end
theorem a4f{j:Nat}{s:Sl}(h:(G2 env)[j]? = some s):∃s0,env[j]? = some s0∧s=a1l s0:=by
 rw[a6v,List.getElem?_map]at h
 cases q:env[j]? with
 | none=>rw[q]at h;cases h
 | some s0=>rw[q]at h;exact⟨s0,rfl,(Option.some.inj h).symm⟩
theorem a78{j:Nat}:¬Mu (G2 env) j:=fun⟨ds,q⟩=>by
 rcases q with q | q
 ·obtain⟨s0,_,e⟩:=a4f q;cases s0<;>cases e
 ·obtain⟨s0,_,e⟩:=a4f q;cases s0<;>cases e
theorem a9w{j:Nat}{s:Sl}{ks:DK}{ds:List D}(h:(G2 env)[j]? = some s):¬R6 s ks ds:=fun d=>by
 obtain⟨s0,_,e⟩:=a4f h
 cases s0<;> (subst e;exact d)
theorem b4l(R:Rel K cl σ H F env):∃F1,Rel K cl σ H F1 (G2 env)∧(∀b,E9 σ env b→∃o,a4Y o∧F1 b=some o∧H b=some o)∧∀b,¬E9 σ env b→F1 b=F b:=by
 classical
 have hF:∀b,E9 σ env b→F b=none∧∃o,a4Y o∧H b=some o:=fun b w=>by
  rcases w with⟨j,⟨ds,q⟩,e⟩ | ⟨j,s,ks,ds,q,d,e⟩
  ·obtain⟨a,xs,e1,h1,f1,_⟩:=R.mu j ds q
   rw[e]at e1;cases e1
   exact⟨f1,_,.inl ⟨xs,rfl⟩,h1⟩
  ·obtain⟨a,xs,e1,h1,f1,_⟩:=R.od.at_ j s ks ds q d
   rw[e]at e1;cases e1
   exact⟨f1,_,.inr ⟨ks,xs,rfl⟩,h1⟩
 have sF:Same F (fun b=>if E9 σ env b then H b else F b):=fun b o q=>by
  show(if E9 σ env b then H b else F b)=some o
  rw[if_neg (fun w=>by rw[(hF b w).1]at q;cases q)];exact q
 refine⟨fun b=>if E9 σ env b then H b else F b,⟨fun b o q=>?_,by rw[a6v,List.length_map];exact R.len,fun i d q=>?_,fun i ds q=>absurd ⟨ds,q⟩ a78,fun i j a hi=>absurd hi a78,.none fun _ _ _ _ h=>a9w h⟩,fun b w=>?_,fun b w=>if_neg w⟩
 ·try dsimp only at q
  split at q
  ·exact q
  ·exact R.sub _ _ q
 ·obtain⟨s0,e0,e1⟩:=a4f q
  cases s0 with
  | no=>cases e1
  | fz d'=>cases e1;obtain⟨v,e2,r⟩:=R.fz i _ e0;exact⟨v,e2,r.mono sF⟩
  | ow ds =>
   cases e1
   obtain⟨a,xs,e2,h2,f2,r⟩:=R.mu i ds (.inl e0)
   refine⟨_,e2,?_⟩
   simp only[Rp]
   refine⟨a,xs,rfl,?_,r.mono sF⟩
   rw[if_pos (.inl ⟨i,⟨ds,.inl e0⟩,e2⟩)];exact h2
  | hd ds =>
   cases e1
   obtain⟨a,xs,e2,h2,f2,r⟩:=R.mu i ds (.inr e0)
   refine⟨_,e2,?_⟩
   simp only[Rp]
   refine⟨a,xs,rfl,?_,r.mono sF⟩
   rw[if_pos (.inl ⟨i,⟨ds,.inr e0⟩,e2⟩)];exact h2
  | od ks ds =>
   cases e1
   obtain⟨a,xs,e2,h2,f2,hn,r⟩:=R.od.at_ i _ ks ds e0 ⟨rfl,rfl⟩
   refine⟨_,e2,?_⟩
   simp only[Rp]
   refine⟨a,xs,rfl,?_,hn,r.mono sF⟩
   rw[if_pos (.inr ⟨i,_,ks,ds,e0,⟨rfl,rfl⟩,e2⟩)];exact h2
  | hk ks ds =>
   cases e1
   obtain⟨a,xs,e2,h2,f2,hn,r⟩:=R.od.at_ i _ ks ds e0 ⟨rfl,rfl⟩
   refine⟨_,e2,?_⟩
   simp only[Rp]
   refine⟨a,xs,rfl,?_,hn,r.mono sF⟩
   rw[if_pos (.inr ⟨i,_,ks,ds,e0,⟨rfl,rfl⟩,e2⟩)];exact h2
 ·obtain⟨o,i,h⟩:=(hF b w).2
  exact⟨o,i,by(try dsimp only);rw[if_pos w];exact h,h⟩
theorem a79(R:Rel K cl σ H F env)(o1:∀b,E9 σ env b→∃o,a4Y o∧F1 b=some o∧H b=some o)(o2:∀b,¬E9 σ env b→F1 b=F b)(x:FX σ H F1 (G2 env) H' F') :
  ∃F2,Frm σ H F env σ H' F2 env∧Rel K cl σ H' F2 env∧(∀b o,F' b=some o→¬a4Y o→F2 b=some o)∧∀b,F' b=none→F2 b=none:=by
 classical
 have nw:∀b,¬Ow σ (G2 env) b:=fun b ⟨j,s,oo,q,_⟩=>by
  cases s with
  | ow ds=>exact a78 ⟨ds,.inl q⟩
  | od ks ds=>exact a9w q (ks:=ks) (ds:=ds) ⟨rfl,rfl⟩
  | _=>exact oo
 have hF:∀b,E9 σ env b→F b=none:=fun b w=>by
  rcases w with⟨j,⟨ds,q⟩,e⟩ | ⟨j,s,ks,ds,q,d,e⟩
  ·obtain⟨a,xs,e1,h1,f1,_⟩:=R.mu j ds q
   rw[e]at e1;cases e1
   exact f1
  ·obtain⟨a,xs,e1,h1,f1,_⟩:=R.od.at_ j s ks ds q d
   rw[e]at e1;cases e1
   exact f1
 have sF:Same F (fun b=>if E9 σ env b then none else F' b):=fun b o q=>by
  have w:¬E9 σ env b:=fun w=>by rw[hF b w]at q;cases q
  show(if E9 σ env b then none else F' b)=some o
  rw[if_neg w]
  exact x.fz _ _ (by rw[o2 b w];exact q)
 have kept:∀b o,E9 σ env b→H b=some o→H' b=some o:=fun b xs w h=>by
  obtain⟨ys,_,f,h2⟩:=o1 b w
  rw[h]at h2;cases h2
  exact x.sub _ _ (x.fz _ _ f)
 refine⟨fun b=>if E9 σ env b then none else F' b,⟨sF,fun b o hb fb w=>?_,fun _ _ h=>⟨h,rfl⟩,x.dom⟩,⟨fun b o q=>?_,R.len,fun i d q=>?_,fun i ds q=>?_,R.inj,R.od.own (fun i s ks ds a xs h d e hH hF=>⟨kept a _ (.inr ⟨i,s,ks,ds,h,d,e⟩) hH,by(try dsimp only);rw[if_pos (.inr ⟨i,s,ks,ds,h,d,e⟩)]⟩) sF⟩,fun b o q nl=>?_,fun b q=>?_⟩
 ·by_cases ww:E9 σ env b
  ·obtain⟨ys,_,f,h2⟩:=o1 b ww
   refine⟨by rw[hb]at h2;cases h2;exact kept b _ ww hb,by(try dsimp only);rw[if_pos ww],w⟩
  ·obtain⟨h1,f1⟩:=x.hid b o hb (by rw[o2 b ww];exact fb) (nw b)
   exact⟨h1,by(try dsimp only);rw[if_neg ww];exact f1,w⟩
 ·try dsimp only at q
  split at q
  ·cases q
  ·exact x.sub _ _ q
 ·obtain⟨v,e,r⟩:=R.fz i d q;exact⟨v,e,r.mono sF⟩
 ·obtain⟨a,xs,e,h1,f1,r⟩:=R.mu i ds q
  have w:E9 σ env a:=.inl ⟨i,⟨ds,q⟩,e⟩
  exact⟨a,xs,e,kept a _ w h1,by(try dsimp only);rw[if_pos w],r.mono sF⟩
 ·dsimp only
  rw[if_neg (fun w=>by obtain⟨ys,i,f,_⟩:=o1 b w;rw[x.fz _ _ f]at q;cases q;exact nl i)];exact q
 ·dsimp only
  split
  ·rfl
  ·exact q
def noX:XN→Bool
 | .p _=>true
 | .v _ _ d=>noL d
theorem Xf.noL{c:XN}{cx:Option Addr}(g:∀b o,F' b=some o→¬a4Y o→F2 b=some o)(n:noX c=true)(h:Xf K cl F' c cx):Xf K cl F2 c cx:=by
 cases c with
 | p c=>exact h
 | v c f d =>
  obtain⟨dx,y,e,h1,h2⟩:=h
  exact⟨dx,y,e,g _ _ h1 (fun z=>by rcases z with⟨_,z⟩ | ⟨ks,_,z⟩;exact nomatch z;cases ks<;>exact nomatch z),Rp.noL g d y n h2⟩
def a5J(f:ZF):ZF:=fun e=>match f (G2 e)with
 | some (.ok d _)=>if noL d=true then some (.ok d e)else none
 | some (.ex c)=>if noX c=true then some (.ex c)else none
 | none=>none
def b6z(f:BF):BF:=fun e=>match f (G2 e)with
 | some (.ok d _)=>some (.ok d e)
 | some (.ex c)=>if noX c=true then some (.ex c)else none
 | none=>none
theorem b2N{t:TE}{f:ZF}(hf:t5 K cl E t f):t5 K cl E t (a5J f):=by
 intro σ H Q env F R h
 obtain⟨F1,R1,o1,o2⟩:=b4l R
 refine hf σ H Q (G2 env) F1 R1 ?_
 unfold a5J at h
 split at h
 ·rename_i d e2 q
  rw[q]
  intro b H' F' fr R' p
  split at h
  ·rename_i n
   obtain⟨F2,fr2,R2,g,_⟩:=a79 R o1 o2 (fr.toFX R'.sub)
   exact h b H' F2 fr2 R2 (Rp.noL g d b n p)
  ·exact h.elim
 ·rename_i c q
  rw[q]
  intro H' F' x cx xf
  obtain⟨F2,fr2,R2,g,_⟩:=a79 R o1 o2 x
  split at h
  ·rename_i n
   exact h H' F2 (fr2.toFX R2.sub) cx (xf.noL g n)
  ·exact h.elim
 ·exact h.elim
def bLd(r:Option (R Bool))(e:DE):Option (R Bool):=match r with
 | some (.ok d _)=>some (.ok d e)
 | some (.ex c)=>if noX c=true then some (.ex c)else none
 | none=>none
def zLd(r:Option (R D))(e:DE):Option (R D):=match r with
 | some (.ok d _)=>if noL d=true then some (.ok d e)else none
 | some (.ex c)=>if noX c=true then some (.ex c)else none
 | none=>none
theorem a0I(f:BF)(e:DE):b6z f e=bLd (f (G2 e)) e:=rfl
theorem a0J(f:ZF)(e:DE):a5J f e=zLd (f (G2 e)) e:=rfl
theorem a3F(d:Bool)(e e2:DE):bLd (some (.ok d e2)) e=some (.ok d e):=rfl
theorem a3G(c:Str)(e:DE):bLd (some (.ex (.p c))) e=some (.ex (.p c)):=rfl
theorem a17(c f:Str)(d:D)(e:DE):bLd (some (.ex (.v c f d))) e=if noL d=true then some (.ex (.v c f d))else none:=rfl
theorem a4g{p:Prop} [Decidable p] (a b:Option (R Bool)) (e:DE):bLd (if p then a else b) e=if p then bLd a e else bLd b e:=by split<;>rfl
theorem a3H(d:D)(e e2:DE):zLd (some (.ok d e2)) e=if noL d=true then some (.ok d e)else none:=rfl
theorem a3I(c:Str)(e:DE):zLd (some (.ex (.p c))) e=some (.ex (.p c)):=rfl
theorem a18(c f:Str)(d:D)(e:DE):zLd (some (.ex (.v c f d))) e=if noL d=true then some (.ex (.v c f d))else none:=rfl
theorem a4h{p:Prop} [Decidable p] (a b:Option (R D)) (e:DE):zLd (if p then a else b) e=if p then zLd a e else zLd b e:=by split<;>rfl
variable {k:Nat}
def b3z:List D→List D→List D→List D
 | a::as,b::bs,c::cs=>.tup [a,b,c]::b3z as bs cs
 | _,_,_=>[]
def a6w(ds:List D):Option (List D):=match ds with
 | [d,e,f]=>match seqL d,seqL e,seqL f with
  | some xs,some ys,some zs=>some (b3z xs ys zs)
  | _,_,_=>none
 | _=>none
def a3J(f:AF)(b:GF)(body:SF):SF:=fun e=>v8 (f e) fun ds e1=>match a6w ds with
 | none=>none
 | some zs=>l9 b body zs e1
def a8b(i j:Nat)(f:AF):SF:=fun e=>v8 (f e) fun ds e1=>match ds with
 | [d,d']=>L3 (put i (.fz d) e1) fun e2=>put j (.fz d') e2
 | _=>none
end
def un:Option D→Sl
 | none=>.no
 | some d=>.fz d
def U8:Sl→Bool
 | .hd _=>false
 | _=>true
def okS:Option Sl→Bool
 | none=>false
 | some s=>U8 s
theorem a0K(o:Option D):U8 (un o)=true:=by cases o<;>rfl
theorem a0L:U8 .no=true:=rfl
theorem a0M(d:D):U8 (.fz d)=true:=rfl
theorem a0N(d:List D):U8 (.ow d)=true:=rfl
theorem a0O(d:List D):U8 (.hd d)=false:=rfl
theorem a0P(s:Sl):okS (some s)=U8 s:=rfl
theorem a0Q:okS none=false:=rfl
theorem a19:a1l .no=.no:=rfl
theorem a1_(d:D):a1l (.fz d)=.fz d:=rfl
theorem a2a(d:List D):a1l (.ow d)=.fz (.lst d):=rfl
theorem a2b(d:List D):a1l (.hd d)=.fz (.lst d):=rfl
theorem a2c(i:Nat)(s:Sl)(e:DE):put i s e=if okS e[i]? = true then some (.nx (e.set i s))else none:=by
 unfold put okS
 cases e[i]? with
 | none=>rfl
 | some t=>cases t<;>rfl
theorem a0R(i:Nat)(d:D)(e:DE):g6 i d e=if okS e[i]? = true then some (e.set i (.fz d))else none:=by
 unfold g6 okS
 cases e[i]? with
 | none=>rfl
 | some t=>cases t<;>rfl
theorem a2d(o:Option D):a1l (un o)=un o:=by cases o<;>rfl
theorem a0S:a6r []=true:=rfl
theorem Y6(s:Sl)(e:DE):a6r (s::e)=(U8 s && a6r e):=by cases s<;>rfl
def u9(r:Option RS):Option RS:=match r with
 | some (.ct e)=>some (.nx e)
 | r=>r
theorem a2e(e:DE):u9 (some (.nx e))=some (.nx e):=rfl
theorem a2f(e:DE):u9 (some (.ct e))=some (.nx e):=rfl
theorem a2g(d:D):u9 (some (.rt d))=some (.rt d):=rfl
theorem a2h(c:XN):u9 (some (.ex c))=some (.ex c):=rfl
theorem a2i(d:List (List D)):u9 (some (.rz d))=some (.rz d):=rfl
theorem a2j(d:List D):u9 (some (.ro d))=some (.ro d):=rfl
theorem a2O{p:Prop} [Decidable p] (a b:Option RS):u9 (if p then a else b)=if p then u9 a else u9 b:=by split<;>rfl
theorem a1c{r:Option RS}{k:SF}:U5 r k=U5 (u9 r) k:=by
 cases r with
 | none=>rfl
 | some r=>cases r<;>rfl
theorem a8c{α:Type}{b:GF}{body:SF}(f:α→D)(I:List α→DE→Prop)(l0:List α):∀(l pre:List α) (e:DE),l0=pre++l→I pre e→(∀pre x post e,l0=pre++x::post→I pre e→∃e2,u9 (B6 (b (f x) e) body)=some (.nx e2)∧I (pre++[x]) e2)→∃e',l9 b body (l.map f) e=some (.nx e')∧I l0 e'
 | [],pre,e,hl,h,_=>⟨e,rfl,by rw[hl,List.append_nil];exact h⟩
 | x::l,pre,e,hl,h,hs=>by
  obtain⟨e2,h2,h3⟩:=hs pre x l e hl h
  obtain⟨e',h4,h5⟩:=a8c f I l0 l (pre++[x]) e2 (by rw[hl,List.append_assoc];rfl) h3 hs
  refine⟨e',?_,h5⟩
  rw[List.map_cons,G8]
  cases q:b (f x) e with
  | none=>rw[q]at h2;cases h2
  | some e1 =>
   rw[q]at h2
   have h2:u9 (body e1)=some (.nx e2):=h2
   rw[E1,a1c,h2];exact h4
theorem b4m{α:Type}{b:GF}{body:SF}(f:α→D)(I:List α→DE→Prop)(l:List α)(e:DE)(h:I [] e)(hs:∀pre x post e,l=pre++x::post→I pre e→∃e2,u9 (B6 (b (f x) e) body)=some (.nx e2)∧I (pre++[x]) e2):∃e',l9 b body (l.map f) e=some (.nx e')∧I l e' :=
 a8c f I l l [] e rfl h hs
def a4i:RS→Bool
 | .rt _=>true
 | .ro _=>true
 | .rz _=>true
 | .rp _ _=>true
 | .ex _=>true
 | _=>false
theorem J9{α:Type}{b:GF}{c:BF}{el:ZF}{ec eo:DE}(f:α→D)(g:α→D)(q:α→Bool):∀(l:List α) (acc:List D),acc.length+l.length≤sizeLine→(∀x∈l,∃e1 e2,b (f x) ec=some e1∧c e1=some (.ok (q x) e2)∧(q x=true→∃e3,el e2=some (.ok (g x) e3)))→p7 b c el ec eo (l.map f) acc=some (.ok (acc++(l.filter q).map g) eo)
 | [],acc,_,_=>by simp only[List.filter_nil,List.map_nil,List.append_nil];rfl
 | x::l,acc,hl,h=>by
  obtain⟨e1,e2,h1,h2,h3⟩:=h x List.mem_cons_self
  have hl':acc.length<sizeLine:=by rw[List.length_cons]at hl;omega
  rw[List.map_cons,N7,h1,S0,h2,L9]
  by_cases z:q x=true
  ·obtain⟨e3,h4⟩:=h3 z
   rw[if_pos z,h4,L9,if_pos hl',J9 f g q l (acc++[g x]) (by rw[List.length_append,List.length_cons,List.length_nil];rw[List.length_cons]at hl;omega) (fun y m=>h y (List.mem_cons_of_mem _ m)),List.filter_cons_of_pos z,List.map_cons,List.append_assoc];rfl
  ·rw[if_neg z,J9 f g q l acc (by rw[List.length_cons]at hl;omega) (fun y m=>h y (List.mem_cons_of_mem _ m)),List.filter_cons_of_neg z]
theorem a8d(lo:Int)(n:Nat):J5 lo n=(List.range n).map fun i=>.int (lo+i):=rfl
theorem b4n{ds:List D}{v u:Int}(h:0≤v)(h2:v≤u):a3z ds (some v) (some u)=(ds.drop v.toNat).take (u-v).toNat:=by
 unfold a3z
 obtain⟨n,rfl⟩:=Int.eq_ofNat_of_zero_le h
 obtain⟨m,rfl⟩:=Int.eq_ofNat_of_zero_le (Int.le_trans h h2)
 rw[HT.sIx_nat,HT.sIx_nat,Int.toNat_natCast]
 have e:((m:Int)-(n:Int)).toNat=m-n:=by omega
 rw[e]
 by_cases z:n≤ds.length
 ·rw[Nat.min_eq_left z]
  by_cases y:m≤ds.length
  ·rw[Nat.min_eq_left y]
  ·rw[Nat.min_eq_right (by omega),List.take_of_length_le (by rw[List.length_drop];exact Nat.le_refl _),List.take_of_length_le (by rw[List.length_drop];omega)]
 ·rw[List.drop_of_length_le (show ds.length≤min n ds.length by omega),List.drop_of_length_le (by omega),List.take_nil,List.take_nil]
theorem a4j(d:D)(n:String):a70 [d,.ty n]=W8 n d:=by unfold a70 W8;rfl
theorem b4o{ds es:List D}(h:ds.length+es.length≤1000000):O5 (.lst ds) (.lst es)=some (ds++es):=by
 show(if ds.length+es.length≤sizeLine then some (ds++es)else none)=_
 rw[if_pos (by show _≤2 ^ 24;omega)]
theorem b4p{n k:Nat}(h:k<n):ixN n (k:Int)=some k:=by
 unfold ixN;rw[if_pos (by omega),if_pos (by omega),Int.toNat_natCast]
section
variable {K:W.Frag}{cl:Str→Addr}{E:XK}
def a8e(i:Nat)(k f:ZF):SF:=fun e=>match look e i with
 | some (.lst _)=>v8 (k e) fun j e1=>v8 (f e1) fun d e2=>match j,e2[i]? with
  | .int n,some (.ow ds)=>if 0≤n∧n≤ds.length∧ds.length<sizeLine then some (.nx (e2.set i (.ow (ds.take n.toNat++d::ds.drop n.toNat))))else none
  | _,_=>none
 | _=>none
def b7a(neg:Bool)(d e:D):Option D:=match e with
 | .bl k=>some (.bl (match d with | .bl b=>(if neg then !decide (b=k)else decide (b=k)) | _=>neg))
 | _=>none
@[simp] theorem a2k(neg b k:Bool):b7a neg (.bl b) (.bl k)=some (.bl (if neg then !decide (b=k)else decide (b=k))):=rfl
end
def Q6{α:Type}(g:Nat→α→D)(n:Nat):List α→List D
 | []=>[]
 | x::l=>g n x::Q6 g (n+1) l
theorem a6x{α:Type}(f:α→D):∀(n:Nat) (l:List α),enD n (l.map f)=Q6 (fun k x=>.tup [.int k,f x]) n l
 | _,[]=>rfl
 | n,x::l=>by rw[List.map_cons,Q6,enD,a6x f (n+1) l]
theorem a9x{α:Type}{b:GF}{body:SF}(g:Nat→α→D)(I:List α→DE→Prop)(Z:List α→α→RS→Prop)(l0:List α):∀(l pre:List α) (e:DE),l0=pre++l→I pre e →
  (∀pre x post e,l0=pre++x::post→I pre e→(∃r,a4i r=true∧u9 (B6 (b (g pre.length x) e) body)=some r∧Z pre x r)∨(∃e2,u9 (B6 (b (g pre.length x) e) body)=some (.nx e2)∧I (pre++[x]) e2)) →
  ((∃pr x post r,l0=pr++x::post∧a4i r=true∧l9 b body (Q6 g pre.length l) e=some r∧Z pr x r∧∃e',I pr e')∨(∃e',l9 b body (Q6 g pre.length l) e=some (.nx e')∧I l0 e'))
 | [],pre,e,hl,h,_=>.inr ⟨e,rfl,by rw[hl,List.append_nil];exact h⟩
 | x::l,pre,e,hl,h,hs=>by
  have hstep:∀r,u9 (B6 (b (g pre.length x) e) body)=some r→l9 b body (Q6 g pre.length (x::l)) e=U5 (some r) (l9 b body (Q6 g (pre.length+1) l)):=fun r h2=>by
   rw[Q6,G8]
   cases q:b (g pre.length x) e with
   | none=>rw[q]at h2;cases h2
   | some e1 =>
    rw[q]at h2
    have h2:u9 (body e1)=some r:=h2
    rw[E1,a1c,h2]
  rcases hs pre x l e hl h with⟨r,hr,h2,hz⟩ | ⟨e2,h2,h3⟩
  ·refine .inl ⟨pre,x,l,r,hl,hr,?_,hz,e,h⟩
   rw[hstep r h2]
   cases r<;>first | rfl | cases hr
  ·have ih:=a9x g I Z l0 l (pre++[x]) e2 (by rw[hl,List.append_assoc];rfl) h3 hs
   rw[List.length_append,List.length_singleton]at ih
   rw[hstep _ h2]
   exact ih
theorem a5K{α:Type}{b:GF}{body:SF}(g:Nat→α→D)(I:List α→DE→Prop)(Z:List α→α→RS→Prop)(l:List α)(e:DE)(h:I [] e)
  (hs:∀pre x post e,l=pre++x::post→I pre e→(∃r,a4i r=true∧u9 (B6 (b (g pre.length x) e) body)=some r∧Z pre x r)∨(∃e2,u9 (B6 (b (g pre.length x) e) body)=some (.nx e2)∧I (pre++[x]) e2)) :
  (∃pre x post r,l=pre++x::post∧a4i r=true∧l9 b body (Q6 g 0 l) e=some r∧Z pre x r∧∃e',I pre e')∨(∃e',l9 b body (Q6 g 0 l) e=some (.nx e')∧I l e') :=
 a9x g I Z l l [] e rfl h hs
theorem a6Z{α:Type}(f g:α→D):∀(l:List α),a0E (l.map f) (l.map g)=l.map fun q=>.tup [f q,g q]
 | []=>rfl
 | x::l=>by
  have:=a6Z f g l
  unfold a0E at this ⊢
  rw[List.map_cons,List.map_cons,List.zipWith_cons_cons,this,List.map_cons]
theorem a4Z{α:Type}{l:List α}{k:Nat}{a:α}(h:l[k]? = some a):atI l (k:Int)=some a:=by
 have hk:=(List.getElem?_eq_some_iff.mp h).1
 unfold atI
 rw[b4p hk];exact h
theorem a2P{α:Type}(f:α→D){p r:List α}{x:α}:atI ((p++x::r).map f) (p.length:Int)=some (f x) :=
 a4Z (by rw[List.map_append,List.getElem?_append_right (by rw[List.length_map];exact Nat.le_refl _),List.length_map,Nat.sub_self];rfl)
section
variable {K:W.Frag}{cl:Str→Addr}{E:XK}
def b6A:D→Option D
 | .tup ds=>match P8 ds with
  | some (n::ns)=>some (.int (ns.foldl min n))
  | _=>none
 | _=>none
theorem a2l(a b c d:Int):b6A (.tup [.int a,.int b,.int c,.int d])=some (.int (min (min (min a b) c) d)):=rfl
end
section
variable {K:W.Frag}{cl:Str→Addr}{E:XK}
def a5L(i:Nat)(k:ZF)(g:Int→Int→Int)(f:ZF):SF:=fun e=>match look e i with
 | some (.lst _)=>v8 (k e) fun jd e1=>match jd,e1[i]? with
  | .int j,some (.ow ds)=>(match atI ds j with
   | some (.int a)=>v8 (f e1) fun d e2=>(match d,e2[i]? with
    | .int b,some (.ow ds2)=>(match ixN ds2.length j with
     | some n=>some (.nx (e2.set i (.ow (ds2.set n (.int (g a b))))))
     | none=>none)
    | _,_=>none)
   | _=>none)
  | _,_=>none
 | _=>none
end
section
variable {K:W.Frag}{cl:Str→Addr}{E:XK}
def a3K(i:Nat)(k:ZF):SF:=fun e=>match look e i with
 | some (.lst _)=>v8 (k e) fun j e1=>match j,e1[i]? with
  | .int n,some (.ow ds)=>if 0≤n∧n<ds.length∧ds.length≤1000000 then some (.nx (e1.set i (.ow (ds.eraseIdx n.toNat))))else none
  | _,_=>none
 | _=>none
end
section
variable {K:W.Frag}{cl:Str→Addr}{E:XK}
def a3L(i j:Nat):SF:=fun e=>match e[i]?,e[j]? with
 | some (.ow d1),some (.ow d2)=>if i=j then none else some (.rz [d1,d2])
 | _,_=>none
def a3M(i j:Nat)(g:List D→Option R1)(f:AF):SF:=fun e=>v8 (f e) fun ds e1=>match g ds with
 | some (.owz [d1,d2])=>if i=j then none else(match e1[i]?,e1[j]? with
  | some .no,some .no=>some (.nx ((e1.set i (.ow d1)).set j (.ow d2)))
  | _,_=>none)
 | some (.ex c)=>some (.ex c)
 | _=>none
def a5M(g:List D→Option R1)(f:AF):NF:=fun e=>bnd (f e) fun ds e1=>match g ds with
 | some (.own es)=>some (.ok es e1)
 | some (.ex c)=>some (.ex c)
 | _=>none
end
section
variable {K:W.Frag}{cl:Str→Addr}{E:XK}{σ:St}{H F:Hp}{env:DE}{k:Nat}
def b5Z(lo st:Int)(n:Nat):List D:=(List.range n).map fun(i:Nat)=>.int (lo+(i:Int)*st)
def b7b(ds:List D):Option (Int×Int×Nat):=match ds with
 | [.int i,.int j,.int k]=>if 0<k∧k<2 ^ 20∧-(2 ^ 61)≤i∧i<2 ^ 61∧-(2 ^ 61)≤j∧j<2 ^ 61 then some (i,k,b6q i j k)else none
 | _=>none
def a3N(f:AF)(b:GF)(body:SF):SF:=fun e=>v8 (f e) fun ds e1=>match b7b ds with
 | none=>none
 | some (lo,st,n)=>l9 b body (b5Z lo st n) e1
end
section
variable {K:W.Frag}{cl:Str→Addr}{E:XK}
def b7c(d e:D):Option D:=match d,e with
 | .lst ds,.int i=>match P8 ds with
  | some ns=>if ns.contains i=true then some (.int (ns.idxOf i:Nat))else none
  | none=>none
 | _,_=>none
def a8f(i:Nat)(f:ZF):ZF:=fun e=>match look e i with
 | some (.lst _)=>bnd (f e) fun d e1=>match look e1 i with
  | some l=>R7 (b7c l d) e1
  | none=>none
 | _=>none
end
open Classical in
section
variable {K:W.Frag}{cl:Str→Addr}{E:XK}
theorem a6y{F:Hp}:∀{ds:List D} {xs:List V},Rps K cl F ds xs→Rps K cl F ds.reverse xs.reverse
 | [],_,r=>by rw[r.inv0];exact .nil
 | d::ds,_,r=>by
  obtain⟨v,xs,rfl,p,r'⟩:=r.inv
  rw[List.reverse_cons,List.reverse_cons]
  exact(a6y r').append (.one p)
end
section
variable {K:W.Frag}{cl:Str→Addr}{E:XK}{σ:St}{H F:Hp}{env:DE}
abbrev HF:=XN→SF
theorem Xf.rp{c:XN}{cx:Option Addr}{a:Addr}(h:Xf K cl F c cx)(na:F a=none):Rp K cl (upd F a (D2 a (.ref (cl c.nm)) cx)) c.d (.ref a):=by
 have g:Same F (upd F a (D2 a (.ref (cl c.nm)) cx)):=fun b o e=>by rw[g8 (j8 e na)];exact e
 cases c with
 | p c=>show Rp K cl _ (.exc c) _;simp only[Rp];exact⟨a,cx,rfl,i8⟩
 | v c f d =>
  obtain⟨dx,y,rfl,h1,h2⟩:=h
  show Rp K cl _ (.exv c f d) _
  simp only[Rp]
  exact⟨a,dx,y,rfl,i8,g _ _ h1,h2.mono g⟩
def RfH(K:W.Frag)(cl:Str→Addr)(E:XK)(th:TH)(f:HF):Prop:=∀(N:Ends) σ H env F a c cx,Rel K cl σ H F env→H a=none→Xf K cl F c cx→Cs K cl E (f c env) σ H F env N→th (.ref (cl c.nm)) cx a N σ H
def hN:HF:=fun _ _=>none
def a7l(i:Nat)(r:Option RS):Option RS:=match r with
 | some (.nx e2)=>put i .no e2
 | some (.rt d)=>some (.rt d)
 | some (.ro ds)=>some (.ro ds)
 | _=>none
def hAs(i:Nat)(exm:Str→Option Bool)(suite:SF)(k8:HF):HF:=fun c e=>match exm c.nm with
 | some true=>(match put i (.fz c.d) e with
  | some (.nx e1)=>a7l i (suite e1)
  | _=>none)
 | some false=>k8 c e
 | none=>none
theorem b6B:RfH K cl E b3u hN:=fun _ _ _ _ _ _ _ _ _ _ _ h=>h
end
section
variable {K:W.Frag}{cl:Str→Addr}{E:XK}{σ:St}{H F:Hp}{env:DE}
theorem Rps.lookup{f:Str}:∀{ns:List Str} {ds:List D} {xs:List V} {z:D},Rps K cl F ds xs→(ns.zip ds).lookup f=some z→∃v,(ns.zip xs).lookup f=some v∧Rp K cl F z v
 | [],ds,xs,z,_,h=>by simp at h
 | n::ns,[],xs,z,r,h=>by simp at h
 | n::ns,d::ds,xs,z,r,h=>by
  obtain⟨v,ys,rfl,p,r'⟩:=r.inv
  rw[List.zip_cons_cons,List.lookup_cons]at h ⊢
  by_cases q:(f == n)=true
  ·rw[q]at h ⊢;cases h;exact⟨v,rfl,p⟩
  ·rw[Bool.not_eq_true _ |>.mp q]at h ⊢;exact r'.lookup h
end
section
variable {K:W.Frag}{cl:Str→Addr}{E:XK}{σ:St}{H F:Hp}{env:DE}{k:Nat}
theorem a40{b:GF}{body:SF}{g:TG}{tb:TS}{ds:List D}{xs:List V}{a:Addr}{N:Ends}(hb:RfS K cl E tb body)(hg:G7 K cl k g b)(R:Rel K cl σ H F env)
  (hl:∀σ' H' F' e',Frm σ H F env σ' H' F' e'→Rel K cl σ' H' F' e'→SqL K H' a xs) (r:Rps K cl F ds xs) (h:Cs K cl E (l9 b body ds.reverse env) σ H F env N) :
  ∃W:Nat→Nat→St→Hp→Prop,(∃m,W 0 m σ H)∧∀i m σ H,W i m σ H →
   ((Itv K a xs.length).stop i H∧N.nx σ H)∨((Itv K a xs.length).go i H∧∃M:St→Hp→Prop,(∀σ' H',M σ' H'→∃m',m'<m∧W (i+1) m' σ' H')∧∀x H',(Itv K a xs.length).yld i H x H'→g x σ H' fun σ2 H2=>tb { N with nx:=M,ct:=M,bk:=N.nx } σ2 H2):=by
 have rr:Rps K cl F ds.reverse xs.reverse:=a6y r
 refine b37 (xs:=xs) (fun i σ' H'=>∃F' e',Frm σ H F env σ' H' F' e'∧Rel K cl σ' H' F' e'∧Cs K cl E (l9 b body (ds.reverse.drop i) e') σ H F env N) ⟨F,env,Frm.refl,R,h⟩ (fun i σ' H' _ ⟨F',e',f,R',_⟩=>hl σ' H' F' e' f R') (fun i x σ' H' hx ⟨F',e',f,R',h'⟩=>?_) (fun σ' H' ⟨F',e',f,R',h'⟩=>?_)
 ·obtain⟨d,hd,p⟩:=rr.get' hx
  rw[D9 hd]at h'
  exact Q2 hb hg f R' (Rp.mono f.fz _ _ p) h' fun σ2 H2 F2 e2 f2 R2 h2=>⟨F2,e2,f2,R2,h2⟩
 ·rw[← r.length,← List.length_reverse,List.drop_length]at h'
  exact h' σ' H' F' f R'
def a5N(i:Nat)(b:GF)(body:SF):SF:=fun e=>match e[i]? with
 | some (.fz d)=>(match seqL d with
  | none=>none
  | some ds=>l9 b body ds.reverse e)
 | some (.ow ds)=>unhide i ds (l9 b body ds.reverse (e.set i (.hd ds)))
 | some (.hd ds)=>l9 b body ds.reverse e
 | _=>none
theorem b2O{i:Nat}{g:TG}{tb:TS}{b:GF}{body:SF}(hg:G7 K cl k g b)(hb:RfS K cl E tb body):RfS K cl E (a4G (b5C K (P5 (O4 i) a1h)) g tb) (a5N i b body):=by
 intro N σ H env F R h
 unfold a5N at h
 split at h
 ·rename_i d q
  split at h
  ·exact h.elim
  ·rename_i ds hs
   obtain⟨v,e,p⟩:=R.fz i d q
   obtain⟨a,xs,rfl,r,hl⟩:=Rp.seqL p hs
   exact⟨_,e,a,xs,rfl,hl H R.sub,a40 hb hg R (fun σ' H' F' e' f2 R2=>hl H' (f2.fz.trans R2.sub)) r h⟩
 ·rename_i ds q
  have hi:i<env.length:=(List.getElem?_eq_some_iff.mp q).1
  have R':=R.hide q
  obtain⟨a,xs,e,r,hH,st⟩:=R'.hid_stays (i:=i) (ds:=ds) (List.getElem?_set_self hi)
  exact⟨_,e,a,xs,rfl,.of hH,a40 hb hg R' (fun σ' H' F' e' f2 R2=>.of (st σ' H' F' e' f2)) r (h.hide R q)⟩
 ·rename_i ds q
  obtain⟨a,xs,e,r,hH,st⟩:=R.hid_stays q
  exact⟨_,e,a,xs,rfl,.of hH,a40 hb hg R (fun σ' H' F' e' f2 R2=>.of (st σ' H' F' e' f2)) r h⟩
 ·exact h.elim
end
def b3B:List V→Hp→VK→Prop:=fun xs H Q=>∃j:Int,xs=[.int j]∧0≤j∧j≤2 ^ 20∧∀l,H l=none→Q (.ref l) (upd H l (.lst ((List.range j.toNat).map fun(i:Nat)=>V.int (i:Int))))
theorem b0h:∀{n:Nat} {acc:Array Value},ItemsOf (fun i v=>∃t,v=.int (0+(i:Int)*1) t) acc n→Vals ((List.range n).map fun(i:Nat)=>V.int (i:Int)) acc.toList:=by
 intro n acc ⟨hs,hv⟩
 have key:∀(l:List Value) (k:Nat),(∀j v,l[j]? = some v→∃t,v=Value.int ((k+j:Nat):Int) t)→Vals ((List.range' k l.length).map fun(i:Nat)=>V.int (i:Int)) l:=by
  intro l
  induction l with
  | nil=>intro k _;exact .nil
  | cons u l ih =>
   intro k h
   rw[List.length_cons,List.range'_succ,List.map_cons]
   refine .cons ?_ (ih (k+1) fun j v e=>?_)
   ·obtain⟨t,rfl⟩:=h 0 u rfl
    exact⟨t,rfl⟩
   ·obtain⟨t,rfl⟩:=h (j+1) v (by simpa using e)
    exact⟨t,by rw[show k+(j+1)=k+1+j by omega]⟩
 have hl:acc.toList.length=n:=by simpa using hs
 have:=key acc.toList 0 fun j v e=>by
  obtain⟨t,rfl⟩:=hv j v (by simpa using e)
  exact⟨t,by congr 1;omega⟩
 rw[hl,← List.range_eq_range']at this
 exact this
section
variable {X:Cx}
theorem b2P(hc:X.calm=true:=by rfl):b0X X "range" b3B:=by
 intro pins s σ H xs us Q I r h
 obtain⟨j,rfl,j0,j1,q⟩:=h
 obtain⟨u,rfl,ru⟩:=r.one
 obtain⟨t,rfl⟩:=ru
 refine call_range_1 ?_
 have hn:Builtin.Range.rangeSize 0 j 1=(j.toNat:Int):=by
  unfold Builtin.Range.rangeSize
  rw[if_pos (by omega)]
  by_cases z:(0:Int)<j
  ·rw[if_pos z];omega
  ·rw[if_neg z];omega
 refine call_list_range (s:={ s with heap:=s.heap.push { cls:=.type "range",data:=.fields #[.int 0 s.toks,.int j t,.int 1 (s.toks+1)] },toks:=s.toks+1+1 }) (I.ok.hd hc) (IsRange.new ..) (small_one (by omega) (by omega) (by omega) (by omega)) hn (by omega) fun h' tk acc c kp ho hi=>?_
 have hsz:(s.heap.push { cls:=.type "range",data:=.fields #[.int 0 s.toks,.int j t,.int 1 (s.toks+1)] }).objs.size=s.heap.objs.size+1:=Heap.size_push ..
 have hge:s.heap.objs.size≤(s.heap.push { cls:=.type "range",data:=.fields #[.int 0 s.toks,.int j t,.int 1 (s.toks+1)] }).objs.size:=by rw[hsz];exact Nat.le_succ _
 have hf:H (s.heap.push { cls:=.type "range",data:=.fields #[.int 0 s.toks,.int j t,.int 1 (s.toks+1)] }).objs.size=none:=I.hok.fresh hge
 refine⟨.ref _,_,I.laid (t':=tk) (o:=.lst ((List.range j.toNat).map fun(i:Nat)=>V.int (i:Int))) (fun b o e=>kp b o (Heap.get?_push_of_some _ e)) hge ?_,rfl,q _ hf⟩
 refine⟨?_,acc.toList,c,b0h hi,by simpa using ho⟩
 rw[List.length_map,List.length_range]
 show _≤2 ^ 24
 omega
end
section
variable {K:W.Frag}{cl:Str→Addr}
def a4k:D→Option (List D)
 | .int j=>if 0≤j∧j≤2 ^ 20 then some ((List.range j.toNat).map fun(i:Nat)=>D.int (i:Int))else none
 | _=>none
theorem a8h{F:Hp}:∀(l:List Nat),Rps K cl F (l.map fun(i:Nat)=>D.int (i:Int)) (l.map fun(i:Nat)=>V.int (i:Int))
 | []=>.nil
 | i::l=>.cons (by simp only[Rp]) (a8h l)
theorem b4q:b0b K cl b3B a4k:=by
 intro x d zs H F Q s hx h q
 unfold a4k at h
 split at h
 ·rename_i j
  split at h
  ·rename_i c
   cases h
   have e:x=.int j:=hx.toV rfl
   exact⟨j,by rw[e],c.1,c.2,fun l hl=>q l _ hl (a8h _)⟩
  ·cases h
 ·cases h
end
structure GrM(a:Addr)(H F H' F':Hp):Prop where
 fz:Same F F'
 sub:Same F' H'
 hid:∀b o,b≠a→H b=some o→F b=none→H' b=some o∧F' b=none
 dom:∀b,H' b=none→H b=none
structure Bs(a:Addr)(σ:St)(env:DE)(H0 F0 H F:Hp):Prop where
 fz:Same F0 F
 hid:∀b o,b≠a→H0 b=some o→F0 b=none→H b=some o∧F b=none∧¬Ow σ env b
 dom:∀b,H b=none→H0 b=none
abbrev MF:=DE→Option (List D)
def mNx:MF:=fun e=>match e[(0:Nat)]? with
 | some (.hd ds)=>some ds
 | _=>none
def a8i(f:SF)(k:MF):MF:=fun e=>match f e with
 | some (.nx e1)=>k e1
 | _=>none
def mIf(c:BF)(f k:MF):MF:=fun e=>match c e with
 | some (.ok b e1)=>if b=true then f e1 else k e1
 | _=>none
def a8j(k f:ZF)(r:MF):MF:=fun e=>match f e with
 | some (.ok d e1)=>(match k e1 with
  | some (.ok (.int j) e2)=>(match e2[(0:Nat)]? with
   | some (.hd ds)=>(match ixN ds.length j with
    | some n=>r (e2.set 0 (.hd (ds.set n d)))
    | none=>none)
   | _=>none)
  | _=>none)
 | _=>none
def a8k(f:ZF)(r:MF):MF:=fun e=>match f e with
 | some (.ok d e1)=>(match e1[(0:Nat)]? with
  | some (.hd ds)=>if ds.length<sizeLine then r (e1.set 0 (.hd (ds++[d])))else none
  | _=>none)
 | _=>none
section
variable {K:W.Frag}{cl:Str→Addr}{E:XK}{σ:St}{H F:Hp}{env:DE}
theorem Bs.frm{a:Addr}{ds:List D}{σ':St}{env':DE}{H0 F0 H' F':Hp}(B:Bs a σ env H0 F0 H F)(f:Frm σ H F env σ' H' F' env'):Bs a σ' env' H0 F0 H' F' :=
 ⟨B.fz.trans f.fz,fun b o n h g=>by obtain⟨h1,f1,w1⟩:=B.hid b o n h g;exact f.hid b o h1 f1 w1,fun b h=>B.dom b (f.dom b h)⟩
theorem Bs.gr{a:Addr}{H0 F0:Hp}(B:Bs a σ env H0 F0 H F)(s:Same F H):GrM a H0 F0 H F :=
 ⟨B.fz,s,fun b o n h g=>by obtain⟨h1,f1,_⟩:=B.hid b o n h g;exact⟨h1,f1⟩,B.dom⟩
def fM(n m:Nat)(body:MF)(ds es:List D):Option (List D):=if es.length+1=m then body (.hd ds::(es.map .fz++List.replicate (n-(es.length+1)) .no))else none
end
def a3O(i:Nat)(g:List D→List D→Option (List D))(f:AF):SF:=fun e=>match look e i with
 | some (.lst _)=>v8 (f e) fun es e1=>(match e1[i]? with
  | some (.ow ds)=>(match g ds es with
   | some ds'=>some (.nx (e1.set i (.ow ds')))
   | none=>none)
  | _=>none)
 | _=>none
section
variable {K:W.Frag}{cl:Str→Addr}{E:XK}
def a3P(f g h:NF):SF:=fun e=>match f e with
 | some (.ok d1 e1)=>(match g e1 with
  | some (.ok d2 e2)=>(match h e2 with
   | some (.ok d3 _)=>some (.rz [d1,d2,d3])
   | _=>none)
  | _=>none)
 | _=>none
def a3Q(i j k:Nat)(g:List D→Option R1)(f:AF):SF:=fun e=>v8 (f e) fun ds e1=>match g ds with
 | some (.owz [d1,d2,d3])=>if i=j∨i=k∨j=k then none else(match e1[i]?,e1[j]?,e1[k]? with
  | some .no,some .no,some .no=>some (.nx (((e1.set i (.ow d1)).set j (.ow d2)).set k (.ow d3)))
  | _,_,_=>none)
 | _=>none
end
section
variable {K:W.Frag}{cl:Str→Addr}{E:XK}
def a3R(f g:NF):SF:=fun e=>match f e with
 | some (.ok d1 e1)=>(match g e1 with
  | some (.ok d2 _)=>some (.rz [d1,d2])
  | _=>none)
 | _=>none
def a3S(i j:Nat)(g:List D→Option R1)(f:AF)(c1 c2:BF)(z:ZF):SF:=fun e=>v8 (f e) fun ds e1=>match g ds with
 | some (.owz [d1,d2])=>(match e1[i]? with
  | some .no=>(match c1 (e1.set i (.fz (.tup [.lst d1,.lst d2])))with
   | some (.ok true _)=>some (.rt (.bl false))
   | some (.ok false e3)=>(match c2 e3 with
    | some (.ok true _)=>some (.rt (.bl false))
    | some (.ok false e4)=>(match z e4 with
     | some (.ok (.bl b) e5)=>if i≠j∧j<e5.length∧d1.length<sizeLine then some (.rt (.bl b))else none
     | _=>none)
    | _=>none)
   | _=>none)
  | _=>none)
 | _=>none
end
section
variable {P:Program}{w:World}{K:W.Frag}{mg:Str→Option Value}{base:Heap}{cl:Str→Addr}{TB:List (Addr×Str)}
variable {X:Cx}{k k':Nat}{x:Str}{ps:List Str}{sp:Sp}{E:XK}{e:Expr}{es:List Expr}{t:TA}{p pos:Pos}{d:V}
theorem OwnD.own(G:OwnD P w K mg base k x ps sp d):Own P w K mg base k x ps sp:=by
 obtain⟨f,fd,du,F,b,bd,rd,kp,m⟩:=G.ex
 exact⟨f,fd,F,b,kp,m⟩
end
def a41(k:Int):List Int→List Int
 | []=>[k]
 | x::r=>if k<x then k::x::r else if k=x then x::r else x::a41 k r
def W9:List Int→List Int
 | []=>[]
 | k::r=>a41 k (W9 r)
theorem a42{k x:Int}:∀{l:List Int},x∈a41 k l↔x=k∨x∈l
 | []=>by simp[a41]
 | y::l=>by
  unfold a41
  split
  ·simp
  ·split
   ·rename_i h;subst h;simp
   ·rw[List.mem_cons,a42,List.mem_cons]
    constructor
    ·rintro(h | h | h)
     ·exact .inr (.inl h)
     ·exact .inl h
     ·exact .inr (.inr h)
    ·rintro(h | h | h)
     ·exact .inr (.inl h)
     ·exact .inl h
     ·exact .inr (.inr h)
theorem a9y{k:Int}:∀{l:List Int},l.Pairwise (· < ·)→(a41 k l).Pairwise (· < ·)
 | [],_=>List.pairwise_singleton _ _
 | y::l,h=>by
  unfold a41
  have h':=List.pairwise_cons.mp h
  split
  ·rename_i hk
   refine List.pairwise_cons.mpr ⟨fun x m=>?_,h⟩
   rcases List.mem_cons.mp m with rfl | m
   ·exact hk
   ·exact Int.lt_trans hk (h'.1 x m)
  ·split
   ·exact h
   ·refine List.pairwise_cons.mpr ⟨fun x m=>?_,a9y h'.2⟩
    rcases a42.mp m with rfl | m
    ·omega
    ·exact h'.1 x m
theorem a60{x:Int}:∀{l:List Int},x∈W9 l↔x∈l
 | []=>by simp[W9]
 | k::l=>by unfold W9;rw[a42,a60,List.mem_cons]
theorem a8l:∀l:List Int,(W9 l).Pairwise (· < ·)
 | []=>.nil
 | k::l=>a9y (a8l l)
theorem b1o:∀{a b:List Int},a.Pairwise (· < ·)→b.Pairwise (· < ·)→(∀x,x∈a↔x∈b)→a=b
 | [],[],_,_,_=>rfl
 | [],y::b,_,_,h=>absurd ((h y).mpr List.mem_cons_self) List.not_mem_nil
 | x::a,[],_,_,h=>absurd ((h x).mp List.mem_cons_self) List.not_mem_nil
 | x::a,y::b,ha,hb,h=>by
  have ha':=List.pairwise_cons.mp ha
  have hb':=List.pairwise_cons.mp hb
  have e:x=y:=by
   rcases List.mem_cons.mp ((h x).mp List.mem_cons_self)with e | m
   ·exact e
   ·rcases List.mem_cons.mp ((h y).mpr List.mem_cons_self)with e | m2
    ·exact e.symm
    ·have:=hb'.1 x m
     have:=ha'.1 y m2
     omega
  subst e
  congr 1
  refine b1o ha'.2 hb'.2 fun z=>?_
  constructor
  ·intro m
   rcases List.mem_cons.mp ((h z).mp (List.mem_cons_of_mem _ m))with e | m2
   ·subst e;have:=ha'.1 z m;omega
   ·exact m2
  ·intro m
   rcases List.mem_cons.mp ((h z).mpr (List.mem_cons_of_mem _ m))with e | m2
   ·subst e;have:=hb'.1 z m;omega
   ·exact m2
def a3T(f:AF):NF:=fun e=>bnd (f e) fun ds e1=>match ds with
 | [.lst xs]=>(match P8 xs with
  | some ns=>if ns.length<64 then some (.ok ((W9 ns).map .int) e1)else none
  | none=>none)
 | _=>none
section
variable {K:W.Frag}{cl:Str→Addr}{E:XK}
theorem b2Q{t:TA}{f:AF}(hf:T5 K cl E t f):RfN K cl E (b06 K t) (a3T f):=by
 intro σ H Q env F R h
 refine hf σ H _ env F R ((Ct.bnd h a2C).mono fun vs H1 ⟨F1,e1,ds,s1,R1,p1,h1⟩=>?_)
 split at h1
 ·rename_i xs
  split at h1
  ·rename_i ns hn
   split at h1
   ·rename_i hl
    obtain⟨v,r,rfl,q1,q2⟩:=Rps.inv p1
    rw[q2.inv0]
    simp only[Rp]at q1
    obtain⟨a,ys,rfl,ha,rr⟩:=q1
    rw[a9u hn]at rr
    rw[rr.ints]at ha
    refine⟨a,ns,rfl,.of (R1.sub _ _ ha),hl,fun l ks hl' hpw hm=>?_⟩
    have e:ks=W9 ns:=b1o hpw (a8l ns) fun x=>(hm x).trans a60.symm
    subst e
    exact Ct.newN R1 hl' Rps.ofInts h1
   ·exact h1.elim
  ·exact h1.elim
 ·exact h1.elim
end
section
variable {K:W.Frag}{cl:Str→Addr}{E:XK}
theorem b4r{ta tb:TE}{f k:ZF}(ha:t5 K cl E ta f)(hb:t5 K cl E tb k):t5 K cl E (tOp (a9T K) ta tb) (eB a08 f k):=by
 intro σ H Q env F R h
 refine ha σ H _ env F R ((Ct.bnd h M3).mono fun x H1 ⟨F1,e1,d,s1,R1,p1,h1⟩=>?_)
 refine hb σ H1 _ e1 F1 R1 ((Ct.bnd h1 M3).mono fun y H2 ⟨F2,e2,e,s2,R2,p2,h2⟩=>?_)
 have p1':Rp K cl F2 d x:=Rp.mono s2 _ _ p1
 have p2':Rp K cl F2 e y:=p2
 cases d with
 | tup ds =>
  cases e with
  | tup es =>
   have h2:Ct K cl E (PZ K cl) (R7 (if ds≠[]∧es≠[]∧ds.length+es.length≤sizeLine then some (.tup (ds++es))else none) e2) σ H2 F2 e2 Q:=h2
   by_cases c:ds≠[]∧es≠[]∧ds.length+es.length≤sizeLine
   ·rw[if_pos c]at h2
    obtain⟨a,xs,rfl,hF,r⟩:∃a xs,x=.ref a∧F2 a=some (.tup xs)∧Rps K cl F2 ds xs:=by simpa only[Rp]using p1'
    obtain⟨b,ys,rfl,hF',r'⟩:∃a xs,y=.ref a∧F2 a=some (.tup xs)∧Rps K cl F2 es xs:=by simpa only[Rp]using p2'
    have l1:=r.length
    have l2:=r'.length
    refine⟨a,b,xs,ys,rfl,rfl,.of (R2.sub _ _ hF),.of (R2.sub _ _ hF'),fun z=>c.1 (by rw[z]at l1;exact List.length_eq_zero_iff.mp l1),by omega,?_⟩
    have g:∀p,H2 p=none→Gr H2 F2 (upd H2 p (.tup (xs++ys))) (upd F2 p (.tup (xs++ys))):=fun p hp=>.new R2.sub hp
    have fin:∀p,H2 p=none→Q (.ref p) (upd H2 p (.tup (xs++ys))):=fun p hp=>h2 _ _ _ (R2.frm (g p hp)) (R2.gr (g p hp)) (by show Rp K cl _ (.tup (ds++es)) _;simp only[Rp];exact⟨p,xs++ys,rfl,i8,Rps.mono (g p hp).fz _ _ (r.append r')⟩)
    exact⟨fun z=>absurd (by rw[z]at l2;exact List.length_eq_zero_iff.mp l2) c.2.1,fun _=>fin⟩
   ·rw[if_neg c]at h2;exact h2.elim
  | _=>exact h2.elim
 | _=>exact h2.elim
end
def lookD(e:DE)(i:Nat):Option (DK×List D):=match e[i]? with
 | some (.fz (.dic ks ds))=>some (ks,ds)
 | some (.od ks ds)=>some (ks,ds)
 | some (.hk ks ds)=>some (ks,ds)
 | _=>none
def a2Q:D→Option y0
 | .int i=>some (.inl i)
 | .str x=>some (.inr x)
 | _=>none
def b0i:List D→Option (List y0)
 | []=>some []
 | d::ds=>match a2Q d,b0i ds with
  | some k,some ks=>some (k::ks)
  | _,_=>none
section
variable {κ:Type} [DecidableEq κ]
def b0j:List κ→List D→κ→Option D
 | k'::ks,d::ds,k=>if k'=k then some d else b0j ks ds k
 | _,_,_=>none
def b50(ks:List κ)(k:κ):Bool:=ks.any fun k'=>decide (k'=k)
def b51{α:Type}(ks:List κ)(ds:List α)(k:κ)(d:α):List α:=List.zipWith (fun k' d'=>if k'=k then d else d') ks ds
end
def b2R(ks:DK)(ds:List D)(k:D):Option (Option D):=match ks with
 | .inl ks=>(match a2Q k with
  | some k=>some (b0j ks ds k)
  | none=>none)
 | .inr ks=>(match k with
  | .tup es=>(match b0i es with
   | some k=>some (b0j ks ds k)
   | none=>none)
  | _=>none)
def putD(ks:DK)(ds:List D)(k d:D):Option (DK×List D):=match ks with
 | .inl ks=>(match a2Q k with
  | some k=>some (if b50 ks k=true then(.inl ks,b51 ks ds k d)else(.inl (ks++[k]),ds++[d]))
  | none=>none)
 | .inr ks=>(match k with
  | .tup es=>(match b0i es with
   | some k=>some (if b50 ks k=true then(.inr ks,b51 ks ds k d)else(.inr (ks++[k]),ds++[d]))
   | none=>none)
  | _=>none)
section
variable {K:W.Frag}{cl:Str→Addr}{E:XK}{σ:St}{H F:Hp}{env:DE}
theorem Rel.lookD{i:Nat}{ks:DK}{ds:List D}(R:Rel K cl σ H F env)(h:lookD env i=some (ks,ds)):∃a xs,σ[i]? = some (some (.ref a))∧H a=some (dkO ks xs)∧dkN ks=xs.length∧Rps K cl F ds xs:=by
 unfold L2.lookD at h
 split at h
 ·rename_i q;cases h
  obtain⟨v,e,p⟩:=R.fz i _ q
  simp only[Rp]at p
  obtain⟨a,xs,rfl,h1,h2,h3⟩:=p
  exact⟨a,xs,e,R.sub _ _ h1,h2,h3⟩
 ·rename_i q;cases h
  obtain⟨a,xs,e,h1,_,h2,h3⟩:=R.od.at_ i _ ks ds q ⟨rfl,rfl⟩
  exact⟨a,xs,e,h1,h2,h3⟩
 ·rename_i q;cases h
  obtain⟨a,xs,e,h1,_,h2,h3⟩:=R.od.at_ i _ ks ds q ⟨rfl,rfl⟩
  exact⟨a,xs,e,h1,h2,h3⟩
 ·cases h
def a8m(f:ZF)(i:Nat):ZF:=fun e=>bnd (f e) fun k e1=>match lookD e1 i with
 | some (ks,ds)=>(match b2R ks ds k with
  | some o=>some (.ok (.bl o.isSome) e1)
  | none=>none)
 | none=>none
def a8n(f:ZF)(i:Nat):ZF:=fun e=>bnd (f e) fun k e1=>match lookD e1 i with
 | some (ks,ds)=>(match b2R ks ds k with
  | some o=>some (.ok (.bl (!o.isSome)) e1)
  | none=>none)
 | none=>none
def a5O(i:Nat)(f:ZF):ZF:=fun e=>match lookD e i with
 | none=>none
 | some _=>bnd (f e) fun k e1=>match lookD e1 i with
  | some (ks,ds)=>(match b2R ks ds k with
   | some (some d)=>some (.ok d e1)
   | _=>none)
  | none=>none
def a5P(i:Nat)(k:ZF)(f:ZF):SF:=fun e=>v8 (f e) fun d e1=>match lookD e1 i with
 | none=>none
 | some _=>v8 (k e1) fun kd e2=>match e2[i]? with
  | some (.od ks ds)=>if dkN ks<sizeLine then(match putD ks ds kd d with
   | some kd'=>some (.nx (e2.set i (.od kd'.1 kd'.2)))
   | none=>none)else none
  | _=>none
abbrev DF:=DE→Option (R (DK×List D))
def a5Q:DF:=fun e=>some (.ok (.inl [],[]) e)
def a5R:DF:=fun e=>some (.ok (.inr [],[]) e)
def a5S(j:Nat):DF:=fun e=>match e[j]? with
 | some (.fz kd)=>(match a2Q kd with
  | some κ=>some (.ok (.inl [κ],[.bl true]) e)
  | none=>none)
 | _=>none
def a5T(i:Nat)(f:DF):SF:=fun e=>v8 (f e) fun kd e1=>put i (.od kd.1 kd.2) e1
theorem Rel.putD{i:Nat}{ks:DK}{ds:List D}{a:Addr}{xs:List V}(R:Rel K cl σ H F env)(hi:i<env.length)(hH:H a=some (dkO ks xs))(hF:F a=none)(na:∀(j:Nat) (s:Sl) (ls:DK) (es:List D),env[j]? = some s→R6 s ls es→σ[j]?≠some (some (.ref a)))(hn:dkN ks=xs.length)(r:Rps K cl F ds xs):Rel K cl (σ.set i (some (.ref a))) H F (env.set i (.od ks ds)):=by
 have his:i<σ.length:=by rw[R.len];exact hi
 have self:(env.set i (.od ks ds))[i]? = some (.od ks ds):=List.getElem?_set_self hi
 have oth:∀j,j≠i→(env.set i (.od ks ds))[j]? = env[j]?:=fun j hj=>List.getElem?_set_ne (Ne.symm hj)
 have soth:∀j,j≠i→(σ.set i (some (.ref a)))[j]? = σ[j]?:=fun j hj=>List.getElem?_set_ne (Ne.symm hj)
 have muo:∀(j:Nat) (fs:List D),((env.set i (.od ks ds))[j]? = some (.ow fs)∨(env.set i (.od ks ds))[j]? = some (.hd fs))→j≠i∧(env[j]? = some (.ow fs)∨env[j]? = some (.hd fs)):=fun j fs q=>by
  by_cases z:j=i
  ·subst z;rw[self]at q;rcases q with q | q<;>cases q
  ·rw[oth j z]at q;exact⟨z,q⟩
 refine⟨R.sub,by rw[List.length_set,List.length_set];exact R.len,fun j d q=>?_,fun j fs q=>?_,fun j l b ⟨fs,q⟩ ⟨gs,q'⟩ e1 e2=>?_,⟨fun j s ls es q d=>?_,fun j l s t ks1 ks2 ds1 ds2 b q d q' d' e1 e2=>?_⟩⟩
 ·have z:j≠i:=fun z=>by subst z;rw[self]at q;cases q
  rw[oth j z]at q;rw[soth j z];exact R.fz j d q
 ·obtain⟨z,q⟩:=muo j fs q
  rw[soth j z];exact R.mu j fs q
 ·obtain⟨z,q⟩:=muo j fs q
  obtain⟨z',q'⟩:=muo l gs q'
  rw[soth j z]at e1;rw[soth l z']at e2
  exact R.inj j l b ⟨fs,q⟩ ⟨gs,q'⟩ e1 e2
 ·by_cases z:j=i
  ·subst z
   rw[self]at q;cases q
   obtain⟨rfl,rfl⟩:=d
   exact⟨a,xs,List.getElem?_set_self his,hH,hF,hn,r⟩
  ·rw[oth j z]at q;rw[soth j z];exact R.od.at_ j s ls es q d
 ·by_cases zj:j=i
  ·by_cases zl:l=i
   ·rw[zj,zl]
   ·subst zj
    rw[List.getElem?_set_self his]at e1;cases e1
    rw[soth l zl]at e2;rw[oth l zl]at q'
    exact absurd e2 (na l t ks2 ds2 q' d')
  ·rw[soth j zj]at e1;rw[oth j zj]at q
   by_cases zl:l=i
   ·subst zl
    rw[List.getElem?_set_self his]at e2;cases e2
    exact absurd e1 (na j s ks1 ds1 q d)
   ·rw[soth l zl]at e2;rw[oth l zl]at q'
    exact R.od.inj j l s t ks1 ks2 ds1 ds2 b q d q' d' e1 e2
end
@[simp] theorem a0T(ks:DK)(ds:List D):U8 (.od ks ds)=true:=rfl
@[simp] theorem a2m(ks:DK)(ds:List D):a1l (.od ks ds)=.fz (.dic ks ds):=rfl
@[simp] theorem a2n(ks:DK)(ds:List D):a1l (.hk ks ds)=.fz (.dic ks ds):=rfl
def b6C(ds:List D):Option (Int×Nat):=match ds with
 | [.int i,.int j,.int k]=>if k = -1∧-(2 ^ 61)≤i∧i<2 ^ 61∧-(2 ^ 61)≤j∧j<2 ^ 61 then some (i,(i-j).toNat)else none
 | _=>none
def a3U(f:AF)(b:GF)(body:SF):SF:=fun e=>v8 (f e) fun ds e1=>match b6C ds with
 | none=>none
 | some (lo,n)=>l9 b body (b5Z lo (-1) n) e1
structure SU(K:W.Frag)(cl:Str→Addr)(ps:List Nat)(A:Nat→Addr)(H0 F0 F1:Hp)(σ:St)(H F:Hp)(env:DE):Prop where
 rel:Rel K cl σ H F env
 pn:∀i∈ps,σ[i]? = some (some (.ref (A i)))∧∃ds,env[i]? = some (.hd ds)
 fz:Same F0 F
 gz:Same F1 F
 hid:∀b o,(∀i∈ps,b≠A i)→H0 b=some o→F0 b=none→H b=some o∧F b=none∧¬Ow σ env b
 dom:∀b,H b=none→H0 b=none
inductive MU where | nx (e:DE) | dn (e:DE)
abbrev UF:=DE→Option MU
def uS(f:SF):UF:=fun e=>match f e with
 | some (.nx e1)=>some (.nx e1)
 | _=>none
def a8o(f k:UF):UF:=fun e=>match f e with
 | some (.nx e1)=>k e1
 | r=>r
def uIf(c:BF)(f k:UF):UF:=fun e=>match c e with
 | some (.ok b e1)=>if b=true then f e1 else k e1
 | _=>none
def a8p:UF:=fun e=>some (.dn e)
def uNx:UF:=fun e=>some (.nx e)
def a8q(i:Nat)(k f:ZF):UF:=fun e=>match f e with
 | some (.ok d e1)=>(match k e1 with
  | some (.ok (.int j) e2)=>(match e2[i]? with
   | some (.hd ds)=>(match ixN ds.length j with
    | some n=>some (.nx (e2.set i (.hd (ds.set n d))))
    | none=>none)
   | _=>none)
  | _=>none)
 | _=>none
def a8r(i:Nat)(f:ZF):UF:=fun e=>match f e with
 | some (.ok d e1)=>(match e1[i]? with
  | some (.hd ds)=>if ds.length<sizeLine then some (.nx (e1.set i (.hd (ds++[d]))))else none
  | _=>none)
 | _=>none
def b2S(b:GF)(body:UF):List D→UF
 | [],e=>some (.nx e)
 | d::ds,e=>match b d e with
  | none=>none
  | some e1=>match body e1 with
   | some (.nx e2)=>b2S b body ds e2
   | r=>r
def a5U(rg:List D→Option (Int×Nat))(f:AF)(b:GF)(body:UF):UF:=fun e=>match f e with
 | some (.ok ds e1)=>(match rg ds with
  | some (lo,n)=>b2S b body (J5 lo n) e1
  | none=>none)
 | _=>none
def a5V(i:Nat)(b:GF)(body:UF):UF:=fun e=>match e[i]? with
 | some (.fz d)=>(match seqL d with
  | some ds=>b2S b body ds e
  | none=>none)
 | _=>none
section
variable {K:W.Frag}{cl:Str→Addr}{E:XK}{ps:List Nat}{A:Nat→Addr}{H0 F0 F1:Hp}{σ:St}{H F:Hp}{env:DE}{k:Nat}
theorem SU.frm{σ':St}{H' F':Hp}{env':DE}(S:SU K cl ps A H0 F0 F1 σ H F env)(f:Frm σ H F env σ' H' F' env')(R:Rel K cl σ' H' F' env'):SU K cl ps A H0 F0 F1 σ' H' F' env' :=
 ⟨R,fun i m=>by obtain⟨e,ds,h⟩:=S.pn i m;obtain⟨h1,e1⟩:=f.keep i ds h;exact⟨e1.trans e,ds,h1⟩,S.fz.trans f.fz,S.gz.trans f.fz,
  fun b o n h g=>by obtain⟨h1,f1,w1⟩:=S.hid b o n h g;exact f.hid b o h1 f1 w1,fun b h=>S.dom b (f.dom b h)⟩
theorem SU.change{i:Nat}{ds es:List D}{ys:List V}(S:SU K cl ps A H0 F0 F1 σ H F env)(m:i∈ps)(h:env[i]? = some (.hd ds))(r:Rps K cl F es ys):SU K cl ps A H0 F0 F1 σ (upd H (A i) (.lst ys)) F (env.set i (.hd es)):=by
 obtain⟨e,_,_⟩:=S.pn i m
 obtain⟨a',xs,e',hH,hF,_⟩:=S.rel.mu i ds (.inr h)
 rw[e]at e';cases e'
 have hi:i<env.length:=(List.getElem?_eq_some_iff.mp h).1
 have self:(env.set i (.hd es))[i]? = some (.hd es):=List.getElem?_set_self hi
 have oth:∀j,j≠i→(env.set i (.hd es))[j]? = env[j]?:=fun j hj=>List.getElem?_set_ne (Ne.symm hj)
 have mui:∀j,Mu (env.set i (.hd es)) j→Mu env j:=fun j ⟨fs,q⟩=>by
  by_cases z:j=i
  ·subst z;exact⟨ds,.inr h⟩
  ·rw[oth j z]at q;exact⟨fs,q⟩
 have R:=S.rel
 refine⟨⟨fun b o q=>?_,by rw[List.length_set];exact R.len,fun j d q=>?_,fun j fs q=>?_,fun j k b hj hk=>R.inj j k b (mui j hj) (mui k hk),(R.od.updL hH).setE a5p⟩,fun j mj=>?_,S.fz,S.gz,fun b o n h0 f0=>?_,fun b q=>?_⟩
 ·have z:b≠A i:=fun z=>by rw[z,hF]at q;cases q
  rw[g8 z];exact R.sub _ _ q
 ·have z:j≠i:=fun z=>by subst z;rw[self]at q;cases q
  rw[oth j z]at q;exact R.fz j d q
 ·by_cases z:j=i
  ·subst z
   rw[self]at q
   rcases q with q | q
   ·cases q
   ·cases q;exact⟨_,ys,e,i8,hF,r⟩
  ·rw[oth j z]at q
   obtain⟨b,zs,e1,h1,f1,r1⟩:=R.mu j fs q
   have nb:b≠A i:=fun y=>z (R.inj j i b ⟨fs,q⟩ ⟨ds,.inr h⟩ e1 (by rw[y];exact e))
   exact⟨b,zs,e1,by rw[g8 nb];exact h1,f1,r1⟩
 ·obtain⟨e1,fs,q⟩:=S.pn j mj
  refine⟨e1,?_⟩
  by_cases z:j=i
  ·subst z;exact⟨es,self⟩
  ·exact⟨fs,by rw[oth j z];exact q⟩
 ·obtain⟨h1,f1,w1⟩:=S.hid b o n h0 f0
  refine⟨by rw[g8 (n i m)];exact h1,f1,fun⟨j,fs,oo,q,e1⟩=>?_⟩
  have y:j≠i:=fun y=>by subst y;rw[self]at q;cases q;exact oo
  rw[oth j y]at q;exact w1 ⟨j,fs,oo,q,e1⟩
 ·by_cases z:b=A i
  ·rw[z,i8]at q;cases q
  ·rw[g8 z]at q;exact S.dom b q
theorem SU.at(S:SU K cl ps A H0 F0 F1 σ H F env):SU K cl ps A H0 F0 F σ H F env:=⟨S.rel,S.pn,S.fz,Same.refl _,S.hid,S.dom⟩
end
def fU(n:Nat)(body:UF)(as:DE):Option DE:=match body (as++List.replicate (n-as.length) .no)with
 | some (.nx e)=>some e
 | some (.dn e)=>some e
 | none=>none
section
variable {K:W.Frag}{cl:Str→Addr}{E:XK}{ps:List Nat}{σ:St}{H F:Hp}{env:DE}
theorem Rel.more{n:Nat}(R:Rel K cl σ H F env):Rel K cl (σ++List.replicate n none) H F (env++List.replicate n .no):=by
 have key:∀(i:Nat) (s:Sl),(env++List.replicate n Sl.no)[i]? = some s→s≠.no→i<env.length∧env[i]? = some s:=fun i s q ns=>by
  by_cases z:i<env.length
  ·rw[List.getElem?_append_left z]at q;exact⟨z,q⟩
  ·rw[List.getElem?_append_right (by omega),List.getElem?_replicate]at q
   split at q
   ·cases q;exact absurd rfl ns
   ·cases q
 have sg:∀i,i<env.length→(σ++List.replicate n none)[i]? = σ[i]?:=fun i h=>List.getElem?_append_left (by rw[R.len];exact h)
 have muo:∀(j:Nat) (fs:List D),((env++List.replicate n Sl.no)[j]? = some (.ow fs)∨(env++List.replicate n Sl.no)[j]? = some (.hd fs))→j<env.length∧(env[j]? = some (.ow fs)∨env[j]? = some (.hd fs)):=fun j fs q=>by
  rcases q with q | q
  ·obtain⟨a,b⟩:=key j _ q (fun z=>by cases z);exact⟨a,.inl b⟩
  ·obtain⟨a,b⟩:=key j _ q (fun z=>by cases z);exact⟨a,.inr b⟩
 refine⟨R.sub,by rw[List.length_append,List.length_append,List.length_replicate,List.length_replicate,R.len],fun i d q=>?_,fun i ds q=>?_,fun i j b ⟨ds,q⟩ ⟨es,q'⟩ e1 e2=>?_,⟨fun i s ks ds q d=>?_,fun i j s t ks ls ds es b q d q' d' e1 e2=>?_⟩⟩
 ·obtain⟨a,b⟩:=key i _ q (fun z=>by cases z)
  rw[sg i a];exact R.fz i d b
 ·obtain⟨a,b⟩:=muo i ds q
  rw[sg i a];exact R.mu i ds b
 ·obtain⟨a,c⟩:=muo i ds q
  obtain⟨a',c'⟩:=muo j es q'
  rw[sg i a]at e1;rw[sg j a']at e2
  exact R.inj i j b ⟨ds,c⟩ ⟨es,c'⟩ e1 e2
 ·obtain⟨a,b⟩:=key i _ q (fun z=>by subst z;exact d)
  rw[sg i a];exact R.od.at_ i s ks ds b d
 ·obtain⟨a,c⟩:=key i _ q (fun z=>by subst z;exact d)
  obtain⟨a',c'⟩:=key j _ q' (fun z=>by subst z;exact d')
  rw[sg i a]at e1;rw[sg j a']at e2
  exact R.od.inj i j s t ks ls ds es b c d c' d' e1 e2
theorem NoOw.more{n:Nat}(h:NoOw env):NoOw (env++List.replicate n .no):=fun i s o q=>by
 by_cases z:i<env.length
 ·rw[List.getElem?_append_left z]at q;exact h i s o q
 ·rw[List.getElem?_append_right (by omega),List.getElem?_replicate]at q
  split at q
  ·cases q;exact o
  ·cases q
end
abbrev UA:=DE→Option (R (List (Sum Nat D)))
def auN:UA:=fun e=>some (.ok [] e)
def auM(i:Nat)(k:UA):UA:=fun e=>match look e i with
 | some (.lst _)=>bnd (k e) fun xs e2=>some (.ok (.inl i::xs) e2)
 | _=>none
def auE(f:ZF)(k:UA):UA:=fun e=>bnd (f e) fun d e1=>bnd (k e1) fun xs e2=>some (.ok (.inr d::xs) e2)
def RpU(K:W.Frag)(cl:Str→Addr)(σ:St)(F:Hp):List (Sum Nat D)→List V→Prop
 | [],vs=>vs=[]
 | .inl i::xs,vs=>∃v r,vs=v::r∧σ[i]? = some (some v)∧RpU K cl σ F xs r
 | .inr d::xs,vs=>∃v r,vs=v::r∧Rp K cl F d v∧RpU K cl σ F xs r
def Y7:List (Sum Nat D)→List Nat
 | []=>[]
 | .inl i::xs=>i::Y7 xs
 | .inr _::xs=>Y7 xs
def a3V:Nat→List (Sum Nat D)→List Nat
 | _,[]=>[]
 | n,.inl _::xs=>n::a3V (n+1) xs
 | n,.inr _::xs=>a3V (n+1) xs
def asU(e:DE):List (Sum Nat D)→Option DE
 | []=>some []
 | .inl i::xs=>(match e[i]?,asU e xs with
  | some (.ow ds),some as=>some (.hd ds::as)
  | _,_=>none)
 | .inr d::xs=>(match asU e xs with
  | some as=>some (.fz d::as)
  | none=>none)
def a1d(e:DE):List (Sum Nat D)→DE→Option DE
 | [],_=>some e
 | .inl i::xs,.hd ds::es=>a1d (e.set i (.ow ds)) xs es
 | .inr _::xs,_::es=>a1d e xs es
 | _,_=>none
def a3W(m:Nat)(ps:List Nat)(g:DE→Option DE)(k:UA):SF:=fun e=>v8 (k e) fun xs e1=>match asU e1 xs with
 | some as=>if(Y7 xs).Nodup∧a3V 0 xs=ps∧xs.length=m then(match g as with
  | some e'=>(match a1d e1 xs e' with
   | some e2=>some (.nx e2)
   | none=>none)
  | none=>none)else none
 | none=>none
section
variable {K:W.Frag}{cl:Str→Addr}{E:XK}{ps:List Nat}{σ:St}{H F:Hp}{env:DE}
theorem RpU.mono{F':Hp}(s:Same F F'):∀{xs:List (Sum Nat D)} {vs:List V},RpU K cl σ F xs vs→RpU K cl σ F' xs vs
 | [],_,h=>h
 | .inl _::_,_,⟨v,r,e,h1,h2⟩=>⟨v,r,e,h1,h2.mono s⟩
 | .inr _::_,_,⟨v,r,e,h1,h2⟩=>⟨v,r,e,Rp.mono s _ _ h1,h2.mono s⟩
theorem RpU.length:∀{xs:List (Sum Nat D)} {vs:List V},RpU K cl σ F xs vs→vs.length=xs.length
 | [],_,h=>by rw[show _=_ from h];rfl
 | .inl _::_,_,⟨v,r,e,_,h2⟩=>by rw[e,List.length_cons,List.length_cons,h2.length]
 | .inr _::_,_,⟨v,r,e,_,h2⟩=>by rw[e,List.length_cons,List.length_cons,h2.length]
end
def a2o(i j k:Nat)(g:List D→Option R1)(f:AF):SF:=fun e=>match f (G2 e)with
 | some (.ok ds _)=>(match g ds with
  | some (.owz [d1,d2,d3])=>if i=j∨i=k∨j=k then none else if noLs d1=true∧noLs d2=true∧noLs d3=true then(match e[i]?,e[j]?,e[k]? with
   | some .no,some .no,some .no=>some (.nx (((e.set i (.ow d1)).set j (.ow d2)).set k (.ow d3)))
   | _,_,_=>none)else none
  | _=>none)
 | _=>none
section
variable {K:W.Frag}{cl:Str→Addr}{E:XK}
def a2p(i j:Nat)(g:List D→Option R1)(f:AF):SF:=fun e=>v8 (f e) fun ds e1=>match g ds with
 | some (.owz [d1,d2])=>if i=j then none else(match e1[i]?,e1[j]? with
  | some .no,some .no=>some (.nx ((e1.set i (.ow d1)).set j (.ow d2)))
  | _,_=>none)
 | _=>none
end
def b2T(P:Program)(w:World)(K:W.Frag)(mg:Str→Option Value)(base:Heap)(k:Nat)(x:Str)(C:Addr)(ps:List Str)(f:Str):Prop :=
 ∃fI fd,MkX K C fI∧FnOk P w K mg base (x9 P w) k fI fd ps (a6k C f)∧Binds K fd ps []∧mg x=some (.ref C)
section
variable {X:Cx}{E:XK}{j k:Nat}
theorem b1u{x f:Str}{C:Addr}{ps:List Str}{e₀:Expr}{k8:List Expr}{np cpos pos:Pos}{ta:TA}(acc:XAcc X E)(G:b2T X.prog X.w X.K X.mg X.base j x C ps f)(hr:Room k X.A)(hk:j+1≤k)(hg:Gl X x)(ha:PA X (e₀::k8) ta)
  (hc:X.calm=true:=by rfl) (hex:X.ex=[]:=by rfl)
  (he:starEach (e₀::k8) X.env=(false,eval e₀ X.env)::starEach k8 X.env:=by rfl) (hplain:(backTo cpos (starEach k8 X.env)).any (·.1)=false:=by rfl) (hd:(x == ("__debug__" : Str))=false:=by decide) :
  PS X (.Raise (some (.Call (.Name x np) (e₀::k8) [] cpos)) none pos) (a6l C f E ta):=by
 obtain⟨fI,fd,M,F,B,m⟩:=G
 exact b07 acc M F (hr.mono hk) B hg m ha hc hex he hplain hd
end
section
variable {K:W.Frag}{cl:Str→Addr}{E:XK}
def N8(c f:Str)(g:AF):SF:=fun e=>v8 (g e) fun ds _=>match ds with
 | [d]=>some (.ex (.v c f d))
 | _=>none
theorem b1v{c f:Str}{t:TA}{g:AF}(hf:T5 K cl E t g):RfS K cl E (a6l (cl c) f E t) (N8 c f g):=by
 intro N σ H env F R h
 refine hf σ H _ env F R ((Cs.bnd h).mono fun xs H1 ⟨F1,e1,ds,fr,R1,p1,h1⟩=>?_)
 split at h1
 ·rename_i d
  have p1:Rps K cl F1 [d] xs:=p1
  obtain⟨v,r,rfl,p,p2⟩:=p1.inv
  rw[p2.inv0]
  refine⟨v,rfl,fun dx nd=>?_⟩
  have gr:Gr H1 F1 (upd H1 dx (.xd [(f,v)])) (upd F1 dx (.xd [(f,v)])):=.new R1.sub nd
  exact h1 _ _ (fr.fx gr.fx) _ ⟨dx,v,rfl,i8,p.mono gr.fz⟩
 ·exact h1.elim
def a0U(xt:Str→Bool)(f:Str):D→Option D
 | .exv c g d=>if xt c=true∧g=f then some d else none
 | _=>none
def b7d(K:W.Frag)(f:Str):V→Hp→VK→Prop:=fun x H1 Q=>∃a C dx y,x=.ref a∧H1 a=some (D2 a (.ref C) (some (2*dx+1)))∧H1 dx=some (.xd [(f,y)])∧W.ExcT K C∧W.hasDictIn K C=true∧W.findIn K (.ref C) f=some none∧Q y H1
theorem b52{xt:Str→Bool}{f:Str}(hf:∀c,xt c=true→W.ExcT K (cl c)∧W.hasDictIn K (cl c)=true∧W.findIn K (.ref (cl c)) f=some none):b2C K cl (b7d K f) (a0U xt f):=by
 intro x d z H F Q s hx h q
 unfold a0U at h
 split at h
 ·rename_i c g d
  split at h
  ·rename_i hc
   obtain⟨hc,rfl⟩:=hc
   cases h
   obtain⟨h1,h2,h3⟩:=hf c hc
   rcases hx with hx | ⟨_,_,_,_,e,_⟩
   ·simp only[Rp]at hx
    obtain⟨a,dx,y,rfl,ha,hd,r⟩:=hx
    exact⟨a,_,dx,y,rfl,s _ _ ha,s _ _ hd,h1,h2,h3,q y H F (.refl s) r⟩
   ·cases e
  ·cases h
 ·cases h
theorem a8s{xt:Str→Bool}{f:Str}{t:TE}{o:ZF}(hf:∀c,xt c=true→W.ExcT K (cl c)∧W.hasDictIn K (cl c)=true∧W.findIn K (.ref (cl c)) f=some none)(ho:t5 K cl E t o):t5 K cl E (b5I K t f) (eU (a0U xt f) o):=b5K (b52 hf) ho
theorem b2U{C:Addr}{f:Str}{vs:List V}{H:Hp}{Q:VK}{E:XK}(h:a6k C f vs H Q E):vs.length=2:=by
 obtain⟨a,v,rfl,_⟩:=h
 rfl
theorem a8O{N:List Str}{C:Addr}{f:Str}{vs:List V}{H:Hp}{Q:VK}(S:W.ExcS K C f)(h:a6k C f vs H Q E):(sXF K (O4 0) (O4 1) f) { nx:=fun _ H'=>Q .non H',rt:=Q } (start N vs) H:=by
 obtain⟨a,v,rfl,hp,q⟩:=h
 exact⟨v,rfl,.ref a,rfl,a,C,rfl,hp,S,q⟩
end
section
variable {K:W.Frag}{cl:Str→Addr}{E:XK}
def a3X(f:ZF):ZF:=fun e=>bnd (f e) fun d e1=>match d with
 | .str z=>if z.length≤1000 then some (.ok (.str (Txt.upper z)) e1)else none
 | _=>none
def a5W(d e:D):Option D:=match d,e with
 | .str z,.int n=>if z.length≤1000∧-1000000000≤n∧n≤10000 then some (.str (b64 z n))else none
 | _,_=>none
end
section
variable {X:Cx}
def b3C(sp:Sp)(t:TA)(i:Nat)(th:TH):TS:=fun D σ H=>∃Eh:XK,a0Z sp [] Eh t σ H (fun v H2=>D.nx (σ.set i (some v)) H2)∧∀cls cx H',Eh cls cx H'→∀a,H' a=none→th cls cx a D σ H'
theorem b4s{k k' i:Nat}{ps:List Str}{sp:Sp}{x y:Str}{p cpos epos py:Pos}{e:Expr}{es:List Expr}{t:TA}{h₀:ExceptHandler}{hs:List ExceptHandler}{pos:Pos}{th:TH}
  (G:Own X.prog X.w X.K X.mg X.base k x ps sp) (hr:Room k' X.A) (hk:k≤k') (hN:X.N.Nodup) (hi:X.N[i]? = some y) (hy:Loc X.env.scope y) (ha:∀(E2:Value→Shared→Prop) (pins:List (Addr×Obj)),PA (X.tryCx E2 pins) (e::es) t) (hh:PH X (h₀::hs) th) (hg:Gl X x:=by rfl)
  (hdb:(x == ("__debug__" : Str))=false:=by decide) (he:starEach (e::es) X.env=(false,eval e X.env)::starEach es X.env:=by rfl) (hpl:(backTo cpos (starEach es X.env)).any (·.1)=false:=by rfl)
  (hsw:swapsWith (.Call (.Name x p) (e::es) [] cpos) (some (.Name y py)) epos.line X.env=pure false:=by rfl) (hfn:X.fn y=true∨X.env.scope.names.lookup y=some .local:=by first | exact .inl rfl | exact .inr rfl | assumption)
  (hst:X.stack=X.env::X.outer:=by rfl) (hf:X.env.frame=some X.env.locals:=by rfl) (hex:X.ex=[]:=by rfl) :
  PS X (.Try [.Assign [.Name y py] (.Call (.Name x p) (e::es) [] cpos) epos] (h₀::hs) [] [] pos) (b3C sp t i th):=by
 intro pins s σ H D I h
 obtain⟨Eh,h1,h2⟩:=h
 refine wpAny_Try_except ?_
 have ok:=I.ok
 have acc:XAccAt (X.tryCx (fun e s₁=>wpAny (model X.prog X.w) X.A (noteFrame e X.env) (fun _ s₂=>wpAny (model X.prog X.w) X.A (setFlight e none) (fun _ s₃ =>
   wpAny (model X.prog X.w) X.A (handleBy e X.env (h₀::hs)) (SP X pins D) X.xe s₃) X.xe s₂) X.xe s₁) pins) σ Eh:=by
  intro pins' H' s1 a cls cx B ph I1 x1 hE
  have I2:Inv X pins σ H' s1:=I1.ofTry ok
  have x2:XAt X pins H' s1 a cls cx B ph:=⟨x1.free,x1.stays,x1.fresh,x1.frames,fun b o e i n=>x1.cov b o e (i.elim .inl fun z=>.inr (z.elim .inl fun⟨p,hp,q⟩=>.inr ⟨p,List.mem_append_left _ hp,q⟩)) n,x1.tr⟩
  refine a6b ok.frames hst rfl hf I2 x2 fun h3 I3 x3=>?_
  refine a6c I3 x3 (fun z=>nomatch z) fun h4 I4 x4=>?_
  exact hh pins _ _ _ a cls cx B D I4 x4 (h2 cls cx H' hE a x4.free)
 have It:=I.toTry (pins:=pins) (E2:=fun e s₁=>wpAny (model X.prog X.w) X.A (noteFrame e X.env) (fun _ s₂=>wpAny (model X.prog X.w) X.A (setFlight e none) (fun _ s₃ =>
   wpAny (model X.prog X.w) X.A (handleBy e X.env (h₀::hs)) (SP X pins D) X.xe s₃) X.xe s₂) X.xe s₁)
 refine wpAny_mono (wpAny_execs_cons (Q:=fun f s1=>f=.next∧∃σ' H',Inv X pins σ' H' s1∧D.nx σ' H') (wpAny_Assign_Name (l3 (b36 (X:=X.tryCx _ pins) G hr hk acc (ha _ pins) hg hdb he hpl It h1) fun v s1 ⟨x,H1,I1,r1,q1⟩=>?_) hsw)) (fun f s1 q=>?_) fun e s1 q=>q
 ·exact a2t (X:=X.tryCx _ pins) I1 hN hi hy r1 (fun s2 I2=>wpAny_execs_nil ⟨rfl,_,H1,I2.ofTry ok,q1⟩) hfn
 ·obtain⟨rfl,σ',H',I',q⟩:=q
  exact wpAny_execs_nil ⟨σ',H',I',q⟩
end
section
variable {K:W.Frag}{cl:Str→Addr}{E:XK}
def a0b(i:Nat)(g:List D→Option R1)(f:AF)(fh:HF):SF:=fun e=>match f e with
 | some (.ok ds e1)=>(match g ds with
  | some (.ret d)=>P6 i (some (.ret d)) e1
  | some (.own d)=>P6 i (some (.own d)) e1
  | some (.ex c)=>fh c e1
  | _=>none)
 | _=>none
theorem b4t{i:Nat}{g:List D→Option R1}{t:TA}{f:AF}{th:TH}{fh:HF}(hf:T5 K cl E t f)(hh:RfH K cl E th fh):RfS K cl E (b3C (l5 K cl g) t i th) (a0b i g f fh):=by
 intro N σ H env F R h
 unfold a0b at h
 split at h
 ·rename_i ds e1 q
  refine⟨fun cls cx H'=>∃c H1 F1 F',cls=.ref (cl c.nm)∧Xf K cl F' c cx∧g ds=some (.ex c)∧Frm σ H F env σ H1 F1 e1∧Rel K cl σ H1 F1 e1∧Gr H1 F1 H' F',?_,?_⟩
  ·refine hf σ H _ env F R ?_
   rw[q]
   intro vs H1 F1 fr R1 p1
   show l5 K cl g (vs++[]) H1 _ _
   rw[List.append_nil]
   refine⟨ds,F1,R1.sub,p1,?_⟩
   split at h
   ·rename_i d q1;rw[q1]
    unfold P6 at h
    obtain⟨hi,nh,h2⟩:=Z2 h
    exact fun v H' F' gr r=>h2 _ H' F' ((fr.trans (R1.frm gr)).trans (Frm.put nh)) ((R1.gr gr).put hi nh r)
   ·rename_i d q1;rw[q1]
    unfold P6 at h
    obtain⟨hi,nh,h2⟩:=Z2 h
    intro a xs H' F' gr ha hH hF r
    refine h2 _ H' F' ((fr.trans (R1.frm gr)).putO (fr.dom a ha) nh) ((R1.gr gr).putO hi hH hF (fun j mj e=>?_) r)
    obtain⟨es,q⟩:=mj
    obtain⟨b,ys,e',hb,_⟩:=R1.mu j es q
    rw[e]at e';cases e'
    rw[ha]at hb;cases hb
   ·rename_i c q1;rw[q1]
    exact fun H' F' gr cx e=>⟨c,H1,F1,F',rfl,e,rfl,fr,R1,gr⟩
   ·exact h.elim
  ·rintro cls cx H' ⟨c,H1,F1,F',rfl,xf,q1,fr,R1,gr⟩ a ha
   rw[q1]at h
   exact hh N σ H' e1 F' a c cx (R1.gr gr) ha xf (Cs.from (fr.trans (R1.frm gr)) h)
 ·exact h.elim
end
def b7e:Sl→Bool
 | .no=>true
 | .fz _=>true
 | _=>false
def okW(r:Nat)(e:DE):Bool:=e.all b7e && (match e[r]? with
 | some .no=>true
 | _=>false)
structure DSt(K:W.Frag)(cl:Str→Addr)(H F:Hp)(B:Addr)(as:List Addr)(dss:List (List D))(H' F':Hp):Prop where
 gr:Gr H F H' F'
 atB:H' B=some (.lst (as.map V.ref))
 unB:F' B=none
 len:dss.length=as.length
 ins:∀(k:Nat) (a:Addr),as[k]? = some a→∃ds zs,dss[k]? = some ds∧H' a=some (.lst zs)∧F' a=none∧Rps K cl F' ds zs
structure Fx(H:Hp)(B:Addr)(as:List Addr):Prop where
 hB:H B=none
 nd:as.Nodup
 nw:∀a∈as,H a=none∧a≠B
section
variable {K:W.Frag}{cl:Str→Addr}{E:XK}{σ:St}{H F H0 F0 H' F' H2 F2:Hp}{env:DE}{B:Addr}{as:List Addr}{dss:List (List D)}{r k:Nat}
theorem DSt.to(s:DSt K cl H0 F0 B as dss H F)(g:Gr H F H2 F2):DSt K cl H0 F0 B as dss H2 F2 :=
 ⟨s.gr.trans g,(g.hid B _ s.atB s.unB).1,(g.hid B _ s.atB s.unB).2,s.len,fun k a h=>by
  obtain⟨ds,zs,h1,h2,h3,h4⟩:=s.ins k a h
  exact⟨ds,zs,h1,(g.hid a _ h2 h3).1,(g.hid a _ h2 h3).2,h4.mono g.fz⟩⟩
theorem DSt.put{j n:Nat}{a:Addr}{ds:List D}{d:D}{v:V}(s:DSt K cl H0 F0 B as dss H F)(fx:Fx H0 B as)(hj:as[j]? = some a)(hd:dss[j]? = some ds)(p:Rp K cl F d v) :
  ∃zs,H a=some (.lst zs)∧F a=none∧ds.length=zs.length∧DSt K cl H0 F0 B as (dss.set j (ds.set n d)) (upd H a (.lst (zs.set n v))) F:=by
 obtain⟨ds',zs,h1,h2,h3,h4⟩:=s.ins j a hj
 rw[hd]at h1;cases h1
 obtain⟨aH,aB⟩:=fx.nw a (List.mem_of_getElem? hj)
 refine⟨zs,h2,h3,h4.length,⟨⟨s.gr.fz,fun b o hb=>?_,fun b o hb fb=>?_⟩,by rw[g8 (Ne.symm aB)];exact s.atB,s.unB,by rw[List.length_set];exact s.len,fun m b hb=>?_⟩⟩
 ·rw[g8 (fun z=>by rw[z,h3]at hb;cases hb)];exact s.gr.sub _ _ hb
 ·rw[g8 (fun z=>by rw[z,aH]at hb;cases hb)];exact s.gr.hid b o hb fb
 ·by_cases z:m=j
  ·subst z
   rw[hj]at hb;cases hb
   exact⟨_,_,List.getElem?_set_self (List.getElem?_eq_some_iff.mp hd).1,i8,h3,h4.set p n⟩
  ·obtain⟨d2,z2,k1,k2,k3,k4⟩:=s.ins m b hb
   have ne:b≠a:=fun e=>z (by
    obtain⟨hm,em⟩:=List.getElem?_eq_some_iff.mp hb
    obtain⟨hj',ej⟩:=List.getElem?_eq_some_iff.mp hj
    exact(List.getElem_inj fx.nd).mp (em.trans (e.trans ej.symm)))
   exact⟨d2,z2,by rw[List.getElem?_set_ne (Ne.symm z)];exact k1,by rw[g8 ne];exact k2,k3,k4⟩
end
theorem b4u{a e:Addr}(h:a≠e):(Value.ref a != Value.ref e)=true:=by
 have:Value.ref a≠Value.ref e:=fun z=>h (by cases z;rfl)
 simp[this]
theorem a5X{prog:Program}{w:World}{A:Around}{E:Value→Shared→Prop}{s:Shared}{it t a:Addr}{i:Nat}{items:Array Value}{oa:Obj}{va:Array Value}{Q:Option Value→Shared→Prop}(hh:A.handled=some (.ref a))(ga:s.heap.get? a=some oa)(da:oa.data=.fields va)(za:va[2]? = some .none)(hai:a≠it)
  (hit:s.heap.IsTupleIter it t i) (ht:s.heap.IsTuple t items) (hx:items[i]? = none)
  (hQ:∀h',Heap.ExtBut it s.heap h'→Q none { s with heap:=h' }):wpAny (model prog w) A (pyNext (.ref it)) Q E s:=by
 obtain⟨o,ho,hc,hd⟩:=id hit
 obtain⟨ol,hol,_,nl,hdl⟩:=ht
 unfold pyNext
 refine wpAny_bind (wpAny_attempt (wpAny_callSpecial?_slot (name:=Str.ofString "__next__") hit.typeIs PySem.F.slot_tuple_iterator_next
  (wpAny_call_entry PySem.F.slot_tuple_iterator_next hit.typeIs PySem.F.entry_tuple_iterator_next ?_ (PySem.F.args_tuple_iterator_next_1 _))))
 show wpAny _ _ (field (.ref it) 0 >>= _) _ _ s
 refine wpAny_bind (wpAny_field ho hd (x:=.ref t) rfl ?_)
 show wpAny _ _ (if(Value.ref t == Value.none)=true then _ else _) _ _ s
 rw[if_neg (show ¬((Value.ref t == Value.none)=true)from Bool.false_ne_true)]
 show wpAny _ _ (field (.ref it) 1 >>= _) _ _ s
 refine wpAny_bind (wpAny_field ho hd (x:=.int i 0) rfl ?_)
 show wpAny _ _ (seqItems? (.ref t) >>= _) _ _ s
 refine wpAny_bind (wpAny_seqItems hol hdl ?_)
 simp only[Int.toNat_natCast,hx]
 refine wpAny_bind (wpAny_rule (wpAny_bind (wpAny_setField ho hd (by simp) ?_)))
 show wpAny _ _ (newExc (.type "StopIteration") [] >>= _) _ _ _
 refine wpAny_bind ?_
 simp only[newExc,newTuple]
 refine wpAny_bind (wpAny_newObj_type ?_ (by size_fits))
 refine wpAny_bind (m:=firstArgMember _ _) (wpAny_of_eq (a:=Value.none) (by first | rfl | (simp only[firstArgMember];rfl)) ?_)
 refine wpAny_newObj_type ?_ (by size_fits)
 simp only[raiseNew]
 refine wpAny_bind (wpAny_handled ?_)
 first | rw[show A.in1.handled=some (.ref a)from hh] | rw[hh]
 dsimp only
 have ext:=((Heap.SameBut.update s.heap it (Obj.mapFields fun x=>x.setIfInBounds 0 Value.none)).extBut.push { cls:=Value.type "tuple",data:=Data.seq #[] })
 have alt:∀b o,s.heap.get? b=some o→b<((s.heap.update it (Obj.mapFields fun x=>x.setIfInBounds 0 Value.none)).push { cls:=Value.type "tuple",data:=Data.seq #[] }).objs.size:=fun b o hb=>by
  by_cases z:b=it
  ·subst z
   have:=Heap.lt_size (Heap.get?_push_of_some { cls:=Value.type "tuple",data:=Data.seq #[] } (Heap.get?_update_self (Obj.mapFields fun x=>x.setIfInBounds 0 Value.none) ho (Obj.isFreed_of_fields (Obj.data_mapFields hd _))))
   exact this
  ·exact Heap.lt_size (ext b o z hb)
 have ne:a≠((s.heap.update it (Obj.mapFields fun x=>x.setIfInBounds 0 Value.none)).push { cls:=Value.type "tuple",data:=Data.seq #[] }).objs.size:=Nat.ne_of_lt (alt a oa ga)
 have nb:=b4u ne
 rw[if_pos nb]
 have g3:=Heap.get?_push_of_some { cls:=Value.type "StopIteration",data:=Data.fields (#[Value.ref (s.heap.update it (Obj.mapFields fun x=>x.setIfInBounds 0 Value.none)).objs.size,Value.none,Value.none,Value.none,Value.bool false,Value.none]++ownMembersOf (Value.type "StopIteration") []) } (ext a oa hai ga)
 refine wpAny_bind (wpAny_holding (a7v g3 da za ?_))
 refine wpAny_bind (wpAny_setField (a:=((s.heap.update it (Obj.mapFields fun x=>x.setIfInBounds 0 Value.none)).push { cls:=Value.type "tuple",data:=Data.seq #[] }).objs.size) (Heap.get?_push_size _ rfl) rfl (by rw[Array.size_append];exact Nat.lt_of_lt_of_le (show 2<6 by decide) (Nat.le_add_right _ _)) (wpAny_throw ?_))
 refine wpAny_bind (wpAny_isInstance (T := "StopIteration") (b:=true) ⟨_,Heap.get?_update_self _ (Heap.get?_push_size _ rfl) (Obj.isFreed_of_fields (Obj.data_mapFields rfl _)),Obj.cls_mapFields ..⟩ isSubtype_stop ?_)
 refine wpAny_pure (hQ _ fun b o hb hg=>?_)
 rw[Heap.get?_update_other _ _ (Ne.symm (Nat.ne_of_lt (alt b o hg)))]
 exact Heap.get?_push_of_some _ (ext b o hb hg)
section
variable {X:Cx}{tg:Expr}
def b3D(K:PySem.W.Frag)(b:Addr)(te:TE)(g:TG)(tb:TS):TS:=fun D σ H=>te σ H fun x H1=>∃t,x=.ref t∧(∃xs,SqT K H1 t xs)∧∃W:Nat→Nat→St→Hp→Prop,(∃m,W 0 m σ H1)∧∀i m σ H,W i m σ H →
 ((Itt K t).stop i H∧(∃cls cx,H b=some (D2 b cls cx)∧a0m cx=.none)∧D.nx σ H)∨((Itt K t).go i H∧∃N:St→Hp→Prop,(∀σ' H',N σ' H'→∃m',m'<m∧W (i+1) m' σ' H')∧∀x H',(Itt K t).yld i H x H'→g x σ H' fun σ2 H2=>tb { D with nx:=N,ct:=N,bk:=D.nx } σ2 H2)
theorem b4v{iter:Expr}{body:List Stmt}{te:TE}{g:TG}{tb:TS}{pos:Pos}{b:Addr}(hp:PassesOwn (model X.prog X.w) X.A X.env X.xe)(hh:X.A.handled=some (.ref b))(hi:PE X iter te)(hg:PG X tg g)(hb:PSs X body tb)
  (hs:∀x,foldedSetIterable iter X.env x=pure x:=by intro _;rfl):PS X (.For tg iter body [] pos) (b3D X.K b te g tb):=by
 intro pins s σ H D I h
 refine wpAny_For (l3 (hi pins s σ H _ I h) fun v s1 ⟨x,H1,I1,r1,q1⟩=>?_) hs
 obtain⟨t,e,⟨xs0,hq0⟩,W,⟨m0,w0⟩,turn⟩:=q1
 subst e
 cases r1
 obtain⟨its0,rv0,p0,hz0⟩:=I1.tuple hq0
 refine wpAny_pyIter_tuple (show s1.heap.IsTuple t its0.toArray from p0) ?_
 obtain⟨it,hit⟩:∃it,it=s1.heap.objs.size:=⟨_,rfl⟩
 rw[← hit]
 obtain⟨fp,hfp⟩:∃fp:List Addr,fp=[it]:=⟨_,rfl⟩
 obtain⟨tn,htn⟩:∃tn:Nat→Heap→Prop,tn=fun i h=>h.IsTupleIter it t i:=⟨_,rfl⟩
 have T:=a45 (P:=X.prog) (w:=X.w) (K:=X.K) (tg:=tg) t it
 have I2:Inv X pins σ H1 { s1 with heap:=s1.heap.push { cls:=.type "tuple_iterator",data:=.fields #[.ref t,.int 0 0] } }:=I1.kept (t':=s1.toks) fun c o e=>Heap.get?_push_of_some _ e
 have f2:∀c∈fp,FpOk X pins H1 c:=fun c hc=>by
  subst hfp
  have e:c=s1.heap.objs.size:=by rw[← hit];simpa using hc
  subst e
  exact I1.fpOk (Nat.le_refl _) (I1.hok.fresh (Nat.le_refl _))
 have stat:∀{H':Hp},(∀c∈fp,H' c=none)→∀c∈fp,FpOk X pins H' c:=fun hn c hc=>⟨hn c hc,(f2 c hc).2⟩
 have st2:tn 0 (s1.heap.push { cls:=.type "tuple_iterator",data:=.fields #[.ref t,.int 0 0] }):=by
  subst htn hit
  exact⟨_,Heap.get?_push_size _ rfl,rfl,rfl⟩
 subst htn hfp
 refine codeAny_forLoop_any (fun n s'=>∃i σ' H',Inv X pins σ' H' s'∧s'.heap.IsTupleIter it t i∧(∀c∈[it],H' c=none)∧W i n σ' H') ?_ m0 ⟨0,σ,H1,I2,st2,fun c hc=>(f2 c hc).1,w0⟩
 rintro n s3 ⟨i,σ3,H3,I3,st3,fr3,w3⟩
 rcases turn i n σ3 H3 w3 with sq | ⟨go,N,hN,step⟩
 ·obtain⟨stop,⟨cls,cx,hb3,hcx⟩,qn⟩:=sq
  obtain⟨xs,hq,hx⟩:=stop
  obtain⟨its,rv,p,hz⟩:=I3.tuple hq
  obtain⟨f0,f1,f2',f3,f4,f5⟩:=stat fr3 it (by simp)
  obtain⟨⟨oa,va,ga,_,da,za,_⟩,_⟩:=(show ObjOk X.prog X.w H3 s3.heap b (D2 b cls cx)from I3.hok b _ hb3)
  have hl:=rv.length
  refine wpAny_passesOwn hp (a5X hh ga da (by rw[za,hcx]) (fun z=>by rw[z,f0]at hb3;cases hb3) st3 (show s3.heap.IsTuple t its.toArray from p) (by simp;omega) fun h' eb=>?_)
  exact wpAny_execs_nil ⟨σ3,H3,I3.turned (t':=s3.toks) (fun c o hc e=>eb c o hc e) f0 f1 f3 f4 f5,qn⟩
 ·have itm:wpAny (model X.prog X.w) X.A (pyNext (.ref it)) (fun r s1=>∃u,r=some u∧wpAny (model X.prog X.w) X.A (letOwnedTupleGo tg (.ref it) u) (fun _ s2=>∃x H',Inv X pins σ3 H' s2∧RelV x u∧(Itt X.K t).yld i H3 x H'∧s2.heap.IsTupleIter it t (i+1)∧∀c∈[it],H' c=none) X.xe s1) X.xe s3:=by
   obtain⟨xs,x,hq,hx⟩:=go
   obtain⟨its,rv,p,hz⟩:=I3.tuple hq
   obtain⟨u,hu,ru⟩:=rv.get hx
   obtain⟨f0,f1,f2',f3,f4,f5⟩:=stat fr3 it (by simp)
   refine wpAny_pyNext_tuple_item st3 (show s3.heap.IsTuple t its.toArray from p) (x:=u) (by simpa using hu) fun h' st' sb=>?_
   have I1:Inv X pins σ3 H3 { s3 with heap:=h' }:=I3.turned (t':=s3.toks) (fun c o hc e=>(sb.2 c hc).trans e) f0 f1 f3 f4 f5
   obtain⟨o,e,c,d⟩:=id st'
   exact⟨u,rfl,a30 (s:={ s3 with heap:=h' }) e c d (by decide) ⟨x,H3,I1,ru,⟨rfl,fun ys hy=>by rw[I3.tuple_inj hy hq];exact hx⟩,st',fr3⟩⟩
  refine wpAny_passesOwn hp (l3 itm fun r s4 ⟨u,hr,h4⟩=>?_)
  subst hr
  refine wpAny_passesOwn hp (l3 h4 fun _ s5 ⟨x,H5,I5,r5,y5,st5,fr5⟩=>?_)
  have I5':=I5.pinned (stat fr5) (T.obj _ _ st5)
  refine wpAny_passesOwn hp (l3 (hg _ s5 σ3 H5 x u _ I5' r5 (step x H5 y5)) fun _ s6 ⟨σ6,H6,I6,q6⟩=>?_)
  refine wpAny_passesOwn hp (l3 (hb _ s6 σ6 H6 _ I6 q6) fun f s7 q7=>?_)
  have again:∀{σ7:St} {H7:Hp},Inv X (pins++a1p [it] s5.heap) σ7 H7 s7→N σ7 H7→∃m,m<n∧∃i σ' H',Inv X pins σ' H' s7∧s7.heap.IsTupleIter it t i∧(∀c∈[it],H' c=none)∧W i m σ' H':=fun{σ7 H7} I7 n7=>by
   obtain⟨m',hm,w7⟩:=hN σ7 H7 n7
   refine⟨m',hm,i+1,σ7,H7,I7.unpinned,T.keep _ _ _ st5 fun b hb o e=>(I7.pin (b,o) (List.mem_append_right _ (List.mem_append_right _ (N1 hb e)))).1,fun b hb=>?_,w7⟩
   obtain⟨o,e,d⟩:=T.obj _ _ st5 b hb
   exact(I7.pin (b,o) (List.mem_append_right _ (List.mem_append_right _ (N1 hb e)))).2.1
  cases f with
  | next=>obtain⟨σ7,H7,I7,n7⟩:=q7;exact again I7 n7
  | cont=>obtain⟨σ7,H7,I7,n7⟩:=q7;exact again I7 n7
  | brk=>obtain⟨σ7,H7,I7,q7⟩:=q7;exact⟨σ7,H7,I7.unpinned,q7⟩
  | ret v=>obtain⟨x7,σ7,H7,I7,r7,q7⟩:=q7;exact⟨x7,σ7,H7,I7.unpinned,r7,q7⟩
end
structure FnOkH(P:Program)(w:World)(K:W.Frag)(mg:Str→Option Value)(base:Heap)(k:Nat)(b:Addr)(f:Addr)(fd:FuncData)(ps:List Str)(sp:Sp):Prop where
 len:∀vs H Q E,sp vs H Q E→vs.length=ps.length
 run:∀(A:Around) (outer:List Env) (s:Shared) (H:Hp) (args:Args) (us:List Value) (vs:List V) (Q:VK),RoomW k A→A.handled=some (.ref b)→Env0 P w K mg base A outer s H→BindsTo s fd args (ps.zip us)→Vals vs us→sp vs H Q E0 →
  codeAny (model P w) A (.call (.ref f) args) (CR CX0 outer P w H s Q E0) s
section
variable {P:Program}{w:World}{K:W.Frag}{mg:Str→Option Value}{base:Heap}
theorem Fun.okH{x qual:Str}{st:Stmt}{f:Addr}{fd:FuncData}{N ps:List Str}{k:Nat}{b:Addr}{sp:Sp}(F:Fun K x qual st f fd)(S:FnScope N ps (d6 st))(len:∀vs H Q E,sp vs H Q E→vs.length=ps.length)
  (hbody:∀(cdv:Value) (A:Around) (outer:List Env) (s:Shared) (H:Hp) (vs:List V) (Q:VK),RoomW k (A.deeper (envOfC qual (d6 st) s.heap.objs.size f cdv))→(A.deeper (envOfC qual (d6 st) s.heap.objs.size f cdv)).handled=some (.ref b)→sp vs H Q E0 →
   ∃t,PSs (a01 P w K mg base N qual (d6 st) f cdv A outer s H) (k7 st) t∧t { nx:=fun _ H'=>Q .non H',rt:=Q } (start N vs) H):FnOkH P w K mg base (k+1) b f fd ps sp:=by
 obtain⟨oc,od,kV,doc,pm,an,cdv,ct,osl,rfl,lk,hcd⟩:=F.ex
 refine⟨len,fun A outer s H args us vs Q hr hh e0 hb r hsp=>?_⟩
 have hl:=len _ _ _ _ hsp
 have KX:K.In s.heap:=e0.mod.kin.keeps fun c o e=>(e0.bs c o e).1
 have lim:s.heap.NoLimit:=e0.mod.nolimit.keeps fun c o e=>(e0.bs c o e).1
 have hkind:∀y∈ps.zip us,(d6 st).names.lookup y.1=some .local∨((d6 st).names.lookup y.1=some .cell∧((cellsFrom (s.heap.objs.size+1) (d6 st).names []).lookup y.1).isSome=true):=fun⟨n,v⟩ hy=>by
  rcases S.par n (List.of_mem_zip hy).1 with q | q
  ·exact .inl q
  ·exact .inr ⟨q,W.cellsFrom_some _ _ _ (.inl q)⟩
 refine codeAny_call_function (by have:=hr.dp;omega) (KX _ _ lk) rfl S.co S.gen rfl (W.codeRec_of KX hcd) (hb _ _ _ _ ?_)
 refine wpAny_newFunctionEnv_cells S.kind hkind fun env he s1 x=>?_
 subst he
 refine⟨lim.keeps x.toInCall.keep,codeAny_func ?_⟩
 obtain⟨t,ht,hq⟩:=hbody cdv A outer s H vs Q (hr.deeper _) hh hsp
 have I:=a5b S e0 hl r x
 refine wpAny_mono (ht [] s1 (start N vs) H _ I hq) (fun fl s' hs=>?_) fun e s' hs=>hs.elim
 have fin:∀{σ':St} {H':Hp} {v:V} {u:Value},Inv (a01 P w K mg base N qual (d6 st) f cdv A outer s H) [] σ' H' s'→RelV v u→Q v H'→CE outer P w H s Q u s' :=
  fun{σ' H' v u} J rv q=>⟨v,H',J.os,J.bare,J.base,J.hok,rv,q⟩
 cases fl with
 | ret u =>
  obtain⟨v,σ',H',J,rv,q⟩:=hs
  exact fin J rv q
 | next =>
  obtain⟨σ',H',J,q⟩:=hs
  exact fin (v:=V.non) (u:=Value.none) J rfl q
 | brk =>
  obtain⟨_,_,_,q⟩:=hs
  exact False.elim q
 | cont =>
  obtain⟨_,_,_,q⟩:=hs
  exact False.elim q
end
section
variable {X:Cx}{k:Nat}{b f:Addr}{fd:FuncData}{ps:List Str}{sp:Sp}{x:Str}{p pos:Pos}{e:Expr}{es:List Expr}{t:TA}
theorem b2V(F:FnOkH X.prog X.w X.K X.mg X.base k b f fd ps sp)(hr:RoomW k X.A)(hh:X.A.handled=some (.ref b))(hg:Gl X x)(hm:X.mg x=some (.ref f))(hk:W.keepIn X.K (.ref f)=true)(hb:Binds X.K fd ps [])
  (ha:PA X (e::es) t) (hdb:(x == ("__debug__" : Str))=false:=by decide) (he:starEach (e::es) X.env=(false,eval e X.env)::starEach es X.env:=by rfl) (hp:(backTo pos (starEach es X.env)).any (·.1)=false:=by rfl) :
  PE X (.Call (.Name x p) (e::es) [] pos) (a1r sp t):=by
 intro pins s σ H Q I hq
 refine wpAny_Call_Name_kw (Q8 I hg hm ?_ hdb)
 refine W.callWith_K (h₀:=X.base) I.ok.mod.kin hk (l3 (ha pos pins s σ H _ I hq) fun us s1 ⟨vs,H1,I1,r,q⟩=>⟨I1.kIn,?_⟩) he hp
 have hl:us.length=ps.length:=by rw[← r.length];exact F.len _ _ _ _ q
 have hl':(us++([]:List Value)).length=ps.length:=by rw[List.append_nil];exact hl
 refine wpAny_call (codeAny_mono (F.run X.A X.stack s1 H1 ⟨us,[]⟩ us vs Q hr hh I1.env0 (by have:=hb s1 us I1.kIn hl';rw[List.append_nil]at this;exact this) r q) fun r s' hq=>?_)
 cases r with
 | error e=>exact False.elim hq
 | ok fl =>
  cases fl with
  | ret u=>exact I1.after hq
  | next=>exact False.elim hq
  | brk=>exact False.elim hq
  | cont=>exact False.elim hq
end
def HasX(b:Addr)(F:Hp):Prop:=∃cls cx,F b=some (D2 b cls cx)∧a0m cx=.none
theorem HasX.mono{b:Addr}{F F':Hp}(h:HasX b F)(s:Same F F'):HasX b F':=by
 obtain⟨cls,cx,h1,h2⟩:=h
 exact⟨cls,cx,s _ _ h1,h2⟩
section
variable {K:W.Frag}{cl:Str→Addr}{E:XK}{σ:St}{H F:Hp}{env:DE}{k:Nat}{b:Addr}
def a2R(b:Addr)(K:W.Frag)(cl:Str→Addr)(E:XK)(t:TS)(f:SF):Prop:=∀(N:Ends) σ H env F,HasX b F→Rel K cl σ H F env→Cs K cl E (f env) σ H F env N→t N σ H
theorem a3Y{t:TS}{f:SF}(h:RfS K cl E t f):a2R b K cl E t f:=fun N σ H env F _ R c=>h N σ H env F R c
theorem a2q{t u:TS}{f k:SF}(hf:a2R b K cl E t f)(hk:a2R b K cl E u k):a2R b K cl E (b1V t u) (f9 f k):=by
 intro N σ H env F hx R h
 refine hf _ σ H env F hx R ?_
 unfold f9 at h
 split at h
 ·rename_i e1 q
  rw[q]
  intro σ' H' F' fr R'
  exact hk N σ' H' e1 F' (hx.mono fr.fz) R' (h.from fr)
 ·rename_i n
  unfold Cs at h ⊢
  split at h
  ·exact h
  ·rename_i e q;exact absurd q (n e)
  all_goals exact h
theorem b6D{bb:GF}{body:SF}{g:TG}{tb:TS}{ds:List D}{xs:List V}{a:Addr}{N:Ends}(hx:HasX b F)(hb:RfS K cl E tb body)(hg:G7 K cl k g bb)(R:Rel K cl σ H F env)
  (hl:∀σ' H' F' e',Frm σ H F env σ' H' F' e'→Rel K cl σ' H' F' e'→SqT K H' a xs) (r:Rps K cl F ds xs) (h:Cs K cl E (l9 bb body ds env) σ H F env N) :
  ∃W:Nat→Nat→St→Hp→Prop,(∃m,W 0 m σ H)∧∀i m σ H,W i m σ H →
   ((Itt K a).stop i H∧(∃cls cx,H b=some (D2 b cls cx)∧a0m cx=.none)∧N.nx σ H)∨((Itt K a).go i H∧∃M:St→Hp→Prop,(∀σ' H',M σ' H'→∃m',m'<m∧W (i+1) m' σ' H')∧∀x H',(Itt K a).yld i H x H'→g x σ H' fun σ2 H2=>tb { N with nx:=M,ct:=M,bk:=N.nx } σ2 H2):=by
 refine⟨fun i m σ' H'=>m=xs.length-i∧i≤xs.length∧∃F' e',Frm σ H F env σ' H' F' e'∧Rel K cl σ' H' F' e'∧Cs K cl E (l9 bb body (ds.drop i) e') σ H F env N,⟨xs.length,by simp,Nat.zero_le _,F,env,Frm.refl,R,h⟩,?_⟩
 rintro i m σ' H' ⟨rfl,hi,F',e',f,R',h'⟩
 have q:=hl σ' H' F' e' f R'
 by_cases hlt:i<xs.length
 ·refine .inr ⟨⟨xs,xs[i],q,by simp[hlt]⟩,fun σ2 H2=>∃F2 e2,Frm σ H F env σ2 H2 F2 e2∧Rel K cl σ2 H2 F2 e2∧Cs K cl E (l9 bb body (ds.drop (i+1)) e2) σ H F env N,fun σ2 H2 p=>⟨xs.length-(i+1),by omega,rfl,hlt,p⟩,fun x H'' y=>?_⟩
  obtain⟨e,y⟩:=y
  subst e
  have hxx:=y xs q
  obtain⟨d,hd,p⟩:=r.get' hxx
  rw[D9 hd]at h'
  exact Q2 hb hg f R' (Rp.mono f.fz _ _ p) h' fun σ2 H2 F2 e2 f2 R2 h2=>⟨F2,e2,f2,R2,h2⟩
 ·have e:i=xs.length:=by omega
  subst e
  rw[← r.length,List.drop_length]at h'
  obtain⟨cls,cx,h1,h2⟩:=hx
  exact .inl ⟨⟨xs,q,Nat.le_refl _⟩,⟨cls,cx,R'.sub _ _ (f.fz _ _ h1),h2⟩,h' σ' H' F' f R'⟩
theorem b4w{t:TE}{g:TG}{tb:TS}{f:ZF}{bb:GF}{body:SF}(hf:t5 K cl E t f)(hg:G7 K cl k g bb)(hb:RfS K cl E tb body):a2R b K cl E (b3D K b t g tb) (L5 f bb body):=by
 intro N σ H env F hx R h
 refine hf σ H _ env F R ((Cs.bnd h).mono fun x H1 ⟨F1,e1,d,fr,R1,p1,h1⟩=>?_)
 split at h1
 ·have p1:=(show Rp K cl F1 (.tup _) x from p1)
  simp only[Rp]at p1
  obtain⟨a,xs,rfl,hF,r⟩:=p1
  exact⟨a,rfl,⟨xs,.of (R1.sub _ _ hF)⟩,b6D (hx.mono fr.fz) hb hg R1 (fun σ' H' F' e' f2 R2=>.of (R2.sub _ _ (f2.fz _ _ hF))) r (h1.from fr)⟩
 ·exact h1.elim
end
def spH(b:Addr)(K:W.Frag)(cl:Str→Addr)(g:List D→Option R1):Sp:=fun vs H Q E=>∃ds F,HasX b F∧Same F H∧Rps K cl F ds vs∧match g ds with
 | none=>False
 | some (.ret d)=>∀v H' F',Gr H F H' F'→Rp K cl F' d v→Q v H'
 | some (.own es)=>∀a xs H' F',Gr H F H' F'→H a=none→H' a=some (.lst xs)→F' a=none→Rps K cl F' es xs→Q (.ref a) H'
 | some (.owz dss)=>∀p as H' F',Gr H F H' F'→H p=none→H' p=some (.tup (as.map V.ref))→F' p=none→Rz K cl F' H' (fun a=>H a=none) dss as→Q (.ref p) H'
 | some (.owp n es)=>∀p a xs H' F',Gr H F H' F'→H p=none→H' p=some (.tup [.int n,.ref a])→F' p=none→H a=none→H' a=some (.lst xs)→F' a=none→Rps K cl F' es xs→Q (.ref p) H'
 | some (.ex c)=>∀H' F',Gr H F H' F'→∀cx,Xf K cl F' c cx→E (.ref (cl c.nm)) cx H'
theorem b4x{b:Addr}{K:W.Frag}{cl:Str→Addr}{g:List D→Option R1}{vs:List V}{H:Hp}{Q:VK}{E:XK}(h:spH b K cl g vs H Q E):l5 K cl g vs H Q E:=by
 obtain⟨ds,F,_,h1,h2,h3⟩:=h
 exact⟨ds,F,h1,h2,h3⟩
section
variable {P:Program}{w:World}{K:W.Frag}{mg:Str→Option Value}{base:Heap}{cl:Str→Addr}
theorem a8P{N:List Str}{m:Nat}{body:SF}{t:TS}{vs:List V}{H:Hp}{Q:VK}{E:XK}{b:Addr}(hb:a2R b K cl E t body)(h:spH b K cl (fD N.length m body) vs H Q E):t { nx:=fun _ H'=>Q .non H',rt:=Q } (start N vs) H:=by
 obtain⟨ds,F,hx,s,p,h⟩:=h
 obtain⟨R,no⟩:=a6X (N:=N) s p
 refine hb _ _ H _ F hx R ?_
 unfold fD at h
 by_cases z:ds.length=m
 ·rw[if_pos z]at h
  cases r:body (ds.map .fz++List.replicate (N.length-ds.length) .no)with
  | none=>rw[r]at h;exact h.elim
  | some rs =>
   rw[r]at h
   cases rs with
   | nx e=>exact fun σ' H' F' f R'=>h .non H' F' (f.gr no R'.sub) (by simp only[Rp])
   | rt d=>exact fun v H' F' x q=>h v H' F' (x.gr no) q
   | ro es =>
    refine fun a xs H' F' x ha fa nw q=>h a xs H' F' (x.gr no) ?_ ha fa q
    cases e:H a with
    | none=>rfl
    | some o=>exact absurd (nw o e) no.not
   | rz dss =>
    refine fun p as H' F' x hp ht fp rz=>h p as H' F' (x.gr no) hp ht fp (rz.imp fun a xs ha fa nw=>?_)
    cases e:H a with
    | none=>rfl
    | some o=>exact absurd (nw o e) no.not
   | rp n es =>
    refine fun p a xs H' F' x hp ht fp ha fa nw q=>h p a xs H' F' (x.gr no) hp ht fp ?_ ha fa q
    cases e:H a with
    | none=>rfl
    | some o=>exact absurd (nw o e) no.not
   | bk e=>exact h.elim
   | ct e=>exact h.elim
   | ex c=>exact fun H' F' x=>h H' F' (x.gr no)
 ·rw[if_neg z]at h;exact h.elim
theorem Fun.okHD{x qual:Str}{st:Stmt}{f b:Addr}{fd:FuncData}{N ps:List Str}{k:Nat}{body:SF}(F:Fun K x qual st f fd)(S:FnScope N ps (d6 st))
  (hbody:∀(cdv:Value) (A:Around) (outer:List Env) (s:Shared) (H:Hp),RoomW k (A.deeper (envOfC qual (d6 st) s.heap.objs.size f cdv))→(A.deeper (envOfC qual (d6 st) s.heap.objs.size f cdv)).handled=some (.ref b) →
   ∃t,PSs (a01 P w K mg base N qual (d6 st) f cdv A outer s H) (k7 st) t∧a2R b K cl E0 t body):FnOkH P w K mg base (k+1) b f fd ps (spH b K cl (fD N.length ps.length body)) :=
 F.okH S (fun vs H Q E h=>a38 (b4x h)) fun cdv A outer s H vs Q hr hh h=>by
  obtain⟨t,h1,h2⟩:=hbody cdv A outer s H hr hh
  exact⟨t,h1,a8P h2 h⟩
end
theorem b2W(n:Nat):a0m (some (2*n+1))=.none:=by
 have h:¬(2*n+1)%2=0:=by omega
 show(if(2*n+1)%2=0 then _ else _)=_
 exact if_neg h
section
variable {K:W.Frag}{cl:Str→Addr}{E:XK}{σ:St}{H F:Hp}{env:DE}
theorem b4y{C:Addr}{i:Nat}{exm:Str→Option Bool}{ts:Addr→TS}{suite:SF}{rt:TH}{k8:HF}(hx:∀c b,exm c=some b→W.exmOne K (.ref (cl c)) (.ref C)=some b)(hs:∀a,a2R a K cl E (ts a) suite)(hr:RfH K cl E rt k8):RfH K cl E (b5A K C i ts rt) (hAs i exm suite k8):=by
 intro N σ H env F a c cx R ha xf h
 unfold hAs at h
 split at h
 ·rename_i q
  have gr:Gr H F (upd H a (D2 a (.ref (cl c.nm)) cx)) (upd F a (D2 a (.ref (cl c.nm)) cx)):=.new R.sub ha
  refine .inl ⟨hx c.nm true q,?_⟩
  have p:Rp K cl (upd F a (D2 a (.ref (cl c.nm)) cx)) c.d (.ref a):=xf.rp (by cases e:F a with | none=>rfl | some o=>have:=R.sub _ _ e;rw[ha]at this;cases this)
  have h:=h.from (R.frm gr)
  have hxa:HasX a (upd F a (D2 a (.ref (cl c.nm)) cx)):=⟨_,cx,i8,by
   cases c with
   | p c=>have xf:cx=none:=xf;rw[xf];rfl
   | v c f d =>
    obtain⟨dx,y,e,_⟩:=xf
    rw[e]
    exact b2W dx⟩
  have R0:=R.gr gr
  generalize upd H a (D2 a (.ref (cl c.nm)) cx)=H1 at h R0 ⊢
  generalize upd F a (D2 a (.ref (cl c.nm)) cx)=F1 at h R0 p hxa
  cases hp:put i (.fz c.d) env with
  | none=>rw[hp]at h;exact h.elim
  | some r =>
   rw[hp]at h
   cases r with
   | nx e1 =>
    obtain⟨hi,nh,ee⟩:i<env.length∧(∀ds,env[i]?≠some (.hd ds))∧e1=env.set i (.fz c.d):=by
     have h0:Cs K cl (fun _ _ _=>False) (put i (.fz c.d) env) σ H1 F1 env ⟨fun _ _=>True,fun _ _=>True,fun _ _=>True,fun _ _=>True⟩:=by rw[hp];exact fun _ _ _ _ _=>trivial
     obtain⟨a1,a2,a3⟩:=Z2 h0
     refine⟨a1,a2,?_⟩
     rw[a2c]at hp
     revert hp
     cases env[i]? with
     | none=>simp[okS]
     | some sl=>cases sl<;>simp[okS,U8]<;>intro z<;>exact z.symm
    subst ee
    have R1:=R0.put (d:=c.d) hi nh p
    have f1:Frm σ H1 F1 env (σ.set i (some (.ref a))) H1 F1 (env.set i (.fz c.d)):=Frm.put nh
    refine hs a _ _ _ _ _ hxa R1 ?_
    have h2:=Cs.from f1 h
    cases r:suite (env.set i (.fz c.d))with
    | none=>simp only[r,a7l]at h2;exact h2.elim
    | some rs =>
     simp only[r,a7l]at h2
     cases rs with
     | nx e2 =>
      obtain⟨hi,nh,h3⟩:=Z2 h2
      intro σ2 H2 F2 f2 R2
      obtain⟨R3,f3⟩:=R2.drop nh
      exact h3 _ H2 F2 (f2.trans f3) R3
     | bk e2=>exact h2.elim
     | ct e2=>exact h2.elim
     | rt d=>exact h2
     | ro ds=>exact h2
     | rz dss=>exact h2.elim
     | rp _ _=>exact h2.elim
     | ex c2=>exact h2.elim
   | _=>exact h.elim
 ·rename_i q
  exact .inr ⟨hx c.nm false q,hr N σ H env F a c cx R ha xf h⟩
 ·exact h.elim
theorem b2X{b:Addr}{i:Nat}{g:List D→Option R1}{t:TA}{f:AF}(hf:T5 K cl E t f):a2R b K cl E (a21 (a1r (spH b K cl g) t) (a0W i)) (A1 i g f):=by
 intro N σ H env F hx R h
 refine hf σ H _ env F R ((Cs.bnd h).mono fun vs H1 ⟨F1,e1,ds,fr,R1,p1,h1⟩=>?_)
 refine⟨ds,F1,hx.mono fr.fz,R1.sub,p1,?_⟩
 unfold X7 at h1
 split at h1
 ·rename_i q;rw[q]
  obtain⟨hi,nh,h2⟩:=Z2 h1
  exact fun v H' F' gr r=>h2 _ H' F' ((fr.trans (R1.frm gr)).trans (Frm.put nh)) ((R1.gr gr).put hi nh r)
 ·rename_i q;rw[q]
  obtain⟨hi,nh,h2⟩:=Z2 h1
  intro a xs H' F' gr ha hH hF r
  refine h2 _ H' F' ((fr.trans (R1.frm gr)).putO (fr.dom a ha) nh) ((R1.gr gr).putO hi hH hF (fun j mj e=>?_) r)
  obtain⟨es,q⟩:=mj
  obtain⟨b2,ys,e',hb,_⟩:=R1.mu j es q
  rw[e]at e';cases e'
  rw[ha]at hb;cases hb
 ·exact h1.elim
end
structure OwnH(P:Program)(w:World)(K:W.Frag)(mg:Str→Option Value)(base:Heap)(k:Nat)(x:Str)(ps:List Str)(sp:Addr→Sp):Prop where
 ex:∃f fd,(∀b,FnOkH P w K mg base k b f fd ps (sp b))∧Binds K fd ps []∧W.keepIn K (.ref f)=true∧mg x=some (.ref f)
section
variable {X:Cx}{k k':Nat}{ps:List Str}{sp:Addr→Sp}{x:Str}{p pos:Pos}{e:Expr}{es:List Expr}{t:TA}{b:Addr}
theorem b4z(G:OwnH X.prog X.w X.K X.mg X.base k x ps sp)(hr:RoomW k' X.A)(hh:X.A.handled=some (.ref b))(ha:PA X (e::es) t)(hk:k≤k':=by decide)(hg:Gl X x:=by rfl)
  (hdb:(x == ("__debug__" : Str))=false:=by decide) (he:starEach (e::es) X.env=(false,eval e X.env)::starEach es X.env:=by rfl) (hpl:(backTo pos (starEach es X.env)).any (·.1)=false:=by rfl) :
  PE X (.Call (.Name x p) (e::es) [] pos) (a1r (sp b) t):=by
 obtain⟨f,fd,F,bb,kp,m⟩:=G.ex
 exact b2V (F b) ⟨by have:=hr.dp;omega,by have:=hr.un;omega⟩ hh hg m kp bb ha hdb he hpl
end
theorem b2Y{K:PySem.W.Frag}{a:Addr}{xs:List V}{g:TG}{tb:TS}{D:Ends}{σ:St}{H:Hp}(Pv:Nat→St→Hp→Prop)(h0:Pv 0 σ H)(hl:∀i σ H,i≤xs.length→Pv i σ H→SqT K H a xs)
  (hs:∀i x σ H,xs.reverse[i]? = some x→Pv i σ H→g x σ H fun σ2 H2=>tb { D with nx:=Pv (i+1),ct:=Pv (i+1),bk:=D.nx } σ2 H2) (hd:∀σ H,Pv xs.length σ H→D.nx σ H) :
  ∃W:Nat→Nat→St→Hp→Prop,(∃m,W 0 m σ H)∧∀i m σ H,W i m σ H →
   ((Itw K a xs.length).stop i H∧D.nx σ H)∨((Itw K a xs.length).go i H∧∃N:St→Hp→Prop,(∀σ' H',N σ' H'→∃m',m'<m∧W (i+1) m' σ' H')∧∀x H',(Itw K a xs.length).yld i H x H'→g x σ H' fun σ2 H2=>tb { D with nx:=N,ct:=N,bk:=D.nx } σ2 H2):=by
 refine⟨fun i m σ H=>m=xs.length-i∧i≤xs.length∧Pv i σ H,⟨xs.length,by simp,Nat.zero_le _,h0⟩,?_⟩
 rintro i m σ H ⟨rfl,hi,p⟩
 have q:=hl i σ H hi p
 by_cases hlt:i<xs.length
 ·refine .inr ⟨⟨hlt,xs,q,rfl⟩,Pv (i+1),fun σ' H' z=>⟨xs.length-(i+1),by omega,rfl,hlt,z⟩,fun v H' y=>?_⟩
  obtain⟨rfl,y⟩:=y
  refine hs i v σ _ ?_ p
  rw[List.getElem?_reverse hlt]
  exact y xs q
 ·have e:i=xs.length:=by omega
  subst e
  exact .inl ⟨⟨Nat.le_refl _,xs,q,rfl⟩,hd σ H p⟩
section
variable {K:W.Frag}{cl:Str→Addr}{E:XK}{σ:St}{H F:Hp}{env:DE}{k:Nat}
theorem b1w{b:GF}{body:SF}{g:TG}{tb:TS}{ds:List D}{xs:List V}{a:Addr}{N:Ends}(hb:RfS K cl E tb body)(hg:G7 K cl k g b)(R:Rel K cl σ H F env)
  (hl:∀σ' H' F' e',Frm σ H F env σ' H' F' e'→Rel K cl σ' H' F' e'→SqT K H' a xs) (r:Rps K cl F ds xs) (h:Cs K cl E (l9 b body ds.reverse env) σ H F env N) :
  ∃W:Nat→Nat→St→Hp→Prop,(∃m,W 0 m σ H)∧∀i m σ H,W i m σ H →
   ((Itw K a xs.length).stop i H∧N.nx σ H)∨((Itw K a xs.length).go i H∧∃M:St→Hp→Prop,(∀σ' H',M σ' H'→∃m',m'<m∧W (i+1) m' σ' H')∧∀x H',(Itw K a xs.length).yld i H x H'→g x σ H' fun σ2 H2=>tb { N with nx:=M,ct:=M,bk:=N.nx } σ2 H2):=by
 have rr:Rps K cl F ds.reverse xs.reverse:=a6y r
 refine b2Y (xs:=xs) (fun i σ' H'=>∃F' e',Frm σ H F env σ' H' F' e'∧Rel K cl σ' H' F' e'∧Cs K cl E (l9 b body (ds.reverse.drop i) e') σ H F env N) ⟨F,env,Frm.refl,R,h⟩ (fun i σ' H' _ ⟨F',e',f,R',_⟩=>hl σ' H' F' e' f R') (fun i x σ' H' hx ⟨F',e',f,R',h'⟩=>?_) (fun σ' H' ⟨F',e',f,R',h'⟩=>?_)
 ·obtain⟨d,hd,p⟩:=rr.get' hx
  rw[D9 hd]at h'
  exact Q2 hb hg f R' (Rp.mono f.fz _ _ p) h' fun σ2 H2 F2 e2 f2 R2 h2=>⟨F2,e2,f2,R2,h2⟩
 ·rw[← r.length,← List.length_reverse,List.drop_length]at h'
  exact h' σ' H' F' f R'
def a5Y(f:ZF)(b:GF)(body:SF):SF:=fun e=>v8 (f e) fun d e1=>match d with
 | .tup ds=>l9 b body ds.reverse e1
 | _=>none
theorem b2Z{t:TE}{g:TG}{tb:TS}{f:ZF}{b:GF}{body:SF}(hf:t5 K cl E t f)(hg:G7 K cl k g b)(hb:RfS K cl E tb body):RfS K cl E (a4G (b3w K (P5 t a1h)) g tb) (a5Y f b body):=by
 intro N σ H env F R h
 refine hf σ H _ env F R ((Cs.bnd h).mono fun x H1 ⟨F1,e1,d,fr,R1,p1,h1⟩=>?_)
 split at h1
 ·have p1:=(show Rp K cl F1 (.tup _) x from p1)
  simp only[Rp]at p1
  obtain⟨a,xs,rfl,hF,r⟩:=p1
  exact⟨a,xs,rfl,.of (R1.sub _ _ hF),b1w hb hg R1 (fun σ' H' F' e' f2 R2=>.of (R2.sub _ _ (f2.fz _ _ hF))) r (h1.from fr)⟩
 ·exact h1.elim
end
end L2
namespace Law
open PySem L2 PyProof.Rows
def O3(i:Nat):Stmt:=PySem.Challenge.pw_cratefit_k61_no_packing_is_cut.main.body.getD i (.Pass ⟨0,0,0,0⟩)
abbrev N9:Stmt:=O3 20
abbrev S1:Stmt:=O3 22
abbrev E3:Stmt:=O3 23
abbrev a0f:Stmt:=O3 24
abbrev S2:Stmt:=O3 25
abbrev a0g:Stmt:=O3 26
abbrev V9:Stmt:=O3 28
abbrev K7:Stmt:=O3 29
abbrev y9:Stmt:=O3 31
abbrev A5:Stmt:=O3 32
abbrev K8:Stmt:=O3 33
abbrev W0:Stmt:=O3 34
abbrev G9:Stmt:=O3 35
abbrev M7:Stmt:=O3 37
abbrev W1:Stmt:=O3 38
abbrev W2:Stmt:=O3 39
abbrev S3:Stmt:=O3 40
abbrev S4:Stmt:=O3 41
abbrev O0:Stmt:=O3 42
abbrev O1:Stmt:=O3 43
abbrev F5:Stmt:=O3 44
abbrev w4:Stmt:=b30 (O3 18) 0
variable {P:Program}{w:World}{K:PySem.W.Frag}{mg:Str→Option Value}{base:Heap}{c:Str→Addr}
structure Txt(K:PySem.W.Frag)(mg:Str→Option Value)(c:Str→Addr):Prop where
 z_ValueError:mg "ValueError" = none
 z_any:mg "any" = none
 z_bool:mg "bool" = none
 z_enumerate:mg "enumerate" = none
 z_int:mg "int" = none
 z_isinstance:mg "isinstance" = none
 z_len:mg "len" = none
 z_list:mg "list" = none
 z_range:mg "range" = none
 z_reversed:mg "reversed" = none
 z_set:mg "set" = none
 z_sorted:mg "sorted" = none
 z_tuple:mg "tuple" = none
 z_zip:mg "zip" = none
 m_BadPacking:mg "BadPacking" = some (.ref (c "BadPacking"))
 m_BadPlan:mg "BadPlan" = some (.ref (c "BadPlan"))
 m_BadSide:mg "BadSide" = some (.ref (c "BadSide"))
 m_BadTurn:mg "BadTurn" = some (.ref (c "BadTurn"))
 m_CrateError:mg "CrateError" = some (.ref (c "CrateError"))
 m_Full:mg "Full" = some (.ref (c "Full"))
 m_Hangs:mg "Hangs" = some (.ref (c "Hangs"))
 m_NoDeed:mg "NoDeed" = some (.ref (c "NoDeed"))
 m_NoDrawing:mg "NoDrawing" = some (.ref (c "NoDrawing"))
 m_NoPicker:mg "NoPicker" = some (.ref (c "NoPicker"))
 m_NoSheet:mg "NoSheet" = some (.ref (c "NoSheet"))
 m_NoText:mg "NoText" = some (.ref (c "NoText"))
 m_NoWare:mg "NoWare" = some (.ref (c "NoWare"))
 m_NoWeighing:mg "NoWeighing" = some (.ref (c "NoWeighing"))
 m_NothingDone:mg "NothingDone" = some (.ref (c "NothingDone"))
 m_Ring:mg "Ring" = some (.ref (c "Ring"))
 m_TooMany:mg "TooMany" = some (.ref (c "TooMany"))
 m_TooWide:mg "TooWide" = some (.ref (c "TooWide"))
 x_BadTurn:PySem.W.excIn K (c "BadTurn") vErr "ValueError.__new__" = true
 t_exc_BadPacking:PySem.W.ExcT K (c "BadPacking")
 t_exc_BadTurn:PySem.W.ExcT K (c "BadTurn")
 hd_BadPacking:PySem.W.hasDictIn K (c "BadPacking")=true
 xn_BadPacking:PySem.W.findIn K (.ref (c "BadPacking")) "why" = some none
 t_any_BadPacking_0:PySem.W.kitAny K (.ref (c "BadPacking")) [.ref (c "BadPlan"),.ref (c "BadSide"),.ref (c "BadTurn"),.ref (c "Full"),.ref (c "Hangs"),.ref (c "NoDeed"),.ref (c "NoDrawing"),.ref (c "NoPicker"),.ref (c "NoSheet")]=some false
 t_any_BadPacking_1:PySem.W.kitAny K (.ref (c "BadPacking")) [.ref (c "NoText"),.ref (c "NoWare"),.ref (c "NoWeighing"),.ref (c "NothingDone"),.ref (c "Ring"),.ref (c "TooMany"),.ref (c "TooWide")]=some false
 t_one_BadPacking_BadPacking:PySem.W.kitOne K (.ref (c "BadPacking")) (.ref (c "BadPacking"))=some true
 t_one_BadPacking_ValueError:PySem.W.kitOne K (.ref (c "BadPacking")) (.type "ValueError")=some true
 t_exo_BadPacking_CrateError:PySem.W.exmOne K (.ref (c "BadPacking")) (.ref (c "CrateError"))=some true
 t_any_BadTurn_0:PySem.W.kitAny K (.ref (c "BadTurn")) [.ref (c "BadPlan"),.ref (c "BadSide"),.ref (c "BadTurn"),.ref (c "Full"),.ref (c "Hangs"),.ref (c "NoDeed"),.ref (c "NoDrawing"),.ref (c "NoPicker"),.ref (c "NoSheet")]=some true
 t_any_BadTurn_1:PySem.W.kitAny K (.ref (c "BadTurn")) [.ref (c "NoText"),.ref (c "NoWare"),.ref (c "NoWeighing"),.ref (c "NothingDone"),.ref (c "Ring"),.ref (c "TooMany"),.ref (c "TooWide")]=some false
 t_one_BadTurn_BadPacking:PySem.W.kitOne K (.ref (c "BadTurn")) (.ref (c "BadPacking"))=some false
 t_one_BadTurn_ValueError:PySem.W.kitOne K (.ref (c "BadTurn")) (.type "ValueError")=some true
 t_exo_BadTurn_CrateError:PySem.W.exmOne K (.ref (c "BadTurn")) (.ref (c "CrateError"))=some true
def xT(n:Str)(ns:List Str):Option Bool:=if n = "BadPacking"∧ns=(["BadPlan","BadSide","BadTurn","Full","Hangs","NoDeed","NoDrawing","NoPicker","NoSheet"]:List Str)then some false else if n = "BadPacking"∧ns=(["NoText","NoWare","NoWeighing","NothingDone","Ring","TooMany","TooWide"]:List Str)then some false else if n = "BadTurn"∧ns=(["BadPlan","BadSide","BadTurn","Full","Hangs","NoDeed","NoDrawing","NoPicker","NoSheet"]:List Str)then some true else if n = "BadTurn"∧ns=(["NoText","NoWare","NoWeighing","NothingDone","Ring","TooMany","TooWide"]:List Str)then some false else none
def x1(n m:Str):Option Bool:=if n = "BadPacking"∧m = "BadPacking" then some true else if n = "BadTurn"∧m = "BadPacking" then some false else none
def x2(n:Str)(m:String):Option Bool:=if n = "BadPacking"∧m = "ValueError" then some true else if n = "BadTurn"∧m = "ValueError" then some true else none
theorem b3E(T:Txt K mg c):∀(n:Str) (m:List Str) (b:Bool),xT n m=some b→PySem.W.ExcT K (c n)∧PySem.W.kitAny K (.ref (c n)) (m.map fun m=>.ref (c m))=some b:=by
 intro n m b h
 unfold xT at h
 split at h
 ·rename_i z;obtain⟨rfl,rfl⟩:=z;cases h;exact⟨T.t_exc_BadPacking,T.t_any_BadPacking_0⟩
 split at h
 ·rename_i z;obtain⟨rfl,rfl⟩:=z;cases h;exact⟨T.t_exc_BadPacking,T.t_any_BadPacking_1⟩
 split at h
 ·rename_i z;obtain⟨rfl,rfl⟩:=z;cases h;exact⟨T.t_exc_BadTurn,T.t_any_BadTurn_0⟩
 split at h
 ·rename_i z;obtain⟨rfl,rfl⟩:=z;cases h;exact⟨T.t_exc_BadTurn,T.t_any_BadTurn_1⟩
 cases h
theorem b3F(T:Txt K mg c):∀(n:Str) (m:Str) (b:Bool),x1 n m=some b→PySem.W.ExcT K (c n)∧PySem.W.kitOne K (.ref (c n)) (.ref (c m))=some b:=by
 intro n m b h
 unfold x1 at h
 split at h
 ·rename_i z;obtain⟨rfl,rfl⟩:=z;cases h;exact⟨T.t_exc_BadPacking,T.t_one_BadPacking_BadPacking⟩
 split at h
 ·rename_i z;obtain⟨rfl,rfl⟩:=z;cases h;exact⟨T.t_exc_BadTurn,T.t_one_BadTurn_BadPacking⟩
 cases h
theorem b3G(T:Txt K mg c):∀(n:Str) (m:String) (b:Bool),x2 n m=some b→PySem.W.ExcT K (c n)∧PySem.W.kitOne K (.ref (c n)) (.type m)=some b:=by
 intro n m b h
 unfold x2 at h
 split at h
 ·rename_i z;obtain⟨rfl,rfl⟩:=z;cases h;exact⟨T.t_exc_BadPacking,T.t_one_BadPacking_ValueError⟩
 split at h
 ·rename_i z;obtain⟨rfl,rfl⟩:=z;cases h;exact⟨T.t_exc_BadTurn,T.t_one_BadTurn_ValueError⟩
 cases h
def t9(n:Str):Option Bool:=if n = "BadPacking" then some true else if n = "BadTurn" then some true else none
theorem a43(T:Txt K mg c):∀n b,t9 n=some b→PySem.W.exmOne K (.ref (c n)) (.ref (c "CrateError"))=some b:=by
 intro n b h
 unfold t9 at h
 split at h
 ·rename_i z;subst z;cases h;exact T.t_exo_BadPacking_CrateError
 split at h
 ·rename_i z;subst z;cases h;exact T.t_exo_BadTurn_CrateError
 cases h
def P0(n:Str):Bool:=decide (n = "BadPacking")
theorem a3Z(T:Txt K mg c):∀n,P0 n=true→PySem.W.ExcT K (c n)∧PySem.W.hasDictIn K (c n)=true∧PySem.W.findIn K (.ref (c n)) "why" = some none:=by
 intro n h
 unfold P0 at h
 simp only[Bool.or_eq_true,decide_eq_true_eq]at h
 rcases h with rfl
 ·exact⟨T.t_exc_BadPacking,T.hd_BadPacking,T.xn_BadPacking⟩
theorem a1m:FnScope ["self","why"] ["self","why"] (d6 w4):=⟨rfl,rfl,rfl,by decide +kernel,rfl,by decide +kernel,by decide +kernel⟩
seal PSs PS PE PA PT
theorem a1n{f:Addr}{fd:FuncData}(F:Fun K "__init__" "BadPacking.__init__" w4 f fd)(S:PySem.W.ExcS K (c "BadPacking") "why"):FnOk P w K mg base (x9 P w) 3 f fd ["self","why"] (a6k (c "BadPacking") "why") :=
 F.okE a1m (fun vs H Q E h=>b2U h) fun cdv A outer s H vs Q E hr h=>⟨_,h7 (b6u (pv 0) (pv 1) rfl),a8O S h⟩
def a5Z:SF:=(f9 (Q1 (eV 0) (w6 [(g6 2),(g6 3),(g6 4)])) (f9 (m5 (C1 (bZ (eV 1))) (i5 (eT (aC (eV 2) (aC (eV 3) aN)))) m7) (f9 (m5 (C1 (bZ (eV 4))) (a0t "BadTurn" (aC (eC (.str "a ware that may not be turned has no sides turned")) aN)) m7) (i5 (eT (aC (eV 3) (aC (eV 2) aN)))))))
def U9:List D→Option R1:=fD 5 2 a5Z
theorem X0:FnScope ["ware","lie","w","h","turns"] ["ware","lie"] (d6 N9):=⟨rfl,rfl,rfl,by decide +kernel,rfl,by decide +kernel,by decide +kernel⟩
theorem a8Q{f:Addr}{fd:FuncData}(F:Fun K "sides_of" "sides_of" N9 f fd)(T:Txt K mg c)  : FnOk P w K mg base (x9 P w) 3 f fd ["ware","lie"] (l5 K c U9) :=
 F.okD (k:=2) X0 fun cdv A outer s H E hr=>⟨_,(g7 (a0h (pv 0) (F7 (K:=K) (n:=3) rfl (m3 (j4 (i:=2) X0.nd rfl (Or.inl rfl)) (m3 (j4 (i:=3) X0.nd rfl (Or.inl rfl)) (m3 (j4 (i:=4) X0.nd rfl (Or.inl rfl)) F6))))) (g7 (u4 (L6 (z8 (pv 1))) (h7 (k6 (j3 (a6 (pv 2) (a6 (pv 3) d7))))) m8) (g7 (u4 (L6 (z8 (pv 4))) (h7 (b1_ V4 T.x_BadTurn rfl T.m_BadTurn (a6 u0 d7))) m8) (h7 (k6 (j3 (a6 (pv 3) (a6 (pv 2) d7)))))))),(h9 (a0v d5 (G1 (m4 (i6 (k:=5) (by decide)) (m4 (i6 (k:=5) (by decide)) (m4 (i6 (k:=5) (by decide)) G0))) rfl)) (h9 (r0 (F8 (B0 d5)) (l7 (n5 (b6 d5 (b6 d5 g9)))) u7) (h9 (r0 (F8 (B0 d5)) (b2D (b6 g0 g9)) u7) (l7 (n5 (b6 d5 (b6 d5 g9)))))))⟩
def a62:SF:=(f9 (Q1 (eV 1) (w6 [(g6 2),(g6 3),(g6 4)])) (f9 (Q1 (W7 U9 (aC (eV 0) (aC (eV 4) aN))) (w6 [(g6 5),(g6 6)])) (i5 (eT (aC (eV 2) (aC (eV 3) (aC (eB y6 (eV 2) (eV 5)) (aC (eB y6 (eV 3) (eV 6)) aN))))))))
def A6:List D→Option R1:=fD 7 2 a62
theorem O2:FnScope ["ware","place","x","y","lie","w","h"] ["ware","place"] (d6 S1):=⟨rfl,rfl,rfl,by decide +kernel,rfl,by decide +kernel,by decide +kernel⟩
theorem b0k{f:Addr}{fd:FuncData}(F:Fun K "spot_of" "spot_of" S1 f fd)(T:Txt K mg c)(G_sides_of:Own P w K mg base 3 "sides_of" ["ware","lie"] (l5 K c U9)):FnOk P w K mg base (x9 P w) 5 f fd ["ware","place"] (l5 K c A6) :=
 F.okD (k:=4) O2 fun cdv A outer s H E hr=>⟨_,(g7 (a0h (pv 1) (F7 (K:=K) (n:=3) rfl (m3 (j4 (i:=2) O2.nd rfl (Or.inl rfl)) (m3 (j4 (i:=3) O2.nd rfl (Or.inl rfl)) (m3 (j4 (i:=4) O2.nd rfl (Or.inl rfl)) F6))))) (g7 (a0h (y1 G_sides_of hr (by decide) (XAcc.passes V4) (a6 (pv 0) (a6 (pv 4) d7))) (F7 (K:=K) (n:=2) rfl (m3 (j4 (i:=5) O2.nd rfl (Or.inl rfl)) (m3 (j4 (i:=6) O2.nd rfl (Or.inl rfl)) F6)))) (h7 (k6 (j3 (a6 (pv 2) (a6 (pv 3) (a6 (j6 A7 (pv 2) (pv 5)) (a6 (j6 A7 (pv 3) (pv 6)) d7))))))))),(h9 (a0v d5 (G1 (m4 (i6 (k:=7) (by decide)) (m4 (i6 (k:=7) (by decide)) (m4 (i6 (k:=7) (by decide)) G0))) rfl)) (h9 (a0v (a9k (b6 d5 (b6 d5 g9))) (G1 (m4 (i6 (k:=7) (by decide)) (m4 (i6 (k:=7) (by decide)) G0)) rfl)) (l7 (n5 (b6 d5 (b6 d5 (b6 (d9 A8 d5 d5) (b6 (d9 A8 d5 d5) g9))))))))⟩
def a50:SF:=(a2D (a0F 2 [] (aC (eV 0) (aC (eV 1) aN)) (w6 [(g6 0),(g6 1)]) v9 (W7 A6 (aC (eV 0) (aC (eV 1) aN)))))
def E4:List D→Option R1:=fD 2 2 a50
theorem a8R:FnScope ["wares","places"] ["wares","places"] (d6 E3):=⟨rfl,rfl,rfl,by decide +kernel,rfl,by decide +kernel,by decide +kernel⟩
theorem a8S{f:Addr}{fd:FuncData}(F:Fun K "spots_of" "spots_of" E3 f fd)(T:Txt K mg c)(G_spot_of:Own P w K mg base 5 "spot_of" ["ware","place"] (l5 K c A6)):FnOk P w K mg base (x9 P w) 7 f fd ["wares","places"] (l5 K c E4) :=
 F.okD (k:=6) a8R fun cdv A outer s H E hr=>⟨_,(h7 (k6 (b2k (Nc:=["ware","place"]) (k:=2) (js:=[]) V4 rfl ⟨by decide +kernel,rfl,by decide +kernel,(by change ∀y∈Scope.names _,y.2=NameKind.free→(d6 E3).names.lookup y.1=some .cell∨(d6 E3).names.lookup y.1=some .free;decide +kernel),by decide +kernel,rfl,rfl,by decide +kernel⟩ (b5y rfl T.z_zip (a6 (pv 0) (a6 (pv 1) d7))) (fun _ _ _ _ _=>(F7 (K:=K) (n:=2) rfl (m3 (j4 (i:=0) (by show List.Nodup [("ware" : Str),("place" : Str)];decide +kernel) rfl (Or.inl rfl)) (m3 (j4 (i:=1) (by show List.Nodup [("ware" : Str),("place" : Str)];decide +kernel) rfl (Or.inl rfl)) F6)))) (fun _ _ _ _ _=>X4) (fun _ _ _ _ _ ac=>(y1 G_spot_of hr (by decide) (XAcc.passes ac) (a6 (pv 0) (a6 (pv 1) d7))))))),(b4d (b2K (by decide) (b6 d5 (b6 d5 g9)) (G1 (m4 (i6 (k:=2) (by decide)) (m4 (i6 (k:=2) (by decide)) G0)) rfl) M6 (a9k (b6 d5 (b6 d5 g9)))))⟩
def a9z:SF:=(f9 (p6 2 (eOr (eB gLe (eB i0 (eV 0) (eC (.int 2))) (eB i0 (eV 1) (eC (.int 0)))) (eB gLe (eB i0 (eV 1) (eC (.int 2))) (eB i0 (eV 0) (eC (.int 0)))))) (f9 (p6 3 (eOr (eB gLe (eB i0 (eV 0) (eC (.int 3))) (eB i0 (eV 1) (eC (.int 1)))) (eB gLe (eB i0 (eV 1) (eC (.int 3))) (eB i0 (eV 0) (eC (.int 1)))))) (i5 (eOr (eV 2) (eV 3)))))
def W3:List D→Option R1:=fD 4 2 a9z
theorem a44:FnScope ["one","other","across","up"] ["one","other"] (d6 a0f):=⟨rfl,rfl,rfl,by decide +kernel,rfl,by decide +kernel,by decide +kernel⟩
theorem b20{f:Addr}{fd:FuncData}(F:Fun K "apart" "apart" a0f f fd)(T:Txt K mg c)  : FnOk P w K mg base (x9 P w) 3 f fd ["one","other"] (l5 K c W3) :=
 F.okD (k:=2) a44 fun cdv A outer s H E hr=>⟨_,(g7 (p8 (i:=2) a44.nd rfl (Or.inl rfl) (a9H (v3 a0Y (i9 (j5 (K:=K)) (pv 0) g5 (fun _ _=>rfl)) (i9 (j5 (K:=K)) (pv 1) g5 (fun _ _=>rfl)) (j7 _)) (O6 (v3 a0Y (i9 (j5 (K:=K)) (pv 1) g5 (fun _ _=>rfl)) (i9 (j5 (K:=K)) (pv 0) g5 (fun _ _=>rfl)) (j7 _))))) (g7 (p8 (i:=3) a44.nd rfl (Or.inl rfl) (a9H (v3 a0Y (i9 (j5 (K:=K)) (pv 0) g5 (fun _ _=>rfl)) (i9 (j5 (K:=K)) (pv 1) g5 (fun _ _=>rfl)) (j7 _)) (O6 (v3 a0Y (i9 (j5 (K:=K)) (pv 1) g5 (fun _ _=>rfl)) (i9 (j5 (K:=K)) (pv 0) g5 (fun _ _=>rfl)) (j7 _))))) (h7 (k6 (a9H (pv 2) (O6 (pv 3))))))),(h9 (A3 (b0a (d9 a06 (d9 k9 d5 g0) (d9 k9 d5 g0)) (d9 a06 (d9 k9 d5 g0) (d9 k9 d5 g0)))) (h9 (A3 (b0a (d9 a06 (d9 k9 d5 g0) (d9 k9 d5 g0)) (d9 a06 (d9 k9 d5 g0) (d9 k9 d5 g0)))) (l7 (b0a d5 d5))))⟩
def a63:SF:=(f9 (Q1 (eV 1) (w6 [(g6 2),(g6 3),(g6 4),(g6 5)])) (i5 (J3 (eB gGe (eV 2) (eC (.int 0))) (J3 (eB gGe (eV 3) (eC (.int 0))) (J3 (eB gLe (eV 4) (eB i0 (eV 0) (eC (.int 0)))) (eB gLe (eV 5) (eB i0 (eV 0) (eC (.int 1)))))))))
def I0:List D→Option R1:=fD 6 2 a63
theorem V0:FnScope ["box","spot","x","y","x2","y2"] ["box","spot"] (d6 S2):=⟨rfl,rfl,rfl,by decide +kernel,rfl,by decide +kernel,by decide +kernel⟩
theorem b0l{f:Addr}{fd:FuncData}(F:Fun K "lies_in" "lies_in" S2 f fd)(T:Txt K mg c)  : FnOk P w K mg base (x9 P w) 3 f fd ["box","spot"] (l5 K c I0) :=
 F.okD (k:=2) V0 fun cdv A outer s H E hr=>⟨_,(g7 (a0h (pv 1) (F7 (K:=K) (n:=4) rfl (m3 (j4 (i:=2) V0.nd rfl (Or.inl rfl)) (m3 (j4 (i:=3) V0.nd rfl (Or.inl rfl)) (m3 (j4 (i:=4) V0.nd rfl (Or.inl rfl)) (m3 (j4 (i:=5) V0.nd rfl (Or.inl rfl)) F6)))))) (h7 (k6 (L7 (v3 a7f (pv 2) g5 (j7 _)) (L7 (v3 a7f (pv 3) g5 (j7 _)) (L7 (v3 a0Y (pv 4) (i9 (j5 (K:=K)) (pv 0) g5 (fun _ _=>rfl)) (j7 _)) (O6 (v3 a0Y (pv 5) (i9 (j5 (K:=K)) (pv 0) g5 (fun _ _=>rfl)) (j7 _))))))))),(h9 (a0v d5 (G1 (m4 (i6 (k:=6) (by decide)) (m4 (i6 (k:=6) (by decide)) (m4 (i6 (k:=6) (by decide)) (m4 (i6 (k:=6) (by decide)) G0)))) rfl)) (l7 (M4 (d9 a7h d5 g0) (M4 (d9 a7h d5 g0) (M4 (d9 a06 d5 (d9 k9 d5 g0)) (d9 a06 d5 (d9 k9 d5 g0)))))))⟩
def a4l:SF:=(f9 (m5 (bZ (eB (D7 true) (y4 t6 2) (y4 t6 1))) (i5 (eT (aC (eC (.str "count")) (aC (y4 t6 2) aN)))) m7) (f9 (r9 3 (eL aN)) (f9 (M5 2 (w6 [(g6 4),(g6 5)]) (f9 (m5 (y3 (bZ (eB i0 (eV 5) (eC (.int 2)))) (C1 (bZ (eB i0 (n9 l4 1 (eV 4)) (eC (.int 2)))))) (i5 (eT (aC (eC (.str "turn")) (aC (eV 4) aN)))) m7) (f9 (J4 6 A6 (aC (n9 l4 1 (eV 4)) (aC (eV 5) aN))) (f9 (m5 (C1 (bZ (l6 I0 (aC (eV 0) (aC (eV 6) aN))))) (i5 (eT (aC (eC (.str "out")) (aC (eV 4) aN)))) m7) (f9 (M5 3 (w6 [(g6 7),(g6 8)]) (m5 (C1 (bZ (l6 W3 (aC (eV 8) (aC (eV 6) aN))))) (i5 (eT (aC (eC (.str "over")) (aC (eV 7) (aC (eV 4) aN))))) m7)) (D4 3 (eV 6))))))) (i5 (eC .non)))))
def B8:List D→Option R1:=fD 9 3 a4l
theorem Q7:FnScope ["box","wares","places","spots","k","place","spot","i","other"] ["box","wares","places"] (d6 a0g):=⟨rfl,rfl,rfl,by decide +kernel,rfl,by decide +kernel,by decide +kernel⟩
theorem b21{f:Addr}{fd:FuncData}(F:Fun K "fault" "fault" a0g f fd)(T:Txt K mg c)(G_spot_of:Own P w K mg base 5 "spot_of" ["ware","place"] (l5 K c A6))(G_lies_in:Own P w K mg base 3 "lies_in" ["box","spot"] (l5 K c I0))(G_apart:Own P w K mg base 3 "apart" ["one","other"] (l5 K c W3)):FnOk P w K mg base (x9 P w) 7 f fd ["box","wares","places"] (l5 K c B8) :=
 F.okD (k:=6) Q7 fun cdv A outer s H E hr=>⟨_,(g7 (u4 (r6 b3m (n4 (r8 (K:=K)) rfl T.z_len D6 (a6 (pv 2) d7)) (n4 (r8 (K:=K)) rfl T.z_len D6 (a6 (pv 1) d7)) (j7 _)) (h7 (k6 (j3 (a6 u0 (a6 (n4 (r8 (K:=K)) rfl T.z_len D6 (a6 (pv 2) d7)) d7))))) m8) (g7 (p8 (i:=3) Q7.nd rfl (Or.inl rfl) (a0k d7)) (g7 (X2 PassesOwn.leaving rfl (a89 rfl T.z_enumerate (a6 (pv 2) d7)) (F7 (K:=K) (n:=2) rfl (m3 (j4 (i:=4) Q7.nd rfl (Or.inl rfl)) (m3 (j4 (i:=5) Q7.nd rfl (Or.inl rfl)) F6))) (g7 (u4 (PW.pt (S7 (z8 (i9 (j5 (K:=K)) (pv 5) g5 (fun _ _=>rfl))) (a0c (L6 (z8 (i9 (j5 (K:=K)) (i9 (u6 (K:=K)) (pv 1) (pv 4) (fun _ _=>rfl)) g5 (fun _ _=>rfl))))))) (h7 (k6 (j3 (a6 u0 (a6 (pv 4) d7))))) m8) (g7 (p8 (i:=6) Q7.nd rfl (Or.inl rfl) (y1 G_spot_of hr (by decide) (XAcc.passes V4) (a6 (i9 (u6 (K:=K)) (pv 1) (pv 4) (fun _ _=>rfl)) (a6 (pv 5) d7)))) (g7 (u4 (L6 (z8 (y1 G_lies_in hr (by decide) C0 (a6 (pv 0) (a6 (pv 6) d7))))) (h7 (k6 (j3 (a6 u0 (a6 (pv 4) d7))))) m8) (g7 (X2 PassesOwn.leaving rfl (a89 rfl T.z_enumerate (a6 (pv 3) d7)) (F7 (K:=K) (n:=2) rfl (m3 (j4 (i:=7) Q7.nd rfl (Or.inl rfl)) (m3 (j4 (i:=8) Q7.nd rfl (Or.inl rfl)) F6))) (h7 (u4 (L6 (z8 (y1 G_apart hr (by decide) C0 (a6 (pv 8) (a6 (pv 6) d7))))) (h7 (k6 (j3 (a5e (a6 (pv 7) (a6 (pv 4) d7)))))) m8))) (h7 (Q9 (a0p (K:=K) PySem.F.plainAttrs_list PySem.F.slot_list_append PySem.F.type_list_append G5 (pv 3) (a6 (pv 6) d7))))))))) (h7 (k6 S6))))),(h9 (r0 (w9 (d9 b3x (L4 D8) (L4 D8))) (l7 (n5 (b6 g0 (b6 (L4 D8) g9)))) u7) (h9 (R9 (a4R g9)) (h9 (a7Z (G1 (m4 (i6 (k:=9) (by decide)) (m4 (i6 (k:=9) (by decide)) G0)) rfl) (h9 (r0 (N3 (B0 (d9 k9 d5 g0)) (F8 (B0 (d9 k9 (z9 A0 d5) g0)))) (l7 (n5 (b6 g0 (b6 d5 g9)))) u7) (h9 (a6q (b6 (z9 A0 d5) (b6 d5 g9))) (h9 (r0 (F8 (B0 (A2 (b6 d5 (b6 d5 g9))))) (l7 (n5 (b6 g0 (b6 d5 g9)))) u7) (h9 (a7Z (G1 (m4 (i6 (k:=9) (by decide)) (m4 (i6 (k:=9) (by decide)) G0)) rfl) (r0 (F8 (B0 (A2 (b6 d5 (b6 d5 g9))))) (l7 (n5 (b6 g0 (b6 d5 (b6 d5 g9))))) u7)) (a0u d5)))))) (l7 g0))))⟩
def b22:SF:=(i5 (eB (gIn false) (eB i0 (eV 0) (eC (.int 0))) (eT (aC (eC (.str "across")) (aC (eC (.str "up")) aN)))))
def u3:List D→Option R1:=fD 1 1 b22
theorem b1x:FnScope ["plan"] ["plan"] (d6 V9):=⟨rfl,rfl,rfl,by decide +kernel,rfl,by decide +kernel,by decide +kernel⟩
theorem b1y{f:Addr}{fd:FuncData}(F:Fun K "is_cut" "is_cut" V9 f fd)(T:Txt K mg c)  : FnOk P w K mg base (x9 P w) 3 f fd ["plan"] (l5 K c u3) :=
 F.okD (k:=2) b1x fun cdv A outer s H E hr=>⟨_,(h7 (k6 (v3 (b0T (K:=K)) (i9 (j5 (K:=K)) (pv 0) g5 (fun _ _=>rfl)) (j3 (a6 u0 (a6 u0 d7))) (by with_unfolding_all rfl)))),(l7 (d9 b3y (d9 k9 d5 g0) (n5 (b6 g0 (b6 g0 g9)))))⟩
def a4A:SF:=(f9 (Q1 (eV 0) (w6 [(g6 2),(g6 3),(g6 4),(g6 5)])) (f9 (p6 6 (eB i0 (eV 1) (eC (.int 1)))) (f9 (m5 (bZ (eB (D7 false) (eB i0 (eV 1) (eC (.int 0))) (eC (.str "across")))) (i5 (eT (aC (eT (aC (eV 2) (aC (eV 3) (aC (eB y6 (eV 2) (eV 6)) (aC (eV 5) aN))))) (aC (eT (aC (eB y6 (eV 2) (eV 6)) (aC (eV 3) (aC (eV 4) (aC (eV 5) aN))))) aN)))) m7) (i5 (eT (aC (eT (aC (eV 2) (aC (eV 3) (aC (eV 4) (aC (eB y6 (eV 3) (eV 6)) aN))))) (aC (eT (aC (eV 2) (aC (eB y6 (eV 3) (eV 6)) (aC (eV 4) (aC (eV 5) aN))))) aN)))))))
def t7:List D→Option R1:=fD 7 2 a4A
theorem G3:FnScope ["spot","plan","x","y","x2","y2","at"] ["spot","plan"] (d6 K7):=⟨rfl,rfl,rfl,by decide +kernel,rfl,by decide +kernel,by decide +kernel⟩
theorem a8u{f:Addr}{fd:FuncData}(F:Fun K "cut_spots" "cut_spots" K7 f fd)(T:Txt K mg c)  : FnOk P w K mg base (x9 P w) 3 f fd ["spot","plan"] (l5 K c t7) :=
 F.okD (k:=2) G3 fun cdv A outer s H E hr=>⟨_,(g7 (a0h (pv 0) (F7 (K:=K) (n:=4) rfl (m3 (j4 (i:=2) G3.nd rfl (Or.inl rfl)) (m3 (j4 (i:=3) G3.nd rfl (Or.inl rfl)) (m3 (j4 (i:=4) G3.nd rfl (Or.inl rfl)) (m3 (j4 (i:=5) G3.nd rfl (Or.inl rfl)) F6)))))) (g7 (p8 (i:=6) G3.nd rfl (Or.inl rfl) (i9 (j5 (K:=K)) (pv 1) g5 (fun _ _=>rfl))) (g7 (u4 (r6 a0X (i9 (j5 (K:=K)) (pv 1) g5 (fun _ _=>rfl)) u0 (j7 _)) (h7 (k6 (j3 (a6 (j3 (a6 (pv 2) (a6 (pv 3) (a6 (j6 A7 (pv 2) (pv 6)) (a6 (pv 5) d7))))) (a6 (j3 (a6 (j6 A7 (pv 2) (pv 6)) (a6 (pv 3) (a6 (pv 4) (a6 (pv 5) d7))))) d7))))) m8) (h7 (k6 (j3 (a6 (j3 (a6 (pv 2) (a6 (pv 3) (a6 (pv 4) (a6 (j6 A7 (pv 3) (pv 6)) d7))))) (a6 (j3 (a6 (pv 2) (a6 (j6 A7 (pv 3) (pv 6)) (a6 (pv 4) (a6 (pv 5) d7))))) d7)))))))),(h9 (a0v d5 (G1 (m4 (i6 (k:=7) (by decide)) (m4 (i6 (k:=7) (by decide)) (m4 (i6 (k:=7) (by decide)) (m4 (i6 (k:=7) (by decide)) G0)))) rfl)) (h9 (A3 (d9 k9 d5 g0)) (h9 (r0 (w9 (d9 a07 (d9 k9 d5 g0) g0)) (l7 (n5 (b6 (n5 (b6 d5 (b6 d5 (b6 (d9 A8 d5 d5) (b6 d5 g9))))) (b6 (n5 (b6 (d9 A8 d5 d5) (b6 d5 (b6 d5 (b6 d5 g9))))) g9)))) u7) (l7 (n5 (b6 (n5 (b6 d5 (b6 d5 (b6 d5 (b6 (d9 A8 d5 d5) g9))))) (b6 (n5 (b6 d5 (b6 (d9 A8 d5 d5) (b6 d5 (b6 d5 g9))))) g9)))))))⟩
def b0m:SF:=(f9 (a3o (zN (a3T (aC (zN (nB O5 (zN (x8 1 1 [2] (g6 0) v9 (eB i0 (eV 0) (eV 1)))) (zN (x8 1 1 [2] (g6 0) v9 (eB i0 (eV 0) (eB y6 (eV 1) (eC (.int 2)))))))) aN)))  (g6 3) (f9 (p6 4 (J3 (eB F9 (eB i0 (eV 0) (eV 2)) (eV 3)) (eB F9 (eV 3) (eB i0 (eV 0) (eB y6 (eV 2) (eC (.int 2))))))) (m5 (y3 (bZ (eV 4)) (C1 (bZ (X6 (g1 a4T) (aC (zN (x8 1 1 [3,2] (g6 0) v9 (J3 (eB F9 (eB i0 (eV 0) (eV 2)) (eV 1)) (eB F9 (eV 1) (eB i0 (eV 0) (eB y6 (eV 2) (eC (.int 2)))))))) aN))))) (N5 3) m7))) (i5 (eC .non)))
def B1:List D→Option R1:=fD 5 3 b0m
theorem a1o:FnScope ["piece","spots","side","end","within"] ["piece","spots","side"] (d6 y9):=⟨rfl,rfl,rfl,by decide +kernel,rfl,by decide +kernel,by decide +kernel⟩
theorem a8T{f:Addr}{fd:FuncData}(F:Fun K "free_end" "free_end" y9 f fd)(T:Txt K mg c)  : FnOk P w K mg base (x9 P w) 3 f fd ["piece","spots","side"] (l5 K c B1) :=
 F.okD (k:=2) a1o fun cdv A outer s H E hr=>⟨_,(g7 (X2 PassesOwn.leaving rfl (R5 (b2y rfl rfl T.z_sorted rfl T.z_set (a6 (j6 b5r (a33 (Nc:=["spot","side"]) (k:=1) (js:=[2]) rfl ⟨by decide +kernel,rfl,by decide +kernel,(by change ∀y∈Scope.names _,y.2=NameKind.free→(d6 y9).names.lookup y.1=some .cell∨(d6 y9).names.lookup y.1=some .free;decide +kernel),by decide +kernel,rfl,rfl,by decide +kernel⟩ (R5 (pv 1)) (fun _ _ _ _ _=>(j4 (i:=0) (by show List.Nodup [("spot" : Str),("side" : Str)];decide +kernel) rfl (Or.inl rfl))) (fun _ _ _ _ _=>X4) (fun _ _ _ _ _=>(i9 (j5 (K:=K)) (pv 0) (pv 1) (fun _ _=>rfl)))) (a33 (Nc:=["spot","side"]) (k:=1) (js:=[2]) rfl ⟨by decide +kernel,rfl,by decide +kernel,(by change ∀y∈Scope.names _,y.2=NameKind.free→(d6 y9).names.lookup y.1=some .cell∨(d6 y9).names.lookup y.1=some .free;decide +kernel),by decide +kernel,rfl,rfl,by decide +kernel⟩ (R5 (pv 1)) (fun _ _ _ _ _=>(j4 (i:=0) (by show List.Nodup [("spot" : Str),("side" : Str)];decide +kernel) rfl (Or.inl rfl))) (fun _ _ _ _ _=>X4) (fun _ _ _ _ _=>(i9 (j5 (K:=K)) (pv 0) (j6 A7 (pv 1) g5) (fun _ _=>rfl))))) d7))) (j4 (i:=3) a1o.nd rfl (Or.inr rfl)) (g7 (p8 (i:=4) a1o.nd rfl (Or.inl rfl) (L7 (v3 S8 (i9 (j5 (K:=K)) (pv 0) (pv 2) (fun _ _=>rfl)) (pv 3) (j7 _)) (O6 (v3 S8 (pv 3) (i9 (j5 (K:=K)) (pv 0) (j6 A7 (pv 2) g5) (fun _ _=>rfl)) (j7 _))))) (h7 (u4 (PW.pt (S7 (z8 (pv 4)) (a0c (L6 (z8 (n4 (b0U (K:=K)) rfl T.z_any b5v (a6 (a33 (Nc:=["spot","end","side"]) (k:=1) (js:=[3,2]) rfl ⟨by decide +kernel,rfl,by decide +kernel,(by change ∀y∈Scope.names _,y.2=NameKind.free→(d6 y9).names.lookup y.1=some .cell∨(d6 y9).names.lookup y.1=some .free;decide +kernel),by decide +kernel,rfl,rfl,by decide +kernel⟩ (R5 (pv 1)) (fun _ _ _ _ _=>(j4 (i:=0) (by show List.Nodup [("spot" : Str),("end" : Str),("side" : Str)];decide +kernel) rfl (Or.inl rfl))) (fun _ _ _ _ _=>X4) (fun _ _ _ _ _=>(L7 (v3 S8 (i9 (j5 (K:=K)) (pv 0) (pv 2) (fun _ _=>rfl)) (pv 1) (j7 _)) (O6 (v3 S8 (pv 1) (i9 (j5 (K:=K)) (pv 0) (j6 A7 (pv 2) g5) (fun _ _=>rfl)) (j7 _)))))) d7))))))) (h7 (k6 (pv 3))) m8)))) (h7 (k6 S6))),(h9 (b5R (W6 (b2Q (b6 (W6 (b6v b5P (W6 (Q4 (by decide) (i6 (k:=1) (by decide)) M6 (d9 k9 d5 d5))) (W6 (Q4 (by decide) (i6 (k:=1) (by decide)) M6 (d9 k9 d5 (d9 A8 d5 g0)))))) g9))) (i6 (k:=5) (by decide)) (h9 (A3 (M4 (d9 T7 (d9 k9 d5 d5) d5) (d9 T7 d5 (d9 k9 d5 (d9 A8 d5 g0))))) (r0 (N3 (B0 d5) (F8 (B0 (a05 b5Q.cb (b6 (W6 (Q4 (by decide) (i6 (k:=1) (by decide)) M6 (M4 (d9 T7 (d9 k9 d5 d5) d5) (d9 T7 d5 (d9 k9 d5 (d9 A8 d5 g0)))))) g9))))) a9l u7))) (l7 g0))⟩
def a7d:SF:=(f9 (m5 (bZ (eB (D7 false) (y4 t6 3) (eC (.int 0)))) (i5 (eT (aC (eC (.str "waste")) aN))) m7) (f9 (p6 4 (n9 l4 3 (eC (.int 0)))) (f9 (m5 (bZ (eB (D5 false) (n9 l4 1 (eV 4)) (eV 0))) (i5 (eT (aC (eC (.str "ware")) (aC (eV 4) (aC (eB i0 (n9 l4 2 (eV 4)) (eC (.int 2))) aN))))) m7) (f9 (r9 5 (x8 3 1 [1] (g6 0) v9 (n9 l4 1 (eV 0)))) (f9 (L5 (eT (aC (eT (aC (eC (.int 0)) (aC (eC (.str "across")) aN))) (aC (eT (aC (eC (.int 1)) (aC (eC (.str "up")) aN))) aN)))  (w6 [(g6 6),(g6 7)]) (f9 (A1 8 B1 (aC (eV 0) (aC (eV 5) (aC (eV 6) aN)))) (m5 (bZ (eB (D3 true) (eV 8) (eC .non))) (i5 (eT (aC (eV 7) (aC (eB N4 (eV 8) (eB i0 (eV 0) (eV 6))) aN)))) m7))) (i5 (eC .non)))))))
def n6:List D→Option R1:=fD 9 4 a7d
theorem C9:FnScope ["piece","spots","places","numbers","first","inside","side","word","end"] ["piece","spots","places","numbers"] (d6 A5):=⟨rfl,rfl,rfl,by decide +kernel,rfl,by decide +kernel,by decide +kernel⟩
theorem a6z{f:Addr}{fd:FuncData}(F:Fun K "leaf_or_cut" "leaf_or_cut" A5 f fd)(T:Txt K mg c)(G_free_end:Own P w K mg base 3 "free_end" ["piece","spots","side"] (l5 K c B1)):FnOk P w K mg base (x9 P w) 5 f fd ["piece","spots","places","numbers"] (l5 K c n6) :=
 F.okD (k:=4) C9 fun cdv A outer s H E hr=>⟨_,(g7 (u4 (r6 a0X (n4 (r8 (K:=K)) rfl T.z_len D6 (a6 (pv 3) d7)) g5 (j7 _)) (h7 (k6 (j3 (a6 u0 d7)))) m8) (g7 (p8 (i:=4) C9.nd rfl (Or.inl rfl) (i9 (u6 (K:=K)) (pv 3) g5 (fun _ _=>rfl))) (g7 (u4 (r6 (a6u (K:=K) (cl:=c) (b2M hr)) (i9 (u6 (K:=K)) (pv 1) (pv 4) (fun _ _=>rfl)) (pv 0) (j7 _)) (h7 (k6 (j3 (a5e (a6 (pv 4) (a6 (i9 (j5 (K:=K)) (i9 (u6 (K:=K)) (pv 2) (pv 4) (fun _ _=>rfl)) g5 (fun _ _=>rfl)) d7)))))) m8) (g7 (Z6 (i:=5) (Nc:=["k","spots"]) (k:=1) (js:=[1]) rfl ⟨by decide +kernel,rfl,by decide +kernel,(by change ∀y∈Scope.names _,y.2=NameKind.free→(d6 A5).names.lookup y.1=some .cell∨(d6 A5).names.lookup y.1=some .free;decide +kernel),by decide +kernel,rfl,rfl,by decide +kernel⟩ C9.nd rfl (R5 (pv 3)) (fun _ _ _ _ _=>(j4 (i:=0) (by show List.Nodup [("k" : Str),("spots" : Str)];decide +kernel) rfl (Or.inl rfl))) (fun _ _ _ _ _=>X4) (fun _ _ _ _ _=>(i9 (u6 (K:=K)) (pv 1) (pv 0) (fun _ _=>rfl)))) (g7 (X2 PassesOwn.leaving rfl (b4_ (j3 (a6 (j3 (a6 g5 (a6 u0 d7))) (a6 (j3 (a6 g5 (a6 u0 d7))) d7)))) (F7 (K:=K) (n:=2) rfl (m3 (j4 (i:=6) C9.nd rfl (Or.inl rfl)) (m3 (j4 (i:=7) C9.nd rfl (Or.inl rfl)) F6))) (g7 (p8 (i:=8) C9.nd rfl (Or.inl rfl) (y1 G_free_end hr (by decide) C0 (a6 (pv 0) (a6 (pv 5) (a6 (pv 6) d7))))) (h7 (u4 (r6 a59 (pv 8) S6 (j7 _)) (h7 (k6 (j3 (a6 (pv 7) (a6 (j6 a24 (pv 8) (i9 (j5 (K:=K)) (pv 0) (pv 6) (fun _ _=>rfl))) d7))))) m8)))) (h7 (k6 S6))))))),(h9 (r0 (w9 (d9 a07 (L4 D8) g0)) (l7 (n5 (b6 g0 g9))) u7) (h9 (A3 (z9 A0 g0)) (h9 (r0 (w9 (d9 a76 (z9 A0 d5) d5)) (l7 (n5 (b6 g0 (b6 d5 (b6 (d9 k9 (z9 A0 d5) g0) g9))))) u7) (h9 (Z8 (Q4 (by decide) (i6 (k:=1) (by decide)) M6 (z9 A0 d5))) (h9 (b4e (n5 (b6 (n5 (b6 g0 (b6 g0 g9))) (b6 (n5 (b6 g0 (b6 g0 g9))) g9))) (G1 (m4 (i6 (k:=9) (by decide)) (m4 (i6 (k:=9) (by decide)) G0)) rfl) (h9 (a7W (b6 d5 (b6 d5 (b6 d5 g9)))) (r0 (w9 (d9 a6p d5 g0)) (l7 (n5 (b6 d5 (b6 (d9 a3m d5 (d9 k9 d5 d5)) g9)))) u7))) (l7 g0))))))⟩
def a4B:SF:=(i5 (J3 (eB gGe (eB i0 (eV 0) (eC (.int 0))) (eB i0 (eV 1) (eC (.int 0)))) (J3 (eB gGe (eB i0 (eV 0) (eC (.int 1))) (eB i0 (eV 1) (eC (.int 1)))) (J3 (eB gLe (eB i0 (eV 0) (eC (.int 2))) (eB i0 (eV 1) (eC (.int 2)))) (eB gLe (eB i0 (eV 0) (eC (.int 3))) (eB i0 (eV 1) (eC (.int 3))))))))
def C7:List D→Option R1:=fD 2 2 a4B
theorem a8v:FnScope ["spot","piece"] ["spot","piece"] (d6 K8):=⟨rfl,rfl,rfl,by decide +kernel,rfl,by decide +kernel,by decide +kernel⟩
theorem a8w{f:Addr}{fd:FuncData}(F:Fun K "is_within" "is_within" K8 f fd)(T:Txt K mg c)  : FnOk P w K mg base (x9 P w) 3 f fd ["spot","piece"] (l5 K c C7) :=
 F.okD (k:=2) a8v fun cdv A outer s H E hr=>⟨_,(h7 (k6 (L7 (v3 a7f (i9 (j5 (K:=K)) (pv 0) g5 (fun _ _=>rfl)) (i9 (j5 (K:=K)) (pv 1) g5 (fun _ _=>rfl)) (j7 _)) (L7 (v3 a7f (i9 (j5 (K:=K)) (pv 0) g5 (fun _ _=>rfl)) (i9 (j5 (K:=K)) (pv 1) g5 (fun _ _=>rfl)) (j7 _)) (L7 (v3 a0Y (i9 (j5 (K:=K)) (pv 0) g5 (fun _ _=>rfl)) (i9 (j5 (K:=K)) (pv 1) g5 (fun _ _=>rfl)) (j7 _)) (O6 (v3 a0Y (i9 (j5 (K:=K)) (pv 0) g5 (fun _ _=>rfl)) (i9 (j5 (K:=K)) (pv 1) g5 (fun _ _=>rfl)) (j7 _)))))))),(l7 (M4 (d9 a7h (d9 k9 d5 g0) (d9 k9 d5 g0)) (M4 (d9 a7h (d9 k9 d5 g0) (d9 k9 d5 g0)) (M4 (d9 a06 (d9 k9 d5 g0) (d9 k9 d5 g0)) (d9 a06 (d9 k9 d5 g0) (d9 k9 d5 g0))))))⟩
def b23:SF:=(f9 (r9 1 (eL aN)) (f9 (a5N 0 (g6 2) (m5 (bZ (l6 u3 (aC (eV 2) aN))) (f9 (p6 3 (Q5 1)) (f9 (p6 4 (Q5 1)) (D4 1 (eB a08 (eV 2) (eT (aC (eV 3) (aC (eV 4) aN))))))) (D4 1 (eV 2)))) (i5 (n9 l4 1 (eC (.int 0))))))
def K0:List D→Option R1:=fD 5 1 b23
theorem Y8:FnScope ["heads","plans","head","first","second"] ["heads"] (d6 W0):=⟨rfl,rfl,rfl,by decide +kernel,rfl,by decide +kernel,by decide +kernel⟩
theorem b1z{f:Addr}{fd:FuncData}(F:Fun K "joined" "joined" W0 f fd)(T:Txt K mg c)(G_is_cut:Own P w K mg base 3 "is_cut" ["plan"] (l5 K c u3)):FnOk P w K mg base (x9 P w) 5 f fd ["heads"] (l5 K c K0) :=
 F.okD (k:=4) Y8 fun cdv A outer s H E hr=>⟨_,(g7 (p8 (i:=1) Y8.nd rfl (Or.inl rfl) (a0k d7)) (g7 (X2 PassesOwn.leaving rfl (b5D rfl T.z_reversed (a6 (pv 0) d7)) (j4 (i:=2) Y8.nd rfl (Or.inl rfl)) (h7 (u4 (z8 (y1 G_is_cut hr (by decide) C0 (a6 (pv 2) d7))) (g7 (p8 (i:=3) Y8.nd rfl (Or.inl rfl) (a34 (K:=K) PySem.F.plainAttrs_list PySem.F.slot_list_pop PySem.F.type_list_pop a48 (pv 1))) (g7 (p8 (i:=4) Y8.nd rfl (Or.inl rfl) (a34 (K:=K) PySem.F.plainAttrs_list PySem.F.slot_list_pop PySem.F.type_list_pop a48 (pv 1))) (h7 (Q9 (a0p (K:=K) PySem.F.plainAttrs_list PySem.F.slot_list_append PySem.F.type_list_append G5 (pv 1) (a6 (j6 (b2g (K:=K)) (pv 2) (j3 (a6 (pv 3) (a6 (pv 4) d7)))) d7)))))) (h7 (Q9 (a0p (K:=K) PySem.F.plainAttrs_list PySem.F.slot_list_append PySem.F.type_list_append G5 (pv 1) (a6 (pv 2) d7))))))) (h7 (k6 (i9 (u6 (K:=K)) (pv 1) g5 (fun _ _=>rfl)))))),(h9 (R9 (a4R g9)) (h9 (b2O (i6 (k:=5) (by decide)) (r0 (B0 (A2 (b6 d5 g9))) (h9 (A3 a5H) (h9 (A3 a5H) (a0u (b4r d5 (n5 (b6 d5 (b6 d5 g9))))))) (a0u d5))) (l7 (z9 A0 g0))))⟩
def b1A:SF:=(f9 (J4 3 B8 (aC (eV 0) (aC (eV 1) (aC (eV 2) aN)))) (f9 (m5 (bZ (eB (D3 true) (eV 3) (eC .non))) (N8 "BadPacking" "why" (aC (eV 3) aN)) m7) (f9 (J4 4 E4 (aC (eV 1) (aC (eV 2) aN))) (f9 (r9 5 (eL aN)) (f9 (r9 6 (eL (aC (eT (aC (eT (aC (eC (.int 0)) (aC (eC (.int 0)) (aC (eB i0 (eV 0) (eC (.int 0))) (aC (eB i0 (eV 0) (eC (.int 1))) aN))))) (aC (zN (nCB a4k (y4 t6 1))) aN))) aN))) (f9 (B5 (bZ (eB Z4 (y4 t6 6) (eC (.int 0)))) (f9 (Q1 (Q5 6) (w6 [(g6 7),(g6 8)])) (f9 (A1 9 n6 (aC (eV 7) (aC (eV 4) (aC (eV 2) (aC (eV 8) aN))))) (f9 (m5 (bZ (eB (D3 false) (eV 9) (eC .non))) (i5 (eT (aC (eC (.str "stuck")) (aC (eV 7) (aC (eV 8) aN))))) m7) (f9 (D4 5 (eV 9)) (m5 (bZ (l6 u3 (aC (eV 9) aN))) (a5Y (l6 t7 (aC (eV 7) (aC (eV 9) aN)))  (g6 10) (D4 6 (eT (aC (eV 10) (aC (zN (x8 8 1 [10,4] (g6 0) (bZ (l6 C7 (aC (n9 l4 2 (eV 0)) (aC (eV 1) aN)))) (eV 0))) aN))))) m7))))) 1000000) (i5 (eT (aC (eC (.str "plan")) (aC (l6 K0 (aC (eV 5) aN)) aN))))))))))
def B7:List D→Option R1:=fD 11 3 b1A
theorem C5:FnScope ["box","wares","places","why","spots","heads","waiting","piece","numbers","head","part"] ["box","wares","places"] (d6 G9):=⟨rfl,rfl,rfl,by decide +kernel,rfl,by decide +kernel,by decide +kernel⟩
theorem b0n{f:Addr}{fd:FuncData}(F:Fun K "plan_of" "plan_of" G9 f fd)(T:Txt K mg c)(G_fault:Own P w K mg base 7 "fault" ["box","wares","places"] (l5 K c B8))(G_spots_of:Own P w K mg base 7 "spots_of" ["wares","places"] (l5 K c E4))(G_leaf_or_cut:Own P w K mg base 5 "leaf_or_cut" ["piece","spots","places","numbers"] (l5 K c n6))(G_is_cut:Own P w K mg base 3 "is_cut" ["plan"] (l5 K c u3))(G_cut_spots:Own P w K mg base 3 "cut_spots" ["spot","plan"] (l5 K c t7))(G_is_within:Own P w K mg base 3 "is_within" ["spot","piece"] (l5 K c C7))(G_joined:Own P w K mg base 5 "joined" ["heads"] (l5 K c K0))(XI_BadPacking:b2T P w K mg base 3 "BadPacking" (c "BadPacking") ["self","why"] "why"):FnOk P w K mg base (x9 P w) 9 f fd ["box","wares","places"] (l5 K c B7) :=
 F.okD (k:=8) C5 fun cdv A outer s H E hr=>⟨_,(g7 (p8 (i:=3) C5.nd rfl (Or.inl rfl) (y1 G_fault hr (by decide) (XAcc.passes V4) (a6 (pv 0) (a6 (pv 1) (a6 (pv 2) d7))))) (g7 (u4 (r6 a59 (pv 3) S6 (j7 _)) (h7 (b1u V4 XI_BadPacking hr (by decide) rfl (a6 (pv 3) d7))) m8) (g7 (p8 (i:=4) C5.nd rfl (Or.inr rfl) (y1 G_spots_of hr (by decide) (XAcc.passes V4) (a6 (pv 1) (a6 (pv 2) d7)))) (g7 (p8 (i:=5) C5.nd rfl (Or.inl rfl) (a0k d7)) (g7 (p8 (i:=6) C5.nd rfl (Or.inl rfl) (a0k (a6 (j3 (a6 (j3 (a6 g5 (a6 g5 (a6 (i9 (j5 (K:=K)) (pv 0) g5 (fun _ _=>rfl)) (a6 (i9 (j5 (K:=K)) (pv 0) g5 (fun _ _=>rfl)) d7))))) (a6 (b0Y b2P rfl T.z_list rfl T.z_range boot_range (a6 (n4 (r8 (K:=K)) rfl T.z_len D6 (a6 (pv 1) d7)) d7)) d7))) d7))) (g7 (b1X PassesOwn.leaving (r6 a31 (n4 (r8 (K:=K)) rfl T.z_len D6 (a6 (pv 6) d7)) g5 (j7 _)) (g7 (a0h (a34 (K:=K) PySem.F.plainAttrs_list PySem.F.slot_list_pop PySem.F.type_list_pop a48 (pv 6)) (F7 (K:=K) (n:=2) rfl (m3 (j4 (i:=7) C5.nd rfl (Or.inl rfl)) (m3 (j4 (i:=8) C5.nd rfl (Or.inl rfl)) F6)))) (g7 (p8 (i:=9) C5.nd rfl (Or.inl rfl) (y1 G_leaf_or_cut hr (by decide) C0 (a6 (pv 7) (a6 (pv 4) (a6 (pv 2) (a6 (pv 8) d7)))))) (g7 (u4 (r6 b5d (pv 9) S6 (j7 _)) (h7 (k6 (j3 (a5e (a6 (pv 7) (a6 (pv 8) d7)))))) m8) (g7 (Q9 (a0p (K:=K) PySem.F.plainAttrs_list PySem.F.slot_list_append PySem.F.type_list_append G5 (pv 5) (a6 (pv 9) d7))) (h7 (u4 (z8 (y1 G_is_cut hr (by decide) C0 (a6 (pv 9) d7))) (h7 (X2 PassesOwn.leaving rfl (b4b rfl T.z_reversed (a6 (y1 G_cut_spots hr (by decide) C0 (a6 (pv 7) (a6 (pv 9) d7))) d7)) (j4 (i:=10) C5.nd rfl (Or.inr rfl)) (h7 (Q9 (a0p (K:=K) PySem.F.plainAttrs_list PySem.F.slot_list_append PySem.F.type_list_append G5 (pv 6) (a6 (j3 (a6 (pv 10) (a6 (a33 (Nc:=["k","part","spots"]) (k:=1) (js:=[10,4]) rfl ⟨by decide +kernel,rfl,by decide +kernel,(by change ∀y∈Scope.names _,y.2=NameKind.free→(d6 G9).names.lookup y.1=some .cell∨(d6 G9).names.lookup y.1=some .free;decide +kernel),by decide +kernel,rfl,rfl,by decide +kernel⟩ (R5 (pv 8)) (fun _ _ _ _ _=>(j4 (i:=0) (by show List.Nodup [("k" : Str),("part" : Str),("spots" : Str)];decide +kernel) rfl (Or.inl rfl))) (fun _ _ _ _ _=>(b5t (z8 (y1 G_is_within hr (by decide) C0 (a6 (i9 (u6 (K:=K)) (pv 2) (pv 0) (fun _ _=>rfl)) (a6 (pv 1) d7)))))) (fun _ _ _ _ _=>(pv 0))) d7))) d7)))))) m8))))))) (h7 (k6 (j3 (a6 u0 (a6 (y1 G_joined hr (by decide) C0 (a6 (pv 5) d7)) d7))))))))))),(h9 (a6q (b6 d5 (b6 d5 (b6 d5 g9)))) (h9 (r0 (w9 (d9 a6p d5 g0)) (b1v (b6 d5 g9)) u7) (h9 (a6q (b6 d5 (b6 d5 g9))) (h9 (R9 (a4R g9)) (h9 (R9 (a4R (b6 (n5 (b6 (n5 (b6 g0 (b6 g0 (b6 (d9 k9 d5 g0) (b6 (d9 k9 d5 g0) g9))))) (b6 (W6 (b5M b4q (L4 D8))) g9))) g9))) (h9 (b2F (w9 (d9 a37 (L4 D8) g0)) (h9 (a0v a5H (G1 (m4 (i6 (k:=11) (by decide)) (m4 (i6 (k:=11) (by decide)) G0)) rfl)) (h9 (a7W (b6 d5 (b6 d5 (b6 d5 (b6 d5 g9))))) (h9 (r0 (w9 (d9 b5O d5 g0)) (l7 (n5 (b6 g0 (b6 d5 (b6 d5 g9))))) u7) (h9 (a0u d5) (r0 (B0 (A2 (b6 d5 g9))) (b2Z (A2 (b6 d5 (b6 d5 g9))) (i6 (k:=11) (by decide)) (a0u (n5 (b6 d5 (b6 (W6 (Q4 (by decide) (i6 (k:=1) (by decide)) (B0 (A2 (b6 (z9 A0 d5) (b6 d5 g9)))) d5)) g9))))) u7)))))) (l7 (n5 (b6 g0 (b6 (A2 (b6 d5 g9)) g9))))))))))⟩
def b1B:SF:=(i5 (J3 (N6 0 "int") (a4S (N6 0 "bool"))))
def S5:List D→Option R1:=fD 1 1 b1B
theorem a51:FnScope ["_law_found"] ["_law_found"] (d6 M7):=⟨rfl,rfl,rfl,by decide +kernel,rfl,by decide +kernel,by decide +kernel⟩
theorem b0o{f:Addr}{fd:FuncData}(F:Fun K "_law_whole" "_law_whole" M7 f fd)(T:Txt K mg c)  : FnOk P w K mg base (x9 P w) 3 f fd ["_law_found"] (l5 K c S5) :=
 F.okD (k:=2) a51 fun cdv A outer s H E hr=>⟨_,(h7 (k6 (L7 (n4 (G6 (K:=K)) rfl T.z_isinstance w8 (a6 (pv 0) (a6 (V2 (v:=.ty "int") rfl T.z_int a5c rfl) d7))) (O6 (b0z (n4 (G6 (K:=K)) rfl T.z_isinstance w8 (a6 (pv 0) (a6 (V2 (v:=.ty "bool") rfl T.z_bool a88 rfl) d7)))))))),(l7 (M4 a1y (b1a a1y)))⟩
theorem a8U{f:Addr}{fd:FuncData}(F:Fun K "_law_whole" "_law_whole" M7 f fd)(T:Txt K mg c):FnOkW P w K mg base 3 f fd ["_law_found"] (l5 K c S5) :=
 F.okWD (k:=2) a51 fun cdv A outer s H hr=>⟨_,(h7 (k6 (L7 (n4 (G6 (K:=K)) rfl T.z_isinstance w8 (a6 (pv 0) (a6 (V2 (v:=.ty "int") rfl T.z_int a5c rfl) d7))) (O6 (b0z (n4 (G6 (K:=K)) rfl T.z_isinstance w8 (a6 (pv 0) (a6 (V2 (v:=.ty "bool") rfl T.z_bool a88 rfl) d7)))))))),(l7 (M4 a1y (b1a a1y)))⟩
def a8x:SF:=(f9 (m5 (bZ (eB F9 (eV 1) (y4 t6 0))) (i5 (n9 l4 0 (eV 1))) m7) (i5 (eC (.int 0))))
def E6:List D→Option R1:=fD 2 2 a8x
theorem b1C:FnScope ["_law_script","_law_k"] ["_law_script","_law_k"] (d6 W1):=⟨rfl,rfl,rfl,by decide +kernel,rfl,by decide +kernel,by decide +kernel⟩
theorem b1D{f:Addr}{fd:FuncData}(F:Fun K "_law_cell" "_law_cell" W1 f fd)(T:Txt K mg c)  : FnOk P w K mg base (x9 P w) 3 f fd ["_law_script","_law_k"] (l5 K c E6) :=
 F.okD (k:=2) b1C fun cdv A outer s H E hr=>⟨_,(g7 (u4 (r6 S8 (pv 1) (n4 (r8 (K:=K)) rfl T.z_len D6 (a6 (pv 0) d7)) (j7 _)) (h7 (k6 (i9 (u6 (K:=K)) (pv 0) (pv 1) (fun _ _=>rfl)))) m8) (h7 (k6 g5))),(h9 (r0 (w9 (d9 T7 d5 (L4 D8))) (l7 (z9 A0 d5)) u7) (l7 g0))⟩
def a8y:SF:=(i5 (eT (aC (eB y6 (eC (.int 1)) (eB B9 (eV 0) (eC (.int 4)))) (aC (eB y6 (eC (.int 1)) (eB B9 (eB V6 (eV 0) (eC (.int 4))) (eC (.int 4)))) (aC (eB (D7 false) (eB B9 (eB V6 (eV 0) (eC (.int 16))) (eC (.int 2))) (eC (.int 0))) aN)))))
def M8:List D→Option R1:=fD 1 1 a8y
theorem b1E:FnScope ["_law_cell_here"] ["_law_cell_here"] (d6 W2):=⟨rfl,rfl,rfl,by decide +kernel,rfl,by decide +kernel,by decide +kernel⟩
theorem b1F{f:Addr}{fd:FuncData}(F:Fun K "_law_ware" "_law_ware" W2 f fd)(T:Txt K mg c)  : FnOk P w K mg base (x9 P w) 3 f fd ["_law_cell_here"] (l5 K c M8) :=
 F.okD (k:=2) b1E fun cdv A outer s H E hr=>⟨_,(h7 (k6 (j3 (a6 (j6 A7 g5 (j6 B3 (pv 0) g5)) (a6 (j6 A7 g5 (j6 B3 (j6 J2 (pv 0) g5) g5)) (a6 (v3 a0X (j6 B3 (j6 J2 (pv 0) g5) g5) g5 (j7 _)) d7)))))),(l7 (n5 (b6 (d9 A8 g0 (d9 B4 d5 g0)) (b6 (d9 A8 g0 (d9 B4 (d9 T6 d5 g0) g0)) (b6 (d9 a07 (d9 B4 (d9 T6 d5 g0) g0) g0) g9)))))⟩
def a64:SF:=(f9 (p6 1 (eB B9 (eB a0r (eV 0) (eC (.int 48271))) (eC (.int 1000003)))) (f9 (p6 2 (eB (D7 false) (eB B9 (eV 1) (eC (.int 5))) (eC (.int 0)))) (f9 (m5 (bZ (eB (D7 false) (eB B9 (eB V6 (eV 1) (eC (.int 5))) (eC (.int 9))) (eC (.int 4)))) (i5 (eT (aC (eB y6 (eB a6o (eC (.int 10)) (eC (.int 40))) (eB B9 (eV 0) (eB a6o (eC (.int 10)) (eC (.int 40))))) (aC (eB B9 (eB V6 (eV 1) (eC (.int 45))) (eC (.int 6))) (aC (eV 2) aN))))) m7) (f9 (m5 (bZ (eB (D7 false) (eB B9 (eB V6 (eV 1) (eC (.int 5))) (eC (.int 9))) (eC (.int 5)))) (i5 (eT (aC (eB B9 (eB V6 (eV 1) (eC (.int 45))) (eC (.int 6))) (aC (eB N4 (eU a3k (eC (.int 1))) (eB B9 (eV 0) (eB a6o (eC (.int 10)) (eC (.int 40))))) (aC (eV 2) aN))))) m7) (i5 (eT (aC (eB N4 (eB B9 (eB V6 (eV 1) (eC (.int 45))) (eC (.int 12))) (eC (.int 1))) (aC (eB N4 (eB B9 (eB V6 (eV 1) (eC (.int 540))) (eC (.int 12))) (eC (.int 1))) (aC (eV 2) aN)))))))))
def J0:List D→Option R1:=fD 3 1 a64
theorem a2S:FnScope ["_law_cell_here","_law_mixed","_law_lie"] ["_law_cell_here"] (d6 S3):=⟨rfl,rfl,rfl,by decide +kernel,rfl,by decide +kernel,by decide +kernel⟩
theorem b0p{f:Addr}{fd:FuncData}(F:Fun K "_law_place" "_law_place" S3 f fd)(T:Txt K mg c)  : FnOk P w K mg base (x9 P w) 3 f fd ["_law_cell_here"] (l5 K c J0) :=
 F.okD (k:=2) a2S fun cdv A outer s H E hr=>⟨_,(g7 (p8 (i:=1) a2S.nd rfl (Or.inl rfl) (j6 B3 (j6 a6e (pv 0) g5) g5)) (g7 (p8 (i:=2) a2S.nd rfl (Or.inl rfl) (v3 a0X (j6 B3 (pv 1) g5) g5 (j7 _))) (g7 (u4 (r6 a0X (j6 B3 (j6 J2 (pv 1) g5) g5) g5 (j7 _)) (h7 (k6 (j3 (a6 (j6 A7 (j6 a7o g5 g5) (j6 B3 (pv 0) (j6 a7o g5 g5))) (a6 (j6 B3 (j6 J2 (pv 1) g5) g5) (a6 (pv 2) d7)))))) m8) (g7 (u4 (r6 a0X (j6 B3 (j6 J2 (pv 1) g5) g5) g5 (j7 _)) (h7 (k6 (j3 (a6 (j6 B3 (j6 J2 (pv 1) g5) g5) (a6 (j6 a24 (b6n b5c g5) (j6 B3 (pv 0) (j6 a7o g5 g5))) (a6 (pv 2) d7)))))) m8) (h7 (k6 (j3 (a6 (j6 a24 (j6 B3 (j6 J2 (pv 1) g5) g5) g5) (a6 (j6 a24 (j6 B3 (j6 J2 (pv 1) g5) g5) g5) (a6 (pv 2) d7)))))))))),(h9 (A3 (d9 B4 (d9 a7P d5 g0) g0)) (h9 (A3 (d9 a07 (d9 B4 d5 g0) g0)) (h9 (r0 (w9 (d9 a07 (d9 B4 (d9 T6 d5 g0) g0) g0)) (l7 (n5 (b6 (d9 A8 (d9 a7Q g0 g0) (d9 B4 d5 (d9 a7Q g0 g0))) (b6 (d9 B4 (d9 T6 d5 g0) g0) (b6 d5 g9))))) u7) (h9 (r0 (w9 (d9 a07 (d9 B4 (d9 T6 d5 g0) g0) g0)) (l7 (n5 (b6 (d9 B4 (d9 T6 d5 g0) g0) (b6 (d9 a3m (b5K b5L g0) (d9 B4 d5 (d9 a7Q g0 g0))) (b6 d5 g9))))) u7) (l7 (n5 (b6 (d9 a3m (d9 B4 (d9 T6 d5 g0) g0) g0) (b6 (d9 a3m (d9 B4 (d9 T6 d5 g0) g0) g0) (b6 d5 g9)))))))))⟩
def b1G:SF:=(f9 (m5 (bZ (eB (D7 true) (y4 t6 2) (y4 t6 1))) (i5 (eT (aC (eC (.str "count")) (aC (y4 t6 2) aN)))) m7) (f9 (r9 3 (eL aN)) (f9 (P7 Z3 (aC (y4 t6 1) aN) (g6 4) (f9 (Q1 (n9 l4 2 (eV 4)) (w6 [(g6 5),(g6 6),(g6 7)])) (f9 (m5 (y3 (bZ (eV 7)) (C1 (bZ (eB i0 (n9 l4 1 (eV 4)) (eC (.int 2)))))) (i5 (eT (aC (eC (.str "turn")) (aC (eV 4) aN)))) m7) (f9 (p6 8 (eB i0 (n9 l4 1 (eV 4)) (X6 (g1 U6) (aC (eV 7) aN)))) (f9 (p6 9 (eB i0 (n9 l4 1 (eV 4)) (eB N4 (eC (.int 1)) (X6 (g1 U6) (aC (eV 7) aN))))) (f9 (m5 (bOr (bZ (eB F9 (eV 5) (eC (.int 0)))) (bOr (bZ (eB F9 (eV 6) (eC (.int 0)))) (bOr (bZ (eB Z4 (eB y6 (eV 5) (eV 8)) (eB i0 (eV 0) (eC (.int 0))))) (bZ (eB Z4 (eB y6 (eV 6) (eV 9)) (eB i0 (eV 0) (eC (.int 1)))))))) (i5 (eT (aC (eC (.str "out")) (aC (eV 4) aN)))) m7) (f9 (P7 Z3 (aC (eV 4) aN) (g6 10) (m5 (y3 (bZ (eB F9 (eV 5) (eB i0 (n9 l4 3 (eV 10)) (eC (.int 2))))) (y3 (bZ (eB F9 (eB i0 (n9 l4 3 (eV 10)) (eC (.int 0))) (eB y6 (eV 5) (eV 8)))) (y3 (bZ (eB F9 (eV 6) (eB i0 (n9 l4 3 (eV 10)) (eC (.int 3))))) (bZ (eB F9 (eB i0 (n9 l4 3 (eV 10)) (eC (.int 1))) (eB y6 (eV 6) (eV 9))))))) (i5 (eT (aC (eC (.str "over")) (aC (eV 10) (aC (eV 4) aN))))) m7)) (D4 3 (eT (aC (eV 5) (aC (eV 6) (aC (eB y6 (eV 5) (eV 8)) (aC (eB y6 (eV 6) (eV 9)) aN))))))))))))) (i5 (eC .non)))))
def C8:List D→Option R1:=fD 11 3 b1G
theorem C6:FnScope ["_law_box","_law_wares","_law_places","_law_spots","_law_k","_law_x","_law_y","_law_lie","_law_w","_law_h","_law_i"] ["_law_box","_law_wares","_law_places"] (d6 S4):=⟨rfl,rfl,rfl,by decide +kernel,rfl,by decide +kernel,by decide +kernel⟩
theorem b0q{f:Addr}{fd:FuncData}(F:Fun K "_law_fault" "_law_fault" S4 f fd)(T:Txt K mg c)  : FnOk P w K mg base (x9 P w) 3 f fd ["_law_box","_law_wares","_law_places"] (l5 K c C8) :=
 F.okD (k:=2) C6 fun cdv A outer s H E hr=>⟨_,(g7 (u4 (r6 b3m (n4 (r8 (K:=K)) rfl T.z_len D6 (a6 (pv 2) d7)) (n4 (r8 (K:=K)) rfl T.z_len D6 (a6 (pv 1) d7)) (j7 _)) (h7 (k6 (j3 (a6 u0 (a6 (n4 (r8 (K:=K)) rfl T.z_len D6 (a6 (pv 2) d7)) d7))))) m8) (g7 (p8 (i:=3) C6.nd rfl (Or.inl rfl) (a0k d7)) (g7 (X2 PassesOwn.leaving rfl (a23 rfl T.z_range (a6 (n4 (r8 (K:=K)) rfl T.z_len D6 (a6 (pv 1) d7)) d7)) (j4 (i:=4) C6.nd rfl (Or.inl rfl)) (g7 (a0h (i9 (u6 (K:=K)) (pv 2) (pv 4) (fun _ _=>rfl)) (F7 (K:=K) (n:=3) rfl (m3 (j4 (i:=5) C6.nd rfl (Or.inl rfl)) (m3 (j4 (i:=6) C6.nd rfl (Or.inl rfl)) (m3 (j4 (i:=7) C6.nd rfl (Or.inl rfl)) F6))))) (g7 (u4 (PW.pt (S7 (z8 (pv 7)) (a0c (L6 (z8 (i9 (j5 (K:=K)) (i9 (u6 (K:=K)) (pv 1) (pv 4) (fun _ _=>rfl)) g5 (fun _ _=>rfl))))))) (h7 (k6 (j3 (a6 u0 (a6 (pv 4) d7))))) m8) (g7 (p8 (i:=8) C6.nd rfl (Or.inl rfl) (i9 (j5 (K:=K)) (i9 (u6 (K:=K)) (pv 1) (pv 4) (fun _ _=>rfl)) (a00 a6F rfl T.z_int a5c (a6 (pv 7) d7)) (fun _ _=>rfl))) (g7 (p8 (i:=9) C6.nd rfl (Or.inl rfl) (i9 (j5 (K:=K)) (i9 (u6 (K:=K)) (pv 1) (pv 4) (fun _ _=>rfl)) (j6 a24 g5 (a00 a6F rfl T.z_int a5c (a6 (pv 7) d7))) (fun _ _=>rfl))) (g7 (u4 (PW.pt (a7e (r6 S8 (pv 5) g5 (j7 _)) (a7e (r6 S8 (pv 6) g5 (j7 _)) (a7e (r6 a31 (j6 A7 (pv 5) (pv 8)) (i9 (j5 (K:=K)) (pv 0) g5 (fun _ _=>rfl)) (j7 _)) (b0y (r6 a31 (j6 A7 (pv 6) (pv 9)) (i9 (j5 (K:=K)) (pv 0) g5 (fun _ _=>rfl)) (j7 _))))))) (h7 (k6 (j3 (a6 u0 (a6 (pv 4) d7))))) m8) (g7 (X2 PassesOwn.leaving rfl (a23 rfl T.z_range (a6 (pv 4) d7)) (j4 (i:=10) C6.nd rfl (Or.inl rfl)) (h7 (u4 (PW.pt (S7 (r6 S8 (pv 5) (i9 (j5 (K:=K)) (i9 (u6 (K:=K)) (pv 3) (pv 10) (fun _ _=>rfl)) g5 (fun _ _=>rfl)) (j7 _)) (S7 (r6 S8 (i9 (j5 (K:=K)) (i9 (u6 (K:=K)) (pv 3) (pv 10) (fun _ _=>rfl)) g5 (fun _ _=>rfl)) (j6 A7 (pv 5) (pv 8)) (j7 _)) (S7 (r6 S8 (pv 6) (i9 (j5 (K:=K)) (i9 (u6 (K:=K)) (pv 3) (pv 10) (fun _ _=>rfl)) g5 (fun _ _=>rfl)) (j7 _)) (a0c (r6 S8 (i9 (j5 (K:=K)) (i9 (u6 (K:=K)) (pv 3) (pv 10) (fun _ _=>rfl)) g5 (fun _ _=>rfl)) (j6 A7 (pv 6) (pv 9)) (j7 _))))))) (h7 (k6 (j3 (a5e (a6 (pv 10) (a6 (pv 4) d7)))))) m8))) (h7 (Q9 (a0p (K:=K) PySem.F.plainAttrs_list PySem.F.slot_list_append PySem.F.type_list_append G5 (pv 3) (a6 (j3 (a6 (pv 5) (a6 (pv 6) (a6 (j6 A7 (pv 5) (pv 8)) (a6 (j6 A7 (pv 6) (pv 9)) d7))))) d7))))))))))) (h7 (k6 S6))))),(h9 (r0 (w9 (d9 b3x (L4 D8) (L4 D8))) (l7 (n5 (b6 g0 (b6 (L4 D8) g9)))) u7) (h9 (R9 (a4R g9)) (h9 (a7Y (b6 (L4 D8) g9) (i6 (k:=11) (by decide)) (h9 (a0v (z9 A0 d5) (G1 (m4 (i6 (k:=11) (by decide)) (m4 (i6 (k:=11) (by decide)) (m4 (i6 (k:=11) (by decide)) G0))) rfl)) (h9 (r0 (N3 (B0 d5) (F8 (B0 (d9 k9 (z9 A0 d5) g0)))) (l7 (n5 (b6 g0 (b6 d5 g9)))) u7) (h9 (A3 (d9 k9 (z9 A0 d5) (a05 a9v.cb (b6 d5 g9)))) (h9 (A3 (d9 k9 (z9 A0 d5) (d9 a3m g0 (a05 a9v.cb (b6 d5 g9))))) (h9 (r0 (a5q (w9 (d9 T7 d5 g0)) (a5q (w9 (d9 T7 d5 g0)) (a5q (w9 (d9 a37 (d9 A8 d5 d5) (d9 k9 d5 g0))) (w9 (d9 a37 (d9 A8 d5 d5) (d9 k9 d5 g0)))))) (l7 (n5 (b6 g0 (b6 d5 g9)))) u7) (h9 (a7Y (b6 d5 g9) (i6 (k:=11) (by decide)) (r0 (N3 (w9 (d9 T7 d5 (d9 k9 (z9 A0 d5) g0))) (N3 (w9 (d9 T7 (d9 k9 (z9 A0 d5) g0) (d9 A8 d5 d5))) (N3 (w9 (d9 T7 d5 (d9 k9 (z9 A0 d5) g0))) (w9 (d9 T7 (d9 k9 (z9 A0 d5) g0) (d9 A8 d5 d5)))))) (l7 (n5 (b6 g0 (b6 d5 (b6 d5 g9))))) u7)) (a0u (n5 (b6 d5 (b6 d5 (b6 (d9 A8 d5 d5) (b6 (d9 A8 d5 d5) g9))))))))))))) (l7 g0))))⟩
def b0r:SF:=(f9 (m5 (bZ (X6 (a7i xT) (aC (eV 0) (aC (eT (aC (eC (.cls "BadPlan")) (aC (eC (.cls "BadSide")) (aC (eC (.cls "BadTurn")) (aC (eC (.cls "Full")) (aC (eC (.cls "Hangs")) (aC (eC (.cls "NoDeed")) (aC (eC (.cls "NoDrawing")) (aC (eC (.cls "NoPicker")) (aC (eC (.cls "NoSheet")) aN)))))))))) aN)))) (i5 (eT (aC (eC (.str "other")) aN))) m7) (f9 (m5 (bZ (X6 (a7i xT) (aC (eV 0) (aC (eT (aC (eC (.cls "NoText")) (aC (eC (.cls "NoWare")) (aC (eC (.cls "NoWeighing")) (aC (eC (.cls "NothingDone")) (aC (eC (.cls "Ring")) (aC (eC (.cls "TooMany")) (aC (eC (.cls "TooWide")) aN)))))))) aN)))) (i5 (eT (aC (eC (.str "other")) aN))) m7) (f9 (m5 (C1 (bZ (X6 (a7j x1 x2) (aC (eV 0) (aC (eC (.ty "ValueError")) aN))))) (i5 (eT (aC (eC (.str "other")) aN))) m7) (f9 (m5 (bOr (C1 (bZ (X6 (a7j x1 x2) (aC (eV 0) (aC (eC (.cls "BadPacking")) aN))))) (C1 (bZ (X6 a70 (aC (eU (a0U P0 "why") (eV 0)) (aC (eC (.ty "tuple")) aN)))))) (i5 (eT (aC (eC (.str "other")) aN))) m7) (f9 (L5 (a4W (eU (a0U P0 "why") (eV 0)) (oS (eC (.int 1))) oN)  (g6 1) (m5 (C1 (bZ (l6 S5 (aC (eV 1) aN)))) (i5 (eT (aC (eC (.str "other")) aN))) m7)) (i5 (eT (aC (eC (.str "refused")) (aC (eU (a0U P0 "why") (eV 0)) aN)))))))))
def B2:List D→Option R1:=fD 2 1 b0r
theorem a4C:FnScope ["_law_refusal","_law_number"] ["_law_refusal"] (d6 O0):=⟨rfl,rfl,rfl,by decide +kernel,rfl,by decide +kernel,by decide +kernel⟩
theorem a8V{f b:Addr}{fd:FuncData}(F:Fun K "_law_why_of" "_law_why_of" O0 f fd)(T:Txt K mg c)(GW_l_whole:OwnW P w K mg base 3 "_law_whole" ["_law_found"] (l5 K c S5)):FnOkH P w K mg base 5 b f fd ["_law_refusal"] (spH b K c B2) :=
 F.okHD (k:=4) a4C fun cdv A outer s H hr hh=>⟨_,(g7 (u4 (z8 (n4 (a5d (K:=K)) rfl T.z_isinstance w8 (a6 (pv 0) (a6 (j3 (a6 (z7 (v:=.ref (c "BadPlan")) rfl T.m_BadPlan rfl) (a6 (z7 (v:=.ref (c "BadSide")) rfl T.m_BadSide rfl) (a6 (z7 (v:=.ref (c "BadTurn")) rfl T.m_BadTurn rfl) (a6 (z7 (v:=.ref (c "Full")) rfl T.m_Full rfl) (a6 (z7 (v:=.ref (c "Hangs")) rfl T.m_Hangs rfl) (a6 (z7 (v:=.ref (c "NoDeed")) rfl T.m_NoDeed rfl) (a6 (z7 (v:=.ref (c "NoDrawing")) rfl T.m_NoDrawing rfl) (a6 (z7 (v:=.ref (c "NoPicker")) rfl T.m_NoPicker rfl) (a6 (z7 (v:=.ref (c "NoSheet")) rfl T.m_NoSheet rfl) d7)))))))))) d7)))) (h7 (k6 (j3 (a6 u0 d7)))) m8) (g7 (u4 (z8 (n4 (a5d (K:=K)) rfl T.z_isinstance w8 (a6 (pv 0) (a6 (j3 (a6 (z7 (v:=.ref (c "NoText")) rfl T.m_NoText rfl) (a6 (z7 (v:=.ref (c "NoWare")) rfl T.m_NoWare rfl) (a6 (z7 (v:=.ref (c "NoWeighing")) rfl T.m_NoWeighing rfl) (a6 (z7 (v:=.ref (c "NothingDone")) rfl T.m_NothingDone rfl) (a6 (z7 (v:=.ref (c "Ring")) rfl T.m_Ring rfl) (a6 (z7 (v:=.ref (c "TooMany")) rfl T.m_TooMany rfl) (a6 (z7 (v:=.ref (c "TooWide")) rfl T.m_TooWide rfl) d7)))))))) d7)))) (h7 (k6 (j3 (a6 u0 d7)))) m8) (g7 (u4 (L6 (z8 (n4 (G6 (K:=K)) rfl T.z_isinstance w8 (a6 (pv 0) (a6 (V2 (v:=.ty "ValueError") rfl T.z_ValueError a69 rfl) d7))))) (h7 (k6 (j3 (a6 u0 d7)))) m8) (g7 (u4 (PW.pt (a7e (L6 (z8 (n4 (G6 (K:=K)) rfl T.z_isinstance w8 (a6 (pv 0) (a6 (z7 (v:=.ref (c "BadPacking")) rfl T.m_BadPacking rfl) d7))))) (b0y (L6 (z8 (n4 (G6 (K:=K)) rfl T.z_isinstance w8 (a6 (a7K (pv 0) rfl) (a6 (V2 (v:=.ty "tuple") rfl T.z_tuple a7y rfl) d7)))))))) (h7 (k6 (j3 (a6 u0 d7)))) m8) (g7 (b4v PassesOwn.never hh (a7p (b34 (K:=K)) (a7K (pv 0) rfl) (a5_ g5) b3U) (j4 (i:=1) a4C.nd rfl (Or.inl rfl)) (h7 (u4 (L6 (z8 (b33 GW_l_whole hr (a6 (pv 1) d7)))) (h7 (k6 (j3 (a6 u0 d7)))) m8))) (h7 (k6 (j3 (a6 u0 (a6 (a7K (pv 0) rfl) d7)))))))))),(a2q (a3Y (r0 (B0 (a05 (a9r (b3E T)) (b6 d5 (b6 (n5 (b6 g0 (b6 g0 (b6 g0 (b6 g0 (b6 g0 (b6 g0 (b6 g0 (b6 g0 (b6 g0 g9)))))))))) g9)))) (l7 (n5 (b6 g0 g9))) u7)) (a2q (a3Y (r0 (B0 (a05 (a9r (b3E T)) (b6 d5 (b6 (n5 (b6 g0 (b6 g0 (b6 g0 (b6 g0 (b6 g0 (b6 g0 (b6 g0 g9)))))))) g9)))) (l7 (n5 (b6 g0 g9))) u7)) (a2q (a3Y (r0 (F8 (B0 (a05 (a9s (b3F T) (b3G T)) (b6 d5 (b6 g0 g9))))) (l7 (n5 (b6 g0 g9))) u7)) (a2q (a3Y (r0 (a5q (F8 (B0 (a05 (a9s (b3F T) (b3G T)) (b6 d5 (b6 g0 g9))))) (F8 (B0 (a05 b5U (b6 (a8s (a3Z T) d5) (b6 g0 g9)))))) (l7 (n5 (b6 g0 g9))) u7)) (a2q (b4w (b5W (a8s (a3Z T) d5) (b0g g0) b6y) (i6 (k:=2) (by decide)) (r0 (F8 (B0 (b2H (b6 d5 g9)))) (l7 (n5 (b6 g0 g9))) u7)) (a3Y (l7 (n5 (b6 g0 (b6 (a8s (a3Z T) d5) g9))))))))))⟩
def b0s:SF:=(f9 (p6 3 (eC .non)) (f9 (p6 4 (eT (aC (eC (.str "other")) aN))) (f9 (a0b 3 B7 (aC (eV 0) (aC (eV 1) (aC (eV 2) aN))) (hAs 5 t9 (A1 4 B2 (aC (eV 5) aN)) hN)) (f9 (m5 (y3 (bZ (N6 3 "tuple")) (y3 (bZ (eB Z4 (y4 t6 3) (eC (.int 1)))) (bZ (eB (gIn false) (eB i0 (eV 3) (eC (.int 0))) (eT (aC (eC (.str "plan")) (aC (eC (.str "stuck")) aN))))))) (p6 4 (eT (aC (eC (.str "answered")) aN))) m7) (N5 4)))))
def K3:List D→Option R1:=fD 6 3 b0s
theorem E7:FnScope ["_law_box","_law_wares","_law_places","_law_found","_law_told","e"] ["_law_box","_law_wares","_law_places"] (d6 O1):=⟨rfl,rfl,rfl,by decide +kernel,rfl,by decide +kernel,by decide +kernel⟩
theorem a8W{f:Addr}{fd:FuncData}(F:Fun K "_law_answer" "_law_answer" O1 f fd)(T:Txt K mg c)(G_l_why_of:OwnH P w K mg base 5 "_law_why_of" ["_law_refusal"] ((fun b=>spH b K c B2)))(G_plan_of:Own P w K mg base 9 "plan_of" ["box","wares","places"] (l5 K c B7)):FnOk P w K mg base (x9 P w) 11 f fd ["_law_box","_law_wares","_law_places"] (l5 K c K3) :=
 F.okD (k:=10) E7 fun cdv A outer s H E hr=>⟨_,(g7 (p8 (i:=3) E7.nd rfl (Or.inl rfl) S6) (g7 (p8 (i:=4) E7.nd rfl (Or.inl rfl) (j3 (a6 u0 d7))) (g7 (b4s G_plan_of hr (by decide) (i:=3) E7.nd rfl (Or.inl rfl) (fun E2 pins=>(a6 (pv 0) (a6 (pv 1) (a6 (pv 2) d7)))) (b6r rfl T.m_CrateError E7.nd (i:=5) rfl (fun a=>(h7 (p8 (i:=4) E7.nd rfl (Or.inl rfl) (b4z G_l_why_of (hr.w _) (b:=a) rfl (a6 (pv 5) d7))))) b5B)) (g7 (u4 (PW.pt (S7 (z8 (n4 (G6 (K:=K)) rfl T.z_isinstance w8 (a6 (pv 3) (a6 (V2 (v:=.ty "tuple") rfl T.z_tuple a7y rfl) d7)))) (S7 (r6 a31 (n4 (r8 (K:=K)) rfl T.z_len D6 (a6 (pv 3) d7)) g5 (j7 _)) (a0c (r6 (b0T (K:=K)) (i9 (j5 (K:=K)) (pv 3) g5 (fun _ _=>rfl)) (j3 (a6 u0 (a6 u0 d7))) (by with_unfolding_all rfl)))))) (h7 (p8 (i:=4) E7.nd rfl (Or.inl rfl) (j3 (a6 u0 d7)))) m8) (h7 (k6 (pv 4))))))),(h9 (A3 g0) (h9 (A3 (n5 (b6 g0 g9))) (h9 (b4t (b6 d5 (b6 d5 (b6 d5 g9))) (b4y (a43 T) (fun a=>(b2X (b6 d5 g9))) b6B)) (h9 (r0 (N3 (B0 a1y) (N3 (w9 (d9 a37 (L4 D8) g0)) (w9 (d9 b3y (d9 k9 d5 g0) (n5 (b6 g0 (b6 g0 g9))))))) (A3 (n5 (b6 g0 g9))) u7) a9l))))⟩
def b6E:SF:=(f9 (p6 1 (eT (aC (eB B9 (l6 E6 (aC (eV 0) (aC (eC (.int 0)) aN))) (eC (.int 13))) (aC (eB B9 (l6 E6 (aC (eV 0) (aC (eC (.int 1)) aN))) (eC (.int 13))) aN)))) (f9 (r9 2 (a2L 0 (oS (eC (.int 3))) (oS (eC (.int 11))))) (f9 (r9 3 (x8 2 1 [] (g6 0) v9 (l6 M8 (aC (eV 0) aN)))) (f9 (r9 4 (x8 2 1 [] (g6 0) v9 (l6 J0 (aC (eV 0) aN)))) (f9 (p6 5 (eB B9 (l6 E6 (aC (eV 0) (aC (eC (.int 2)) aN))) (eC (.int 8)))) (f9 (m5 (bZ (eB (D7 false) (eV 5) (eC (.int 1)))) (D4 4 (eT (aC (eC (.int 0)) (aC (eC (.int 0)) (aC (eC (.bl false)) aN))))) m7) (f9 (m5 (y3 (bZ (eB (D7 false) (eV 5) (eC (.int 2)))) (bZ (eB Z4 (y4 t6 4) (eC (.int 0))))) (sEx (Q5 4)) m7) (f9 (m5 (bZ (eB Z4 (eV 5) (eC (.int 4)))) (r9 4 (O9 Z3 1 [] (aC (y4 t6 3) aN) (g6 0) v9 (eT (aC (eB a0r (eC (.int 4)) (eB B9 (eV 0) (eC (.int 3)))) (aC (eB a0r (eC (.int 4)) (eB V6 (eV 0) (eC (.int 3)))) (aC (eC (.bl false)) aN)))))) m7) (f9 (p6 6 (a5J (l6 C8 (aC (eV 1) (aC (eV 3) (aC (eV 4) aN)))))) (f9 (p6 7 (eT (aC (eC (.str "answered")) aN))) (f9 (m5 (bZ (eB (D3 true) (eV 6) (eC .non))) (p6 7 (eT (aC (eC (.str "refused")) (aC (eV 6) aN)))) m7) (f9 (r9 8 (eL (aC (zN (nCV T8 3)) (aC (zN (nCV T8 4)) aN)))) (i5 (J3 (eB (D5 false) (l6 K3 (aC (eV 1) (aC (n9 l4 8 (eC (.int 0))) (aC (n9 l4 8 (eC (.int 1))) aN)))) (eV 7)) (n9 (D5 false) 8 (zN (eL (aC (eV 3) (aC (eV 4) aN)))))))))))))))))))
def b3H:List D→Option R1:=fD 9 1 b6E
theorem M9:FnScope ["_law_script","_law_box","_law_cells","_law_wares","_law_places","_law_kind","_law_why","_law_due","_law_handed"] ["_law_script"] (d6 F5):=⟨rfl,rfl,rfl,by decide +kernel,rfl,by decide +kernel,by decide +kernel⟩
theorem b4A{f:Addr}{fd:FuncData}(F:Fun K "law" "law" F5 f fd)(T:Txt K mg c)(G_l_cell:Own P w K mg base 3 "_law_cell" ["_law_script","_law_k"] (l5 K c E6))(G_l_ware:Own P w K mg base 3 "_law_ware" ["_law_cell_here"] (l5 K c M8))(G_l_place:Own P w K mg base 3 "_law_place" ["_law_cell_here"] (l5 K c J0))(G_l_fault:Own P w K mg base 3 "_law_fault" ["_law_box","_law_wares","_law_places"] (l5 K c C8))(G_l_answer:Own P w K mg base 11 "_law_answer" ["_law_box","_law_wares","_law_places"] (l5 K c K3)):FnOk P w K mg base (x9 P w) 13 f fd ["_law_script"] (l5 K c b3H) :=
 F.okD (k:=12) M9 fun cdv A outer s H E hr=>⟨_,(g7 (p8 (i:=1) M9.nd rfl (Or.inl rfl) (j3 (a6 (j6 B3 (y1 G_l_cell hr (by decide) C0 (a6 (pv 0) (a6 g5 d7))) g5) (a6 (j6 B3 (y1 G_l_cell hr (by decide) C0 (a6 (pv 0) (a6 g5 d7))) g5) d7)))) (g7 (p8 (i:=2) M9.nd rfl (Or.inl rfl) (a7p (b2f (K:=K)) (pv 0) (a5_ g5) (a5_ g5))) (g7 (Z6 (i:=3) (Nc:=["_law_cell_here"]) (k:=1) (js:=[]) rfl ⟨by decide +kernel,rfl,by decide +kernel,(by change ∀y∈Scope.names _,y.2=NameKind.free→(d6 F5).names.lookup y.1=some .cell∨(d6 F5).names.lookup y.1=some .free;decide +kernel),by decide +kernel,rfl,rfl,by decide +kernel⟩ M9.nd rfl (R5 (pv 2)) (fun _ _ _ _ _=>(j4 (i:=0) (by show List.Nodup [("_law_cell_here" : Str)];decide +kernel) rfl (Or.inl rfl))) (fun _ _ _ _ _=>X4) (fun _ _ _ _ _=>(y1 G_l_ware hr (by decide) C0 (a6 (pv 0) d7)))) (g7 (Z6 (i:=4) (Nc:=["_law_cell_here"]) (k:=1) (js:=[]) rfl ⟨by decide +kernel,rfl,by decide +kernel,(by change ∀y∈Scope.names _,y.2=NameKind.free→(d6 F5).names.lookup y.1=some .cell∨(d6 F5).names.lookup y.1=some .free;decide +kernel),by decide +kernel,rfl,rfl,by decide +kernel⟩ M9.nd rfl (R5 (pv 2)) (fun _ _ _ _ _=>(j4 (i:=0) (by show List.Nodup [("_law_cell_here" : Str)];decide +kernel) rfl (Or.inl rfl))) (fun _ _ _ _ _=>X4) (fun _ _ _ _ _=>(y1 G_l_place hr (by decide) C0 (a6 (pv 0) d7)))) (g7 (p8 (i:=5) M9.nd rfl (Or.inl rfl) (j6 B3 (y1 G_l_cell hr (by decide) C0 (a6 (pv 0) (a6 g5 d7))) g5)) (g7 (u4 (r6 a0X (pv 5) g5 (j7 _)) (h7 (Q9 (a0p (K:=K) PySem.F.plainAttrs_list PySem.F.slot_list_append PySem.F.type_list_append G5 (pv 4) (a6 (j3 (a6 g5 (a6 g5 (a6 b3g d7)))) d7)))) m8) (g7 (u4 (PW.pt (S7 (r6 a0X (pv 5) g5 (j7 _)) (a0c (r6 a31 (n4 (r8 (K:=K)) rfl T.z_len D6 (a6 (pv 4) d7)) g5 (j7 _))))) (h7 (Q9 (a34 (K:=K) PySem.F.plainAttrs_list PySem.F.slot_list_pop PySem.F.type_list_pop a48 (pv 4)))) m8) (g7 (u4 (r6 a31 (pv 5) g5 (j7 _)) (h7 (Z6 (i:=4) (Nc:=["_law_k"]) (k:=1) (js:=[]) rfl ⟨by decide +kernel,rfl,by decide +kernel,(by change ∀y∈Scope.names _,y.2=NameKind.free→(d6 F5).names.lookup y.1=some .cell∨(d6 F5).names.lookup y.1=some .free;decide +kernel),by decide +kernel,rfl,rfl,by decide +kernel⟩ M9.nd rfl (a23 rfl T.z_range (a6 (n4 (r8 (K:=K)) rfl T.z_len D6 (a6 (pv 3) d7)) d7)) (fun _ _ _ _ _=>(j4 (i:=0) (by show List.Nodup [("_law_k" : Str)];decide +kernel) rfl (Or.inl rfl))) (fun _ _ _ _ _=>X4) (fun _ _ _ _ _=>(j3 (a6 (j6 a6e g5 (j6 B3 (pv 0) g5)) (a6 (j6 a6e g5 (j6 J2 (pv 0) g5)) (a6 b3g d7))))))) m8) (g7 (p8 (i:=6) M9.nd rfl (Or.inl rfl) (y1 G_l_fault hr (by decide) C0 (a6 (pv 1) (a6 (pv 3) (a6 (pv 4) d7))))) (g7 (p8 (i:=7) M9.nd rfl (Or.inl rfl) (j3 (a6 u0 d7))) (g7 (u4 (r6 a59 (pv 6) S6 (j7 _)) (h7 (p8 (i:=7) M9.nd rfl (Or.inl rfl) (j3 (a6 u0 (a6 (pv 6) d7))))) m8) (g7 (p8 (i:=8) M9.nd rfl (Or.inl rfl) (a0k (a6 (a00 (a2V (K:=K)) rfl T.z_list a6f (a6 (pv 3) d7)) (a6 (a00 (a2V (K:=K)) rfl T.z_list a6f (a6 (pv 4) d7)) d7)))) (h7 (k6 (L7 (v3 (a6u (K:=K) (cl:=c) (b2M hr)) (y1 G_l_answer hr (by decide) C0 (a6 (pv 1) (a6 (i9 (u6 (K:=K)) (pv 8) g5 (fun _ _=>rfl)) (a6 (i9 (u6 (K:=K)) (pv 8) g5 (fun _ _=>rfl)) d7)))) (pv 7) (j7 _)) (O6 (v3 (a6u (K:=K) (cl:=c) (b2M hr)) (pv 8) (a0k (a6 (pv 3) (a6 (pv 4) d7))) (j7 _)))))))))))))))))),(h9 (A3 (n5 (b6 (d9 B4 (A2 (b6 d5 (b6 g0 g9))) g0) (b6 (d9 B4 (A2 (b6 d5 (b6 g0 g9))) g0) g9)))) (h9 (R9 (b5V (b0g g0) (b0g g0))) (h9 (Z8 (Q4 (by decide) (i6 (k:=1) (by decide)) M6 (A2 (b6 d5 g9)))) (h9 (Z8 (Q4 (by decide) (i6 (k:=1) (by decide)) M6 (A2 (b6 d5 g9)))) (h9 (A3 (d9 B4 (A2 (b6 d5 (b6 g0 g9))) g0)) (h9 (r0 (w9 (d9 a07 d5 g0)) (a0u (n5 (b6 g0 (b6 g0 (b6 g0 g9))))) u7) (h9 (r0 (N3 (w9 (d9 a07 d5 g0)) (w9 (d9 a37 (L4 D8) g0))) (b6w a5H) u7) (h9 (r0 (w9 (d9 a37 d5 g0)) (Z8 (b1g (by decide) (b6 (L4 D8) g9) (i6 (k:=1) (by decide)) M6 (n5 (b6 (d9 a7P g0 (d9 B4 d5 g0)) (b6 (d9 a7P g0 (d9 T6 d5 g0)) (b6 g0 g9)))))) u7) (h9 (A3 (b2N (A2 (b6 d5 (b6 d5 (b6 d5 g9)))))) (h9 (A3 (n5 (b6 g0 g9))) (h9 (r0 (w9 (d9 a6p d5 g0)) (A3 (n5 (b6 g0 (b6 d5 g9)))) u7) (h9 (R9 (a4R (b6 (W6 (b1c a9i)) (b6 (W6 (b1c a9i)) g9)))) (l7 (M4 (d9 a76 (A2 (b6 d5 (b6 (z9 A0 g0) (b6 (z9 A0 g0) g9)))) d5) (z9 a76 (W6 (a4R (b6 d5 (b6 d5 g9)))))))))))))))))))⟩
end Law
namespace Law
open PySem L2 PyProof.Rows
variable {P:Program}{w:World}{K:PySem.W.Frag}{mg:Str→Option Value}{base:Heap}{c:Str→Addr}
local macro_rules|`(tactic|walk_at $s:str)=>do
 let t←`(tactic|simp(decide:=true)only[*,a5A,a1z,V7,a1A,a1B,a1M,a1C,a1D,a1E,a1F,a0x,a1G,a1H,a1I,a1J,a3r,a0y,a0z,X9,Y0,a0A,U0,U1,Y1,Y2,Y3,a0B,U2,U3,a1K,V8,a1N,a1L,a1O,a0C,a1P,a1Q,a1R,a1S,a1U,a1T,a1V,a0D,G8,E1,a2e,a2f,a2g,a2h,a2j,a2i,S0,Y5,N7,n8,Q3,O9,a3A,a5y,x8,a0F,a2K,a5D,a3J,a6w,a8b,a0I,a3F,a3G,a0J,a3H,a3I,G2,a19,a1_,a2a,a2b,noL,noLs,nSl,a2L,oN,oS,a4W,a72,a5E,a4d,a5w,a5x,M5,unhide,Y4,a13,a1Z,a11,a12,a1W,a1X,a1Y,a7R,Z1,O8,D5,u5,D0,i7,v5,E5,A4,J8,Nat.max_self,Nat.zero_max,Nat.max_zero,decide_true,Bool.or_true,Bool.true_or,Bool.or_false,List.isEmpty_nil,a5F,a5G,a2l,U6,gIn,inD,List.any_cons,List.any_nil,a73,Q5,a8f,a3C,a74,a5I,j9,List.all_cons,List.all_nil,Bool.and_self,Bool.and_true,Bool.true_and,beq_self_eq_true,a14,a15,a3t,a3u,a3v,a3w,a3x,a3y,a16,a0d,a0e,m5,p6,r9,J4,A1,i5,a2D,a5u,a3n,N5,a3L,a3M,a3P,a3Q,a2o,a2p,a3W,auN,auM,auE,asU,a1d,Y7,a3V,fU,uS,a8o,uIf,a8p,uNx,a8q,a8r,a5U,a5V,a3R,a3S,a5M,a3O,fM,mNx,a8i,mIf,a8j,a8k,a5v,m7,sBk,sCt,Q1,a0t,N8,a3X,a5W,a0U,XN.nm,XN.d,a17,a18,sEx,D4,a8e,a5L,a3K,a8m,a8n,a5O,lookD,a5P,a5T,a5Q,a5R,a5S,a2Q,a0T,a2m,a2n,a7U,L5,a3o,P7,a3N,a3U,a2c,a0P,a0Q,a0L,a0M,a0N,a0O,a0K,a2d,a0S,Y6,eC,eV,eB,n9,eBW,a7N,eT,eL,zN,aN,aC,W7,l6,a4S,J3,eOr,eIf,nIf,eU,a3k,X6,y4,nCB,nCV,nB,O5,g1,t6,a7S,T8,bZ,C1,y3,bOr,v9,a0R,w6,T9,L9,a3g,a3h,O7,a3i,a3j,M0,M1,look,i0,l4,a1v,a1w,D3,a2k,N6,W8,tyN,a3q,seqL,a2I,a2J,a4b,a4c,List.map_cons,List.map_nil,List.length_cons,List.length_nil,List.cons_append,List.nil_append,List.replicate_succ,List.replicate_zero,List.getElem?_cons_zero,List.getElem?_cons_succ,List.set_cons_zero,List.set_cons_succ,Nat.reduceAdd,Nat.reduceSub,if_true,if_false,Bool.not_true,Bool.not_false,Bool.not_not,Nat.zero_add,Bool.false_eq_true,decide_eq_true_eq,Bool.not_eq_true',decide_eq_false_iff_not,Option.map_some,Option.map_none,ite_self,t9,P0])
 return if s.getString=="eh" then t.raw else t.raw.modifyArg 4 (·.modifyArg 1 fun l=>l.setArg 0 l[2])
abbrev T3:=Int×Int×Bool
abbrev T4:=Int×Int×Int×Int
def bad(q:T3×T3):Bool:=q.2.2.2 && !q.1.2.2
def p5(q:T3×T3):T4:=if q.2.2.2=true then(q.2.1,q.2.2.1,q.2.1+q.1.2.1,q.2.2.1+q.1.1)else(q.2.1,q.2.2.1,q.2.1+q.1.1,q.2.2.1+q.1.2.1)
def ap(s t:T4):Bool:=(decide (s.2.2.1≤t.1) || decide (t.2.2.1≤s.1)) || (decide (s.2.2.2≤t.2.1) || decide (t.2.2.2≤s.2.1))
theorem b1H(s t:T4):ap s t=true↔((s.2.2.1≤t.1∨t.2.2.1≤s.1)∨(s.2.2.2≤t.2.1∨t.2.2.2≤s.2.1)):=by
 unfold ap;simp only[Bool.or_eq_true,decide_eq_true_eq]
def ins(bx:Int×Int)(s:T4):Bool:=decide (0≤s.1) && (decide (0≤s.2.1) && (decide (s.2.2.1≤bx.1) && decide (s.2.2.2≤bx.2)))
theorem a4m(bx:Int×Int)(s:T4):ins bx s=true↔(0≤s.1∧0≤s.2.1∧s.2.2.1≤bx.1∧s.2.2.2≤bx.2):=by
 unfold ins;simp only[Bool.and_eq_true,decide_eq_true_eq]
structure Good(bx:Int×Int)(l:List (T3×T3)):Prop where
 one:∀q∈l,bad q=false∧ins bx (p5 q)=true
 two:l.Pairwise fun p q=>ap (p5 p) (p5 q)=true
theorem Good.nil{bx:Int×Int}:Good bx []:=⟨fun _ h=>absurd h List.not_mem_nil,.nil⟩
theorem Good.snoc{bx:Int×Int}{l:List (T3×T3)}{q:T3×T3}(h:Good bx l)(h1:bad q=false)(h2:ins bx (p5 q)=true)(h3:∀p∈l,ap (p5 p) (p5 q)=true):Good bx (l++[q]):=by
 refine⟨fun p m=>?_,List.pairwise_append.mpr ⟨h.two,List.pairwise_singleton _ _,fun p m r mr=>?_⟩⟩
 ·rcases List.mem_append.mp m with m | m
  ·exact h.one p m
  ·rw[List.mem_singleton.mp m];exact⟨h1,h2⟩
 ·rw[List.mem_singleton.mp mr];exact h3 p m
theorem Good.left{bx:Int×Int}{l m:List (T3×T3)}(h:Good bx (l++m)):Good bx l :=
 ⟨fun q hq=>h.one q (List.mem_append_left _ hq),(List.pairwise_append.mp h.two).1⟩
theorem Good.last{bx:Int×Int}{l m:List (T3×T3)}{q:T3×T3}(h:Good bx (l++q::m)):bad q=false∧ins bx (p5 q)=true∧∀p∈l,ap (p5 p) (p5 q)=true :=
 ⟨(h.one q (List.mem_append_right _ List.mem_cons_self)).1,(h.one q (List.mem_append_right _ List.mem_cons_self)).2,fun p hp=>(List.pairwise_append.mp h.two).2.2 p hp q List.mem_cons_self⟩
theorem Good.next{bx:Int×Int}{l m:List (T3×T3)}{q:T3×T3}(h:Good bx (l++q::m)):∀p∈m,ap (p5 q) (p5 p)=true:=by
 have:=(List.pairwise_append.mp h.two).2.1
 exact(List.pairwise_cons.mp this).1
def Flt(bx:Int×Int)(pre:List (T3×T3))(q:T3×T3)(turn out:Prop)(over:Nat→Prop):Prop :=
 (bad q=true∧turn)∨(bad q=false∧ins bx (p5 q)=false∧out)∨(bad q=false∧ins bx (p5 q)=true∧∃p1 o p2,pre=p1++o::p2∧(∀p∈p1,ap (p5 p) (p5 q)=true)∧ap (p5 o) (p5 q)=false∧over p1.length)
theorem Flt.not{bx:Int×Int}{pre post:List (T3×T3)}{q:T3×T3}{a b:Prop}{c:Nat→Prop}(h:Flt bx pre q a b c)(g:Good bx (pre++q::post)):False:=by
 obtain⟨g1,g2,g3⟩:=g.last
 rcases h with⟨h,_⟩ | ⟨_,h,_⟩ | ⟨_,_,p1,o,p2,rfl,_,h,_⟩
 ·rw[g1]at h;cases h
 ·rw[g2]at h;cases h
 ·rw[g3 o (List.mem_append_right _ List.mem_cons_self)]at h;cases h
structure Laid(pre:List T4)(L:List (T3×T3)):Prop where
 one:∀q∈L,bad q=false∧p5 q∈pre
 two:L.Pairwise fun p q=>ap (p5 p) (p5 q)=true
 len:L.length≤pre.length
 all:L.length=pre.length→∀s∈pre,∃q∈L,p5 q=s
theorem Laid.nil:Laid [] []:=⟨fun _ h=>absurd h List.not_mem_nil,.nil,Nat.le_refl _,fun _ _ h=>absurd h List.not_mem_nil⟩
def mir(bx:Int×Int)(ac:Bool)(q:T3×T4):T3:=if ac=true then(bx.1-q.2.2.2.1,q.1.2.1,q.1.2.2)else(q.1.1,bx.2-q.2.2.2.2,q.1.2.2)
def mr(bx:Int×Int)(ac:Bool)(q:T3×T3):T3×T3:=(q.1,mir bx ac (q.2,p5 q))
abbrev t3(p:T3):D:=.tup [.int p.1,.int p.2.1,.bl p.2.2]
abbrev t4(p:T4):D:=.tup [.int p.1,.int p.2.1,.int p.2.2.1,.int p.2.2.2]
abbrev t2(b:Int×Int):D:=.tup [.int b.1,.int b.2]
abbrev wD(q:T3×T3):D:=t3 q.1
abbrev pD(q:T3×T3):D:=t3 q.2
abbrev sD(q:T3×T3):D:=t4 (p5 q)
theorem a9A(q:T3×T3)(hb:bad q=false):A6 [t3 q.1,t3 q.2]=some (.ret (t4 (p5 q))):=by
 obtain⟨⟨w,h,t⟩,⟨x,y,l⟩⟩:=q
 unfold A6 a62 U9 a5Z p5
 unfold bad at hb
 cases l<;>cases t<;>first | (simp only[Bool.and_true,Bool.and_false,Bool.not_true,Bool.not_false,Bool.true_and,Bool.false_and];walk_at "ev";done) | simp at hb
theorem b24(s t:T4):W3 [t4 s,t4 t]=some (.ret (.bl (ap s t))):=by
 obtain⟨a,b,x,y⟩:=s
 obtain⟨a',b',x',y'⟩:=t
 unfold W3 a9z ap
 walk_at "ev"
 by_cases h1:x≤a' <;>by_cases h2:x'≤a<;>by_cases h3:y≤b' <;>by_cases h4:y'≤b<;>simp[h1,h2,h3,h4,V7,V8]
theorem b4B(bx:Int×Int)(s:T4):I0 [t2 bx,t4 s]=some (.ret (.bl (ins bx s))):=by
 obtain⟨a,b,x,y⟩:=s
 obtain⟨u,v⟩:=bx
 unfold I0 a63 ins
 walk_at "ev"
 by_cases h1:0≤a<;>by_cases h2:0≤b<;>by_cases h3:x≤u<;>by_cases h4:y≤v<;>simp[h1,h2,h3,h4,V7,V8]
abbrev P3:SF:=(m5 (C1 (bZ (l6 W3 (aC (eV 8) (aC (eV 6) aN))))) (i5 (eT (aC (eC (.str "over")) (aC (eV 7) (aC (eV 4) aN))))) m7)
theorem b25(bx:Int×Int)(A B:D)(ds:List (T3×T3))(q:T3×T3)(k:Nat)(o7 o8:Option D) :
  (∃p1 o p2,ds=p1++o::p2∧(∀p∈p1,ap (p5 p) (p5 q)=true)∧ap (p5 o) (p5 q)=false∧l9 (w6 [(g6 7),(g6 8)]) P3 (enD 0 (ds.map sD)) [.fz (t2 bx),.fz A,.fz B,.hd (ds.map sD),.fz (.int k),.fz (t3 q.2),.fz (t4 (p5 q)),un o7,un o8]=some (.rt (.tup [.str "over",.int p1.length,.int k])))
  ∨ ((∀p∈ds,ap (p5 p) (p5 q)=true)∧∃o7' o8',l9 (w6 [(g6 7),(g6 8)]) P3 (enD 0 (ds.map sD)) [.fz (t2 bx),.fz A,.fz B,.hd (ds.map sD),.fz (.int k),.fz (t3 q.2),.fz (t4 (p5 q)),un o7,un o8]=some (.nx [.fz (t2 bx),.fz A,.fz B,.hd (ds.map sD),.fz (.int k),.fz (t3 q.2),.fz (t4 (p5 q)),un o7',un o8'])):=by
 rw[a6x]
 generalize hG:Sl.hd (ds.map sD)=G
 have hG':U8 G=false:=by rw[← hG];rfl
 rcases a5K (b:=w6 [(g6 7),(g6 8)]) (body:=P3) (fun k x=>.tup [.int k,sD x]) (fun pre e=>(∀p∈pre,ap (p5 p) (p5 q)=true)∧∃o7 o8,e=[.fz (t2 bx),.fz A,.fz B,G,.fz (.int k),.fz (t3 q.2),.fz (t4 (p5 q)),un o7,un o8]) (fun pre x r=>ap (p5 x) (p5 q)=false∧r=.rt (.tup [.str "over",.int pre.length,.int k])) ds [.fz (t2 bx),.fz A,.fz B,G,.fz (.int k),.fz (t3 q.2),.fz (t4 (p5 q)),un o7,un o8] ⟨fun _ h=>absurd h List.not_mem_nil,_,_,rfl⟩ (by
   rintro pre x post e hl ⟨hp,o7,o8,rfl⟩
   have h:=b24 (p5 x) (p5 q)
   clear hG hG'
   cases hap:ap (p5 x) (p5 q)with
   | false =>
    rw[hap]at h
    refine .inl ⟨.rt (.tup [.str "over",.int pre.length,.int k]),rfl,?_,rfl,rfl⟩
    clear hl hp hap
    unfold P3
    walk_at "eh"
   | true =>
    rw[hap]at h
    have hp':∀p∈pre++[x],ap (p5 p) (p5 q)=true:=fun p m=>by
     rcases List.mem_append.mp m with m | m
     ·exact hp p m
     ·rw[List.mem_singleton.mp m];exact hap
    suffices hh:∃e2,u9 (B6 (w6 [(g6 7),(g6 8)] (.tup [.int pre.length,sD x]) [.fz (t2 bx),.fz A,.fz B,G,.fz (.int k),.fz (t3 q.2),.fz (t4 (p5 q)),un o7,un o8]) P3)=some (.nx e2)∧∃o7 o8,e2=[.fz (t2 bx),.fz A,.fz B,G,.fz (.int k),.fz (t3 q.2),.fz (t4 (p5 q)),un o7,un o8] by
     obtain⟨e2,h1,h2⟩:=hh
     exact .inr ⟨e2,h1,hp',h2⟩
    clear hl hp hap hp'
    unfold P3
    walk_at "eh"
    exact⟨_,rfl,some _,some _,rfl⟩)with⟨p1,o,p2,r,h1,_,h3,⟨h4,rfl⟩,e',h6,_⟩ | ⟨e',h1,h2,o7',o8',rfl⟩
 ·exact .inl ⟨p1,o,p2,h1,h6,h4,h3⟩
 ·exact .inr ⟨h2,o7',o8',h1⟩
theorem b26(bx:Int×Int)(L:List (T3×T3))(hl:L.length≤1000):∃v,B8 [t2 bx,.lst (L.map wD),.lst (L.map pD)]=some (.ret v)∧((v=.non∧Good bx L)∨∃pre q post,L=pre++q::post∧Good bx pre∧Flt bx pre q (v=.tup [.str "turn",.int pre.length]) (v=.tup [.str "out",.int pre.length]) (fun i=>v=.tup [.str "over",.int i,.int pre.length])):=by
 have key:=a5K (b:=w6 [(g6 4),(g6 5)]) (body:=(f9 (m5 (y3 (bZ (eB i0 (eV 5) (eC (.int 2)))) (C1 (bZ (eB i0 (n9 l4 1 (eV 4)) (eC (.int 2)))))) (i5 (eT (aC (eC (.str "turn")) (aC (eV 4) aN)))) m7) (f9 (J4 6 A6 (aC (n9 l4 1 (eV 4)) (aC (eV 5) aN))) (f9 (m5 (C1 (bZ (l6 I0 (aC (eV 0) (aC (eV 6) aN))))) (i5 (eT (aC (eC (.str "out")) (aC (eV 4) aN)))) m7) (f9 (M5 3 (w6 [(g6 7),(g6 8)]) P3) (D4 3 (eV 6)))))))
  (fun k q=>.tup [.int k,pD q])
  (fun pre e=>Good bx pre∧∃o4 o5 o6 o7 o8,e=[.fz (t2 bx),.fz (.lst (L.map wD)),.fz (.lst (L.map pD)),.ow (pre.map sD),un o4,un o5,un o6,un o7,un o8])
  (fun pre q r=>∃v,r=.rt v∧Flt bx pre q (v=.tup [.str "turn",.int pre.length]) (v=.tup [.str "out",.int pre.length]) (fun i=>v=.tup [.str "over",.int i,.int pre.length]))
  L [.fz (t2 bx),.fz (.lst (L.map wD)),.fz (.lst (L.map pD)),.ow [],.no,.no,.no,.no,.no] ⟨.nil,none,none,none,none,none,rfl⟩ (by
   rintro pre q post e hq ⟨g,o4,o5,o6,o7,o8,rfl⟩
   have hat:atI (L.map wD) (pre.length:Int)=some (t3 q.1):=by rw[hq];exact a2P wD
   have hs:(pre.map sD).length<sizeLine:=by
    rw[hq,List.length_append]at hl
    rw[List.length_map];show _<2 ^ 24;omega
   clear hq hl
   cases hb:bad q with
   | true =>
    refine .inl ⟨.rt (.tup [.str "turn",.int pre.length]),rfl,?_,_,rfl,.inl ⟨hb,rfl⟩⟩
    have hb1:q.2.2.2=true:=by unfold bad at hb;simp at hb;exact hb.1
    have hb2:q.1.2.2=false:=by unfold bad at hb;simp at hb;exact hb.2
    generalize pre.map sD=acc at *
    generalize L.map wD=LW at *
    generalize L.map pD=LP at *
    clear hb g
    walk_at "eh"
   | false =>
    have h1:=a9A q hb
    have h2:=b4B bx (p5 q)
    have hlt:(q.2.2.2=false)∨(q.2.2.2=true∧q.1.2.2=true):=by
     unfold bad at hb
     cases h:q.2.2.2
     ·exact .inl rfl
     ·rw[h]at hb;simp at hb;exact .inr ⟨rfl,hb⟩
    cases hi:ins bx (p5 q)with
    | false =>
     rw[hi]at h2
     refine .inl ⟨.rt (.tup [.str "out",.int pre.length]),rfl,?_,_,rfl,.inr (.inl ⟨hb,hi,rfl⟩)⟩
     generalize pre.map sD=acc at *
     generalize L.map wD=LW at *
     generalize L.map pD=LP at *
     clear hb g hi
     rcases hlt with hlt | ⟨hlt,hlt2⟩<;>walk_at "eh"
    | true =>
     rw[hi]at h2
     rcases b25 bx (.lst (L.map wD)) (.lst (L.map pD)) pre q pre.length o7 o8 with⟨p1,o,p2,i1,i2,i3,i4⟩ | ⟨i1,o7',o8',i4⟩
     ·refine .inl ⟨.rt (.tup [.str "over",.int p1.length,.int pre.length]),rfl,?_,_,rfl,.inr (.inr ⟨hb,hi,p1,o,p2,i1,i2,i3,rfl⟩)⟩
      generalize pre.map sD=acc at *
      generalize L.map wD=LW at *
      generalize L.map pD=LP at *
      clear hb g hi i1 i2 i3
      rcases hlt with hlt | ⟨hlt,hlt2⟩<;>walk_at "eh"
     ·suffices hh:∃e2,u9 (B6 (w6 [(g6 4),(g6 5)] (.tup [.int pre.length,pD q]) [.fz (t2 bx),.fz (.lst (L.map wD)),.fz (.lst (L.map pD)),.ow (pre.map sD),un o4,un o5,un o6,un o7,un o8]) (f9 (m5 (y3 (bZ (eB i0 (eV 5) (eC (.int 2)))) (C1 (bZ (eB i0 (n9 l4 1 (eV 4)) (eC (.int 2)))))) (i5 (eT (aC (eC (.str "turn")) (aC (eV 4) aN)))) m7) (f9 (J4 6 A6 (aC (n9 l4 1 (eV 4)) (aC (eV 5) aN))) (f9 (m5 (C1 (bZ (l6 I0 (aC (eV 0) (aC (eV 6) aN))))) (i5 (eT (aC (eC (.str "out")) (aC (eV 4) aN)))) m7) (f9 (M5 3 (w6 [(g6 7),(g6 8)]) P3) (D4 3 (eV 6)))))))=some (.nx e2)∧∃o4 o5 o6 o7 o8,e2=[.fz (t2 bx),.fz (.lst (L.map wD)),.fz (.lst (L.map pD)),.ow ((pre++[q]).map sD),un o4,un o5,un o6,un o7,un o8] by
       obtain⟨e2,j1,j2⟩:=hh
       exact .inr ⟨e2,j1,g.snoc hb hi i1,j2⟩
      rw[List.map_append]
      generalize pre.map sD=acc at *
      generalize L.map wD=LW at *
      generalize L.map pD=LP at *
      clear hb g hi i1
      rcases hlt with hlt | ⟨hlt,hlt2⟩<;> (walk_at "eh";exact⟨_,rfl,some _,some _,some _,_,_,rfl⟩))
 have l1:((L.map pD).length:Int)=L.length:=by rw[List.length_map]
 have l2:((L.map wD).length:Int)=L.length:=by rw[List.length_map]
 rw[← a6x]at key
 rcases key with⟨pre,q,post,r,k1,_,k3,⟨v,rfl,k4⟩,e',k5,_⟩ | ⟨e',k1,k2,o4,o5,o6,o7,o8,rfl⟩
 ·refine⟨v,?_,.inr ⟨pre,q,post,k1,k5,k4⟩⟩
  clear k4 k5 k1 hl
  unfold P3 at k3
  generalize L.map wD=LW at *
  generalize L.map pD=LP at *
  unfold B8 a4l
  walk_at "eh"
 ·refine⟨.non,?_,.inl ⟨rfl,k2⟩⟩
  clear k2 hl
  unfold P3 at k1
  generalize L.map sD=LS at *
  generalize L.map wD=LW at *
  generalize L.map pD=LP at *
  unfold B8 a4l
  walk_at "eh"
theorem b27(L:List (T3×T3))(hl:L.length≤1000)(hb:∀q∈L,bad q=false):E4 [.lst (L.map wD),.lst (L.map pD)]=some (.own (L.map sD)):=by
 have key:∀eo,p7 (w6 [g6 0,g6 1]) v9 (W7 A6 (aC (eV 0) (aC (eV 1) aN))) [.no,.no] eo (L.map fun q=>D.tup [wD q,pD q]) []=some (.ok (L.map sD) eo):=fun eo=>by
  have:=J9 (b:=w6 [g6 0,g6 1]) (c:=v9) (el:=W7 A6 (aC (eV 0) (aC (eV 1) aN))) (ec:=[.no,.no]) (eo:=eo) (fun q:T3×T3=>D.tup [wD q,pD q]) sD (fun _=>true) L [] (by show 0+_≤2 ^ 24;omega) fun q m=>⟨[.fz (t3 q.1),.fz (t3 q.2)],[.fz (t3 q.1),.fz (t3 q.2)],rfl,rfl,fun _=>by
   have h:=a9A q (hb q m)
   clear hb m
   walk_at "eh";exact⟨_,rfl⟩⟩
  rw[this,List.filter_eq_self.mpr (fun _ _=>rfl),List.nil_append]
 have hz:=a6Z wD pD L
 unfold E4 a50
 clear hl hb
 walk_at "eh"
def b0t(bx:Int×Int)(L:List (T3×T3))(v:D):Prop:=(v=.non∧Good bx L)∨∃pre q post,L=pre++q::post∧Good bx pre∧Flt bx pre q (v=.tup [.str "turn",.int pre.length]) (v=.tup [.str "out",.int pre.length]) (fun i=>v=.tup [.str "over",.int i,.int pre.length])
theorem b0u{α:Type}{P:α→Prop}{p1 p2 r1 r2:List α}{o1 o2:α}(e:p1++o1::r1=p2++o2::r2)(h1:∀p∈p1,P p)(h2:∀p∈p2,P p)(n1:¬P o1)(n2:¬P o2):p1=p2:=by
 rcases List.append_eq_append_iff.mp e with⟨a,e1,e2⟩ | ⟨a,e1,e2⟩
 ·cases a with
  | nil=>rw[e1,List.append_nil]
  | cons b a =>
   rw[List.cons_append]at e2;cases e2
   exact absurd (h2 o1 (by rw[e1];simp)) n1
 ·cases a with
  | nil=>rw[e1,List.append_nil]
  | cons b a =>
   rw[List.cons_append]at e2;cases e2
   exact absurd (h1 o2 (by rw[e1];simp)) n2
theorem a8z{bx:Int×Int}{pre:List (T3×T3)}{q:T3×T3}{v v' a b:D}{c:Nat→D}(h:Flt bx pre q (v=a) (v=b) (fun i=>v=c i))(h':Flt bx pre q (v'=a) (v'=b) (fun i=>v'=c i)):v=v':=by
 rcases h with⟨h,rfl⟩ | ⟨h,k,rfl⟩ | ⟨h,k,p1,o,p2,e,i1,i2,rfl⟩
 ·rcases h' with⟨h',rfl⟩ | ⟨h',k',rfl⟩ | ⟨h',k',q1,o',q2,e',i1',i2',rfl⟩
  ·rfl
  ·rw[h]at h';cases h'
  ·rw[h]at h';cases h'
 ·rcases h' with⟨h',rfl⟩ | ⟨h',k',rfl⟩ | ⟨h',k',q1,o',q2,e',i1',i2',rfl⟩
  ·rw[h]at h';cases h'
  ·rfl
  ·rw[k]at k';cases k'
 ·rcases h' with⟨h',rfl⟩ | ⟨h',k',rfl⟩ | ⟨h',k',q1,o',q2,e',i1',i2',rfl⟩
  ·rw[h]at h';cases h'
  ·rw[k]at k';cases k'
  ·have:=b0u (P:=fun p=>ap (p5 p) (p5 q)=true) (e.symm.trans e') i1 i1' (by rw[i2];decide) (by rw[i2'];decide)
   rw[this]
theorem b1I{bx:Int×Int}{L:List (T3×T3)}{v v':D}(h:b0t bx L v)(h':b0t bx L v'):v=v':=by
 rcases h with⟨rfl,g⟩ | ⟨pre,q,post,e,g,f⟩
 ·rcases h' with⟨rfl,_⟩ | ⟨pre,q,post,e,_,f⟩
  ·rfl
  ·rw[e]at g;exact(f.not g).elim
 ·rcases h' with⟨rfl,g'⟩ | ⟨pre',q',post',e',g',f'⟩
  ·rw[e]at g';exact(f.not g').elim
  ·have e2:=e.symm.trans e'
   rcases List.append_eq_append_iff.mp e2 with⟨a,e1,e3⟩ | ⟨a,e1,e3⟩
   ·cases a with
    | nil =>
     rw[List.append_nil]at e1;rw[List.nil_append]at e3
     cases e3;subst e1
     exact a8z f f'
    | cons b a =>
     rw[List.cons_append]at e3;cases e3
     rw[e1]at g'
     exact(f.not g').elim
   ·cases a with
    | nil =>
     rw[List.append_nil]at e1;rw[List.nil_append]at e3
     cases e3;subst e1
     exact a8z f f'
    | cons b a =>
     rw[List.cons_append]at e3;cases e3
     rw[e1]at g
     exact(f'.not g).elim
theorem a8A{α:Type}:∀(l:List α) (n:Nat),(List.range' n l.length).map (fun i:Nat=>D.int (0+(i:Int)))=Q6 (fun k (_:α)=>D.int (k:Int)) n l
 | [],n=>rfl
 | x::l,n=>by rw[List.length_cons,List.range'_succ,List.map_cons,Q6,a8A l (n+1),Int.zero_add]
theorem a9B{α:Type}(l:List α):J5 0 l.length=Q6 (fun k (_:α)=>D.int (k:Int)) 0 l:=by
 rw[a8d,List.range_eq_range',a8A]
theorem a9C{rg:List D→Option (Int×Nat)}{f:AF}{b:GF}{body:SF}{e e1:DE}{ds:List D}{lo:Int}{n:Nat}(h:f e=some (.ok ds e1))(hr:rg ds=some (lo,n)):P7 rg f b body e=l9 b body (J5 lo n) e1:=by
 unfold P7;rw[h,O7,hr]
theorem a8X(bx:Int×Int)(LW LP:List D)(hn:((LP.length:Int)=LW.length)↔False):B8 [t2 bx,.lst LW,.lst LP]=some (.ret (.tup [.str "count",.int LP.length])):=by
 unfold B8 a4l
 walk_at "eh"
theorem a8B:∀(ws ps:List T3),ws.length=ps.length→ws.map t3=(ws.zip ps).map wD
 | [],[],_=>rfl
 | w::ws,p::ps,h=>by rw[List.zip_cons_cons,List.map_cons,List.map_cons,a8B ws ps (by simpa using h)]
theorem a8C:∀(ws ps:List T3),ws.length=ps.length→ps.map t3=(ws.zip ps).map pD
 | [],[],_=>rfl
 | w::ws,p::ps,h=>by rw[List.zip_cons_cons,List.map_cons,List.map_cons,a8C ws ps (by simpa using h)]
theorem b53(l:List T3):v5 (l.map t3)=true:=a8N fun a _=>rfl
theorem b54(l:List T3):A4 (l.map t3)≤2:=b1k fun a _=>by simp[E5,A4]
theorem b7f(ws ps:List T3):D5 false (.lst [.lst (ws.map t3),.lst (ps.map t3)]) (.lst [.lst (ws.map t3),.lst (ps.map t3)])=some (.bl true):=a3E false (by
  simp only[i7,v5,b53];rfl) (by
  have h1:=b54 ws
  have h2:=b54 ps
  simp only[E5,A4];omega) rfl
abbrev a6A:SF:=(m5 (y3 (bZ (eB F9 (eV 5) (eB i0 (n9 l4 3 (eV 10)) (eC (.int 2))))) (y3 (bZ (eB F9 (eB i0 (n9 l4 3 (eV 10)) (eC (.int 0))) (eB y6 (eV 5) (eV 8)))) (y3 (bZ (eB F9 (eV 6) (eB i0 (n9 l4 3 (eV 10)) (eC (.int 3))))) (bZ (eB F9 (eB i0 (n9 l4 3 (eV 10)) (eC (.int 1))) (eB y6 (eV 6) (eV 9))))))) (i5 (eT (aC (eC (.str "over")) (aC (eV 10) (aC (eV 4) aN))))) m7)
def V1:SF:=(P7 Z3 (aC (eV 4) aN) (g6 10) (m5 (y3 (bZ (eB F9 (eV 5) (eB i0 (n9 l4 3 (eV 10)) (eC (.int 2))))) (y3 (bZ (eB F9 (eB i0 (n9 l4 3 (eV 10)) (eC (.int 0))) (eB y6 (eV 5) (eV 8)))) (y3 (bZ (eB F9 (eV 6) (eB i0 (n9 l4 3 (eV 10)) (eC (.int 3))))) (bZ (eB F9 (eB i0 (n9 l4 3 (eV 10)) (eC (.int 1))) (eB y6 (eV 6) (eV 9))))))) (i5 (eT (aC (eC (.str "over")) (aC (eV 10) (aC (eV 4) aN))))) m7))
abbrev N0(LI:SF):SF:=(f9 (Q1 (n9 l4 2 (eV 4)) (w6 [(g6 5),(g6 6),(g6 7)])) (f9 (m5 (y3 (bZ (eV 7)) (C1 (bZ (eB i0 (n9 l4 1 (eV 4)) (eC (.int 2)))))) (i5 (eT (aC (eC (.str "turn")) (aC (eV 4) aN)))) m7) (f9 (p6 8 (eB i0 (n9 l4 1 (eV 4)) (X6 (g1 U6) (aC (eV 7) aN)))) (f9 (p6 9 (eB i0 (n9 l4 1 (eV 4)) (eB N4 (eC (.int 1)) (X6 (g1 U6) (aC (eV 7) aN))))) (f9 (m5 (bOr (bZ (eB F9 (eV 5) (eC (.int 0)))) (bOr (bZ (eB F9 (eV 6) (eC (.int 0)))) (bOr (bZ (eB Z4 (eB y6 (eV 5) (eV 8)) (eB i0 (eV 0) (eC (.int 0))))) (bZ (eB Z4 (eB y6 (eV 6) (eV 9)) (eB i0 (eV 0) (eC (.int 1)))))))) (i5 (eT (aC (eC (.str "out")) (aC (eV 4) aN)))) m7) (f9 LI (D4 3 (eT (aC (eV 5) (aC (eV 6) (aC (eB y6 (eV 5) (eV 8)) (aC (eB y6 (eV 6) (eV 9)) aN))))))))))))
def a2T:SF:=P7 Z3 (aC (y4 t6 1) aN) (g6 4) (N0 V1)
section
variable (bx:Int×Int)(LW LP SP:List D)(N i x y w h:Int)(l:D)(s:T4)(o10:Option D)
theorem b4C(hat:atI SP i=some (t4 s))(h1:x<s.2.2.1)(h2:s.1<x+w)(h3:y<s.2.2.2)(h4:s.2.1<y+h):u9 (B6 (g6 10 (.int i) [.fz (t2 bx),.fz (.lst LW),.fz (.lst LP),.ow SP,.fz (.int N),.fz (.int x),.fz (.int y),.fz l,.fz (.int w),.fz (.int h),un o10]) a6A)=some (.rt (.tup [.str "over",.int i,.int N])):=by
 unfold a6A
 walk_at "eh"
theorem b4D(hat:atI SP i=some (t4 s))(hc:¬x<s.2.2.1∨(x<s.2.2.1∧¬s.1<x+w)∨(x<s.2.2.1∧s.1<x+w∧¬y<s.2.2.2)∨(x<s.2.2.1∧s.1<x+w∧y<s.2.2.2∧¬s.2.1<y+h)):u9 (B6 (g6 10 (.int i) [.fz (t2 bx),.fz (.lst LW),.fz (.lst LP),.ow SP,.fz (.int N),.fz (.int x),.fz (.int y),.fz l,.fz (.int w),.fz (.int h),un o10]) a6A)=some (.nx [.fz (t2 bx),.fz (.lst LW),.fz (.lst LP),.ow SP,.fz (.int N),.fz (.int x),.fz (.int y),.fz l,.fz (.int w),.fz (.int h),.fz (.int i)]):=by
 unfold a6A
 rcases hc with hc | ⟨hc,hd⟩ | ⟨hc,hd,he⟩ | ⟨hc,hd,he,hf⟩<;>walk_at "eh"
end
theorem a9D(bx:Int×Int)(LW LP:List D)(pre:List (T3×T3))(q:T4)(hk:pre.length≤1000)(x y w h:Int)(l:D)(hq:q=(x,y,x+w,y+h))(o10:Option D) :
  (∃p1 o p2,pre=p1++o::p2∧(∀p∈p1,ap (p5 p) q=true)∧ap (p5 o) q=false∧V1 [.fz (t2 bx),.fz (.lst LW),.fz (.lst LP),.ow (pre.map sD),.fz (.int pre.length),.fz (.int x),.fz (.int y),.fz l,.fz (.int w),.fz (.int h),un o10]=some (.rt (.tup [.str "over",.int p1.length,.int pre.length])))
  ∨ ((∀p∈pre,ap (p5 p) q=true)∧∃o,V1 [.fz (t2 bx),.fz (.lst LW),.fz (.lst LP),.ow (pre.map sD),.fz (.int pre.length),.fz (.int x),.fz (.int y),.fz l,.fz (.int w),.fz (.int h),un o10]=some (.nx [.fz (t2 bx),.fz (.lst LW),.fz (.lst LP),.ow (pre.map sD),.fz (.int pre.length),.fz (.int x),.fz (.int y),.fz l,.fz (.int w),.fz (.int h),un o])):=by
 have e0:V1 [.fz (t2 bx),.fz (.lst LW),.fz (.lst LP),.ow (pre.map sD),.fz (.int pre.length),.fz (.int x),.fz (.int y),.fz l,.fz (.int w),.fz (.int h),un o10]=l9 (g6 10) a6A (Q6 (fun k (_:T3×T3)=>D.int (k:Int)) 0 pre) [.fz (t2 bx),.fz (.lst LW),.fz (.lst LP),.ow (pre.map sD),.fz (.int pre.length),.fz (.int x),.fz (.int y),.fz l,.fz (.int w),.fz (.int h),un o10]:=by
  unfold V1
  rw[a9C (ds:=[.int pre.length]) (lo:=0) (n:=pre.length) (e1:=[.fz (t2 bx),.fz (.lst LW),.fz (.lst LP),.ow (pre.map sD),.fz (.int pre.length),.fz (.int x),.fz (.int y),.fz l,.fz (.int w),.fz (.int h),un o10]) rfl (by rw[a6s ⟨by omega,by omega⟩,Int.toNat_natCast]),a9B]
 rw[e0]
 generalize hN:(pre.length:Int)=N
 rcases a5K (b:=g6 10) (body:=a6A) (fun k (_:T3×T3)=>D.int (k:Int)) (fun pr e=>(∀p∈pr,ap (p5 p) q=true)∧∃o,e=[.fz (t2 bx),.fz (.lst LW),.fz (.lst LP),.ow (pre.map sD),.fz (.int N),.fz (.int x),.fz (.int y),.fz l,.fz (.int w),.fz (.int h),un o]) (fun pr x r=>ap (p5 x) q=false∧r=.rt (.tup [.str "over",.int pr.length,.int N])) pre [.fz (t2 bx),.fz (.lst LW),.fz (.lst LP),.ow (pre.map sD),.fz (.int N),.fz (.int x),.fz (.int y),.fz l,.fz (.int w),.fz (.int h),un o10] ⟨fun _ h=>absurd h List.not_mem_nil,_,rfl⟩ (by
   rintro pr z post e hl ⟨hpr,o,rfl⟩
   have hat:atI (pre.map sD) (pr.length:Int)=some (t4 (p5 z)):=by rw[hl];exact a2P sD
   cases hap:ap (p5 z) q with
   | false =>
    have ha:¬ap (p5 z) q=true:=by rw[hap];decide
    rw[b1H,hq]at ha
    simp only[not_or,Int.not_le]at ha
    exact .inl ⟨.rt (.tup [.str "over",.int pr.length,.int N]),rfl,b4C bx LW LP _ N _ x y w h l _ o hat ha.1.1 ha.1.2 ha.2.1 ha.2.2,rfl,rfl⟩
   | true =>
    have hp':∀p∈pr++[z],ap (p5 p) q=true:=fun p m=>by
     rcases List.mem_append.mp m with m | m
     ·exact hpr p m
     ·rw[List.mem_singleton.mp m];exact hap
    rw[b1H,hq]at hap
    simp only at hap
    exact .inr ⟨_,b4D bx LW LP _ N _ x y w h l _ o hat (by omega),hp',some _,rfl⟩)with⟨p1,o,p2,r,h1,_,h3,⟨h4,rfl⟩,e',h6,_⟩ | ⟨e',h1,h2,o5',rfl⟩
 ·exact .inl ⟨p1,o,p2,h1,h6,h4,h3⟩
 ·exact .inr ⟨h2,o5',h1⟩
section
variable (LI:SF)(bx:Int×Int)(LW LP SP:List D)(k w0 h0 x y:Int)(t l:Bool)(o4 o5 o6 o7 o8 o9 o10:Option D)
theorem b4E(hat:atI LW k=some (.tup [.int w0,.int h0,.bl false]))(hat2:atI LP k=some (.tup [.int x,.int y,.bl true])):u9 (B6 (g6 4 (.int k) [.fz (t2 bx),.fz (.lst LW),.fz (.lst LP),.ow SP,un o4,un o5,un o6,un o7,un o8,un o9,un o10]) (N0 LI))=some (.rt (.tup [.str "turn",.int k])):=by
 have z1:(1-0:Int)=1:=rfl
 have z0:(1-1:Int)=0:=rfl
 unfold N0
 walk_at "eh"
theorem b4F(hat:atI LW k=some (.tup [.int w0,.int h0,.bl t]))(hat2:atI LP k=some (.tup [.int x,.int y,.bl false]))(ho:x<0∨(¬x<0∧y<0)∨(¬x<0∧¬y<0∧bx.1<x+w0)∨(¬x<0∧¬y<0∧¬bx.1<x+w0∧bx.2<y+h0)):u9 (B6 (g6 4 (.int k) [.fz (t2 bx),.fz (.lst LW),.fz (.lst LP),.ow SP,un o4,un o5,un o6,un o7,un o8,un o9,un o10]) (N0 LI))=some (.rt (.tup [.str "out",.int k])):=by
 have z1:(1-0:Int)=1:=rfl
 have z0:(1-1:Int)=0:=rfl
 unfold N0
 rcases ho with ho | ⟨ho,h2⟩ | ⟨ho,h2,h3⟩ | ⟨ho,h2,h3,h4⟩<;>walk_at "eh"
theorem b4G(hat:atI LW k=some (.tup [.int w0,.int h0,.bl true]))(hat2:atI LP k=some (.tup [.int x,.int y,.bl true]))(ho:x<0∨(¬x<0∧y<0)∨(¬x<0∧¬y<0∧bx.1<x+h0)∨(¬x<0∧¬y<0∧¬bx.1<x+h0∧bx.2<y+w0)):u9 (B6 (g6 4 (.int k) [.fz (t2 bx),.fz (.lst LW),.fz (.lst LP),.ow SP,un o4,un o5,un o6,un o7,un o8,un o9,un o10]) (N0 LI))=some (.rt (.tup [.str "out",.int k])):=by
 have z1:(1-0:Int)=1:=rfl
 have z0:(1-1:Int)=0:=rfl
 unfold N0
 rcases ho with ho | ⟨ho,h2⟩ | ⟨ho,h2,h3⟩ | ⟨ho,h2,h3,h4⟩<;>walk_at "eh"
theorem b55(hat:atI LW k=some (.tup [.int w0,.int h0,.bl t]))(hat2:atI LP k=some (.tup [.int x,.int y,.bl false]))(h1:¬x<0)(h2:¬y<0)(h3:¬bx.1<x+w0)(h4:¬bx.2<y+h0)(v:D)
  (hd:LI [.fz (t2 bx),.fz (.lst LW),.fz (.lst LP),.ow SP,.fz (.int k),.fz (.int x),.fz (.int y),.fz (.bl false),.fz (.int w0),.fz (.int h0),un o10]=some (.rt v)):u9 (B6 (g6 4 (.int k) [.fz (t2 bx),.fz (.lst LW),.fz (.lst LP),.ow SP,un o4,un o5,un o6,un o7,un o8,un o9,un o10]) (N0 LI))=some (.rt v):=by
 have z1:(1-0:Int)=1:=rfl
 have z0:(1-1:Int)=0:=rfl
 unfold N0
 walk_at "eh"
theorem b56(hat:atI LW k=some (.tup [.int w0,.int h0,.bl true]))(hat2:atI LP k=some (.tup [.int x,.int y,.bl true]))(h1:¬x<0)(h2:¬y<0)(h3:¬bx.1<x+h0)(h4:¬bx.2<y+w0)(v:D)
  (hd:LI [.fz (t2 bx),.fz (.lst LW),.fz (.lst LP),.ow SP,.fz (.int k),.fz (.int x),.fz (.int y),.fz (.bl true),.fz (.int h0),.fz (.int w0),un o10]=some (.rt v)):u9 (B6 (g6 4 (.int k) [.fz (t2 bx),.fz (.lst LW),.fz (.lst LP),.ow SP,un o4,un o5,un o6,un o7,un o8,un o9,un o10]) (N0 LI))=some (.rt v):=by
 have z1:(1-0:Int)=1:=rfl
 have z0:(1-1:Int)=0:=rfl
 unfold N0
 walk_at "eh"
theorem b57(hat:atI LW k=some (.tup [.int w0,.int h0,.bl t]))(hat2:atI LP k=some (.tup [.int x,.int y,.bl false]))(h1:¬x<0)(h2:¬y<0)(h3:¬bx.1<x+w0)(h4:¬bx.2<y+h0)(o:Option D)(hs:SP.length<sizeLine)
  (hd:LI [.fz (t2 bx),.fz (.lst LW),.fz (.lst LP),.ow SP,.fz (.int k),.fz (.int x),.fz (.int y),.fz (.bl false),.fz (.int w0),.fz (.int h0),un o10]=some (.nx [.fz (t2 bx),.fz (.lst LW),.fz (.lst LP),.ow SP,.fz (.int k),.fz (.int x),.fz (.int y),.fz (.bl false),.fz (.int w0),.fz (.int h0),un o])):u9 (B6 (g6 4 (.int k) [.fz (t2 bx),.fz (.lst LW),.fz (.lst LP),.ow SP,un o4,un o5,un o6,un o7,un o8,un o9,un o10]) (N0 LI))=some (.nx [.fz (t2 bx),.fz (.lst LW),.fz (.lst LP),.ow (SP++[t4 (x,y,x+w0,y+h0)]),.fz (.int k),.fz (.int x),.fz (.int y),.fz (.bl false),.fz (.int w0),.fz (.int h0),un o]):=by
 have z1:(1-0:Int)=1:=rfl
 have z0:(1-1:Int)=0:=rfl
 unfold N0
 walk_at "eh"
theorem b58(hat:atI LW k=some (.tup [.int w0,.int h0,.bl true]))(hat2:atI LP k=some (.tup [.int x,.int y,.bl true]))(h1:¬x<0)(h2:¬y<0)(h3:¬bx.1<x+h0)(h4:¬bx.2<y+w0)(o:Option D)(hs:SP.length<sizeLine)
  (hd:LI [.fz (t2 bx),.fz (.lst LW),.fz (.lst LP),.ow SP,.fz (.int k),.fz (.int x),.fz (.int y),.fz (.bl true),.fz (.int h0),.fz (.int w0),un o10]=some (.nx [.fz (t2 bx),.fz (.lst LW),.fz (.lst LP),.ow SP,.fz (.int k),.fz (.int x),.fz (.int y),.fz (.bl true),.fz (.int h0),.fz (.int w0),un o])):u9 (B6 (g6 4 (.int k) [.fz (t2 bx),.fz (.lst LW),.fz (.lst LP),.ow SP,un o4,un o5,un o6,un o7,un o8,un o9,un o10]) (N0 LI))=some (.nx [.fz (t2 bx),.fz (.lst LW),.fz (.lst LP),.ow (SP++[t4 (x,y,x+h0,y+w0)]),.fz (.int k),.fz (.int x),.fz (.int y),.fz (.bl true),.fz (.int h0),.fz (.int w0),un o]):=by
 have z1:(1-0:Int)=1:=rfl
 have z0:(1-1:Int)=0:=rfl
 unfold N0
 walk_at "eh"
end
theorem b28(bx:Int×Int)(L:List (T3×T3))(hl:L.length≤1000) :
  (∃v,a2T [.fz (t2 bx),.fz (.lst (L.map wD)),.fz (.lst (L.map pD)),.ow [],.no,.no,.no,.no,.no,.no,.no]=some (.rt v)∧b0t bx L v)∨(Good bx L∧∃e,a2T [.fz (t2 bx),.fz (.lst (L.map wD)),.fz (.lst (L.map pD)),.ow [],.no,.no,.no,.no,.no,.no,.no]=some (.nx e)):=by
 have e0:a2T [.fz (t2 bx),.fz (.lst (L.map wD)),.fz (.lst (L.map pD)),.ow [],.no,.no,.no,.no,.no,.no,.no]=l9 (g6 4) (N0 V1) (Q6 (fun k (_:T3×T3)=>D.int (k:Int)) 0 L) [.fz (t2 bx),.fz (.lst (L.map wD)),.fz (.lst (L.map pD)),.ow [],.no,.no,.no,.no,.no,.no,.no]:=by
  unfold a2T
  rw[a9C (ds:=[.int (L.map wD).length]) (lo:=0) (n:=L.length) (e1:=[.fz (t2 bx),.fz (.lst (L.map wD)),.fz (.lst (L.map pD)),.ow [],.no,.no,.no,.no,.no,.no,.no]) rfl (by rw[a6s ⟨by omega,by rw[List.length_map];omega⟩,Int.toNat_natCast,List.length_map]),a9B]
 rw[e0]
 rcases a5K (b:=g6 4) (body:=N0 V1) (fun k (_:T3×T3)=>D.int (k:Int)) (fun pre e=>Good bx pre∧∃o4 o5 o6 o7 o8 o9 o10,e=[.fz (t2 bx),.fz (.lst (L.map wD)),.fz (.lst (L.map pD)),.ow (pre.map sD),un o4,un o5,un o6,un o7,un o8,un o9,un o10])
  (fun pre q r=>∃v,r=.rt v∧Flt bx pre q (v=.tup [.str "turn",.int pre.length]) (v=.tup [.str "out",.int pre.length]) (fun i=>v=.tup [.str "over",.int i,.int pre.length]))
  L [.fz (t2 bx),.fz (.lst (L.map wD)),.fz (.lst (L.map pD)),.ow [],.no,.no,.no,.no,.no,.no,.no] ⟨.nil,none,none,none,none,none,none,none,rfl⟩ (by
   rintro pre ⟨⟨w0,h0,t⟩,⟨x,y,l⟩⟩ post e hq ⟨g,o4,o5,o6,o7,o8,o9,o10,rfl⟩
   have hat:atI (L.map wD) (pre.length:Int)=some (.tup [.int w0,.int h0,.bl t]):=by rw[hq];exact a2P wD
   have hat2:atI (L.map pD) (pre.length:Int)=some (.tup [.int x,.int y,.bl l]):=by rw[hq];exact a2P pD
   have hlp:pre.length≤1000:=by rw[hq,List.length_append]at hl;omega
   have hsz:(pre.map sD).length<sizeLine:=by rw[List.length_map];show _<2 ^ 24;omega
   clear hq hl e0
   cases l with
   | true =>
    cases t with
    | false=>exact .inl ⟨.rt (.tup [.str "turn",.int pre.length]),rfl,b4E V1 bx _ _ _ _ w0 h0 x y o4 o5 o6 o7 o8 o9 o10 hat hat2,_,rfl,.inl ⟨rfl,rfl⟩⟩
    | true =>
     have hsp:p5 ((w0,h0,true),(x,y,true))=(x,y,x+h0,y+w0):=rfl
     cases hi:ins bx (x,y,x+h0,y+w0)with
     | false =>
      have hi':¬ins bx (x,y,x+h0,y+w0)=true:=by rw[hi];decide
      rw[a4m]at hi'
      simp only at hi'
      exact .inl ⟨.rt (.tup [.str "out",.int pre.length]),rfl,b4G V1 bx _ _ _ _ w0 h0 x y o4 o5 o6 o7 o8 o9 o10 hat hat2 (by omega),_,rfl,.inr (.inl ⟨rfl,by rw[hsp];exact hi,rfl⟩)⟩
     | true =>
      have hi':=hi
      rw[a4m]at hi'
      simp only at hi'
      rcases a9D bx (L.map wD) (L.map pD) pre _ hlp x y h0 w0 (.bl true) rfl o10 with⟨p1,o,p2,i1,i2,i3,i4⟩ | ⟨i1,o,i4⟩
      ·exact .inl ⟨.rt (.tup [.str "over",.int p1.length,.int pre.length]),rfl,b56 V1 bx _ _ _ _ w0 h0 x y o4 o5 o6 o7 o8 o9 o10 hat hat2 (by omega) (by omega) (by omega) (by omega) _ i4,_,rfl,.inr (.inr ⟨rfl,by rw[hsp];exact hi,p1,o,p2,i1,i2,i3,rfl⟩)⟩
      ·exact .inr ⟨_,b58 V1 bx _ _ _ _ w0 h0 x y o4 o5 o6 o7 o8 o9 o10 hat hat2 (by omega) (by omega) (by omega) (by omega) o hsz i4,g.snoc rfl (by rw[hsp];exact hi) i1,some _,some _,some _,some _,some _,some _,o,by rw[List.map_append];rfl⟩
   | false =>
    have hsp:p5 ((w0,h0,t),(x,y,false))=(x,y,x+w0,y+h0):=rfl
    cases hi:ins bx (x,y,x+w0,y+h0)with
    | false =>
     have hi':¬ins bx (x,y,x+w0,y+h0)=true:=by rw[hi];decide
     rw[a4m]at hi'
     simp only at hi'
     exact .inl ⟨.rt (.tup [.str "out",.int pre.length]),rfl,b4F V1 bx _ _ _ _ w0 h0 x y t o4 o5 o6 o7 o8 o9 o10 hat hat2 (by omega),_,rfl,.inr (.inl ⟨rfl,by rw[hsp];exact hi,rfl⟩)⟩
    | true =>
     have hi':=hi
     rw[a4m]at hi'
     simp only at hi'
     rcases a9D bx (L.map wD) (L.map pD) pre _ hlp x y w0 h0 (.bl false) rfl o10 with⟨p1,o,p2,i1,i2,i3,i4⟩ | ⟨i1,o,i4⟩
     ·exact .inl ⟨.rt (.tup [.str "over",.int p1.length,.int pre.length]),rfl,b55 V1 bx _ _ _ _ w0 h0 x y t o4 o5 o6 o7 o8 o9 o10 hat hat2 (by omega) (by omega) (by omega) (by omega) _ i4,_,rfl,.inr (.inr ⟨rfl,by rw[hsp];exact hi,p1,o,p2,i1,i2,i3,rfl⟩)⟩
     ·exact .inr ⟨_,b57 V1 bx _ _ _ _ w0 h0 x y t o4 o5 o6 o7 o8 o9 o10 hat hat2 (by omega) (by omega) (by omega) (by omega) o hsz i4,g.snoc rfl (by rw[hsp];exact hi) i1,some _,some _,some _,some _,some _,some _,o,by rw[List.map_append];rfl⟩)with⟨pre,q,post,r,k1,_,k3,⟨v,rfl,k4⟩,e',k5,_⟩ | ⟨e',k1,k2,_⟩
 ·exact .inl ⟨v,k3,.inr ⟨pre,q,post,k1,k5,k4⟩⟩
 ·exact .inr ⟨k2,e',k1⟩
theorem b59(LO:SF)(bx:Int×Int)(LW LP:List D)(hl:(LP.length:Int)=LW.length)(r:RS)(h:LO [.fz (t2 bx),.fz (.lst LW),.fz (.lst LP),.ow [],.no,.no,.no,.no,.no,.no,.no]=some r):fD 11 3 (f9 (m5 (bZ (eB (D7 true) (y4 t6 2) (y4 t6 1))) (i5 (eT (aC (eC (.str "count")) (aC (y4 t6 2) aN)))) m7) (f9 (r9 3 (eL aN)) (f9 LO (i5 (eC .non))))) [t2 bx,.lst LW,.lst LP]=U4 (L3 (some r) (i5 (eC .non))):=by
 walk_at "eh"
theorem b6F(bx:Int×Int)(L:List (T3×T3))(hl:L.length≤1000):∃v,C8 [t2 bx,.lst (L.map wD),.lst (L.map pD)]=some (.ret v)∧b0t bx L v:=by
 have l1:((L.map pD).length:Int)=(L.map wD).length:=by rw[List.length_map,List.length_map]
 have F:∀r,a2T [.fz (t2 bx),.fz (.lst (L.map wD)),.fz (.lst (L.map pD)),.ow [],.no,.no,.no,.no,.no,.no,.no]=some r→C8 [t2 bx,.lst (L.map wD),.lst (L.map pD)]=U4 (L3 (some r) (i5 (eC .non))):=fun r=>b59 a2T bx (L.map wD) (L.map pD) l1 r
 rcases b28 bx L hl with⟨v,h1,h2⟩ | ⟨h1,e,h2⟩
 ·exact⟨v,by rw[F _ h1];rfl,h2⟩
 ·exact⟨.non,by rw[F _ h2];rfl,.inl ⟨rfl,h1⟩⟩
theorem b5_(LO:SF)(bx:Int×Int)(LW LP:List D)(hn:((LP.length:Int)=LW.length)↔False):fD 11 3 (f9 (m5 (bZ (eB (D7 true) (y4 t6 2) (y4 t6 1))) (i5 (eT (aC (eC (.str "count")) (aC (y4 t6 2) aN)))) m7) (f9 (r9 3 (eL aN)) (f9 LO (i5 (eC .non))))) [t2 bx,.lst LW,.lst LP]=some (.ret (.tup [.str "count",.int LP.length])):=by
 walk_at "eh"
theorem b29(bx:Int×Int)(LW LP:List D)(hn:((LP.length:Int)=LW.length)↔False):C8 [t2 bx,.lst LW,.lst LP]=some (.ret (.tup [.str "count",.int LP.length])):=b5_ a2T bx LW LP hn
theorem b4H(bx:Int×Int)(ws ps:List T3)(h1:ws.length≤100):∃v,C8 [t2 bx,.lst (ws.map t3),.lst (ps.map t3)]=some (.ret v)∧B8 [t2 bx,.lst (ws.map t3),.lst (ps.map t3)]=some (.ret v)∧((v=.non∧ws.length=ps.length∧Good bx (ws.zip ps))∨(∃s:Str,∃i:Int,v=.tup [.str s,.int i])∨∃s:Str,∃i j:Int,v=.tup [.str s,.int i,.int j]):=by
 by_cases e:ws.length=ps.length
 ·have hz:(ws.zip ps).length≤1000:=by rw[List.length_zip];omega
  obtain⟨v,f1,f2⟩:=b6F bx (ws.zip ps) hz
  obtain⟨v',f3,f4⟩:=b26 bx (ws.zip ps) hz
  rw[← a8B ws ps e,← a8C ws ps e]at f1 f3
  cases b1I f2 f4
  refine⟨v,f1,f3,?_⟩
  rcases f2 with⟨rfl,g⟩ | ⟨pre,q,post,_,_,g⟩
  ·exact .inl ⟨rfl,e,g⟩
  ·rcases g with⟨_,rfl⟩ | ⟨_,_,rfl⟩ | ⟨_,_,p1,o,p2,_,_,_,rfl⟩
   ·exact .inr (.inl ⟨_,_,rfl⟩)
   ·exact .inr (.inl ⟨_,_,rfl⟩)
   ·exact .inr (.inr ⟨_,_,_,rfl⟩)
 ·have hn:(((ps.map t3).length:Int)=(ws.map t3).length)↔False:=by
   rw[List.length_map,List.length_map]
   exact⟨fun z=>e (by omega),False.elim⟩
  exact⟨_,b29 bx _ _ hn,a8X bx _ _ hn,.inr (.inl ⟨_,_,rfl⟩)⟩
theorem b7g(f:AF)(e e1:DE)(ks:List Int)(h:f e=some (.ok [.lst (ks.map D.int)] e1))(hl:ks.length<64):a3T f e=some (.ok ((W9 ks).map D.int) e1):=by
 unfold a3T
 rw[h,L9]
 show(match P8 (ks.map D.int)with
  | some ns=>if ns.length<64 then some (L2.R.ok ((W9 ns).map D.int) e1)else none
  | none=>none)=_
 rw[L2.ints_map]
 show(if ks.length<64 then _ else _)=_
 rw[if_pos hl]
theorem a8D{α:Type}{b:GF}{body:SF}(f:α→D)(F:α→Option RS)(I:DE→Prop):∀(l:List α) (e:DE),I e→(∀x∈l,∀e,I e→(∃r,F x=some r∧a4i r=true∧u9 (B6 (b (f x) e) body)=some r)∨(F x=none∧∃e2,u9 (B6 (b (f x) e) body)=some (.nx e2)∧I e2)) →
  (∃r,l.findSome? F=some r∧a4i r=true∧l9 b body (l.map f) e=some r)∨(l.findSome? F=none∧∃e',l9 b body (l.map f) e=some (.nx e')∧I e')
 | [],e,h,_=>.inr ⟨rfl,e,rfl,h⟩
 | x::l,e,h,hs=>by
  rw[List.map_cons,G8,List.findSome?_cons]
  rcases hs x List.mem_cons_self e h with⟨r,hF,hr,h2⟩ | ⟨hF,e2,h2,h3⟩
  ·refine .inl ⟨r,by rw[hF],hr,?_⟩
   cases q:b (f x) e with
   | none=>rw[q]at h2;cases h2
   | some e1 =>
    rw[q]at h2
    have h2:u9 (body e1)=some r:=h2
    rw[E1,a1c,h2]
    cases r<;>first | rfl | cases hr
  ·rw[hF]
   have:=a8D f F I l e2 h3 fun y m=>hs y (List.mem_cons_of_mem _ m)
   cases q:b (f x) e with
   | none=>rw[q]at h2;cases h2
   | some e1 =>
    rw[q]at h2
    have h2:u9 (body e1)=some (.nx e2):=h2
    rw[E1,a1c,h2]
    exact this
theorem X1{c:BF}{body:SF}{n:Nat}{e e1 e2:DE}(h1:c e=some (.ok true e1))(h2:body e1=some (.nx e2)):B5 c body (n+1) e=B5 c body n e2:=by
 rw[B5,h1,O7,if_pos rfl,h2]
theorem a52{c:BF}{body:SF}{n:Nat}{e e1:DE}(h1:c e=some (.ok false e1)):B5 c body (n+1) e=some (.nx e1):=by
 rw[B5,h1,O7];rfl
theorem b1J{c:BF}{body:SF}{n:Nat}{e e1:DE}{x:D}(h1:c e=some (.ok true e1))(h2:body e1=some (.rt x)):B5 c body (n+1) e=some (.rt x):=by
 rw[B5,h1,O7,if_pos rfl,h2]
def lo(b:Bool)(s:T4):Int:=if b=true then s.2.1 else s.1
def hi(b:Bool)(s:T4):Int:=if b=true then s.2.2.2 else s.2.2.1
def bI(b:Bool):Int:=if b=true then 1 else 0
theorem a7m(b:Bool)(s:T4):atI [D.int s.1,D.int s.2.1,D.int s.2.2.1,D.int s.2.2.2] (bI b)=some (.int (lo b s)):=by cases b<;>rfl
theorem a7n(b:Bool)(s:T4):atI [D.int s.1,D.int s.2.1,D.int s.2.2.1,D.int s.2.2.2] (bI b+2)=some (.int (hi b s)):=by cases b<;>rfl
def a53(b:Bool)(e:Int)(s:T4):Bool:=decide (lo b s<e) && decide (e<hi b s)
def a1f(b:Bool)(p:T4)(S:List T4)(e:Int):Bool:=decide (lo b p<e) && (decide (e<hi b p) && !(S.any (a53 b e)))
def a8E(b:Bool)(S:List T4):List Int:=W9 (S.map (lo b)++S.map (hi b))
def feV(b:Bool)(p:T4)(S:List T4):Option Int:=(a8E b S).find? (a1f b p S)
def oI:Option Int→D
 | none=>.non
 | some e=>.int e
theorem b3I(EL:ZF)(f:T4→D)(S:List T4)(hl:S.length≤1000)(P:D)(k:Int)(s3 s4:Sl)(hE:∀s:T4,∃e3,EL [.fz (t4 s),.fz (.int k)]=some (.ok (f s) e3)):x8 1 1 [2] (g6 0) v9 EL [.fz P,.fz (.lst (S.map t4)),.fz (.int k),s3,s4]=some (.ok (S.map f) [.fz P,.fz (.lst (S.map t4)),.fz (.int k),s3,s4]):=by
 show p7 (g6 0) v9 EL [.no,.fz (.int k)] [.fz P,.fz (.lst (S.map t4)),.fz (.int k),s3,s4] (S.map t4) []=_
 rw[J9 t4 f (fun _=>true) S [] (by show 0+_≤2 ^ 24;omega) (fun s _=>⟨[.fz (t4 s),.fz (.int k)],[.fz (t4 s),.fz (.int k)],rfl,rfl,fun _=>hE s⟩)]
 rw[List.filter_eq_self.mpr (fun _ _=>rfl)]
 rfl
theorem b6G(EL:ZF)(f:T4→D)(S:List T4)(hl:S.length≤1000)(P:D)(k e:Int)(s4:Sl)(hE:∀s:T4,∃e3,EL [.fz (t4 s),.fz (.int e),.fz (.int k)]=some (.ok (f s) e3)):x8 1 1 [3,2] (g6 0) v9 EL [.fz P,.fz (.lst (S.map t4)),.fz (.int k),.fz (.int e),s4]=some (.ok (S.map f) [.fz P,.fz (.lst (S.map t4)),.fz (.int k),.fz (.int e),s4]):=by
 show p7 (g6 0) v9 EL [.no,.fz (.int e),.fz (.int k)] [.fz P,.fz (.lst (S.map t4)),.fz (.int k),.fz (.int e),s4] (S.map t4) []=_
 rw[J9 t4 f (fun _=>true) S [] (by show 0+_≤2 ^ 24;omega) (fun s _=>⟨[.fz (t4 s),.fz (.int e),.fz (.int k)],[.fz (t4 s),.fz (.int e),.fz (.int k)],rfl,rfl,fun _=>hE s⟩)]
 rw[List.filter_eq_self.mpr (fun _ _=>rfl)]
 rfl
abbrev CA:NF:=(x8 1 1 [3,2] (g6 0) v9 (J3 (eB F9 (eB i0 (eV 0) (eV 2)) (eV 1)) (eB F9 (eV 1) (eB i0 (eV 0) (eB y6 (eV 2) (eC (.int 2)))))))
theorem b6H(S:List T4)(hl:S.length≤1000)(P:D)(b:Bool)(e:Int)(s4:Sl):CA [.fz P,.fz (.lst (S.map t4)),.fz (.int (bI b)),.fz (.int e),s4]=some (.ok (S.map fun s=>.bl (a53 b e s)) [.fz P,.fz (.lst (S.map t4)),.fz (.int (bI b)),.fz (.int e),s4]) :=
 b6G _ _ S hl P (bI b) e s4 fun s=>by
  have h1:=a7m b s
  have h2:=a7n b s
  unfold a53
  generalize lo b s=l at h1 ⊢
  generalize hi b s=h at h2 ⊢
  generalize bI b=k at h1 h2 ⊢
  by_cases z:l<e
  ·walk_at "eh"
   exact⟨_,rfl⟩
  ·walk_at "eh"
   exact⟨_,rfl⟩
theorem a65{α:Type}(f:α→Bool):∀l:List α,Z7 (l.map fun x=>D.bl (f x))=some (l.map f)
 | []=>rfl
 | x::l=>by
  have:=a65 f l
  simp only[List.map_cons,Z7,this,Option.map_some]
theorem b6a(S:List T4)(f:T4→Bool):a4T (.lst (S.map fun s=>D.bl (f s)))=some (.bl (S.any f)):=by
 show(Z7 _).map _=_
 rw[a65]
 simp only[Option.map_some,List.any_map]
 rfl
abbrev feB(CA:NF):SF:=(f9 (p6 4 (J3 (eB F9 (eB i0 (eV 0) (eV 2)) (eV 3)) (eB F9 (eV 3) (eB i0 (eV 0) (eB y6 (eV 2) (eC (.int 2))))))) (m5 (y3 (bZ (eV 4)) (C1 (bZ (X6 (g1 a4T) (aC (zN CA) aN))))) (N5 3) m7))
theorem b4I(CA:NF)(A:D)(k e l h:Int)(ps bs:List D)(a:Bool)(o3 o4:Option D)(h1:atI ps k=some (.int l))(h2:atI ps (k+2)=some (.int h))(hc:CA [.fz (.tup ps),.fz A,.fz (.int k),.fz (.int e),.fz (.bl true)]=some (.ok bs [.fz (.tup ps),.fz A,.fz (.int k),.fz (.int e),.fz (.bl true)]))(hg:a4T (.lst bs)=some (.bl a))
  (hk:¬l<e∨(l<e∧¬e<h)∨(l<e∧e<h∧a=true)):∃o,u9 (B6 (g6 3 (.int e) [.fz (.tup ps),.fz A,.fz (.int k),un o3,un o4]) (feB CA))=some (.nx [.fz (.tup ps),.fz A,.fz (.int k),.fz (.int e),un o]):=by
 unfold feB
 rcases hk with hk | ⟨hk,hj⟩ | ⟨hk,hj,rfl⟩
 ·refine⟨some (.bl false),?_⟩
  walk_at "eh"
  rfl
 ·refine⟨some (.bl false),?_⟩
  walk_at "eh"
  rfl
 ·refine⟨some (.bl true),?_⟩
  walk_at "eh"
  rfl
theorem b6b(CA:NF)(A:D)(k e l h:Int)(ps bs:List D)(o3 o4:Option D)(h1:atI ps k=some (.int l))(h2:atI ps (k+2)=some (.int h))(hc:CA [.fz (.tup ps),.fz A,.fz (.int k),.fz (.int e),.fz (.bl true)]=some (.ok bs [.fz (.tup ps),.fz A,.fz (.int k),.fz (.int e),.fz (.bl true)]))(hg:a4T (.lst bs)=some (.bl false))
  (hk:l<e) (hj:e<h):u9 (B6 (g6 3 (.int e) [.fz (.tup ps),.fz A,.fz (.int k),un o3,un o4]) (feB CA))=some (.rt (.int e)):=by
 unfold feB
 walk_at "eh"
abbrev nsF:NF:=(a3T (aC (zN (nB O5 (zN (x8 1 1 [2] (g6 0) v9 (eB i0 (eV 0) (eV 1)))) (zN (x8 1 1 [2] (g6 0) v9 (eB i0 (eV 0) (eB y6 (eV 1) (eC (.int 2)))))))) aN))
theorem b7h(NS:NF)(FB:SF)(P A k:D)(xs:List D)(r:RS)(h1:NS [.fz P,.fz A,.fz k,.no,.no]=some (.ok xs [.fz P,.fz A,.fz k,.no,.no]))(h2:l9 (g6 3) FB xs [.fz P,.fz A,.fz k,.no,.no]=some r):fD 5 3 (f9 (a3o (zN NS)  (g6 3) FB) (i5 (eC .non))) [P,A,k]=U4 (L3 (some r) (i5 (eC .non))):=by
 walk_at "eh"
theorem b7i(NS1 NS2:NF)(e:DE)(A B C:List D)(h:NS1 e=some (.ok A e))(h2:NS2 e=some (.ok B e))(hg:O5 (.lst A) (.lst B)=some C):(aC (zN (nB O5 (zN NS1) (zN NS2))) aN) e=some (.ok [.lst C] e):=by
 show bnd ((zN (nB O5 (zN NS1) (zN NS2))) e) _=_
 have q1:zN NS1 e=some (.ok (.lst A) e):=by unfold zN;rw[h];rfl
 have q2:zN NS2 e=some (.ok (.lst B) e):=by unfold zN;rw[h2];rfl
 have q3:nB O5 (zN NS1) (zN NS2) e=some (.ok C e):=by unfold nB;rw[q1,L9,q2,L9,hg];rfl
 have q4:zN (nB O5 (zN NS1) (zN NS2)) e=some (.ok (.lst C) e):=by unfold zN at q3 ⊢;rw[q3];rfl
 rw[q4]
 rfl
theorem b6c(S:List T4)(hl:S.length≤31)(P:D)(b:Bool):nsF [.fz P,.fz (.lst (S.map t4)),.fz (.int (bI b)),.no,.no]=some (.ok ((a8E b S).map D.int) [.fz P,.fz (.lst (S.map t4)),.fz (.int (bI b)),.no,.no]):=by
 have c1:=b3I (eB i0 (eV 0) (eV 1)) (fun s=>.int (lo b s)) S (by omega) P (bI b) .no .no fun s=>by
  have h1:=a7m b s
  generalize bI b=k at h1 ⊢
  walk_at "eh"
  exact⟨_,rfl⟩
 have c2:=b3I (eB i0 (eV 0) (eB y6 (eV 1) (eC (.int 2)))) (fun s=>.int (hi b s)) S (by omega) P (bI b) .no .no fun s=>by
  have h1:=a7n b s
  generalize bI b=k at h1 ⊢
  walk_at "eh"
  exact⟨_,rfl⟩
 have hg:O5 (.lst (S.map fun s=>D.int (lo b s))) (.lst (S.map fun s=>D.int (hi b s)))=some ((S.map (lo b)++S.map (hi b)).map D.int):=by
  rw[b4o (by simp only[List.length_map];omega),List.map_append,List.map_map,List.map_map]
  rfl
 exact b7g _ _ _ _ (b7i _ _ _ _ _ _ c1 c2 hg) (by simp only[List.length_append,List.length_map];omega)
theorem b3J(S:List T4)(hl:S.length≤31)(p:T4)(b:Bool):B1 [t4 p,.lst (S.map t4),.int (bI b)]=some (.ret (oI (feV b p S))):=by
 have ns:=b6c S hl (t4 p) b
 have F:=fun r=>b7h nsF (feB CA) (t4 p) (.lst (S.map t4)) (.int (bI b)) _ r ns
 rcases a8D (b:=g6 3) (body:=feB CA) D.int (fun e=>if a1f b p S e=true then some (.rt (.int e))else none) (fun e=>∃o3 o4,e=[.fz (t4 p),.fz (.lst (S.map t4)),.fz (.int (bI b)),un o3,un o4]) (a8E b S) [.fz (t4 p),.fz (.lst (S.map t4)),.fz (.int (bI b)),.no,.no] ⟨none,none,rfl⟩ (by
   rintro e _ _ ⟨o3,o4,rfl⟩
   have c:=b6H S (by omega) (t4 p) b e (.fz (.bl true))
   have g:=b6a S (a53 b e)
   cases hf:a1f b p S e with
   | true =>
    unfold a1f at hf
    simp only[Bool.and_eq_true,decide_eq_true_eq,Bool.not_eq_true']at hf
    rw[hf.2.2]at g
    exact .inl ⟨.rt (.int e),rfl,rfl,b6b CA _ _ e _ _ _ _ o3 o4 (a7m b p) (a7n b p) c g hf.1 hf.2.1⟩
   | false =>
    refine .inr ⟨rfl,?_⟩
    have hk:¬lo b p<e∨(lo b p<e∧¬e<hi b p)∨(lo b p<e∧e<hi b p∧S.any (a53 b e)=true):=by
     unfold a1f at hf
     simp only[Bool.and_eq_false_iff,decide_eq_false_iff_not,Bool.not_eq_false']at hf
     rcases hf with hf | hf | hf
     ·exact .inl hf
     ·by_cases z:lo b p<e
      ·exact .inr (.inl ⟨z,hf⟩)
      ·exact .inl z
     ·by_cases z:lo b p<e
      ·by_cases y:e<hi b p
       ·exact .inr (.inr ⟨z,y,hf⟩)
       ·exact .inr (.inl ⟨z,y⟩)
      ·exact .inl z
    obtain⟨o,q⟩:=b4I CA _ _ e _ _ _ _ _ o3 o4 (a7m b p) (a7n b p) c g hk
    exact⟨_,q,some _,o,rfl⟩)with⟨r,h1,_,h3⟩ | ⟨h1,e',h3,_⟩
 ·have hr:∃e,feV b p S=some e∧r=.rt (.int e):=by
   clear h3 F ns
   unfold feV
   revert h1
   generalize a8E b S=l
   induction l with
   | nil=>intro h;cases h
   | cons x l ih =>
    intro h
    rw[List.findSome?_cons]at h
    rw[List.find?_cons]
    cases z:a1f b p S x with
    | true=>rw[z]at h;cases h;exact⟨x,rfl,rfl⟩
    | false=>rw[z]at h;exact ih h
  obtain⟨e,h5,rfl⟩:=hr
  rw[h5]
  exact(F _ h3).trans rfl
 ·have hr:feV b p S=none:=by
   clear h3 F ns
   unfold feV
   revert h1
   generalize a8E b S=l
   induction l with
   | nil=>intro _;rfl
   | cons x l ih =>
    intro h
    rw[List.findSome?_cons]at h
    rw[List.find?_cons]
    cases z:a1f b p S x with
    | true=>rw[z]at h;cases h
    | false=>rw[z]at h;exact ih h
  rw[hr]
  exact(F _ h3).trans rfl
def gs(S:List T4)(k:Nat):T4:=S.getD k (0,0,0,0)
theorem b0v{S:List T4}{k:Nat}(h:k<S.length):atI (S.map t4) (k:Int)=some (t4 (gs S k)):=by
 refine a4Z ?_
 rw[List.getElem?_map,List.getElem?_eq_getElem h]
 unfold gs
 rw[List.getD_eq_getElem?_getD,List.getElem?_eq_getElem h]
 rfl
theorem b7j(s p:T4):D5 false (t4 s) (t4 p)=some (.bl (decide (s=p))):=by
 have e:u5 (t4 s) (t4 p)=decide (s=p):=by
  simp only[u5,D0,O8,Bool.and_true,List.isEmpty_nil]
  rw[Bool.eq_iff_iff]
  simp only[Bool.and_eq_true,decide_eq_true_eq,beq_iff_eq]
  constructor
  ·rintro⟨h1,h2,h3,h4⟩
   exact Prod.ext h1 (Prod.ext h2 (Prod.ext h3 h4))
  ·rintro rfl
   exact⟨rfl,rfl,rfl,rfl⟩
 unfold D5
 rw[e]
 simp[i7,v5,E5,A4,J8,j9]
abbrev CI:NF:=(x8 3 1 [1] (g6 0) v9 (n9 l4 1 (eV 0)))
theorem b6I(S:List T4)(N:List Nat)(hl:N.length≤1000)(hN:∀k∈N,k<S.length)(P B:D)(s4 s5 s6 s7 s8:Sl):CI [.fz P,.fz (.lst (S.map t4)),.fz B,.fz (.lst (N.map fun k:Nat=>D.int (k:Int))),s4,s5,s6,s7,s8]=some (.ok ((N.map (gs S)).map t4) [.fz P,.fz (.lst (S.map t4)),.fz B,.fz (.lst (N.map fun k:Nat=>D.int (k:Int))),s4,s5,s6,s7,s8]):=by
 show p7 (g6 0) v9 (n9 l4 1 (eV 0)) [.no,.fz (.lst (S.map t4))] [.fz P,.fz (.lst (S.map t4)),.fz B,.fz (.lst (N.map fun k:Nat=>D.int (k:Int))),s4,s5,s6,s7,s8] (N.map fun k:Nat=>D.int (k:Int)) []=_
 rw[J9 (fun k:Nat=>D.int (k:Int)) (fun k=>t4 (gs S k)) (fun _=>true) N [] (by show 0+_≤2 ^ 24;omega) (fun k m=>⟨[.fz (.int k),.fz (.lst (S.map t4))],[.fz (.int k),.fz (.lst (S.map t4))],rfl,rfl,fun _=>by
  have h:=b0v (hN k m)
  clear m hN
  generalize S.map t4=SS at h ⊢
  generalize t4 (gs S k)=v at h ⊢
  generalize (k:Int)=j at h ⊢
  walk_at "eh"
  exact⟨_,rfl⟩⟩)]
 rw[List.filter_eq_self.mpr (fun _ _=>rfl),List.map_map]
 rfl
section
variable (CI:NF)(FE:List D→Option R1)(EQ:D→D→Option D)(ps SS PP R I:List D)(f e l:Int)(sp:D)
theorem b2_:fD 9 4 ((f9 (m5 (bZ (eB (D7 false) (y4 t6 3) (eC (.int 0)))) (i5 (eT (aC (eC (.str "waste")) aN))) m7) (f9 (p6 4 (n9 l4 3 (eC (.int 0)))) (f9 (m5 (bZ (eB EQ (n9 l4 1 (eV 4)) (eV 0))) (i5 (eT (aC (eC (.str "ware")) (aC (eV 4) (aC (eB i0 (n9 l4 2 (eV 4)) (eC (.int 2))) aN))))) m7) (f9 (r9 5 CI) (f9 (L5 (eT (aC (eT (aC (eC (.int 0)) (aC (eC (.str "across")) aN))) (aC (eT (aC (eC (.int 1)) (aC (eC (.str "up")) aN))) aN)))  (w6 [(g6 6),(g6 7)]) (f9 (A1 8 FE (aC (eV 0) (aC (eV 5) (aC (eV 6) aN)))) (m5 (bZ (eB (D3 true) (eV 8) (eC .non))) (i5 (eT (aC (eV 7) (aC (eB N4 (eV 8) (eB i0 (eV 0) (eV 6))) aN)))) m7))) (i5 (eC .non)))))))) [.tup ps,.lst SS,.lst PP,.lst []]=some (.ret (.tup [.str "waste"])):=by
 walk_at "eh"
theorem b4J(x y li:D)(ne:((R.length:Int)+1=0)↔False)(h1:atI SS f=some sp)(h2:EQ sp (.tup ps)=some (.bl true))(h3:atI PP f=some (.tup [x,y,li])):fD 9 4 ((f9 (m5 (bZ (eB (D7 false) (y4 t6 3) (eC (.int 0)))) (i5 (eT (aC (eC (.str "waste")) aN))) m7) (f9 (p6 4 (n9 l4 3 (eC (.int 0)))) (f9 (m5 (bZ (eB EQ (n9 l4 1 (eV 4)) (eV 0))) (i5 (eT (aC (eC (.str "ware")) (aC (eV 4) (aC (eB i0 (n9 l4 2 (eV 4)) (eC (.int 2))) aN))))) m7) (f9 (r9 5 CI) (f9 (L5 (eT (aC (eT (aC (eC (.int 0)) (aC (eC (.str "across")) aN))) (aC (eT (aC (eC (.int 1)) (aC (eC (.str "up")) aN))) aN)))  (w6 [(g6 6),(g6 7)]) (f9 (A1 8 FE (aC (eV 0) (aC (eV 5) (aC (eV 6) aN)))) (m5 (bZ (eB (D3 true) (eV 8) (eC .non))) (i5 (eT (aC (eV 7) (aC (eB N4 (eV 8) (eB i0 (eV 0) (eV 6))) aN)))) m7))) (i5 (eC .non)))))))) [.tup ps,.lst SS,.lst PP,.lst (.int f::R)]=some (.ret (.tup [.str "ware",.int f,li])):=by
 simp (decide:=true) only[a5A,a1z,V7,a1A,a1B,a1M,a1C,a1D,a1E,a1F,a0x,a39,a1G,a1H,a3_,a2F,a0_,Z9,a1a,a0a,a1I,a1J,a3r,a0y,a0z,X9,Y0,a0A,U0,U1,Y1,Y2,Y3,a0B,U2,U3,a1K,V8,a1N,a1L,a1O,a0C,a1P,a1Q,a1R,a1S,a1U,a1T,a1V,a2G,a0D,G8,E1,a2e,a2f,a2g,a2h,a2j,a2i,a2O,S0,Y5,N7,n8,Q3,O9,a3A,a5y,x8,a0F,a2K,a5D,a3J,a6w,a8b,a0I,a3F,a3G,a4g,a0J,a3H,a3I,a4h,G2,a19,a1_,a2a,a2b,noL,noLs,nSl,a2L,oN,oS,a4W,a72,a5E,a4d,a5w,a5x,M5,unhide,Y4,a13,a1Z,a11,a12,a2H,a1W,a1X,a1Y,a7R,Z1,O8,D5,u5,D0,i7,v5,E5,A4,J8,Nat.max_self,Nat.zero_max,Nat.max_zero,decide_true,Bool.or_true,Bool.true_or,Bool.or_false,List.isEmpty_nil,a5F,a5G,a2l,U6,gIn,inD,List.any_cons,List.any_nil,a73,Q5,a8f,a3C,a74,a5I,j9,List.all_cons,List.all_nil,Bool.and_self,Bool.and_true,Bool.true_and,beq_self_eq_true,a14,a15,a3t,a3u,a3v,a3w,a3x,a3y,a16,a0d,a0e,m5,p6,r9,J4,A1,i5,a2D,a5u,a3n,N5,a3L,a3M,a3P,a3Q,a2o,a2p,a3W,auN,auM,auE,asU,a1d,Y7,a3V,fU,uS,a8o,uIf,a8p,uNx,a8q,a8r,a5U,a5V,a3R,a3S,a5M,a3O,fM,mNx,a8i,mIf,a8j,a8k,a5v,m7,sBk,sCt,Q1,a0t,N8,a3X,a5W,a0U,XN.nm,XN.d,a17,a18,sEx,D4,a8e,a5L,a3K,a8m,a8n,a5O,lookD,a5P,a5T,a5Q,a5R,a5S,a2Q,a0T,a2m,a2n,a7U,L5,a3o,P7,a3N,a3U,a2c,a0P,a0Q,a0L,a0M,a0N,a0O,a0K,a2d,a0S,Y6,eC,eV,eB,n9,eBW,a7N,eT,eL,zN,aN,aC,W7,l6,a4S,J3,eOr,eIf,nIf,eU,a3k,X6,y4,nCB,nCV,nB,O5,g1,t6,a7S,T8,bZ,C1,y3,bOr,v9,a0R,w6,T9,L9,a3g,a3h,O7,a3i,a3j,M0,M1,look,i0,l4,a1v,a5t,a1w,D3,a2k,N6,a4j,W8,tyN,a3q,seqL,a2I,a2J,a4b,a4c,a5B,a5C,a7k,List.map_cons,List.map_nil,List.length_cons,List.length_nil,List.cons_append,List.nil_append,List.replicate_succ,List.replicate_zero,List.getElem?_cons_zero,List.getElem?_cons_succ,List.set_cons_zero,List.set_cons_succ,Nat.reduceAdd,Nat.reduceSub,if_true,if_false,Bool.not_true,Bool.not_false,Bool.not_not,Nat.zero_add,Bool.false_eq_true,decide_eq_true_eq,Bool.not_eq_true',decide_eq_false_iff_not,Option.map_some,Option.map_none,ite_self,t9,P0,Int.natCast_add,Int.natCast_one,ne,h1,h2,h3]
theorem b4K(ne:((R.length:Int)+1=0)↔False)(h1:atI SS f=some sp)(h2:EQ sp (.tup ps)=some (.bl false))(hc:CI [.fz (.tup ps),.fz (.lst SS),.fz (.lst PP),.fz (.lst (.int f::R)),.fz (.int f),.no,.no,.no,.no]=some (.ok I [.fz (.tup ps),.fz (.lst SS),.fz (.lst PP),.fz (.lst (.int f::R)),.fz (.int f),.no,.no,.no,.no]))
  (h3:FE [.tup ps,.lst I,.int 0]=some (.ret (.int e))) (h4:atI ps 0=some (.int l)):fD 9 4 ((f9 (m5 (bZ (eB (D7 false) (y4 t6 3) (eC (.int 0)))) (i5 (eT (aC (eC (.str "waste")) aN))) m7) (f9 (p6 4 (n9 l4 3 (eC (.int 0)))) (f9 (m5 (bZ (eB EQ (n9 l4 1 (eV 4)) (eV 0))) (i5 (eT (aC (eC (.str "ware")) (aC (eV 4) (aC (eB i0 (n9 l4 2 (eV 4)) (eC (.int 2))) aN))))) m7) (f9 (r9 5 CI) (f9 (L5 (eT (aC (eT (aC (eC (.int 0)) (aC (eC (.str "across")) aN))) (aC (eT (aC (eC (.int 1)) (aC (eC (.str "up")) aN))) aN)))  (w6 [(g6 6),(g6 7)]) (f9 (A1 8 FE (aC (eV 0) (aC (eV 5) (aC (eV 6) aN)))) (m5 (bZ (eB (D3 true) (eV 8) (eC .non))) (i5 (eT (aC (eV 7) (aC (eB N4 (eV 8) (eB i0 (eV 0) (eV 6))) aN)))) m7))) (i5 (eC .non)))))))) [.tup ps,.lst SS,.lst PP,.lst (.int f::R)]=some (.ret (.tup [.str "across",.int (e-l)])):=by
 simp (decide:=true) only[a5A,a1z,V7,a1A,a1B,a1M,a1C,a1D,a1E,a1F,a0x,a39,a1G,a1H,a3_,a2F,a0_,Z9,a1a,a0a,a1I,a1J,a3r,a0y,a0z,X9,Y0,a0A,U0,U1,Y1,Y2,Y3,a0B,U2,U3,a1K,V8,a1N,a1L,a1O,a0C,a1P,a1Q,a1R,a1S,a1U,a1T,a1V,a2G,a0D,G8,E1,a2e,a2f,a2g,a2h,a2j,a2i,a2O,S0,Y5,N7,n8,Q3,O9,a3A,a5y,x8,a0F,a2K,a5D,a3J,a6w,a8b,a0I,a3F,a3G,a4g,a0J,a3H,a3I,a4h,G2,a19,a1_,a2a,a2b,noL,noLs,nSl,a2L,oN,oS,a4W,a72,a5E,a4d,a5w,a5x,M5,unhide,Y4,a13,a1Z,a11,a12,a2H,a1W,a1X,a1Y,a7R,Z1,O8,D5,u5,D0,i7,v5,E5,A4,J8,Nat.max_self,Nat.zero_max,Nat.max_zero,decide_true,Bool.or_true,Bool.true_or,Bool.or_false,List.isEmpty_nil,a5F,a5G,a2l,U6,gIn,inD,List.any_cons,List.any_nil,a73,Q5,a8f,a3C,a74,a5I,j9,List.all_cons,List.all_nil,Bool.and_self,Bool.and_true,Bool.true_and,beq_self_eq_true,a14,a15,a3t,a3u,a3v,a3w,a3x,a3y,a16,a0d,a0e,m5,p6,r9,J4,A1,i5,a2D,a5u,a3n,N5,a3L,a3M,a3P,a3Q,a2o,a2p,a3W,auN,auM,auE,asU,a1d,Y7,a3V,fU,uS,a8o,uIf,a8p,uNx,a8q,a8r,a5U,a5V,a3R,a3S,a5M,a3O,fM,mNx,a8i,mIf,a8j,a8k,a5v,m7,sBk,sCt,Q1,a0t,N8,a3X,a5W,a0U,XN.nm,XN.d,a17,a18,sEx,D4,a8e,a5L,a3K,a8m,a8n,a5O,lookD,a5P,a5T,a5Q,a5R,a5S,a2Q,a0T,a2m,a2n,a7U,L5,a3o,P7,a3N,a3U,a2c,a0P,a0Q,a0L,a0M,a0N,a0O,a0K,a2d,a0S,Y6,eC,eV,eB,n9,eBW,a7N,eT,eL,zN,aN,aC,W7,l6,a4S,J3,eOr,eIf,nIf,eU,a3k,X6,y4,nCB,nCV,nB,O5,g1,t6,a7S,T8,bZ,C1,y3,bOr,v9,a0R,w6,T9,L9,a3g,a3h,O7,a3i,a3j,M0,M1,look,i0,l4,a1v,a5t,a1w,D3,a2k,N6,a4j,W8,tyN,a3q,seqL,a2I,a2J,a4b,a4c,a5B,a5C,a7k,List.map_cons,List.map_nil,List.length_cons,List.length_nil,List.cons_append,List.nil_append,List.replicate_succ,List.replicate_zero,List.getElem?_cons_zero,List.getElem?_cons_succ,List.set_cons_zero,List.set_cons_succ,Nat.reduceAdd,Nat.reduceSub,if_true,if_false,Bool.not_true,Bool.not_false,Bool.not_not,Nat.zero_add,Bool.false_eq_true,decide_eq_true_eq,Bool.not_eq_true',decide_eq_false_iff_not,Option.map_some,Option.map_none,ite_self,t9,P0,Int.natCast_add,Int.natCast_one,ne,h1,h2,hc,h3,h4]
theorem b4L(ne:((R.length:Int)+1=0)↔False)(h1:atI SS f=some sp)(h2:EQ sp (.tup ps)=some (.bl false))(hc:CI [.fz (.tup ps),.fz (.lst SS),.fz (.lst PP),.fz (.lst (.int f::R)),.fz (.int f),.no,.no,.no,.no]=some (.ok I [.fz (.tup ps),.fz (.lst SS),.fz (.lst PP),.fz (.lst (.int f::R)),.fz (.int f),.no,.no,.no,.no]))
  (h0:FE [.tup ps,.lst I,.int 0]=some (.ret .non)) (h3:FE [.tup ps,.lst I,.int 1]=some (.ret (.int e))) (h4:atI ps 1=some (.int l)):fD 9 4 ((f9 (m5 (bZ (eB (D7 false) (y4 t6 3) (eC (.int 0)))) (i5 (eT (aC (eC (.str "waste")) aN))) m7) (f9 (p6 4 (n9 l4 3 (eC (.int 0)))) (f9 (m5 (bZ (eB EQ (n9 l4 1 (eV 4)) (eV 0))) (i5 (eT (aC (eC (.str "ware")) (aC (eV 4) (aC (eB i0 (n9 l4 2 (eV 4)) (eC (.int 2))) aN))))) m7) (f9 (r9 5 CI) (f9 (L5 (eT (aC (eT (aC (eC (.int 0)) (aC (eC (.str "across")) aN))) (aC (eT (aC (eC (.int 1)) (aC (eC (.str "up")) aN))) aN)))  (w6 [(g6 6),(g6 7)]) (f9 (A1 8 FE (aC (eV 0) (aC (eV 5) (aC (eV 6) aN)))) (m5 (bZ (eB (D3 true) (eV 8) (eC .non))) (i5 (eT (aC (eV 7) (aC (eB N4 (eV 8) (eB i0 (eV 0) (eV 6))) aN)))) m7))) (i5 (eC .non)))))))) [.tup ps,.lst SS,.lst PP,.lst (.int f::R)]=some (.ret (.tup [.str "up",.int (e-l)])):=by
 simp (decide:=true) only[a5A,a1z,V7,a1A,a1B,a1M,a1C,a1D,a1E,a1F,a0x,a39,a1G,a1H,a3_,a2F,a0_,Z9,a1a,a0a,a1I,a1J,a3r,a0y,a0z,X9,Y0,a0A,U0,U1,Y1,Y2,Y3,a0B,U2,U3,a1K,V8,a1N,a1L,a1O,a0C,a1P,a1Q,a1R,a1S,a1U,a1T,a1V,a2G,a0D,G8,E1,a2e,a2f,a2g,a2h,a2j,a2i,a2O,S0,Y5,N7,n8,Q3,O9,a3A,a5y,x8,a0F,a2K,a5D,a3J,a6w,a8b,a0I,a3F,a3G,a4g,a0J,a3H,a3I,a4h,G2,a19,a1_,a2a,a2b,noL,noLs,nSl,a2L,oN,oS,a4W,a72,a5E,a4d,a5w,a5x,M5,unhide,Y4,a13,a1Z,a11,a12,a2H,a1W,a1X,a1Y,a7R,Z1,O8,D5,u5,D0,i7,v5,E5,A4,J8,Nat.max_self,Nat.zero_max,Nat.max_zero,decide_true,Bool.or_true,Bool.true_or,Bool.or_false,List.isEmpty_nil,a5F,a5G,a2l,U6,gIn,inD,List.any_cons,List.any_nil,a73,Q5,a8f,a3C,a74,a5I,j9,List.all_cons,List.all_nil,Bool.and_self,Bool.and_true,Bool.true_and,beq_self_eq_true,a14,a15,a3t,a3u,a3v,a3w,a3x,a3y,a16,a0d,a0e,m5,p6,r9,J4,A1,i5,a2D,a5u,a3n,N5,a3L,a3M,a3P,a3Q,a2o,a2p,a3W,auN,auM,auE,asU,a1d,Y7,a3V,fU,uS,a8o,uIf,a8p,uNx,a8q,a8r,a5U,a5V,a3R,a3S,a5M,a3O,fM,mNx,a8i,mIf,a8j,a8k,a5v,m7,sBk,sCt,Q1,a0t,N8,a3X,a5W,a0U,XN.nm,XN.d,a17,a18,sEx,D4,a8e,a5L,a3K,a8m,a8n,a5O,lookD,a5P,a5T,a5Q,a5R,a5S,a2Q,a0T,a2m,a2n,a7U,L5,a3o,P7,a3N,a3U,a2c,a0P,a0Q,a0L,a0M,a0N,a0O,a0K,a2d,a0S,Y6,eC,eV,eB,n9,eBW,a7N,eT,eL,zN,aN,aC,W7,l6,a4S,J3,eOr,eIf,nIf,eU,a3k,X6,y4,nCB,nCV,nB,O5,g1,t6,a7S,T8,bZ,C1,y3,bOr,v9,a0R,w6,T9,L9,a3g,a3h,O7,a3i,a3j,M0,M1,look,i0,l4,a1v,a5t,a1w,D3,a2k,N6,a4j,W8,tyN,a3q,seqL,a2I,a2J,a4b,a4c,a5B,a5C,a7k,List.map_cons,List.map_nil,List.length_cons,List.length_nil,List.cons_append,List.nil_append,List.replicate_succ,List.replicate_zero,List.getElem?_cons_zero,List.getElem?_cons_succ,List.set_cons_zero,List.set_cons_succ,Nat.reduceAdd,Nat.reduceSub,if_true,if_false,Bool.not_true,Bool.not_false,Bool.not_not,Nat.zero_add,Bool.false_eq_true,decide_eq_true_eq,Bool.not_eq_true',decide_eq_false_iff_not,Option.map_some,Option.map_none,ite_self,t9,P0,Int.natCast_add,Int.natCast_one,ne,h1,h2,hc,h0,h3,h4]
theorem b4M(ne:((R.length:Int)+1=0)↔False)(h1:atI SS f=some sp)(h2:EQ sp (.tup ps)=some (.bl false))(hc:CI [.fz (.tup ps),.fz (.lst SS),.fz (.lst PP),.fz (.lst (.int f::R)),.fz (.int f),.no,.no,.no,.no]=some (.ok I [.fz (.tup ps),.fz (.lst SS),.fz (.lst PP),.fz (.lst (.int f::R)),.fz (.int f),.no,.no,.no,.no]))
  (h0:FE [.tup ps,.lst I,.int 0]=some (.ret .non)) (h3:FE [.tup ps,.lst I,.int 1]=some (.ret .non)):fD 9 4 ((f9 (m5 (bZ (eB (D7 false) (y4 t6 3) (eC (.int 0)))) (i5 (eT (aC (eC (.str "waste")) aN))) m7) (f9 (p6 4 (n9 l4 3 (eC (.int 0)))) (f9 (m5 (bZ (eB EQ (n9 l4 1 (eV 4)) (eV 0))) (i5 (eT (aC (eC (.str "ware")) (aC (eV 4) (aC (eB i0 (n9 l4 2 (eV 4)) (eC (.int 2))) aN))))) m7) (f9 (r9 5 CI) (f9 (L5 (eT (aC (eT (aC (eC (.int 0)) (aC (eC (.str "across")) aN))) (aC (eT (aC (eC (.int 1)) (aC (eC (.str "up")) aN))) aN)))  (w6 [(g6 6),(g6 7)]) (f9 (A1 8 FE (aC (eV 0) (aC (eV 5) (aC (eV 6) aN)))) (m5 (bZ (eB (D3 true) (eV 8) (eC .non))) (i5 (eT (aC (eV 7) (aC (eB N4 (eV 8) (eB i0 (eV 0) (eV 6))) aN)))) m7))) (i5 (eC .non)))))))) [.tup ps,.lst SS,.lst PP,.lst (.int f::R)]=some (.ret .non):=by
 simp (decide:=true) only[a5A,a1z,V7,a1A,a1B,a1M,a1C,a1D,a1E,a1F,a0x,a39,a1G,a1H,a3_,a2F,a0_,Z9,a1a,a0a,a1I,a1J,a3r,a0y,a0z,X9,Y0,a0A,U0,U1,Y1,Y2,Y3,a0B,U2,U3,a1K,V8,a1N,a1L,a1O,a0C,a1P,a1Q,a1R,a1S,a1U,a1T,a1V,a2G,a0D,G8,E1,a2e,a2f,a2g,a2h,a2j,a2i,a2O,S0,Y5,N7,n8,Q3,O9,a3A,a5y,x8,a0F,a2K,a5D,a3J,a6w,a8b,a0I,a3F,a3G,a4g,a0J,a3H,a3I,a4h,G2,a19,a1_,a2a,a2b,noL,noLs,nSl,a2L,oN,oS,a4W,a72,a5E,a4d,a5w,a5x,M5,unhide,Y4,a13,a1Z,a11,a12,a2H,a1W,a1X,a1Y,a7R,Z1,O8,D5,u5,D0,i7,v5,E5,A4,J8,Nat.max_self,Nat.zero_max,Nat.max_zero,decide_true,Bool.or_true,Bool.true_or,Bool.or_false,List.isEmpty_nil,a5F,a5G,a2l,U6,gIn,inD,List.any_cons,List.any_nil,a73,Q5,a8f,a3C,a74,a5I,j9,List.all_cons,List.all_nil,Bool.and_self,Bool.and_true,Bool.true_and,beq_self_eq_true,a14,a15,a3t,a3u,a3v,a3w,a3x,a3y,a16,a0d,a0e,m5,p6,r9,J4,A1,i5,a2D,a5u,a3n,N5,a3L,a3M,a3P,a3Q,a2o,a2p,a3W,auN,auM,auE,asU,a1d,Y7,a3V,fU,uS,a8o,uIf,a8p,uNx,a8q,a8r,a5U,a5V,a3R,a3S,a5M,a3O,fM,mNx,a8i,mIf,a8j,a8k,a5v,m7,sBk,sCt,Q1,a0t,N8,a3X,a5W,a0U,XN.nm,XN.d,a17,a18,sEx,D4,a8e,a5L,a3K,a8m,a8n,a5O,lookD,a5P,a5T,a5Q,a5R,a5S,a2Q,a0T,a2m,a2n,a7U,L5,a3o,P7,a3N,a3U,a2c,a0P,a0Q,a0L,a0M,a0N,a0O,a0K,a2d,a0S,Y6,eC,eV,eB,n9,eBW,a7N,eT,eL,zN,aN,aC,W7,l6,a4S,J3,eOr,eIf,nIf,eU,a3k,X6,y4,nCB,nCV,nB,O5,g1,t6,a7S,T8,bZ,C1,y3,bOr,v9,a0R,w6,T9,L9,a3g,a3h,O7,a3i,a3j,M0,M1,look,i0,l4,a1v,a5t,a1w,D3,a2k,N6,a4j,W8,tyN,a3q,seqL,a2I,a2J,a4b,a4c,a5B,a5C,a7k,List.map_cons,List.map_nil,List.length_cons,List.length_nil,List.cons_append,List.nil_append,List.replicate_succ,List.replicate_zero,List.getElem?_cons_zero,List.getElem?_cons_succ,List.set_cons_zero,List.set_cons_succ,Nat.reduceAdd,Nat.reduceSub,if_true,if_false,Bool.not_true,Bool.not_false,Bool.not_not,Nat.zero_add,Bool.false_eq_true,decide_eq_true_eq,Bool.not_eq_true',decide_eq_false_iff_not,Option.map_some,Option.map_none,ite_self,t9,P0,Int.natCast_add,Int.natCast_one,ne,h1,h2,hc,h0,h3]
end
inductive Hd where
 | waste
 | ware (k:Nat) (l:Bool)
 | cut (b:Bool) (off:Int)
def wd(b:Bool):Str:=if b=true then "up" else "across"
def Hd.d:Hd→D
 | .waste=>.tup [.str "waste"]
 | .ware k l=>.tup [.str "ware",.int k,.bl l]
 | .cut b off=>.tup [.str (wd b),.int off]
def Hd.isC:Hd→Bool
 | .cut _ _=>true
 | _=>false
def oH:Option Hd→D
 | none=>.non
 | some h=>h.d
def a2U(p:T4)(S:List T4)(PL:List T3)(N:List Nat):Option Hd:=match N with
 | []=>some .waste
 | f::_=>if gs S f=p then some (.ware f (PL.getD f (0,0,false)).2.2)else match feV false p (N.map (gs S))with
  | some e=>some (.cut false (e-lo false p))
  | none=>match feV true p (N.map (gs S))with
   | some e=>some (.cut true (e-lo true p))
   | none=>none
theorem a54(p:T4)(S:List T4)(PL:List T3)(f:Nat)(N:List Nat):a2U p S PL (f::N)=if gs S f=p then some (.ware f (PL.getD f (0,0,false)).2.2)else match feV false p ((f::N).map (gs S))with
  | some e=>some (.cut false (e-lo false p))
  | none=>match feV true p ((f::N).map (gs S))with
   | some e=>some (.cut true (e-lo true p))
   | none=>none:=rfl
theorem b4N(p:T4)(S:List T4)(PL:List T3)(N:List Nat)(hl:N.length≤31)(hN:∀k∈N,k<S.length)(hS:S.length=PL.length):n6 [t4 p,.lst (S.map t4),.lst (PL.map t3),.lst (N.map fun k:Nat=>D.int (k:Int))]=some (.ret (oH (a2U p S PL N))):=by
 cases N with
 | nil=>exact b2_ CI B1 (D5 false) _ _ _
 | cons f N =>
  have hf:=hN f List.mem_cons_self
  have h1:=b0v hf
  have h2:=b7j (gs S f) p
  have ne:(((N.map fun k:Nat=>D.int (k:Int)).length:Int)+1=0)↔False:=⟨fun z=>by omega,False.elim⟩
  have hc:=b6I S (f::N) (by omega) hN (t4 p) (.lst (PL.map t3)) (.fz (.int f)) .no .no .no .no
  have hI:((f::N).map (gs S)).length≤31:=by rw[List.length_map];exact hl
  have f0:=b3J ((f::N).map (gs S)) hI p false
  have f1:=b3J ((f::N).map (gs S)) hI p true
  rw[a54]
  by_cases z:gs S f=p
  ·rw[decide_eq_true z]at h2
   rw[if_pos z]
   have h3:atI (PL.map t3) (f:Int)=some (t3 (PL.getD f (0,0,false))):=by
    refine a4Z ?_
    rw[List.getElem?_map,List.getElem?_eq_getElem (by omega),List.getD_eq_getElem?_getD,List.getElem?_eq_getElem (by omega)]
    rfl
   exact b4J CI B1 (D5 false) _ _ _ _ _ _ _ _ _ ne h1 h2 h3
  ·rw[decide_eq_false z]at h2
   rw[if_neg z]
   cases q0:feV false p ((f::N).map (gs S))with
   | some e =>
    rw[q0]at f0
    exact b4K CI B1 (D5 false) _ _ _ _ _ _ _ _ _ ne h1 h2 hc f0 a2I
   | none =>
    rw[q0]at f0
    cases q1:feV true p ((f::N).map (gs S))with
    | some e =>
     rw[q1]at f1
     exact b4L CI B1 (D5 false) _ _ _ _ _ _ _ _ _ ne h1 h2 hc f0 f1 a2J
    | none =>
     rw[q1]at f1
     exact b4M CI B1 (D5 false) _ _ _ _ _ _ _ ne h1 h2 hc f0 f1
theorem b1K(h:Hd):u3 [h.d]=some (.ret (.bl h.isC)):=by
 cases h with
 | waste=>rfl
 | ware k l=>rfl
 | cut b off=>cases b<;>rfl
def y8(b:Bool)(p:T4)(off:Int):T4×T4:=if b=true then((p.1,p.2.1,p.2.2.1,p.2.1+off),(p.1,p.2.1+off,p.2.2.1,p.2.2.2))else((p.1,p.2.1,p.1+off,p.2.2.2),(p.1+off,p.2.1,p.2.2.1,p.2.2.2))
theorem b4O(b:Bool)(p:T4)(off:Int):t7 [t4 p,(Hd.cut b off).d]=some (.ret (.tup [t4 (y8 b p off).1,t4 (y8 b p off).2])):=by
 obtain⟨x,y,x2,y2⟩:=p
 cases b<;> (unfold t7 a4A y8 Hd.d wd;walk_at "ev")
def inn(s p:T4):Bool:=decide (p.1≤s.1) && (decide (p.2.1≤s.2.1) && (decide (s.2.2.1≤p.2.2.1) && decide (s.2.2.2≤p.2.2.2)))
theorem b1L(s p:T4):C7 [t4 s,t4 p]=some (.ret (.bl (inn s p))):=by
 obtain⟨x,y,x2,y2⟩:=s
 obtain⟨a,b,a2,b2⟩:=p
 unfold C7 a4B inn
 by_cases h1:a≤x<;>by_cases h2:b≤y<;>by_cases h3:x2≤a2<;>simp only[h1,h2,h3,decide_true,decide_false,Bool.true_and,Bool.false_and]<;>walk_at "eh"
abbrev CW:NF:=(x8 8 1 [10,4] (g6 0) (bZ (l6 C7 (aC (n9 l4 2 (eV 0)) (aC (eV 1) aN)))) (eV 0))
theorem b3K(S:List T4)(N:List Nat)(hl:N.length≤1000)(hN:∀k∈N,k<S.length)(pt:T4)(a b c d f g h i:Sl):CW [a,b,c,d,.fz (.lst (S.map t4)),f,g,h,.fz (.lst (N.map fun k:Nat=>D.int (k:Int))),i,.fz (t4 pt)]=some (.ok ((N.filter fun k=>inn (gs S k) pt).map fun k:Nat=>D.int (k:Int)) [a,b,c,d,.fz (.lst (S.map t4)),f,g,h,.fz (.lst (N.map fun k:Nat=>D.int (k:Int))),i,.fz (t4 pt)]):=by
 show p7 (g6 0) (bZ (l6 C7 (aC (n9 l4 2 (eV 0)) (aC (eV 1) aN)))) (eV 0) [.no,.fz (t4 pt),.fz (.lst (S.map t4))] [a,b,c,d,.fz (.lst (S.map t4)),f,g,h,.fz (.lst (N.map fun k:Nat=>D.int (k:Int))),i,.fz (t4 pt)] (N.map fun k:Nat=>D.int (k:Int)) []=_
 rw[J9 (fun k:Nat=>D.int (k:Int)) (fun k:Nat=>D.int (k:Int)) (fun k=>inn (gs S k) pt) N [] (by show 0+_≤2 ^ 24;omega) (fun k m=>by
  have h:=b0v (hN k m)
  have w:=b1L (gs S k) pt
  clear m hN
  generalize S.map t4=SS at h ⊢
  generalize t4 (gs S k)=v at h w ⊢
  generalize t4 pt=u at w ⊢
  generalize inn (gs S k) pt=q at w ⊢
  generalize (k:Int)=j at h ⊢
  refine⟨[.fz (.int j),.fz u,.fz (.lst SS)],[.fz (.int j),.fz u,.fz (.lst SS)],rfl,?_,fun _=>⟨_,rfl⟩⟩
  walk_at "eh")]
 rfl
section
variable (LC IC CS:List D→Option R1)(CW:NF)(PW:SF)(BX WS PL P N a b:D)(SS HS W WT n1 n2 hs:List D)(s4:Sl)(o7 o8 o9 o10:Option D)
abbrev frB(CW:NF):SF:=(D4 6 (eT (aC (eV 10) (aC (zN CW) aN))))
def plW(CS:List D→Option R1)(CW:NF):SF:=(a5Y (l6 CS (aC (eV 7) (aC (eV 9) aN)))  (g6 10) (frB CW))
abbrev plB(LC IC:List D→Option R1)(PW:SF):SF:=(f9 (Q1 (Q5 6) (w6 [(g6 7),(g6 8)])) (f9 (A1 9 LC (aC (eV 7) (aC (eV 4) (aC (eV 2) (aC (eV 8) aN))))) (f9 (m5 (bZ (eB (D3 false) (eV 9) (eC .non))) (i5 (eT (aC (eC (.str "stuck")) (aC (eV 7) (aC (eV 8) aN))))) m7) (f9 (D4 5 (eV 9)) (m5 (bZ (l6 IC (aC (eV 9) aN))) PW m7)))))
abbrev plC:BF:=(bZ (eB Z4 (y4 t6 6) (eC (.int 0))))
theorem b6J(hW:0<(W.length:Int)):plC [.fz BX,.fz WS,.fz PL,.fz .non,s4,.ow HS,.ow W,un o7,un o8,un o9,un o10]=some (.ok true [.fz BX,.fz WS,.fz PL,.fz .non,s4,.ow HS,.ow W,un o7,un o8,un o9,un o10]):=by
 walk_at "eh"
theorem b3L:plC [.fz BX,.fz WS,.fz PL,.fz .non,s4,.ow HS,.ow [],un o7,un o8,un o9,un o10]=some (.ok false [.fz BX,.fz WS,.fz PL,.fz .non,s4,.ow HS,.ow [],un o7,un o8,un o9,un o10]):=by
 walk_at "ev"
 rfl
theorem b4P(g1:W.getLast? = some (.tup [P,N]))(g2:W.dropLast=WT)(h4:s4=.ow SS∨s4=.fz (.lst SS))(h:LC [P,.lst SS,PL,N]=some (.ret .non)):plB LC IC PW [.fz BX,.fz WS,.fz PL,.fz .non,s4,.ow HS,.ow W,un o7,un o8,un o9,un o10]=some (.rt (.tup [.str "stuck",P,N])):=by
 rcases h4 with rfl | rfl<;>walk_at "eh"
theorem b4Q(hH:HS.length<sizeLine)(g1:W.getLast? = some (.tup [P,N]))(g2:W.dropLast=WT)(h4:s4=.ow SS∨s4=.fz (.lst SS))(h:LC [P,.lst SS,PL,N]=some (.ret (.tup hs)))(hi:IC [.tup hs]=some (.ret (.bl false))):plB LC IC PW [.fz BX,.fz WS,.fz PL,.fz .non,s4,.ow HS,.ow W,un o7,un o8,un o9,un o10]=some (.nx [.fz BX,.fz WS,.fz PL,.fz .non,.fz (.lst SS),.ow (HS++[.tup hs]),.ow WT,.fz P,.fz N,.fz (.tup hs),un o10]):=by
 rcases h4 with rfl | rfl<;>walk_at "eh"
theorem b6K(BX WS PL P N a b:D)(SS HS WT n1 n2:List D)(o10:Option D)(hT:WT.length<sizeLine)(hT2:(WT++[D.tup [b,.lst n2]]).length<sizeLine)
  (c2:CW [.fz BX,.fz WS,.fz PL,.fz .non,.fz (.lst SS),.ow HS,.ow WT,.fz P,.fz N,.fz (.tup hs),.fz b]=some (.ok n2 [.fz BX,.fz WS,.fz PL,.fz .non,.fz (.lst SS),.ow HS,.ow WT,.fz P,.fz N,.fz (.tup hs),.fz b]))
  (c1:CW [.fz BX,.fz WS,.fz PL,.fz .non,.fz (.lst SS),.ow HS,.ow (WT++[.tup [b,.lst n2]]),.fz P,.fz N,.fz (.tup hs),.fz a]=some (.ok n1 [.fz BX,.fz WS,.fz PL,.fz .non,.fz (.lst SS),.ow HS,.ow (WT++[.tup [b,.lst n2]]),.fz P,.fz N,.fz (.tup hs),.fz a])) :
  l9 (g6 10) (frB CW) [b,a] [.fz BX,.fz WS,.fz PL,.fz .non,.fz (.lst SS),.ow HS,.ow WT,.fz P,.fz N,.fz (.tup hs),un o10]=some (.nx [.fz BX,.fz WS,.fz PL,.fz .non,.fz (.lst SS),.ow HS,.ow (WT++[.tup [b,.lst n2]]++[.tup [a,.lst n1]]),.fz P,.fz N,.fz (.tup hs),.fz a]):=by
 walk_at "eh"
theorem b6L(hc:CS [P,.tup hs]=some (.ret (.tup [a,b])))(r:RS)(HW:Sl)
  (h:l9 (g6 10) (frB CW) [b,a] [.fz BX,.fz WS,.fz PL,.fz .non,.fz (.lst SS),.ow HS,HW,.fz P,.fz N,.fz (.tup hs),un o10]=some r):plW CS CW [.fz BX,.fz WS,.fz PL,.fz .non,.fz (.lst SS),.ow HS,HW,.fz P,.fz N,.fz (.tup hs),un o10]=some r:=by
 have e:l6 CS (aC (eV 7) (aC (eV 9) aN)) [.fz BX,.fz WS,.fz PL,.fz .non,.fz (.lst SS),.ow HS,HW,.fz P,.fz N,.fz (.tup hs),un o10]=some (.ok (.tup [a,b]) [.fz BX,.fz WS,.fz PL,.fz .non,.fz (.lst SS),.ow HS,HW,.fz P,.fz N,.fz (.tup hs),un o10]):=by
  clear h
  walk_at "eh"
 unfold plW a5Y
 rw[e,O7]
 exact h
theorem b6e(hH:HS.length<sizeLine)(g1:W.getLast? = some (.tup [P,N]))(g2:W.dropLast=WT)(h4:s4=.ow SS∨s4=.fz (.lst SS))(h:LC [P,.lst SS,PL,N]=some (.ret (.tup hs)))(hi:IC [.tup hs]=some (.ret (.bl true)))(r:RS)
  (hw:PW [.fz BX,.fz WS,.fz PL,.fz .non,.fz (.lst SS),.ow (HS++[.tup hs]),.ow WT,.fz P,.fz N,.fz (.tup hs),un o10]=some r) :
  plB LC IC PW [.fz BX,.fz WS,.fz PL,.fz .non,s4,.ow HS,.ow W,un o7,un o8,un o9,un o10]=some r:=by
 rcases h4 with rfl | rfl<;>walk_at "eh"
end
abbrev nI(N:List Nat):D:=.lst (N.map fun k:Nat=>D.int (k:Int))
abbrev J1(q:T4×List Nat):D:=.tup [t4 q.1,nI q.2]
theorem a4n(l:List D)(x:D):(l++[x]).getLast? = some x:=by simp
theorem a4o(l:List D)(x:D):(l++[x]).dropLast=l:=by simp
theorem b4R(BX WS:D)(S:List T4)(PL:List T3)(hS:S.length=PL.length)(p:T4)(N:List Nat)(hl:N.length≤31)(hN:∀k∈N,k<S.length)(HS:List Hd)(WT:List (T4×List Nat))(hH:HS.length<100000)(hT:WT.length<100000)(s4:Sl)(h4:s4=.ow (S.map t4)∨s4=.fz (.lst (S.map t4)))(o7 o8 o9 o10:Option D) :
  (a2U p S PL N=none∧plB n6 u3 (plW t7 CW) [.fz BX,.fz WS,.fz (.lst (PL.map t3)),.fz .non,s4,.ow (HS.map Hd.d),.ow ((WT++[(p,N)]).map J1),un o7,un o8,un o9,un o10]=some (.rt (.tup [.str "stuck",t4 p,nI N])))
  ∨ (∃h,a2U p S PL N=some h∧h.isC=false∧∃o7' o8' o9' o10',plB n6 u3 (plW t7 CW) [.fz BX,.fz WS,.fz (.lst (PL.map t3)),.fz .non,s4,.ow (HS.map Hd.d),.ow ((WT++[(p,N)]).map J1),un o7,un o8,un o9,un o10]=some (.nx [.fz BX,.fz WS,.fz (.lst (PL.map t3)),.fz .non,.fz (.lst (S.map t4)),.ow ((HS++[h]).map Hd.d),.ow (WT.map J1),un o7',un o8',un o9',un o10']))
  ∨ (∃b off,a2U p S PL N=some (.cut b off)∧∃o7' o8' o9' o10',plB n6 u3 (plW t7 CW) [.fz BX,.fz WS,.fz (.lst (PL.map t3)),.fz .non,s4,.ow (HS.map Hd.d),.ow ((WT++[(p,N)]).map J1),un o7,un o8,un o9,un o10]=some (.nx [.fz BX,.fz WS,.fz (.lst (PL.map t3)),.fz .non,.fz (.lst (S.map t4)),.ow ((HS++[Hd.cut b off]).map Hd.d),.ow ((WT++[((y8 b p off).2,N.filter fun k=>inn (gs S k) (y8 b p off).2),((y8 b p off).1,N.filter fun k=>inn (gs S k) (y8 b p off).1)]).map J1),un o7',un o8',un o9',un o10'])):=by
 have lf:=b4N p S PL N hl hN hS
 have em:(WT++[(p,N)]).map J1=WT.map J1++[J1 (p,N)]:=by rw[List.map_append];rfl
 rw[em]
 have g1:=a4n (WT.map J1) (J1 (p,N))
 have g2:=a4o (WT.map J1) (J1 (p,N))
 have hH':(HS.map Hd.d).length<sizeLine:=by rw[List.length_map];show _<2 ^ 24;omega
 cases q:a2U p S PL N with
 | none =>
  rw[q]at lf
  exact .inl ⟨rfl,b4P _ _ _ BX WS _ _ _ _ _ _ _ s4 o7 o8 o9 o10 g1 g2 h4 lf⟩
 | some h =>
  rw[q]at lf
  have ic:=b1K h
  have hd:∃hs,h.d=.tup hs:=by cases h<;>exact⟨_,rfl⟩
  obtain⟨hs,hd⟩:=hd
  have eH:(HS++[h]).map Hd.d=HS.map Hd.d++[.tup hs]:=by rw[List.map_append,← hd];rfl
  cases hc:h.isC with
  | false =>
   rw[hc]at ic
   refine .inr (.inl ⟨h,rfl,hc,some (t4 p),some (nI N),some h.d,o10,?_⟩)
   have lf':n6 [t4 p,.lst (S.map t4),.lst (PL.map t3),nI N]=some (.ret (.tup hs)):=by rw[← hd];exact lf
   rw[hd]at ic
   rw[eH,hd]
   exact b4Q _ _ _ BX WS _ _ _ _ _ _ _ hs s4 o7 o8 o9 o10 hH' g1 g2 h4 lf' ic
  | true =>
   cases h with
   | cut b off =>
    rw[hc]at ic
    refine .inr (.inr ⟨b,off,rfl,some (t4 p),some (nI N),some (Hd.cut b off).d,some (t4 (y8 b p off).1),?_⟩)
    have lf':n6 [t4 p,.lst (S.map t4),.lst (PL.map t3),nI N]=some (.ret (.tup hs)):=by rw[← hd];exact lf
    have cs:=b4O b p off
    rw[hd]at ic cs
    rw[eH,hd]
    have c2:=b3K S N (by omega) hN (y8 b p off).2 (.fz BX) (.fz WS) (.fz (.lst (PL.map t3))) (.fz .non) (.ow (HS.map Hd.d++[.tup hs])) (.ow (WT.map J1)) (.fz (t4 p)) (.fz (.tup hs))
    have c1:=b3K S N (by omega) hN (y8 b p off).1 (.fz BX) (.fz WS) (.fz (.lst (PL.map t3))) (.fz .non) (.ow (HS.map Hd.d++[.tup hs])) (.ow (WT.map J1++[J1 ((y8 b p off).2,N.filter fun k=>inn (gs S k) (y8 b p off).2)])) (.fz (t4 p)) (.fz (.tup hs))
    have hT1:(WT.map J1).length<sizeLine:=by rw[List.length_map];show _<2 ^ 24;omega
    have hT2:(WT.map J1++[J1 ((y8 b p off).2,N.filter fun k=>inn (gs S k) (y8 b p off).2)]).length<sizeLine:=by rw[List.length_append,List.length_map];show _+1<2 ^ 24;omega
    have fr:=b6K CW hs BX WS (.lst (PL.map t3)) (t4 p) (nI N) _ _ (S.map t4) (HS.map Hd.d++[.tup hs]) (WT.map J1) _ _ o10 hT1 hT2 c2 c1
    have fw:=b6L t7 CW BX WS (.lst (PL.map t3)) (t4 p) (nI N) _ _ (S.map t4) (HS.map Hd.d++[.tup hs]) hs o10 cs _ _ fr
    have r:=b6e n6 u3 (plW t7 CW) BX WS _ _ _ _ _ _ _ hs s4 o7 o8 o9 o10 hH' g1 g2 h4 lf' ic _ fw
    rw[r]
    have e3:(WT++[((y8 b p off).2,N.filter fun k=>inn (gs S k) (y8 b p off).2),((y8 b p off).1,N.filter fun k=>inn (gs S k) (y8 b p off).1)]).map J1=WT.map J1++[J1 ((y8 b p off).2,N.filter fun k=>inn (gs S k) (y8 b p off).2)]++[J1 ((y8 b p off).1,N.filter fun k=>inn (gs S k) (y8 b p off).1)]:=by
     rw[List.map_append,List.append_assoc];rfl
    rw[e3]
    rfl
   | waste=>cases hc
   | ware _ _=>cases hc
def ar(p:T4):Nat:=(max (p.2.2.1-p.1) 1).toNat*(max (p.2.2.2-p.2.1) 1).toNat
theorem a55(p:T4):1≤ar p:=Nat.mul_pos (by omega) (by omega)
theorem b6f(b:Bool)(p:T4)(off:Int)(h1:0<off)(h2:off<hi b p-lo b p):ar (y8 b p off).1+ar (y8 b p off).2=ar p:=by
 obtain⟨x,y,x2,y2⟩:=p
 cases b with
 | false =>
  simp only[hi,lo,Bool.false_eq_true,if_false]at h2
  simp only[ar,y8,Bool.false_eq_true,if_false]
  rw[← Nat.add_mul]
  congr 1
  omega
 | true =>
  simp only[hi,lo,if_true]at h2
  simp only[ar,y8,if_true]
  rw[← Nat.mul_add]
  congr 1
  omega
theorem b1M{b:Bool}{p:T4}{S:List T4}{e:Int}(h:feV b p S=some e):lo b p<e∧e<hi b p:=by
 have:=List.find?_some h
 unfold a1f at this
 simp only[Bool.and_eq_true,decide_eq_true_eq]at this
 exact⟨this.1,this.2.1⟩
theorem b1N{p:T4}{S:List T4}{PL:List T3}{N:List Nat}{b:Bool}{off:Int}(h:a2U p S PL N=some (.cut b off)):0<off∧off<hi b p-lo b p:=by
 cases N with
 | nil=>cases h
 | cons f N =>
  rw[a54]at h
  split at h
  ·cases h
  ·cases q0:feV false p ((f::N).map (gs S))with
   | some e =>
    rw[q0]at h;cases h
    have:=b1M q0
    omega
   | none =>
    rw[q0]at h
    cases q1:feV true p ((f::N).map (gs S))with
    | some e =>
     rw[q1]at h;cases h
     have:=b1M q1
     omega
    | none=>rw[q1]at h;cases h
def Z5:List (T4×List Nat)→Nat
 | []=>0
 | q::W=>(2*ar q.1-1)+Z5 W
theorem a6B:∀(A B:List (T4×List Nat)),Z5 (A++B)=Z5 A+Z5 B
 | [],B=>by simp[Z5]
 | q::A,B=>by rw[List.cons_append,Z5,Z5,a6B A B];omega
theorem a6C:∀(W:List (T4×List Nat)),W.length≤Z5 W
 | []=>Nat.le_refl _
 | q::W=>by
  have:=a6C W
  have:=a55 q.1
  rw[List.length_cons,Z5];omega
def st:List Hd→Int
 | []=>0
 | h::r=>if h.isC=true then st r-1 else st r+1
def OKh:List Hd→Prop
 | []=>True
 | h::r=>(h.isC=true→2≤st r)∧OKh r
theorem a2r{α:Type}:∀(l:List α),l≠[]→∃i x,l=i++[x]
 | [],h=>absurd rfl h
 | [x],_=>⟨[],x,rfl⟩
 | x::y::l,_=>by
  obtain⟨i,z,e⟩:=a2r (y::l) (by simp)
  exact⟨x::i,z,by rw[e];rfl⟩
theorem b6g(BX WS:D)(S:List T4)(PL:List T3)(hS:S.length=PL.length):∀(n fuel:Nat) (W:List (T4×List Nat)) (HS:List Hd) (s4:Sl) (o7 o8 o9 o10:Option D),Z5 W≤n→n<fuel→HS.length+n<100000→(∀q∈W,q.2.length≤31∧∀k∈q.2,k<S.length)→(s4=.ow (S.map t4)∨s4=.fz (.lst (S.map t4))) →
  (∃p N,B5 plC (plB n6 u3 (plW t7 CW)) fuel [.fz BX,.fz WS,.fz (.lst (PL.map t3)),.fz .non,s4,.ow (HS.map Hd.d),.ow (W.map J1),un o7,un o8,un o9,un o10]=some (.rt (.tup [.str "stuck",t4 p,nI N])))
  ∨ ∃(HT:List Hd) (s4':Sl) (o7' o8' o9' o10':Option D),B5 plC (plB n6 u3 (plW t7 CW)) fuel [.fz BX,.fz WS,.fz (.lst (PL.map t3)),.fz .non,s4,.ow (HS.map Hd.d),.ow (W.map J1),un o7,un o8,un o9,un o10]=some (.nx [.fz BX,.fz WS,.fz (.lst (PL.map t3)),.fz .non,s4',.ow ((HS++HT).map Hd.d),.ow [],un o7',un o8',un o9',un o10'])∧OKh HT∧st HT=(W.length:Int)∧HT.length≤n:=by
 intro n
 induction n with
 | zero =>
  intro fuel W HS s4 o7 o8 o9 o10 hp hf hh hw h4
  have hw0:W=[]:=by have:=a6C W;exact List.length_eq_zero_iff.mp (by omega)
  subst hw0
  obtain⟨f,rfl⟩:∃f,fuel=f+1:=⟨fuel-1,by omega⟩
  refine .inr ⟨[],s4,o7,o8,o9,o10,?_,trivial,rfl,Nat.zero_le _⟩
  rw[List.map_nil,a52 (b3L _ _ _ _ _ _ _ _ _),List.append_nil]
 | succ n ih =>
  intro fuel W HS s4 o7 o8 o9 o10 hp hf hh hw h4
  obtain⟨f,rfl⟩:∃f,fuel=f+1:=⟨fuel-1,by omega⟩
  by_cases hW:W=[]
  ·subst hW
   refine .inr ⟨[],s4,o7,o8,o9,o10,?_,trivial,rfl,Nat.zero_le _⟩
   rw[List.map_nil,a52 (b3L _ _ _ _ _ _ _ _ _),List.append_nil]
  ·obtain⟨WT,⟨p,N⟩,rfl⟩:=a2r W hW
   have hq:=hw (p,N) (by simp)
   have hpp:Z5 (WT++[(p,N)])=Z5 WT+(2*ar p-1):=by rw[a6B];simp[Z5]
   have ha:=a55 p
   have hpl:=a6C WT
   have hc:=b6J BX WS (.lst (PL.map t3)) (HS.map Hd.d) ((WT++[(p,N)]).map J1) s4 o7 o8 o9 o10 (by rw[List.length_map,List.length_append];simp only[List.length_cons,List.length_nil];omega)
   rcases b4R BX WS S PL hS p N hq.1 hq.2 HS WT (by omega) (by omega) s4 h4 o7 o8 o9 o10 with⟨_,r⟩ | ⟨h,l1,l2,a7,a8,a9,a10,r⟩ | ⟨b,off,l1,a7,a8,a9,a10,r⟩
   ·exact .inl ⟨p,N,b1J hc r⟩
   ·rcases ih f WT (HS++[h]) (.fz (.lst (S.map t4))) a7 a8 a9 a10 (by omega) (by omega) (by rw[List.length_append];simp only[List.length_cons,List.length_nil];omega) (fun q m=>hw q (List.mem_append_left _ m)) (.inr rfl)with⟨p',N',z⟩ | ⟨HT,s4',b7,b8,b9,b10,z,ok,e,hn⟩
    ·exact .inl ⟨p',N',by rw[X1 hc r];exact z⟩
    ·refine .inr ⟨h::HT,s4',b7,b8,b9,b10,?_,⟨(fun z=>by rw[l2]at z;cases z),ok⟩,?_,by rw[List.length_cons];omega⟩
     ·rw[X1 hc r,z,List.append_assoc];rfl
     ·rw[st,l2,if_neg (by decide),e,List.length_append];simp only[List.length_cons,List.length_nil];omega
   ·obtain⟨c1,c2⟩:=b1N l1
    have hac:=b6f b p off c1 c2
    have hp1:=a55 (y8 b p off).1
    have hp2:=a55 (y8 b p off).2
    rcases ih f (WT++[((y8 b p off).2,N.filter fun k=>inn (gs S k) (y8 b p off).2),((y8 b p off).1,N.filter fun k=>inn (gs S k) (y8 b p off).1)]) (HS++[.cut b off]) (.fz (.lst (S.map t4))) a7 a8 a9 a10
      (by rw[a6B];simp only[Z5];omega) (by omega) (by rw[List.length_append];simp only[List.length_cons,List.length_nil];omega) (fun q m=>by
       rcases List.mem_append.mp m with m | m
       ·exact hw q (List.mem_append_left _ m)
       ·simp only[List.mem_cons,List.not_mem_nil,or_false]at m
        rcases m with rfl | rfl
        ·exact⟨Nat.le_trans (List.length_filter_le _ _) hq.1,fun k mk=>hq.2 k ((List.mem_filter.mp mk).1)⟩
        ·exact⟨Nat.le_trans (List.length_filter_le _ _) hq.1,fun k mk=>hq.2 k ((List.mem_filter.mp mk).1)⟩) (.inr rfl)with⟨p',N',z⟩ | ⟨HT,s4',b7,b8,b9,b10,z,ok,e,hn⟩
    ·exact .inl ⟨p',N',by rw[X1 hc r];exact z⟩
    ·rw[List.length_append]at e
     simp only[List.length_cons,List.length_nil]at e
     refine .inr ⟨.cut b off::HT,s4',b7,b8,b9,b10,?_,⟨fun _=>by omega,ok⟩,?_,by rw[List.length_cons];omega⟩
     ·rw[X1 hc r,z,List.append_assoc];rfl
     ·rw[st]
      show(if true=true then _ else _)=_
      rw[if_pos rfl,e,List.length_append];simp only[List.length_cons,List.length_nil];omega
abbrev jnB(IC:List D→Option R1)(GC:D→D→Option D):SF:=(m5 (bZ (l6 IC (aC (eV 2) aN))) (f9 (p6 3 (Q5 1)) (f9 (p6 4 (Q5 1)) (D4 1 (eB GC (eV 2) (eT (aC (eV 3) (aC (eV 4) aN))))))) (D4 1 (eV 2)))
section
variable (IC:List D→Option R1)(GC:D→D→Option D)(A v a b:D)(hs PL PL2 PL3:List D)(o2 o3 o4:Option D)
theorem b4S(hl:PL.length<sizeLine)(h:IC [.tup hs]=some (.ret (.bl false))):u9 (B6 (g6 2 (.tup hs) [.fz A,.ow PL,un o2,un o3,un o4]) (jnB IC GC))=some (.nx [.fz A,.ow (PL++[.tup hs]),.fz (.tup hs),un o3,un o4]):=by
 walk_at "eh"
theorem b6h(hl:PL3.length<sizeLine)(h:IC [.tup hs]=some (.ret (.bl true)))(g1:PL.getLast? = some a)(g2:PL.dropLast=PL2)(g3:PL2.getLast? = some b)(g4:PL2.dropLast=PL3)(gc:GC (.tup hs) (.tup [a,b])=some v):u9 (B6 (g6 2 (.tup hs) [.fz A,.ow PL,un o2,un o3,un o4]) (jnB IC GC))=some (.nx [.fz A,.ow (PL3++[v]),.fz (.tup hs),.fz a,.fz b]):=by
 walk_at "eh"
end
theorem a9G:∀(l:List Hd) (x:Hd) (r:List Hd),OKh (l++x::r)→x.isC=true→2≤st r
 | [],x,r,h=>h.1
 | _::l,x,r,h=>a9G l x r h.2
theorem b3a:∀(l:List D),2≤l.length→∃i b a,l=i++[b]++[a]:=fun l h=>by
 obtain⟨i,a,rfl⟩:=a2r l (by intro z;rw[z]at h;simp at h)
 obtain⟨j,b,rfl⟩:=a2r i (by intro z;rw[z]at h;simp at h)
 exact⟨j,b,a,rfl⟩
theorem b3M:∀l:List Hd,st l≤(l.length:Int)
 | []=>Int.le_refl _
 | h::r=>by
  have:=b3M r
  rw[st,List.length_cons]
  split<;>omega
theorem b4T(A:D)(hs:List Hd)(hl:hs.length≤200000)(ok:OKh hs):∃(pl:List D) (o2 o3 o4:Option D),l9 (g6 2) (jnB u3 a08) (hs.reverse.map Hd.d) [.fz A,.ow [],.no,.no,.no]=some (.nx [.fz A,.ow pl,un o2,un o3,un o4])∧(pl.length:Int)=st hs:=by
 obtain⟨e',h1,pl,o2,o3,o4,rfl,h2⟩:=b4m (b:=g6 2) (body:=jnB u3 a08) Hd.d (fun pre e=>∃(pl:List D) (o2 o3 o4:Option D),e=[.fz A,.ow pl,un o2,un o3,un o4]∧(pl.length:Int)=st pre.reverse) hs.reverse [.fz A,.ow [],.no,.no,.no] ⟨[],none,none,none,rfl,rfl⟩ (by
  rintro pre x post e he ⟨pl,o2,o3,o4,rfl,hp⟩
  have e2:hs=post.reverse++x::pre.reverse:=by
   have:=congrArg List.reverse he
   rw[List.reverse_reverse,List.reverse_append,List.reverse_cons,List.append_assoc]at this
   exact this
  have hm:=a9G post.reverse x pre.reverse (by rw[← e2];exact ok)
  have hsl:=b3M pre.reverse
  have hlen:pre.reverse.length≤hs.length:=by rw[e2,List.length_append,List.length_cons];omega
  have ic:=b1K x
  have hd:∃hs,x.d=.tup hs∧hs≠[]∧hs.length≤3:=by cases x<;>exact⟨_,rfl,by simp,by simp⟩
  obtain⟨ts,hd,hne,h3⟩:=hd
  have er:(pre++[x]).reverse=x::pre.reverse:=by rw[List.reverse_append];rfl
  rw[er]
  cases hc:x.isC with
  | false =>
   rw[hc,hd]at ic
   rw[hd]
   refine⟨_,b4S u3 a08 A ts pl o2 o3 o4 (by show _<2 ^ 24;omega) ic,_,some _,o3,o4,rfl,?_⟩
   rw[st,hc,if_neg (by decide),List.length_append];simp only[List.length_cons,List.length_nil];omega
  | true =>
   have h2:=hm hc
   rw[hc,hd]at ic
   rw[hd]
   obtain⟨i,b,a,rfl⟩:=b3a pl (by omega)
   rw[List.length_append,List.length_append]at hp
   simp only[List.length_cons,List.length_nil]at hp
   have gc:a08 (.tup ts) (.tup [a,b])=some (.tup (ts++[a,b])):=by
    show(if _ then _ else _)=_
    rw[if_pos ⟨hne,by simp,by show _+2≤2 ^ 24;omega⟩]
   refine⟨_,b6h u3 a08 A _ a b ts _ _ _ o2 o3 o4 (by show _<2 ^ 24;omega) ic (a4n _ _) (a4o _ _) (a4n _ _) (a4o _ _) gc,_,some _,some _,some _,rfl,?_⟩
   rw[st,hc,if_pos rfl,List.length_append];simp only[List.length_cons,List.length_nil];omega)
 rw[List.reverse_reverse]at h2
 exact⟨pl,o2,o3,o4,h1,h2⟩
theorem b7k(JL:SF)(A v:D)(pl:List D)(o2 o3 o4:Option D)(h:JL [.fz A,.ow [],.no,.no,.no]=some (.nx [.fz A,.ow (v::pl),un o2,un o3,un o4])):fD 5 1 (f9 (r9 1 (eL aN)) (f9 JL (i5 (n9 l4 1 (eC (.int 0)))))) [A]=some (.ret v):=by
 walk_at "eh"
theorem b1Q(hs:List Hd)(hl:hs.length≤200000)(ok:OKh hs)(h1:st hs=1):∃v,K0 [.lst (hs.map Hd.d)]=some (.ret v):=by
 obtain⟨pl,o2,o3,o4,h2,h3⟩:=b4T (.lst (hs.map Hd.d)) hs hl ok
 cases pl with
 | nil=>rw[h1]at h3;simp at h3
 | cons v pl =>
  refine⟨v,b7k (a5N 0 (g6 2) (jnB u3 a08)) _ v pl o2 o3 o4 ?_⟩
  rw[← h2,List.map_reverse]
  rfl
theorem b4U{ns:List Int}{k:Int}(hk:0≤k):E6 [.scr ns,.int k]=some (.ret (.int (m9 ns k))):=by
 rw[← b4h hk]
 unfold E6 a8x
 walk_at "ev"
 split
 ·cases atI ns k<;>rfl
 ·rfl
section
variable (FA SP JN:List D→Option R1)(GR:D→Option (List D))(WH:SF)(b0 b1:Int)(A B SS RL HS vs:List D)(v:D)(s4:Sl)(o7 o8 o9 o10:Option D)
theorem b6i(h:FA [.tup [.int b0,.int b1],.lst A,.lst B]=some (.ret (.tup vs))):fD 11 3 ((f9 (J4 3 FA (aC (eV 0) (aC (eV 1) (aC (eV 2) aN)))) (f9 (m5 (bZ (eB (D3 true) (eV 3) (eC .non))) (N8 "BadPacking" "why" (aC (eV 3) aN)) m7) (f9 (J4 4 SP (aC (eV 1) (aC (eV 2) aN))) (f9 (r9 5 (eL aN)) (f9 (r9 6 (eL (aC (eT (aC (eT (aC (eC (.int 0)) (aC (eC (.int 0)) (aC (eB i0 (eV 0) (eC (.int 0))) (aC (eB i0 (eV 0) (eC (.int 1))) aN))))) (aC (zN (nCB GR (y4 t6 1))) aN))) aN))) (f9 WH (i5 (eT (aC (eC (.str "plan")) (aC (l6 JN (aC (eV 5) aN)) aN))))))))))) [.tup [.int b0,.int b1],.lst A,.lst B]=some (.ex (.v "BadPacking" "why" (.tup vs))):=by
 walk_at "eh"
theorem b6M(h:FA [.tup [.int b0,.int b1],.lst A,.lst B]=some (.ret .non))(h2:SP [.lst A,.lst B]=some (.own SS))(hg:GR (.int (A.length:Int))=some RL)(r:RS)(hw:WH [.fz (.tup [.int b0,.int b1]),.fz (.lst A),.fz (.lst B),.fz .non,.ow SS,.ow [],.ow [.tup [.tup [.int 0,.int 0,.int b0,.int b1],.lst RL]],.no,.no,.no,.no]=some r):fD 11 3 ((f9 (J4 3 FA (aC (eV 0) (aC (eV 1) (aC (eV 2) aN)))) (f9 (m5 (bZ (eB (D3 true) (eV 3) (eC .non))) (N8 "BadPacking" "why" (aC (eV 3) aN)) m7) (f9 (J4 4 SP (aC (eV 1) (aC (eV 2) aN))) (f9 (r9 5 (eL aN)) (f9 (r9 6 (eL (aC (eT (aC (eT (aC (eC (.int 0)) (aC (eC (.int 0)) (aC (eB i0 (eV 0) (eC (.int 0))) (aC (eB i0 (eV 0) (eC (.int 1))) aN))))) (aC (zN (nCB GR (y4 t6 1))) aN))) aN))) (f9 WH (i5 (eT (aC (eC (.str "plan")) (aC (l6 JN (aC (eV 5) aN)) aN))))))))))) [.tup [.int b0,.int b1],.lst A,.lst B]=U4 (L3 (some r) (i5 (eT (aC (eC (.str "plan")) (aC (l6 JN (aC (eV 5) aN)) aN))))):=by
 walk_at "eh"
theorem b6j(hj:JN [.lst HS]=some (.ret v))(W:Sl):U4 (L3 (some (.nx [.fz (.tup [.int b0,.int b1]),.fz (.lst A),.fz (.lst B),.fz .non,s4,.ow HS,W,un o7,un o8,un o9,un o10])) (i5 (eT (aC (eC (.str "plan")) (aC (l6 JN (aC (eV 5) aN)) aN)))))=some (.ret (.tup [.str "plan",v])):=by
 walk_at "eh"
end
theorem a8F(bx:Int×Int)(A B vs:List D)(h:B8 [t2 bx,.lst A,.lst B]=some (.ret (.tup vs))):B7 [t2 bx,.lst A,.lst B]=some (.ex (.v "BadPacking" "why" (.tup vs))) :=
 b6i B8 E4 K0 a4k (B5 plC (plB n6 u3 (plW t7 CW)) 1000000) bx.1 bx.2 A B vs h
theorem b1R(bx:Int×Int)(b1:0≤bx.1∧bx.1≤100)(b2:0≤bx.2∧bx.2≤100)(L:List (T3×T3))(hl:L.length≤31)(hf:B8 [t2 bx,.lst (L.map wD),.lst (L.map pD)]=some (.ret .non))(g:Good bx L) :
  (∃v,B7 [t2 bx,.lst (L.map wD),.lst (L.map pD)]=some (.ret (.tup [.str "plan",v])))∨∃v u,B7 [t2 bx,.lst (L.map wD),.lst (L.map pD)]=some (.ret (.tup [.str "stuck",v,u])):=by
 have hs:=b27 L (by omega) (fun q m=>(g.one q m).1)
 have eS:L.map sD=(L.map p5).map t4:=by rw[List.map_map];rfl
 have eP:L.map pD=(L.map (·.2)).map t3:=by rw[List.map_map];rfl
 have hg:a4k (.int ((L.map wD).length:Int))=some ((List.range L.length).map fun(i:Nat)=>D.int (i:Int)):=by
  rw[List.length_map]
  show(if _ then _ else _)=_
  rw[if_pos ⟨by omega,by omega⟩,Int.toNat_natCast]
 have F:=fun r=>b6M B8 E4 K0 a4k (B5 plC (plB n6 u3 (plW t7 CW)) 1000000) bx.1 bx.2 (L.map wD) (L.map pD) _ _ hf hs hg r
 have hpot:Z5 [((0,0,bx.1,bx.2),List.range L.length)]≤20000:=by
  simp only[Z5,ar]
  have h1:(max (bx.1-0) 1).toNat≤100:=by omega
  have h2:(max (bx.2-0) 1).toNat≤100:=by omega
  have:=Nat.mul_le_mul h1 h2
  omega
 rw[eS,eP]at F
 rw[eP]
 rcases b6g (t2 bx) (.lst (L.map wD)) (L.map p5) (L.map (·.2)) (by rw[List.length_map,List.length_map]) 20000 1000000 [((0,0,bx.1,bx.2),List.range L.length)] [] (.ow ((L.map p5).map t4)) none none none none hpot (by omega) (by simp only[List.length_nil];omega) (by
   intro q m
   rw[List.mem_singleton]at m
   subst m
   refine⟨by rw[List.length_range];exact hl,fun k mk=>?_⟩
   rw[List.length_map]
   exact List.mem_range.mp mk) (.inl rfl)with⟨p,N,h⟩ | ⟨HT,s4',o7,o8,o9,o10,h,ok,e,hn⟩
 ·exact .inr ⟨t4 p,nI N,(F _ h).trans rfl⟩
 ·obtain⟨v,hv⟩:∃v,K0 [.lst (HT.map Hd.d)]=some (.ret v):=b1Q HT (by omega) ok (by rw[e];rfl)
  exact .inl ⟨v,(F _ h).trans (b6j K0 _ _ _ _ _ _ _ _ _ _ _ hv _)⟩
theorem b7l(s:Str)(i:Int):B2 [.exv "BadPacking" "why" (.tup [.str s,.int i])]=some (.ret (.tup [.str "refused",.tup [.str s,.int i]])):=by
 rfl
theorem b7m(s:Str)(i j:Int):B2 [.exv "BadPacking" "why" (.tup [.str s,.int i,.int j])]=some (.ret (.tup [.str "refused",.tup [.str s,.int i,.int j]])):=by
 rfl
theorem b7n:t9 "BadPacking" = some true:=by rfl
section
variable (PO WY:List D→Option R1)(BX A B v u:D)(vs:List D)
theorem b4V(h:PO [BX,A,B]=some (.ret (.tup [.str "plan",v]))):fD 6 3 ((f9 (p6 3 (eC .non)) (f9 (p6 4 (eT (aC (eC (.str "other")) aN))) (f9 (a0b 3 PO (aC (eV 0) (aC (eV 1) (aC (eV 2) aN))) (hAs 5 t9 (A1 4 WY (aC (eV 5) aN)) hN)) (f9 (m5 (y3 (bZ (N6 3 "tuple")) (y3 (bZ (eB Z4 (y4 t6 3) (eC (.int 1)))) (bZ (eB (gIn false) (eB i0 (eV 3) (eC (.int 0))) (eT (aC (eC (.str "plan")) (aC (eC (.str "stuck")) aN))))))) (p6 4 (eT (aC (eC (.str "answered")) aN))) m7) (N5 4)))))) [BX,A,B]=some (.ret (.tup [.str "answered"])):=by
 unfold a0b
 walk_at "eh"
theorem b3b(h:PO [BX,A,B]=some (.ret (.tup [.str "stuck",v,u]))):fD 6 3 ((f9 (p6 3 (eC .non)) (f9 (p6 4 (eT (aC (eC (.str "other")) aN))) (f9 (a0b 3 PO (aC (eV 0) (aC (eV 1) (aC (eV 2) aN))) (hAs 5 t9 (A1 4 WY (aC (eV 5) aN)) hN)) (f9 (m5 (y3 (bZ (N6 3 "tuple")) (y3 (bZ (eB Z4 (y4 t6 3) (eC (.int 1)))) (bZ (eB (gIn false) (eB i0 (eV 3) (eC (.int 0))) (eT (aC (eC (.str "plan")) (aC (eC (.str "stuck")) aN))))))) (p6 4 (eT (aC (eC (.str "answered")) aN))) m7) (N5 4)))))) [BX,A,B]=some (.ret (.tup [.str "answered"])):=by
 unfold a0b
 walk_at "eh"
theorem b1S(h:PO [BX,A,B]=some (.ex (.v "BadPacking" "why" (.tup vs))))(hw:WY [.exv "BadPacking" "why" (.tup vs)]=some (.ret (.tup [.str "refused",.tup vs]))):fD 6 3 ((f9 (p6 3 (eC .non)) (f9 (p6 4 (eT (aC (eC (.str "other")) aN))) (f9 (a0b 3 PO (aC (eV 0) (aC (eV 1) (aC (eV 2) aN))) (hAs 5 t9 (A1 4 WY (aC (eV 5) aN)) hN)) (f9 (m5 (y3 (bZ (N6 3 "tuple")) (y3 (bZ (eB Z4 (y4 t6 3) (eC (.int 1)))) (bZ (eB (gIn false) (eB i0 (eV 3) (eC (.int 0))) (eT (aC (eC (.str "plan")) (aC (eC (.str "stuck")) aN))))))) (p6 4 (eT (aC (eC (.str "answered")) aN))) m7) (N5 4)))))) [BX,A,B]=some (.ret (.tup [.str "refused",.tup vs])):=by
 have x:=b7n
 unfold a0b hAs a7l
 walk_at "eh"
end
theorem b4W(c:Int):M8 [.int c]=some (.ret (t3 (1+c%4,1+c/4%4,decide (c/16%2=0)))):=by
 unfold M8 a8y
 walk_at "ev"
def Y9(c:Int):T3:=if c*48271%1000003/5%9=4 then(10 ^ 40+c%10 ^ 40,c*48271%1000003/45%6,decide (c*48271%1000003%5=0))else if c*48271%1000003/5%9=5 then(c*48271%1000003/45%6,-1-c%10 ^ 40,decide (c*48271%1000003%5=0))else(c*48271%1000003/45%12-1,c*48271%1000003/540%12-1,decide (c*48271%1000003%5=0))
theorem b6N:∃B:Int,a6o (.int 10) (.int 40)=some (.int B)∧B=10 ^ 40:=⟨_,a0e (by decide +kernel),rfl⟩
theorem b3c(c:Int):J0 [.int c]=some (.ret (t3 (Y9 c))):=by
 obtain⟨B,hB,eB⟩:=b6N
 have hm:B9 (.int c) (.int B)=some (.int (c%B)):=a0d (by rw[eB];decide)
 unfold Y9
 rw[← eB]
 clear eB
 unfold J0 a64
 by_cases z:c*48271%1000003/5%9=4
 ·rw[if_pos z]
  walk_at "eh"
 ·rw[if_neg z]
  by_cases y:c*48271%1000003/5%9=5
  ·rw[if_pos y]
   walk_at "eh"
  ·rw[if_neg y]
   walk_at "eh"
section
variable (CE LF AN:List D→Option R1)(SL C3 C4 CR:NF)(EQ:D→D→Option D)(ns:List Int)(c0 c1 c2 K:Int)(cs W P Q:List D)(x v du:D)
theorem b6O(h0:CE [.scr ns,.int 0]=some (.ret (.int c0)))(h1:CE [.scr ns,.int 1]=some (.ret (.int c1)))(h2:CE [.scr ns,.int 2]=some (.ret (.int c2)))(hK:c2%8=K)
  (hs:SL [.fz (.scr ns),.fz (.tup [.int (c0%13),.int (c1%13)]),.no,.no,.no,.no,.no,.no,.no]=some (.ok cs [.fz (.scr ns),.fz (.tup [.int (c0%13),.int (c1%13)]),.no,.no,.no,.no,.no,.no,.no]))
  (h3:C3 [.fz (.scr ns),.fz (.tup [.int (c0%13),.int (c1%13)]),.ow cs,.no,.no,.no,.no,.no,.no]=some (.ok W [.fz (.scr ns),.fz (.tup [.int (c0%13),.int (c1%13)]),.ow cs,.no,.no,.no,.no,.no,.no]))
  (h4:C4 [.fz (.scr ns),.fz (.tup [.int (c0%13),.int (c1%13)]),.ow cs,.ow W,.no,.no,.no,.no,.no]=some (.ok P [.fz (.scr ns),.fz (.tup [.int (c0%13),.int (c1%13)]),.ow cs,.ow W,.no,.no,.no,.no,.no]))
  (hc:(K=1∧Q=P++[.tup [.int 0,.int 0,.bl false]]∧P.length<sizeLine)∨(K=2∧0<(P.length:Int)∧P.getLast? = some x∧P.dropLast=Q)∨(K=2∧¬0<(P.length:Int)∧Q=P)∨(¬K=1∧¬K=2∧4<K∧CR [.fz (.scr ns),.fz (.tup [.int (c0%13),.int (c1%13)]),.ow cs,.ow W,.ow P,.fz (.int K),.no,.no,.no]=some (.ok Q [.fz (.scr ns),.fz (.tup [.int (c0%13),.int (c1%13)]),.ow cs,.ow W,.ow P,.fz (.int K),.no,.no,.no]))∨(¬K=1∧¬K=2∧¬4<K∧Q=P))
  (hf:LF [.tup [.int (c0%13),.int (c1%13)],.lst W,.lst Q]=some (.ret v)) (ha:AN [.tup [.int (c0%13),.int (c1%13)],.lst W,.lst Q]=some (.ret du))
  (hv:(v=.non∧du=.tup [.str "answered"])∨(∃(s:Str) (i:Int),v=.tup [.str s,.int i]∧du=.tup [.str "refused",v])∨(∃(s:Str) (i j:Int),v=.tup [.str s,.int i,.int j]∧du=.tup [.str "refused",v]))
  (e1:EQ du du=some (.bl true)) (e2:EQ (.lst [.lst W,.lst Q]) (.lst [.lst W,.lst Q])=some (.bl true)):fD 9 1 ((f9 (p6 1 (eT (aC (eB B9 (l6 CE (aC (eV 0) (aC (eC (.int 0)) aN))) (eC (.int 13))) (aC (eB B9 (l6 CE (aC (eV 0) (aC (eC (.int 1)) aN))) (eC (.int 13))) aN)))) (f9 (r9 2 SL) (f9 (r9 3 C3) (f9 (r9 4 C4) (f9 (p6 5 (eB B9 (l6 CE (aC (eV 0) (aC (eC (.int 2)) aN))) (eC (.int 8)))) (f9 (m5 (bZ (eB (D7 false) (eV 5) (eC (.int 1)))) (D4 4 (eT (aC (eC (.int 0)) (aC (eC (.int 0)) (aC (eC (.bl false)) aN))))) m7) (f9 (m5 (y3 (bZ (eB (D7 false) (eV 5) (eC (.int 2)))) (bZ (eB Z4 (y4 t6 4) (eC (.int 0))))) (sEx (Q5 4)) m7) (f9 (m5 (bZ (eB Z4 (eV 5) (eC (.int 4)))) (r9 4 CR) m7) (f9 (p6 6 (a5J (l6 LF (aC (eV 1) (aC (eV 3) (aC (eV 4) aN)))))) (f9 (p6 7 (eT (aC (eC (.str "answered")) aN))) (f9 (m5 (bZ (eB (D3 true) (eV 6) (eC .non))) (p6 7 (eT (aC (eC (.str "refused")) (aC (eV 6) aN)))) m7) (f9 (r9 8 (eL (aC (zN (nCV T8 3)) (aC (zN (nCV T8 4)) aN)))) (i5 (J3 (eB EQ (l6 AN (aC (eV 1) (aC (n9 l4 8 (eC (.int 0))) (aC (n9 l4 8 (eC (.int 1))) aN)))) (eV 7)) (n9 EQ 8 (zN (eL (aC (eV 3) (aC (eV 4) aN)))))))))))))))))))) [.scr ns]=some (.ret (.bl true)):=by
 rcases hc with⟨rfl,rfl,hz⟩ | ⟨rfl,hl,g1,g2⟩ | ⟨rfl,hl,rfl⟩ | ⟨k1,k2,k3,hr⟩ | ⟨k1,k2,k3,rfl⟩<;>rcases hv with⟨rfl,rfl⟩ | ⟨s,i,rfl,rfl⟩ | ⟨s,i,j,rfl,rfl⟩<;>walk_at "eh"
end
abbrev wa(c:Int):T3:=(1+c%4,1+c/4%4,decide (c/16%2=0))
theorem b1T(FN:List D→Option R1)(f:Int→T3)(hf:∀c,FN [.int c]=some (.ret (t3 (f c))))(cs:List Int)(hl:cs.length≤1000)(s0 s1 s3 s4 s5 s6 s7 s8:Sl):x8 2 1 [] (g6 0) v9 (l6 FN (aC (eV 0) aN)) [s0,s1,.ow (cs.map .int),s3,s4,s5,s6,s7,s8]=some (.ok ((cs.map f).map t3) [s0,s1,.ow (cs.map .int),s3,s4,s5,s6,s7,s8]):=by
 show p7 (g6 0) v9 (l6 FN (aC (eV 0) aN)) [.no] [s0,s1,.ow (cs.map .int),s3,s4,s5,s6,s7,s8] (cs.map D.int) []=_
 rw[J9 D.int (fun c=>t3 (f c)) (fun _=>true) cs [] (by show 0+_≤2 ^ 24;omega) (fun c _=>⟨[.fz (.int c)],[.fz (.int c)],rfl,rfl,fun _=>by
  have h:=hf c
  generalize t3 (f c)=u at h ⊢
  clear hf
  walk_at "eh"
  exact⟨_,rfl⟩⟩)]
 rw[List.filter_eq_self.mpr (fun _ _=>rfl),List.map_map]
 rfl
def gpF(k:Nat):T3:=(4*((k:Int)%3),4*((k:Int)/3),false)
theorem b6P(n:Nat)(W:List D)(hn:W.length=n)(hl:n≤1000)(s0 s1 s2 s4 s5 s6 s7 s8:Sl):(O9 Z3 1 [] (aC (y4 t6 3) aN) (g6 0) v9 (eT (aC (eB a0r (eC (.int 4)) (eB B9 (eV 0) (eC (.int 3)))) (aC (eB a0r (eC (.int 4)) (eB V6 (eV 0) (eC (.int 3)))) (aC (eC (.bl false)) aN))))) [s0,s1,s2,.ow W,s4,s5,s6,s7,s8]=some (.ok (((List.range n).map gpF).map t3) [s0,s1,s2,.ow W,s4,s5,s6,s7,s8]):=by
 have e:(aC (y4 t6 3) aN) [s0,s1,s2,.ow W,s4,s5,s6,s7,s8]=some (.ok [.int (W.length:Int)] [s0,s1,s2,.ow W,s4,s5,s6,s7,s8]):=rfl
 unfold O9
 rw[e,L9,a6s ⟨by omega,by rw[hn];omega⟩,Int.toNat_natCast,hn]
 show p7 _ _ _ [.no] _ (J5 0 n) []=_
 rw[a8d,J9 (fun i:Nat=>D.int (0+(i:Int))) (fun k=>t3 (gpF k)) (fun _=>true) (List.range n) [] (by rw[List.length_range];show 0+_≤2 ^ 24;omega) (fun k _=>⟨[.fz (.int (0+(k:Int)))],[.fz (.int (0+(k:Int)))],rfl,rfl,fun _=>by
  unfold gpF
  rw[Int.zero_add]
  generalize (k:Int)=j
  walk_at "ev"
  exact⟨_,rfl⟩⟩)]
 rw[List.filter_eq_self.mpr (fun _ _=>rfl),List.map_map]
 rfl
theorem main(ns:List Int)(hl:ns.length≤63)(hb:∀m∈ns,Builtin.Int.intBits m≤2 ^ 20):b3H [.scr ns]=some (.ret (.bl true)):=by
 have cc:=fun(k:Int) (hk:0≤k)=>b4U (ns:=ns) hk
 obtain⟨cs,hcs⟩:∃cs,cs=(ns.drop 3).take 8:=⟨_,rfl⟩
 have hlc:cs.length≤8:=by rw[hcs,List.length_take];omega
 have hc:a3z (ns.map D.int) (some 3) (some 11)=cs.map D.int:=by
  rw[b4n (by decide) (by decide),hcs]
  show((ns.map D.int).drop 3).take 8=_
  rw[List.map_take,List.map_drop]
 have b1:0≤m9 ns 0%13∧m9 ns 0%13≤100:=by omega
 have b2:0≤m9 ns 1%13∧m9 ns 1%13≤100:=by omega
 -- the places
 have hp:∃(ps:List T3) (x:D),((m9 ns 2%8=1∧ps.map t3=(cs.map Y9).map t3++[.tup [.int 0,.int 0,.bl false]]∧((cs.map Y9).map t3).length<sizeLine)∨(m9 ns 2%8=2∧0<(((cs.map Y9).map t3).length:Int)∧((cs.map Y9).map t3).getLast? = some x∧((cs.map Y9).map t3).dropLast=ps.map t3)∨(m9 ns 2%8=2∧¬0<(((cs.map Y9).map t3).length:Int)∧ps.map t3=(cs.map Y9).map t3)∨(¬m9 ns 2%8=1∧¬m9 ns 2%8=2∧4<m9 ns 2%8∧(O9 Z3 1 [] (aC (y4 t6 3) aN) (g6 0) v9 (eT (aC (eB a0r (eC (.int 4)) (eB B9 (eV 0) (eC (.int 3)))) (aC (eB a0r (eC (.int 4)) (eB V6 (eV 0) (eC (.int 3)))) (aC (eC (.bl false)) aN))))) [.fz (.scr ns),.fz (.tup [.int (m9 ns 0%13),.int (m9 ns 1%13)]),.ow (cs.map D.int),.ow ((cs.map wa).map t3),.ow ((cs.map Y9).map t3),.fz (.int (m9 ns 2%8)),.no,.no,.no]=some (.ok (ps.map t3) [.fz (.scr ns),.fz (.tup [.int (m9 ns 0%13),.int (m9 ns 1%13)]),.ow (cs.map D.int),.ow ((cs.map wa).map t3),.ow ((cs.map Y9).map t3),.fz (.int (m9 ns 2%8)),.no,.no,.no]))∨(¬m9 ns 2%8=1∧¬m9 ns 2%8=2∧¬4<m9 ns 2%8∧ps.map t3=(cs.map Y9).map t3)):=by
  by_cases k1:m9 ns 2%8=1
  ·exact⟨cs.map Y9++[(0,0,false)],.non,.inl ⟨k1,by rw[List.map_append];rfl,by rw[List.length_map,List.length_map];show _<2 ^ 24;omega⟩⟩
  ·by_cases k2:m9 ns 2%8=2
   ·by_cases hz:cs=[]
    ·exact⟨[],.non,.inr (.inr (.inl ⟨k2,by rw[hz];simp,by rw[hz];rfl⟩))⟩
    ·obtain⟨i,c,e⟩:=a2r cs hz
     refine⟨i.map Y9,t3 (Y9 c),.inr (.inl ⟨k2,by rw[e];simp,?_,?_⟩)⟩
     ·rw[e,List.map_append,List.map_append];exact a4n _ _
     ·rw[e,List.map_append,List.map_append];exact a4o _ _
   ·by_cases k3:4<m9 ns 2%8
    ·exact⟨(List.range cs.length).map gpF,.non,.inr (.inr (.inr (.inl ⟨k1,k2,k3,b6P cs.length _ (by rw[List.length_map,List.length_map]) (by omega) _ _ _ _ _ _ _ _⟩)))⟩
    ·exact⟨cs.map Y9,.non,.inr (.inr (.inr (.inr ⟨k1,k2,k3,rfl⟩)))⟩
 obtain⟨ps,x,hp⟩:=hp
 obtain⟨v,f1,f2,f3⟩:=b4H (m9 ns 0%13,m9 ns 1%13) (cs.map wa) ps (by rw[List.length_map];omega)
 have ha:∃du,K3 [t2 (m9 ns 0%13,m9 ns 1%13),.lst ((cs.map wa).map t3),.lst (ps.map t3)]=some (.ret du)∧((v=.non∧du=.tup [.str "answered"])∨(∃(s:Str) (i:Int),v=.tup [.str s,.int i]∧du=.tup [.str "refused",v])∨(∃(s:Str) (i j:Int),v=.tup [.str s,.int i,.int j]∧du=.tup [.str "refused",v]))∧D5 false du du=some (.bl true):=by
  rcases f3 with⟨rfl,e,g⟩ | ⟨s,i,rfl⟩ | ⟨s,i,j,rfl⟩
  ·rw[a8B _ ps e,a8C _ ps e]at f2 ⊢
   rcases b1R (m9 ns 0%13,m9 ns 1%13) b1 b2 ((cs.map wa).zip ps) (by rw[List.length_zip,List.length_map];omega) f2 g with⟨v,h⟩ | ⟨v,u,h⟩
   ·exact⟨_,b4V B7 B2 _ _ _ v h,.inl ⟨rfl,rfl⟩,rfl⟩
   ·exact⟨_,b3b B7 B2 _ _ _ v u h,.inl ⟨rfl,rfl⟩,rfl⟩
  ·exact⟨_,b1S B7 B2 _ _ _ _ (a8F _ _ _ _ f2) (b7l s i),.inr (.inl ⟨s,i,rfl,rfl⟩),a3E false rfl (by simp[E5,A4]) rfl⟩
  ·exact⟨_,b1S B7 B2 _ _ _ _ (a8F _ _ _ _ f2) (b7m s i j),.inr (.inr ⟨s,i,j,rfl,rfl⟩),a3E false rfl (by simp[E5,A4]) rfl⟩
 obtain⟨du,a1,a2,a3⟩:=ha
 have hs:a2L 0 (oS (eC (.int 3))) (oS (eC (.int 11))) [.fz (.scr ns),.fz (.tup [.int (m9 ns 0%13),.int (m9 ns 1%13)]),.no,.no,.no,.no,.no,.no,.no]=some (.ok (cs.map D.int) [.fz (.scr ns),.fz (.tup [.int (m9 ns 0%13),.int (m9 ns 1%13)]),.no,.no,.no,.no,.no,.no,.no]):=by
  rw[← hc]
  rfl
 exact b6O E6 C8 K3 _ _ _ _ (D5 false) ns _ _ _ _ _ _ _ _ x v du (cc 0 (by decide)) (cc 1 (by decide)) (cc 2 (by decide)) rfl hs (b1T M8 wa b4W cs (by omega) _ _ _ _ _ _ _ _) (b1T J0 Y9 b3c cs (by omega) _ _ _ _ _ _ _ _) hp f1 a1 a2 a3 (b7f _ _)
def a56(K:PySem.W.Frag)(c:Str→Addr):Sp:=fun vs H Q _=>∃a,∃ns:List Int,vs=[.ref a]∧Scr K H a (ns.map V.int)∧(∀m∈ns,Builtin.Int.intBits m≤2 ^ 20)∧ns.length≤63∧∀H',Q (.bl true) H'
theorem b6k{f:Addr}{fd:FuncData}(F:Fun K "law" "law" F5 f fd)(T:Txt K mg c)(G_l_cell:Own P w K mg base 3 "_law_cell" ["_law_script","_law_k"] (l5 K c E6))(G_l_ware:Own P w K mg base 3 "_law_ware" ["_law_cell_here"] (l5 K c M8))(G_l_place:Own P w K mg base 3 "_law_place" ["_law_cell_here"] (l5 K c J0))(G_l_fault:Own P w K mg base 3 "_law_fault" ["_law_box","_law_wares","_law_places"] (l5 K c C8))(G_l_answer:Own P w K mg base 11 "_law_answer" ["_law_box","_law_wares","_law_places"] (l5 K c K3)):FnOk P w K mg base (x9 P w) 13 f fd ["_law_script"] (a56 K c) :=
 (b4A F T G_l_cell G_l_ware G_l_place G_l_fault G_l_answer).imp fun vs H Q E ⟨a,ns,e,h,hb,hl,q⟩=>b4f e h q (main ns hl hb)
def cOf(l:List (Str×Addr))(x:Str):Addr:=(l.lookup x).getD 0
abbrev cL(c0 c1 c2 c3 c4 c5 c6 c7 c8 c9 c10 c11 c12 c13 c14 c15 c16 c17:Addr):=cOf [("BadPacking",c0),("BadPlan",c1),("BadSide",c2),("BadTurn",c3),("CrateError",c4),("Full",c5),("Hangs",c6),("NoDeed",c7),("NoDrawing",c8),("NoPicker",c9),("NoSheet",c10),("NoText",c11),("NoWare",c12),("NoWeighing",c13),("NothingDone",c14),("Ring",c15),("TooMany",c16),("TooWide",c17)]
theorem all_mk{w:World}{K:PySem.W.Frag}{h:Heap}{mg:Str→Option Value}{fa:Addr}(X:K.In h)(G:h.Ns mainGlobals mg)(hfa:mg "law" = some (.ref fa))
  {c0 c1 c2 c3 c4 c5 c6 c7 c8 c9 c10 c11 c12 c13 c14 c15 c16 c17:Addr} {f_1:Addr} {oc_1 kV_1 dc_1 pm_1 cd_1 ct_1:Value} {od_1 an_1:Option Addr} {sl_1:Array (Option Value)} {f_2:Addr} {oc_2 kV_2 dc_2 pm_2 cd_2 ct_2:Value} {od_2 an_2:Option Addr} {sl_2:Array (Option Value)} {f_3:Addr} {oc_3 kV_3 dc_3 pm_3 cd_3 ct_3:Value} {od_3 an_3:Option Addr} {sl_3:Array (Option Value)} {f_4:Addr} {oc_4 kV_4 dc_4 pm_4 cd_4 ct_4:Value} {od_4 an_4:Option Addr} {sl_4:Array (Option Value)} {f_5:Addr} {oc_5 kV_5 dc_5 pm_5 cd_5 ct_5:Value} {od_5 an_5:Option Addr} {sl_5:Array (Option Value)} {f_6:Addr} {oc_6 kV_6 dc_6 pm_6 cd_6 ct_6:Value} {od_6 an_6:Option Addr} {sl_6:Array (Option Value)} {f_7:Addr} {oc_7 kV_7 dc_7 pm_7 cd_7 ct_7:Value} {od_7 an_7:Option Addr} {sl_7:Array (Option Value)} {f_8:Addr} {oc_8 kV_8 dc_8 pm_8 cd_8 ct_8:Value} {od_8 an_8:Option Addr} {sl_8:Array (Option Value)} {f_9:Addr} {oc_9 kV_9 dc_9 pm_9 cd_9 ct_9:Value} {od_9 an_9:Option Addr} {sl_9:Array (Option Value)} {f_10:Addr} {oc_10 kV_10 dc_10 pm_10 cd_10 ct_10:Value} {od_10 an_10:Option Addr} {sl_10:Array (Option Value)} {f_11:Addr} {oc_11 kV_11 dc_11 pm_11 cd_11 ct_11:Value} {od_11 an_11:Option Addr} {sl_11:Array (Option Value)} {f_12:Addr} {oc_12 kV_12 dc_12 pm_12 cd_12 ct_12:Value} {od_12 an_12:Option Addr} {sl_12:Array (Option Value)} {f_13:Addr} {oc_13 kV_13 dc_13 pm_13 cd_13 ct_13:Value} {od_13 an_13:Option Addr} {sl_13:Array (Option Value)} {f_14:Addr} {oc_14 kV_14 dc_14 pm_14 cd_14 ct_14:Value} {od_14 an_14:Option Addr} {sl_14:Array (Option Value)} {f_15:Addr} {oc_15 kV_15 dc_15 pm_15 cd_15 ct_15:Value} {od_15 an_15:Option Addr} {sl_15:Array (Option Value)} {f_16:Addr} {oc_16 kV_16 dc_16 pm_16 cd_16 ct_16:Value} {od_16 an_16:Option Addr} {sl_16:Array (Option Value)} {f_17:Addr} {oc_17 kV_17 dc_17 pm_17 cd_17 ct_17:Value} {od_17 an_17:Option Addr} {sl_17:Array (Option Value)} {f_18:Addr} {oc_18 kV_18 dc_18 pm_18 cd_18 ct_18:Value} {od_18 an_18:Option Addr} {sl_18:Array (Option Value)} {f_19:Addr} {oc_19 kV_19 dc_19 pm_19 cd_19 ct_19:Value} {od_19 an_19:Option Addr} {sl_19:Array (Option Value)} {f_20:Addr} {oc_20 kV_20 dc_20 pm_20 cd_20 ct_20:Value} {od_20 an_20:Option Addr} {sl_20:Array (Option Value)} {f_21:Addr} {oc_21 kV_21 dc_21 pm_21 cd_21 ct_21:Value} {od_21 an_21:Option Addr} {sl_21:Array (Option Value)} {f_0:Addr} {oc_0 kV_0 dc_0 pm_0 cd_0 ct_0:Value} {od_0 an_0:Option Addr} {sl_0:Array (Option Value)}
  (a_1:PySem.W.nsIn K mainGlobals "sides_of" = some (some (.ref f_1)))
  (l_1:K.lookup f_1=some ⟨oc_1,od_1,.func (PySem.W.fnOf "sides_of" "sides_of" (n0 N9) (k7 N9) (d6 N9) .none kV_1 dc_1 pm_1 an_1 cd_1 ct_1),sl_1⟩)
  (c_1:PySem.W.codeIn K cd_1 "sides_of" = true)
  (k_1:PySem.W.keepIn K (.ref f_1)=true)
  (a_2:PySem.W.nsIn K mainGlobals "spot_of" = some (some (.ref f_2)))
  (l_2:K.lookup f_2=some ⟨oc_2,od_2,.func (PySem.W.fnOf "spot_of" "spot_of" (n0 S1) (k7 S1) (d6 S1) .none kV_2 dc_2 pm_2 an_2 cd_2 ct_2),sl_2⟩)
  (c_2:PySem.W.codeIn K cd_2 "spot_of" = true)
  (k_2:PySem.W.keepIn K (.ref f_2)=true)
  (a_3:PySem.W.nsIn K mainGlobals "spots_of" = some (some (.ref f_3)))
  (l_3:K.lookup f_3=some ⟨oc_3,od_3,.func (PySem.W.fnOf "spots_of" "spots_of" (n0 E3) (k7 E3) (d6 E3) .none kV_3 dc_3 pm_3 an_3 cd_3 ct_3),sl_3⟩)
  (c_3:PySem.W.codeIn K cd_3 "spots_of" = true)
  (k_3:PySem.W.keepIn K (.ref f_3)=true)
  (a_4:PySem.W.nsIn K mainGlobals "apart" = some (some (.ref f_4)))
  (l_4:K.lookup f_4=some ⟨oc_4,od_4,.func (PySem.W.fnOf "apart" "apart" (n0 a0f) (k7 a0f) (d6 a0f) .none kV_4 dc_4 pm_4 an_4 cd_4 ct_4),sl_4⟩)
  (c_4:PySem.W.codeIn K cd_4 "apart" = true)
  (k_4:PySem.W.keepIn K (.ref f_4)=true)
  (a_5:PySem.W.nsIn K mainGlobals "lies_in" = some (some (.ref f_5)))
  (l_5:K.lookup f_5=some ⟨oc_5,od_5,.func (PySem.W.fnOf "lies_in" "lies_in" (n0 S2) (k7 S2) (d6 S2) .none kV_5 dc_5 pm_5 an_5 cd_5 ct_5),sl_5⟩)
  (c_5:PySem.W.codeIn K cd_5 "lies_in" = true)
  (k_5:PySem.W.keepIn K (.ref f_5)=true)
  (a_6:PySem.W.nsIn K mainGlobals "fault" = some (some (.ref f_6)))
  (l_6:K.lookup f_6=some ⟨oc_6,od_6,.func (PySem.W.fnOf "fault" "fault" (n0 a0g) (k7 a0g) (d6 a0g) .none kV_6 dc_6 pm_6 an_6 cd_6 ct_6),sl_6⟩)
  (c_6:PySem.W.codeIn K cd_6 "fault" = true)
  (k_6:PySem.W.keepIn K (.ref f_6)=true)
  (a_7:PySem.W.nsIn K mainGlobals "is_cut" = some (some (.ref f_7)))
  (l_7:K.lookup f_7=some ⟨oc_7,od_7,.func (PySem.W.fnOf "is_cut" "is_cut" (n0 V9) (k7 V9) (d6 V9) .none kV_7 dc_7 pm_7 an_7 cd_7 ct_7),sl_7⟩)
  (c_7:PySem.W.codeIn K cd_7 "is_cut" = true)
  (k_7:PySem.W.keepIn K (.ref f_7)=true)
  (a_8:PySem.W.nsIn K mainGlobals "cut_spots" = some (some (.ref f_8)))
  (l_8:K.lookup f_8=some ⟨oc_8,od_8,.func (PySem.W.fnOf "cut_spots" "cut_spots" (n0 K7) (k7 K7) (d6 K7) .none kV_8 dc_8 pm_8 an_8 cd_8 ct_8),sl_8⟩)
  (c_8:PySem.W.codeIn K cd_8 "cut_spots" = true)
  (k_8:PySem.W.keepIn K (.ref f_8)=true)
  (a_9:PySem.W.nsIn K mainGlobals "free_end" = some (some (.ref f_9)))
  (l_9:K.lookup f_9=some ⟨oc_9,od_9,.func (PySem.W.fnOf "free_end" "free_end" (n0 y9) (k7 y9) (d6 y9) .none kV_9 dc_9 pm_9 an_9 cd_9 ct_9),sl_9⟩)
  (c_9:PySem.W.codeIn K cd_9 "free_end" = true)
  (k_9:PySem.W.keepIn K (.ref f_9)=true)
  (a_10:PySem.W.nsIn K mainGlobals "leaf_or_cut" = some (some (.ref f_10)))
  (l_10:K.lookup f_10=some ⟨oc_10,od_10,.func (PySem.W.fnOf "leaf_or_cut" "leaf_or_cut" (n0 A5) (k7 A5) (d6 A5) .none kV_10 dc_10 pm_10 an_10 cd_10 ct_10),sl_10⟩)
  (c_10:PySem.W.codeIn K cd_10 "leaf_or_cut" = true)
  (k_10:PySem.W.keepIn K (.ref f_10)=true)
  (a_11:PySem.W.nsIn K mainGlobals "is_within" = some (some (.ref f_11)))
  (l_11:K.lookup f_11=some ⟨oc_11,od_11,.func (PySem.W.fnOf "is_within" "is_within" (n0 K8) (k7 K8) (d6 K8) .none kV_11 dc_11 pm_11 an_11 cd_11 ct_11),sl_11⟩)
  (c_11:PySem.W.codeIn K cd_11 "is_within" = true)
  (k_11:PySem.W.keepIn K (.ref f_11)=true)
  (a_12:PySem.W.nsIn K mainGlobals "joined" = some (some (.ref f_12)))
  (l_12:K.lookup f_12=some ⟨oc_12,od_12,.func (PySem.W.fnOf "joined" "joined" (n0 W0) (k7 W0) (d6 W0) .none kV_12 dc_12 pm_12 an_12 cd_12 ct_12),sl_12⟩)
  (c_12:PySem.W.codeIn K cd_12 "joined" = true)
  (k_12:PySem.W.keepIn K (.ref f_12)=true)
  (a_13:PySem.W.nsIn K mainGlobals "plan_of" = some (some (.ref f_13)))
  (l_13:K.lookup f_13=some ⟨oc_13,od_13,.func (PySem.W.fnOf "plan_of" "plan_of" (n0 G9) (k7 G9) (d6 G9) .none kV_13 dc_13 pm_13 an_13 cd_13 ct_13),sl_13⟩)
  (c_13:PySem.W.codeIn K cd_13 "plan_of" = true)
  (k_13:PySem.W.keepIn K (.ref f_13)=true)
  (a_14:PySem.W.nsIn K mainGlobals "_law_whole" = some (some (.ref f_14)))
  (l_14:K.lookup f_14=some ⟨oc_14,od_14,.func (PySem.W.fnOf "_law_whole" "_law_whole" (n0 M7) (k7 M7) (d6 M7) .none kV_14 dc_14 pm_14 an_14 cd_14 ct_14),sl_14⟩)
  (c_14:PySem.W.codeIn K cd_14 "_law_whole" = true)
  (k_14:PySem.W.keepIn K (.ref f_14)=true)
  (a_15:PySem.W.nsIn K mainGlobals "_law_cell" = some (some (.ref f_15)))
  (l_15:K.lookup f_15=some ⟨oc_15,od_15,.func (PySem.W.fnOf "_law_cell" "_law_cell" (n0 W1) (k7 W1) (d6 W1) .none kV_15 dc_15 pm_15 an_15 cd_15 ct_15),sl_15⟩)
  (c_15:PySem.W.codeIn K cd_15 "_law_cell" = true)
  (k_15:PySem.W.keepIn K (.ref f_15)=true)
  (a_16:PySem.W.nsIn K mainGlobals "_law_ware" = some (some (.ref f_16)))
  (l_16:K.lookup f_16=some ⟨oc_16,od_16,.func (PySem.W.fnOf "_law_ware" "_law_ware" (n0 W2) (k7 W2) (d6 W2) .none kV_16 dc_16 pm_16 an_16 cd_16 ct_16),sl_16⟩)
  (c_16:PySem.W.codeIn K cd_16 "_law_ware" = true)
  (k_16:PySem.W.keepIn K (.ref f_16)=true)
  (a_17:PySem.W.nsIn K mainGlobals "_law_place" = some (some (.ref f_17)))
  (l_17:K.lookup f_17=some ⟨oc_17,od_17,.func (PySem.W.fnOf "_law_place" "_law_place" (n0 S3) (k7 S3) (d6 S3) .none kV_17 dc_17 pm_17 an_17 cd_17 ct_17),sl_17⟩)
  (c_17:PySem.W.codeIn K cd_17 "_law_place" = true)
  (k_17:PySem.W.keepIn K (.ref f_17)=true)
  (a_18:PySem.W.nsIn K mainGlobals "_law_fault" = some (some (.ref f_18)))
  (l_18:K.lookup f_18=some ⟨oc_18,od_18,.func (PySem.W.fnOf "_law_fault" "_law_fault" (n0 S4) (k7 S4) (d6 S4) .none kV_18 dc_18 pm_18 an_18 cd_18 ct_18),sl_18⟩)
  (c_18:PySem.W.codeIn K cd_18 "_law_fault" = true)
  (k_18:PySem.W.keepIn K (.ref f_18)=true)
  (a_19:PySem.W.nsIn K mainGlobals "_law_why_of" = some (some (.ref f_19)))
  (l_19:K.lookup f_19=some ⟨oc_19,od_19,.func (PySem.W.fnOf "_law_why_of" "_law_why_of" (n0 O0) (k7 O0) (d6 O0) .none kV_19 dc_19 pm_19 an_19 cd_19 ct_19),sl_19⟩)
  (c_19:PySem.W.codeIn K cd_19 "_law_why_of" = true)
  (k_19:PySem.W.keepIn K (.ref f_19)=true)
  (a_20:PySem.W.nsIn K mainGlobals "_law_answer" = some (some (.ref f_20)))
  (l_20:K.lookup f_20=some ⟨oc_20,od_20,.func (PySem.W.fnOf "_law_answer" "_law_answer" (n0 O1) (k7 O1) (d6 O1) .none kV_20 dc_20 pm_20 an_20 cd_20 ct_20),sl_20⟩)
  (c_20:PySem.W.codeIn K cd_20 "_law_answer" = true)
  (k_20:PySem.W.keepIn K (.ref f_20)=true)
  (a_21:PySem.W.nsIn K mainGlobals "law" = some (some (.ref f_21)))
  (l_21:K.lookup f_21=some ⟨oc_21,od_21,.func (PySem.W.fnOf "law" "law" (n0 F5) (k7 F5) (d6 F5) .none kV_21 dc_21 pm_21 an_21 cd_21 ct_21),sl_21⟩)
  (c_21:PySem.W.codeIn K cd_21 "law" = true)
  (k_21:PySem.W.keepIn K (.ref f_21)=true)
  (a_0:PySem.W.findIn K (.ref c0) "__init__" = some (some (.ref f_0)))
  (i_BadPacking___init__:PySem.W.isFn K (.ref f_0)=true)
  (l_0:K.lookup f_0=some ⟨oc_0,od_0,.func (PySem.W.fnOf "__init__" "BadPacking.__init__" (n0 w4) (k7 w4) (d6 w4) .none kV_0 dc_0 pm_0 an_0 cd_0 ct_0),sl_0⟩)
  (c_0:PySem.W.codeIn K cd_0 "BadPacking.__init__" = true)
  (k_0:PySem.W.keepIn K (.ref f_0)=true)
  (z_ValueError:PySem.W.nsIn K mainGlobals "ValueError" = some none)
  (z_any:PySem.W.nsIn K mainGlobals "any" = some none)
  (z_bool:PySem.W.nsIn K mainGlobals "bool" = some none)
  (z_enumerate:PySem.W.nsIn K mainGlobals "enumerate" = some none)
  (z_int:PySem.W.nsIn K mainGlobals "int" = some none)
  (z_isinstance:PySem.W.nsIn K mainGlobals "isinstance" = some none)
  (z_len:PySem.W.nsIn K mainGlobals "len" = some none)
  (z_list:PySem.W.nsIn K mainGlobals "list" = some none)
  (z_range:PySem.W.nsIn K mainGlobals "range" = some none)
  (z_reversed:PySem.W.nsIn K mainGlobals "reversed" = some none)
  (z_set:PySem.W.nsIn K mainGlobals "set" = some none)
  (z_sorted:PySem.W.nsIn K mainGlobals "sorted" = some none)
  (z_tuple:PySem.W.nsIn K mainGlobals "tuple" = some none)
  (z_zip:PySem.W.nsIn K mainGlobals "zip" = some none)
  (m_BadPacking:PySem.W.nsIn K mainGlobals "BadPacking" = some (some (.ref c0)))
  (m_BadPlan:PySem.W.nsIn K mainGlobals "BadPlan" = some (some (.ref c1)))
  (m_BadSide:PySem.W.nsIn K mainGlobals "BadSide" = some (some (.ref c2)))
  (m_BadTurn:PySem.W.nsIn K mainGlobals "BadTurn" = some (some (.ref c3)))
  (m_CrateError:PySem.W.nsIn K mainGlobals "CrateError" = some (some (.ref c4)))
  (m_Full:PySem.W.nsIn K mainGlobals "Full" = some (some (.ref c5)))
  (m_Hangs:PySem.W.nsIn K mainGlobals "Hangs" = some (some (.ref c6)))
  (m_NoDeed:PySem.W.nsIn K mainGlobals "NoDeed" = some (some (.ref c7)))
  (m_NoDrawing:PySem.W.nsIn K mainGlobals "NoDrawing" = some (some (.ref c8)))
  (m_NoPicker:PySem.W.nsIn K mainGlobals "NoPicker" = some (some (.ref c9)))
  (m_NoSheet:PySem.W.nsIn K mainGlobals "NoSheet" = some (some (.ref c10)))
  (m_NoText:PySem.W.nsIn K mainGlobals "NoText" = some (some (.ref c11)))
  (m_NoWare:PySem.W.nsIn K mainGlobals "NoWare" = some (some (.ref c12)))
  (m_NoWeighing:PySem.W.nsIn K mainGlobals "NoWeighing" = some (some (.ref c13)))
  (m_NothingDone:PySem.W.nsIn K mainGlobals "NothingDone" = some (some (.ref c14)))
  (m_Ring:PySem.W.nsIn K mainGlobals "Ring" = some (some (.ref c15)))
  (m_TooMany:PySem.W.nsIn K mainGlobals "TooMany" = some (some (.ref c16)))
  (m_TooWide:PySem.W.nsIn K mainGlobals "TooWide" = some (some (.ref c17)))
  (xo_BadPacking:a5l K c0=true)
  (xa_BadPacking:PySem.W.findIn K (.ref c0) "__setattr__" = some (some (.builtin "object.__setattr__")))
  (xm_BadPacking:((PySem.W.clsIn K c0).any fun cd=>PySem.W.onlyVE cd.mro)=true)
  (xq_BadPacking:PySem.W.mroIn K c0 (.type "object")=some true)
  (x_BadTurn:PySem.W.excIn K c3 vErr "ValueError.__new__" = true)
  (t_exc_BadPacking1:PySem.W.findIn K (.ref c0) "__getattribute__" = some (some (.builtin "BaseException.__getattribute__")))
  (t_exc_BadPacking2:PySem.W.findIn K (.ref c0) "__getattr__" = some none)
  (t_exc_BadPacking3:PySem.W.findIn K (.ref c0) "__class__" = some (some (.builtin "object.__class__")))
  (t_exc_BadPacking4:PySem.W.mroIn K c0 (.type "object")=some true)
  (t_exc_BadPacking5:PySem.W.subIn K (.ref c0) (.type "BaseException")=some true)
  (t_exc_BadTurn1:PySem.W.findIn K (.ref c3) "__getattribute__" = some (some (.builtin "BaseException.__getattribute__")))
  (t_exc_BadTurn2:PySem.W.findIn K (.ref c3) "__getattr__" = some none)
  (t_exc_BadTurn3:PySem.W.findIn K (.ref c3) "__class__" = some (some (.builtin "object.__class__")))
  (t_exc_BadTurn4:PySem.W.mroIn K c3 (.type "object")=some true)
  (t_exc_BadTurn5:PySem.W.subIn K (.ref c3) (.type "BaseException")=some true)
  (hd_BadPacking:PySem.W.hasDictIn K c0=true)
  (xn_BadPacking:PySem.W.findIn K (.ref c0) "why" = some none)
  (t_any_BadPacking_0:PySem.W.kitAny K (.ref c0) [.ref c1,.ref c2,.ref c3,.ref c5,.ref c6,.ref c7,.ref c8,.ref c9,.ref c10]=some false)
  (t_any_BadPacking_1:PySem.W.kitAny K (.ref c0) [.ref c11,.ref c12,.ref c13,.ref c14,.ref c15,.ref c16,.ref c17]=some false)
  (t_one_BadPacking_BadPacking:PySem.W.kitOne K (.ref c0) (.ref c0)=some true)
  (t_one_BadPacking_ValueError:PySem.W.kitOne K (.ref c0) (.type "ValueError")=some true)
  (t_exo_BadPacking_CrateError:PySem.W.exmOne K (.ref c0) (.ref c4)=some true)
  (t_any_BadTurn_0:PySem.W.kitAny K (.ref c3) [.ref c1,.ref c2,.ref c3,.ref c5,.ref c6,.ref c7,.ref c8,.ref c9,.ref c10]=some true)
  (t_any_BadTurn_1:PySem.W.kitAny K (.ref c3) [.ref c11,.ref c12,.ref c13,.ref c14,.ref c15,.ref c16,.ref c17]=some false)
  (t_one_BadTurn_BadPacking:PySem.W.kitOne K (.ref c3) (.ref c0)=some false)
  (t_one_BadTurn_ValueError:PySem.W.kitOne K (.ref c3) (.type "ValueError")=some true)
  (t_exo_BadTurn_CrateError:PySem.W.exmOne K (.ref c3) (.ref c4)=some true)
  : ∃fd:FuncData,(∀(s:Shared) (v:Value),BindsTo s fd ⟨[v],[]⟩ [("_law_script",v)])∧∃c:Str→Addr,∀base:Heap,K.In base→base.Ns mainGlobals mg→FnOk (PySem.Challenge.rw_cratefit_k61_no_packing_is_cut).prog w K mg base (x9 (PySem.Challenge.rw_cratefit_k61_no_packing_is_cut).prog w) 13 fa fd ["_law_script"] (a56 K c):=by
 have e:=hfa.symm.trans (PySem.W.mg_of X G a_21)
 cases e
 have T:Txt K mg (cL c0 c1 c2 c3 c4 c5 c6 c7 c8 c9 c10 c11 c12 c13 c14 c15 c16 c17):=⟨PySem.W.mg_none_of X G z_ValueError,PySem.W.mg_none_of X G z_any,PySem.W.mg_none_of X G z_bool,PySem.W.mg_none_of X G z_enumerate,PySem.W.mg_none_of X G z_int,PySem.W.mg_none_of X G z_isinstance,PySem.W.mg_none_of X G z_len,PySem.W.mg_none_of X G z_list,PySem.W.mg_none_of X G z_range,PySem.W.mg_none_of X G z_reversed,PySem.W.mg_none_of X G z_set,PySem.W.mg_none_of X G z_sorted,PySem.W.mg_none_of X G z_tuple,PySem.W.mg_none_of X G z_zip,PySem.W.mg_of X G m_BadPacking,PySem.W.mg_of X G m_BadPlan,PySem.W.mg_of X G m_BadSide,PySem.W.mg_of X G m_BadTurn,PySem.W.mg_of X G m_CrateError,PySem.W.mg_of X G m_Full,PySem.W.mg_of X G m_Hangs,PySem.W.mg_of X G m_NoDeed,PySem.W.mg_of X G m_NoDrawing,PySem.W.mg_of X G m_NoPicker,PySem.W.mg_of X G m_NoSheet,PySem.W.mg_of X G m_NoText,PySem.W.mg_of X G m_NoWare,PySem.W.mg_of X G m_NoWeighing,PySem.W.mg_of X G m_NothingDone,PySem.W.mg_of X G m_Ring,PySem.W.mg_of X G m_TooMany,PySem.W.mg_of X G m_TooWide,x_BadTurn,⟨t_exc_BadPacking1,t_exc_BadPacking2,t_exc_BadPacking3,t_exc_BadPacking4,t_exc_BadPacking5⟩,⟨t_exc_BadTurn1,t_exc_BadTurn2,t_exc_BadTurn3,t_exc_BadTurn4,t_exc_BadTurn5⟩,hd_BadPacking,xn_BadPacking,t_any_BadPacking_0,t_any_BadPacking_1,t_one_BadPacking_BadPacking,t_one_BadPacking_ValueError,t_exo_BadPacking_CrateError,t_any_BadTurn_0,t_any_BadTurn_1,t_one_BadTurn_BadPacking,t_one_BadTurn_ValueError,t_exo_BadTurn_CrateError⟩
 refine⟨PySem.W.fnOf "law" "law" (n0 F5) (k7 F5) (d6 F5) .none kV_21 dc_21 pm_21 an_21 cd_21 ct_21,fun s v=>.of_eq rfl,cOf [("BadPacking",c0),("BadPlan",c1),("BadSide",c2),("BadTurn",c3),("CrateError",c4),("Full",c5),("Hangs",c6),("NoDeed",c7),("NoDrawing",c8),("NoPicker",c9),("NoSheet",c10),("NoText",c11),("NoWare",c12),("NoWeighing",c13),("NothingDone",c14),("Ring",c15),("TooMany",c16),("TooWide",c17)],fun base _ _=>?_⟩
 have F_0:=x6 (st:=w4) l_0 c_0 k_0
 have B_0:=F_0.binds (ps:=["self","why"]) fun _ _ _ _ _ _ us hl=>match us,hl with | [_,_],_=>rfl
 have OI_BadPacking___init__:=a1n (P:=(PySem.Challenge.rw_cratefit_k61_no_packing_is_cut).prog) (w:=w) (mg:=mg) (base:=base) (c:=cOf [("BadPacking",c0),("BadPlan",c1),("BadSide",c2),("BadTurn",c3),("CrateError",c4),("Full",c5),("Hangs",c6),("NoDeed",c7),("NoDrawing",c8),("NoPicker",c9),("NoSheet",c10),("NoText",c11),("NoWare",c12),("NoWeighing",c13),("NothingDone",c14),("Ring",c15),("TooMany",c16),("TooWide",c17)]) F_0 ⟨xa_BadPacking,xm_BadPacking,xq_BadPacking,hd_BadPacking,xn_BadPacking⟩
 have XI_BadPacking:b2T (PySem.Challenge.rw_cratefit_k61_no_packing_is_cut).prog w K mg base 3 "BadPacking" ((cL c0 c1 c2 c3 c4 c5 c6 c7 c8 c9 c10 c11 c12 c13 c14 c15 c16 c17) "BadPacking") ["self","why"] "why" := ⟨_,_,⟨xo_BadPacking,a_0,beq_iff_eq.mp i_BadPacking___init__⟩,OI_BadPacking___init__,B_0,PySem.W.mg_of X G m_BadPacking⟩
 have F_1:=x6 (st:=N9) l_1 c_1 k_1
 have B_1:=F_1.binds (ps:=["ware","lie"]) fun _ _ _ _ _ _ us hl=>match us,hl with | [_,_],_=>rfl
 have O_1:Own (PySem.Challenge.rw_cratefit_k61_no_packing_is_cut).prog w K mg base 3 "sides_of" ["ware","lie"] (l5 K (cL c0 c1 c2 c3 c4 c5 c6 c7 c8 c9 c10 c11 c12 c13 c14 c15 c16 c17) U9):=⟨_,_,a8Q F_1 T ,B_1,k_1,PySem.W.mg_of X G a_1⟩
 have F_2:=x6 (st:=S1) l_2 c_2 k_2
 have B_2:=F_2.binds (ps:=["ware","place"]) fun _ _ _ _ _ _ us hl=>match us,hl with | [_,_],_=>rfl
 have O_2:Own (PySem.Challenge.rw_cratefit_k61_no_packing_is_cut).prog w K mg base 5 "spot_of" ["ware","place"] (l5 K (cL c0 c1 c2 c3 c4 c5 c6 c7 c8 c9 c10 c11 c12 c13 c14 c15 c16 c17) A6):=⟨_,_,b0k F_2 T O_1,B_2,k_2,PySem.W.mg_of X G a_2⟩
 have F_3:=x6 (st:=E3) l_3 c_3 k_3
 have B_3:=F_3.binds (ps:=["wares","places"]) fun _ _ _ _ _ _ us hl=>match us,hl with | [_,_],_=>rfl
 have O_3:Own (PySem.Challenge.rw_cratefit_k61_no_packing_is_cut).prog w K mg base 7 "spots_of" ["wares","places"] (l5 K (cL c0 c1 c2 c3 c4 c5 c6 c7 c8 c9 c10 c11 c12 c13 c14 c15 c16 c17) E4):=⟨_,_,a8S F_3 T O_2,B_3,k_3,PySem.W.mg_of X G a_3⟩
 have F_4:=x6 (st:=a0f) l_4 c_4 k_4
 have B_4:=F_4.binds (ps:=["one","other"]) fun _ _ _ _ _ _ us hl=>match us,hl with | [_,_],_=>rfl
 have O_4:Own (PySem.Challenge.rw_cratefit_k61_no_packing_is_cut).prog w K mg base 3 "apart" ["one","other"] (l5 K (cL c0 c1 c2 c3 c4 c5 c6 c7 c8 c9 c10 c11 c12 c13 c14 c15 c16 c17) W3):=⟨_,_,b20 F_4 T ,B_4,k_4,PySem.W.mg_of X G a_4⟩
 have F_5:=x6 (st:=S2) l_5 c_5 k_5
 have B_5:=F_5.binds (ps:=["box","spot"]) fun _ _ _ _ _ _ us hl=>match us,hl with | [_,_],_=>rfl
 have O_5:Own (PySem.Challenge.rw_cratefit_k61_no_packing_is_cut).prog w K mg base 3 "lies_in" ["box","spot"] (l5 K (cL c0 c1 c2 c3 c4 c5 c6 c7 c8 c9 c10 c11 c12 c13 c14 c15 c16 c17) I0):=⟨_,_,b0l F_5 T ,B_5,k_5,PySem.W.mg_of X G a_5⟩
 have F_6:=x6 (st:=a0g) l_6 c_6 k_6
 have B_6:=F_6.binds (ps:=["box","wares","places"]) fun _ _ _ _ _ _ us hl=>match us,hl with | [_,_,_],_=>rfl
 have O_6:Own (PySem.Challenge.rw_cratefit_k61_no_packing_is_cut).prog w K mg base 7 "fault" ["box","wares","places"] (l5 K (cL c0 c1 c2 c3 c4 c5 c6 c7 c8 c9 c10 c11 c12 c13 c14 c15 c16 c17) B8):=⟨_,_,b21 F_6 T O_2 O_5 O_4,B_6,k_6,PySem.W.mg_of X G a_6⟩
 have F_7:=x6 (st:=V9) l_7 c_7 k_7
 have B_7:=F_7.binds (ps:=["plan"]) fun _ _ _ _ _ _ us hl=>match us,hl with | [_],_=>rfl
 have O_7:Own (PySem.Challenge.rw_cratefit_k61_no_packing_is_cut).prog w K mg base 3 "is_cut" ["plan"] (l5 K (cL c0 c1 c2 c3 c4 c5 c6 c7 c8 c9 c10 c11 c12 c13 c14 c15 c16 c17) u3):=⟨_,_,b1y F_7 T ,B_7,k_7,PySem.W.mg_of X G a_7⟩
 have F_8:=x6 (st:=K7) l_8 c_8 k_8
 have B_8:=F_8.binds (ps:=["spot","plan"]) fun _ _ _ _ _ _ us hl=>match us,hl with | [_,_],_=>rfl
 have O_8:Own (PySem.Challenge.rw_cratefit_k61_no_packing_is_cut).prog w K mg base 3 "cut_spots" ["spot","plan"] (l5 K (cL c0 c1 c2 c3 c4 c5 c6 c7 c8 c9 c10 c11 c12 c13 c14 c15 c16 c17) t7):=⟨_,_,a8u F_8 T ,B_8,k_8,PySem.W.mg_of X G a_8⟩
 have F_9:=x6 (st:=y9) l_9 c_9 k_9
 have B_9:=F_9.binds (ps:=["piece","spots","side"]) fun _ _ _ _ _ _ us hl=>match us,hl with | [_,_,_],_=>rfl
 have O_9:Own (PySem.Challenge.rw_cratefit_k61_no_packing_is_cut).prog w K mg base 3 "free_end" ["piece","spots","side"] (l5 K (cL c0 c1 c2 c3 c4 c5 c6 c7 c8 c9 c10 c11 c12 c13 c14 c15 c16 c17) B1):=⟨_,_,a8T F_9 T ,B_9,k_9,PySem.W.mg_of X G a_9⟩
 have F_10:=x6 (st:=A5) l_10 c_10 k_10
 have B_10:=F_10.binds (ps:=["piece","spots","places","numbers"]) fun _ _ _ _ _ _ us hl=>match us,hl with | [_,_,_,_],_=>rfl
 have O_10:Own (PySem.Challenge.rw_cratefit_k61_no_packing_is_cut).prog w K mg base 5 "leaf_or_cut" ["piece","spots","places","numbers"] (l5 K (cL c0 c1 c2 c3 c4 c5 c6 c7 c8 c9 c10 c11 c12 c13 c14 c15 c16 c17) n6):=⟨_,_,a6z F_10 T O_9,B_10,k_10,PySem.W.mg_of X G a_10⟩
 have F_11:=x6 (st:=K8) l_11 c_11 k_11
 have B_11:=F_11.binds (ps:=["spot","piece"]) fun _ _ _ _ _ _ us hl=>match us,hl with | [_,_],_=>rfl
 have O_11:Own (PySem.Challenge.rw_cratefit_k61_no_packing_is_cut).prog w K mg base 3 "is_within" ["spot","piece"] (l5 K (cL c0 c1 c2 c3 c4 c5 c6 c7 c8 c9 c10 c11 c12 c13 c14 c15 c16 c17) C7):=⟨_,_,a8w F_11 T ,B_11,k_11,PySem.W.mg_of X G a_11⟩
 have F_12:=x6 (st:=W0) l_12 c_12 k_12
 have B_12:=F_12.binds (ps:=["heads"]) fun _ _ _ _ _ _ us hl=>match us,hl with | [_],_=>rfl
 have O_12:Own (PySem.Challenge.rw_cratefit_k61_no_packing_is_cut).prog w K mg base 5 "joined" ["heads"] (l5 K (cL c0 c1 c2 c3 c4 c5 c6 c7 c8 c9 c10 c11 c12 c13 c14 c15 c16 c17) K0):=⟨_,_,b1z F_12 T O_7,B_12,k_12,PySem.W.mg_of X G a_12⟩
 have F_13:=x6 (st:=G9) l_13 c_13 k_13
 have B_13:=F_13.binds (ps:=["box","wares","places"]) fun _ _ _ _ _ _ us hl=>match us,hl with | [_,_,_],_=>rfl
 have O_13:Own (PySem.Challenge.rw_cratefit_k61_no_packing_is_cut).prog w K mg base 9 "plan_of" ["box","wares","places"] (l5 K (cL c0 c1 c2 c3 c4 c5 c6 c7 c8 c9 c10 c11 c12 c13 c14 c15 c16 c17) B7):=⟨_,_,b0n F_13 T O_6 O_3 O_10 O_7 O_8 O_11 O_12 XI_BadPacking,B_13,k_13,PySem.W.mg_of X G a_13⟩
 have F_14:=x6 (st:=M7) l_14 c_14 k_14
 have B_14:=F_14.binds (ps:=["_law_found"]) fun _ _ _ _ _ _ us hl=>match us,hl with | [_],_=>rfl
 have O_14:Own (PySem.Challenge.rw_cratefit_k61_no_packing_is_cut).prog w K mg base 3 "_law_whole" ["_law_found"] (l5 K (cL c0 c1 c2 c3 c4 c5 c6 c7 c8 c9 c10 c11 c12 c13 c14 c15 c16 c17) S5):=⟨_,_,b0o F_14 T ,B_14,k_14,PySem.W.mg_of X G a_14⟩
 have GW_l_whole:OwnW (PySem.Challenge.rw_cratefit_k61_no_packing_is_cut).prog w K mg base 3 "_law_whole" ["_law_found"] (l5 K (cL c0 c1 c2 c3 c4 c5 c6 c7 c8 c9 c10 c11 c12 c13 c14 c15 c16 c17) S5):=⟨_,_,a8U F_14 T,B_14,k_14,PySem.W.mg_of X G a_14⟩
 have F_15:=x6 (st:=W1) l_15 c_15 k_15
 have B_15:=F_15.binds (ps:=["_law_script","_law_k"]) fun _ _ _ _ _ _ us hl=>match us,hl with | [_,_],_=>rfl
 have O_15:Own (PySem.Challenge.rw_cratefit_k61_no_packing_is_cut).prog w K mg base 3 "_law_cell" ["_law_script","_law_k"] (l5 K (cL c0 c1 c2 c3 c4 c5 c6 c7 c8 c9 c10 c11 c12 c13 c14 c15 c16 c17) E6):=⟨_,_,b1D F_15 T ,B_15,k_15,PySem.W.mg_of X G a_15⟩
 have F_16:=x6 (st:=W2) l_16 c_16 k_16
 have B_16:=F_16.binds (ps:=["_law_cell_here"]) fun _ _ _ _ _ _ us hl=>match us,hl with | [_],_=>rfl
 have O_16:Own (PySem.Challenge.rw_cratefit_k61_no_packing_is_cut).prog w K mg base 3 "_law_ware" ["_law_cell_here"] (l5 K (cL c0 c1 c2 c3 c4 c5 c6 c7 c8 c9 c10 c11 c12 c13 c14 c15 c16 c17) M8):=⟨_,_,b1F F_16 T ,B_16,k_16,PySem.W.mg_of X G a_16⟩
 have F_17:=x6 (st:=S3) l_17 c_17 k_17
 have B_17:=F_17.binds (ps:=["_law_cell_here"]) fun _ _ _ _ _ _ us hl=>match us,hl with | [_],_=>rfl
 have O_17:Own (PySem.Challenge.rw_cratefit_k61_no_packing_is_cut).prog w K mg base 3 "_law_place" ["_law_cell_here"] (l5 K (cL c0 c1 c2 c3 c4 c5 c6 c7 c8 c9 c10 c11 c12 c13 c14 c15 c16 c17) J0):=⟨_,_,b0p F_17 T ,B_17,k_17,PySem.W.mg_of X G a_17⟩
 have F_18:=x6 (st:=S4) l_18 c_18 k_18
 have B_18:=F_18.binds (ps:=["_law_box","_law_wares","_law_places"]) fun _ _ _ _ _ _ us hl=>match us,hl with | [_,_,_],_=>rfl
 have O_18:Own (PySem.Challenge.rw_cratefit_k61_no_packing_is_cut).prog w K mg base 3 "_law_fault" ["_law_box","_law_wares","_law_places"] (l5 K (cL c0 c1 c2 c3 c4 c5 c6 c7 c8 c9 c10 c11 c12 c13 c14 c15 c16 c17) C8):=⟨_,_,b0q F_18 T ,B_18,k_18,PySem.W.mg_of X G a_18⟩
 have F_19:=x6 (st:=O0) l_19 c_19 k_19
 have B_19:=F_19.binds (ps:=["_law_refusal"]) fun _ _ _ _ _ _ us hl=>match us,hl with | [_],_=>rfl
 have O_19:OwnH (PySem.Challenge.rw_cratefit_k61_no_packing_is_cut).prog w K mg base 5 "_law_why_of" ["_law_refusal"] ((fun b=>spH b K (cL c0 c1 c2 c3 c4 c5 c6 c7 c8 c9 c10 c11 c12 c13 c14 c15 c16 c17) B2)):=⟨_,_,fun b=>a8V F_19 T GW_l_whole,B_19,k_19,PySem.W.mg_of X G a_19⟩
 have F_20:=x6 (st:=O1) l_20 c_20 k_20
 have B_20:=F_20.binds (ps:=["_law_box","_law_wares","_law_places"]) fun _ _ _ _ _ _ us hl=>match us,hl with | [_,_,_],_=>rfl
 have O_20:Own (PySem.Challenge.rw_cratefit_k61_no_packing_is_cut).prog w K mg base 11 "_law_answer" ["_law_box","_law_wares","_law_places"] (l5 K (cL c0 c1 c2 c3 c4 c5 c6 c7 c8 c9 c10 c11 c12 c13 c14 c15 c16 c17) K3):=⟨_,_,a8W F_20 T O_19 O_13,B_20,k_20,PySem.W.mg_of X G a_20⟩
 have F_21:=x6 (st:=F5) l_21 c_21 k_21
 exact b6k F_21 T O_15 O_16 O_17 O_18 O_20
end Law
namespace Law
open PySem L2 PyProof.Rows
theorem walk{q:Program}{loose:List Str}{XP:(Str→Option Value)→Heap→Prop}{YP:World→Heap→Prop}{d:DefRec}{K:Params→PySem.W.Frag}(hdf:d.params.defaults=[])(hY:∀(w:World) (h:Heap),YP w h→(K w.params).In h)
  (F:∀(w:World) (mg:Str→Option Value) (fa:Addr) (h:Heap),(K w.params).In h→h.Ns mainGlobals mg→mg d.name=some (.ref fa) →
   ∃fd:FuncData,(∀(s:Shared) (u:Value),BindsTo s fd ⟨[u],[]⟩ [("_law_script",u)])∧∃c:Str→Addr,∀base:Heap,(K w.params).In base→base.Ns mainGlobals mg→FnOk (PySem.Challenge.rw_cratefit_k61_no_packing_is_cut).prog w (K w.params) mg base (x9 (PySem.Challenge.rw_cratefit_k61_no_packing_is_cut).prog w) 13 fa fd ["_law_script"] (a56 (K w.params) c)) :
  PySem.W.WalkO q loose XP YP (PySem.Challenge.rw_cratefit_k61_no_packing_is_cut).row.toRowW d [] (fun f vs=>PySem.call f vs):=by
 refine L2.walk_ofB (l:=PySem.Challenge.rw_cratefit_k61_no_packing_is_cut) (n:=63) (k:=13) (x := "_law_script") (K:=K) (CX:=fun w=>x9 (PySem.Challenge.rw_cratefit_k61_no_packing_is_cut).prog w) (sp:=fun w vs H Q E=>∀c,a56 (K w.params) c vs H Q E) rfl (by decide) hdf ⟨rfl,by decide,by decide⟩ hY (fun w mg fa h KX G hm=>?_) (fun w H a ns h1 h2 h3 h4 c=>⟨a,ns,rfl,.of h4 h3,h2,h1,fun _=>rfl⟩) fun w H s e s' z=>b6p H s e s' z
 obtain⟨fd,hb,c,hF⟩:=F w mg fa h KX G hm
 exact⟨fd,hb,fun base kb nb=>(hF base kb nb).imp fun vs H Q E z=>z c⟩
end Law
local macro_rules|`(#check 0)=>do
 let g:=fun(n:Lean.Name)=>do
  let y:=Lean.mkIdent (.str `PySem.W.Fast s!"tw{n.hash}")
  `(theorem $y:ident : True:=trivial)
 let mut r:=#[←g `PySem.Challenge.pw_cratefit_k61_no_packing_is_cut]
 for x in ["view_39","sts_49","sts_64","sts_79","sts_94","sts_109","sts_124","sts_139","sts_154","sts_169","sts_184","sts_199","sts_214","sts_229","sts_244","sts_259","sts_281","sts_303","sts_325","sts_373","sts_453","tree_47","tree_63","tree_78","tree_93","tree_108","tree_123","tree_138","tree_153","tree_168","tree_183","tree_198","tree_213","tree_228","tree_243","tree_258","tree_280","tree_302","tree_324","tree_372","tree_452","tree_487","heap_39","heap_46","heap_488","env_41"]++(List.range 445).map (s!"o_{·+43}") do r:=r.push (←g (.str `PySem.Challenge.cw_cratefit_k61_no_packing_is_cut_holds x))
 return Lean.mkNullNode r
#check 0
open PySem.W
set_option maxRecDepth 100000 in
set_option maxHeartbeats 0 in
theorem PySem.Challenge.cw_cratefit_k61_no_packing_is_cut_holds : PySem.Challenge.rw_cratefit_k61_no_packing_is_cut.Holds := by
 w_on;o_law;k_head; (case hw=>w_witness2)
 k_fill
 refine Law.walk rfl (fun w h Y=>PySem.W.kIn_of Y) ?F
 case F =>
  intro w mg fa h KX G hmg
  refine' Law.all_mk KX G hmg ?a_sides_of ?l_sides_of ?c_sides_of ?k_sides_of ?a_spot_of ?l_spot_of ?c_spot_of ?k_spot_of ?a_spots_of ?l_spots_of ?c_spots_of ?k_spots_of ?a_apart ?l_apart ?c_apart ?k_apart ?a_lies_in ?l_lies_in ?c_lies_in ?k_lies_in ?a_fault ?l_fault ?c_fault ?k_fault ?a_is_cut ?l_is_cut ?c_is_cut ?k_is_cut ?a_cut_spots ?l_cut_spots ?c_cut_spots ?k_cut_spots ?a_free_end ?l_free_end ?c_free_end ?k_free_end ?a_leaf_or_cut ?l_leaf_or_cut ?c_leaf_or_cut ?k_leaf_or_cut ?a_is_within ?l_is_within ?c_is_within ?k_is_within ?a_joined ?l_joined ?c_joined ?k_joined ?a_plan_of ?l_plan_of ?c_plan_of ?k_plan_of ?a_l_whole ?l_l_whole ?c_l_whole ?k_l_whole ?a_l_cell ?l_l_cell ?c_l_cell ?k_l_cell ?a_l_ware ?l_l_ware ?c_l_ware ?k_l_ware ?a_l_place ?l_l_place ?c_l_place ?k_l_place ?a_l_fault ?l_l_fault ?c_l_fault ?k_l_fault ?a_l_why_of ?l_l_why_of ?c_l_why_of ?k_l_why_of ?a_l_answer ?l_l_answer ?c_l_answer ?k_l_answer ?a_law ?l_law ?c_law ?k_law ?a_BadPacking___init__ ?i_BadPacking___init__ ?l_BadPacking___init__ ?c_BadPacking___init__ ?k_BadPacking___init__ ?z_ValueError ?z_any ?z_bool ?z_enumerate ?z_int ?z_isinstance ?z_len ?z_list ?z_range ?z_reversed ?z_set ?z_sorted ?z_tuple ?z_zip ?m_BadPacking ?m_BadPlan ?m_BadSide ?m_BadTurn ?m_CrateError ?m_Full ?m_Hangs ?m_NoDeed ?m_NoDrawing ?m_NoPicker ?m_NoSheet ?m_NoText ?m_NoWare ?m_NoWeighing ?m_NothingDone ?m_Ring ?m_TooMany ?m_TooWide ?xo_BadPacking ?xa_BadPacking ?xm_BadPacking ?xq_BadPacking ?x_BadTurn ?t_exc_BadPacking1 ?t_exc_BadPacking2 ?t_exc_BadPacking3 ?t_exc_BadPacking4 ?t_exc_BadPacking5 ?t_exc_BadTurn1 ?t_exc_BadTurn2 ?t_exc_BadTurn3 ?t_exc_BadTurn4 ?t_exc_BadTurn5 ?hd_BadPacking ?xn_BadPacking ?t_any_BadPacking_0 ?t_any_BadPacking_1 ?t_one_BadPacking_BadPacking ?t_one_BadPacking_ValueError ?t_exo_BadPacking_CrateError ?t_any_BadTurn_0 ?t_any_BadTurn_1 ?t_one_BadTurn_BadPacking ?t_one_BadTurn_ValueError ?t_exo_BadTurn_CrateError
  (case m_BadPacking=>k_is)
  (case a_sides_of=>k_is)
  (case l_sides_of=>k_is)
  (case c_sides_of=>k_is)
  (case k_sides_of=>k_is)
  (case a_spot_of=>k_is)
  (case l_spot_of=>k_is)
  (case c_spot_of=>k_is)
  (case k_spot_of=>k_is)
  (case a_spots_of=>k_is)
  (case l_spots_of=>k_is)
  (case c_spots_of=>k_is)
  (case k_spots_of=>k_is)
  (case a_apart=>k_is)
  (case l_apart=>k_is)
  (case c_apart=>k_is)
  (case k_apart=>k_is)
  (case a_lies_in=>k_is)
  (case l_lies_in=>k_is)
  (case c_lies_in=>k_is)
  (case k_lies_in=>k_is)
  (case a_fault=>k_is)
  (case l_fault=>k_is)
  (case c_fault=>k_is)
  (case k_fault=>k_is)
  (case a_is_cut=>k_is)
  (case l_is_cut=>k_is)
  (case c_is_cut=>k_is)
  (case k_is_cut=>k_is)
  (case a_cut_spots=>k_is)
  (case l_cut_spots=>k_is)
  (case c_cut_spots=>k_is)
  (case k_cut_spots=>k_is)
  (case a_free_end=>k_is)
  (case l_free_end=>k_is)
  (case c_free_end=>k_is)
  (case k_free_end=>k_is)
  (case a_leaf_or_cut=>k_is)
  (case l_leaf_or_cut=>k_is)
  (case c_leaf_or_cut=>k_is)
  (case k_leaf_or_cut=>k_is)
  (case a_is_within=>k_is)
  (case l_is_within=>k_is)
  (case c_is_within=>k_is)
  (case k_is_within=>k_is)
  (case a_joined=>k_is)
  (case l_joined=>k_is)
  (case c_joined=>k_is)
  (case k_joined=>k_is)
  (case a_plan_of=>k_is)
  (case l_plan_of=>k_is)
  (case c_plan_of=>k_is)
  (case k_plan_of=>k_is)
  (case a_l_whole=>k_is)
  (case l_l_whole=>k_is)
  (case c_l_whole=>k_is)
  (case k_l_whole=>k_is)
  (case a_l_cell=>k_is)
  (case l_l_cell=>k_is)
  (case c_l_cell=>k_is)
  (case k_l_cell=>k_is)
  (case a_l_ware=>k_is)
  (case l_l_ware=>k_is)
  (case c_l_ware=>k_is)
  (case k_l_ware=>k_is)
  (case a_l_place=>k_is)
  (case l_l_place=>k_is)
  (case c_l_place=>k_is)
  (case k_l_place=>k_is)
  (case a_l_fault=>k_is)
  (case l_l_fault=>k_is)
  (case c_l_fault=>k_is)
  (case k_l_fault=>k_is)
  (case a_l_why_of=>k_is)
  (case l_l_why_of=>k_is)
  (case c_l_why_of=>k_is)
  (case k_l_why_of=>k_is)
  (case a_l_answer=>k_is)
  (case l_l_answer=>k_is)
  (case c_l_answer=>k_is)
  (case k_l_answer=>k_is)
  (case a_law=>k_is)
  (case l_law=>k_is)
  (case c_law=>k_is)
  (case k_law=>k_is)
  (case a_BadPacking___init__=>k_is)
  (case i_BadPacking___init__=>k_is)
  (case l_BadPacking___init__=>k_is)
  (case c_BadPacking___init__=>k_is)
  (case k_BadPacking___init__=>k_is)
  (case z_ValueError=>k_is)
  (case z_any=>k_is)
  (case z_bool=>k_is)
  (case z_enumerate=>k_is)
  (case z_int=>k_is)
  (case z_isinstance=>k_is)
  (case z_len=>k_is)
  (case z_list=>k_is)
  (case z_range=>k_is)
  (case z_reversed=>k_is)
  (case z_set=>k_is)
  (case z_sorted=>k_is)
  (case z_tuple=>k_is)
  (case z_zip=>k_is)
  (case m_BadPlan=>k_is)
  (case m_BadSide=>k_is)
  (case m_BadTurn=>k_is)
  (case m_CrateError=>k_is)
  (case m_Full=>k_is)
  (case m_Hangs=>k_is)
  (case m_NoDeed=>k_is)
  (case m_NoDrawing=>k_is)
  (case m_NoPicker=>k_is)
  (case m_NoSheet=>k_is)
  (case m_NoText=>k_is)
  (case m_NoWare=>k_is)
  (case m_NoWeighing=>k_is)
  (case m_NothingDone=>k_is)
  (case m_Ring=>k_is)
  (case m_TooMany=>k_is)
  (case m_TooWide=>k_is)
  (case xo_BadPacking=>kernel_rfl)
  (case xa_BadPacking=>k_is)
  (case xm_BadPacking=>kernel_rfl)
  (case xq_BadPacking=>k_is)
  (case x_BadTurn=>kernel_rfl)
  (case t_exc_BadPacking1=>k_is)
  (case t_exc_BadPacking2=>k_is)
  (case t_exc_BadPacking3=>k_is)
  (case t_exc_BadPacking4=>k_is)
  (case t_exc_BadPacking5=>k_is)
  (case t_exc_BadTurn1=>k_is)
  (case t_exc_BadTurn2=>k_is)
  (case t_exc_BadTurn3=>k_is)
  (case t_exc_BadTurn4=>k_is)
  (case t_exc_BadTurn5=>k_is)
  (case hd_BadPacking=>k_is)
  (case xn_BadPacking=>k_is)
  (case t_any_BadPacking_0=>kit_is)
  (case t_any_BadPacking_1=>kit_is)
  (case t_one_BadPacking_BadPacking=>kit_is)
  (case t_one_BadPacking_ValueError=>kit_is)
  (case t_exo_BadPacking_CrateError=>kts_exm)
  (case t_any_BadTurn_0=>kit_is)
  (case t_any_BadTurn_1=>kit_is)
  (case t_one_BadTurn_BadPacking=>kit_is)
  (case t_one_BadTurn_ValueError=>kit_is)
  (case t_exo_BadTurn_CrateError=>kts_exm)
