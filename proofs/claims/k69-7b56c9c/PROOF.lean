import PyProof.Rows.All
import Wide.All
import OpenK.AllK
import Wide.FinOn
import Lean
import PyProof.EqAt
import PyProof.EqKinds
import PyProof.TupleCall
import KE.KLam
import KE.KSortKey
import PyProof.ListRange
import PyProof.CollectIter
import PyProof.Rows.RuleB_bool
import PySem.Challenge.RW_cratefit_k69_no_sheet
set_option Elab.async false
set_option linter.all false
set_option maxRecDepth 100000
set_option hygiene false
namespace L2
open PySem PySem.Spec PyProof.Rows
abbrev x6:=Sum Int Str
def a8J:x6→Value→Bool
 | .inl k,v=>Value.isInt k v
 | .inr x,v=>Value.isStrOf x v
def b2J(w:World):x6→Int
 | .inl k=>hashInt k
 | .inr x=>hashStr w x
theorem A0:∀{k:x6} {v:Value},a8J k v=true→(∃i t,k=Sum.inl i∧v=Value.int i t)∨(∃x t,k=Sum.inr x∧v=Value.str x t)
 | .inl i,v,h=>by
  obtain⟨t,e⟩:=Value.isInt_shape (k:=i) (v:=v) h
  exact .inl ⟨i,t,rfl,e⟩
 | .inr x,v,h=>by
  obtain⟨t,e⟩:=Value.isStrOf_shape (x:=x) (v:=v) h
  exact .inr ⟨x,t,rfl,e⟩
theorem b00(a b:Int):decide ((Sum.inl a:x6)=Sum.inl b)=(a == b):=by
 by_cases e:a=b
 ·subst e;simp
 ·have h:¬(Sum.inl a:x6)=Sum.inl b:=fun q=>e (Sum.inl.inj q)
  rw[decide_eq_false h]
  exact(beq_eq_false_iff_ne.mpr e).symm
theorem b01(a b:Str):decide ((Sum.inr a:x6)=Sum.inr b)=decide (a=b):=by
 by_cases e:a=b
 ·subst e;simp
 ·have h:¬(Sum.inr a:x6)=Sum.inr b:=fun q=>e (Sum.inr.inj q)
  rw[decide_eq_false h,decide_eq_false e]
theorem b02(a:Int)(b:Str):decide ((Sum.inl a:x6)=Sum.inr b)=false:=decide_eq_false (fun q=>nomatch q)
theorem b03(a:Str)(b:Int):decide ((Sum.inr a:x6)=Sum.inl b)=false:=decide_eq_false (fun q=>nomatch q)
def a4W(prog:Program)(w:World):PySem.KeyKind prog w x6 where
 is:=a8J
 hash:=b2J w
 inj:=fun v a b ha hb=>by
  rcases A0 ha with⟨i,t,rfl,rfl⟩ | ⟨x,t,rfl,rfl⟩
  ·rcases A0 hb with⟨j,u,rfl,e⟩ | ⟨y,u,rfl,e⟩
   ·injection e with e1 _;rw[e1]
   ·exact nomatch e
  ·rcases A0 hb with⟨j,u,rfl,e⟩ | ⟨y,u,rfl,e⟩
   ·exact nomatch e
   ·injection e with e1 _;rw[e1]
 byValue:=fun k v h=>by
  rcases A0 h with⟨i,t,rfl,rfl⟩ | ⟨x,t,rfl,rfl⟩<;>rfl
 pyHash:=fun hv h=>by
  rcases A0 hv with⟨i,t,rfl,rfl⟩ | ⟨x,t,rfl,rfl⟩
  ·exact wpAny_pyHash_int h
  ·exact wpAny_pyHash_str h
 eqBool:=fun hu hv h=>by
  rcases A0 hu with⟨i,t,rfl,rfl⟩ | ⟨x,t,rfl,rfl⟩
  ·rcases A0 hv with⟨j,u,rfl,rfl⟩ | ⟨y,u,rfl,rfl⟩
   ·rw[b00]at h;exact wpAny_eqBool_int h
   ·rw[b02]at h;exact SeqAt.EqAt.int_str i t y u _ _ _ _ h
  ·rcases A0 hv with⟨j,u,rfl,rfl⟩ | ⟨y,u,rfl,rfl⟩
   ·rw[b03]at h;exact SeqAt.EqAt.str_int x t j u _ _ _ _ h
   ·rw[b01]at h;exact wpAny_eqBool_str h
 «strs» := fun k x t v h=>by
  rcases A0 h with⟨i,u,rfl,e⟩ | ⟨y,u,rfl,e⟩
  ·exact nomatch e
  ·injection e with e1 _
   subst e1
   cases v<;>rfl
inductive V where
 | non | bl (b:Bool) | int (i:Int) | str (x:Str) | byt (b:Array UInt8) | flt (b:UInt64) | ref (a:Addr) | ty (n:String)
 deriving DecidableEq
def RelV:V→Value→Prop
 | .non,u=>u=Value.none
 | .bl b,u=>u=Value.bool b
 | .int i,u=>∃t,u=Value.int i t
 | .str x,u=>∃t,u=Value.str x t
 | .byt b,u=>∃t,u=Value.bytes b t
 | .flt b,u=>∃t,u=Value.float b t
 | .ref a,u=>u=Value.ref a
 | .ty n,u=>u=Value.type n
abbrev Vals:List V→List Value→Prop:=Paired RelV
theorem Vals.length{xs:List V}{us:List Value}(r:Vals xs us):xs.length=us.length:=Paired.length r
theorem Vals.get:∀{xs:List V} {us:List Value} {i:Nat} {x:V},Vals xs us→xs[i]? = some x→∃u,us[i]? = some u∧RelV x u
 | _,_,_,_,.nil,e=>by simp at e
 | _,_,0,_,.cons r _,e=>by simp at e;subst e;exact⟨_,rfl,r⟩
 | _,_,i+1,x,.cons _ t,e=>by
  obtain⟨u,h1,h2⟩:=Vals.get (i:=i) (x:=x) t (by simpa using e)
  exact⟨u,by simpa using h1,h2⟩
theorem Vals.set{x:V}{u:Value}(r:RelV x u):∀{xs:List V} {us:List Value} (i:Nat),Vals xs us→Vals (xs.set i x) (us.set i u)
 | _,_,_,.nil=>.nil
 | _,_,0,.cons _ t=>.cons r t
 | _,_,i+1,.cons q t=>.cons q (Vals.set r i t)
theorem Vals.append:∀{xs ys:List V} {us ws:List Value},Vals xs us→Vals ys ws→Vals (xs++ys) (us++ws)
 | _,_,_,_,.nil,s=>s
 | _,_,_,_,.cons r t,s=>.cons r (Vals.append t s)
theorem Vals.take:∀{xs:List V} {us:List Value} (n:Nat),Vals xs us→Vals (xs.take n) (us.take n)
 | _,_,0,_=>.nil
 | _,_,_+1,.nil=>.nil
 | _,_,n+1,.cons r t=>.cons r (Vals.take n t)
theorem Vals.drop:∀{xs:List V} {us:List Value} (n:Nat),Vals xs us→Vals (xs.drop n) (us.drop n)
 | _,_,0,r=>r
 | _,_,_+1,.nil=>.nil
 | _,_,n+1,.cons _ t=>Vals.drop n t
def RelO:Option V→Option Value→Prop
 | some v,some u=>RelV v u
 | none,none=>True
 | _,_=>False
def KV{κ:Type}:List (κ×V)→List (κ×Value)→Prop:=Paired fun(p:κ×V) (q:κ×Value)=>p.1=q.1∧RelV p.2 q.2
def kV:x6→V
 | .inl i=>.int i
 | .inr x=>.str x
inductive HO where
 /-- a list -/
 | lst (xs:List V)
 /-- a tuple (never changes) -/
 | tup (xs:List V)
 /-- a dict whose keys are ints and texts; one whose keys are tuples of ints and texts (the empty one is both) -/
 | dK (kvs:List (x6×V)) | dT (kvs:List (List x6×V))
 /-- a set of ints: its members, its size -/
 | set (S:Int→Bool) (n:Nat)
 /-- an instance of the class at C, its dict at dx, its attributes -/
 | ins (C dx:Addr) (fs:List (Str×V))
 /-- the dict of the instance at x -/
 | own (x:Addr)
 /-- the dict of an exception -/
 | xd (fs:List (Str×V))
 /-- a bound method, f of x -/
 | met (f x:Addr)
 /-- a range object lo, lo + 1, .. below hi -/
 | rng (lo hi:Int)
 /-- a thing that is known to the object (the script; a dict while a loop walks it): read, never written while it is so -/
 | frz (o:Obj) (u:HO)
 /-- a code object's table -/
 | tbl (ps:Array Value)
 /-- any other thing, by what is true of its one object (a def of one's own: SetO a S n := HO.ext fun h => ..) -/
 | ext (φ:Heap→Prop)
abbrev Hp:=Addr→Option HO
def upd(H:Hp)(a:Addr)(o:HO):Hp:=fun b=>if b=a then some o else H b
theorem i8{H:Hp}{a:Addr}{o:HO}:upd H a o a=some o:=by unfold upd;rw[if_pos rfl]
theorem b9{H:Hp}{a b:Addr}{o:HO}(h:b≠a):upd H a o b=H b:=by unfold upd;rw[if_neg h]
theorem b2d{H:Hp}{a b:Addr}{o u:HO}(h:H a=some o)(h':H b=some u)(d:o≠u):a≠b:=by
 intro e;subst e;rw[h]at h';exact d (Option.some.inj h')
theorem l6{H:Hp}{a b:Addr}{o:HO}(h:H a=some o)(h':H b=none):a≠b:=by
 intro e;subst e;rw[h]at h';cases h'
section
variable (P:Program)(w:World)
def ObjOk(H:Hp)(h:Heap)(a:Addr):HO→Prop
 | .lst xs=>xs.length≤sizeLine∧∃(its:List Value) (n:Nat),Vals xs its∧h.get? a=some { cls:=.type "list",data:=.seq its.toArray n }
 | .tup xs=>xs.length≤sizeLine∧∃its:List Value,Vals xs its∧IsTup h a its.toArray
 | .dK kvs=>kvs.length≤sizeLine∧(a == sysModules)=false∧∃vs,KV kvs vs∧h.DictOf (a4W P w) a vs
 | .dT kvs=>kvs.length≤sizeLine∧(a == sysModules)=false∧∃xs:List (List x6×Addr×Value),
   Paired (fun(p:List x6×V) (q:List x6×Addr×Value)=>p.1=q.1∧H q.2.1=some (.tup (p.1.map kV))∧RelV p.2 q.2.2) kvs xs ∧
   ∃o es ep,h.get? a=some o∧o.ExactDict∧o.data=.dict es ep∧es.toList=xs.map (entryOfKey (tupleKind (a4W P w)))∧(xs.map (·.1)).Nodup
 | .set S n=>h.SetOf (intKind P w) a S n
 | .ins C dx fs=>H dx=some (.own a)∧fs.length≤1000∧dx≠a∧h.get? a=some (W.instObj C dx) ∧
   ∃mA,h.Ns1 dx mA∧(∀f,RelO (fs.lookup f) (mA f))∧PySem.Within mA (fs.map (·.1))
 | .own _=>∃o,h.get? a=some o
 | .xd fs=>∃mA,h.Ns1 a mA∧∀f,RelO (fs.lookup f) (mA f)
 | .rng lo hi=>∃t u v,h.get? a=some { cls:=.type "range",data:=.fields #[.int lo t,.int hi u,.int 1 v] }
 | .frz o u=>h.get? a=some o∧ObjOk H h a u
 | .tbl qs=>∃ps:Array Value,h.get? a=some { cls:=.none,data:=.fields ps }∧TriplesOk ps.toList∧∀pos cv,codeAmong pos ps.toList=some cv→∃c oc u,cv=Value.ref c∧H c=some (.frz oc u)∧∃vs q t t2,oc.data=.fields vs∧vs[1]? = some (Value.str q t2)∧qs[0]? = some (Value.str q t)
 | .met f x=>h.get? a=some (W.methodObj (.ref f) (.ref x))
 | .ext φ=>φ h∧(∃o,h.get? a=some o)∧∀h1 h2:Heap,φ h1→(∀o,h1.get? a=some o→h2.get? a=some o)→φ h2
def HOk(H:Hp)(h:Heap):Prop:=∀a o,H a=some o→ObjOk P w H h a o
end
section
variable {P:Program}{w:World}{H H':Hp}{h h':Heap}{a:Addr}{o:HO}
theorem ObjOk.lt(x:ObjOk P w H h a o):a<h.objs.size:=by
 cases o with
 | lst xs=>obtain⟨_,_,_,_,e⟩:=x;exact Heap.lt_size e
 | tup xs=>obtain⟨_,_,_,p⟩:=x;exact p.lt
 | dK kvs=>obtain⟨_,_,_,_,o,_,_,e,_⟩:=x;exact Heap.lt_size e
 | dT kvs=>obtain⟨_,_,_,_,o,_,_,e,_⟩:=x;exact Heap.lt_size e
 | set S n=>obtain⟨o,_,_,_,e,_⟩:=x;exact Heap.lt_size e
 | ins C dx fs=>obtain⟨_,_,_,e,_⟩:=x;exact Heap.lt_size e
 | own y=>obtain⟨_,e⟩:=x;exact Heap.lt_size e
 | xd fs=>obtain⟨_,⟨_,_,_,e,_⟩,_⟩:=x;exact Heap.lt_size e
 | rng lo hi=>obtain⟨_,_,_,e⟩:=x;exact Heap.lt_size e
 | frz ob u=>obtain⟨e,_⟩:=x;exact Heap.lt_size e
 | tbl ps=>obtain⟨_,e,_⟩:=x;exact Heap.lt_size e
 | met f y=>exact Heap.lt_size (show h.get? a=some _ from x)
 | ext φ=>obtain⟨_,⟨_,e⟩,_⟩:=x;exact Heap.lt_size e
theorem Paired.mapP{α β:Type}{F G:α→β→Prop}:∀{l₁:List α} {l₂:List β},Paired F l₁ l₂→(∀a b,F a b→G a b)→Paired G l₁ l₂
 | _,_,.nil,_=>.nil
 | _,_,.cons r t,f=>.cons (f _ _ r) (Paired.mapP t f)
theorem ObjOk.stay(x:ObjOk P w H h a o)(k:∀b u,(b=a∨H b=some (.own a))→h.get? b=some u→h'.get? b=some u)
  (ho:∀b,H b=some (.own a)→H' b=some (.own a)) (ht:∀b xs,H b=some (.tup xs)→H' b=some (.tup xs)) (hz:∀b ob u,H b=some (.frz ob u)→H' b=some (.frz ob u)):ObjOk P w H' h' a o:=by
 induction o with
 | lst xs=>obtain⟨z,its,n,r,e⟩:=x;exact⟨z,its,n,r,k _ _ (.inl rfl) e⟩
 | tup xs=>obtain⟨z,its,r,ob,e,c⟩:=x;exact⟨z,its,r,ob,k _ _ (.inl rfl) e,c⟩
 | dK kvs=>obtain⟨z,y,vs,r,ob,es,ep,e,c⟩:=x;exact⟨z,y,vs,r,ob,es,ep,k _ _ (.inl rfl) e,c⟩
 | dT kvs =>
  obtain⟨z,y,xs,r,ob,es,ep,e,c⟩:=x
  exact⟨z,y,xs,Paired.mapP r fun p q z=>⟨z.1,ht _ _ z.2.1,z.2.2⟩,ob,es,ep,k _ _ (.inl rfl) e,c⟩
 | set S n=>obtain⟨ob,es,ep,t,e,c⟩:=x;exact⟨ob,es,ep,t,k _ _ (.inl rfl) e,c⟩
 | ins C dx fs =>
  obtain⟨d,z,ne,e,mA,⟨od,es,ep,e2,c⟩,r⟩:=x
  exact⟨ho _ d,z,ne,k _ _ (.inl rfl) e,mA,⟨od,es,ep,k _ _ (.inr d) e2,c⟩,r⟩
 | own y=>obtain⟨ob,e⟩:=x;exact⟨ob,k _ _ (.inl rfl) e⟩
 | xd fs=>obtain⟨mA,⟨od,es,ep,e,c⟩,r⟩:=x;exact⟨mA,⟨od,es,ep,k _ _ (.inl rfl) e,c⟩,r⟩
 | rng lo hi=>obtain⟨t,u,v,e⟩:=x;exact⟨t,u,v,k _ _ (.inl rfl) e⟩
 | frz ob u ih=>obtain⟨e,q⟩:=x;exact⟨k _ _ (.inl rfl) e,ih q⟩
 | tbl qs =>
  obtain⟨ps,e,tr,al⟩:=x
  refine⟨ps,k a _ (.inl rfl) e,tr,fun pos cv q=>?_⟩
  obtain⟨c,oc,u,e1,e3,r⟩:=al pos cv q
  exact⟨c,oc,u,e1,hz _ _ _ e3,r⟩
 | met f y =>
  have e:h.get? a=some (W.methodObj (.ref f) (.ref y)):=x
  show h'.get? a=some (W.methodObj (.ref f) (.ref y))
  exact k a _ (.inl rfl) e
 | ext φ=>obtain⟨p,⟨o,e⟩,st⟩:=x;exact⟨st _ _ p fun o q=>k _ _ (.inl rfl) q,⟨o,k _ _ (.inl rfl) e⟩,st⟩
theorem HOk.lt(x:HOk P w H h)(e:H a=some o):a<h.objs.size:=(x a o e).lt
theorem HOk.fresh(x:HOk P w H h)(e:h.objs.size≤a):H a=none:=by
 cases q:H a with
 | none=>rfl
 | some u=>exact absurd (Nat.lt_of_lt_of_le (x.lt q) e) (Nat.lt_irrefl _)
theorem HOk.kept(x:HOk P w H h)(k:∀b u,h.get? b=some u→h'.get? b=some u):HOk P w H h':=fun a o e =>
 (x a o e).stay (fun b u _ q=>k b u q) (fun _ q=>q) (fun _ _ q=>q) fun _ _ _ q=>q
theorem HOk.laid(x:HOk P w H h)(k:∀b u,h.get? b=some u→h'.get? b=some u)(hp:h.objs.size≤a)(new:ObjOk P w (upd H a o) h' a o):HOk P w (upd H a o) h':=fun b u e=>by
 have hn:=x.fresh hp
 by_cases hb:b=a
 ·subst hb;rw[i8]at e;cases e;exact new
 ·rw[b9 hb]at e
  exact(x b u e).stay (fun c v _ q=>k c v q) (fun c q=>by rw[b9 (l6 q hn)];exact q) (fun c xs q=>by rw[b9 (l6 q hn)];exact q) fun c ob u q=>by rw[b9 (l6 q hn)];exact q
end
def Rd(H:Hp)(a:Addr)(u:HO):Prop:=H a=some u∨∃o,H a=some (.frz o u)
theorem Rd.of{H:Hp}{a:Addr}{u:HO}(h:H a=some u):Rd H a u:=.inl h
theorem Rd.ok{P:Program}{w:World}{H:Hp}{h:Heap}{a:Addr}{u:HO}(r:Rd H a u)(x:HOk P w H h):ObjOk P w H h a u:=by
 rcases r with r | ⟨o,r⟩
 ·exact x a u r
 ·obtain⟨_,q⟩:=x a _ r
  exact q
def Mut:Option HO→Prop
 | some (.lst _)=>True
 | some (.dK _)=>True
 | some (.dT _)=>True
 | some (.set _ _)=>True
 | some (.ins _ _ _)=>True
 | some (.ext _)=>True
 | _=>False
section
variable {P:Program}{w:World}{H:Hp}{h h':Heap}{x e:Addr}{o':HO}
theorem HOk.write(ok:HOk P w H h)(mu:Mut (H x))(he:e=x∨H e=some (.own x))(k:∀b u,b≠e→h.get? b=some u→h'.get? b=some u)(heo:∃u,h'.get? e=some u)
  (new:ObjOk P w (upd H x o') h' x o'):HOk P w (upd H x o') h':=fun b u q=>by
 have nown:∀c y,H c=some (.own y)→c≠x:=fun c y r z=>by subst z;rw[r]at mu;exact mu
 have ntup:∀c xs,H c=some (.tup xs)→c≠x:=fun c xs r z=>by subst z;rw[r]at mu;exact mu
 by_cases hb:b=x
 ·subst hb;rw[i8]at q;cases q;exact new
 ·rw[b9 hb]at q
  by_cases hbe:b=e
  ·have q':H b=some (.own x):=by
    rcases he with z | z
    ·exact absurd (hbe.trans z) hb
    ·rw[hbe];exact z
   rw[q]at q';cases q'
   obtain⟨v,hv⟩:=heo
   exact⟨v,by rw[hbe];exact hv⟩
  ·refine(ok b u q).stay (fun c v hc r=>k c v ?_ r) (fun c r=>by rw[b9 (nown c b r)];exact r) (fun c xs r=>by rw[b9 (ntup c xs r)];exact r) fun c ob u r=>by rw[b9 (fun z=>by subst z;rw[r]at mu;exact mu)];exact r
   rcases hc with rfl | hc
   ·exact hbe
   ·rintro rfl
    rcases he with z | z
    ·exact nown c b hc z
    ·rw[hc]at z;cases z;exact hb rfl
end
structure Un(fs ex:List Addr)(H H':Hp)(h h':Heap):Prop where
 keep:∀b o,h.get? b=some o→H b=none→b ∉ fs→b ∉ ex→h'.get? b=some o
 slot:∀b o,h.get? b=some o→H b=none→b∈fs→b ∉ ex→∃sl,h'.get? b=some { o with slots:=sl }
 free:∀b o,h.get? b=some o→H b=none→b ∉ ex→H' b=none
 there:∀b o,h.get? b=some o→b ∉ ex→∃o',h'.get? b=some o'
 tups:∀b xs,H b=some (.tup xs)→H' b=some (.tup xs)
 frzs:∀b o u,H b=some (.frz o u)→H' b=some (.frz o u)
 tbls:∀b ps,H b=some (.tbl ps)→∃more,H' b=some (.tbl (ps++more))
section
variable {fs fs' ex ex':List Addr}{H H1 H2:Hp}{h h1 h2 h':Heap}{a x e:Addr}{o:HO}
theorem Un.any(u:Un fs ex H H1 h h1){b:Addr}{ob:Obj}(q:h.get? b=some ob)(n:H b=none)(hx:b ∉ ex):∃sl,h1.get? b=some { ob with slots:=sl }:=by
 by_cases hb:b∈fs
 ·exact u.slot b ob q n hb hx
 ·exact⟨ob.slots,u.keep b ob q n hb hx⟩
theorem Un.trans(a:Un fs ex H H1 h h1)(b:Un fs ex H1 H2 h1 h2):Un fs ex H H2 h h2 where
 keep:=fun c ob q n hc hx=>b.keep c ob (a.keep c ob q n hc hx) (a.free c ob q n hx) hc hx
 slot:=fun c ob q n hc hx=>by
  obtain⟨sl,e1⟩:=a.slot c ob q n hc hx
  obtain⟨sl',e2⟩:=b.slot c _ e1 (a.free c ob q n hx) hc hx
  exact⟨sl',e2⟩
 free:=fun c ob q n hx=>by
  obtain⟨o',e1⟩:=a.there c ob q hx
  exact b.free c o' e1 (a.free c ob q n hx) hx
 there:=fun c ob q hx=>by
  obtain⟨o',e1⟩:=a.there c ob q hx
  exact b.there c o' e1 hx
 tups:=fun c xs q=>b.tups c xs (a.tups c xs q)
 frzs:=fun c ob xs q=>b.frzs c ob xs (a.frzs c ob xs q)
 tbls:=fun c ps q=>by
  obtain⟨m1,e1⟩:=a.tbls c ps q
  obtain⟨m2,e2⟩:=b.tbls c _ e1
  exact⟨m1++m2,by rw[e2,Array.append_assoc]⟩
theorem Un.kept(k:∀b u,h.get? b=some u→h'.get? b=some u):Un fs ex H H h h' :=
 ⟨fun b ob q _ _ _=>k b ob q,fun b ob q _ _ _=>⟨ob.slots,k b ob q⟩,fun _ _ _ n _=>n,fun b ob q _=>⟨ob,k b ob q⟩,fun _ _ q=>q,fun _ _ _ q=>q,fun _ ps q=>⟨#[],by rw[q];simp⟩⟩
theorem Un.refl:Un fs ex H H h h:=Un.kept fun _ _ q=>q
theorem Un.laid(k:∀b u,h.get? b=some u→h'.get? b=some u)(hp:h.objs.size≤a)(hn:H a=none):Un fs ex H (upd H a o) h h' where
 keep:=fun b u q _ _ _=>k b u q
 slot:=fun b u q _ _ _=>⟨u.slots,k b u q⟩
 free:=fun b u q n _=>by rw[b9 (Nat.ne_of_lt (Nat.lt_of_lt_of_le (Heap.lt_size q) hp))];exact n
 there:=fun b u q _=>⟨u,k b u q⟩
 tups:=fun b xs q=>by rw[b9 (l6 q hn)];exact q
 frzs:=fun b u xs q=>by rw[b9 (l6 q hn)];exact q
 tbls:=fun b ps q=>⟨#[],by rw[b9 (l6 q hn),q];simp⟩
theorem Un.write(mu:Mut (H x))(he:e=x∨H e=some (.own x))(k:∀b u,b≠e→h.get? b=some u→h'.get? b=some u)(heo:∃u,h'.get? e=some u):Un fs ex H (upd H x o) h h':=by
 have hx:∀b,H b=none→b≠x:=fun b n z=>by subst z;rw[n]at mu;exact mu
 have hb:∀b,H b=none→b≠e:=fun b n z=>by
  subst z
  rcases he with r | r
  ·exact hx b n r
  ·rw[n]at r;cases r
 have hm:∀b u,H b=some u→¬Mut (some u)→b≠x:=fun b u q nm z=>by subst z;rw[q]at mu;exact nm mu
 refine⟨fun b u q n _ _=>k b u (hb b n) q,fun b u q n _ _=>⟨u.slots,k b u (hb b n) q⟩,fun b u q n _=>by rw[b9 (hx b n)];exact n,fun b u q _=>?_,
  fun b xs q=>by rw[b9 (hm b _ q fun z=>z)];exact q,fun b u xs q=>by rw[b9 (hm b _ q fun z=>z)];exact q,fun b ps q=>⟨#[],by rw[b9 (hm b _ q fun z=>z),q];simp⟩⟩
 by_cases hbe:b=e
 ·subst hbe;exact heo
 ·exact⟨u,k b u hbe q⟩
theorem Un.mono(u:Un fs ex H H1 h h1)(hs:∀b∈fs,b∈fs')(hx:∀b∈ex,b∈ex'):Un fs' ex' H H1 h h1 :=
 ⟨fun b ob q n hb he=>u.keep b ob q n (fun z=>hb (hs b z)) fun z=>he (hx b z),fun _ _ q n _ he=>u.any q n fun z=>he (hx _ z),fun b ob q n he=>u.free b ob q n fun z=>he (hx b z),fun b ob q he=>u.there b ob q fun z=>he (hx b z),u.tups,u.frzs,u.tbls⟩
end
def trk(h:Heap)(H:Hp):List Addr:=(List.range h.objs.size).filter fun a=>(H a).isSome
def Z9(h:Heap)(H:Hp):Heap:=W.hideAll h (trk h H)
theorem a6s(h:Heap)(H:Hp):(Z9 h H).objs.size=h.objs.size:=W.hideAll_size _ _
theorem a7k{h:Heap}{H:Hp}{b:Addr}{o:Obj}(e:h.get? b=some o)(n:H b=none):(Z9 h H).get? b=some o :=
 W.hideAll_get _ e fun hm=>by
  have q:(H b).isSome=true:=(List.mem_filter.mp hm).2
  rw[n]at q;simp at q
theorem a9i{h:Heap}{H:Hp}{b:Addr}{o:Obj}(e:(Z9 h H).get? b=some o):h.get? b=some o∧H b=none:=by
 have e':h.get? b=some o:=W.of_hideAll (trk h H) e
 refine⟨e',?_⟩
 cases q:H b with
 | none=>rfl
 | some x =>
  have hm:b∈trk h H:=List.mem_filter.mpr ⟨List.mem_range.mpr (Heap.lt_size e'),by simp[q]⟩
  have z:(Z9 h H).get? b=none:=W.hideAll_none (trk h H) hm
  rw[z]at e;cases e
def a9j(g h:Heap)(L:Addr):List (Addr×Obj):=(List.range h.objs.size).filterMap fun a=>if a=L∨(g.get? a).isSome=true then none else(h.get? a).map fun o=>(a,o)
def j6(g h:Heap)(L d:Addr):List (Addr×Obj):=(a9j g h L).filter fun p=>decide (p.1≠d)
structure Mod(K:W.Frag)(mg:Str→Option Value)(base:Heap):Prop where
 kin:K.In base
 glob:base.Ns mainGlobals mg
 blt:∃mb,base.Ns builtinsNs mb∧∀x:Str,x≠"__name__"→mb x=bootBuiltins x
 nolimit:base.NoLimit
structure Cx where
 prog:Program
 w:World
 K:W.Frag
 mg:Str→Option Value
 base:Heap
 A:Around
 N:List Str
 s₀:Shared
 H₀:Hp
 env:Env
 outer:List Env
 stack:List Env
 ex:List Addr
 fn:Str→Bool
 calm:Bool
 pn:List (Addr×Obj)
 xe:Value→Shared→Prop
def C5(l:List Env):List Addr:=l.filterMap (·.frame)
abbrev Cx.fs(X:Cx):List Addr:=C5 X.outer
def Vis(sc:Scope)(x:Str):Prop:=sc.names.lookup x=some .local∨sc.names.lookup x=some .cell∨sc.names.lookup x=some .free
def Loc(sc:Scope)(x:Str):Prop:=sc.names.lookup x=some .local∨sc.names.lookup x=some .cell
def b2K(env:Env)(h:Heap)(m:Str→Option Value)(x:Str)(u:Value):Prop :=
 (env.kindOf x=some .local∧m x=some u)∨((env.kindOf x=some .cell∨env.kindOf x=some .free)∧∃c,env.cells.lookup x=some c∧h.IsCell c (some u))
structure Cx.Ok(X:Cx):Prop where
 mod:Mod X.K X.mg X.base
 kind:X.env.scope.kind=.function
 glob:X.env.globals=mainGlobals
 blt:X.env.builtins=builtinsNs
 above:X.s₀.heap.objs.size≤X.env.locals
 inj:∀x y c,X.env.cells.lookup x=some c→X.env.cells.lookup y=some c→x=y
 has:∀x,(X.env.kindOf x=some .cell∨X.env.kindOf x=some .free)→∃c,X.env.cells.lookup x=some c
 cab:∀x c,X.fn x=true→X.env.cells.lookup x=some c→X.s₀.heap.objs.size≤c
 hd:X.calm=true→X.A.handled=none
 frames:X.A.frames=some X.stack
 stk:X.stack=X.outer∨(X.stack=X.env::X.outer∧X.env.frame=some X.env.locals)
 exf:∀b∈X.ex,b≠X.env.locals∧∀x c,X.env.cells.lookup x=some c→c≠b
 bs:∀b o,X.base.get? b=some o→X.s₀.heap.get? b=some o∧X.H₀ b=none
 bsz:X.base.objs.size≤X.s₀.heap.objs.size
 noex:∀b o,X.base.get? b=some o→b ∉ X.ex
 exfs:∀b∈X.ex,b ∉ X.fs
 funs:X.s₀.heap.FunFrames X.base X.outer
 frf:∀b∈X.fs,X.H₀ b=none
structure Inv(X:Cx)(pins:List (Addr×Obj))(σ:List (Option V))(H:Hp)(s:Shared):Prop where
 ok:X.Ok
 os:s.os=X.s₀.os
 bare:AllBare s.gens
 base:Un X.fs X.ex X.H₀ H X.s₀.heap s.heap
 loc:∃m,s.heap.Ns X.env.locals m∧∀(i:Nat) (x:Str) (v:V),X.N[i]? = some x→σ[i]? = some (some v)→Vis X.env.scope x→∃u,RelV v u∧b2K X.env s.heap m x u
 cell:∀x c,X.env.cells.lookup x=some c→∃v,s.heap.IsCell c v
 free:H X.env.locals=none
 freeC:∀x c,X.env.cells.lookup x=some c→H c=none
 pin:∀p∈X.pn++pins,s.heap.get? p.1=some p.2∧H p.1=none∧p.1≠X.env.locals∧p.1 ∉ X.fs∧∀v,p.2.data≠.cell v
 hok:HOk X.prog X.w H s.heap
 len:σ.length=X.N.length
section
variable {X:Cx}{pins:List (Addr×Obj)}{σ:List (Option V)}{H H':Hp}{s:Shared}{h':Heap}
theorem Cx.Ok.nofr(ok:X.Ok){b:Addr}{o:Obj}(e:X.base.get? b=some o):b ∉ X.fs:=fun hb=>by
 have:=(ok.funs.mem hb).1
 rw[e]at this;cases this
theorem Inv.bs(I:Inv X pins σ H s):∀b o,X.base.get? b=some o→s.heap.get? b=some o∧H b=none:=fun b o e =>
 ⟨I.base.keep b o (I.ok.bs b o e).1 (I.ok.bs b o e).2 (I.ok.nofr e) (I.ok.noex b o e),I.base.free b o (I.ok.bs b o e).1 (I.ok.bs b o e).2 (I.ok.noex b o e)⟩
theorem Inv.bk(I:Inv X pins σ H s):∀b o,X.base.get? b=some o→s.heap.get? b=some o:=fun b o e=>(I.bs b o e).1
theorem Inv.mod(I:Inv X pins σ H s):Mod X.K X.mg X.base:=I.ok.mod
theorem Inv.kIn(I:Inv X pins σ H s):X.K.In s.heap:=I.ok.mod.kin.keeps I.bk
theorem Inv.nolimit(I:Inv X pins σ H s):s.heap.NoLimit:=I.ok.mod.nolimit.keeps I.bk
theorem Inv.fr(I:Inv X pins σ H s):∃m,Fr X.base X.env.locals s.heap m :=
 let ⟨m,hn,_⟩:=I.loc
 ⟨m,hn,I.bk,Nat.le_trans I.ok.bsz I.ok.above⟩
theorem Inv.lt(I:Inv X pins σ H s):X.env.locals<s.heap.objs.size:=let ⟨_,hn,_⟩:=I.loc;hn.lt
theorem Inv.sz(I:Inv X pins σ H s):X.s₀.heap.objs.size≤s.heap.objs.size:=Nat.le_trans I.ok.above (Nat.le_of_lt I.lt)
theorem Inv.nofs(I:Inv X pins σ H s){a:Addr}(h:s.heap.objs.size≤a):a ∉ X.fs:=fun hb=>by
 obtain⟨_,o,ho,_⟩:=I.ok.funs.mem hb
 exact absurd (Nat.lt_of_lt_of_le (Heap.lt_size ho) (Nat.le_trans I.sz h)) (Nat.lt_irrefl _)
theorem Inv.cne(I:Inv X pins σ H s):∀x c,X.env.cells.lookup x=some c→c≠X.env.locals:=fun x c e z=>by
 obtain⟨v,o,ho,hd⟩:=I.cell x c e
 obtain⟨m,⟨o',es,ep,ho',hd',_⟩,_⟩:=I.loc
 rw[z,ho']at ho;cases ho;rw[hd']at hd;cases hd
theorem Inv.funs(I:Inv X pins σ H s):s.heap.FunFrames X.base X.outer:=by
 have all:∀(l:List Env),(∀b∈C5 l,b∈X.fs)→X.s₀.heap.FunFrames X.base l→s.heap.FunFrames X.base l:=by
  intro l
  induction l with
  | nil=>intro _ _;trivial
  | cons env r ih =>
   intro hs hl
   obtain⟨hk,⟨L,o,hf,hn,ho,hd⟩,hr⟩:=hl
   have hL:L∈X.fs:=hs L (by unfold C5;rw[List.filterMap_cons,hf];exact List.mem_cons_self)
   obtain⟨sl,e⟩:=I.base.slot L o ho (I.ok.frf L hL) hL fun z=>I.ok.exfs L z hL
   exact⟨hk,⟨L,_,hf,hn,e,hd⟩,ih (fun b hb=>hs b (by unfold C5;rw[List.filterMap_cons,hf];exact List.mem_cons_of_mem _ hb)) hr⟩
 exact all X.outer (fun _ hb=>hb) I.ok.funs
theorem Inv.stack(I:Inv X pins σ H s):s.heap.FunFrames X.base X.stack:=by
 rcases I.ok.stk with e | ⟨e,hf⟩
 ·rw[e];exact I.funs
 ·rw[e]
  obtain⟨m,hn,_⟩:=I.loc
  refine .cons (by rw[I.ok.kind];decide) hf hn ?_ I.funs
  exact Heap.get?_none_of_le (Nat.le_trans I.ok.bsz I.ok.above)
theorem Inv.stkSub(I:Inv X pins σ H s):∀b∈C5 X.stack,b∈X.env.locals::X.fs:=fun b hb=>by
 rcases I.ok.stk with e | ⟨e,hf⟩
 ·rw[e]at hb;exact List.mem_cons_of_mem _ hb
 ·rw[e]at hb
  unfold C5 at hb
  rw[List.filterMap_cons,hf]at hb
  exact hb
theorem Inv.stkFree(I:Inv X pins σ H s):∀b∈C5 X.stack,H b=none:=fun b hb=>by
 rcases List.mem_cons.mp (I.stkSub b hb)with e | hb
 ·rw[e];exact I.free
 ·obtain⟨_,o,ho,_⟩:=I.ok.funs.mem hb
  exact I.base.free b o ho (I.ok.frf b hb) fun z=>I.ok.exfs b z hb
theorem Inv.step{g':Array GenState}{t':Nat}{d':Drawn}{ch:List Addr}(I:Inv X pins σ H s)
  (hch:∀b∈ch,(b∈X.ex∨X.s₀.heap.objs.size≤b)∧b≠X.env.locals∧(∀x c,X.env.cells.lookup x=some c→c≠b)∧∀p∈X.pn++pins,p.1≠b)
  (keep:∀b o,b≠X.env.locals→b ∉ X.fs→b ∉ ch→s.heap.get? b=some o→H b=none→h'.get? b=some o)
  (slot:∀b o,b≠X.env.locals→b∈X.fs→b ∉ ch→s.heap.get? b=some o→H b=none→∃sl,h'.get? b=some { o with slots:=sl }) (free:∀b o,b ∉ ch→s.heap.get? b=some o→H b=none→H' b=none)
  (there:∀b o,b ∉ ch→s.heap.get? b=some o→∃o',h'.get? b=some o')
  (tups:∀b xs,H b=some (.tup xs)→H' b=some (.tup xs)) (frzs:∀b o u,H b=some (.frz o u)→H' b=some (.frz o u)) (tbls:∀b ps,H b=some (.tbl ps)→∃more,H' b=some (.tbl (ps++more)))
  (ns:∀m,s.heap.Ns X.env.locals m→h'.Ns X.env.locals m) (hok:HOk X.prog X.w H' h') (hg:AllBare g') :
  Inv X pins σ H' { s with heap:=h',gens:=g',drawn:=d',toks:=t' }:=by
 have neL:∀b o,X.s₀.heap.get? b=some o→b≠X.env.locals:=fun b o e=>Nat.ne_of_lt (Nat.lt_of_lt_of_le (Heap.lt_size e) I.ok.above)
 have neC:∀b o,X.s₀.heap.get? b=some o→b ∉ X.ex→b ∉ ch:=fun b o e hx hb=>by
  rcases(hch b hb).1 with z | z
  ·exact hx z
  ·exact absurd (Nat.lt_of_lt_of_le (Heap.lt_size e) z) (Nat.lt_irrefl _)
 have cellK:∀x c,X.env.cells.lookup x=some c→∀v,s.heap.IsCell c v→h'.IsCell c v:=fun x c e v ⟨o,ho,hd⟩=>by
  have nch:c ∉ ch:=fun z=>(hch c z).2.2.1 x c e rfl
  by_cases hc:c∈X.fs
  ·obtain⟨sl,q⟩:=slot c o (I.cne x c e) hc nch ho (I.freeC x c e)
   exact⟨_,q,hd⟩
  ·exact⟨o,keep c o (I.cne x c e) hc nch ho (I.freeC x c e),hd⟩
 refine⟨I.ok,I.os,hg,⟨fun b o e n hb hx=>?_,fun b o e n hb hx=>?_,fun b o e n hx=>?_,fun b o e hx=>?_,fun b xs e=>tups b xs (I.base.tups b xs e),fun b o xs e=>frzs b o xs (I.base.frzs b o xs e),fun b ps e=>?_⟩,?_,fun x c e=>?_,?_,fun x c e=>?_,fun p hp=>?_,hok,I.len⟩
 ·exact keep b o (neL b o e) hb (neC b o e hx) (I.base.keep b o e n hb hx) (I.base.free b o e n hx)
 ·obtain⟨sl,e1⟩:=I.base.slot b o e n hb hx
  obtain⟨sl',e2⟩:=slot b _ (neL b o e) hb (neC b o e hx) e1 (I.base.free b o e n hx)
  exact⟨sl',e2⟩
 ·obtain⟨o',e1⟩:=I.base.there b o e hx
  exact free b o' (neC b o e hx) e1 (I.base.free b o e n hx)
 ·obtain⟨o',e1⟩:=I.base.there b o e hx
  exact there b o' (neC b o e hx) e1
 ·obtain⟨m1,e1⟩:=I.base.tbls b ps e
  obtain⟨m2,e2⟩:=tbls b _ e1
  exact⟨m1++m2,by rw[e2,Array.append_assoc]⟩
 ·obtain⟨m,hn,hl⟩:=I.loc
  refine⟨m,ns m hn,fun i x v e1 e2 e3=>?_⟩
  obtain⟨u,r,l⟩:=hl i x v e1 e2 e3
  refine⟨u,r,?_⟩
  rcases l with l | ⟨k,c,e,z⟩
  ·exact .inl l
  ·exact .inr ⟨k,c,e,cellK x c e _ z⟩
 ·obtain⟨v,z⟩:=I.cell x c e
  exact⟨v,cellK x c e v z⟩
 ·obtain⟨m,⟨o,_,_,ho,_⟩,_⟩:=I.loc
  exact free _ o (fun z=>(hch _ z).2.1 rfl) ho I.free
 ·obtain⟨v,o,ho,hd⟩:=I.cell x c e
  exact free c o (fun z=>(hch c z).2.2.1 x c e rfl) ho (I.freeC x c e)
 ·obtain⟨e,n,ne,nf,d⟩:=I.pin p hp
  have nch:p.1 ∉ ch:=fun z=>(hch p.1 z).2.2.2 p hp rfl
  exact⟨keep p.1 p.2 ne nf nch e n,free p.1 p.2 nch e n,ne,nf,d⟩
theorem Inv.un{t':Nat}(I:Inv X pins σ H s)(u:Un X.fs [] H H' s.heap h')(hok:HOk X.prog X.w H' h'):Inv X pins σ H' { s with heap:=h',toks:=t' }:=by
 obtain⟨m,⟨o,es,ep,ho,r⟩,_⟩:=id I.loc
 obtain⟨sl,hL⟩:=u.any ho I.free (by simp)
 exact I.step (g':=s.gens) (d':=s.drawn) (ch:=[]) (fun _ z=>nomatch z) (fun b o _ hb _ e n=>u.keep b o e n hb (by simp)) (fun b o _ hb _ e n=>u.slot b o e n hb (by simp)) (fun b o _ e n=>u.free b o e n (by simp)) (fun b o _ e=>u.there b o e (by simp)) u.tups u.frzs u.tbls (fun m' hm=>by
  obtain⟨o',es',ep',ho',r'⟩:=hm
  rw[ho]at ho';cases ho'
  exact⟨_,es',ep',hL,r'⟩) hok I.bare
theorem Inv.call{g':Array GenState}{t':Nat}{d':Drawn}{ch:List Addr}(I:Inv X pins σ H s)(u:Un (C5 X.stack) ch H H' s.heap h')(hok:HOk X.prog X.w H' h')(hg:AllBare g')
  (hch:∀b∈ch,(b∈X.ex∨X.s₀.heap.objs.size≤b)∧b≠X.env.locals∧(∀x c,X.env.cells.lookup x=some c→c≠b)∧∀p∈X.pn++pins,p.1≠b) :
  Inv X pins σ H' { s with heap:=h',gens:=g',drawn:=d',toks:=t' }:=by
 obtain⟨m,⟨o,es,ep,ho,r⟩,_⟩:=id I.loc
 obtain⟨sl,hL⟩:=u.any ho I.free fun z=>(hch _ z).2.1 rfl
 exact I.step (ch:=ch) hch (fun b o hL hb hc e n=>u.keep b o e n (fun z=>(List.mem_cons.mp (I.stkSub b z)).elim hL hb) hc) (fun b o _ _ hc e n=>u.any e n hc) (fun b o hc e n=>u.free b o e n hc) (fun b o hc e=>u.there b o e hc) u.tups u.frzs u.tbls (fun m' hm=>by
  obtain⟨o',es',ep',ho',r'⟩:=hm
  rw[ho]at ho';cases ho'
  exact⟨_,es',ep',hL,r'⟩) hok hg
theorem Inv.turned{t':Nat}{it:Addr}(I:Inv X pins σ H s)(k:∀b o,b≠it→s.heap.get? b=some o→h'.get? b=some o)(hn:H it=none)(hL:it≠X.env.locals)
  (h1:it∈X.ex∨X.s₀.heap.objs.size≤it) (h2:∀x c,X.env.cells.lookup x=some c→c≠it) (h3:∀p∈X.pn++pins,p.1≠it):Inv X pins σ H { s with heap:=h',toks:=t' }:=by
 have nit:∀b u,H b=some u→b≠it:=fun b u e z=>by rw[z,hn]at e;cases e
 refine I.step (g':=s.gens) (d':=s.drawn) (ch:=[it]) (fun b hb=>?_) (fun b o _ _ hc e _=>k b o (fun z=>hc (by simp[z])) e) (fun b o _ _ hc e _=>⟨o.slots,k b o (fun z=>hc (by simp[z])) e⟩) (fun _ _ _ _ n=>n)
  (fun b o hc e=>⟨o,k b o (fun z=>hc (by simp[z])) e⟩) (fun _ _ e=>e) (fun _ _ _ e=>e) (fun b ps e=>⟨#[],by rw[e];simp⟩) (fun m hm=>?_) (fun b u e=>?_) I.bare
 ·have e:b=it:=by simpa using hb
  subst e
  exact⟨h1,hL,h2,h3⟩
 ·obtain⟨o,es,ep,ho,r⟩:=hm
  exact⟨o,es,ep,k _ o (Ne.symm hL) ho,r⟩
 ·refine(I.hok b u e).stay (fun c v hc q=>k c v ?_ q) (fun _ q=>q) (fun _ _ q=>q) fun _ _ _ q=>q
  rcases hc with z | z
  ·rw[z];exact nit b u e
  ·exact nit c _ z
theorem Inv.tok(I:Inv X pins σ H s)(t:Nat):Inv X pins σ H { s with toks:=t }:=I.un (h':=s.heap) (t':=t) Un.refl I.hok
theorem Inv.kept{t':Nat}(I:Inv X pins σ H s)(k:∀b u,s.heap.get? b=some u→h'.get? b=some u):Inv X pins σ H { s with heap:=h',toks:=t' }:=I.un (Un.kept k) (I.hok.kept k)
theorem Inv.laid{a:Addr}{o:HO}{t':Nat}(I:Inv X pins σ H s)(k:∀b u,s.heap.get? b=some u→h'.get? b=some u)(hp:s.heap.objs.size≤a)(new:ObjOk X.prog X.w (upd H a o) h' a o) :
  Inv X pins σ (upd H a o) { s with heap:=h',toks:=t' }:=I.un (Un.laid k hp (I.hok.fresh hp)) (I.hok.laid k hp new)
theorem Inv.write{x e:Addr}{o:HO}{t':Nat}(I:Inv X pins σ H s)(mu:Mut (H x))(he:e=x∨H e=some (.own x))(k:∀b u,b≠e→s.heap.get? b=some u→h'.get? b=some u)(heo:∃u,h'.get? e=some u)
  (new:ObjOk X.prog X.w (upd H x o) h' x o):Inv X pins σ (upd H x o) { s with heap:=h',toks:=t' }:=I.un (Un.write mu he k heo) (I.hok.write mu he k heo new)
theorem Inv.weak{σ':List (Option V)}(I:Inv X pins σ H s)(hl:σ'.length=σ.length)(w:∀(i:Nat) v,σ'[i]? = some (some v)→σ[i]? = some (some v)):Inv X pins σ' H s :=
 ⟨I.ok,I.os,I.bare,I.base,let ⟨m,hn,hl'⟩:=I.loc; ⟨m,hn,fun i x v e1 e2 e3=>hl' i x v e1 (w i v e2) e3⟩,I.cell,I.free,I.freeC,I.pin,I.hok,hl.trans I.len⟩
theorem Inv.pins_of{pins':List (Addr×Obj)}(I:Inv X pins σ H s)(h:∀p∈pins',s.heap.get? p.1=some p.2∧H p.1=none∧p.1≠X.env.locals∧p.1 ∉ X.fs∧∀v,p.2.data≠.cell v):Inv X pins' σ H s :=
 ⟨I.ok,I.os,I.bare,I.base,I.loc,I.cell,I.free,I.freeC,fun p hp=>(List.mem_append.mp hp).elim (fun z=>I.pin p (List.mem_append_left _ z)) (h p),I.hok,I.len⟩
theorem a1C{N:List Str}(hN:N.Nodup){i j:Nat}{x:Str}(a:N[i]? = some x)(b:N[j]? = some x):i=j:=by
 obtain⟨h1,e1⟩:=List.getElem?_eq_some_iff.mp a
 obtain⟨h2,e2⟩:=List.getElem?_eq_some_iff.mp b
 exact(List.getElem_inj hN).mp (e1.trans e2.symm)
theorem a22{M:Model}{A:Around}{E:Value→Shared→Prop}{i:Nat}{x:Str}{v:V}{u:Value}{Q:Unit→Shared→Prop}(I:Inv X pins σ H s)(hN:X.N.Nodup)(hi:X.N[i]? = some x)(hx:Loc X.env.scope x)(r:RelV v u)
  (h:∀s',Inv X pins (σ.set i (some v)) H s'→(∃a,Heap.SameBut a s.heap s'.heap∧(a=X.env.locals∨X.env.cells.lookup x=some a))→Q () s') (hf:X.fn x=true∨X.env.scope.names.lookup x=some .local:=by first | exact .inl rfl | exact .inr rfl | assumption):wpAny M A (storeName X.env x u) Q E s:=by
 obtain⟨m,hn,hl⟩:=id I.loc
 have hcls:(X.env.scope.kind == .class || (X.env.scope.kind == .module && X.env.locals != X.env.globals))=false:=by rw[I.ok.kind];rfl
 have hiσ:i<σ.length:=by rw[I.len];exact(List.getElem?_eq_some_iff.mp hi).1
 have cne:=I.cne
 have tracked:∀{a:Addr} {h':Heap},(∃o,s.heap.get? a=some o∧H a=none)→Heap.SameBut a s.heap h'→HOk X.prog X.w H h':=fun{a h'} ha hs b ob e=>by
  obtain⟨_,_,hfree⟩:=ha
  refine(I.hok b ob e).stay (fun c w' hc q=>(hs.2 c ?_).trans q) (fun _ q=>q) (fun _ _ q=>q) fun _ _ _ q=>q
  rintro rfl
  rcases hc with rfl | hc
  ·rw[hfree]at e;cases e
  ·rw[hfree]at hc;cases hc
 rcases hx with hk | hk
 ·refine wpAny_storeName_local hk hn (fun h' hn' hs=>?_) hcls
  obtain⟨oL,_,_,hoL,_⟩:=id hn
  refine h _ ⟨I.ok,I.os,I.bare,⟨fun b o e n hb hx=>?_,fun b o e n hb hx=>?_,I.base.free,fun b o e hx=>?_,I.base.tups,I.base.frzs,I.base.tbls⟩,⟨_,hn',fun j y v' e1 e2 e3=>?_⟩,fun y c e=>?_,I.free,I.freeC,fun p hp=>?_,tracked ⟨oL,hoL,I.free⟩ hs,by simpa using I.len⟩ ⟨_,hs,.inl rfl⟩
  ·exact(hs.2 b (Nat.ne_of_lt (Nat.lt_of_lt_of_le (Heap.lt_size e) I.ok.above))).trans (I.base.keep b o e n hb hx)
  ·obtain⟨sl,e1⟩:=I.base.slot b o e n hb hx
   exact⟨sl,(hs.2 b (Nat.ne_of_lt (Nat.lt_of_lt_of_le (Heap.lt_size e) I.ok.above))).trans e1⟩
  ·obtain⟨o',e1⟩:=I.base.there b o e hx
   exact⟨o',(hs.2 b (Nat.ne_of_lt (Nat.lt_of_lt_of_le (Heap.lt_size e) I.ok.above))).trans e1⟩
  ·by_cases hj:j=i
   ·subst hj
    rw[hi]at e1;cases e1
    rw[List.getElem?_set_self hiσ]at e2
    cases e2
    exact⟨u,r,.inl ⟨hk,by simp⟩⟩
   ·rw[List.getElem?_set_ne (Ne.symm hj)]at e2
    obtain⟨u',r',q⟩:=hl j y v' e1 e2 e3
    refine⟨u',r',?_⟩
    rcases q with⟨k,e⟩ | ⟨k,c,e,z⟩
    ·refine .inl ⟨k,?_⟩
     have:y≠x:=fun e=>hj (a1C hN e1 (e▸hi))
     simp[this,e]
    ·exact .inr ⟨k,c,e,z.sameBut hs (cne y c e)⟩
  ·obtain⟨w',z⟩:=I.cell y c e
   exact⟨w',z.sameBut hs (cne y c e)⟩
  ·obtain⟨e,n,ne,nf,d⟩:=I.pin p hp
   exact⟨(hs.2 p.1 ne).trans e,n,ne,nf,d⟩
 ·have hfn:X.fn x=true:=by
   rcases hf with z | z
   ·exact z
   ·rw[z]at hk;cases hk
  obtain⟨c,hc⟩:=I.ok.has x (.inl hk)
  obtain⟨w',z⟩:=I.cell x c hc
  refine wpAny_storeName_cell I.ok.kind hk hc z (fun h' hc' hs=>?_)
  obtain⟨oc,hoc,hocd⟩:=id z
  refine h { s with heap:=h' } ⟨I.ok,I.os,I.bare,⟨fun b o e n hb hx=>?_,fun b o e n hb hx=>?_,I.base.free,fun b o e hx=>?_,I.base.tups,I.base.frzs,I.base.tbls⟩,⟨m,hn.sameBut hs (Ne.symm (cne x c hc)),fun j y v' e1 e2 e3=>?_⟩,fun y c' e=>?_,I.free,I.freeC,fun p hp=>?_,tracked ⟨oc,hoc,I.freeC x c hc⟩ hs,by simpa using I.len⟩ ⟨c,hs,.inr hc⟩
  ·exact(hs.2 b (Nat.ne_of_lt (Nat.lt_of_lt_of_le (Heap.lt_size e) (I.ok.cab x c hfn hc)))).trans (I.base.keep b o e n hb hx)
  ·obtain⟨sl,e1⟩:=I.base.slot b o e n hb hx
   exact⟨sl,(hs.2 b (Nat.ne_of_lt (Nat.lt_of_lt_of_le (Heap.lt_size e) (I.ok.cab x c hfn hc)))).trans e1⟩
  ·obtain⟨o',e1⟩:=I.base.there b o e hx
   exact⟨o',(hs.2 b (Nat.ne_of_lt (Nat.lt_of_lt_of_le (Heap.lt_size e) (I.ok.cab x c hfn hc)))).trans e1⟩
  ·by_cases hj:j=i
   ·subst hj
    rw[hi]at e1;cases e1
    rw[List.getElem?_set_self hiσ]at e2
    cases e2
    exact⟨u,r,.inr ⟨.inl hk,c,hc,hc'⟩⟩
   ·rw[List.getElem?_set_ne (Ne.symm hj)]at e2
    obtain⟨u',r',q⟩:=hl j y v' e1 e2 e3
    refine⟨u',r',?_⟩
    rcases q with q | ⟨k,c',e,z'⟩
    ·exact .inl q
    ·refine .inr ⟨k,c',e,z'.sameBut hs ?_⟩
     rintro rfl
     exact hj (a1C hN e1 (I.ok.inj _ _ _ e hc▸hi))
  ·by_cases hcc:c'=c
   ·subst hcc;exact⟨_,hc'⟩
   ·obtain⟨w2,z2⟩:=I.cell y c' e
    exact⟨w2,z2.sameBut hs hcc⟩
  ·obtain⟨e,n,ne,nf,d⟩:=I.pin p hp
   refine⟨(hs.2 p.1 ?_).trans e,n,ne,nf,d⟩
   intro q
   rw[q,hoc]at e
   have q':oc=p.2:=Option.some.inj e
   exact d w' (by rw[← q'];exact hocd)
theorem a1D{M:Model}{A:Around}{E:Value→Shared→Prop}{i:Nat}{x:Str}{v:V}{u:Value}{Q:Unit→Shared→Prop}(I:Inv X pins σ H s)(hN:X.N.Nodup)(hi:X.N[i]? = some x)(hx:Loc X.env.scope x)(r:RelV v u)
  (h:∀s',Inv X pins (σ.set i (some v)) H s'→Q () s') (hf:X.fn x=true∨X.env.scope.names.lookup x=some .local:=by first | exact .inl rfl | exact .inr rfl | assumption):wpAny M A (storeName X.env x u) Q E s :=
 a22 I hN hi hx r (fun s' I' _=>h s' I') hf
theorem Inv.call'{s':Shared}{ch:List Addr}(I:Inv X pins σ H s)(ho:s'.os=s.os)(u:Un (C5 X.stack) ch H H' s.heap s'.heap)(hok:HOk X.prog X.w H' s'.heap)(hg:AllBare s'.gens)
  (hch:∀b∈ch,(b∈X.ex∨X.s₀.heap.objs.size≤b)∧b≠X.env.locals∧(∀x c,X.env.cells.lookup x=some c→c≠b)∧∀p∈X.pn++pins,p.1≠b):Inv X pins σ H' s':=by
 obtain⟨h',g',d',t',o'⟩:=s'
 have e:o'=s.os:=ho
 subst e
 exact I.call (g':=g') (t':=t') (d':=d') u hok hg hch
end
abbrev XK:=Value→Option Addr→Hp→Prop
abbrev St:=List (Option V)
abbrev VK:=V→Hp→Prop
abbrev TE:=St→Hp→VK→Prop
abbrev TT:=St→Hp→(Bool→Hp→Prop)→Prop
abbrev TA:=St→Hp→(List V→Hp→Prop)→Prop
structure Ends where
 nx:St→Hp→Prop
 rt:VK
 bk:St→Hp→Prop:=fun _ _=>False
 ct:St→Hp→Prop:=fun _ _=>False
abbrev TS:=Ends→St→Hp→Prop
def EP(X:Cx)(pins:List (Addr×Obj))(σ:St)(Q:VK)(u:Value)(s':Shared):Prop:=∃v H',Inv X pins σ H' s'∧RelV v u∧Q v H'
def TP(X:Cx)(pins:List (Addr×Obj))(σ:St)(Q:Bool→Hp→Prop)(b:Bool)(s':Shared):Prop:=∃H',Inv X pins σ H' s'∧Q b H'
def AP(X:Cx)(pins:List (Addr×Obj))(σ:St)(Q:List V→Hp→Prop)(us:List Value)(s':Shared):Prop:=∃vs H',Inv X pins σ H' s'∧Vals vs us∧Q vs H'
def SP(X:Cx)(pins:List (Addr×Obj))(D:Ends)(f:Flow)(s':Shared):Prop :=
 match f with
 | .next=>∃σ' H',Inv X pins σ' H' s'∧D.nx σ' H'
 | .brk=>∃σ' H',Inv X pins σ' H' s'∧D.bk σ' H'
 | .cont=>∃σ' H',Inv X pins σ' H' s'∧D.ct σ' H'
 | .ret u=>∃v σ' H',Inv X pins σ' H' s'∧RelV v u∧D.rt v H'
def PE(X:Cx)(e:Expr)(t:TE):Prop :=
 ∀(pins:List (Addr×Obj)) (s:Shared) (σ:St) (H:Hp) (Q:VK),Inv X pins σ H s→t σ H Q→wpAny (model X.prog X.w) X.A (eval e X.env) (EP X pins σ Q) X.xe s
def PT(X:Cx)(e:Expr)(t:TT):Prop :=
 ∀(pins:List (Addr×Obj)) (s:Shared) (σ:St) (H:Hp) (Q:Bool→Hp→Prop),Inv X pins σ H s→t σ H Q→wpAny (model X.prog X.w) X.A (isTrue e X.env (eval e X.env)) (TP X pins σ Q) X.xe s
def PW(X:Cx)(e:Expr)(t:TT):Prop :=
 ∀(whole:Sem Value) (pins:List (Addr×Obj)) (s:Shared) (σ:St) (H:Hp) (Q:Bool→Hp→Prop),Inv X pins σ H s→t σ H Q→wpAny (model X.prog X.w) X.A (isTrue e X.env whole) (TP X pins σ Q) X.xe s
theorem PW.pt{X:Cx}{e:Expr}{t:TT}(h:PW X e t):PT X e t:=h _
def PA(X:Cx)(es:List Expr)(t:TA):Prop :=
 ∀(pos:Pos) (pins:List (Addr×Obj)) (s:Shared) (σ:St) (H:Hp) (Q:List V→Hp→Prop),Inv X pins σ H s→t σ H Q→wpAny (model X.prog X.w) X.A (spliced (backTo pos (starEach es X.env))) (AP X pins σ Q) X.xe s
def PS(X:Cx)(st:Stmt)(t:TS):Prop :=
 ∀(pins:List (Addr×Obj)) (s:Shared) (σ:St) (H:Hp) (D:Ends),Inv X pins σ H s→t D σ H→wpAny (model X.prog X.w) X.A (exec st X.env) (SP X pins D) X.xe s
def PSs(X:Cx)(st:List Stmt)(t:TS):Prop :=
 ∀(pins:List (Addr×Obj)) (s:Shared) (σ:St) (H:Hp) (D:Ends),Inv X pins σ H s→t D σ H→wpAny (model X.prog X.w) X.A (execs st X.env) (SP X pins D) X.xe s
theorem l4{α:Type}{t:Sem α}{Q Q':α→Shared→Prop}{M:Model}{A:Around}{E:Value→Shared→Prop}{s:Shared}(h:wpAny M A t Q E s)(hQ:∀a s,Q a s→Q' a s):wpAny M A t Q' E s:=wpAny_mono h hQ fun _ _ x=>x
section
variable {X:Cx}
def E6(i:Nat):TE:=fun σ H Q=>∃v,σ[i]? = some (some v)∧Q v H
def tC(v:V):TE:=fun _ H Q=>Q v H
theorem b05{i:Nat}{x:Str}{pos:Pos}(hN:X.N[i]? = some x)(hv:Vis X.env.scope x)(hd:(x == ("__debug__" : Str))=false:=by decide)(hcd:(x == ("__classdict__" : Str))=false:=by decide):PE X (.Name x pos) (E6 i):=by
 intro pins s σ H Q I h
 obtain⟨v,e,h⟩:=h
 obtain⟨m,hn,hl⟩:=I.loc
 obtain⟨u,r,l⟩:=hl i x v hN e hv
 have fin:EP X pins σ Q u s:=⟨v,H,I,r,h⟩
 rcases l with⟨hk,hm⟩ | ⟨hk,c,hc,hcell⟩
 ·exact wpAny_Name (wpAny_loadName_local I.ok.kind hk hn hm fin) hd
 ·rcases hk with hk | hk
  ·exact wpAny_Name (wpAny_loadName_cell I.ok.kind hk hc hcell fin) hd
  ·exact wpAny_Name (wpAny_loadName_free I.ok.kind hk hc hcell fin hcd) hd
theorem a8{i j pos}:PE X (.Constant (.int i) j pos) (tC (.int i)):=fun _ _ _ H _ I h=>wpAny_Constant_int ⟨.int i,H,I.tok _,⟨_,rfl⟩,h⟩
theorem P8{b j pos}:PE X (.Constant (.bool b) j pos) (tC (.bl b)):=fun _ _ _ H _ I h=>Constant_bool ⟨.bl b,H,I,rfl,h⟩
theorem a10{j pos}:PE X (.Constant .none j pos) (tC .non):=fun _ _ _ H _ I h=>Constant_none ⟨.non,H,I,rfl,h⟩
theorem D9{x j pos}:PE X (.Constant (.str x) j pos) (tC (.str x)):=fun _ _ _ H _ I h=>Calls.Constant_str ⟨.str x,H,I.tok _,⟨_,rfl⟩,h⟩
def Gl(X:Cx)(x:Str):Prop:=X.env.kindOf x=some .globalImplicit
theorem T9{E:Value→Shared→Prop}{pins:List (Addr×Obj)}{s:Shared}{σ:St}{H:Hp}{x:Str}{u:Value}{pos:Pos}{Q:Value→Shared→Prop}(I:Inv X pins σ H s)(hg:Gl X x)(hm:X.mg x=some u)(h:Q u s)
  (hd:(x == ("__debug__" : Str))=false:=by decide):wpAny (model X.prog X.w) X.A (eval (.Name x pos) X.env) Q E s :=
 Calls.Name_function_global I.ok.kind hg (Calls.loadGlobal_global (by rw[I.ok.glob];exact I.mod.glob.keeps I.bk) hm h) hd
theorem Q7{E:Value→Shared→Prop}{pins:List (Addr×Obj)}{s:Shared}{σ:St}{H:Hp}{x:Str}{u:Value}{pos:Pos}{Q:Value→Shared→Prop}(I:Inv X pins σ H s)(hg:Gl X x)(hm:X.mg x=none)(hv:bootBuiltins x=some u)(h:Q u s)
  (hn:x≠"__name__" := by decide) (hd:(x == ("__debug__" : Str))=false:=by decide):wpAny (model X.prog X.w) X.A (eval (.Name x pos) X.env) Q E s:=by
 obtain⟨mb,h1,h2⟩:=I.mod.blt
 exact Calls.Name_function_global I.ok.kind hg (Calls.loadGlobal_builtin (by rw[I.ok.glob];exact I.mod.glob.keeps I.bk) hm (by rw[I.ok.blt];exact h1.keeps I.bk) ((h2 x hn).trans hv) h) hd
theorem j7{x:Str}{v:V}{u:Value}{pos:Pos}(hg:Gl X x)(hm:X.mg x=some u)(r:RelV v u)(hd:(x == ("__debug__" : Str))=false:=by decide):PE X (.Name x pos) (tC v) :=
 fun _ _ _ H _ I h=>T9 I hg hm ⟨v,H,I,r,h⟩ hd
theorem Y6{x:Str}{v:V}{u:Value}{pos:Pos}(hg:Gl X x)(hm:X.mg x=none)(hv:bootBuiltins x=some u)(r:RelV v u)(hn:x≠"__name__" := by decide)(hd:(x == ("__debug__" : Str))=false:=by decide):PE X (.Name x pos) (tC v) :=
 fun _ _ _ H _ I h=>Q7 I hg hm hv ⟨v,H,I,r,h⟩ hn hd
variable {a b:Expr}{ta tb:TE}{pos:Pos}
def tB(t:TE):TT:=fun σ H Q=>t σ H fun x H1=>∃c,x=.bl c∧Q c H1
theorem y0{e:Expr}{t:TE}(h:PE X e t)(he:∀whole,isTrue e X.env whole=(do let v ← whole;standAt e.pos;holding [v] (truthy v)):=by intro _;rfl):PT X e (tB t):=by
 intro pins s σ H Q I hw
 refine isTrue_plain (l4 (h pins s σ H _ I hw) fun v s1 ⟨x,H1,I1,r1,q1⟩=>?_) (he _)
 obtain⟨d,rfl,q⟩:=q1
 cases r1
 exact wpAny_truthy_bool ⟨H1,I1,q⟩
variable {tA tB':TT}{j6:List Expr}
def b06(t u:TT):TT:=fun σ H Q=>t σ H fun c H1=>if c=true then u σ H1 Q else Q false H1
def tOr(t u:TT):TT:=fun σ H Q=>t σ H fun c H1=>if c=true then Q true H1 else u σ H1 Q
def b07(t:TT):TT:=fun σ H Q=>t σ H fun c H1=>Q (!c) H1
theorem a1a(ha:PT X a tA):PW X (.BoolOp .And [a] pos) tA:=by
 intro wh pins s σ H Q I h
 refine isTrue_and (l4 (ha pins s σ H Q I h) fun c s1 e=>?_)
 cases c with
 | true=>exact isTrue_and_nil e
 | false=>exact e
theorem Q8(ha:PT X a tA):PW X (.BoolOp .Or [a] pos) tA:=by
 intro wh pins s σ H Q I h
 refine isTrue_or (l4 (ha pins s σ H Q I h) fun c s1 e=>?_)
 cases c with
 | false=>exact isTrue_or_nil e
 | true=>exact e
theorem a11(ha:PT X a tA)(hb:PW X (.BoolOp .And (b::j6) pos) tB'):PW X (.BoolOp .And (a::b::j6) pos) (b06 tA tB'):=by
 intro wh pins s σ H Q I h
 refine isTrue_and (l4 (ha pins s σ H _ I h) fun c s1 ⟨H1,I1,q1⟩=>?_)
 cases c with
 | true=>exact hb wh pins s1 σ H1 Q I1 q1
 | false=>exact⟨H1,I1,q1⟩
theorem M9(ha:PT X a tA)(hb:PW X (.BoolOp .Or (b::j6) pos) tB'):PW X (.BoolOp .Or (a::b::j6) pos) (tOr tA tB'):=by
 intro wh pins s σ H Q I h
 refine isTrue_or (l4 (ha pins s σ H _ I h) fun c s1 ⟨H1,I1,q1⟩=>?_)
 cases c with
 | true=>exact⟨H1,I1,q1⟩
 | false=>exact hb wh pins s1 σ H1 Q I1 q1
theorem B3(ha:PT X a tA):PT X (.UnaryOp .Not a pos) (b07 tA):=by
 intro pins s σ H Q I h
 exact isTrue_not (ha pins s σ H (fun c H1=>Q (!c) H1) I h)
def a8N(ta tb:TE):TE:=fun σ H Q=>ta σ H fun x H1=>∃c,x=.bl c∧if c=true then tb σ H1 Q else Q (.bl false) H1
def b08(ta tb:TE):TE:=fun σ H Q=>ta σ H fun x H1=>∃c,x=.bl c∧if c=true then Q (.bl true) H1 else tb σ H1 Q
theorem C6{op}{t:TE}(h:PE X a t):PE X (.BoolOp op [a] pos) t:=fun pins s σ H Q I hw=>BoolOp_one (h pins s σ H Q I hw)
theorem Q9(ha:PE X a ta)(hb:PE X (.BoolOp .And (b::j6) pos) tb):PE X (.BoolOp .And (a::b::j6) pos) (a8N ta tb):=by
 intro pins s σ H Q I h
 refine BoolOp_and (l4 (ha pins s σ H _ I h) fun v s1 ⟨x,H1,I1,r1,q1⟩=>?_)
 obtain⟨c,rfl,q1⟩:=q1
 cases r1
 refine wpAny_truthy_bool ?_
 cases c with
 | true=>exact hb pins s1 σ H1 Q I1 q1
 | false=>exact⟨.bl false,H1,I1,rfl,q1⟩
theorem a0a(ha:PE X a ta)(hb:PE X (.BoolOp .Or (b::j6) pos) tb):PE X (.BoolOp .Or (a::b::j6) pos) (b08 ta tb):=by
 intro pins s σ H Q I h
 refine BoolOp_or (l4 (ha pins s σ H _ I h) fun v s1 ⟨x,H1,I1,r1,q1⟩=>?_)
 obtain⟨c,rfl,q1⟩:=q1
 cases r1
 refine wpAny_truthy_bool ?_
 cases c with
 | false=>exact hb pins s1 σ H1 Q I1 q1
 | true=>exact⟨.bl true,H1,I1,rfl,q1⟩
end
def SqL(K:W.Frag)(H:Hp)(a:Addr)(xs:List V):Prop :=
 Rd H a (.lst xs) ∨
  ∃(o:Obj) (its:Array Value) (n:Nat),K.lookup a=some o∧o.cls=.type "list"∧o.dict=none∧o.data=.seq its n∧its.size≤sizeLine∧Vals xs its.toList
def SqT(K:W.Frag)(H:Hp)(a:Addr)(xs:List V):Prop :=
 Rd H a (.tup xs) ∨
  ∃(o:Obj) (its:Array Value) (n:Nat),K.lookup a=some o∧o.cls=.type "tuple"∧o.data=.seq its n∧its.size≤sizeLine∧Vals xs its.toList
def b2L:Value→Option V
 | .none=>some .non
 | .bool b=>some (.bl b)
 | .int i _=>some (.int i)
 | .str x _=>some (.str x)
 | .bytes b _=>some (.byt b)
 | .float b _=>some (.flt b)
 | .ref a=>some (.ref a)
 | .type n=>some (.ty n)
 | _=>none
theorem RelV.abs{x:V}{u:Value}(r:RelV x u):b2L u=some x:=by
 cases x with
 | non=>cases r;rfl
 | bl _=>cases r;rfl
 | int _=>obtain⟨t,rfl⟩:=r;rfl
 | str _=>obtain⟨t,rfl⟩:=r;rfl
 | byt _=>obtain⟨t,rfl⟩:=r;rfl
 | flt _=>obtain⟨t,rfl⟩:=r;rfl
 | ref _=>cases r;rfl
 | ty _=>cases r;rfl
theorem RelV.inj{x y:V}{u:Value}(r:RelV x u)(q:RelV y u):x=y:=Option.some.inj (r.abs.symm.trans q.abs)
theorem Vals.inj:∀{xs ys:List V} {us:List Value},Vals xs us→Vals ys us→xs=ys
 | _,_,_,.nil,.nil=>rfl
 | _,_,_,.cons r t,.cons r' t'=>by rw[r.inj r',Vals.inj t t']
section
variable {X:Cx}{pins:List (Addr×Obj)}{σ:St}{H:Hp}{s:Shared}{a:Addr}{xs ys:List V}
theorem SqL.of{K:W.Frag}(h:H a=some (.lst xs)):SqL K H a xs:=.inl (.inl h)
theorem SqT.of{K:W.Frag}(h:H a=some (.tup xs)):SqT K H a xs:=.inl (.inl h)
theorem Inv.list(I:Inv X pins σ H s)(h:SqL X.K H a xs):∃its:List Value,Vals xs its∧PlainL s.heap a its.toArray∧xs.length≤sizeLine:=by
 rcases h with h | ⟨o,its,n,hk,hc,hd,hs,hz,r⟩
 ·obtain⟨z,its,n,r,e⟩:=h.ok I.hok
  exact⟨its,r,⟨_,n,e,rfl,rfl,rfl⟩,z⟩
 ·refine⟨its.toList,r,⟨o,n,I.kIn a o hk,hc,hd,by simpa using hs⟩,?_⟩
  have e:=r.length
  simp only[Array.length_toList]at e
  omega
theorem Inv.tuple(I:Inv X pins σ H s)(h:SqT X.K H a xs):∃its:List Value,Vals xs its∧IsTup s.heap a its.toArray∧xs.length≤sizeLine:=by
 rcases h with h | ⟨o,its,n,hk,hc,hs,hz,r⟩
 ·obtain⟨z,its,r,p⟩:=h.ok I.hok
  exact⟨its,r,p,z⟩
 ·refine⟨its.toList,r,⟨o,I.kIn a o hk,hc,n,by simpa using hs⟩,?_⟩
  have e:=r.length
  simp only[Array.length_toList]at e
  omega
theorem Inv.list_inj(I:Inv X pins σ H s)(h:SqL X.K H a xs)(h':SqL X.K H a ys):xs=ys:=by
 obtain⟨its,r,⟨o,n,e,_,_,d⟩,_⟩:=I.list h
 obtain⟨its',r',⟨o',n',e',_,_,d'⟩,_⟩:=I.list h'
 rw[e]at e';cases e'
 rw[d]at d'
 injection d' with d1 _
 have:its=its':=by simpa using congrArg Array.toList d1
 subst this
 exact r.inj r'
end
abbrev Cx.wish(X:Cx)(E:Value→Shared→Prop):Cx:={ X with xe:=E }
abbrev Cx.nox(X:Cx):Cx:=X.wish fun _ _=>False
theorem Cx.Ok.wish{X:Cx}(ok:X.Ok)(E:Value→Shared→Prop):(X.wish E).Ok :=
 ⟨ok.mod,ok.kind,ok.glob,ok.blt,ok.above,ok.inj,ok.has,ok.cab,ok.hd,ok.frames,ok.stk,ok.exf,ok.bs,ok.bsz,ok.noex,ok.exfs,ok.funs,ok.frf⟩
theorem Cx.Ok.unwish{X:Cx}{E:Value→Shared→Prop}(ok:(X.wish E).Ok):X.Ok :=
 ⟨ok.mod,ok.kind,ok.glob,ok.blt,ok.above,ok.inj,ok.has,ok.cab,ok.hd,ok.frames,ok.stk,ok.exf,ok.bs,ok.bsz,ok.noex,ok.exfs,ok.funs,ok.frf⟩
section
variable {X:Cx}{pins:List (Addr×Obj)}{σ:St}{H:Hp}{s:Shared}{E:Value→Shared→Prop}
theorem Inv.wish(I:Inv X pins σ H s)(E:Value→Shared→Prop):Inv (X.wish E) pins σ H s:=⟨I.ok.wish E,I.os,I.bare,I.base,I.loc,I.cell,I.free,I.freeC,I.pin,I.hok,I.len⟩
theorem Inv.unwish(I:Inv (X.wish E) pins σ H s):Inv X pins σ H s:=⟨I.ok.unwish,I.os,I.bare,I.base,I.loc,I.cell,I.free,I.freeC,I.pin,I.hok,I.len⟩
theorem SP.unwish{D:Ends}{f:Flow}{s':Shared}(h:SP (X.wish E) pins D f s'):SP X pins D f s':=by
 cases f with
 | next=>obtain⟨σ',H',I,q⟩:=h;exact⟨σ',H',I.unwish,q⟩
 | brk=>obtain⟨σ',H',I,q⟩:=h;exact⟨σ',H',I.unwish,q⟩
 | cont=>obtain⟨σ',H',I,q⟩:=h;exact⟨σ',H',I.unwish,q⟩
 | ret u=>obtain⟨v,σ',H',I,r,q⟩:=h;exact⟨v,σ',H',I.unwish,r,q⟩
theorem PE.nox{e:Expr}{t:TE}(h:PE X.nox e t):PE X e t:=fun pins s σ H Q I hw =>
 wpAny_mono (h pins s σ H Q (I.wish _) hw) (fun _ _ ⟨v,H',I',r,q⟩=>⟨v,H',I'.unwish,r,q⟩) fun _ _ z=>False.elim z
theorem PT.nox{e:Expr}{t:TT}(h:PT X.nox e t):PT X e t:=fun pins s σ H Q I hw =>
 wpAny_mono (h pins s σ H Q (I.wish _) hw) (fun _ _ ⟨H',I',q⟩=>⟨H',I'.unwish,q⟩) fun _ _ z=>False.elim z
theorem PSs.nox{st:List Stmt}{t:TS}(h:PSs X.nox st t):PSs X st t:=fun pins s σ H D I hw =>
 wpAny_mono (h pins s σ H D (I.wish _) hw) (fun _ _ q=>q.unwish) fun _ _ z=>False.elim z
end
section
variable {X:Cx}{st:Stmt}{j6:List Stmt}{t u:TS}{e:Expr}{te:TE}{pos:Pos}
def a8O:TS:=fun D σ H=>D.nx σ H
def a2C(t u:TS):TS:=fun D σ H=>t { D with nx:=u D } σ H
theorem l7:PSs X [] a8O:=fun _ _ σ H _ I h=>wpAny_execs_nil ⟨σ,H,I,h⟩
theorem d9(h1:PS X st t)(h2:PSs X j6 u):PSs X (st::j6) (a2C t u):=by
 intro pins s σ H D I h
 refine wpAny_execs_cons (l4 (h1 pins s σ H { D with nx:=u D } I h) fun f s1 q=>?_)
 cases f with
 | next =>
  obtain⟨σ',H',I',q⟩:=q
  exact h2 pins s1 σ' H' D I' q
 | ret v=>exact q
 | brk=>exact q
 | cont=>exact q
theorem g5(h1:PS X st t):PSs X [st] t:=by
 intro pins s σ H D I h
 refine wpAny_execs_cons (l4 (h1 pins s σ H D I h) fun f s1 q=>?_)
 cases f with
 | next=>exact wpAny_execs_nil q
 | ret v=>exact q
 | brk=>exact q
 | cont=>exact q
theorem Inv.quiet{pins:List (Addr×Obj)}{σ:St}{H:Hp}{s:Shared}(I:Inv X pins σ H s):interactive X.env=false:=by simp[interactive,I.ok.kind]
def a8P(te:TE):TS:=fun D σ H=>te σ H fun _ H1=>D.nx σ H1
theorem a1b(he:PE X e te)(hs:swapsWith e none pos.line X.env=pure false:=by rfl):PS X (.Expr e pos) (a8P te):=by
 intro pins s σ H D I h
 exact wpAny_Expr_any (l4 (he pins s σ H _ I h) fun v s1 ⟨x,H1,I1,r1,q1⟩=>⟨σ,H1,I1,q1⟩) I.quiet hs
def a3T(te:TE):TS:=fun D σ H=>te σ H D.rt
theorem j3(he:PE X e te):PS X (.Return (some e) pos) (a3T te):=by
 intro pins s σ H D I h
 exact wpAny_Return_some (l4 (he pins s σ H _ I h) fun v s1 ⟨x,H1,I1,r1,q1⟩=>⟨x,σ,H1,I1,r1,q1⟩)
def b09(c:TT)(t u:TS):TS:=fun D σ H=>c σ H fun b H1=>if b=true then t D σ H1 else u D σ H1
theorem u0{c:Expr}{a b:List Stmt}{tc:TT}(hc:PT X c tc)(ha:PSs X a t)(hb:PSs X b u):PS X (.If c a b pos) (b09 tc t u):=by
 intro pins s σ H D I h
 refine wpAny_If (l4 (hc pins s σ H _ I h) fun d s1 ⟨H1,I1,q1⟩=>?_)
 cases d with
 | true=>exact ha pins s1 σ H1 D I1 q1
 | false=>exact hb pins s1 σ H1 D I1 q1
end
abbrev TG:=V→St→Hp→(St→Hp→Prop)→Prop
abbrev TGs:=List V→St→Hp→(St→Hp→Prop)→Prop
def PG(X:Cx)(target:Expr)(t:TG):Prop :=
 ∀(pins:List (Addr×Obj)) (s:Shared) (σ:St) (H:Hp) (v:V) (u:Value) (Q:St→Hp→Prop),Inv X pins σ H s→RelV v u→t v σ H Q →
  wpAny (model X.prog X.w) X.A (assign target X.env u) (fun _ s'=>∃σ' H',Inv X pins σ' H' s'∧Q σ' H') X.xe s
def PGs(X:Cx)(ts:List Expr)(t:TGs):Prop :=
 ∀(pins:List (Addr×Obj)) (s:Shared) (σ:St) (H:Hp) (vs:List V) (us:List Value) (Q:St→Hp→Prop),Inv X pins σ H s→Vals vs us→t vs σ H Q →
  wpAny (model X.prog X.w) X.A (assignInOrder ((assignEach ts X.env).map (·.2)) us) (fun _ s'=>∃σ' H',Inv X pins σ' H' s'∧Q σ' H') X.xe s
abbrev a7l:=V→V→V→Hp→(Hp→Prop)→Prop
def b0_(X:Cx)(t:a7l):Prop :=
 ∀(pins:List (Addr×Obj)) (s:Shared) (σ:St) (H:Hp) (o i v:V) (ov iv u:Value) (Q:Hp→Prop),Inv X pins σ H s→RelV o ov→RelV i iv→RelV v u→t o i v H Q →
  wpAny (model X.prog X.w) X.A (setItem ov iv u) (fun _ s'=>∃H',Inv X pins σ H' s'∧Q H') X.xe s
section
variable {X:Cx}{pos:Pos}
def N0(i:Nat):TG:=fun v σ H Q=>Q (σ.set i (some v)) H
theorem j8{i:Nat}{x:Str}(hN:X.N.Nodup)(hi:X.N[i]? = some x)(hx:Loc X.env.scope x)(hf:X.fn x=true∨X.env.scope.names.lookup x=some .local:=by first | exact .inl rfl | exact .inr rfl | assumption):PG X (.Name x pos) (N0 i):=by
 intro pins s σ H v u Q I r h
 exact wpAny_assign_Name (a1D I hN hi hx r (fun s' I'=>⟨_,H,I',h⟩) hf)
def a7m:TGs:=fun vs σ H Q=>vs=[]∧Q σ H
def a3C(t:TG)(u:TGs):TGs:=fun vs σ H Q=>∃v r,vs=v::r∧t v σ H fun σ' H'=>u r σ' H' Q
theorem C7:PGs X [] a7m:=by
 intro pins s σ H vs us Q I r h
 obtain⟨e,h⟩:=h
 subst e
 cases r
 exact assignInOrder_nil ⟨σ,H,I,h⟩
theorem k9{e:Expr}{es:List Expr}{t:TG}{u:TGs}(h1:PG X e t)(h2:PGs X es u)
  (hs:(assignEach (e::es) X.env).map (·.2)=assign e X.env::(assignEach es X.env).map (·.2):=by rfl):PGs X (e::es) (a3C t u):=by
 intro pins s σ H vs us Q I r h
 obtain⟨v,vr,e1,h⟩:=h
 subst e1
 cases r with
 | cons r rr =>
  rw[hs]
  refine assignInOrder_cons (l4 (h1 pins s σ H _ _ _ I r h) fun _ s1 ⟨σ1,H1,I1,q1⟩=>?_)
  exact h2 pins s1 σ1 H1 _ _ Q I1 rr q1
def a5B(K:W.Frag)(n:Nat)(t:TGs):TG:=fun v σ H Q=>∃a xs,v=.ref a∧SqT K H a xs∧xs.length=n∧t xs σ H Q
theorem b1a{es:List Expr}{k:Nat}{t:TGs}{n:Nat}(hc:X.calm=true)(h:PGs X es t)
  (hn:(assignEach es X.env).length=n:=by rfl) (hst:(assignEach es X.env).findIdx? (·.1)=none:=by rfl):PG X (.Tuple es k pos) (a5B X.K n t):=by
 intro pins s σ H v u Q I r hw
 obtain⟨a,xs,e1,hq,hl,hw⟩:=hw
 subst e1
 cases r
 obtain⟨its,rv,ht,hz⟩:=I.tuple hq
 refine assign_Tuple_tuple (I.ok.hd hc) ht (by simp[hn,← hl,rv.length]) hst fun h' hx=>?_
 have I1:Inv X pins σ H { s with heap:=h' }:=I.kept (t':=s.toks) fun b o e=>hx b o (Nat.ne_of_lt (Heap.lt_size e)) e
 exact h pins _ σ H xs _ Q I1 (by simpa using rv) hw
def a7n(to ti:TE)(t:a7l):TG:=fun v σ H Q=>to σ H fun o H1=>ti σ H1 fun i H2=>t o i v H2 fun H3=>Q σ H3
theorem a6u{o i:Expr}{to ti:TE}{t:a7l}(ho:PE X o to)(hi:PE X i ti)(hs:b0_ X t)
  (ha:∀v,assign (.Subscript o i pos) X.env v=(do
   let ov ← holding [v] (eval o X.env)
   let iv ← holding [v,ov] (eval i X.env)
   standAt pos
   holding [v,ov,iv] (setItem ov iv v)
   release [v,ov,iv] []):=by intro _;rfl):PG X (.Subscript o i pos) (a7n to ti t):=by
 intro pins s σ H v u Q I r h
 rw[ha]
 refine wpAny_bind (wpAny_holding (l4 (ho pins s σ H _ I h) fun ov s1 ⟨x,H1,I1,r1,q1⟩=>?_))
 refine wpAny_bind (wpAny_holding (l4 (hi pins s1 σ H1 _ I1 q1) fun iv s2 ⟨y,H2,I2,r2,q2⟩=>?_))
 refine wpAny_bind (wpAny_standAt (wpAny_bind (wpAny_holding (l4 (hs pins s2 σ H2 x y v ov iv u _ I2 r1 r2 r q2) fun _ s3 ⟨H3,I3,q3⟩=>?_))))
 exact wpAny_release ⟨σ,H3,I3,q3⟩
def X7(te:TE)(g:TG):TS:=fun D σ H=>te σ H fun x H1=>g x σ H1 D.nx
theorem R5{tg e:Expr}{te:TE}{g:TG}(he:PE X e te)(hg:PG X tg g)(hs:swapsWithSole [tg] e pos.line X.env=pure false:=by rfl)(hw:swappedStores [tg] e X.env=pure none:=by rfl)
  (h1:(assignEach [tg] X.env).map (·.2)=[assign tg X.env]:=by rfl):PS X (.Assign [tg] e pos) (X7 te g):=by
 intro pins s σ H D I h
 refine wpAny_Assign_stores (l4 (he pins s σ H _ I h) fun v s1 ⟨x,H1,I1,r1,q1⟩=>?_) hs hw
 rw[h1]
 exact l4 (hg pins s1 σ H1 x v _ I1 r1 q1) fun _ s2 q=>q
theorem m7{i:Nat}{x:Str}{e:Expr}{te:TE}{pos':Pos}(hN:X.N.Nodup)(hi:X.N[i]? = some x)(hx:Loc X.env.scope x)(he:PE X e te)(hs:swapsWith e (some (.Name x pos')) pos.line X.env=pure false:=by rfl)(hf:X.fn x=true∨X.env.scope.names.lookup x=some .local:=by first | exact .inl rfl | exact .inr rfl | assumption) :
  PS X (.Assign [.Name x pos'] e pos) (X7 te (N0 i)):=by
 intro pins s σ H D I h
 refine wpAny_Assign_Name (l4 (he pins s σ H _ I h) fun v s1 ⟨y,H1,I1,r1,q1⟩=>?_) hs
 exact a1D I1 hN hi hx r1 (fun s2 I2=>⟨_,H1,I2,q1⟩) hf
end
structure It where
 go:Nat→Hp→Prop
 yld:Nat→Hp→V→Hp→Prop
 stop:Nat→Hp→Prop
def FpOk(X:Cx)(pins:List (Addr×Obj))(H:Hp)(b:Addr):Prop :=
 H b=none∧b≠X.env.locals∧b ∉ X.fs∧(b∈X.ex∨X.s₀.heap.objs.size≤b)∧(∀x c,X.env.cells.lookup x=some c→c≠b)∧∀p∈X.pn++pins,p.1≠b
theorem Inv.fpOk{X:Cx}{pins:List (Addr×Obj)}{σ:St}{H H':Hp}{s:Shared}{b:Addr}(I:Inv X pins σ H s)(hb:s.heap.objs.size≤b)(hn:H' b=none):FpOk X pins H' b:=by
 refine⟨hn,Nat.ne_of_gt (Nat.lt_of_lt_of_le I.lt hb),I.nofs hb,.inr (Nat.le_trans I.sz hb),fun x c e z=>?_,fun p hp z=>?_⟩
 ·obtain⟨v,q⟩:=I.cell x c e
  exact absurd (Nat.lt_of_lt_of_le q.lt (by rw[z];exact hb)) (Nat.lt_irrefl _)
 ·exact absurd (Nat.lt_of_lt_of_le (Heap.lt_size (I.pin p hp).1) (by rw[z];exact hb)) (Nat.lt_irrefl _)
structure Turn(P:Program)(w:World)(K:W.Frag)(tg:Expr)(J:It)(fp:List Addr)(it:Addr)(tn:Nat→Heap→Prop):Prop where
 mem:it∈fp
 obj:∀i h,tn i h→∀b∈fp,∃o,h.get? b=some o∧∀v,o.data≠.cell v
 keep:∀i h h',tn i h→(∀b∈fp,∀o,h.get? b=some o→h'.get? b=some o)→tn i h'
 item:∀(X:Cx),X.prog=P→X.w=w→X.K=K→X.calm=true→∀(i:Nat) (pins:List (Addr×Obj)) (s:Shared) (σ:St) (H:Hp) (E:Value→Shared→Prop),Inv X pins σ H s→(∀b∈fp,FpOk X pins H b)→tn i s.heap→J.go i H →
  wpAny (model P w) X.A (pyNext (.ref it)) (fun r s1=>∃u,r=some u ∧
   wpAny (model P w) X.A (letOwnedTupleGo tg (.ref it) u) (fun _ s2=>∃x H',Inv X pins σ H' s2∧RelV x u∧J.yld i H x H'∧tn (i+1) s2.heap∧∀b∈fp,H' b=none) E s1) E s
 done:∀(X:Cx),X.prog=P→X.w=w→X.K=K→X.calm=true→∀(i:Nat) (pins:List (Addr×Obj)) (s:Shared) (σ:St) (H:Hp) (E:Value→Shared→Prop),Inv X pins σ H s→(∀b∈fp,FpOk X pins H b)→tn i s.heap→J.stop i H →
  wpAny (model P w) X.A (pyNext (.ref it)) (fun r s1=>r=none∧Inv X pins σ H s1) E s
 self:∀(A:Around) (i:Nat) (s:Shared) (Q:Value→Shared→Prop) (E:Value→Shared→Prop),tn i s.heap→Q (.ref it) s→wpAny (model P w) A (pyIter (.ref it)) Q E s
abbrev TI:=St→Hp→(It→Hp→Prop)→Prop
def PIE(X:Cx)(pins:List (Addr×Obj))(σ:St)(tg:Expr)(R:It→Hp→Prop)(itv:Value)(s2:Shared):Prop :=
 ∃(it:Addr) (fp:List Addr) (tn:Nat→Heap→Prop) (J:It) (H':Hp),itv=.ref it∧Inv X pins σ H' s2∧Turn X.prog X.w X.K tg J fp it tn∧tn 0 s2.heap∧(∀b∈fp,FpOk X pins H' b)∧R J H'
def PI(X:Cx)(tg iter:Expr)(wi:TI):Prop :=
 ∀(pins:List (Addr×Obj)) (s:Shared) (σ:St) (H:Hp) (R:It→Hp→Prop),Inv X pins σ H s→wi σ H R →
  wpAny (model X.prog X.w) X.A (eval iter X.env) (fun v s1=>wpAny (model X.prog X.w) X.A (pyIter v) (PIE X pins σ tg R) X.xe s1) X.xe s
theorem a5C{M:Model}{A:Around}{E:Value→Shared→Prop}{s:Shared}{tg:Expr}{it:Addr}{u:Value}{o:Obj}{n:String}{vs:Array Value}{Q:Unit→Shared→Prop}(ho:s.heap.get? it=some o)(hc:o.cls=.type n)(hd:o.data=.fields vs)
  (hn:["enumerate","zip","dict_itemiterator","dict_reverseitemiterator","odict_iterator","itertools.zip_longest","itertools.pairwise"].contains n=false) (hQ:Q () s):wpAny M A (letOwnedTupleGo tg (.ref it) u) Q E s:=by
 unfold letOwnedTupleGo
 cases tg<;>first
  | exact wpAny_pure hQ
  | (cases u<;>first
    | exact wpAny_pure hQ
    | (refine wpAny_bind (wpAny_load ho ?_)
       rw[hc,hd]
       show wpAny M A (if(["enumerate","zip","dict_itemiterator","dict_reverseitemiterator","odict_iterator","itertools.zip_longest","itertools.pairwise"].contains n && vs[0]? == some (rawInt _))=true then _ else _) Q E s
       rw[if_neg (by intro h;rw[hn,Bool.false_and]at h;cases h)]
       exact wpAny_pure hQ))
def Itl(K:W.Frag)(a:Addr):It :=
 ⟨fun i H=>∃xs x,SqL K H a xs∧xs[i]? = some x,fun i H x H'=>H'=H∧∀xs,SqL K H a xs→xs[i]? = some x,fun i H=>∃xs,SqL K H a xs∧xs.length≤i⟩
def Itr(lo:Int)(n:Nat):It:=⟨fun i _=>i<n,fun i H x H'=>H'=H∧x=.int (lo+i),fun i _=>n≤i⟩
theorem a6v{P:Program}{w:World}{K:W.Frag}{tg:Expr}(a it:Addr):Turn P w K tg (Itl K a) [it] it (fun i h=>h.IsListIter it a i) where
 mem:=by simp
 obj:=fun i h st b hb=>by
  have e:b=it:=by simpa using hb
  subst e
  obtain⟨o,e,c,d⟩:=st
  exact⟨o,e,fun v z=>by rw[d]at z;cases z⟩
 keep:=fun i h h' st k=>st.at fun o e=>k it (by simp) o e
 item:=by
  intro X hP hw hK hc i pins s σ H E I hf st hg
  subst hP hw hK
  obtain⟨xs,x,hq,hx⟩:=hg
  obtain⟨its,rv,p,hz⟩:=I.list hq
  obtain⟨u,hu,ru⟩:=rv.get hx
  obtain⟨f0,f1,f2,f3,f4,f5⟩:=hf it (by simp)
  refine wpAny_pyNext_list_item st p.isList (x:=u) (by simpa using hu) fun h' st' sb=>?_
  have I1:Inv X pins σ H { s with heap:=h' }:=I.turned (t':=s.toks) (fun b o hb e=>(sb.2 b hb).trans e) f0 f1 f3 f4 f5
  obtain⟨o,e,c,d⟩:=id st'
  exact⟨u,rfl,a5C (s:={ s with heap:=h' }) e c d (by decide) ⟨x,H,I1,ru,⟨rfl,fun ys hy=>by rw[I.list_inj hy hq];exact hx⟩,st',fun b hb=>(hf b hb).1⟩⟩
 done:=by
  intro X hP hw hK hc i pins s σ H E I hf st hg
  subst hP hw hK
  obtain⟨xs,hq,hx⟩:=hg
  obtain⟨its,rv,p,hz⟩:=I.list hq
  obtain⟨f0,f1,f2,f3,f4,f5⟩:=hf it (by simp)
  have hl:=rv.length
  exact wpAny_pyNext_list_end (I.ok.hd hc) st p.isList (by simp;omega) fun h' eb=>⟨rfl,I.turned (t':=s.toks) (fun b o hb e=>eb b o hb e) f0 f1 f3 f4 f5⟩
 self:=fun _ _ _ _ _ st h=>wpAny_pyIter_listiter st h
theorem a5D{P:Program}{w:World}{K:PySem.W.Frag}{tg:Expr}(it:Addr)(lo:Int)(n:Nat):Turn P w K tg (Itr lo n) [it] it (fun i h=>IsRangeIter h it (lo+(i:Nat)*1) ((n:Int)-(i:Nat)) 1) where
 mem:=by simp
 obj:=fun i h st b hb=>by
  have e:b=it:=by simpa using hb
  subst e
  exact⟨_,st,fun v z=>by
   have z':Data.fields _=Data.cell v:=z
   cases z'⟩
 keep:=fun i h h' st k=>k it (by simp) _ st
 item:=by
  intro X hP hw hK hc i pins s σ H E I hf st hg
  subst hP hw hK
  obtain⟨f0,f1,f2,f3,f4,f5⟩:=hf it (by simp)
  have W:=Walks.range (prog:=X.prog) (w:=X.w) (I.ok.hd hc) it lo 1 n
  refine W.item i s _ _ hg st fun v h' tk hv st' kk=>?_
  obtain⟨t,rfl⟩:=hv
  have I1:Inv X pins σ H { s with heap:=h',toks:=tk }:=I.turned (fun b o hb e=>kk b o (by simpa using hb) e) f0 f1 f3 f4 f5
  refine⟨_,rfl,a5C (s:={ s with heap:=h',toks:=tk }) (n := "range_iterator") st' rfl rfl (by decide) ⟨.int (lo+i),H,I1,⟨t,?_⟩,⟨rfl,rfl⟩,st',fun b hb=>(hf b hb).1⟩⟩
  rw[Int.mul_one]
 done:=by
  intro X hP hw hK hc i pins s σ H E I hf st hg
  subst hP hw hK
  obtain⟨f0,f1,f2,f3,f4,f5⟩:=hf it (by simp)
  exact wpAny_pyNext_range_end (I.ok.hd hc) st (by have:n≤i:=hg;omega) fun h' eb=>⟨rfl,I.turned (t':=s.toks) (fun b o hb e=>eb b o hb e) f0 f1 f3 f4 f5⟩
 self:=fun _ _ _ _ _ st h=>wpAny_pyIter_rangeiter st h
section
variable {X:Cx}{tg:Expr}
def a8Q(K:W.Frag)(tl:TE):TI:=fun σ H R=>tl σ H fun x H1=>∃a,x=.ref a∧(∃xs,SqL K H1 a xs)∧R (Itl K a) H1
theorem a9k{l:Expr}{tl:TE}(hl:PE X l tl):PI X tg l (a8Q X.K tl):=by
 intro pins s σ H R I h
 refine l4 (hl pins s σ H _ I h) fun v s1 ⟨x,H1,I1,r1,q1⟩=>?_
 obtain⟨a,e,⟨xs,hq⟩,q⟩:=q1
 subst e
 cases r1
 obtain⟨its,rv,p,hz⟩:=I1.list hq
 refine wpAny_pyIter_list p.isList ?_
 refine⟨s1.heap.objs.size,[s1.heap.objs.size],_,_,H1,rfl,I1.kept (t':=s1.toks) fun b o e=>Heap.get?_push_of_some _ e,a6v a _,⟨_,Heap.get?_push_size _ rfl,rfl,rfl⟩,fun b hb=>?_,q⟩
 have e:b=s1.heap.objs.size:=by simpa using hb
 subst e
 exact I1.fpOk (Nat.le_refl _) (I1.hok.fresh (Nat.le_refl _))
theorem a3U{pins:List (Addr×Obj)}{σ:St}{H:Hp}{s:Shared}{R:It→Hp→Prop}{E:Value→Shared→Prop}{lo hi:Int}{t u v:Tok}{tk:Nat}(I:Inv X pins σ H s)(h1 : -(2 ^ 62)≤lo)(h2:lo<2 ^ 62)(h3 : -(2 ^ 62)≤hi)(h4:hi<2 ^ 62)
  (q:R (Itr lo (hi-lo).toNat) H):wpAny (model X.prog X.w) X.A (pyIter (.ref s.heap.objs.size)) (PIE X pins σ tg R) E { s with heap:=s.heap.push { cls:=.type "range",data:=.fields #[.int lo t,.int hi u,.int 1 v] },toks:=tk }:=by
 refine wpAny_pyIter_range (IsRange.new ..) (small_one h1 h2 h3 h4) ?_
 have I1:Inv X pins σ H { s with heap:=s.heap.push { cls:=.type "range",data:=.fields #[.int lo t,.int hi u,.int 1 v] },toks:=tk }:=I.kept fun b o e=>Heap.get?_push_of_some _ e
 refine⟨(s.heap.push { cls:=.type "range",data:=.fields #[.int lo t,.int hi u,.int 1 v] }).objs.size,[(s.heap.push { cls:=.type "range",data:=.fields #[.int lo t,.int hi u,.int 1 v] }).objs.size],_,_,H,rfl,
  I1.kept (t':=tk) fun b o e=>Heap.get?_push_of_some _ e,a5D _ lo (hi-lo).toNat,?_,fun b hb=>?_,q⟩
 ·have e1:lo+((0:Nat):Int)*1=lo:=by simp
  have e2:(((hi-lo).toNat:Nat):Int)-((0:Nat):Int)=Builtin.Range.rangeSize lo hi 1:=by rw[rangeSize_one];split<;>omega
  show IsRangeIter _ _ (lo+((0:Nat):Int)*1) ((((hi-lo).toNat:Nat):Int)-((0:Nat):Int)) 1
  rw[e1,e2]
  exact Heap.get?_push_size _ rfl
 ·have e:b=(s.heap.push { cls:=.type "range",data:=.fields #[.int lo t,.int hi u,.int 1 v] }).objs.size:=by simpa using hb
  subst e
  exact I1.fpOk (Nat.le_refl _) (I1.hok.fresh (Nat.le_refl _))
def a3D(ta:TA):TI:=fun σ H R=>ta σ H fun vs H1=>∃j:Int,vs=[.int j]∧-(2 ^ 62)≤j∧j<2 ^ 62∧R (Itr 0 j.toNat) H1
def a8R(ta:TA):TI:=fun σ H R=>ta σ H fun vs H1=>∃i j:Int,vs=[.int i,.int j]∧(-(2 ^ 62)≤i∧i<2 ^ 62∧-(2 ^ 62)≤j∧j<2 ^ 62)∧R (Itr i (j-i).toNat) H1
theorem W2{a:Expr}{ta:TA}{p pos:Pos}(hg:Gl X "range")(hm:X.mg "range" = none)(ha:PA X [a] ta)(hs:starEach [a] X.env=[(false,eval a X.env)]:=by rfl):PI X tg (.Call (.Name "range" p) [a] [] pos) (a3D ta):=by
 intro pins s σ H R I h
 refine Call_ (Q7 I hg hm boot_range (PyProof.Rows.callWith_type1 (l4 (ha pos pins s σ H _ I h) fun us s1 ⟨vs,H1,I1,r1,q1⟩=>?_) hs rfl))
 obtain⟨j,e,q1,q2,q⟩:=q1
 subst e
 cases r1 with
 | cons r rr =>
  cases rr
  obtain⟨t,rfl⟩:=r
  exact call_range_1 (a3U I1 (by omega) (by omega) q1 q2 (by simpa using q))
theorem a24{a b:Expr}{ta:TA}{p pos:Pos}(hg:Gl X "range")(hm:X.mg "range" = none)(ha:PA X [a,b] ta)(hs:starEach [a,b] X.env=[(false,eval a X.env),(false,eval b X.env)]:=by rfl)(hs2:starEach [b] X.env=[(false,eval b X.env)]:=by rfl) :
  PI X tg (.Call (.Name "range" p) [a,b] [] pos) (a8R ta):=by
 intro pins s σ H R I h
 refine Call_ (Q7 I hg hm boot_range (PyProof.Rows.callWith_type1 (l4 (ha pos pins s σ H _ I h) fun us s1 ⟨vs,H1,I1,r1,q1⟩=>?_) (by rw[hs,hs2]) (by rw[hs2];rfl)))
 obtain⟨i,j,e,⟨q1,q2,q3,q4⟩,q⟩:=q1
 subst e
 cases r1 with
 | cons r rr =>
  cases rr with
  | cons r' rr =>
   cases rr
   obtain⟨t,rfl⟩:=r
   obtain⟨t',rfl⟩:=r'
   exact call_range_2 (a3U I1 q1 q2 q3 q4 q)
def a1E(wi:TI)(g:TG)(tb:TS):TS:=fun D σ H=>wi σ H fun J H1=>∃W:Nat→Nat→St→Hp→Prop,(∃m,W 0 m σ H1)∧∀i m σ H,W i m σ H →
 (J.stop i H∧D.nx σ H)∨(J.go i H∧∃N:St→Hp→Prop,(∀σ' H',N σ' H'→∃m',m'<m∧W (i+1) m' σ' H')∧∀x H',J.yld i H x H'→g x σ H' fun σ2 H2=>tb { D with nx:=N,ct:=N,bk:=D.nx } σ2 H2)
def a0M(fp:List Addr)(h:Heap):List (Addr×Obj):=fp.filterMap fun b=>(h.get? b).map fun o=>(b,o)
theorem S5{fp:List Addr}{h:Heap}{b:Addr}{o:Obj}(hb:b∈fp)(e:h.get? b=some o):(b,o)∈a0M fp h:=List.mem_filterMap.mpr ⟨b,hb,by rw[e];rfl⟩
theorem a6w{fp:List Addr}{h:Heap}{p:Addr×Obj}(hp:p∈a0M fp h):p.1∈fp∧h.get? p.1=some p.2:=by
 obtain⟨b,hb,e⟩:=List.mem_filterMap.mp hp
 cases q:h.get? b with
 | none=>rw[q]at e;cases e
 | some o =>
  rw[q]at e
  have e':(b,o)=p:=Option.some.inj e
  subst e'
  exact⟨hb,q⟩
theorem Inv.pinned{pins:List (Addr×Obj)}{σ:St}{H:Hp}{s:Shared}{fp:List Addr}(I:Inv X pins σ H s)(hf:∀b∈fp,FpOk X pins H b)(ho:∀b∈fp,∃o,s.heap.get? b=some o∧∀v,o.data≠.cell v):Inv X (pins++a0M fp s.heap) σ H s :=
 I.pins_of fun p hp=>(List.mem_append.mp hp).elim (fun z=>I.pin p (List.mem_append_right _ z)) fun z=>by
  obtain⟨hb,e⟩:=a6w z
  obtain⟨f0,f1,f2,_⟩:=hf p.1 hb
  obtain⟨o,e',d⟩:=ho p.1 hb
  rw[e]at e';cases e'
  exact⟨e,f0,f1,f2,d⟩
theorem Inv.unpinned{pins pl:List (Addr×Obj)}{σ:St}{H:Hp}{s:Shared}(I:Inv X (pins++pl) σ H s):Inv X pins σ H s:=I.pins_of fun p hp=>I.pin p (List.mem_append_right _ (List.mem_append_left _ hp))
theorem J9{iter:Expr}{body:List Stmt}{wi:TI}{g:TG}{tb:TS}{pos:Pos}(hp:PassesOwn (model X.prog X.w) X.A X.env X.xe)(hc:X.calm=true)(hi:PI X tg iter wi)(hg:PG X tg g)(hb:PSs X body tb)
  (hs:∀x,foldedSetIterable iter X.env x=pure x:=by intro _;rfl):PS X (.For tg iter body [] pos) (a1E wi g tb):=by
 intro pins s σ H D I h
 refine wpAny_For (l4 (hi pins s σ H _ I h) fun v s1 h1=>l4 h1 fun itv s2 h2=>?_) hs
 obtain⟨it,fp,tn,J,H2,e,I2,T,st2,f2,W,⟨m0,w0⟩,turn⟩:=h2
 subst e
 -- what stays true of the iterator's objects through the loop
 have stat:∀{H':Hp},(∀b∈fp,H' b=none)→∀b∈fp,FpOk X pins H' b:=fun hn b hb=>⟨hn b hb,(f2 b hb).2⟩
 refine codeAny_forLoop_any (fun n s'=>∃i σ' H',Inv X pins σ' H' s'∧tn i s'.heap∧(∀b∈fp,H' b=none)∧W i n σ' H') ?_ m0 ⟨0,σ,H2,I2,st2,fun b hb=>(f2 b hb).1,w0⟩
 rintro n s3 ⟨i,σ3,H3,I3,st3,fr3,w3⟩
 rcases turn i n σ3 H3 w3 with⟨stop,qn⟩ | ⟨go,N,hN,step⟩
 ·refine wpAny_passesOwn hp (l4 (T.done X rfl rfl rfl hc i pins s3 σ3 H3 X.xe I3 (stat fr3) st3 stop) fun r s4 ⟨hr,I4⟩=>?_)
  subst hr
  exact wpAny_execs_nil ⟨σ3,H3,I4,qn⟩
 ·refine wpAny_passesOwn hp (l4 (T.item X rfl rfl rfl hc i pins s3 σ3 H3 X.xe I3 (stat fr3) st3 go) fun r s4 ⟨u,hr,h4⟩=>?_)
  subst hr
  refine wpAny_passesOwn hp (l4 h4 fun _ s5 ⟨x,H5,I5,r5,y5,st5,fr5⟩=>?_)
  have I5':=I5.pinned (stat fr5) (T.obj _ _ st5)
  refine wpAny_passesOwn hp (l4 (hg _ s5 σ3 H5 x u _ I5' r5 (step x H5 y5)) fun _ s6 ⟨σ6,H6,I6,q6⟩=>?_)
  refine wpAny_passesOwn hp (l4 (hb _ s6 σ6 H6 _ I6 q6) fun f s7 q7=>?_)
  have again:∀{σ7:St} {H7:Hp},Inv X (pins++a0M fp s5.heap) σ7 H7 s7→N σ7 H7→∃m,m<n∧∃i σ' H',Inv X pins σ' H' s7∧tn i s7.heap∧(∀b∈fp,H' b=none)∧W i m σ' H':=fun{σ7 H7} I7 n7=>by
   obtain⟨m',hm,w7⟩:=hN σ7 H7 n7
   refine⟨m',hm,i+1,σ7,H7,I7.unpinned,T.keep _ _ _ st5 fun b hb o e=>(I7.pin (b,o) (List.mem_append_right _ (List.mem_append_right _ (S5 hb e)))).1,fun b hb=>?_,w7⟩
   obtain⟨o,e,d⟩:=T.obj _ _ st5 b hb
   exact(I7.pin (b,o) (List.mem_append_right _ (List.mem_append_right _ (S5 hb e)))).2.1
  cases f with
  | next=>obtain⟨σ7,H7,I7,n7⟩:=q7;exact again I7 n7
  | cont=>obtain⟨σ7,H7,I7,n7⟩:=q7;exact again I7 n7
  | brk=>obtain⟨σ7,H7,I7,q7⟩:=q7;exact⟨σ7,H7,I7.unpinned,q7⟩
  | ret v=>obtain⟨x7,σ7,H7,I7,r7,q7⟩:=q7;exact⟨x7,σ7,H7,I7.unpinned,r7,q7⟩
end
theorem a7o{K:PySem.W.Frag}{a:Addr}{xs:List V}{g:TG}{tb:TS}{D:Ends}{σ:St}{H:Hp}(Pv:Nat→St→Hp→Prop)(h0:Pv 0 σ H)(hl:∀i σ H,i≤xs.length→Pv i σ H→SqL K H a xs)
  (hs:∀i x σ H,xs[i]? = some x→Pv i σ H→g x σ H fun σ2 H2=>tb { D with nx:=Pv (i+1),ct:=Pv (i+1),bk:=D.nx } σ2 H2) (hd:∀σ H,Pv xs.length σ H→D.nx σ H) :
  ∃W:Nat→Nat→St→Hp→Prop,(∃m,W 0 m σ H)∧∀i m σ H,W i m σ H →
   ((Itl K a).stop i H∧D.nx σ H)∨((Itl K a).go i H∧∃N:St→Hp→Prop,(∀σ' H',N σ' H'→∃m',m'<m∧W (i+1) m' σ' H')∧∀x H',(Itl K a).yld i H x H'→g x σ H' fun σ2 H2=>tb { D with nx:=N,ct:=N,bk:=D.nx } σ2 H2):=by
 refine⟨fun i m σ H=>m=xs.length-i∧i≤xs.length∧Pv i σ H,⟨xs.length,by simp,Nat.zero_le _,h0⟩,?_⟩
 rintro i m σ H ⟨rfl,hi,p⟩
 have q:=hl i σ H hi p
 by_cases hlt:i<xs.length
 ·refine .inr ⟨⟨xs,xs[i],q,by simp[hlt]⟩,Pv (i+1),fun σ' H' p'=>⟨xs.length-(i+1),by omega,rfl,hlt,p'⟩,fun x H' y=>?_⟩
  obtain⟨e,y⟩:=y
  subst e
  exact hs i x σ _ (y xs q) p
 ·have e:i=xs.length:=by omega
  subst e
  exact .inl ⟨⟨xs,q,Nat.le_refl _⟩,hd σ H p⟩
theorem a25{lo:Int}{n:Nat}{g:TG}{tb:TS}{D:Ends}{σ:St}{H:Hp}(Pv:Nat→St→Hp→Prop)(h0:Pv 0 σ H)
  (hs:∀i σ H,i<n→Pv i σ H→g (.int (lo+i)) σ H fun σ2 H2=>tb { D with nx:=Pv (i+1),ct:=Pv (i+1),bk:=D.nx } σ2 H2) (hd:∀σ H,Pv n σ H→D.nx σ H) :
  ∃W:Nat→Nat→St→Hp→Prop,(∃m,W 0 m σ H)∧∀i m σ H,W i m σ H →
   ((Itr lo n).stop i H∧D.nx σ H)∨((Itr lo n).go i H∧∃N:St→Hp→Prop,(∀σ' H',N σ' H'→∃m',m'<m∧W (i+1) m' σ' H')∧∀x H',(Itr lo n).yld i H x H'→g x σ H' fun σ2 H2=>tb { D with nx:=N,ct:=N,bk:=D.nx } σ2 H2):=by
 refine⟨fun i m σ H=>m=n-i∧i≤n∧Pv i σ H,⟨n,by simp,Nat.zero_le _,h0⟩,?_⟩
 rintro i m σ H ⟨rfl,hi,p⟩
 by_cases hlt:i<n
 ·refine .inr ⟨hlt,Pv (i+1),fun σ' H' p'=>⟨n-(i+1),by omega,rfl,hlt,p'⟩,fun x H' y=>?_⟩
  obtain⟨e,y⟩:=y
  subst e y
  exact hs i σ _ hlt p
 ·have e:i=n:=by omega
  subst e
  exact .inl ⟨Nat.le_refl _,hd σ H p⟩
abbrev R2:=V→V→Hp→VK→Prop
def OpR(X:Cx)(f:Value→Value→Sem Value)(r:R2):Prop :=
 ∀(pins:List (Addr×Obj)) (s:Shared) (σ:St) (H:Hp) (x y:V) (v u:Value) (Q:VK),Inv X pins σ H s→RelV x v→RelV y u→r x y H Q →
  wpAny (model X.prog X.w) X.A (f v u) (EP X pins σ Q) X.xe s
def CallR(X:Cx)(f:Value)(r:List V→Hp→VK→Prop):Prop :=
 ∀(pins:List (Addr×Obj)) (s:Shared) (σ:St) (H:Hp) (xs:List V) (us:List Value) (Q:VK),Inv X pins σ H s→Vals xs us→r xs H Q →
  wpAny (model X.prog X.w) X.A (call f us) (EP X pins σ Q) X.xe s
def tOp(r:R2)(ta tb:TE):TE:=fun σ H Q=>ta σ H fun x H1=>tb σ H1 fun y H2=>r x y H2 Q
def tUn(r:V→Hp→VK→Prop)(ta:TE):TE:=fun σ H Q=>ta σ H fun x H1=>r x H1 Q
def rI(C:Int→Int→Prop)(g:Int→Int→V):R2:=fun x y H Q=>∃i j,x=.int i∧y=.int j∧C i j∧Q (g i j) H
def U4(g:Int→Int→V):R2:=fun x y H Q=>∃i j,x=.int i∧y=.int j∧Q (g i j) H
section
variable {X:Cx}{a b c:Expr}{ta tb tc:TE}{pos:Pos}
theorem a7p(ha:PE X a ta)(hb:PE X b tb){pins:List (Addr×Obj)}{s:Shared}{σ:St}{H:Hp}{R:V→V→Hp→Prop}(I:Inv X pins σ H s)
  (h:ta σ H fun x H1=>tb σ H1 fun y H2=>R x y H2) {Q:Value→Shared→Prop} {f:Value→Value→Sem Value}
  (hf:∀v u s2 x y H2,Inv X pins σ H2 s2→RelV x v→RelV y u→R x y H2→wpAny (model X.prog X.w) X.A (f v u) Q X.xe s2) :
  wpAny (model X.prog X.w) X.A (eval a X.env) (fun v s₁=>wpAny (model X.prog X.w) X.A (eval b X.env) (fun u s₂=>wpAny (model X.prog X.w) X.A (f v u) Q X.xe s₂) X.xe s₁) X.xe s:=by
 refine l4 (ha pins s σ H _ I h) fun v s1 ⟨x,H1,I1,r1,q1⟩=>?_
 refine l4 (hb pins s1 σ H1 _ I1 q1) fun u s2 ⟨y,H2,I2,r2,q2⟩=>?_
 exact hf v u s2 x y H2 I2 r1 r2 q2
theorem i5{op:Operator}{r:R2}(ho:OpR X (binaryOp op) r)(ha:PE X a ta)(hb:PE X b tb):PE X (.BinOp a op b pos) (tOp r ta tb):=by
 intro pins s σ H Q I h
 exact wpAny_BinOp (a7p ha hb I h fun v u s2 x y H2 I2 rx ry q=>ho pins s2 σ H2 x y v u Q I2 rx ry q)
theorem opI{f:Value→Value→Sem Value}{C:Int→Int→Prop}{g:Int→Int→Int}
  (rule:∀(i j:Int) (t u:Tok) (s:Shared) (Q:Value→Shared→Prop) (E:Value→Shared→Prop),C i j→Q (.int (g i j) s.toks) { s with toks:=s.toks+1 }→wpAny (model X.prog X.w) X.A (f (.int i t) (.int j u)) Q E s) :
  OpR X f (rI C fun i j=>.int (g i j)):=by
 intro pins s σ H x y v u Q I rx ry h
 obtain⟨i,j,rfl,rfl,hc,q⟩:=h
 obtain⟨t,rfl⟩:=rx
 obtain⟨t',rfl⟩:=ry
 exact rule i j t t' s _ _ hc ⟨.int (g i j),H,I.tok _,⟨_,rfl⟩,q⟩
theorem b1b{f:Value→Value→Sem Value}{g:Int→Int→Int}
  (rule:∀(i j:Int) (t u:Tok) (s:Shared) (Q:Value→Shared→Prop) (E:Value→Shared→Prop),Q (.int (g i j) s.toks) { s with toks:=s.toks+1 }→wpAny (model X.prog X.w) X.A (f (.int i t) (.int j u)) Q E s) :
  OpR X f (U4 fun i j=>.int (g i j)):=by
 intro pins s σ H x y v u Q I rx ry h
 obtain⟨i,j,rfl,rfl,q⟩:=h
 obtain⟨t,rfl⟩:=rx
 obtain⟨t',rfl⟩:=ry
 exact rule i j t t' s _ _ ⟨.int (g i j),H,I.tok _,⟨_,rfl⟩,q⟩
theorem a5E{f:Value→Value→Sem Value}{g:Int→Int→Bool}
  (rule:∀(i j:Int) (t u:Tok) (s:Shared) (Q:Value→Shared→Prop) (E:Value→Shared→Prop),Q (.bool (g i j)) s→wpAny (model X.prog X.w) X.A (f (.int i t) (.int j u)) Q E s) :
  OpR X f (U4 fun i j=>.bl (g i j)):=by
 intro pins s σ H x y v u Q I rx ry h
 obtain⟨i,j,rfl,rfl,q⟩:=h
 obtain⟨t,rfl⟩:=rx
 obtain⟨t',rfl⟩:=ry
 exact rule i j t t' s _ _ ⟨.bl (g i j),H,I,rfl,q⟩
def a2D(i j:Int):Prop:=0≤j∧j≤1000000∧i.natAbs<2 ^ 64
def CMul(i j:Int):Prop:=(-(2 ^ 64)<i∧i<2 ^ 64)∨(-(2 ^ 64)<j∧j<2 ^ 64)
theorem CMul.ok{i j:Int}(h:CMul i j):IntMulOk i j:=by
 rcases h with⟨h1,h2⟩ | ⟨h1,h2⟩
 ·exact .of_left (intBits_le_64 h1 h2)
 ·exact .of_right (intBits_le_64 h1 h2)
theorem B4:OpR X (binaryOp .Add) (U4 fun i j=>.int (i+j)):=b1b fun _ _ _ _ _ _ _ q=>add_int q
theorem a12:OpR X (binaryOp .Sub) (U4 fun i j=>.int (i-j)):=b1b fun _ _ _ _ _ _ _ q=>sub_int q
theorem r0:OpR X (binaryOp .Mod) (rI (fun _ j=>0<j) fun i j=>.int (i%j)):=opI fun i j _ _ _ _ _ hc q=>by
 have h1:(0:Int)<j:=hc
 exact mod_int' (by omega) (by rw[Int.fmod_eq_emod_of_nonneg i (by omega)];exact q)
theorem a3V:OpR X (binaryOp .Pow) (rI a2D fun i j=>.int (i ^ j.toNat)):=opI fun _ _ _ _ _ _ _ hc q=>pow_int_small hc.1 hc.2.1 hc.2.2 q
end
def a5F:V→V→Bool
 | .non,.non=>true | .non,.int _=>true | .int _,.non=>true | .non,.bl _=>true | .bl _,.non=>true | .non,.str _=>true | .str _,.non=>true
 | .int _,.int _=>true | .bl _,.bl _=>true | .str _,.str _=>true | .byt _,.byt _=>true
 | .int _,.str _=>true | .str _,.int _=>true | .bl _,.str _=>true | .str _,.bl _=>true
 | _,_=>false
def rEq:R2:=fun x y H Q=>a5F x y=true∧Q (.bl (decide (x=y))) H
def rNe:R2:=fun x y H Q=>a5F x y=true∧Q (.bl (!decide (x=y))) H
theorem a4X{i j:Int}:decide (V.int i=V.int j)=(i == j):=by
 rw[Bool.eq_iff_iff]
 simp
theorem a6x{i j:Bool}:decide (V.bl i=V.bl j)=(i == j):=by
 rw[Bool.eq_iff_iff]
 simp
theorem a4Y{i j:Str}:decide (V.str i=V.str j)=(i == j):=by
 rw[Bool.eq_iff_iff]
 simp
theorem a4Z{i j:Array UInt8}:decide (V.byt i=V.byt j)=(i.toList == j.toList):=by
 rw[Bool.eq_iff_iff]
 cases i
 cases j
 simp
section
variable {X:Cx}{a b c:Expr}{ta tb tc:TE}{pos:Pos}
theorem m9{pins:List (Addr×Obj)}{σ:St}{H:Hp}{s:Shared}{Q:VK}{k k':Bool}(I:Inv X pins σ H s)(q:Q (.bl k) H)(e:k=k'):EP X pins σ Q (.bool k') s:=by
 subst e
 exact⟨.bl k,H,I,rfl,q⟩
theorem N1:OpR X (compareOp .Eq) rEq:=by
 intro pins s σ H x y v u Q I rx ry h
 obtain⟨hs,q⟩:=h
 cases x with
 | non =>
  cases rx
  cases y with
  | non=>cases ry;exact PySem.EqNone.eq_none_none (m9 I q (by simp))
  | bl j=>cases ry;exact PySem.EqNone.eq_none_bool (m9 I q (by simp))
  | int j=>obtain⟨t',rfl⟩:=ry;exact PySem.EqNone.eq_none_int (m9 I q (by simp))
  | str j=>obtain⟨t',rfl⟩:=ry;exact PySem.EqNone.eq_none_str (m9 I q (by simp))
  | _=>exact absurd (show false=true from hs) Bool.false_ne_true
 | bl i =>
  cases rx
  cases y with
  | non=>cases ry;exact PySem.EqNone.eq_bool_none (m9 I q (by simp))
  | bl j=>cases ry;exact eq_bool (m9 I q a6x)
  | str j=>obtain⟨t',rfl⟩:=ry;exact PySem.EqMixed.eq_bool_str (m9 I q (by simp))
  | _=>exact absurd (show false=true from hs) Bool.false_ne_true
 | int i =>
  obtain⟨t,rfl⟩:=rx
  cases y with
  | non=>cases ry;exact PySem.EqNone.eq_int_none (m9 I q (by simp))
  | int j=>obtain⟨t',rfl⟩:=ry;exact eq_int (m9 I q a4X)
  | str j=>obtain⟨t',rfl⟩:=ry;exact PySem.EqMixed.eq_int_str (m9 I q (by simp))
  | _=>exact absurd (show false=true from hs) Bool.false_ne_true
 | str i =>
  obtain⟨t,rfl⟩:=rx
  cases y with
  | non=>cases ry;exact PySem.EqNone.eq_str_none (m9 I q (by simp))
  | bl j=>cases ry;exact PySem.EqMixed.eq_str_bool (m9 I q (by simp))
  | int j=>obtain⟨t',rfl⟩:=ry;exact PySem.EqMixed.eq_str_int (m9 I q (by simp))
  | str j=>obtain⟨t',rfl⟩:=ry;exact eq_str (m9 I q a4Y)
  | _=>exact absurd (show false=true from hs) Bool.false_ne_true
 | byt i =>
  obtain⟨t,rfl⟩:=rx
  cases y with
  | byt j=>obtain⟨t',rfl⟩:=ry;exact W.eq_bytes (m9 I q a4Z)
  | _=>exact absurd (show false=true from hs) Bool.false_ne_true
 | _=>cases y<;>exact absurd (show false=true from hs) Bool.false_ne_true
theorem a3E:OpR X (compareOp .NotEq) rNe:=by
 intro pins s σ H x y v u Q I rx ry h
 obtain⟨hs,q⟩:=h
 cases x with
 | non =>
  cases rx
  cases y with
  | non=>cases ry;exact PySem.EqNone.ne_none_none (m9 I q (by simp))
  | bl j=>cases ry;exact PySem.EqNone.ne_none_bool (m9 I q (by simp))
  | int j=>obtain⟨t',rfl⟩:=ry;exact PySem.EqNone.ne_none_int (m9 I q (by simp))
  | str j=>obtain⟨t',rfl⟩:=ry;exact PySem.EqNone.ne_none_str (m9 I q (by simp))
  | _=>exact absurd (show false=true from hs) Bool.false_ne_true
 | bl i =>
  cases rx
  cases y with
  | non=>cases ry;exact PySem.EqNone.ne_bool_none (m9 I q (by simp))
  | bl j=>cases ry;exact ne_bool (m9 I q (congrArg not a6x))
  | str j=>obtain⟨t',rfl⟩:=ry;exact PySem.EqMixed.ne_bool_str (m9 I q (by simp))
  | _=>exact absurd (show false=true from hs) Bool.false_ne_true
 | int i =>
  obtain⟨t,rfl⟩:=rx
  cases y with
  | non=>cases ry;exact PySem.EqNone.ne_int_none (m9 I q (by simp))
  | int j=>obtain⟨t',rfl⟩:=ry;exact ne_int (m9 I q (congrArg not a4X))
  | str j=>obtain⟨t',rfl⟩:=ry;exact PySem.EqMixed.ne_int_str (m9 I q (by simp))
  | _=>exact absurd (show false=true from hs) Bool.false_ne_true
 | str i =>
  obtain⟨t,rfl⟩:=rx
  cases y with
  | non=>cases ry;exact PySem.EqNone.ne_str_none (m9 I q (by simp))
  | bl j=>cases ry;exact PySem.EqMixed.ne_str_bool (m9 I q (by simp))
  | int j=>obtain⟨t',rfl⟩:=ry;exact PySem.EqMixed.ne_str_int (m9 I q (by simp))
  | str j=>obtain⟨t',rfl⟩:=ry;exact ne_str (m9 I q (congrArg not a4Y))
  | _=>exact absurd (show false=true from hs) Bool.false_ne_true
 | byt i =>
  obtain⟨t,rfl⟩:=rx
  cases y with
  | byt j=>obtain⟨t',rfl⟩:=ry;exact W.ne_bytes (m9 I q (congrArg not a4Z))
  | _=>exact absurd (show false=true from hs) Bool.false_ne_true
 | _=>cases y<;>exact absurd (show false=true from hs) Bool.false_ne_true
theorem a5G:OpR X (compareOp .Lt) (U4 fun i j=>.bl (decide (i<j))):=a5E fun _ _ _ _ _ _ _ q=>lt_int q
theorem a0b:OpR X (compareOp .LtE) (U4 fun i j=>.bl (decide (i≤j))):=a5E fun _ _ _ _ _ _ _ q=>le_int q
theorem S6:OpR X (compareOp .Gt) (U4 fun i j=>.bl (decide (j<i))):=a5E fun _ _ _ _ _ _ _ q=>gt_int q
theorem a5H:OpR X (compareOp .GtE) (U4 fun i j=>.bl (decide (j≤i))):=a5E fun _ _ _ _ _ _ _ q=>ge_int q
theorem a40:OpR X (compareOp .IsNot) (fun x y H Q=>y=.non∧Q (.bl (!decide (x=.non))) H):=by
 intro pins s σ H x y v u Q I rx ry h
 obtain⟨rfl,q⟩:=h
 cases ry
 refine isnot_none_gen (m9 I q ?_)
 cases x<;>first
  | (cases rx;rfl)
  | (obtain⟨t,rfl⟩:=rx;rfl)
theorem OpR.or{f:Value→Value→Sem Value}{r r':R2}(h:OpR X f r)(h':OpR X f r'):OpR X f (fun x y H Q=>r x y H Q∨r' x y H Q):=by
 intro pins s σ H x y v u Q I rx ry q
 rcases q with q | q
 ·exact h pins s σ H x y v u Q I rx ry q
 ·exact h' pins s σ H x y v u Q I rx ry q
theorem j4(b:Expr){op:CmpOp}(h:op≠.In:=by decide)(h2:op≠.NotIn:=by decide):behindInMarks op b=false:=by
 have e1:(op == CmpOp.In)=false:=by cases op<;>first | rfl | exact absurd rfl h
 have e2:(op == CmpOp.NotIn)=false:=by cases op<;>first | rfl | exact absurd rfl h2
 cases b<;>simp[behindInMarks,e1,e2]
theorem x8{op:CmpOp}{r:R2}(ho:OpR X (compareOp op) r)(ha:PE X a ta)(hb:PE X b tb)(hm:behindInMarks op b=false):PE X (.Compare a [op] [b] pos) (tOp r ta tb):=by
 intro pins s σ H Q I h
 exact wpAny_Compare1 (a7p ha hb I h fun v u s2 x y H2 I2 rx ry q=>ho pins s2 σ H2 x y v u Q I2 rx ry q) hm
def a8T(t:TE):TT:=fun σ H Q=>t σ H fun x H'=>∃k,x=.bl k∧Q k H'
theorem n6{op:CmpOp}{r:R2}(ho:OpR X (compareOp op) r)(ha:PE X a ta)(hb:PE X b tb)(hm:behindInMarks op b=false):PT X (.Compare a [op] [b] pos) (a8T (tOp r ta tb)):=by
 intro pins s σ H Q I h
 refine wpAny_isTrue_Compare1 (l4 (ha pins s σ H _ I h) fun v s1 ⟨x,H1,I1,r1,q1⟩=>l4 (hb pins s1 σ H1 _ I1 q1) fun u s2 ⟨y,H2,I2,r2,q2⟩ =>
  l4 (ho pins s2 σ H2 x y v u _ I2 r1 r2 q2) fun c s3 ⟨z,H3,I3,r3,k,e,q3⟩=>?_) hm
 subst e
 cases r3
 exact wpAny_truthy_bool ⟨H3,I3,q3⟩
theorem Y7:(sizeLine:Nat)<2 ^ 63:=by rw[sizeLine_eq];decide
theorem a5I{x:V}{us:List Value}(r:Vals [x] us):∃u,us=[u]∧RelV x u:=by
 cases r with
 | cons r1 r2=>cases r2;exact⟨_,rfl,r1⟩
theorem a3F{x y:V}{us:List Value}(r:Vals [x,y] us):∃u w',us=[u,w']∧RelV x u∧RelV y w':=by
 cases r with
 | cons r1 r2 =>
  cases r2 with
  | cons r3 r4=>cases r4;exact⟨_,_,rfl,r1,r3⟩
theorem a27(hc:X.calm=true):CallR X (.builtin "max") (fun xs H Q=>∃i j,xs=[.int i,.int j]∧Q (.int (if j > i then j else i)) H):=by
 intro pins s σ H xs us Q I r h
 obtain⟨i,j,rfl,q⟩:=h
 obtain⟨u,w',rfl,⟨t,rfl⟩,⟨t',rfl⟩⟩:=a3F r
 refine max_two_ints (I.ok.hd hc) fun h' tk k=>⟨_,H,I.kept k,?_,q⟩
 by_cases hj:j > i
 ·rw[if_pos hj,if_pos hj];exact⟨_,rfl⟩
 ·rw[if_neg hj,if_neg hj];exact⟨_,rfl⟩
theorem a28(hc:X.calm=true):CallR X (.builtin "min") (fun xs H Q=>∃i j,xs=[.int i,.int j]∧Q (.int (if j<i then j else i)) H):=by
 intro pins s σ H xs us Q I r h
 obtain⟨i,j,rfl,q⟩:=h
 obtain⟨u,w',rfl,⟨t,rfl⟩,⟨t',rfl⟩⟩:=a3F r
 refine min_two_ints (I.ok.hd hc) fun h' tk k=>⟨_,H,I.kept k,?_,q⟩
 by_cases hj:j<i
 ·rw[if_pos hj,if_pos hj];exact⟨_,rfl⟩
 ·rw[if_neg hj,if_neg hj];exact⟨_,rfl⟩
end
structure ObjM(h:Heap)(x dx C:Addr)(mA:Str→Option Value):Prop where
 obj:h.get? x=some (W.instObj C dx)
 ns:h.Ns1 dx mA
 ne:dx≠x
theorem a29{h:Heap}{dx:Addr}{mA:Str→Option Value}(n:h.Ns1 dx mA):∃od,h.get? dx=some od∧∀name,W.lookIn name od=some (mA name):=by
 obtain⟨o,es,ep,ho,hd,hk,_,hm⟩:=n
 refine⟨o,ho,fun name=>?_⟩
 have e:=hm name
 unfold nsFind findBy at e
 rw[← Array.find?_toList]at e
 unfold W.lookIn
 rw[hd]
 dsimp only
 split
 ·rename_i y q
  rw[q]at e
  exact congrArg some e
 ·rename_i q
  rw[q]at e
  have a:es.toList.any (·.refKey)=false:=by
   rw[List.any_eq_false]
   intro y hy
   obtain⟨z,t,hkey⟩:=hk y (Array.mem_toList_iff.mp hy)
   simp[DictEntry.refKey,hkey]
  have a':¬es.toList.any (·.refKey)=true:=by rw[a];exact Bool.false_ne_true
  rw[if_neg a']
  exact congrArg some e
theorem ObjM.look{h:Heap}{x dx C:Addr}{mA:Str→Option Value}(I:ObjM h x dx C mA):∃od,W.InstAt h x (W.instObj C dx) C (some od)∧∀name,W.lookIn name od=some (mA name) :=
 let ⟨od,ho,hl⟩:=a29 I.ns
 ⟨od,⟨I.obj,rfl,rfl,ho⟩,hl⟩
theorem RelO.some_of{v:V}{o:Option Value}(r:RelO (some v) o):∃u,o=some u∧RelV v u:=by
 cases o with
 | none=>exact(show False from r).elim
 | some u=>exact⟨u,rfl,r⟩
theorem a6y{v:V}{u:Value}(r:RelV v u):W.handedIn u=true:=by
 cases v with
 | non=>cases (show u=Value.none from r);rfl
 | bl b=>cases (show u=Value.bool b from r);rfl
 | int i=>obtain⟨t,e⟩:=(show ∃t,u=Value.int i t from r);cases e;rfl
 | str x=>obtain⟨t,e⟩:=(show ∃t,u=Value.str x t from r);cases e;rfl
 | byt b=>obtain⟨t,e⟩:=(show ∃t,u=Value.bytes b t from r);cases e;rfl
 | flt b=>obtain⟨t,e⟩:=(show ∃t,u=Value.float b t from r);cases e;rfl
 | ref a=>cases (show u=Value.ref a from r);rfl
 | ty n=>cases (show u=Value.type n from r);rfl
section
variable {P:Program}{w:World}{H H':Hp}{h h':Heap}{a C dx:Addr}{fs fs':List (Str×V)}
theorem a9l(hok:HOk P w H h)(e:H a=some (.ins C dx fs)):∃mA,ObjM h a dx C mA∧(∀f,RelO (fs.lookup f) (mA f))∧PySem.Within mA (fs.map (·.1))∧fs.length≤1000∧H dx=some (.own a):=by
 obtain⟨d,z,ne,ob,mA,n,r,q⟩:=(show ObjOk P w H h a (.ins C dx fs)from hok a _ e)
 exact⟨mA,⟨ob,n,ne⟩,r,q,z,d⟩
end
structure Cls(K:W.Frag)(C:Addr):Prop where
 pg:W.plainGet K C Str.empty=true
 hd:W.hasDictIn K C=true
 po:W.plainOver K C=true
 sa:W.findIn K (.ref C) "__setattr__" = some (some (.builtin "object.__setattr__"))
theorem Cls.get{K:W.Frag}{C:Addr}(c:Cls K C)(f:Str):W.plainGet K C f=true:=c.pg
section
variable {X:Cx}{pins:List (Addr×Obj)}{σ:St}{H:Hp}{s:Shared}{a C dx:Addr}{fs:List (Str×V)}{f:Str}{v:V}{A:Around}{E:Value→Shared→Prop}
theorem Inv.made(I:Inv X pins σ H s):Inv X pins σ (upd (upd H s.heap.objs.size (.own (s.heap.objs.size+1))) (s.heap.objs.size+1) (.ins C s.heap.objs.size []))
  { s with heap:=(s.heap.push W.emptyDict).push (W.instObj C s.heap.objs.size) }:=by
 have e1:(s.heap.push W.emptyDict).get? s.heap.objs.size=some W.emptyDict:=Heap.get?_push_size s.heap rfl
 have e2:((s.heap.push W.emptyDict).push (W.instObj C s.heap.objs.size)).get? (s.heap.objs.size+1)=some (W.instObj C s.heap.objs.size):=by
  have:=Heap.get?_push_size (s.heap.push W.emptyDict) (o:=W.instObj C s.heap.objs.size) rfl
  rwa [Heap.size_push]at this
 have e3:(s.heap.push W.emptyDict).Ns s.heap.objs.size (fun _=>none):=⟨W.emptyDict,#[],_,e1,rfl,(fun e he=>absurd he (by simp)),fun _=>rfl⟩
 have I1:=I.laid (a:=s.heap.objs.size) (o:=.own (s.heap.objs.size+1)) (h':=s.heap.push W.emptyDict) (t':=s.toks) (fun b u q=>Heap.get?_push_of_some _ q) (Nat.le_refl _) ⟨_,e1⟩
 refine I1.laid (a:=s.heap.objs.size+1) (o:=.ins C s.heap.objs.size []) (t':=s.toks) (fun b u q=>Heap.get?_push_of_some _ q) (Nat.le_of_eq (Heap.size_push _ _)) ?_
 have ne:s.heap.objs.size≠s.heap.objs.size+1:=Nat.ne_of_lt (Nat.lt_succ_self _)
 refine⟨by rw[b9 ne,i8],Nat.zero_le _,ne,e2,fun _=>none,(Heap.Ns1.of_empty e3).at fun o q=>Heap.get?_push_of_some _ q,fun _=>True.intro,fun y hy=>absurd rfl hy⟩
theorem a9m{prog:Program}{w:World}{env:Env}{e:Expr}{f:Str}{pos:Pos}{s:Shared}{Q:Value→Shared→Prop}(hb:attributeBase e f env (eval e env)=eval e env)
  (h:wpAny (model prog w) A (eval e env) (fun o s₁=>wpAny (model prog w) A (getAttr o f true) Q E s₁) E s):wpAny (model prog w) A (eval (.Attribute e f pos) env) Q E s :=
 Attribute_any_ h (by rw[arm_eval_Attribute,hb])
end
section
variable {X:Cx}{pins:List (Addr×Obj)}{σ:St}{H:Hp}{s:Shared}{A:Around}{E:Value→Shared→Prop}{Q:Value→Shared→Prop}{c:Value}{b:Bool}
inductive TyOf(K:W.Frag)(H:Hp):V→Value→Prop where
 | non:TyOf K H .non (.type "NoneType")
 | bl (x:Bool):TyOf K H (.bl x) (.type "bool")
 | int (i:Int):TyOf K H (.int i) (.type "int")
 | str (x:Str):TyOf K H (.str x) (.type "str")
 | flt (x:UInt64):TyOf K H (.flt x) (.type "float")
 | lst {a:Addr} {xs:List V} (e:H a=some (.lst xs)):TyOf K H (.ref a) (.type "list")
 | frz {a:Addr} {o:Obj} {xs:List V} (e:H a=some (.frz o (.lst xs))):TyOf K H (.ref a) (.type "list")
 | tup {a:Addr} {xs:List V} (e:H a=some (.tup xs)):TyOf K H (.ref a) (.type "tuple")
 | dK {a:Addr} {kvs:List (x6×V)} (e:H a=some (.dK kvs)):TyOf K H (.ref a) (.type "dict")
 | dT {a:Addr} {kvs:List (List x6×V)} (e:H a=some (.dT kvs)):TyOf K H (.ref a) (.type "dict")
 | ins {a C dx:Addr} {fs:List (Str×V)} (e:H a=some (.ins C dx fs)) (cl:Cls K C) (ha:W.findIn K (.ref C) "__class__" = some (some (.builtin "object.__class__")))
   (hn:W.specialIn K (.builtin "object.__class__") "__get__" = some (some (.builtin "getset_descriptor.__get__"))) (htk:W.takesIn K (.builtin "object.__class__")=some true)
   (hm:W.mroIn K C (.type "object")=some true):TyOf K H (.ref a) (.ref C)
end
structure Room(k:Nat)(A:Around):Prop where
 hd:A.handled=none
 dp:A.depth+3*k+5<recursionLimit
 un:A.units+16*k+200<cLine
theorem Room.mono{j k:Nat}{A:Around}(r:Room k A)(h:j≤k):Room j A:=⟨r.hd,by have:=r.dp;omega,by have:=r.un;omega⟩
theorem Room.deeper{k:Nat}{A:Around}(r:Room (k+1) A)(env:Env):Room k (A.deeper env) :=
 ⟨r.hd,by have:=r.dp;show A.depth+1+3*k+5<_;omega,by have:=r.un;show A.units+3+16*k+200<_;omega⟩
theorem Room.in1{k:Nat}{A:Around}(r:Room (k+1) A):Room k A.in1 :=
 ⟨r.hd,by have:=r.dp;show A.depth+3*k+5<_;omega,by have:=r.un;show A.units+1+16*k+200<_;omega⟩
theorem a5J{A:Around}{C:Addr}{us:List Value}{kw:List (Str×Value)}:(A.under (.builtin "type.__call__" ⟨.ref C::us,kw⟩)).depth=A.depth+1:=by
 first | rfl | simp[Around.under,Code.weight,Code.isCreation,Code.isGuard,Code.isCaller,Code.frames,Code.isFrame,guardIds]
theorem a5K{A:Around}{C:Addr}{us:List Value}{kw:List (Str×Value)}:(A.under (.builtin "type.__call__" ⟨.ref C::us,kw⟩)).units=A.units+1:=by
 first | rfl | simp[Around.under,Code.cUnits,Code.frames,Code.isFrame]
theorem Room.make{k:Nat}{A:Around}(r:Room (k+1) A)(C:Addr)(us:List Value)(kw:List (Str×Value)):Room k (A.under (.builtin "type.__call__" ⟨.ref C::us,kw⟩)) :=
 ⟨r.hd,by have:=r.dp;rw[a5J];omega,by have:=r.un;rw[a5K];omega⟩
theorem Room.depth{k:Nat}{A:Around}(r:Room k A):A.depth<recursionLimit:=by have:=r.dp;omega
theorem Room.units{k:Nat}{A:Around}(r:Room k A):A.units+64<cLine:=by have:=r.un;omega
def U5:TA:=fun _ H Q=>Q [] H
def I0(ta:TE)(tr:TA):TA:=fun σ H Q=>ta σ H fun x H1=>tr σ H1 fun xs H2=>Q (x::xs) H2
section
variable {X:Cx}{e:Expr}{es:List Expr}{te:TE}{t:TA}{pos:Pos}
theorem b6:PA X [] U5:=fun _ _ _ _ H Q I h=>Calls.spliced_nil ⟨[],H,I,.nil,h⟩
theorem a6(ha:PE X e te)(hr:PA X es t)(hs:starEach (e::es) X.env=(false,eval e X.env)::starEach es X.env:=by rfl):PA X (e::es) (I0 te t):=by
 intro pos pins s σ H Q I h
 rw[hs]
 show wpAny _ _ (spliced ((false,eval e X.env)::backTo pos (starEach es X.env))) _ _ s
 refine Calls.spliced_cons (l4 (ha pins s σ H _ I h) fun u s1 ⟨x,H1,I1,r1,q1⟩=>?_)
 exact l4 (hr pos pins s1 σ H1 _ I1 q1) fun us s2 ⟨xs,H2,I2,r2,q2⟩=>⟨x::xs,H2,I2,.cons r1 r2,q2⟩
def b1c(t:TA):TE:=fun σ H Q=>t σ H fun xs H1=>xs.length≤sizeLine∧∀p,H1 p=none→Q (.ref p) (upd H1 p (.tup xs))
def b1d(t:TA):TE:=fun σ H Q=>t σ H fun xs H1=>xs.length≤sizeLine∧∀p,H1 p=none→Q (.ref p) (upd H1 p (.lst xs))
theorem n0{x1}(h:PA X es t):PE X (.Tuple es x1 pos) (b1c t):=by
 intro pins s σ H Q I hq
 refine wpAny_Tuple_spliced (l4 (h pos pins s σ H _ I hq) fun us s1 ⟨xs,H1,I1,r,z,q⟩=>⟨by rw[← r.length];exact z,?_⟩)
 have hf:H1 s1.heap.objs.size=none:=I1.hok.fresh (Nat.le_refl _)
 refine⟨.ref s1.heap.objs.size,upd H1 s1.heap.objs.size (.tup xs),I1.laid (t':=s1.toks) (fun b u e=>Heap.get?_push_of_some _ e) (Nat.le_refl _) ?_,rfl,q _ hf⟩
 exact⟨z,us,r,⟨_,Heap.get?_push_size _ rfl,rfl,_,rfl⟩⟩
theorem C1(h:PA X es t):PE X (.List es pos) (b1d t):=by
 intro pins s σ H Q I hq
 refine wpAny_List_spliced (l4 (h pos pins s σ H _ I hq) fun us s1 ⟨xs,H1,I1,r,z,q⟩=>⟨by rw[← r.length];exact z,?_⟩)
 have hf:H1 s1.heap.objs.size=none:=I1.hok.fresh (Nat.le_refl _)
 refine⟨.ref s1.heap.objs.size,upd H1 s1.heap.objs.size (.lst xs),I1.laid (t':=s1.toks) (fun b u e=>Heap.get?_push_of_some _ e) (Nat.le_refl _) ?_,rfl,q _ hf⟩
 exact⟨z,us,0,r,Heap.get?_push_size _ rfl⟩
end
abbrev Sp:=List V→Hp→VK→XK→Prop
abbrev Y8:=List Env→Hp→Shared→XK→Value→Shared→Prop
structure Env0(P:Program)(w:World)(K:W.Frag)(mg:Str→Option Value)(base:Heap)(A:Around)(outer:List Env)(s:Shared)(H:Hp):Prop where
 frames:A.frames=some outer
 mod:Mod K mg base
 bs:∀b o,base.get? b=some o→s.heap.get? b=some o∧H b=none
 bsz:base.objs.size≤s.heap.objs.size
 funs:s.heap.FunFrames base outer
 frf:∀b∈C5 outer,H b=none
 hok:HOk P w H s.heap
 bare:AllBare s.gens
def CE(outer:List Env)(P:Program)(w:World)(H:Hp)(s:Shared)(Q:VK)(u:Value)(s':Shared):Prop :=
 ∃v H',s'.os=s.os∧AllBare s'.gens∧Un (C5 outer) [] H H' s.heap s'.heap∧HOk P w H' s'.heap∧RelV v u∧Q v H'
def CR(CX:Y8)(outer:List Env)(P:Program)(w:World)(H:Hp)(s:Shared)(Q:VK)(E:XK)(r:Result)(s':Shared):Prop :=
 match r with
 | .ok (.ret u)=>CE outer P w H s Q u s'
 | .ok _=>False
 | .error e=>CX outer H s E e s'
structure FnOk(P:Program)(w:World)(K:W.Frag)(mg:Str→Option Value)(base:Heap)(CX:Y8)(k:Nat)(f:Addr)(fd:FuncData)(ps:List Str)(sp:Sp):Prop where
 len:∀vs H Q E,sp vs H Q E→vs.length=ps.length
 run:∀(A:Around) (outer:List Env) (s:Shared) (H:Hp) (args:Args) (us:List Value) (vs:List V) (Q:VK) (E:XK),Room k A→Env0 P w K mg base A outer s H→BindsTo s fd args (ps.zip us)→Vals vs us→sp vs H Q E →
  codeAny (model P w) A (.call (.ref f) args) (CR CX outer P w H s Q E) s
theorem FnOk.mono{P:Program}{w:World}{K:W.Frag}{mg:Str→Option Value}{base:Heap}{CX:Y8}{j k:Nat}{f:Addr}{fd:FuncData}{ps:List Str}{sp:Sp}(F:FnOk P w K mg base CX j f fd ps sp)(h:j≤k) :
  FnOk P w K mg base CX k f fd ps sp:=⟨F.len,fun A outer s H args us vs Q E hr=>F.run A outer s H args us vs Q E (hr.mono h)⟩
theorem FnOk.imp{P:Program}{w:World}{K:W.Frag}{mg:Str→Option Value}{base:Heap}{CX:Y8}{k:Nat}{f:Addr}{fd:FuncData}{ps:List Str}{sp sp':Sp}(F:FnOk P w K mg base CX k f fd ps sp)
  (h:∀vs H Q E,sp' vs H Q E→sp vs H Q E):FnOk P w K mg base CX k f fd ps sp' :=
 ⟨fun vs H Q E q=>F.len vs H Q E (h _ _ _ _ q),fun A outer s H args us vs Q E hr he hb hv hs=>F.run A outer s H args us vs Q E hr he hb hv (h _ _ _ _ hs)⟩
theorem Env0.make{P:Program}{w:World}{K:W.Frag}{mg:Str→Option Value}{base:Heap}{A:Around}{outer:List Env}{s:Shared}{H:Hp}(e:Env0 P w K mg base A outer s H)(C:Addr)(us:List Value)(kw:List (Str×Value)) :
  Env0 P w K mg base (A.under (.builtin "type.__call__" ⟨.ref C::us,kw⟩)) outer s H:=⟨by first | exact e.frames | (simpa [Around.under,Code.envs,Code.isFrame,pushEnvs]using e.frames),e.mod,e.bs,e.bsz,e.funs,e.frf,e.hok,e.bare⟩
theorem Env0.in1{P:Program}{w:World}{K:W.Frag}{mg:Str→Option Value}{base:Heap}{A:Around}{outer:List Env}{s:Shared}{H:Hp}(e:Env0 P w K mg base A outer s H) :
  Env0 P w K mg base A.in1 outer s H:=⟨e.frames,e.mod,e.bs,e.bsz,e.funs,e.frf,e.hok,e.bare⟩
section
variable {X:Cx}{pins:List (Addr×Obj)}{σ:St}{H:Hp}{s s':Shared}
theorem Inv.env0(I:Inv X pins σ H s):Env0 X.prog X.w X.K X.mg X.base X.A X.stack s H :=
 ⟨I.ok.frames,I.ok.mod,I.bs,Nat.le_trans I.ok.bsz I.sz,I.stack,I.stkFree,I.hok,I.bare⟩
theorem Inv.after{Q:VK}{u:Value}(I:Inv X pins σ H s)(h:CE X.stack X.prog X.w H s Q u s'):EP X pins σ Q u s':=by
 obtain⟨v,H',os,bare,un,hok,r,q⟩:=h
 obtain⟨hh,g,d,t,os'⟩:=s'
 obtain rfl:os'=s.os:=os
 exact⟨v,H',I.call (h':=hh) (g':=g) (d':=d) (t':=t) (ch:=[]) un hok bare (fun b z=>absurd z (by simp)),r,q⟩
end
def a0c(sp:Sp)(dvs:List V)(E:XK)(t:TA):TE:=fun σ H Q=>t σ H fun vs H1=>sp (vs++dvs) H1 Q E
def Binds(K:W.Frag)(fd:FuncData)(ps:List Str)(ds:List Value):Prop :=
 ∀(s:Shared) (us:List Value),K.In s.heap→(us++ds).length=ps.length→BindsTo s fd ⟨us,[]⟩ (ps.zip (us++ds))
theorem Binds.all{K:W.Frag}{fd:FuncData}{ps:List Str}(h:∀us:List Value,us.length=ps.length→bindArgs fd ⟨us,[]⟩=pure (ps.zip us)):Binds K fd ps []:=fun s us _ hl=>by
 rw[List.append_nil]at hl ⊢
 exact .of_eq (h us hl)
def a0N(CX:Y8)(X:Cx)(E:XK):Prop:=∀(pins:List (Addr×Obj)) (σ:St) (H:Hp) (s:Shared) (e:Value) (s':Shared),Inv X pins σ H s→CX X.stack H s E e s'→X.xe e s'
section
variable {X:Cx}{CX:Y8}{k:Nat}{f C:Addr}{fd:FuncData}{ps:List Str}{sp:Sp}{dvs:List V}{ds:List Value}{E:XK}{x m:Str}{p pos apos:Pos}{e o:Expr}{es:List Expr}{ta:TE}{t:TA}
theorem b1e{pins:List (Addr×Obj)}{σ:St}{H:Hp}{s:Shared}{Q:VK}{us:List Value}{vs:List V}(F:FnOk X.prog X.w X.K X.mg X.base CX k f fd ps sp)(hr:Room k X.A)(hb:Binds X.K fd ps ds)(hd:Vals dvs ds)(hx:a0N CX X E)
  (I:Inv X pins σ H s) (r:Vals vs us) (h:sp (vs++dvs) H Q E):wpAny (model X.prog X.w) X.A (call (.ref f) us) (EP X pins σ Q) X.xe s:=by
 have r2:Vals (vs++dvs) (us++ds):=r.append hd
 have hl:(us++ds).length=ps.length:=by rw[← r2.length];exact F.len _ _ _ _ h
 refine wpAny_call (codeAny_mono (F.run X.A X.stack s H ⟨us,[]⟩ (us++ds) (vs++dvs) Q E hr I.env0 (hb s us I.kIn hl) r2 h) fun r s' hq=>?_)
 cases r with
 | error e=>exact hx pins σ H s e s' I hq
 | ok fl =>
  cases fl with
  | ret u=>exact I.after hq
  | next=>exact False.elim hq
  | brk=>exact False.elim hq
  | cont=>exact False.elim hq
theorem a9n(F:FnOk X.prog X.w X.K X.mg X.base CX k f fd ps sp)(hr:Room k X.A)(hg:Gl X x)(hm:X.mg x=some (.ref f))(hk:W.keepIn X.K (.ref f)=true)(hb:Binds X.K fd ps ds)(hd:Vals dvs ds)(hx:a0N CX X E)
  (ha:PA X (e::es) t) (hdb:(x == ("__debug__" : Str))=false:=by decide) (he:starEach (e::es) X.env=(false,eval e X.env)::starEach es X.env:=by rfl) (hpl:(backTo pos (starEach es X.env)).any (·.1)=false:=by rfl) :
  PE X (.Call (.Name x p) (e::es) [] pos) (a0c sp dvs E t):=by
 intro pins s σ H Q I h
 refine wpAny_Call_Name_kw (T9 I hg hm ?_ hdb)
 refine W.callWith_K (h₀:=X.base) I.ok.mod.kin hk (l4 (ha pos pins s σ H _ I h) fun us s1 ⟨vs,H1,I1,r,q⟩=>⟨I1.kIn,?_⟩) he hpl
 exact b1e F hr hb hd hx I1 r q
end
structure FnScope(N P:List Str)(sc:Scope):Prop where
 kind:sc.kind=.function
 co:sc.isCoroutine=false
 gen:sc.isGenerator=false
 nd:N.Nodup
 pre:N.take P.length=P
 par:∀x∈P,sc.names.lookup x=some .local∨sc.names.lookup x=some .cell
 nofree:∀y∈sc.names,y.2≠.free
theorem a2_{kindOf:Str→Option NameKind}{x:Str}:∀{binds:List (Str×Value)} {m:Str→Option Value},(∀v,(x,v) ∉ binds)→bindL kindOf binds m x=m x
 | [],_,_=>rfl
 | (n,v)::r,m,h=>by
  unfold bindL
  rw[a2_ fun w hw=>h w (List.mem_cons_of_mem _ hw)]
  split
  ·have:x≠n:=by rintro rfl;exact h v List.mem_cons_self
   simp[this]
  ·rfl
theorem a3a{kindOf:Str→Option NameKind}{x:Str}:∀{binds:List (Str×Value)} {m:Str→Option Value},(∀v,(x,v) ∉ binds)→bindC kindOf binds m x=m x
 | [],_,_=>rfl
 | (n,v)::r,m,h=>by
  unfold bindC
  rw[a3a fun w hw=>h w (List.mem_cons_of_mem _ hw)]
  split
  ·rfl
  ·have:x≠n:=by rintro rfl;exact h v List.mem_cons_self
   simp[this]
theorem a0O{kindOf:Str→Option NameKind}{x:Str}{v:Value}:∀{P:List Str} {vs:List Value} {i:Nat} {m:Str→Option Value},P.Nodup→P[i]? = some x→vs[i]? = some v→kindOf x=some .local →
  bindL kindOf (P.zip vs) m x=some v
 | [],_,_,_,_,h,_,_=>by simp at h
 | _::_,[],_,_,_,_,h,_=>by simp at h
 | p::P,w::vs,0,m,nd,h1,h2,hk=>by
  simp at h1 h2;subst h1;subst h2
  show bindL kindOf ((p,w)::P.zip vs) m p=_
  unfold bindL
  rw[a2_ fun v hv=>(List.nodup_cons.mp nd).1 (List.of_mem_zip hv).1,if_pos hk]
  simp
 | p::P,w::vs,i+1,m,nd,h1,h2,hk=>by
  show bindL kindOf ((p,w)::P.zip vs) m x=_
  unfold bindL
  exact a0O (i:=i) (List.nodup_cons.mp nd).2 (by simpa using h1) (by simpa using h2) hk
theorem a0P{kindOf:Str→Option NameKind}{x:Str}{v:Value}:∀{P:List Str} {vs:List Value} {i:Nat} {m:Str→Option Value},P.Nodup→P[i]? = some x→vs[i]? = some v→kindOf x≠some .local →
  bindC kindOf (P.zip vs) m x=some v
 | [],_,_,_,_,h,_,_=>by simp at h
 | _::_,[],_,_,_,_,h,_=>by simp at h
 | p::P,w::vs,0,m,nd,h1,h2,hk=>by
  simp at h1 h2;subst h1;subst h2
  show bindC kindOf ((p,w)::P.zip vs) m p=_
  unfold bindC
  rw[a3a fun v hv=>(List.nodup_cons.mp nd).1 (List.of_mem_zip hv).1,if_neg hk]
  simp
 | p::P,w::vs,i+1,m,nd,h1,h2,hk=>by
  show bindC kindOf ((p,w)::P.zip vs) m x=_
  unfold bindC
  exact a0P (i:=i) (List.nodup_cons.mp nd).2 (by simpa using h1) (by simpa using h2) hk
def start(N:List Str)(vs:List V):St:=vs.map some++List.replicate (N.length-vs.length) none
def O4(CX:Y8)(P:Program)(w:World)(K:W.Frag)(mg:Str→Option Value)(base:Heap)(N:List Str)(qual:Str)(scope:Scope)(f:Addr)(cd:Value)(A:Around)(outer:List Env)(s:Shared)(H:Hp)(E:XK):Cx where
 prog:=P
 w:=w
 K:=K
 mg:=mg
 base:=base
 A:=A.deeper (envOfC qual scope s.heap.objs.size f cd)
 N:=N
 s₀:=s
 H₀:=H
 env:=envOfC qual scope s.heap.objs.size f cd
 outer:=outer
 stack:=envOfC qual scope s.heap.objs.size f cd::outer
 ex:=[]
 calm:=true
 fn:=fun _=>true
 pn:=[]
 xe:=fun e s'=>wpAny (model P w) (A.deeper (envOfC qual scope s.heap.objs.size f cd)) (leaving (envOfC qual scope s.heap.objs.size f cd) e) (fun _ s''=>CX outer H s E e s'') (fun e' s''=>CX outer H s E e' s'') s'
theorem a0d{sc:Scope}{n:Nat}{x:Str}(h:sc.names.lookup x=some .cell):∃c,(cellsFrom n sc.names []).lookup x=some c:=by
 have q:=W.cellsFrom_some sc.names n [] (.inl h)
 exact Option.isSome_iff_exists.mp q
theorem a6z{CX:Y8}{P:Program}{w:World}{K:W.Frag}{mg:Str→Option Value}{base:Heap}{N ps:List Str}{qual:Str}{scope:Scope}{f:Addr}{cd:Value}{A:Around}{outer:List Env}{s s1:Shared}{H:Hp}{E:XK}{us:List Value}{vs:List V}
  (S:FnScope N ps scope) (hd:A.handled=none) (e0:Env0 P w K mg base A outer s H) (hl:vs.length=ps.length) (r:Vals vs us)
  (x:InCallC s s.heap.objs.size (bindL (envOfC qual scope s.heap.objs.size f cd).kindOf (ps.zip us) fun _=>none) (cellsFrom (s.heap.objs.size+1) scope.names []) (bindC (envOfC qual scope s.heap.objs.size f cd).kindOf (ps.zip us) fun _=>none) s1) :
  Inv (O4 CX P w K mg base N qual scope f cd A outer s H E) [] (start N vs) H s1:=by
 have hpl:ps.length≤N.length:=by have:=congrArg List.length S.pre;rw[List.length_take]at this;omega
 obtain⟨h1,tk,rfl,hk⟩:=x.done
 have noA:∀b:Addr,b ∉ (O4 CX P w K mg base N qual scope f cd A outer s H E).ex:=fun b z=>absurd (show b∈([]:List Addr)from z) (by simp)
 refine⟨⟨e0.mod,S.kind,rfl,rfl,Nat.le_refl _,fun y z c h1 h2=>?_,fun y hy=>?_,fun y c _ h=>?_,fun _=>hd,Around.frames_deeper e0.frames,.inr ⟨rfl,rfl⟩,fun b z=>absurd z (noA b),e0.bs,e0.bsz,fun b _ _=>noA b,fun b z=>absurd z (noA b),e0.funs,e0.frf⟩,
  rfl,e0.bare,Un.kept hk,⟨_,x.toInCall.ns,fun i y v h1 h2 h3=>?_⟩,fun y c h=>⟨_,x.cell y c h⟩,e0.hok.fresh (Nat.le_refl _),fun y c h=>?_,fun p hp=>absurd (show p∈([]:List (Addr×Obj))from hp) (by simp),e0.hok.kept hk,?_⟩
 ·exact name_of_addr x.apart (PySem.mem_of_lookup h1) (PySem.mem_of_lookup h2)
 ·have hy:scope.names.lookup y=some .cell∨scope.names.lookup y=some .free:=hy
  rcases hy with hy | hy
  ·exact a0d hy
  ·exact absurd rfl (S.nofree _ (PySem.mem_of_lookup hy))
 ·exact Nat.le_of_lt (x.above y c (PySem.mem_of_lookup h))
 ·have hi:i<vs.length:=by
   unfold start at h2
   by_cases hi:i<vs.length
   ·exact hi
   ·rw[List.getElem?_append_right (by simpa using hi)]at h2
    rw[List.getElem?_replicate]at h2
    split at h2<;>cases h2
  have ha:vs[i]? = some v:=by
   unfold start at h2
   rw[List.getElem?_append_left (by simpa using hi),List.getElem?_map]at h2
   cases e:vs[i]? with
   | none=>rw[e]at h2;cases h2
   | some a=>rw[e]at h2;cases h2;rfl
  obtain⟨u,hu,rv⟩:=r.get ha
  have hp:ps[i]? = some y:=by
   rw[← S.pre,List.getElem?_take_of_lt (by omega)];exact h1
  have ndP:ps.Nodup:=by rw[← S.pre];exact S.nd.sublist (List.take_sublist _ _)
  refine⟨u,rv,?_⟩
  rcases S.par y (List.mem_of_getElem? hp)with k | k
  ·exact .inl ⟨k,a0O ndP hp hu k⟩
  ·obtain⟨c,e⟩:=a0d (n:=s.heap.objs.size+1) k
   refine .inr ⟨.inl k,c,e,?_⟩
   have q:=x.cell y c e
   rw[a0P ndP hp hu (by show scope.names.lookup y≠_;rw[k];decide)]at q
   exact q
 ·exact e0.hok.fresh (Nat.le_of_lt (x.above y c (PySem.mem_of_lookup h)))
 ·unfold start
  show _=N.length
  rw[List.length_append,List.length_map,List.length_replicate]
  omega
theorem a5L{CX:Y8}{P:Program}{w:World}{K:W.Frag}{mg:Str→Option Value}{base:Heap}{k:Nat}{f:Addr}{name qual:Str}{params:Arguments}{body:List Stmt}{scope:Scope}{dV kV doc pm cdv ct oc:Value}{an od:Option Addr}
  {osl:Array (Option Value)} {N ps:List Str} {sp:Sp} (lk:K.lookup f=some ⟨oc,od,.func (W.fnOf name qual params body scope dV kV doc pm an cdv ct),osl⟩) (hcd:W.codeIn K cdv qual=true) (S:FnScope N ps scope)
  (len:∀vs H Q E,sp vs H Q E→vs.length=ps.length)
  (hbody:∀(A:Around) (outer:List Env) (s:Shared) (H:Hp) (vs:List V) (Q:VK) (E:XK),Room k (A.deeper (envOfC qual scope s.heap.objs.size f cdv))→sp vs H Q E →
   ∃t,PSs (O4 CX P w K mg base N qual scope f cdv A outer s H E) body t∧t { nx:=fun _ H'=>Q .non H',rt:=Q } (start N vs) H) :
  FnOk P w K mg base CX (k+1) f (W.fnOf name qual params body scope dV kV doc pm an cdv ct) ps sp:=by
 refine⟨len,fun A outer s H args us vs Q E hr e0 hb r hsp=>?_⟩
 have hl:=len _ _ _ _ hsp
 have KX:K.In s.heap:=e0.mod.kin.keeps fun b o e=>(e0.bs b o e).1
 have lim:s.heap.NoLimit:=e0.mod.nolimit.keeps fun b o e=>(e0.bs b o e).1
 have hkind:∀y∈ps.zip us,scope.names.lookup y.1=some .local∨(scope.names.lookup y.1=some .cell∧((cellsFrom (s.heap.objs.size+1) scope.names []).lookup y.1).isSome=true):=fun⟨n,v⟩ hy=>by
  rcases S.par n (List.of_mem_zip hy).1 with q | q
  ·exact .inl q
  ·exact .inr ⟨q,W.cellsFrom_some _ _ _ (.inl q)⟩
 refine codeAny_call_function hr.depth (KX _ _ lk) rfl S.co S.gen rfl (W.codeRec_of KX hcd) (hb _ _ _ _ ?_)
 refine wpAny_newFunctionEnv_cells S.kind hkind fun env he s1 x=>?_
 subst he
 refine⟨lim.keeps x.toInCall.keep,codeAny_func ?_⟩
 obtain⟨t,ht,hq⟩:=hbody A outer s H vs Q E (hr.deeper _) hsp
 have I:Inv (O4 CX P w K mg base N qual scope f cdv A outer s H E) [] (start N vs) H s1:=a6z S hr.hd e0 hl r x
 refine wpAny_mono (ht [] s1 (start N vs) H _ I hq) (fun fl s' hs=>?_) fun e s' hs=>hs
 have fin:∀{σ':St} {H':Hp} {v:V} {u:Value},Inv (O4 CX P w K mg base N qual scope f cdv A outer s H E) [] σ' H' s'→RelV v u→Q v H'→CE outer P w H s Q u s' :=
  fun{σ' H' v u} J rv q=>⟨v,H',J.os,J.bare,J.base,J.hok,rv,q⟩
 cases fl with
 | ret u =>
  obtain⟨v,σ',H',J,rv,q⟩:=hs
  exact fin J rv q
 | next =>
  obtain⟨σ',H',J,q⟩:=hs
  exact fin (v:=V.non) (u:=Value.none) J rfl q
 | brk =>
  obtain⟨_,_,_,q⟩:=hs
  exact False.elim q
 | cont =>
  obtain⟨_,_,_,q⟩:=hs
  exact False.elim q
section
variable {X:Cx}{x:Str}{p pos:Pos}{e:Expr}{es:List Expr}{t:TA}{id T:String}{r:List V→Hp→VK→Prop}
def tCB(r:List V→Hp→VK→Prop)(t:TA):TE:=fun σ H Q=>t σ H fun vs H1=>r vs H1 Q
theorem j5(hc:CallR X (.builtin id) r)(hg:Gl X x)(hm:X.mg x=none)(hv:bootBuiltins x=some (.builtin id))(ha:PA X (e::es) t)(hn:x≠"__name__" := by decide)(hdb:(x == ("__debug__" : Str))=false:=by decide)
  (he:starEach (e::es) X.env=(false,eval e X.env)::starEach es X.env:=by rfl) (hpl:(backTo pos (starEach es X.env)).any (·.1)=false:=by rfl):PE X (.Call (.Name x p) (e::es) [] pos) (tCB r t):=by
 intro pins s σ H Q I h
 refine wpAny_Call_Name_kw (Q7 I hg hm hv ?_ hn hdb)
 exact PyProof.Rows.callWith_builtin1 (l4 (ha pos pins s σ H _ I h) fun us s1 ⟨vs,H1,I1,r1,q1⟩=>hc pins s1 σ H1 vs us Q I1 r1 q1) he hpl
theorem a3b(hc:CallR X (.type T) r)(hg:Gl X x)(hm:X.mg x=none)(hv:bootBuiltins x=some (.type T))(ha:PA X (e::es) t)(hn:x≠"__name__" := by decide)(hdb:(x == ("__debug__" : Str))=false:=by decide)
  (he:starEach (e::es) X.env=(false,eval e X.env)::starEach es X.env:=by rfl) (hpl:(backTo pos (starEach es X.env)).any (·.1)=false:=by rfl):PE X (.Call (.Name x p) (e::es) [] pos) (tCB r t):=by
 intro pins s σ H Q I h
 refine wpAny_Call_Name_kw (Q7 I hg hm hv ?_ hn hdb)
 exact PyProof.Rows.callWith_type1 (l4 (ha pos pins s σ H _ I h) fun us s1 ⟨vs,H1,I1,r1,q1⟩=>hc pins s1 σ H1 vs us Q I1 r1 q1) he hpl
end
end L2
namespace HT
open PySem PyProof.Rows
def lexLt:List Int→List Int→Bool
 | [],[]=>false
 | [],_::_=>true
 | _::_,[]=>false
 | x::xs,y::ys=>if x=y then lexLt xs ys else decide (x<y)
theorem lexLt_cons(x y:Int)(xs ys:List Int):lexLt (x::xs) (y::ys)=if x=y then lexLt xs ys else decide (x<y):=rfl
section
variable {prog:Program}{w:World}{A:Around}{E:Value→Shared→Prop}{s:Shared}
def sIx(n d:Nat):Option Int→Nat
 | none=>d
 | some v=>if v<0 then(v+(n:Int)).toNat else min v.toNat n
theorem sIx_none(n d:Nat):sIx n d none=d:=rfl
theorem sIx_nat(n d k:Nat):sIx n d (some (k:Int))=min k n:=by
 show(if(k:Int)<0 then((k:Int)+(n:Int)).toNat else min (k:Int).toNat n)=min k n
 rw[if_neg (by omega),Int.toNat_natCast]
end
end HT
namespace L2
open PySem PySem.Spec PyProof.Rows
abbrev TO:=St→Hp→(Option Int→Hp→Prop)→Prop
def PO(X:Cx)(e:Option Expr)(t:TO):Prop :=
 ∀(pins:List (Addr×Obj)) (s:Shared) (σ:St) (H:Hp) (Q:Option Int→Hp→Prop),Inv X pins σ H s→t σ H Q →
  wpAny (model X.prog X.w) X.A (evalPart e X.env) (fun u s'=>∃o H',Inv X pins σ H' s'∧IsPart u o∧Q o H') X.xe s
def a42:TO:=fun _ H Q=>Q none H
def a8U(t:TE):TO:=fun σ H Q=>t σ H fun x H1=>∃i,x=.int i∧Q (some i) H1
section
variable {X:Cx}{e:Expr}{te:TE}{lo hi:Option Expr}{tl th:TO}{pos p2:Pos}
theorem a1c:PO X none a42:=by
 intro pins s σ H Q I h
 rw[evalPart_none]
 exact wpAny_pure ⟨none,H,I,.none,h⟩
theorem a1d(h:PE X e te):PO X (some e) (a8U te):=by
 intro pins s σ H Q I hw
 rw[evalPart_some]
 refine l4 (h pins s σ H _ I hw) fun u s1 ⟨x,H1,I1,r1,q1⟩=>?_
 obtain⟨i,rfl,q⟩:=q1
 obtain⟨t,rfl⟩:=r1
 exact⟨some i,H1,I1,.int i t,q⟩
def SlR(X:Cx)(r:V→Option Int→Option Int→Hp→VK→Prop):Prop :=
 ∀(pins:List (Addr×Obj)) (s:Shared) (σ:St) (H:Hp) (x:V) (v vl vu:Value) (lo hi:Option Int) (sl:Addr) (Q:VK),Inv X pins σ H s→RelV x v→s.heap.IsSliceOf sl vl vu .none→IsPart vl lo→IsPart vu hi→r x lo hi H Q →
  ∃T id,typeLookup (.type T) "__getitem__" = pure (some (.builtin id))∧s.TypeIs v T∧wpAny (model X.prog X.w) X.A (getItem v (.ref sl)) (EP X pins σ Q) X.xe s
theorem SlR.or{r r':V→Option Int→Option Int→Hp→VK→Prop}(h:SlR X r)(h':SlR X r'):SlR X (fun x lo hi H Q=>r x lo hi H Q∨r' x lo hi H Q):=by
 intro pins s σ H x v vl vu lo hi sl Q I rx hs pl pu q
 rcases q with q | q
 ·exact h pins s σ H x v vl vu lo hi sl Q I rx hs pl pu q
 ·exact h' pins s σ H x v vl vu lo hi sl Q I rx hs pl pu q
def tSl(r:V→Option Int→Option Int→Hp→VK→Prop)(te:TE)(tl th:TO):TE:=fun σ H Q=>te σ H fun x H1=>tl σ H1 fun l H2=>th σ H2 fun u H3=>r x l u H3 Q
theorem a0e{r:V→Option Int→Option Int→Hp→VK→Prop}(hr:SlR X r)(he:PE X e te)(hl:PO X lo tl)(hu:PO X hi th):PE X (.Subscript e (.Slice lo hi none p2) pos) (tSl r te tl th):=by
 intro pins s σ H Q I h
 refine Subscript_ (l4 (he pins s σ H _ I h) fun v s1 ⟨x,H1,I1,r1,q1⟩=>?_)
 refine wpAny_Slice (l4 (hl pins s1 σ H1 _ I1 q1) fun vl s2 ⟨l,H2,I2,pl,q2⟩=>l4 (hu pins s2 σ H2 _ I2 q2) fun vu s3 ⟨u,H3,I3,pu,q3⟩=>?_)
 rw[evalPart_none]
 refine wpAny_pure ?_
 have I4:Inv X pins σ H3 { s3 with heap:=s3.heap.push { cls:=.type "slice",data:=.fields #[vl,vu,.none] } }:=I3.kept (t':=s3.toks) fun b ob q=>Heap.get?_push_of_some _ q
 obtain⟨T,id,hT,ht,hg⟩:=hr pins { s3 with heap:=s3.heap.push { cls:=.type "slice",data:=.fields #[vl,vu,.none] } } σ H3 x v vl vu l u s3.heap.objs.size Q I4 r1 (Heap.IsSliceOf.new ..) pl pu q3
 show wpAny (model X.prog X.w) X.A (subscriptTail e (.Slice lo hi none p2) v (.ref s3.heap.objs.size)) (EP X pins σ Q) X.xe { s3 with heap:=s3.heap.push { cls:=.type "slice",data:=.fields #[vl,vu,.none] } }
 exact tail_any (ops:=[.ref s3.heap.objs.size,v]) ht hT hg (by with_unfolding_all rfl)
def a2E(xs:List V)(lo hi:Option Int):List V:=(xs.drop (HT.sIx xs.length 0 lo)).take (HT.sIx xs.length xs.length hi-HT.sIx xs.length 0 lo)
theorem a4M(xs:List V)(lo hi:Option Int):(a2E xs lo hi).length≤xs.length:=by
 unfold a2E
 rw[List.length_take,List.length_drop]
 omega
end
def N2(n:Nat)(i:Int):Option Nat:=if 0≤i then(if i<n then some i.toNat else none)else if -(n:Int)≤i then some (i+n).toNat else none
def atI{α:Type}(xs:List α)(i:Int):Option α:=(N2 xs.length i).bind fun j=>xs[j]?
theorem a43{n:Nat}{i:Int}{j:Nat}(h:N2 n i=some j):seqIndex? i n=some j∧j<n∧-(n:Int)≤i∧i<n:=by
 unfold N2 at h
 by_cases h0:0≤i
 ·rw[if_pos h0]at h
  by_cases h1:i<n
  ·rw[if_pos h1]at h
   have e:i.toNat=j:=Option.some.inj h
   exact⟨by rw[seqIndex_of h0 h1,e],by omega,by omega,h1⟩
  ·rw[if_neg h1]at h;cases h
 ·rw[if_neg h0]at h
  by_cases h1 : -(n:Int)≤i
  ·rw[if_pos h1]at h
   have e:(i+n).toNat=j:=Option.some.inj h
   exact⟨by rw[seqIndex_neg (by omega) h1,e],by omega,h1,by omega⟩
  ·rw[if_neg h1]at h;cases h
theorem a2F{α:Type}{xs:List α}{i:Int}{v:α}(h:atI xs i=some v):∃j,seqIndex? i xs.length=some j∧xs[j]? = some v∧j<xs.length∧-(xs.length:Int)≤i∧i<xs.length:=by
 unfold atI at h
 cases e:N2 xs.length i with
 | none=>rw[e]at h;cases h
 | some j =>
  rw[e]at h
  obtain⟨h1,h2,h3,h4⟩:=a43 e
  exact⟨j,h1,h,h2,h3,h4⟩
def a9o(b:Expr):Prop:=∀o i,subscripted b false o i=operate [o,i] (getItem o i)
def IxR(X:Cx)(r:R2):Prop :=
 ∀(value slice:Expr) (pins:List (Addr×Obj)) (s:Shared) (σ:St) (H:Hp) (x y:V) (v u:Value) (Q:VK),Inv X pins σ H s→RelV x v→RelV y u→r x y H Q →
  subscripted slice false v u=operate [v,u] (getItem v u)→wpAny (model X.prog X.w) X.A (subscriptTail value slice v u) (EP X pins σ Q) X.xe s
def MtR(X:Cx)(id:String)(r:V→List V→Hp→VK→Prop):Prop :=
 ∀(pins:List (Addr×Obj)) (s:Shared) (σ:St) (H:Hp) (x:V) (xs:List V) (v:Value) (us:List Value) (Q:VK),Inv X pins σ H s→RelV x v→Vals xs us→r x xs H Q →
  wpAny (model X.prog X.w) X.A (call (.builtin id) (v::us)) (EP X pins σ Q) X.xe s
section
variable {X:Cx}{a b:Expr}{ta tb:TE}{pos:Pos}
theorem IxR.or{r r':R2}(h:IxR X r)(h':IxR X r'):IxR X (fun x y H Q=>r x y H Q∨r' x y H Q):=by
 intro value slice pins s σ H x y v u Q I rx ry q hs
 rcases q with q | q
 ·exact h value slice pins s σ H x y v u Q I rx ry q hs
 ·exact h' value slice pins s σ H x y v u Q I rx ry q hs
theorem MtR.or{id:String}{r r':V→List V→Hp→VK→Prop}(h:MtR X id r)(h':MtR X id r'):MtR X id (fun x xs H Q=>r x xs H Q∨r' x xs H Q):=by
 intro pins s σ H x xs v us Q I rx rs q
 rcases q with q | q
 ·exact h pins s σ H x xs v us Q I rx rs q
 ·exact h' pins s σ H x xs v us Q I rx rs q
theorem i0{r:R2}(hr:IxR X r)(ha:PE X a ta)(hb:PE X b tb)(hs:a9o b):PE X (.Subscript a b pos) (tOp r ta tb):=by
 intro pins s σ H Q I h
 exact Subscript_ (a7p ha hb I h fun v u s2 x y H2 I2 rx ry q=>hr a b pins s2 σ H2 x y v u Q I2 rx ry q (hs _ _))
def a5M(K:W.Frag):R2:=fun x y H Q=>∃p xs i v,x=.ref p∧y=.int i∧SqL K H p xs∧atI xs i=some v∧Q v H
def a7q(K:W.Frag):R2:=fun x y H Q=>∃p xs i v,x=.ref p∧y=.int i∧SqT K H p xs∧atI xs i=some v∧Q v H
def b1f:R2:=fun x y H Q=>∃z i c,x=.str z∧y=.int i∧z.length≤sizeLine∧atI z.cps.toList i=some c∧Q (.str ⟨#[c]⟩) H
theorem a9p:IxR X (a5M X.K):=by
 intro value slice pins s σ H x y v u Q I rx ry h hs
 obtain⟨p,xs,i,z,rfl,rfl,hq,he,q⟩:=h
 cases rx
 obtain⟨t,rfl⟩:=ry
 obtain⟨its,r,pl,hz⟩:=I.list hq
 obtain⟨j,h1,h2,h3,h4,h5⟩:=a2F he
 obtain⟨w,ew,rw'⟩:=r.get h2
 have hl:=r.length
 have hn:=Y7
 have fin:EP X pins σ Q w s:=⟨z,H,I,rw',q⟩
 by_cases h0:0≤i
 ·have hj:i.toNat=j:=by
   rw[seqIndex_of h0 h5]at h1
   exact Option.some.inj h1
  exact item_listR pl.isList h0 (by omega) (by rw[hj];simpa using ew) fin hs
 ·have hj:(i+(its.toArray.size:Int)).toNat=j:=by
   rw[seqIndex_neg (by omega) h4]at h1
   rw[List.size_toArray,← hl]
   exact Option.some.inj h1
  exact subscriptTail_builtinR (x:=w) pl.isList.typeIs slot_list_getitem.lookup
   (wpAny_getItem_list_neg (Q:=fun r s'=>r=w∧EP X pins σ Q r s') pl.isList (by omega) (by rw[List.size_toArray]<;>omega) (by omega) (by rw[hj];simpa using ew) ⟨rfl,fin⟩) hs
theorem b1g:IxR X (a7q X.K):=by
 intro value slice pins s σ H x y v u Q I rx ry h hs
 obtain⟨p,xs,i,z,rfl,rfl,hq,he,q⟩:=h
 cases rx
 obtain⟨t,rfl⟩:=ry
 obtain⟨its,r,pl,hz⟩:=I.tuple hq
 obtain⟨j,h1,h2,h3,h4,h5⟩:=a2F he
 obtain⟨w,ew,rw'⟩:=r.get h2
 have hl:=r.length
 have hn:=Y7
 have fin:EP X pins σ Q w s:=⟨z,H,I,rw',q⟩
 exact subscriptTail_builtinR (x:=w) pl.typeIs slot_tuple_getitem.lookup
  (getItem_tuple (j:=j) (Q:=fun r s'=>r=w∧EP X pins σ Q r s') pl (by omega) (by omega) (by rw[List.size_toArray,← hl];exact h1) (by simpa using ew) ⟨rfl,fin⟩) hs
theorem b1h:IxR X b1f:=by
 intro value slice pins s σ H x y v u Q I rx ry h hs
 obtain⟨z,i,c,rfl,rfl,hz,he,q⟩:=h
 obtain⟨t,rfl⟩:=rx
 obtain⟨t',rfl⟩:=ry
 obtain⟨j,h1,h2,h3,h4,h5⟩:=a2F he
 have hl:z.cps.toList.length=z.length:=by simp[Str.length]
 rw[hl]at h1 h4 h5
 have hn:=Y7
 exact tail_any (typeIs_str s z t) slot_str_getitem.lookup (getItem_str (c:=c) (by
  have e1:decide (i < -(2 ^ 63:Int))=false:=decide_eq_false (by omega)
  have e2:decide (i≥2 ^ 63)=false:=decide_eq_false (by omega)
  rw[e1,e2,Bool.or_false]) (by rw[h1];simpa using h2) ⟨.str ⟨#[c]⟩,H,I.tok _,⟨_,rfl⟩,q⟩) hs
theorem a5N(its:List Value)(n j:Nat)(u:Value):Obj.mapSeq (·.setIfInBounds j u) { cls:=.type "list",data:=.seq its.toArray n }={ cls:=.type "list",data:=.seq (its.set j u).toArray n }:=by
 simp[Obj.mapSeq]
theorem Inv.lst{pins:List (Addr×Obj)}{σ:St}{H:Hp}{s:Shared}{p:Addr}{xs:List V}(I:Inv X pins σ H s)(h:H p=some (.lst xs)) :
  ∃(its:List Value) (n:Nat),Vals xs its∧s.heap.get? p=some { cls:=.type "list",data:=.seq its.toArray n }∧xs.length≤sizeLine:=by
 obtain⟨z,its,n,r,e⟩:=I.hok p _ h
 exact⟨its,n,r,e,z⟩
theorem Inv.lstUpd{pins:List (Addr×Obj)}{σ:St}{H:Hp}{s:Shared}{p:Addr}{xs ys:List V}{its its':List Value}{n n':Nat}{f:Obj→Obj}(I:Inv X pins σ H s)(h:H p=some (.lst xs))
  (ho:s.heap.get? p=some { cls:=.type "list",data:=.seq its.toArray n }) (hf:f { cls:=.type "list",data:=.seq its.toArray n }={ cls:=.type "list",data:=.seq its'.toArray n' }) (r:Vals ys its') (hz:ys.length≤sizeLine) (t:Nat) :
  Inv X pins σ (upd H p (.lst ys)) { s with heap:=s.heap.update p f,toks:=t }:=by
 have e:(s.heap.update p f).get? p=some { cls:=.type "list",data:=.seq its'.toArray n' }:=by
  rw[Heap.get?_update_self f ho (by rw[hf]<;>rfl),hf]
 refine I.write (x:=p) (e:=p) (by rw[h];trivial) (.inl rfl) (fun b u hb q=>(Heap.get?_update_other _ _ (Ne.symm hb)).trans q) ⟨_,e⟩ ?_
 exact⟨hz,its',n',r,e⟩
def a5O:V→V→V→Hp→(Hp→Prop)→Prop:=fun o i v H Q=>∃p xs k j,o=.ref p∧i=.int k∧H p=some (.lst xs)∧N2 xs.length k=some j∧Q (upd H p (.lst (xs.set j v)))
theorem a3W:b0_ X a5O:=by
 intro pins s σ H o i v ov iv u Q I ro ri rv h
 obtain⟨p,xs,k,j,rfl,rfl,hp,hj,q⟩:=h
 cases ro
 obtain⟨t,rfl⟩:=ri
 obtain⟨its,n,r,ho,hz⟩:=I.lst hp
 obtain⟨h1,h2,h3,h4⟩:=a43 hj
 have hl:=r.length
 have hn:=Y7
 have I':Inv X pins σ (upd H p (.lst (xs.set j v))) { s with heap:=s.heap.update p (Obj.mapSeq (·.setIfInBounds j u)) } :=
  I.lstUpd hp ho (a5N its n j u) (r.set rv j) (by rw[List.length_set];exact hz) s.toks
 by_cases h0:0≤k
 ·have hk:k.toNat=j:=by
   rw[seqIndex_of h0 h4]at h1
   exact Option.some.inj h1
  exact W.ki_setAt ho h0 (by omega) (by rw[List.size_toArray,← hl];exact h4) (by rw[hk];exact⟨_,I',q⟩)
 ·have hk:(k+(its.toArray.size:Int)).toNat=j:=by
   rw[seqIndex_neg (by omega) h3]at h1
   rw[List.size_toArray,← hl]
   exact Option.some.inj h1
  exact W.ki_setBack ho (by omega) (by rw[List.size_toArray,← hl];exact h3) (by omega) (by rw[hk];exact⟨_,I',q⟩)
theorem a3X(lo hi:Option Int)(n:Nat):(sliceBounds lo hi none n).1=((HT.sIx n 0 lo:Nat):Int)∧(sliceBounds lo hi none n).2.1=((HT.sIx n n hi:Nat):Int)∧(sliceBounds lo hi none n).2.2=1:=by
 refine⟨?_,?_,rfl⟩
 ·cases lo with
  | none=>simp[sliceBounds,HT.sIx]
  | some i =>
   simp only[sliceBounds,HT.sIx,Option.getD_none,show(1:Int) > 0 by decide,if_true]
   by_cases h:i<0
   ·simp only[h,if_true]<;>omega
   ·simp only[h,if_false]<;>omega
 ·cases hi with
  | none=>simp[sliceBounds,HT.sIx]
  | some i =>
   simp only[sliceBounds,HT.sIx,Option.getD_none,show(1:Int) > 0 by decide,if_true]
   by_cases h:i<0
   ·simp only[h,if_true]<;>omega
   ·simp only[h,if_false]<;>omega
theorem a3z(its:List Value)(lo hi:Option Int):slicePick its.toArray lo hi none=((its.drop (HT.sIx its.length 0 lo)).take (HT.sIx its.length its.length hi-HT.sIx its.length 0 lo)).toArray:=by
 obtain⟨h1,h2,h3⟩:=a3X lo hi its.toArray.size
 unfold slicePick
 rw[h1,h2,h3]
 simp only[sliceRange_one,pick_run,List.size_toArray]<;>rfl
def a7r(K:W.Frag):V→Option Int→Option Int→Hp→VK→Prop:=fun x lo hi H Q=>∃a xs,x=.ref a∧SqL K H a xs∧∀p,H p=none→Q (.ref p) (upd H p (.lst (a2E xs lo hi)))
theorem a9q:SlR X (a7r X.K):=by
 intro pins s σ H x v vl vu lo hi sl Q I rx hs pl pu h
 obtain⟨a,xs,rfl,hx,q⟩:=h
 cases rx
 obtain⟨its,r,ht,hz⟩:=I.list hx
 have hlen:=r.length
 refine⟨"list",_,slot_list_getitem.lookup,ht.isList.typeIs,?_⟩
 refine wpAny_getItem_list_slice ht.isList hs pl pu .none (by simp) ?_ (by rw[List.size_toArray]<;>omega)
 rw[a3z,← hlen]
 refine⟨.ref s.heap.objs.size,_,I.laid (t':=s.toks) (o:=.lst (a2E xs lo hi)) (fun b ob q=>Heap.get?_push_of_some _ q) (Nat.le_refl _) ?_,rfl,q _ (I.hok.fresh (Nat.le_refl _))⟩
 exact⟨Nat.le_trans (a4M xs lo hi) hz,_,0,(r.drop (HT.sIx xs.length 0 lo)).take (HT.sIx xs.length xs.length hi-HT.sIx xs.length 0 lo),Heap.get?_push_size _ rfl⟩
def a3G:V→Bool
 | .non=>true
 | .bl _=>true
 | .int _=>true
 | .str _=>true
 | _=>false
def eqV:V→V→Bool
 | .non,.non=>true
 | .bl a,.bl b=>a == b
 | .bl a,.int b=>(if a then 1 else 0) == b
 | .int a,.bl b=>a == (if b then 1 else 0)
 | .int a,.int b=>a == b
 | .str a,.str b=>a == b
 | _,_=>false
theorem b1j{A:Around}{s:Shared}{y x:V}{u v:Value}(ry:RelV y u)(rx:RelV x v)(fy:a3G y=true)(fx:a3G x=true):SeqAt.EqAt A s u v (eqV y x):=by
 cases y with
 | non =>
  cases ry
  cases x with
  | non=>cases rx;exact SeqAt.EqAt.same _
  | bl b=>cases rx;exact SeqAt.EqAt.none_bool b
  | int b=>obtain⟨t,rfl⟩:=rx;exact SeqAt.EqAt.none_int b t
  | str b=>obtain⟨t,rfl⟩:=rx;exact SeqAt.EqAt.none_str b t
  | _=>exact absurd (show false=true from fx) Bool.false_ne_true
 | bl a =>
  cases ry
  cases x with
  | non=>cases rx;exact SeqAt.EqAt.bool_none a
  | bl b=>cases rx;exact SeqAt.EqAt.bool_bool a b
  | int b=>obtain⟨t,rfl⟩:=rx;exact SeqAt.EqAt.bool_int a b t
  | str b=>obtain⟨t,rfl⟩:=rx;exact SeqAt.EqAt.bool_str a b t
  | _=>exact absurd (show false=true from fx) Bool.false_ne_true
 | int a =>
  obtain⟨t',rfl⟩:=ry
  cases x with
  | non=>cases rx;exact SeqAt.EqAt.int_none a t'
  | bl b=>cases rx;exact SeqAt.EqAt.int_bool a t' b
  | int b=>obtain⟨t,rfl⟩:=rx;exact SeqAt.EqAt.int_int a t' b t
  | str b=>obtain⟨t,rfl⟩:=rx;exact SeqAt.EqAt.int_str a t' b t
  | _=>exact absurd (show false=true from fx) Bool.false_ne_true
 | str a =>
  obtain⟨t',rfl⟩:=ry
  cases x with
  | non=>cases rx;exact SeqAt.EqAt.str_none a t'
  | bl b=>cases rx;exact SeqAt.EqAt.str_bool a t' b
  | int b=>obtain⟨t,rfl⟩:=rx;exact SeqAt.EqAt.str_int a t' b t
  | str b=>obtain⟨t,rfl⟩:=rx;exact SeqAt.EqAt.str_str a t' b t
  | _=>exact absurd (show false=true from fx) Bool.false_ne_true
 | _=>exact absurd (show false=true from fy) Bool.false_ne_true
theorem a3Y:CallR X (.builtin "len") (fun xs H Q=>∃p ys,xs=[.ref p]∧(SqL X.K H p ys∨SqT X.K H p ys)∧Q (.int ys.length) H):=by
 intro pins s σ H xs us Q I r h
 obtain⟨p,ys,rfl,hq,q⟩:=h
 obtain⟨u,rfl,rx⟩:=a5I r
 cases rx
 have hn:=Y7
 rcases hq with hq | hq
 ·obtain⟨its,r',pl,hz⟩:=I.list hq
  have hlen:=r'.length
  exact Calls.call_len_list pl.isList (by simp only[List.size_toArray]<;>omega) ⟨.int ys.length,H,I.tok _,⟨s.toks+1,by rw[List.size_toArray,hlen]⟩,q⟩
 ·obtain⟨its,r',pl,hz⟩:=I.tuple hq
  have hlen:=r'.length
  exact len_tuple pl (by simp only[List.size_toArray]<;>omega) ⟨.int ys.length,H,I.tok _,⟨s.toks+1,by rw[List.size_toArray,hlen]⟩,q⟩
theorem a0Q:CallR X (.builtin "len") (fun xs H Q=>∃z,xs=[.str z]∧z.length≤sizeLine∧Q (.int z.length) H):=by
 intro pins s σ H xs us Q I r h
 obtain⟨z,rfl,hz,q⟩:=h
 obtain⟨u,rfl,t,rfl⟩:=a5I r
 have hn:=Y7
 exact len_str (by omega) ⟨.int z.length,H,I.tok _,⟨_,rfl⟩,q⟩
theorem CallR.or{f:Value}{r r':List V→Hp→VK→Prop}(h:CallR X f r)(h':CallR X f r'):CallR X f (fun xs H Q=>r xs H Q∨r' xs H Q):=by
 intro pins s σ H xs us Q I rs q
 rcases q with q | q
 ·exact h pins s σ H xs us Q I rs q
 ·exact h' pins s σ H xs us Q I rs q
theorem a3Z:CallR X (.type "list") (fun xs H Q=>∃p ys,xs=[.ref p]∧(SqL X.K H p ys∨SqT X.K H p ys)∧∀l,H l=none→Q (.ref l) (upd H l (.lst ys))):=by
 intro pins s σ H xs us Q I r h
 obtain⟨p,ys,rfl,hq,q⟩:=h
 obtain⟨u,rfl,rx⟩:=a5I r
 cases rx
 have fin:∀(its:List Value),Vals ys its→ys.length≤sizeLine→∀(h':Heap) (c':Nat),(∀b o',s.heap.get? b=some o'→h'.get? b=some o') →
   h'.get? s.heap.objs.size=some { cls:=.type "list",dict:=none,data:=.seq its.toArray c',slots := #[] }→EP X pins σ Q (.ref s.heap.objs.size) { s with heap:=h' }:=fun its r' hz h' c' kp e =>
  ⟨.ref s.heap.objs.size,_,I.laid (t':=s.toks) kp (Nat.le_refl _) (show ObjOk X.prog X.w _ h' _ (.lst ys)from⟨hz,its,c',r',e⟩),rfl,q _ (I.hok.fresh (Nat.le_refl _))⟩
 rcases hq with hq | hq
 ·obtain⟨its,r',pl,hz⟩:=I.list hq
  have hlen:=r'.length
  obtain⟨o,ho,hc,n,hd⟩:=pl.isList
  exact call_list_seq p (.inl rfl) ho hc hd (fun h' c' kp e=>fin its r' hz h' c' kp e) (by simp only[List.size_toArray]<;>omega)
 ·obtain⟨its,r',pl,hz⟩:=I.tuple hq
  have hlen:=r'.length
  obtain⟨o,ho,hc,n,hd⟩:=pl
  exact call_list_seq p (.inr rfl) ho hc hd (fun h' c' kp e=>fin its r' hz h' c' kp e) (by simp only[List.size_toArray]<;>omega)
def tyV(K:W.Frag)(T:String)(x:V)(H:Hp):Prop:=match x with
 | .str _=>T = "str"
 | .int _=>T = "int"
 | .ref p=>(T = "list"∧∃xs,SqL K H p xs)∨(T = "tuple"∧∃o,K.lookup p=some o∧o.cls=.type "tuple"∧o.dict=none) ∨
   (T = "dict"∧((∃kvs,H p=some (.dK kvs))∨∃kvs,H p=some (.dT kvs)))∨(T = "set"∧∃S n,H p=some (.set S n))
 | _=>False
theorem b1k{pins:List (Addr×Obj)}{σ:St}{H:Hp}{s:Shared}{T:String}{x:V}{v:Value}(I:Inv X pins σ H s)(r:RelV x v)(ty:tyV X.K T x H) :
  s.TypeIs v T∧∀a,v=.ref a→∃ob,s.heap.get? a=some ob∧ob.dict=none:=by
 cases x with
 | str z =>
  obtain⟨t,rfl⟩:=r
  cases (show T = "str" from ty)
  exact⟨typeIs_str s z t,fun _ e=>nomatch e⟩
 | int i =>
  obtain⟨t,rfl⟩:=r
  cases (show T = "int" from ty)
  exact⟨typeIs_int s i t,fun _ e=>nomatch e⟩
 | ref p =>
  cases r
  rcases ty with⟨rfl,xs,hq⟩ | ⟨rfl,o,hk,hc,hd⟩ | ⟨rfl,hk⟩ | ⟨rfl,S,n,hk⟩
  ·obtain⟨its,_,pl,_⟩:=I.list hq
   refine⟨pl.isList.typeIs,fun a e=>?_⟩
   cases e
   obtain⟨o,n,e,c,hd,_⟩:=pl
   exact⟨o,e,hd⟩
  ·refine⟨⟨o,I.kIn p o hk,hc⟩,fun a e=>?_⟩
   cases e
   exact⟨o,I.kIn _ o hk,hd⟩
  ·have z:∃o,s.heap.get? p=some o∧o.ExactDict:=by
    rcases hk with⟨kvs,hk⟩ | ⟨kvs,hk⟩
    ·obtain⟨_,_,_,_,o,_,_,e,ex,_⟩:=I.hok p _ hk
     exact⟨o,e,ex⟩
    ·obtain⟨_,_,_,_,o,_,_,e,ex,_⟩:=I.hok p _ hk
     exact⟨o,e,ex⟩
   obtain⟨o,e,ex⟩:=z
   refine⟨⟨o,e,ex.1⟩,fun a e2=>?_⟩
   cases e2
   exact⟨o,e,ex.2.1⟩
  ·obtain⟨o,_,_,_,e,ex,_⟩:=I.hok p _ hk
   refine⟨⟨o,e,ex.1⟩,fun a e2=>?_⟩
   cases e2
   exact⟨o,e,ex.2.1⟩
 | _=>exact False.elim ty
def tBM(K:W.Frag)(T:String)(r:V→List V→Hp→VK→Prop)(to:TE)(t:TA):TE:=fun σ H Q=>to σ H fun x H1=>tyV K T x H1∧t σ H1 fun xs H2=>r x xs H2 Q
variable {o e:Expr}{es:List Expr}{to:TE}{t:TA}{name:Str}{apos cpos:Pos}{T id:String}{r:V→List V→Hp→VK→Prop}
theorem b2e(pa:PlainAttrs T)(slot:Slot T name id)(hty:typeOf (.builtin id)=pure (.type "method_descriptor"))(hm:MtR X id r)(ho:PE X o to)(ha:PA X (e::es) t)
  (hbase:attributeBase o name X.env (eval o X.env)=eval o X.env:=by rfl)
  (hfew:((backTo cpos (starEach (e::es) X.env)).all (fun x=>!x.1) && (backToKw cpos (keywordEach [] X.env)).all (fun x=>x.1.isSome)
   && decide ((e::es).length+([]:List Keyword).length+(if([]:List Keyword).isEmpty then 0 else 1)<30))=true:=by rfl)
  (hline:(apos.endLine == cpos.line)=true:=by rfl) (hs:starEach (e::es) X.env=(false,eval e X.env)::starEach es X.env:=by rfl) (hplain:(backTo cpos (starEach es X.env)).any (·.1)=false:=by rfl) :
  PE X (.Call (.Attribute o name apos) (e::es) [] cpos) (tBM X.K T r to t):=by
 intro pins s σ H Q I h
 refine wpAny_Call_method_late hbase hfew hline rfl (l4 (ho pins s σ H _ I h) fun v s1 ⟨x,H1,I1,r1,ty,q1⟩=>?_)
 obtain⟨h1,h2⟩:=b1k I1 r1 ty
 refine⟨T,id,pa,slot,hty,h1,h2,?_⟩
 have hA:=ha cpos pins s1 σ H1 _ I1 q1
 rw[hs]at hA ⊢
 refine Calls.callWith_builtin (by show(false || (backTo cpos (starEach es X.env)).any (·.1))=false;rw[hplain]<;>rfl) (Calls.evalArgs_plain ?_)
 exact l4 hA fun us s2 ⟨vs,H2,I2,r2,q2⟩=>hm pins s2 σ H2 x vs v us Q I2 r1 r2 q2
end
def MtM(X:Cx)(id:String)(r:V→List V→Hp→VK→Prop):Prop :=
 ∀(pins:List (Addr×Obj)) (s:Shared) (σ:St) (H:Hp) (x:V) (xs:List V) (v:Value) (us:List Value) (Q:VK),Inv X pins σ H s→RelV x v→Vals xs us→r x xs H Q →
  wpAny (model X.prog X.w) X.A (call (.builtin id) (v::us)) (EP X pins σ Q) X.xe s
theorem Vals.one:∀{x:V} {us:List Value},Vals [x] us→∃u,us=[u]∧RelV x u
 | _,_,.cons r .nil=>⟨_,rfl,r⟩
theorem Vals.two:∀{x y:V} {us:List Value},Vals [x,y] us→∃u v,us=[u,v]∧RelV x u∧RelV y v
 | _,_,_,.cons r (.cons q .nil)=>⟨_,_,rfl,r,q⟩
theorem Vals.zero:∀{us:List Value},Vals [] us→us=[]
 | _,.nil=>rfl
theorem Vals.reverse{xs:List V}{us:List Value}(h:Vals xs us):Vals xs.reverse us.reverse:=by
 induction h with
 | nil=>exact .nil
 | cons r t ih=>rw[List.reverse_cons,List.reverse_cons];exact Vals.append ih (.cons r .nil)
theorem Vals.rep{xs:List V}{us:List Value}(h:Vals xs us):∀k:Nat,Vals (List.replicate k xs).flatten (List.replicate k us).flatten
 | 0=>.nil
 | k+1=>by
  rw[List.replicate_succ,List.replicate_succ,List.flatten_cons,List.flatten_cons]
  exact Vals.append h (Vals.rep h k)
theorem a3c(its:List Value):∀(k:Nat) (acc:List Value),
  List.foldl (fun x1 x2=>x1++x2) acc.toArray (List.replicate k its.toArray)=(acc++(List.replicate k its).flatten).toArray
 | 0,acc=>by simp
 | k+1,acc=>by
  have e:acc.toArray++its.toArray=(acc++its).toArray:=by simp
  have e2:(acc++its)++(List.replicate k its).flatten=acc++(List.replicate (k+1) its).flatten:=by
   rw[List.replicate_succ,List.flatten_cons,List.append_assoc]
  rw[← e2,← a3c its k (acc++its),← e,List.replicate_succ,List.foldl_cons]
section
variable {X:Cx}{pins:List (Addr×Obj)}{σ:St}{H:Hp}{s:Shared}{l b:Addr}{xs ys zs:List V}
theorem Inv.lset{its its':List Value}{n:Nat}{f:Array Value→Array Value}{t':Nat}(I:Inv X pins σ H s)(hH:H l=some (.lst xs))
  (e:s.heap.get? l=some { cls:=.type "list",data:=.seq its.toArray n }) (hf:f its.toArray=its'.toArray) (hv:Vals ys its') (hz:ys.length≤sizeLine) :
  Inv X pins σ (upd H l (.lst ys)) { s with heap:=s.heap.update l (Obj.mapSeq f),toks:=t' }:=by
 have q:=PySem.IsL.update e f
 rw[hf]at q
 refine I.write (x:=l) (e:=l) (by rw[hH];exact trivial) (.inl rfl) (fun b' u hb hu=>(Heap.get?_update_other s.heap (Obj.mapSeq f) (Ne.symm hb)).trans hu) ⟨_,q⟩ ?_
 exact⟨hz,its',_,hv,q⟩
theorem Inv.lnew{its:List Value}{t':Nat}(I:Inv X pins σ H s)(hv:Vals ys its)(hz:ys.length≤sizeLine) :
  Inv X pins σ (upd H s.heap.objs.size (.lst ys)) { s with heap:=s.heap.push { cls:=.type "list",data:=.seq its.toArray },toks:=t' } :=
 I.laid (fun _ _ q=>Heap.get?_push_of_some _ q) (Nat.le_refl _) ⟨hz,its,0,hv,Heap.get?_push_size _ rfl⟩
theorem Inv.fresh(I:Inv X pins σ H s):H s.heap.objs.size=none:=I.hok.fresh (Nat.le_refl _)
theorem Inv.lstM(I:Inv X pins σ H s)(hH:H l=some (.lst xs)):xs.length≤sizeLine∧∃(its:List Value) (n:Nat),Vals xs its∧xs.length=its.length∧s.heap.get? l=some { cls:=.type "list",data:=.seq its.toArray n }:=by
 obtain⟨z,its,n,r,e⟩:=I.hok l _ hH
 exact⟨z,its,n,r,r.length,e⟩
theorem a7s{n:Nat}(h:n≤sizeLine):Builtin.List.listTooLong n=false:=by
 unfold Builtin.List.listTooLong
 exact decide_eq_false (by omega)
end
section
variable {X:Cx}
def a44:V→List V→Hp→VK→Prop:=fun x vs H Q=>∃l xs y,x=.ref l∧vs=[y]∧H l=some (.lst xs)∧xs.length<sizeLine∧Q .non (upd H l (.lst (xs++[y])))
theorem R6:MtM X "list.append" a44:=by
 intro pins s σ H x vs v us Q I rx rv h
 obtain⟨l,xs,y,rfl,rfl,hH,hz,q⟩:=h
 cases rx
 obtain⟨u,rfl,ru⟩:=rv.one
 obtain⟨z,its,n,r,hl,e⟩:=I.lstM hH
 refine call_meets F.slot_list_append ⟨_,e,rfl⟩ F.entry_list_append (F.args_list_append_2 _ _) (PySem.list_append l its.toArray n u (by rw[List.size_toArray];omega)) ⟨e,?_⟩
 refine⟨.non,_,I.lset (its':=its++[u]) hH e (by simp) (r.append (.cons ru .nil)) ?_,rfl,q⟩
 rw[List.length_append,List.length_singleton]
 omega
def b1l:R2:=fun x y H Q=>∃l k xs,x=.ref l∧y=.int k∧H l=some (.lst xs)∧-(2 ^ 63)≤k∧k<2 ^ 63∧xs.length*k.toNat≤sizeLine ∧
 ∀p,H p=none→Q (.ref p) (upd H p (.lst (List.replicate k.toNat xs).flatten))
theorem a9r{α:Type}(xs:List α)(k:Nat):(List.replicate k xs).flatten.length=k*xs.length:=by
 induction k with
 | zero=>simp
 | succ k ih=>rw[List.replicate_succ,List.flatten_cons,List.length_append,ih,Nat.succ_mul,Nat.add_comm]
theorem b1m:OpR X (binaryOp .Mult) b1l:=by
 intro pins s σ H x y v u Q I rx ry h
 obtain⟨l,k,xs,rfl,rfl,hH,h1,h2,hz,q⟩:=h
 cases rx
 obtain⟨t,rfl⟩:=ry
 obtain⟨z,its,n,r,hl,e⟩:=I.lstM hH
 have hlen:its.toArray.size*k.toNat≤sizeLine:=by rw[List.size_toArray,← hl];exact hz
 have hcap:¬its.toArray.size*k.toNat > (2 ^ 63-1)/8:=by
  have:(sizeLine:Nat)≤(2 ^ 63-1)/8:=by decide
  omega
 have hfit:¬(!Builtin.List.listFitsIndex k)=true:=by
  rw[fitsIndex_both h1 h2]
  exact Bool.false_ne_true
 have hlong:¬Builtin.List.listTooLong (its.toArray.size*k.toNat)=true:=by
  rw[a7s hlen]
  exact Bool.false_ne_true
 have hnew:List.foldl (fun x1 x2=>x1++x2) #[] (List.replicate (if its.toArray.isEmpty=true then 0 else k.toNat) its.toArray)=(List.replicate k.toNat its).flatten.toArray:=by
  have f0:∀m:Nat,List.foldl (fun x1 x2=>x1++x2) #[] (List.replicate m its.toArray)=(List.replicate m its).flatten.toArray:=fun m=>by
   have:=a3c its m []
   rw[List.nil_append]at this
   exact this
  rw[f0]
  cases its with
  | nil=>simp
  | cons a r'=>rw[if_neg (by simp)]
 refine wpAny_binaryOp_repeat_ref (T := "list") (U := "int") (by decide) ⟨_,e,rfl⟩ (fun s'=>typeIs_int s' k t) noFill_list_mul F.fills_int_mul F.slot_int_rmul repeat_list F.slot_int_index.lookup
  (call_meets F.slot_int_rmul (typeIs_int s k t) F.entry_int_rmul (F.args_int_rmul_2 _ _) (int___rmul___int_list k t l its.toArray n)
   ⟨e,rfl,⟨_,e,rfl⟩,call_meets F.slot_list_mul ⟨_,e,rfl⟩ F.entry_list_mul (F.args_list_mul_2 _ _) (AutoListH.list___mul___list_int_3 l its.toArray n k t hfit hcap hlong) ⟨e,?_⟩⟩)
 rw[hnew]
 exact⟨.ref _,_,I.lnew (t':=s.toks) (r.rep k.toNat) (by rw[a9r,Nat.mul_comm];exact hz),rfl,q _ I.fresh⟩
end
end L2
namespace Att
open PySem PySem.W PySem.Calls PyProof.Rows
theorem a13{P:Params}{h:Heap}:∀(ns:List Int) (vs:List Value),WellAll P h vs (ns.map WData.int)→IntsAre vs ns:=by
 intro ns
 induction ns with
 | nil =>
  intro vs w
  rw[List.map_nil]at w
  cases w
  exact .nil
 | cons n ns ih =>
  intro vs w
  rw[List.map_cons]at w
  cases w with
  | cons a b =>
   cases a
   exact .cons _ _ (ih _ b)
theorem script_of{l:OpenLaw}{n:Nat}(hn:l.most=some n){P:Params}{h:Heap}{args:List WData}{vals:List Value}
  (hpre:l.row.toRowW.claim.pre args=true) (hwl:WellAll P h vals args) :
  ∃a vs ns,vals=[Value.ref a]∧args=[WData.list (ns.map WData.int)]∧h.get? a=some { cls:=.type "list",data:=.seq vs.toArray }∧IntsAre vs ns∧ns.length≤n:=by
 have hsh:WShape.hasAll [] args [.list .int]=true:=(pre_splitW hpre).1
 have hc:l.pre.holds [] { args:=args }=true:=(pre_splitW hpre).2
 obtain⟨d,r,rfl,h1,h2⟩:=hasAllW_cons hsh
 obtain rfl:=hasAllW_nil h2
 obtain⟨xs,rfl,h3⟩:=hasW_list h1
 obtain⟨ns,rfl⟩:=items_int h3
 have hlen:ns.length≤n:=by
  unfold OpenLaw.pre at hc
  have h4:(WTm.not (.lt (.lit (.int (n:Int))) (.len (.arg 0)))).holds [] { args:=[.list (ns.map .int)] }=true:=by
   have h4:=(holds_andW hc).1
   rw[hn]at h4
   exact h4
  have h5:=condW_of h4 (w_not (w_lt w_lit (w_len_list (w_arg rfl))))
  rw[List.length_map]at h5
  refine Nat.le_of_not_lt fun q=>?_
  have q':(n:Int)<((ns.length:Nat):Int):=by omega
  first
   | (rw[decide_eq_true q']at h5;exact absurd h5 (by decide))
   | (simp at h5;omega)
 cases hwl with
 | cons w1 w2 =>
  cases w2
  cases w1 with
  | list ho hall=>exact⟨_,_,ns,rfl,rfl,ho,a13 ns _ hall,hlen⟩
theorem post_true(l:OpenLaw)(args:List WData):l.row.toRowW.claim.post args (.bool true) args=true :=
 postW_of (r:=l.row.toRowW) (X:=(true == true))
  (show WShape.has [] (.bool true) .bool=true by first | rfl | decide | simp[WShape.has,WShape.arms,WShape.armsAll])
  (show(WTm.eq .res (.lit (.bool true))).value [] { args:=args,res:=some (.bool true),after:=args }=some (.bool (true == true))from w_eq_bool (w_res rfl) w_lit) rfl
end Att
namespace L2
open PySem PySem.Spec PyProof.Rows
theorem a3d:∀{vs:List Value} {ns:List Int},IntsAre vs ns→Vals (ns.map V.int) vs
 | _,_,.nil=>.nil
 | _,_,.cons n t h=>.cons ⟨t,rfl⟩ (a3d h)
def a5P(H:Hp):Prop:=∀b,H b=none∨∃o xs,H b=some (.frz o (.lst xs))
theorem a7t{P:Program}{w:World}{K:W.Frag}{mg mb:Str→Option Value}{CX:Y8}{k:Nat}{fa a:Addr}{fd:FuncData}{x:Str}{sp:Sp}{s₁:Shared}{vs:List Value}{ns:List Int}
  (KX:K.In s₁.heap) (hns:s₁.heap.Ns mainGlobals mg) (hb:s₁.heap.Ns builtinsNs mb) (hbb:∀x:Str,x≠"__name__"→mb x=bootBuiltins x) (hlim:s₁.heap.NoLimit) (hg:s₁.gens = #[])
  (ha:s₁.heap.get? a=some { cls:=.type "list",data:=.seq vs.toArray }) (hi:IntsAre vs ns) (hl:ns.length≤sizeLine) (hr:Room k callerA)
  (F:∀base:Heap,K.In base→base.Ns mainGlobals mg→FnOk P w K mg base CX k fa fd [x] sp) (hbind:∀(s:Shared) (u:Value),BindsTo s fd ⟨[u],[]⟩ [(x,u)])
  (hsp:∀H:Hp,a5P H→SqL K H a (ns.map V.int)→sp [.ref a] H (fun v _=>v=.bl true) fun _ _ _=>False)
  (hCX:∀H e s',CX [] H s₁ (fun _ _ _=>False) e s'→False) :
  codeAny (model P w) callerA (.call (.ref fa) ⟨[.ref a],[]⟩) (fun r s'=>r=.ok (.ret (.bool true))∧OldK s₁.heap s'.heap∧s'.os=s₁.os∧AllBare s'.gens) s₁:=by
 have rv:=a3d hi
 have lenV:=hi.length
 -- from an abstract heap in which nothing but the script may be tracked
 have core:∀H:Hp,a5P H→SqL K H a (ns.map V.int)→HOk P w H s₁.heap→(∀b,H b≠none→b=a)→(H a≠none→K.lookup a=none) →
   codeAny (model P w) callerA (.call (.ref fa) ⟨[.ref a],[]⟩) (fun r s'=>r=.ok (.ret (.bool true))∧OldK s₁.heap s'.heap∧s'.os=s₁.os∧AllBare s'.gens) s₁:=by
  intro H hO hS hok hA hK
  have base_of:∀{b:Addr} {o:Obj},s₁.heap.get? b=some o→H b=none→(Z9 s₁.heap H).get? b=some o:=fun e n=>a7k e n
  have noA:∀{b:Addr} {o:Obj} {es:Array DictEntry} {ep:Nat},s₁.heap.get? b=some o→o.data=.dict es ep→H b=none:=fun{b o es ep} e d=>by
   cases q:H b with
   | none=>rfl
   | some u =>
    have e':b=a:=hA b (by rw[q];simp)
    subst e'
    rw[ha]at e;cases e
    have d':Data.seq vs.toArray _=Data.dict es ep:=d
    cases d'
  have nsK:∀{b:Addr} {m:Str→Option Value},s₁.heap.Ns b m→(Z9 s₁.heap H).Ns b m:=fun{b m} ⟨o,es,ep,e,d,r⟩=>⟨o,es,ep,base_of e (noA e d),d,r⟩
  have hKb:K.In (Z9 s₁.heap H):=fun b o e=>base_of (KX b o e) (by
   cases q:H b with
   | none=>rfl
   | some u =>
    have e':b=a:=hA b (by rw[q];simp)
    subst e'
    rw[hK (by rw[q];simp)]at e;cases e)
  have hM:Mod K mg (Z9 s₁.heap H):=⟨hKb,nsK hns,⟨mb,nsK hb,hbb⟩,let ⟨mc,h1,h2⟩:=hlim; ⟨mc,nsK h1,h2⟩⟩
  have e0:Env0 P w K mg (Z9 s₁.heap H) callerA [] s₁ H:=⟨rfl,hM,fun b o e=>a9i e,Nat.le_of_eq (a6s _ _),trivial,fun b hb=>absurd (show b∈([]:List Addr)from hb) (by simp),hok,.of_eq hg⟩
  refine codeAny_mono ((F _ hKb (nsK hns)).run callerA [] s₁ H ⟨[.ref a],[]⟩ [.ref a] [.ref a] _ _ hr e0 (hbind s₁ (.ref a)) (.cons rfl .nil) (hsp H hO hS)) fun r s' h=>?_
  cases r with
  | error e=>exact(hCX H e s' h).elim
  | ok fl =>
   cases fl with
   | next=>exact False.elim h
   | brk=>exact False.elim h
   | cont=>exact False.elim h
   | ret u =>
    obtain⟨v,H',os,bare,un,hok',r',q⟩:=h
    have q':v=.bl true:=q
    subst q'
    obtain rfl:u=Value.bool true:=r'
    refine⟨rfl,OldK.of_keep fun b o e=>?_,os,bare⟩
    cases q:H b with
    | none=>exact un.keep b o e q (by intro z;exact absurd (show b∈([]:List Addr)from z) (by simp)) (by simp)
    | some u =>
     rcases hO b with z | ⟨ob,xs,z⟩
     ·rw[q]at z;cases z
     ·have z2:=un.frzs b ob _ z
      obtain⟨e1,_⟩:=hok b _ z
      obtain⟨e2,_⟩:=hok' b _ z2
      rw[e]at e1;cases e1
      exact e2
 cases hk:K.lookup a with
 | some o =>
  -- the script is one of the module's own objects
  have e:=KX a o hk
  rw[ha]at e
  cases e
  refine core (fun _=>none) (fun _=>.inl rfl) (.inr ⟨_,vs.toArray,_,hk,rfl,rfl,rfl,by rw[List.size_toArray,lenV];exact hl,by simpa using rv⟩) (fun b u z=>by have z':(none:Option HO)=some u:=z;cases z') (fun b z=>absurd rfl z) fun z=>absurd rfl z
 | none =>
  refine core (fun b=>if b=a then some (.frz { cls:=.type "list",data:=.seq vs.toArray } (.lst (ns.map V.int)))else none) (fun b=>?_) (.inl (.inr ⟨{ cls:=.type "list",data:=.seq vs.toArray },if_pos rfl⟩)) (fun b u z=>?_) (fun b z=>?_) fun _=>hk
  ·by_cases hb:b=a
   ·exact .inr ⟨_,_,if_pos hb⟩
   ·exact .inl (if_neg hb)
  ·by_cases hb:b=a
   ·have z':=(if_pos hb).symm.trans z
    cases z'
    subst hb
    exact⟨ha,by rw[List.length_map];exact hl,vs,_,rv,ha⟩
   ·have z':=(if_neg hb).symm.trans z
    cases z'
  ·by_cases hb:b=a
   ·exact hb
   ·exact absurd (if_neg hb) z
def a9s(s:Stmt)(j:Nat):Stmt:=match s with
 | .ClassDef _ _ _ body _ _ _ _ _ _ _=>body.getD j (.Pass ⟨0,0,0,0⟩)
 | _=>.Pass ⟨0,0,0,0⟩
def m3(s:Stmt):Arguments:=match s with
 | .FunctionDef _ a _ _ _ _ _ _ _ _=>a
 | _=>{ posonlyargs:=[],args:=[],vararg:=none,kwonlyargs:=[],kw_defaults:=[],kwarg:=none,defaults:=[] }
def j9(s:Stmt):List Stmt:=match s with
 | .FunctionDef _ _ b _ _ _ _ _ _ _=>b
 | _=>[]
def b8(s:Stmt):Scope:=match s with
 | .FunctionDef _ _ _ _ _ _ sc _ _ _=>sc
 | _=>{ kind:=.function,names:=[],isGenerator:=false,isCoroutine:=false }
abbrev CX0:Y8:=fun _ _ _ _ _ _=>False
abbrev E0:XK:=fun _ _ _=>False
structure Fun(K:W.Frag)(x qual:Str)(st:Stmt)(f:Addr)(fd:FuncData):Prop where
 ex:∃(oc:Value) (od:Option Addr) (kV doc pm:Value) (an:Option Addr) (cdv ct:Value) (osl:Array (Option Value)),
  fd=W.fnOf x qual (m3 st) (j9 st) (b8 st) .none kV doc pm an cdv ct∧K.lookup f=some ⟨oc,od,.func fd,osl⟩∧W.codeIn K cdv qual=true
 kp:W.keepIn K (.ref f)=true
section
variable {P:Program}{w:World}{K:W.Frag}{mg:Str→Option Value}{base:Heap}
theorem Fun.ok{x qual:Str}{st:Stmt}{f:Addr}{fd:FuncData}{N ps:List Str}{k:Nat}{sp:Sp}(F:Fun K x qual st f fd)(S:FnScope N ps (b8 st))(len:∀vs H Q E,sp vs H Q E→vs.length=ps.length)
  (hbody:∀(cdv:Value) (A:Around) (outer:List Env) (s:Shared) (H:Hp) (vs:List V) (Q:VK) (E:XK),Room k (A.deeper (envOfC qual (b8 st) s.heap.objs.size f cdv))→sp vs H Q E →
   ∃t,PSs (O4 CX0 P w K mg base N qual (b8 st) f cdv A outer s H E).nox (j9 st) t∧t { nx:=fun _ H'=>Q .non H',rt:=Q } (start N vs) H):FnOk P w K mg base CX0 (k+1) f fd ps sp:=by
 obtain⟨oc,od,kV,doc,pm,an,cdv,ct,osl,rfl,lk,hcd⟩:=F.ex
 refine a5L lk hcd S len fun A outer s H vs Q E hr hsp=>?_
 obtain⟨t,h,q⟩:=hbody cdv A outer s H vs Q E hr hsp
 exact⟨t,h.nox,q⟩
theorem Fun.binds{x qual:Str}{st:Stmt}{f:Addr}{fd:FuncData}{ps:List Str}(F:Fun K x qual st f fd)
  (h:∀(kV doc pm:Value) (an:Option Addr) (cdv ct:Value) (us:List Value),us.length=ps.length→bindArgs (W.fnOf x qual (m3 st) (j9 st) (b8 st) .none kV doc pm an cdv ct) ⟨us,[]⟩=pure (ps.zip us)):Binds K fd ps []:=by
 obtain⟨oc,od,kV,doc,pm,an,cdv,ct,osl,rfl,lk,hcd⟩:=F.ex
 exact .all (h kV doc pm an cdv ct)
theorem v8{x qual:Str}{st:Stmt}{f:Addr}{oc:Value}{od an:Option Addr}{osl:Array (Option Value)}{kV doc pm cdv ct:Value}(l:K.lookup f=some ⟨oc,od,.func (W.fnOf x qual (m3 st) (j9 st) (b8 st) .none kV doc pm an cdv ct),osl⟩)
  (c:W.codeIn K cdv qual=true) (k:W.keepIn K (.ref f)=true):Fun K x qual st f (W.fnOf x qual (m3 st) (j9 st) (b8 st) .none kV doc pm an cdv ct):=⟨⟨oc,od,kV,doc,pm,an,cdv,ct,osl,rfl,l,c⟩,k⟩
end
section
variable {X:Cx}
theorem pv(i:Nat){x:Str}{pos:Pos}(hN:X.N[i]? = some x:=by rfl)(hv:Vis X.env.scope x:=by first | exact Or.inl rfl | exact Or.inr (Or.inl rfl) | exact Or.inr (Or.inr rfl))(hd:(x == ("__debug__" : Str))=false:=by decide)
  (hcd:(x == ("__classdict__" : Str))=false:=by decide):PE X (.Name x pos) (E6 i):=b05 hN hv hd hcd
end
def Same(H H':Hp):Prop:=∀b o,H b=some o→H' b=some o
theorem Same.refl(H:Hp):Same H H:=fun _ _ h=>h
theorem Same.trans{H H1 H2:Hp}(a:Same H H1)(b:Same H1 H2):Same H H2:=fun c o h=>b c o (a c o h)
theorem Same.free{H H':Hp}(e:Same H H'){l:Addr}(h:H' l=Option.none):H l=Option.none:=by
 cases q:H l with
 | none=>rfl
 | some o =>
  rw[e l o q]at h
  cases h
theorem Same.seq{K:W.Frag}{H H':Hp}{a:Addr}{xs:List V}(e:Same H H')(h:SqL K H a xs):SqL K H' a xs:=by
 rcases h with(h | ⟨o,h⟩) | h
 ·exact .inl (.inl (e _ _ h))
 ·exact .inl (.inr ⟨o,e _ _ h⟩)
 ·exact .inr h
end L2
set_option maxHeartbeats 4000000
namespace L2
open PySem PySem.Spec PyProof.Rows
theorem ObjOk.there{P:Program}{w:World}{H:Hp}{h:Heap}{a:Addr}{o:HO}(x:ObjOk P w H h a o):∃ob,h.get? a=some ob:=by
 cases o with
 | lst xs=>obtain⟨_,_,_,_,e⟩:=x;exact⟨_,e⟩
 | tup xs=>obtain⟨_,_,_,p⟩:=x;obtain⟨o,e,_⟩:=p;exact⟨_,e⟩
 | dK kvs=>obtain⟨_,_,_,_,o,_,_,e,_⟩:=x;exact⟨_,e⟩
 | dT kvs=>obtain⟨_,_,_,_,o,_,_,e,_⟩:=x;exact⟨_,e⟩
 | set S n=>obtain⟨o,_,_,_,e,_⟩:=x;exact⟨_,e⟩
 | ins C dx fs=>obtain⟨_,_,_,e,_⟩:=x;exact⟨_,e⟩
 | own y=>obtain⟨_,e⟩:=x;exact⟨_,e⟩
 | xd fs=>obtain⟨_,⟨_,_,_,e,_⟩,_⟩:=x;exact⟨_,e⟩
 | rng lo hi=>obtain⟨_,_,_,e⟩:=x;exact⟨_,e⟩
 | frz ob u=>obtain⟨e,_⟩:=x;exact⟨_,e⟩
 | tbl ps=>obtain⟨_,e,_⟩:=x;exact⟨_,e⟩
 | met f y=>exact⟨_,(show h.get? a=some _ from x)⟩
 | ext φ=>obtain⟨_,⟨_,e⟩,_⟩:=x;exact⟨_,e⟩
def Imp(X:Cx)(pins:List (Addr×Obj))(H:Hp)(b:Addr):Prop:=H b≠none∨(b ∉ X.ex∧∃o,X.s₀.heap.get? b=some o)∨∃p∈X.pn++pins,p.1=b
def a1F:Option Addr→Value
 | none=>.none
 | some n=>if n%2=0 then .ref (n/2)else .none
def a0R:Option Addr→Option Addr
 | none=>none
 | some n=>if n%2=0 then none else some (n/2)
def TrX(h B:Heap)(e:Addr)(cls:Value)(cx:Option Addr)(fl:Value):Prop :=
 ∃oe vs T oT ts,(h.get? e=some oe∧oe.cls=cls∧oe.data=.fields vs∧oe.dict=a0R cx)∧(vs[1]? = some (.ref T)∧vs[2]? = some (a1F cx))∧(B.get? T=none∧T≠e)∧h.get? T=some oT∧oT.data=.fields ts∧ts[3]? = some fl
theorem Obj.dict_mapF(o:Obj)(g:Array Value→Array Value):(Obj.mapFields g o).dict=o.dict:=by
 obtain⟨a,b,c,d⟩:=o
 cases c<;>rfl
theorem U6(T:Addr):(Value.ref T != Value.none)=true:=by simp
inductive Ph where | new | fly | any
def XTr(B h:Heap)(a:Addr)(cls:Value)(cx:Option Addr):Ph→Prop
 | .new=>∃oe vs,h.get? a=some oe∧oe.cls=cls∧oe.data=.fields vs∧vs[1]? = some .none∧vs[2]? = some (a1F cx)∧oe.dict=a0R cx
 | .fly=>TrX h B a cls cx .none
 | .any=>∃fl,TrX h B a cls cx fl
theorem XTr.there{B h:Heap}{a:Addr}{cls:Value}{cx:Option Addr}{ph:Ph}(x:XTr B h a cls cx ph):∃oe vs,h.get? a=some oe∧oe.cls=cls∧oe.data=.fields vs∧vs[2]? = some (a1F cx)∧oe.dict=a0R cx:=by
 cases ph with
 | new=>obtain⟨oe,vs,h1,h2,h3,_,h4,h5⟩:=x;exact⟨oe,vs,h1,h2,h3,h4,h5⟩
 | fly=>obtain⟨oe,vs,_,_,_,⟨h1,h2,h3,h5⟩,⟨_,h4⟩,_⟩:=x;exact⟨oe,vs,h1,h2,h3,h4,h5⟩
 | any=>obtain⟨_,oe,vs,_,_,_,⟨h1,h2,h3,h5⟩,⟨_,h4⟩,_⟩:=x;exact⟨oe,vs,h1,h2,h3,h4,h5⟩
section
variable {M:Model}{A:Around}{E:Value→Shared→Prop}{s:Shared}
def a14(B:Heap)(l:List Env)(e:Addr)(cls:Value)(cx:Option Addr)(fl:Value)(h h':Heap):Prop:=B.StaysIn h'∧h'.FunFrames B l∧TrX h' B e cls cx fl∧h.UpToSlots h'
theorem a45{B:Heap}{env:Env}{outer:List Env}{L e:Addr}{oe:Obj}{vs:Array Value}{head:Value}{cx:Option Addr}{nx:Bool}{Q:Unit→Shared→Prop}(fr:A.frames=some (env::outer))(ff:s.heap.FunFrames B (env::outer))(hf:env.frame=some L)
  (ge:s.heap.get? e=some oe) (st:B.StaysIn s.heap) (be:B.get? e=none) (de:oe.data=.fields vs) (z1:1<vs.size) (z2:vs[2]? = some (a1F cx)) (z6:oe.dict=a0R cx) (q:∀h',a14 B (env::outer) e oe.cls cx (rawInt L) s.heap h'→Q () { s with heap:=h' }) :
  wpAny M A (do let a ← frameOf env;let pl ← entryPlaceOf L nx;let b ← EntryCells.newEntry head a .none (rawInt L) .none pl;setField (.ref e) 1 b) Q E s:=by
 have nf:∀b o,s.heap.get? b=some o→(∀ws,o.data≠.fields ws)→b≠e:=fun b o gb nb zb=>by subst zb;rw[ge]at gb;cases gb;exact nb vs de
 have out:e ∉ (env::outer).filterMap (·.frame):=fun m=>by obtain⟨_,o,go,no⟩:=ff.mem m;exact nf e o go no rfl
 refine wpAny_bind (wpAny_frameOf_fun fr ff hf fun h1 only=>wpAny_bind (wpAny_entryPlaceOf fun pl place=>?_))
 unfold EntryCells.newEntry newFields
 refine wpAny_bind (wpAny_newObj_type ?_ (place.sizeOk5 _ _ _ _ _))
 have ge1:h1.get? e=some oe:=(only.2.1 e out).trans ge
 have st1:B.StaysIn h1:=fun b o gb=>(only.2.1 b fun m=>by have:=(ff.mem m).1;rw[this]at gb;cases gb).trans (st b o gb)
 have ne1:h1.objs.size≠e:=fun z=>absurd (Heap.lt_size ge1) (by rw[z];exact Nat.lt_irrefl _)
 refine wpAny_setField (Heap.get?_push_of_some _ ge1) de z1 (q _ ?_)
 have far:∀{ob:Obj} {g:Obj→Obj} {b:Addr} {o:Obj},b≠e→h1.get? b=some o→((h1.push ob).update e g).get? b=some o:=fun ne gb=>(Heap.get?_update_other _ _ (Ne.symm ne)).trans (Heap.get?_push_of_some _ gb)
 refine⟨fun b o gb=>far (fun z=>by rw[z,be]at gb;cases gb) (st1 b o gb),ff.of_keeps fun b o gb nb=>?_,?_,fun b o gb nb=>?_⟩
 ·obtain⟨sl,g⟩:=only.2.2 b o gb;exact⟨_,far (nf b o gb nb) g,rfl⟩
 ·have dd:=Obj.data_mapFields de (·.setIfInBounds 1 (Value.ref h1.objs.size))
  refine⟨_,_,h1.objs.size,_,_,⟨Heap.get?_update_self _ (Heap.get?_push_of_some _ ge1) (Obj.isFreed_of_fields dd),Obj.cls_mapFields _ _,dd,(Obj.dict_mapF _ _).trans z6⟩,⟨by simp[z1],by rw[Array.getElem?_setIfInBounds_ne (by decide)];exact z2⟩,⟨st1.fresh,ne1⟩,(Heap.get?_update_other _ _ (Ne.symm ne1)).trans (Heap.get?_push_size h1 rfl),rfl,?_⟩
  first | (simp;done) | (rcases place with rfl | ⟨_,_,_,_,_,_,_,rfl⟩<;>simp)
 ·obtain⟨sl,g⟩:=only.2.2 b o gb;exact⟨sl,far (nf b o gb nb) g⟩
theorem a5Q{B:Heap}{env:Env}{outer:List Env}{L e:Addr}{oe:Obj}{vs:Array Value}{cx:Option Addr}{Q:Unit→Shared→Prop}(fr:A.frames=some (env::outer))(ff:s.heap.FunFrames B (env::outer))(hf:env.frame=some L)
  (ge:s.heap.get? e=some oe) (st:B.StaysIn s.heap) (be:B.get? e=none) (de:oe.data=.fields vs) (z1:vs[1]? = some .none) (z2:vs[2]? = some (a1F cx)) (z6:oe.dict=a0R cx) (q:∀h',a14 B (env::outer) e oe.cls cx (rawInt L) s.heap h'→Q () { s with heap:=h' }):wpAny M A (noteFrame (.ref e) env) Q E s:=by
 unfold noteFrame
 simp only[hf]
 refine wpAny_bind (wpAny_field ge de z1 ?_)
 rw[if_neg (by decide)]
 exact a45 fr ff hf ge st be de (Array.getElem?_eq_some_iff.mp z1).1 z2 z6 q
theorem a9t{B:Heap}{env:Env}{outer:List Env}{L e:Addr}{cls:Value}{cx:Option Addr}{Q:Unit→Shared→Prop}(fr:A.frames=some (env::outer))(ff:s.heap.FunFrames B (env::outer))(hf:env.frame=some L)
  {fl:Value} (t:TrX s.heap B e cls cx fl) (nl:¬(fl == rawInt L)=true) (st:B.StaysIn s.heap) (be:B.get? e=none) (q:∀h',a14 B (env::outer) e cls cx (rawInt L) s.heap h'→Q () { s with heap:=h' }):wpAny M A (noteFrame (.ref e) env) Q E s:=by
 obtain⟨oe,vs,T,oT,ts,⟨ge,rfl,de,z6⟩,⟨z1,z2⟩,⟨bT,nT⟩,gT,dT,z3⟩:=t
 unfold noteFrame
 simp only[hf]
 refine wpAny_bind (wpAny_field ge de z1 ?_)
 rw[if_pos (U6 T)]
 refine wpAny_bind (wpAny_field gT dT z3 ?_)
 rw[if_neg nl]
 refine wpAny_bind (wpAny_setField gT dT (Array.getElem?_eq_some_iff.mp z3).1 ?_)
 have far:∀{g:Obj→Obj} b,b≠T→(s.heap.update T g).get? b=s.heap.get? b:=fun b ne=>Heap.get?_update_other _ _ (Ne.symm ne)
 have nf:∀b o,s.heap.get? b=some o→(∀ws,o.data≠.fields ws)→b≠T:=fun b o gb nb zb=>by subst zb;rw[gT]at gb;cases gb;exact nb ts dT
 refine a45 fr (ff.of_keeps fun b o gb nb=>⟨o,(far b (nf b o gb nb)).trans gb,rfl⟩) hf ((far e (Ne.symm nT)).trans ge) (fun b o gb=>(far b fun z=>by rw[z,bT]at gb;cases gb).trans (st b o gb)) be de (Array.getElem?_eq_some_iff.mp z1).1 z2 z6 fun h' x=>q h' ⟨x.1,x.2.1,x.2.2.1,fun b o gb nb=>?_⟩
 exact x.2.2.2 b o ((far b (nf b o gb nb)).trans gb) nb
theorem a5R{B:Heap}{env:Env}{L e:Addr}{cls:Value}{cx:Option Addr}{fl:Value}{Q:Unit→Shared→Prop}(hf:env.frame=some L)(t:TrX s.heap B e cls cx fl)(el:(fl == rawInt L)=true)(q:Q () s):wpAny M A (noteFrame (.ref e) env) Q E s:=by
 obtain⟨oe,vs,T,oT,ts,⟨ge,rfl,de,z6⟩,⟨z1,z2⟩,⟨bT,nT⟩,gT,dT,z3⟩:=t
 unfold noteFrame
 simp only[hf]
 refine wpAny_bind (wpAny_field ge de z1 ?_)
 rw[if_pos (U6 T)]
 refine wpAny_bind (wpAny_field gT dT z3 ?_)
 rw[if_pos el]
 exact wpAny_pure q
theorem a30{B:Heap}{l:List Env}{e:Addr}{cls fl:Value}{cx fr:Option Addr}{Q:Unit→Shared→Prop}(st:B.StaysIn s.heap)(ff:s.heap.FunFrames B l)(t:TrX s.heap B e cls cx fl)
  (q:∀h',a14 B l e cls cx (fr.elim Value.none fun f=>rawInt f) s.heap h'→Q () { s with heap:=h' }):wpAny M A (setFlight (.ref e) fr) Q E s:=by
 obtain⟨oe,vs,T,oT,ts,⟨ge,rfl,de,z6⟩,⟨z1,z2⟩,⟨bT,nT⟩,gT,dT,z3⟩:=t
 have z4:3<ts.size:=(Array.getElem?_eq_some_iff.mp z3).1
 have far:∀{g:Obj→Obj} b,b≠T→(s.heap.update T g).get? b=s.heap.get? b:=fun b ne=>Heap.get?_update_other _ _ (Ne.symm ne)
 have nf:∀b o,s.heap.get? b=some o→(∀ws,o.data≠.fields ws)→b≠T:=fun b o gb nb zb=>by subst zb;rw[gT]at gb;cases gb;exact nb ts dT
 unfold setFlight
 refine wpAny_bind (wpAny_field ge de z1 ?_)
 rw[if_pos (U6 T)]
 refine wpAny_setField gT dT z4 (q _ ⟨fun b o gb=>(far b fun z=>by rw[z,bT]at gb;cases gb).trans (st b o gb),ff.of_keeps fun b o gb nb=>⟨o,(far b (nf b o gb nb)).trans gb,rfl⟩,?_,fun b o gb nb=>⟨o.slots,(far b (nf b o gb nb)).trans gb⟩⟩)
 have dd:=Obj.data_mapFields dT (·.setIfInBounds 3 (fr.elim Value.none fun f=>rawInt f))
 exact⟨oe,vs,T,_,_,⟨(far e (Ne.symm nT)).trans ge,rfl,de,z6⟩,⟨z1,z2⟩,⟨bT,nT⟩,Heap.get?_update_self _ gT (Obj.isFreed_of_fields dd),dd,by simp[z4]⟩
end
structure XAt(X:Cx)(pins:List (Addr×Obj))(H:Hp)(s:Shared)(a:Addr)(cls:Value)(cx:Option Addr)(B:Heap)(ph:Ph):Prop where
 free:H a=none
 stays:B.StaysIn s.heap
 fresh:B.get? a=none
 frames:s.heap.FunFrames B X.stack
 cov:∀b o,s.heap.get? b=some o→Imp X pins H b→b ∉ C5 X.stack→B.get? b=some o
 tr:XTr B s.heap a cls cx ph
section
variable {X:Cx}{pins:List (Addr×Obj)}{σ:St}{H:Hp}{s:Shared}{a:Addr}{cls:Value}{cx:Option Addr}{B h':Heap}{ph:Ph}
theorem Imp.there(I:Inv X pins σ H s){b:Addr}(i:Imp X pins H b):∃o,s.heap.get? b=some o:=by
 rcases i with i | ⟨hx,o,i⟩ | ⟨p,hp,e⟩
 ·cases q:H b with
  | none=>exact absurd q i
  | some u=>exact(I.hok b u q).there
 ·exact I.base.there b o i hx
 ·exact⟨p.2,by rw[← e];exact(I.pin p hp).1⟩
theorem Inv.exc(I:Inv X pins σ H s)(cov:∀b o,s.heap.get? b=some o→Imp X pins H b→b ∉ C5 X.stack→B.get? b=some o)(st:B.StaysIn h')(ups:s.heap.UpToSlots h') :
  Inv X pins σ H { s with heap:=h' }:=by
 have fr:∀b,b∈C5 X.stack→∀o,s.heap.get? b=some o→∃sl,h'.get? b=some { o with slots:=sl }:=fun b hb o e=>by
  obtain⟨_,o',e',d⟩:=I.stack.mem hb
  rw[e]at e';cases e'
  exact ups b o e d
 have nfr:∀b,b ∉ X.fs→b≠X.env.locals→b ∉ C5 X.stack:=fun b h1 h2 z=>(List.mem_cons.mp (I.stkSub b z)).elim h2 h1
 have neL:∀b o,X.s₀.heap.get? b=some o→b≠X.env.locals:=fun b o e=>Nat.ne_of_lt (Nat.lt_of_lt_of_le (Heap.lt_size e) I.ok.above)
 have cellK:∀c v,s.heap.IsCell c v→h'.IsCell c v:=fun c v ⟨o,ho,hd⟩=>by
  obtain⟨sl,q⟩:=ups c o ho (fun vs z=>by rw[hd]at z;cases z)
  exact⟨_,q,hd⟩
 refine⟨I.ok,I.os,I.bare,⟨fun b o e n hb hx=>?_,fun b o e n hb hx=>?_,I.base.free,fun b o e hx=>?_,I.base.tups,I.base.frzs,I.base.tbls⟩,?_,fun x c e=>?_,I.free,I.freeC,fun p hp=>?_,?_,I.len⟩
 ·exact st _ _ (cov b o (I.base.keep b o e n hb hx) (.inr (.inl ⟨hx,o,e⟩)) (nfr b hb (neL b o e)))
 ·obtain⟨sl,e1⟩:=I.base.slot b o e n hb hx
  have hb':b∈C5 X.stack:=by
   rcases I.ok.stk with q | ⟨q,hf⟩
   ·rw[q];exact hb
   ·rw[q];unfold C5;rw[List.filterMap_cons,hf];exact List.mem_cons_of_mem _ hb
  obtain⟨sl',e2⟩:=fr b hb' _ e1
  exact⟨sl',e2⟩
 ·obtain⟨o',e1⟩:=I.base.there b o e hx
  by_cases hb:b∈C5 X.stack
  ·obtain⟨sl,q⟩:=fr b hb _ e1
   exact⟨_,q⟩
  ·exact⟨o',st _ _ (cov b o' e1 (.inr (.inl ⟨hx,o,e⟩)) hb)⟩
 ·obtain⟨m,hn,hl⟩:=I.loc
  refine⟨m,ups.ns hn,fun i x v e1 e2 e3=>?_⟩
  obtain⟨u,r,l⟩:=hl i x v e1 e2 e3
  refine⟨u,r,?_⟩
  rcases l with l | ⟨k,c,e,z⟩
  ·exact .inl l
  ·exact .inr ⟨k,c,e,cellK c _ z⟩
 ·obtain⟨v,z⟩:=I.cell x c e
  exact⟨v,cellK c v z⟩
 ·obtain⟨e,n,ne,nf,d⟩:=I.pin p hp
  exact⟨st _ _ (cov p.1 p.2 e (.inr (.inr ⟨p,hp,rfl⟩)) (nfr p.1 nf ne)),n,ne,nf,d⟩
 ·intro b u e
  refine(I.hok b u e).stay (fun c v hc q=>?_) (fun _ q=>q) (fun _ _ q=>q) fun _ _ _ q=>q
  have hc':H c≠none:=by
   rcases hc with z | z
   ·rw[z,e];exact fun q=>nomatch q
   ·rw[z];exact fun q=>nomatch q
  exact st _ _ (cov c v q (.inl hc') fun z=>hc' (I.stkFree c z))
theorem XAt.cov'(x:XAt X pins H s a cls cx B ph)(I:Inv X pins σ H s)(st:B.StaysIn h'):∀b o,h'.get? b=some o→Imp X pins H b→b ∉ C5 X.stack→B.get? b=some o:=fun b o e i n=>by
 obtain⟨o1,e1⟩:=i.there I
 have q:=x.cov b o1 e1 i n
 have q2:=st _ _ q
 rw[e]at q2;cases q2
 exact q
variable {M:Model}{A:Around}{E:Value→Shared→Prop}{Q:Unit→Shared→Prop}
theorem a7u{e:Value}{env env0:Env}(h:env0.frame=env.frame):noteFrame e env=noteFrame e env0:=by
 unfold noteFrame PySem.frameOf
 rw[h]
theorem a2G{env0:Env}{out0:List Env}{F:Addr}(hA:A.frames=some X.stack)(hs:X.stack=env0::out0)(h0:env0.frame=X.env.frame)(hf:X.env.frame=some F)(I:Inv X pins σ H s)(x:XAt X pins H s a cls cx B ph)
  (hQ:∀h',Inv X pins σ H { s with heap:=h' }→XAt X pins H { s with heap:=h' } a cls cx B .any→Q () { s with heap:=h' }):wpAny M A (noteFrame (.ref a) X.env) Q E s:=by
 have hfr:A.frames=some (env0::out0):=by rw[hA,hs]
 have hl:s.heap.FunFrames B (env0::out0):=by rw[← hs];exact x.frames
 rw[a7u h0]
 have hf:env0.frame=some F:=h0.trans hf
 have fin:∀{fl:Value} h',a14 B (env0::out0) a cls cx fl s.heap h'→Q () { s with heap:=h' }:=fun h' ⟨k1,k2,k3,k4⟩ =>
  hQ h' (I.exc x.cov k1 k4) ⟨x.free,k1,x.fresh,by rw[hs];exact k2,x.cov' I k1,_,k3⟩
 have on:∀fl,TrX s.heap B a cls cx fl→wpAny M A (noteFrame (.ref a) env0) Q E s:=fun fl t=>by
  by_cases z:(fl == rawInt F)=true
  ·exact a5R hf t z (hQ s.heap I ⟨x.free,x.stays,x.fresh,x.frames,x.cov,fl,t⟩)
  ·exact a9t hfr hl hf t z x.stays x.fresh fin
 cases ph with
 | new =>
  obtain⟨oe,vs,he,hc,hd,h1,h2,h6⟩:=x.tr
  refine a5Q hfr hl hf he x.stays x.fresh hd h1 h2 h6 fun h' hN=>?_
  rw[hc]at hN
  exact fin h' hN
 | fly=>exact on _ x.tr
 | any=>obtain⟨fl,t⟩:=x.tr;exact on fl t
theorem a2H(I:Inv X pins σ H s)(x:XAt X pins H s a cls cx B ph)(hn:ph≠.new)
  (hQ:∀h',Inv X pins σ H { s with heap:=h' }→XAt X pins H { s with heap:=h' } a cls cx B .fly→Q () { s with heap:=h' }):wpAny M A (setFlight (.ref a) none) Q E s:=by
 have go:∀fl,TrX s.heap B a cls cx fl→wpAny M A (setFlight (.ref a) none) Q E s:=fun fl ht =>
  a30 x.stays x.frames ht fun h' ⟨k1,k2,k3,k4⟩=>hQ h' (I.exc x.cov k1 k4) ⟨x.free,k1,x.fresh,k2,x.cov' I k1,k3⟩
 cases ph with
 | new=>exact absurd rfl hn
 | fly=>exact go _ x.tr
 | any=>obtain⟨fl,t⟩:=x.tr;exact go fl t
end
def w9(P:Program)(w:World):Y8:=fun outer H s E e s' =>
 ∃(a:Addr) (cls:Value) (cx:Option Addr) (H':Hp) (B:Heap),e=.ref a∧s'.os=s.os∧AllBare s'.gens∧Un (C5 outer) [] H H' s.heap s'.heap∧HOk P w H' s'.heap∧B.StaysIn s'.heap∧B.get? a=none∧s'.heap.FunFrames B outer ∧
  TrX s'.heap B a cls cx .none∧H' a=none∧(∀b o,s'.heap.get? b=some o→(H' b≠none∨∃o',s.heap.get? b=some o')→b ∉ C5 outer→B.get? b=some o)∧E cls cx H'
def XAcc(X:Cx)(E:XK):Prop:=∀(pins:List (Addr×Obj)) (σ:St) (H:Hp) (s:Shared) (a:Addr) (cls:Value) (cx:Option Addr) (B:Heap) (ph:Ph),Inv X pins σ H s→XAt X pins H s a cls cx B ph→E cls cx H→X.xe (.ref a) s
theorem L8{P:Program}{w:World}{K:W.Frag}{mg:Str→Option Value}{base:Heap}{N:List Str}{qual:Str}{scope:Scope}{f:Addr}{cd:Value}{A:Around}{outer:List Env}{s:Shared}{H:Hp}{E:XK} :
  XAcc (O4 (w9 P w) P w K mg base N qual scope f cd A outer s H E) E:=by
 intro pins σ H1 s1 a cls cx B ph I x e
 show wpAny (model P w) (A.deeper (envOfC qual scope s.heap.objs.size f cd)) (leaving (envOfC qual scope s.heap.objs.size f cd) (.ref a)) _ _ s1
 unfold leaving
 refine wpAny_bind (a2G (X:=O4 (w9 P w) P w K mg base N qual scope f cd A outer s H E) I.ok.frames rfl rfl rfl I x fun h1 I1 x1=>?_)
 refine a2H I1 x1 (fun z=>nomatch z) fun h2 I2 x2=>?_
 refine⟨a,cls,cx,H1,B,rfl,I2.os,I2.bare,I2.base,I2.hok,x2.stays,x2.fresh,x2.frames.2.2,x2.tr,x2.free,fun b o e1 i n=>?_,e⟩
 have nl:b≠(envOfC qual scope s.heap.objs.size f cd).locals:=fun z=>by
  rcases i with i | ⟨o',i⟩
  ·exact i (by rw[z];exact I2.free)
  ·have:=Heap.lt_size i
   rw[z]at this
   exact absurd this (Nat.lt_irrefl _)
 refine x2.cov b o e1 (i.elim .inl fun z=>.inr (.inl ⟨List.not_mem_nil,z⟩)) fun z=>?_
 rcases List.mem_cons.mp (I2.stkSub b z)with q | q
 ·exact nl q
 ·exact n q
theorem XAcc.passes{X:Cx}{E:XK}(acc:XAcc X E):a0N (w9 X.prog X.w) X E:=by
 intro pins σ H s e s' I h
 obtain⟨a,cls,cx,H',B,rfl,os,bare,un,hok,st,fr,ff,tr,free,cov,hE⟩:=h
 have I':Inv X pins σ H' s':=I.call' (ch:=[]) os un hok bare (fun b z=>absurd z (by simp))
 refine acc pins σ H' s' a cls cx B .fly I' ⟨free,st,fr,ff,fun b o e i n=>cov b o e ?_ n,tr⟩ hE
 rcases i with i | ⟨hx,o',i⟩ | ⟨p,hp,q⟩
 ·exact .inl i
 ·exact .inr (I.base.there b o' i hx)
 ·exact .inr ⟨p.2,by rw[← q];exact(I.pin p hp).1⟩
end L2
namespace PySem.W
open PySem PySem.Spec PySem.Calls PyProof.Rows
structure ExcT(K:Frag)(C:Addr):Prop where
 ga:findIn K (.ref C) "__getattribute__" = some (some (.builtin "BaseException.__getattribute__"))
 gt:findIn K (.ref C) "__getattr__" = some none
 cl:findIn K (.ref C) "__class__" = some (some (.builtin "object.__class__"))
 mo:mroIn K C (.type "object")=some true
 sb:subIn K (.ref C) (.type "BaseException")=some true
section
variable {prog:Program}{w:World}{A:Around}{E:Value→Shared→Prop}{h:Heap}{g:Array GenState}{d:Drawn}{t:Nat}{os:OsState}{K:Frag}{x C:Addr}{o:Obj}{R:Result→Shared→Prop}
theorem a3A{tp:Value}(X:K.In h)(hx:h.get? x=some o)(hc:o.cls=.ref C)(hm:mroIn K C (.type "object")=some true)
  (q:R (.ok (.ret (.ref C))) ⟨h,g,d,t,os⟩):codeAny (model prog w) A (.call (.builtin "getset_descriptor.__get__") ⟨[.builtin "object.__class__",.ref x,tp],[]⟩) R ⟨h,g,d,t,os⟩:=by
 have L0:Looks (model prog w) h (typeOf (.ref x)) (.ref C):=hc▸(Looks.ld hx).andThen .now
 have L1:=looks_mroIn (M:=model prog w) X hm
 refine codeAny_call_builtin KF.slot_gs.plain KF.entry_gs (KF.slot_gs.check _ _ _ _ _ _ _ _ KF.type_class (KF.args_gs _ _ _) ?_)
 unfold Builtin.«getset_descriptor.__get__» Builtin.Getset_descriptor.descrGet
 rw[dga_obj]
 refine wpAny_bind (wpAny_pure ?_)
 unfold Builtin.Getset_descriptor.descrGetter Builtin.Getset_descriptor.descrCheckInstance Builtin.Getset_descriptor.descrNameAndClass isInstance
 simp only[KF.owner_class]
 repeat lk
 refine⟨Code.quiet_builtin _ (by decide +kernel),codeAny_builtin KF.entry_class ?_⟩
 unfold Builtin.«object.__class__» shownTypeOf
 repeat lk
 exact q
theorem a15{tk:Tok}{Q:Fin→Shared→Prop}(X:K.In h)(T:ExcT K C)(hx:h.get? x=some o)(hc:o.cls=.ref C)(q:Q (.done (.ret (.ref C))) ⟨h,g,d,t,os⟩) :
  wpAny (model prog w) A (Builtin.«object.__getattribute__» ⟨[.ref x,.str "__class__" tk],[]⟩) Q E ⟨h,g,d,t,os⟩:=by
 have L0:Looks (model prog w) h (typeOf (.ref x)) (.ref C):=hc▸(Looks.ld hx).andThen .now
 have L1:=looks_findIn (M:=model prog w) X T.cl
 have hT5:(⟨h,g,d,t,os⟩:Shared).TypeIs (.builtin "object.__class__") "getset_descriptor" := F.typeOf_object_class
 have f5:=F.typeOf_object_class
 have f6:=F.slot_gs_get.lookup
 have f7:=F.slot_gs_set.lookup
 repeat (any_goals (first | assumption | (with_reducible refine L0.at ?_) | (with_reducible refine wpAny_bind (L0.at ?_)) | (with_reducible refine L1.at ?_) | (with_reducible refine wpAny_bind (L1.at ?_)) | wp_step))
 refine a3A X hx hc T.mo ?_
 repeat (any_goals (first | assumption | wp_step))
theorem a0S{M:Model}{nameV:Value}{Q:Unit→Shared→Prop}(X:K.In h)(T:ExcT K C)(hx:h.get? x=some o)(hc:o.cls=.ref C)(hq:Q () ⟨h,g,d,t,os⟩):wpAny M A (checkBuiltinCall "BaseException.__getattribute__" ⟨[.ref x,nameV],[]⟩) Q E ⟨h,g,d,t,os⟩:=by
 have hk:builtinKind "BaseException.__getattribute__" = some .slot:=by decide +kernel
 have hsplit:splitId "BaseException.__getattribute__" = some ("BaseException","__getattribute__"):=by decide +kernel
 have L0:Looks M h (typeOf (.ref x)) (.ref C):=hc▸(Looks.ld hx).andThen .now
 have L1:=looks_subIn (M:=M) X T.sb
 have L2:Looks M h (isInstance (.ref x) (.type "BaseException")) true:=L0.andThen L1
 have ha:=F.args_bexc_ga (.ref x) nameV
 simp only[checkBuiltinCall,hk,hsplit]
 refine wpAny_bind (L2.at ?_)
 repeat (first | assumption | wp_step)
theorem a31{tk:Tok}{Q:Value→Shared→Prop}(X:K.In h)(T:ExcT K C)(hx:h.get? x=some o)(hc:o.cls=.ref C)(hq:Q (.ref C) ⟨h,g,d,t,os⟩):wpAny (model prog w) A (getAttrBy (.ref x) (.str "__class__" tk) false) Q E ⟨h,g,d,t,os⟩:=by
 have L0:Looks (model prog w) h (typeOf (.ref x)) (.ref C):=hc▸(Looks.ld hx).andThen .now
 have L1:=looks_findIn (M:=model prog w) X T.ga
 have L2:=looks_findIn (M:=model prog w) X T.gt
 have f3:=F.attr_ValueError.ga.bind (.ref x)
 have hx2:(Value.builtin "BaseException.__getattribute__" == Value.builtin "object.__getattribute__")=false:=by decide +kernel
 have hx1:(onTheHeap (Value.ref C) && Value.builtin "BaseException.__getattribute__" == Value.builtin "object.__getattribute__")=false:=by rw[hx2];rfl
 repeat (any_goals (first | assumption | (with_reducible refine L0.at ?_) | (with_reducible refine wpAny_bind (L0.at ?_)) | (with_reducible refine L1.at ?_) | (with_reducible refine wpAny_bind (L1.at ?_)) | (with_reducible refine L2.at ?_) | (with_reducible refine wpAny_bind (L2.at ?_)) | wp_step))
 refine codeAny_call_builtin F.attr_ValueError.ga.plain F.entry_bexc_ga (a0S X T hx hc (a15 X T hx hc ?_))
 repeat (any_goals (first | assumption | wp_step))
theorem a2I{Q:Option Value→Shared→Prop}(X:K.In h)(T:ExcT K C)(hx:h.get? x=some o)(hc:o.cls=.ref C)(hq:Q (some (.ref C)) ⟨h,g,d,t+1,os⟩):wpAny (model prog w) A (getAttr? (.ref x) "__class__") Q E ⟨h,g,d,t,os⟩:=by
 unfold getAttr? getAttrBy?
 repeat (any_goals (first | assumption | with_reducible apply a31 X T hx hc | wp_step))
end
def b1n(x C:Addr)(h:Heap):Prop:=∃o vs,h.get? x=some o∧o.cls=.ref C∧o.data=.fields vs
theorem kitx_exc{K:Frag}{x C:Addr}(T:ExcT K C):KitX K (.ref x) (.ref C) (b1n x C) where
 ty:=fun _ _ _ ⟨_,_,hx,hc,_⟩=>hc▸(Looks.ld hx).andThen .now
 it:=fun M h X _=>by
  have hm:=T.mo
  unfold mroIn at hm
  obtain⟨cd,hcd⟩:∃cd,clsIn K C=some cd:=by
   cases q:clsIn K C with
   | none=>rw[q]at hm;cases hm
   | some cd=>exact⟨cd,rfl⟩
  unfold clsIn at hcd
  split at hcd
  ·rename_i c' d' cd' sl' ho
   intro A' Q' E' s' k q
   unfold isType loadHead
   exact wpAny_bind (wpAny_loadPart (k _ _ (X _ _ ho)) (wpAny_pure q))
  ·cases hcd
 ne:=fun h tp dd its n sl X htp=>by
  have hm:=T.mo
  unfold mroIn at hm
  obtain⟨cd,hcd⟩:∃cd,clsIn K C=some cd:=by
   cases q:clsIn K C with
   | none=>rw[q]at hm;cases hm
   | some cd=>exact⟨cd,rfl⟩
  refine Bool.eq_false_iff.mpr fun q=>?_
  have e:C=tp:=Value.ref.inj (beq_iff_eq.mp q)
  subst e
  unfold clsIn at hcd
  split at hcd
  ·rename_i c' d' cd' sl' ho
   have z:=(X _ _ ho).symm.trans htp
   cases z
  ·cases hcd
 ca:=fun{_ _ _ _ _ s} X ⟨_,_,hx,hc,_⟩ k=>by
  obtain⟨h,g,d,t,os⟩:=s
  exact a2I X T hx hc k
end PySem.W
namespace L2
open PySem PySem.Spec PyProof.Rows
abbrev TJ:=St→Hp→Str→(Str→Hp→Prop)→Prop
def vErr:List Value:=[.type "ValueError",.type "Exception",.type "BaseException",.type "object"]
theorem a9u{K:W.Frag}{h₀:Heap}{C:Addr}(KX:K.In h₀)(q:W.excIn K C vErr "ValueError.__new__" = true) :
  ∃bm N nm q bs hdct sn sub ab col dd k0 k1 k2 k3 k5 mN,h₀.get? C=some (excClassObj nm q C N bs bm hdct sn sub ab col dd k0 k1 k2 k3 k5 "ValueError.__new__")∧h₀.Ns N mN∧mN "__init__" = none∧OwnTail h₀ vErr bm:=by
 unfold W.excIn at q
 split at q
 ·rename_i dd cd sl ho
  split at q
  ·rename_i C' bm k0 k1 k2 k3 n k5 hm hs
   simp only[Bool.and_eq_true,beq_iff_eq,Bool.not_eq_true']at q
   obtain⟨⟨⟨⟨⟨rfl,rfl⟩,hdel⟩,ht⟩,hok⟩,hni⟩:=q
   obtain⟨nm,bs,mro,ns,qn,hd,sn,sub,ab,col,del⟩:=cd
   dsimp only at hm hdel hok hni
   subst hm hdel
   have hsl:sl = #[k0,k1,k2,k3,some (.builtin "ValueError.__new__"),k5]:=by
    obtain⟨l⟩:=sl
    simp only at hs
    rw[hs]
   subst hsl
   exact⟨bm,ns,nm,qn,bs,hd,sn,sub,ab,col,dd,k0,k1,k2,k3,k5,_,KX _ _ ho,.of_isNs (W.isNs_of_in KX hok),W.nsMap_none_of_in KX hok hni,W.tail_of_in KX ht⟩
  ·cases q
 ·cases q
section
variable {X:Cx}{E:XK}
theorem XAt.first{pins:List (Addr×Obj)}{σ:St}{H:Hp}{s:Shared}{h':Heap}{a:Addr}{cls:Value}{cx:Option Addr}{oe:Obj}{vs:Array Value}(I:Inv X pins σ H s)(k:∀b o,s.heap.get? b=some o→h'.get? b=some o)
  (n:s.heap.get? a=none) (g:h'.get? a=some oe) (hc:oe.cls=cls) (hd:oe.data=.fields vs) (z1:vs[1]? = some .none) (z2:vs[2]? = some (a1F cx)) (z6:oe.dict=a0R cx) :
  Inv X pins σ H { s with heap:=h' }∧XAt X pins H { s with heap:=h' } a cls cx (W.hideAll s.heap (C5 X.stack)) .new:=by
 have I':Inv X pins σ H { s with heap:=h' }:=I.kept (t':=s.toks) k
 have fr:H a=none:=by
  cases q:H a with
  | none=>rfl
  | some u=>obtain⟨o,e⟩:=(I.hok a u q).there;rw[n]at e;cases e
 refine⟨I',fr,fun b o e=>k b o (W.of_hideAll _ e),?_,(W.funFrames_hide I.stack fun env he b hb=>List.mem_filterMap.mpr ⟨env,he,hb⟩).of_keeps fun b o e _=>⟨o,k b o e,rfl⟩,fun b o e i n=>?_,⟨oe,vs,g,hc,hd,z1,z2,z6⟩⟩
 ·cases q:(W.hideAll s.heap (C5 X.stack)).get? a with
  | none=>rfl
  | some o=>have:=W.of_hideAll _ q;rw[n]at this;cases this
 ·obtain⟨o1,e1⟩:=i.there I
  have e2:=k _ _ e1
  rw[e]at e2;cases e2
  exact W.hideAll_get _ e1 n
theorem XAt.made{pins:List (Addr×Obj)}{σ:St}{H:Hp}{s:Shared}{h':Heap}{a:Addr}{cls:Value}{vs:List Value}(I:Inv X pins σ H s)(m:Heap.MadeExcOf s.heap h' a cls vs) :
  Inv X pins σ H { s with heap:=h' }∧XAt X pins H { s with heap:=h' } a cls none (W.hideAll s.heap (C5 X.stack)) .new:=by
 obtain⟨t,he,_,_⟩:=m.there
 exact XAt.first I m.keeps m.new he rfl rfl rfl rfl rfl
def a6A(C:Addr)(E:XK)(ta:TA):TS:=fun _ σ H=>ta σ H fun vs H1=>vs.length≤sizeLine∧E (.ref C) none H1
theorem a32{x:Str}{C:Addr}{e₀:Expr}{j6:List Expr}{np cpos pos:Pos}{ta:TA}(acc:XAcc X E)(q:W.excIn X.K C vErr "ValueError.__new__" = true)(hg:Gl X x)(hm:X.mg x=some (.ref C))(ha:PA X (e₀::j6) ta)
  (hc:X.calm=true:=by rfl) (hex:X.ex=[]:=by rfl)
  (he:starEach (e₀::j6) X.env=(false,eval e₀ X.env)::starEach j6 X.env:=by rfl) (hplain:(backTo cpos (starEach j6 X.env)).any (·.1)=false:=by rfl) (hd:(x == ("__debug__" : Str))=false:=by decide) :
  PS X (.Raise (some (.Call (.Name x np) (e₀::j6) [] cpos)) none pos) (a6A C E ta):=by
 intro pins s σ H D I h
 obtain⟨tl,N,nm,qn,bs,hdct,sn,sub,ab,col,dd,k0,k1,k2,k3,k5,mN,hC,hN,hni,T⟩:=a9u I.mod.kin q
 have hp:=ha cpos pins s σ H _ I h
 rw[he]at hp
 refine wpAny_Raise_call_subT (C:=C) (nm:=nm) (q:=qn) (N:=N) (bs:=bs) (bm:=tl) (hdct:=hdct) (sn:=sn) (sub:=sub) (ab:=ab) (col:=col) (dd:=dd) (k0:=k0) (k1:=k1) (k2:=k2) (k3:=k3) (k5:=k5)
  PySem.F.excBase_ValueError (mN:=mN) (T.hasType PySem.F.excBase_ValueError.hasBase) (I.ok.hd hc) (by rw[he];show(false || (backTo cpos (starEach j6 X.env)).any (·.1))=false;rw[hplain];rfl) hni (T9 I hg hm ⟨rfl,?_⟩ hd)
 rw[he]
 refine Calls.evalArgs_plain (l4 hp fun us s2 ⟨vs,H2,I2,rv,z,hE⟩=>⟨rfl,by rw[← rv.length];exact z,I2.bk _ _ hC,hN.keeps I2.bk,T.keeps I2.bk,fun h' e m=>?_⟩)
 obtain⟨I3,x3⟩:=XAt.made I2 m
 exact acc pins σ H2 _ e _ none _ .new I3 x3 hE
end
def F6(a:Addr)(cls:Value)(cx:Option Addr):HO:=.ext fun h=>∃o vs,h.get? a=some o∧o.cls=cls∧o.data=.fields vs∧vs[2]? = some (a1F cx)∧o.dict=a0R cx
section
variable {X:Cx}{pins:List (Addr×Obj)}{σ:St}{H:Hp}{s:Shared}{a:Addr}{cls:Value}{cx:Option Addr}{B:Heap}{ph:Ph}
theorem XAt.nofr(x:XAt X pins H s a cls cx B ph):a ∉ C5 X.stack:=fun z=>by
 obtain⟨oe,vs,e,_,d,_⟩:=x.tr.there
 obtain⟨_,o,e',d'⟩:=x.frames.mem z
 rw[e]at e';cases e'
 exact d' vs d
theorem XAt.noimp(x:XAt X pins H s a cls cx B ph):¬Imp X pins H a:=fun i=>by
 obtain⟨oe,vs,e,_,d,_⟩:=x.tr.there
 have:=x.cov a oe e i x.nofr
 rw[x.fresh]at this;cases this
theorem Inv.track(I:Inv X pins σ H s)(x:XAt X pins H s a cls cx B ph):Inv X pins σ (upd H a (F6 a cls cx)) s:=by
 obtain⟨oe,vs,e,hc,d,d2⟩:=x.tr.there
 have ni:=x.noimp
 refine⟨I.ok,I.os,I.bare,⟨I.base.keep,I.base.slot,fun b o e1 n hx=>?_,I.base.there,fun b xs q=>?_,fun b o u q=>?_,fun b ps q=>?_⟩,I.loc,I.cell,?_,fun y c q=>?_,fun p hp=>?_,fun b u q=>?_,I.len⟩
 ·rw[b9 (fun z=>ni (.inr (.inl ⟨by rw[← z];exact hx,o,by rw[← z];exact e1⟩)))]
  exact I.base.free b o e1 n hx
 ·have q1:=I.base.tups b xs q
  rw[b9 (l6 q1 x.free)];exact q1
 ·have q1:=I.base.frzs b o u q
  rw[b9 (l6 q1 x.free)];exact q1
 ·obtain⟨more,q1⟩:=I.base.tbls b ps q
  exact⟨more,by rw[b9 (l6 q1 x.free)];exact q1⟩
 ·rw[b9 fun z=>?_]
  ·exact I.free
  ·obtain⟨m,⟨o,es,ep,ho,hd,_⟩,_⟩:=I.loc
   rw[z,e]at ho;cases ho
   rw[d]at hd;cases hd
 ·rw[b9 fun z=>?_]
  ·exact I.freeC y c q
  ·obtain⟨v,o,ho,hd⟩:=I.cell y c q
   rw[z,e]at ho;cases ho
   rw[d]at hd;cases hd
 ·obtain⟨h1,h2,h3,h4,h5⟩:=I.pin p hp
  exact⟨h1,by rw[b9 (fun z=>ni (.inr (.inr ⟨p,hp,z⟩)))];exact h2,h3,h4,h5⟩
 ·by_cases hb:b=a
  ·subst hb
   rw[i8]at q;cases q
   exact⟨⟨oe,vs,e,hc,d,d2⟩,⟨oe,e⟩,fun h1 h2 ⟨o,ws,z1,z2,z3⟩ k=>⟨o,ws,k o z1,z2,z3⟩⟩
  ·rw[b9 hb]at q
   refine(I.hok b u q).stay (fun _ _ _ z=>z) (fun c z=>?_) (fun c xs z=>?_) fun c ob u z=>?_
   ·rw[b9 (l6 z x.free)];exact z
   ·rw[b9 (l6 z x.free)];exact z
   ·rw[b9 (l6 z x.free)];exact z
end
abbrev Cx.tryCx(X:Cx)(E2:Value→Shared→Prop)(pins:List (Addr×Obj)):Cx:={ X with xe:=E2,pn:=X.pn++pins }
abbrev Cx.inExc(X:Cx)(a:Addr):Cx:={ X with A:=X.A.mark (some (.ref a)),calm:=false }
def W3(n:Nat):St:=List.replicate n none
section
variable {X:Cx}{pins:List (Addr×Obj)}{σ:St}{H:Hp}{s:Shared}{a:Addr}{E2:Value→Shared→Prop}
theorem Cx.Ok.tryCx(ok:X.Ok):(X.tryCx E2 pins).Ok:=⟨ok.mod,ok.kind,ok.glob,ok.blt,ok.above,ok.inj,ok.has,ok.cab,ok.hd,ok.frames,ok.stk,ok.exf,ok.bs,ok.bsz,ok.noex,ok.exfs,ok.funs,ok.frf⟩
theorem Cx.Ok.inExc(ok:X.Ok):(X.inExc a).Ok:=⟨ok.mod,ok.kind,ok.glob,ok.blt,ok.above,ok.inj,ok.has,ok.cab,(fun z=>nomatch z),ok.frames,ok.stk,ok.exf,ok.bs,ok.bsz,ok.noex,ok.exfs,ok.funs,ok.frf⟩
theorem Inv.toTry(I:Inv X pins σ H s):Inv (X.tryCx E2 pins) [] σ H s :=
 ⟨I.ok.tryCx,I.os,I.bare,I.base,I.loc,I.cell,I.free,I.freeC,fun p hp=>I.pin p (by rw[List.append_nil]at hp;exact hp),I.hok,I.len⟩
theorem Inv.ofTry{pins':List (Addr×Obj)}(ok:X.Ok)(I:Inv (X.tryCx E2 pins) pins' σ H s):Inv X pins σ H s :=
 ⟨ok,I.os,I.bare,I.base,I.loc,I.cell,I.free,I.freeC,fun p hp=>I.pin p (List.mem_append_left _ hp),I.hok,I.len⟩
theorem Inv.toExc(I:Inv X pins σ H s):Inv (X.inExc a) pins σ H s :=
 ⟨I.ok.inExc,I.os,I.bare,I.base,I.loc,I.cell,I.free,I.freeC,I.pin,I.hok,I.len⟩
theorem Inv.ofExc(ok:X.Ok)(I:Inv (X.inExc a) pins σ H s):Inv X pins σ H s :=
 ⟨ok,I.os,I.bare,I.base,I.loc,I.cell,I.free,I.freeC,I.pin,I.hok,I.len⟩
theorem Inv.forget(I:Inv X pins σ H s):Inv X pins (W3 X.N.length) H s:=I.weak (by unfold W3;rw[List.length_replicate,I.len]) fun i v q=>by
 unfold W3 at q
 rw[List.getElem?_replicate]at q
 split at q<;>cases q
theorem SP.ofTry{pins':List (Addr×Obj)}{D:Ends}{f:Flow}{s':Shared}(ok:X.Ok)(h:SP (X.tryCx E2 pins) pins' D f s'):SP X pins D f s':=by
 cases f with
 | next=>obtain⟨σ',H',I,q⟩:=h;exact⟨σ',H',I.ofTry ok,q⟩
 | brk=>obtain⟨σ',H',I,q⟩:=h;exact⟨σ',H',I.ofTry ok,q⟩
 | cont=>obtain⟨σ',H',I,q⟩:=h;exact⟨σ',H',I.ofTry ok,q⟩
 | ret u=>obtain⟨v,σ',H',I,r,q⟩:=h;exact⟨v,σ',H',I.ofTry ok,r,q⟩
theorem SP.ofExc{D:Ends}{f:Flow}{s':Shared}(ok:X.Ok)(h:SP (X.inExc a) pins D f s'):SP X pins D f s':=by
 cases f with
 | next=>obtain⟨σ',H',I,q⟩:=h;exact⟨σ',H',I.ofExc ok,q⟩
 | brk=>obtain⟨σ',H',I,q⟩:=h;exact⟨σ',H',I.ofExc ok,q⟩
 | cont=>obtain⟨σ',H',I,q⟩:=h;exact⟨σ',H',I.ofExc ok,q⟩
 | ret u=>obtain⟨v,σ',H',I,r,q⟩:=h;exact⟨v,σ',H',I.ofExc ok,r,q⟩
theorem XAcc.inExc{E:XK}{a:Addr}(acc:XAcc X E)(ok:X.Ok):XAcc (X.inExc a) E:=fun pins σ H s b cls cx B ph I x e=>acc pins σ H s b cls cx B ph (I.ofExc ok) ⟨x.free,x.stays,x.fresh,x.frames,x.cov,x.tr⟩ e
end
section
variable {X:Cx}{pins:List (Addr×Obj)}{σ:St}{H:Hp}{s:Shared}{a:Addr}{E2:Value→Shared→Prop}
theorem Inv.nameGoes{M:Model}{A:Around}{E:Value→Shared→Prop}{n:Str}{i:Nat}{pos:Pos}{Q:Unit→Shared→Prop}(I:Inv X pins σ H s)(hN:X.N.Nodup)(hi:X.N[i]? = some n)(hl:X.env.scope.names.lookup n=some .local)
  (h:∀h',Inv X pins (σ.set i none) H { s with heap:=h',toks:=s.toks+1 }→Q () { s with heap:=h',toks:=s.toks+1 }):wpAny M A (do bindName X.env n .none;unbindBehindTheSuite X.env n pos) Q E s:=by
 obtain⟨m,hn,hlo⟩:=id I.loc
 have hcls:(X.env.scope.kind == .class || (X.env.scope.kind == .module && X.env.locals != X.env.globals))=false:=by rw[I.ok.kind];rfl
 refine wpAny_nameGoes_keeps hl hn hcls fun h' v hn' hs=>h h' ?_
 obtain⟨oL,_,_,hoL,_⟩:=id hn
 have cne:=I.cne
 have neL:∀b o,X.s₀.heap.get? b=some o→b≠X.env.locals:=fun b o e=>Nat.ne_of_lt (Nat.lt_of_lt_of_le (Heap.lt_size e) I.ok.above)
 refine⟨I.ok,I.os,I.bare,⟨fun b o e k hb hx=>(hs.2 b (neL b o e)).trans (I.base.keep b o e k hb hx),fun b o e k hb hx=>?_,I.base.free,fun b o e hx=>?_,I.base.tups,I.base.frzs,I.base.tbls⟩,⟨_,hn',fun j y v' e1 e2 e3=>?_⟩,fun y c e=>?_,I.free,I.freeC,fun p hp=>?_,?_,by simpa using I.len⟩
 ·obtain⟨sl,e1⟩:=I.base.slot b o e k hb hx
  exact⟨sl,(hs.2 b (neL b o e)).trans e1⟩
 ·obtain⟨o',e1⟩:=I.base.there b o e hx
  exact⟨o',(hs.2 b (neL b o e)).trans e1⟩
 ·by_cases hj:j=i
  ·subst hj
   by_cases hlt:j<σ.length
   ·rw[List.getElem?_set_self hlt]at e2;cases e2
   ·rw[List.getElem?_eq_none (by rw[List.length_set];omega)]at e2;cases e2
  ·rw[List.getElem?_set_ne (Ne.symm hj)]at e2
   obtain⟨u',r',q⟩:=hlo j y v' e1 e2 e3
   refine⟨u',r',?_⟩
   rcases q with⟨k,e⟩ | ⟨k,c,e,z⟩
   ·refine .inl ⟨k,?_⟩
    have:y≠n:=fun e=>hj (a1C hN e1 (e▸hi))
    simp[this,e]
   ·exact .inr ⟨k,c,e,z.sameBut hs (cne y c e)⟩
 ·obtain⟨w',z⟩:=I.cell y c e
  exact⟨w',z.sameBut hs (cne y c e)⟩
 ·obtain⟨e,n',ne,nf,d⟩:=I.pin p hp
  exact⟨(hs.2 p.1 ne).trans e,n',ne,nf,d⟩
 ·intro b ob e
  refine(I.hok b ob e).stay (fun c w' hc q=>(hs.2 c ?_).trans q) (fun _ q=>q) (fun _ _ q=>q) fun _ _ _ q=>q
  rintro rfl
  rcases hc with rfl | hc
  ·rw[I.free]at e;cases e
  ·rw[I.free]at hc;cases hc
end
theorem t5{X:Cx}{P:Program}{w:World}:a0N (w9 P w) X E0:=fun _ _ _ _ _ _ _ h=>by
 obtain⟨_,_,_,_,_,_,_,_,_,_,_,_,_,_,_,_,hE⟩:=h
 exact hE.elim
section
variable {P:Program}{w:World}{K:W.Frag}{mg:Str→Option Value}{base:Heap}
theorem Fun.okE{x qual:Str}{st:Stmt}{f:Addr}{fd:FuncData}{N ps:List Str}{k:Nat}{sp:Sp}(F:Fun K x qual st f fd)(S:FnScope N ps (b8 st))(len:∀vs H Q E,sp vs H Q E→vs.length=ps.length)
  (hbody:∀(cdv:Value) (A:Around) (outer:List Env) (s:Shared) (H:Hp) (vs:List V) (Q:VK) (E:XK),Room k (A.deeper (envOfC qual (b8 st) s.heap.objs.size f cdv))→sp vs H Q E →
   ∃t,PSs (O4 (w9 P w) P w K mg base N qual (b8 st) f cdv A outer s H E) (j9 st) t∧t { nx:=fun _ H'=>Q .non H',rt:=Q } (start N vs) H):FnOk P w K mg base (w9 P w) (k+1) f fd ps sp:=by
 obtain⟨oc,od,kV,doc,pm,an,cdv,ct,osl,rfl,lk,hcd⟩:=F.ex
 exact a5L lk hcd S len fun A outer s H vs Q E hr hsp=>hbody cdv A outer s H vs Q E hr hsp
structure FunD(K:W.Frag)(x qual:Str)(st:Stmt)(dT:Addr)(f:Addr)(fd:FuncData):Prop where
 ex:∃(oc:Value) (od:Option Addr) (kV doc pm:Value) (an:Option Addr) (cdv ct:Value) (osl:Array (Option Value)),
  fd=W.fnOf x qual (m3 st) (j9 st) (b8 st) (.ref dT) kV doc pm an cdv ct∧K.lookup f=some ⟨oc,od,.func fd,osl⟩∧W.codeIn K cdv qual=true
 kp:W.keepIn K (.ref f)=true
theorem FunD.okE{x qual:Str}{st:Stmt}{dT f:Addr}{fd:FuncData}{N ps:List Str}{k:Nat}{sp:Sp}(F:FunD K x qual st dT f fd)(S:FnScope N ps (b8 st))(len:∀vs H Q E,sp vs H Q E→vs.length=ps.length)
  (hbody:∀(cdv:Value) (A:Around) (outer:List Env) (s:Shared) (H:Hp) (vs:List V) (Q:VK) (E:XK),Room k (A.deeper (envOfC qual (b8 st) s.heap.objs.size f cdv))→sp vs H Q E →
   ∃t,PSs (O4 (w9 P w) P w K mg base N qual (b8 st) f cdv A outer s H E) (j9 st) t∧t { nx:=fun _ H'=>Q .non H',rt:=Q } (start N vs) H):FnOk P w K mg base (w9 P w) (k+1) f fd ps sp:=by
 obtain⟨oc,od,kV,doc,pm,an,cdv,ct,osl,rfl,lk,hcd⟩:=F.ex
 exact a5L lk hcd S len fun A outer s H vs Q E hr hsp=>hbody cdv A outer s H vs Q E hr hsp
theorem FunD.binds{x qual:Str}{st:Stmt}{dT f:Addr}{fd:FuncData}{ps:List Str}{ds:List Value}{items:List Value}{o:Obj}{nn:Nat}(F:FunD K x qual st dT f fd)(ho:K.lookup dT=some o)(hs:o.data=.seq items.toArray nn)
  (h:∀(kV doc pm:Value) (an:Option Addr) (cdv ct:Value) (us:List Value),(us++ds).length=ps.length→∃k:Option (Array Value)→Sem (List (Str×Value)),
   bindArgs (W.fnOf x qual (m3 st) (j9 st) (b8 st) (.ref dT) kV doc pm an cdv ct) ⟨us,[]⟩=seqItems? (.ref dT) >>= k∧k (some items.toArray)=pure (ps.zip (us++ds))):Binds K fd ps ds:=by
 obtain⟨oc,od,kV,doc,pm,an,cdv,ct,osl,rfl,lk,hcd⟩:=F.ex
 intro s us KX hl
 obtain⟨k,h1,h2⟩:=h kV doc pm an cdv ct us hl
 exact W.binds_K KX rfl ho hs h1 h2
end
structure RoomW(k:Nat)(A:Around):Prop where
 dp:A.depth+3*k+5<recursionLimit
 un:A.units+16*k+200<cLine
theorem Room.w{k:Nat}{A:Around}(r:Room k A)(h:Option Value):RoomW k (A.mark h):=⟨r.dp,r.un⟩
theorem RoomW.deeper{k:Nat}{A:Around}(r:RoomW (k+1) A)(env:Env):RoomW k (A.deeper env) :=
 ⟨by have:=r.dp;show A.depth+1+3*k+5<_;omega,by have:=r.un;show A.units+3+16*k+200<_;omega⟩
structure FnOkW(P:Program)(w:World)(K:W.Frag)(mg:Str→Option Value)(base:Heap)(k:Nat)(f:Addr)(fd:FuncData)(ps:List Str)(sp:Sp):Prop where
 len:∀vs H Q E,sp vs H Q E→vs.length=ps.length
 run:∀(A:Around) (outer:List Env) (s:Shared) (H:Hp) (args:Args) (us:List Value) (vs:List V) (Q:VK),RoomW k A→Env0 P w K mg base A outer s H→BindsTo s fd args (ps.zip us)→Vals vs us→sp vs H Q E0 →
  codeAny (model P w) A (.call (.ref f) args) (CR CX0 outer P w H s Q E0) s
abbrev a16(P:Program)(w:World)(K:W.Frag)(mg:Str→Option Value)(base:Heap)(N:List Str)(qual:Str)(scope:Scope)(f:Addr)(cd:Value)(A:Around)(outer:List Env)(s:Shared)(H:Hp):Cx :=
 { O4 CX0 P w K mg base N qual scope f cd A outer s H E0 with calm:=false,xe:=fun _ _=>False }
theorem a5S{P:Program}{w:World}{K:W.Frag}{mg:Str→Option Value}{base:Heap}{N ps:List Str}{qual:Str}{scope:Scope}{f:Addr}{cd:Value}{A:Around}{outer:List Env}{s s1:Shared}{H:Hp}{us:List Value}{vs:List V}
  (S:FnScope N ps scope) (e0:Env0 P w K mg base A outer s H) (hl:vs.length=ps.length) (r:Vals vs us)
  (x:InCallC s s.heap.objs.size (bindL (envOfC qual scope s.heap.objs.size f cd).kindOf (ps.zip us) fun _=>none) (cellsFrom (s.heap.objs.size+1) scope.names []) (bindC (envOfC qual scope s.heap.objs.size f cd).kindOf (ps.zip us) fun _=>none) s1) :
  Inv (a16 P w K mg base N qual scope f cd A outer s H) [] (start N vs) H s1:=by
 have hpl:ps.length≤N.length:=by have:=congrArg List.length S.pre;rw[List.length_take]at this;omega
 obtain⟨h1,tk,rfl,hk⟩:=x.done
 have noA:∀b:Addr,b ∉ (a16 P w K mg base N qual scope f cd A outer s H).ex:=fun b z=>absurd (show b∈([]:List Addr)from z) (by simp)
 refine⟨⟨e0.mod,S.kind,rfl,rfl,Nat.le_refl _,fun y z c h1 h2=>?_,fun y hy=>?_,fun y c _ h=>?_,(fun z=>nomatch z),Around.frames_deeper e0.frames,.inr ⟨rfl,rfl⟩,fun b z=>absurd z (noA b),e0.bs,e0.bsz,fun b _ _=>noA b,fun b z=>absurd z (noA b),e0.funs,e0.frf⟩,
  rfl,e0.bare,Un.kept hk,⟨_,x.toInCall.ns,fun i y v h1 h2 h3=>?_⟩,fun y c h=>⟨_,x.cell y c h⟩,e0.hok.fresh (Nat.le_refl _),fun y c h=>?_,fun p hp=>absurd (show p∈([]:List (Addr×Obj))from hp) (by simp),e0.hok.kept hk,?_⟩
 ·exact name_of_addr x.apart (PySem.mem_of_lookup h1) (PySem.mem_of_lookup h2)
 ·have hy:scope.names.lookup y=some .cell∨scope.names.lookup y=some .free:=hy
  rcases hy with hy | hy
  ·exact a0d hy
  ·exact absurd rfl (S.nofree _ (PySem.mem_of_lookup hy))
 ·exact Nat.le_of_lt (x.above y c (PySem.mem_of_lookup h))
 ·have hi:i<vs.length:=by
   unfold start at h2
   by_cases hi:i<vs.length
   ·exact hi
   ·rw[List.getElem?_append_right (by simpa using hi)]at h2
    rw[List.getElem?_replicate]at h2
    split at h2<;>cases h2
  have ha:vs[i]? = some v:=by
   unfold start at h2
   rw[List.getElem?_append_left (by simpa using hi),List.getElem?_map]at h2
   cases e:vs[i]? with
   | none=>rw[e]at h2;cases h2
   | some a=>rw[e]at h2;cases h2;rfl
  obtain⟨u,hu,rv⟩:=r.get ha
  have hp:ps[i]? = some y:=by
   rw[← S.pre,List.getElem?_take_of_lt (by omega)];exact h1
  have ndP:ps.Nodup:=by rw[← S.pre];exact S.nd.sublist (List.take_sublist _ _)
  refine⟨u,rv,?_⟩
  rcases S.par y (List.mem_of_getElem? hp)with k | k
  ·exact .inl ⟨k,a0O ndP hp hu k⟩
  ·obtain⟨c,e⟩:=a0d (n:=s.heap.objs.size+1) k
   refine .inr ⟨.inl k,c,e,?_⟩
   have q:=x.cell y c e
   rw[a0P ndP hp hu (by show scope.names.lookup y≠_;rw[k];decide)]at q
   exact q
 ·exact e0.hok.fresh (Nat.le_of_lt (x.above y c (PySem.mem_of_lookup h)))
 ·unfold start
  show _=N.length
  rw[List.length_append,List.length_map,List.length_replicate]
  omega
section
variable {P:Program}{w:World}{K:W.Frag}{mg:Str→Option Value}{base:Heap}
theorem Fun.okW{x qual:Str}{st:Stmt}{f:Addr}{fd:FuncData}{N ps:List Str}{k:Nat}{sp:Sp}(F:Fun K x qual st f fd)(S:FnScope N ps (b8 st))(len:∀vs H Q E,sp vs H Q E→vs.length=ps.length)
  (hbody:∀(cdv:Value) (A:Around) (outer:List Env) (s:Shared) (H:Hp) (vs:List V) (Q:VK),RoomW k (A.deeper (envOfC qual (b8 st) s.heap.objs.size f cdv))→sp vs H Q E0 →
   ∃t,PSs (a16 P w K mg base N qual (b8 st) f cdv A outer s H) (j9 st) t∧t { nx:=fun _ H'=>Q .non H',rt:=Q } (start N vs) H):FnOkW P w K mg base (k+1) f fd ps sp:=by
 obtain⟨oc,od,kV,doc,pm,an,cdv,ct,osl,rfl,lk,hcd⟩:=F.ex
 refine⟨len,fun A outer s H args us vs Q hr e0 hb r hsp=>?_⟩
 have hl:=len _ _ _ _ hsp
 have KX:K.In s.heap:=e0.mod.kin.keeps fun b o e=>(e0.bs b o e).1
 have lim:s.heap.NoLimit:=e0.mod.nolimit.keeps fun b o e=>(e0.bs b o e).1
 have hkind:∀y∈ps.zip us,(b8 st).names.lookup y.1=some .local∨((b8 st).names.lookup y.1=some .cell∧((cellsFrom (s.heap.objs.size+1) (b8 st).names []).lookup y.1).isSome=true):=fun⟨n,v⟩ hy=>by
  rcases S.par n (List.of_mem_zip hy).1 with q | q
  ·exact .inl q
  ·exact .inr ⟨q,W.cellsFrom_some _ _ _ (.inl q)⟩
 refine codeAny_call_function (by have:=hr.dp;omega) (KX _ _ lk) rfl S.co S.gen rfl (W.codeRec_of KX hcd) (hb _ _ _ _ ?_)
 refine wpAny_newFunctionEnv_cells S.kind hkind fun env he s1 x=>?_
 subst he
 refine⟨lim.keeps x.toInCall.keep,codeAny_func ?_⟩
 obtain⟨t,ht,hq⟩:=hbody cdv A outer s H vs Q (hr.deeper _) hsp
 have I:=a5S S e0 hl r x
 refine wpAny_mono (ht [] s1 (start N vs) H _ I hq) (fun fl s' hs=>?_) fun e s' hs=>hs.elim
 have fin:∀{σ':St} {H':Hp} {v:V} {u:Value},Inv (a16 P w K mg base N qual (b8 st) f cdv A outer s H) [] σ' H' s'→RelV v u→Q v H'→CE outer P w H s Q u s' :=
  fun{σ' H' v u} J rv q=>⟨v,H',J.os,J.bare,J.base,J.hok,rv,q⟩
 cases fl with
 | ret u =>
  obtain⟨v,σ',H',J,rv,q⟩:=hs
  exact fin J rv q
 | next =>
  obtain⟨σ',H',J,q⟩:=hs
  exact fin (v:=V.non) (u:=Value.none) J rfl q
 | brk =>
  obtain⟨_,_,_,q⟩:=hs
  exact False.elim q
 | cont =>
  obtain⟨_,_,_,q⟩:=hs
  exact False.elim q
end
section
variable {X:Cx}{k:Nat}{f:Addr}{fd:FuncData}{ps:List Str}{sp:Sp}{x:Str}{p pos:Pos}{e:Expr}{es:List Expr}{t:TA}
def a33(sp:Sp)(t:TA):TE:=fun σ H Q=>t σ H fun vs H1=>sp vs H1 Q E0
theorem a7v(F:FnOkW X.prog X.w X.K X.mg X.base k f fd ps sp)(hr:RoomW k X.A)(hg:Gl X x)(hm:X.mg x=some (.ref f))(hk:W.keepIn X.K (.ref f)=true)(hb:Binds X.K fd ps [])
  (ha:PA X (e::es) t) (hdb:(x == ("__debug__" : Str))=false:=by decide) (he:starEach (e::es) X.env=(false,eval e X.env)::starEach es X.env:=by rfl) (hp:(backTo pos (starEach es X.env)).any (·.1)=false:=by rfl) :
  PE X (.Call (.Name x p) (e::es) [] pos) (a33 sp t):=by
 intro pins s σ H Q I hq
 refine wpAny_Call_Name_kw (T9 I hg hm ?_ hdb)
 refine W.callWith_K (h₀:=X.base) I.ok.mod.kin hk (l4 (ha pos pins s σ H _ I hq) fun us s1 ⟨vs,H1,I1,r,q⟩=>⟨I1.kIn,?_⟩) he hp
 have hl:us.length=ps.length:=by rw[← r.length];exact F.len _ _ _ _ q
 have hl':(us++([]:List Value)).length=ps.length:=by rw[List.append_nil];exact hl
 refine wpAny_call (codeAny_mono (F.run X.A X.stack s1 H1 ⟨us,[]⟩ us vs Q hr I1.env0 (by have:=hb s1 us I1.kIn hl';rw[List.append_nil]at this;exact this) r q) fun r s' hq=>?_)
 cases r with
 | error e=>exact False.elim hq
 | ok fl =>
  cases fl with
  | ret u=>exact I1.after hq
  | next=>exact False.elim hq
  | brk=>exact False.elim hq
  | cont=>exact False.elim hq
end
def a1G:V→Option Value
 | .ty n=>some (.type n)
 | .ref a=>some (.ref a)
 | _=>none
theorem a46{y:V}{c u:Value}(e:a1G y=some c)(r:RelV y u):u=c:=by
 cases y with
 | ty n=>cases e;exact r
 | ref a=>cases e;exact r
 | _=>cases e
theorem a34:∀{ys:List V} {cs us:List Value},ys.mapM a1G=some cs→Vals ys us→us=cs
 | [],cs,_,e,.nil=>by cases e;rfl
 | y::ys,cs,u::us,e,.cons r t=>by
  rw[List.mapM_cons]at e
  cases h1:a1G y with
  | none=>rw[h1]at e;cases e
  | some c =>
   cases h2:ys.mapM a1G with
   | none=>rw[h1,h2]at e;cases e
   | some cr =>
    rw[h1,h2]at e
    have e':c::cr=cs:=Option.some.inj e
    subst e'
    rw[a46 h1 r,a34 h2 t]
inductive TyX(K:W.Frag)(H:Hp):V→Value→Prop where
 | of {x:V} {t:Value} (h:TyOf K H x t):TyX K H x t
 | exc {a C:Addr} {cx:Option Addr} (h:H a=some (F6 a (.ref C) cx)) (T:W.ExcT K C):TyX K H (.ref a) (.ref C)
section
variable {X:Cx}{pins:List (Addr×Obj)}{σ:St}{H:Hp}{s:Shared}{A:Around}{E:Value→Shared→Prop}{Q:Value→Shared→Prop}
theorem TyX.kit{x:V}{u t:Value}(I:Inv X pins σ H s)(rx:RelV x u)(ty:TyX X.K H x t):∃Φ:Heap→Prop,W.KitX X.K u t Φ∧Φ s.heap∧u≠.builtin "__main__.__loader__#opaque" := by
 cases ty with
 | @exc a C cx h T =>
  cases (show u=Value.ref a from rx)
  obtain⟨⟨o,vs,h1,h2,h3,_⟩,_⟩:=(show ObjOk X.prog X.w H s.heap a (F6 a (.ref C) cx)from I.hok a _ h)
  exact⟨_,W.kitx_exc T,⟨o,vs,h1,h2,h3⟩,fun z=>nomatch z⟩
 | of h =>
 cases h with
 | non=>cases (show u=Value.none from rx);exact⟨_,W.kitx_none,True.intro,fun z=>nomatch z⟩
 | bl y=>cases (show u=Value.bool y from rx);exact⟨_,W.kitx_bool,True.intro,fun z=>nomatch z⟩
 | int i=>obtain⟨t,q⟩:=(show ∃t,u=Value.int i t from rx);cases q;exact⟨_,W.kitx_int,True.intro,fun z=>nomatch z⟩
 | str y=>obtain⟨t,q⟩:=(show ∃t,u=Value.str y t from rx);cases q;exact⟨_,W.kitx_str,True.intro,fun z=>nomatch z⟩
 | flt y=>obtain⟨t,q⟩:=(show ∃t,u=Value.float y t from rx);cases q;exact⟨_,W.kitx_float,True.intro,fun z=>nomatch z⟩
 | @lst a xs ea =>
  cases (show u=Value.ref a from rx)
  obtain⟨_,_,n,_,h1⟩:=(show ObjOk X.prog X.w H s.heap a (.lst xs)from I.hok a _ ea)
  exact⟨_,W.kitx_list,⟨_,h1,rfl⟩,fun z=>nomatch z⟩
 | @frz a ob xs ea =>
  cases (show u=Value.ref a from rx)
  obtain⟨_,_,_,n,_,h1⟩:=(show ObjOk X.prog X.w H s.heap a (.frz ob (.lst xs))from I.hok a _ ea)
  exact⟨_,W.kitx_list,⟨_,h1,rfl⟩,fun z=>nomatch z⟩
 | @tup a xs ea =>
  cases (show u=Value.ref a from rx)
  obtain⟨_,_,_,p⟩:=(show ObjOk X.prog X.w H s.heap a (.tup xs)from I.hok a _ ea)
  obtain⟨o,h1,h2,_⟩:=p
  exact⟨_,W.kitx_tuple,⟨o,h1,h2⟩,fun z=>nomatch z⟩
 | @dK a kvs ea =>
  cases (show u=Value.ref a from rx)
  obtain⟨_,_,vs,_,p⟩:=(show ObjOk X.prog X.w H s.heap a (.dK kvs)from I.hok a _ ea)
  obtain⟨o,es,ep,h1,h2,_⟩:=p
  exact⟨_,W.kitx_dict,⟨o,h1,h2.1⟩,fun z=>nomatch z⟩
 | @dT a kvs ea =>
  cases (show u=Value.ref a from rx)
  obtain⟨_,_,xs,_,o,es,ep,h1,h2,_⟩:=(show ObjOk X.prog X.w H s.heap a (.dT kvs)from I.hok a _ ea)
  exact⟨_,W.kitx_dict,⟨o,h1,h2.1⟩,fun z=>nomatch z⟩
 | @ins a C dx fs ea cl ha hn htk hm =>
  cases (show u=Value.ref a from rx)
  obtain⟨mA,O,_⟩:=a9l I.hok ea
  obtain⟨od,J,_⟩:=O.look
  exact⟨_,W.kitx_own (cl.get _) cl.hd ha hn htk hm,J,fun z=>nomatch z⟩
def a35(K:W.Frag):List V→Hp→VK→Prop:=fun xs H Q=>∃x y t c b,xs=[x,y]∧a1G y=some c∧TyX K H x t∧W.kitOne K t c=some b∧Q (.bl b) H
theorem a7w:CallR X (.builtin "isinstance") (a35 X.K):=by
 intro pins s σ H xs us Q I r h
 obtain⟨x,y,t,c,b,rfl,e1,e2,e3,q⟩:=h
 obtain⟨u,v,rfl,r1,r2⟩:=a3F r
 obtain rfl:=a46 e1 r2
 obtain⟨Φ,Z,p,n⟩:=e2.kit I r1
 exact W.kia_one Z I.kIn p e3 n fun tk=>⟨.bl b,H,I.tok _,rfl,q⟩
def a5T(K:W.Frag):List V→Hp→VK→Prop:=fun xs H Q=>∃x p ys t cs b,xs=[x,.ref p]∧H p=some (.tup ys)∧ys.mapM a1G=some cs∧TyX K H x t∧W.kitAny K t cs=some b∧Q (.bl b) H
theorem a6B:CallR X (.builtin "isinstance") (a5T X.K):=by
 intro pins s σ H xs us Q I r h
 obtain⟨x,p,ys,t,cs,b,rfl,e0,e1,e2,e3,q⟩:=h
 obtain⟨u,v,rfl,r1,r2⟩:=a3F r
 cases (show v=Value.ref p from r2)
 obtain⟨_,its,rv,o,ho,hc,n,hd⟩:=(show ObjOk X.prog X.w H s.heap p (.tup ys)from I.hok p _ e0)
 obtain rfl:=a34 e1 rv
 obtain⟨Φ,Z,pp,nn⟩:=e2.kit I r1
 obtain⟨oc,od,oda,osl⟩:=o
 dsimp only at hc hd
 subst hc hd
 exact W.kia_tup Z I.kIn pp ho e3 nn fun tk=>⟨.bl b,H,I.tok _,rfl,q⟩
end
def a7x:List V→List V→Bool
 | [],[]=>true
 | x::xs,y::ys=>eqV x y && a7x xs ys
 | _,_=>false
section
variable {X:Cx}{pins:List (Addr×Obj)}{σ:St}{H:Hp}{s:Shared}
theorem U0:OpR X (binaryOp .Mult) (rI IntMulOk fun i j=>.int (i*j)):=opI fun _ _ _ _ _ _ _ hc q=>mul_int q hc
theorem F7:OpR X (binaryOp .FloorDiv) (rI (fun _ j=>0<j∧j.natAbs.log2<9000) fun i j=>.int (i/j)):=opI fun i j _ _ _ _ _ hc q=>by
 have h0:j≠0:=by have:=hc.1;omega
 refine floordiv_int h0 ?_ (.inl (PyProof.noPylong_of_log2 hc.2))
 rw[Int.fdiv_eq_ediv_of_nonneg _ (Int.le_of_lt hc.1)]
 exact q
end
open PySem.W PySem.Calls
theorem a4N{ns:List Int}(h:WData.layableAll [WData.list (ns.map WData.int)]=true):∀n∈ns,Builtin.Int.intBits n≤2 ^ 20:=fun n hn=>by
 have h1:(WData.list (ns.map WData.int)).layable=true:=layableW_arg h _ (List.mem_singleton.mpr rfl)
 have h2:=layableW_item h1 (WData.int n) (List.mem_map.mpr ⟨n,hn,rfl⟩)
 have h3:=(layableW_iff.mp h2).2.2
 simpa only[WData.weight,Builtin.Int.intBits]using h3
theorem walk_ofB{l:OpenLaw}{n k:Nat}{q:Program}{loose:List Str}{XP:(Str→Option Value)→Heap→Prop}{YP:World→Heap→Prop}{d:DefRec}{K:Params→Frag}{CX:World→Y8}{sp:World→Sp}{x:Str}
  (hn:l.most=some n) (hn2:n≤sizeLine) (hdf:d.params.defaults=[]) (hr:Room k callerA)
  (hY:∀(w:World) (h:Heap),YP w h→(K w.params).In h)
  (F:∀(w:World) (mg:Str→Option Value) (fa:Addr) (h:Heap),(K w.params).In h→h.Ns mainGlobals mg→mg d.name=some (.ref fa) →
   ∃fd:FuncData,(∀(s:Shared) (u:Value),BindsTo s fd ⟨[u],[]⟩ [(x,u)]) ∧
    ∀base:Heap,(K w.params).In base→base.Ns mainGlobals mg→FnOk l.prog w (K w.params) mg base (CX w) k fa fd [x] (sp w))
  (hsp:∀(w:World) (H:Hp) (a:Addr) (ns:List Int),ns.length≤n→(∀m∈ns,Builtin.Int.intBits m≤2 ^ 20)→a5P H→SqL (K w.params) H a (ns.map V.int)→sp w [.ref a] H (fun v _=>v=.bl true) fun _ _ _=>False)
  (hCX:∀(w:World) (H:Hp) (s:Shared) (e:Value) (s':Shared),CX w [] H s (fun _ _ _=>False) e s'→False) :
  WalkO q loose XP YP l.row.toRowW d [] (fun f vs=>PySem.call f vs):=by
 intro w s₀ s₁ mg mb G Y fa o pm cd doc dV kV ho hd hcd hD hmg hg args vals as hpre hlay hrd hwl hlo
 obtain rfl:dV=.none:=Dflts.none hD hdf
 obtain rfl:kV=.none:=Dflts.noKw hD
 obtain⟨a,vs,ns,rfl,rfl,hobj,hints,hlen⟩:=Att.script_of hn hpre hwl
 have KX:=hY w _ Y
 obtain⟨fd,hb,hF⟩:=F w mg fa _ KX G.T.g hmg
 refine enter_call (codeAny_mono (a7t KX G.T.g G.T.b G.T.builtins G.T.nolimit hg hobj hints (Nat.le_trans hlen hn2) hr hF hb (fun H hO hS=>hsp w H a ns hlen (a4N hlay) hO hS) fun H e s'=>hCX w H s₁ e s') fun r s' hq=>?_)
 obtain⟨rfl,h2,h3,h4⟩:=hq
 exact⟨.inl ⟨.bool true,.bool true,[],rfl,fun _=>rfl,.bool true,Att.post_true l _,fun _=>⟨List.Pairwise.nil,fun _ hm=>(nomatch hm)⟩⟩,h2,h3,h4⟩
theorem b2f{P:Program}{w:World}{outer:List Env}(H:Hp)(s:Shared)(e:Value)(s':Shared)(h:w9 P w outer H s (fun _ _ _=>False) e s'):False:=by
 obtain⟨_,_,_,_,_,_,_,_,_,_,_,_,_,_,_,_,hE⟩:=h
 exact hE
structure Own(P:Program)(w:World)(K:W.Frag)(mg:Str→Option Value)(base:Heap)(k:Nat)(x:Str)(ps:List Str)(sp:Sp):Prop where
 ex:∃f fd,FnOk P w K mg base (w9 P w) k f fd ps sp∧Binds K fd ps []∧W.keepIn K (.ref f)=true∧mg x=some (.ref f)
structure OwnD(P:Program)(w:World)(K:W.Frag)(mg:Str→Option Value)(base:Heap)(k:Nat)(x:Str)(ps:List Str)(sp:Sp)(d:V):Prop where
 ex:∃f fd du,FnOk P w K mg base (w9 P w) k f fd ps sp∧Binds K fd ps []∧Binds K fd ps [du]∧RelV d du∧W.keepIn K (.ref f)=true∧mg x=some (.ref f)
structure OwnW(P:Program)(w:World)(K:W.Frag)(mg:Str→Option Value)(base:Heap)(k:Nat)(x:Str)(ps:List Str)(sp:Sp):Prop where
 ex:∃f fd,FnOkW P w K mg base k f fd ps sp∧Binds K fd ps []∧W.keepIn K (.ref f)=true∧mg x=some (.ref f)
section
variable {X:Cx}{k k':Nat}{ps:List Str}{sp:Sp}{x:Str}{p pos:Pos}{e:Expr}{es:List Expr}{t:TA}{E:XK}{d:V}
theorem m8(G:Own X.prog X.w X.K X.mg X.base k x ps sp)(hr:Room k' X.A)(hk:k≤k')(hx:a0N (w9 X.prog X.w) X E)(ha:PA X (e::es) t)(hg:Gl X x:=by rfl)
  (hdb:(x == ("__debug__" : Str))=false:=by decide) (he:starEach (e::es) X.env=(false,eval e X.env)::starEach es X.env:=by rfl) (hpl:(backTo pos (starEach es X.env)).any (·.1)=false:=by rfl) :
  PE X (.Call (.Name x p) (e::es) [] pos) (a0c sp [] E t):=by
 obtain⟨f,fd,F,b,kp,m⟩:=G.ex
 exact a9n F (hr.mono hk) hg m kp b .nil hx ha hdb he hpl
theorem a47(G:OwnW X.prog X.w X.K X.mg X.base k x ps sp)(hr:RoomW k' X.A)(ha:PA X (e::es) t)(hk:k≤k':=by decide)(hg:Gl X x:=by rfl)
  (hdb:(x == ("__debug__" : Str))=false:=by decide) (he:starEach (e::es) X.env=(false,eval e X.env)::starEach es X.env:=by rfl) (hpl:(backTo pos (starEach es X.env)).any (·.1)=false:=by rfl) :
  PE X (.Call (.Name x p) (e::es) [] pos) (a33 sp t):=by
 obtain⟨f,fd,F,b,kp,m⟩:=G.ex
 exact a7v F ⟨by have:=hr.dp;omega,by have:=hr.un;omega⟩ hg m kp b ha hdb he hpl
end
theorem b1o:bootBuiltins "str" = some (.type "str"):=by decide +kernel
theorem a2J:bootBuiltins "list" = some (.type "list"):=by decide +kernel
theorem a7y:bootBuiltins "tuple" = some (.type "tuple"):=by decide +kernel
theorem a0G:bootBuiltins "ValueError" = some (.type "ValueError"):=by decide +kernel
theorem t7:bootBuiltins "isinstance" = some (.builtin "isinstance"):=by decide +kernel
theorem C8:bootBuiltins "len" = some (.builtin "len"):=by decide +kernel
theorem O5{H:Hp}{p:Addr}(h:H p=none)(o:HO):Same H (upd H p o):=fun b u q=>by rw[b9 (l6 q h)];exact q
def Scr(K:W.Frag)(H:Hp)(a:Addr)(xs:List V):Prop:=(∃o,H a=some (.frz o (.lst xs))) ∨
  ∃(o:Obj) (its:Array Value) (n:Nat),K.lookup a=some o∧o.cls=.type "list"∧o.dict=none∧o.data=.seq its n∧its.size≤sizeLine∧Vals xs its.toList
theorem Scr.seq{K:W.Frag}{H:Hp}{a:Addr}{xs:List V}(h:Scr K H a xs):SqL K H a xs:=h.elim (fun z=>.inl (.inr z)) .inr
theorem Scr.of{K:W.Frag}{H:Hp}{a:Addr}{xs:List V}(h:SqL K H a xs)(o:a5P H):Scr K H a xs:=by
 rcases h with(h | h) | h
 ·rcases o a with z | ⟨o,ys,z⟩
  ·rw[h]at z;cases z
  ·rw[h]at z;cases z
 ·exact .inl h
 ·exact .inr h
theorem Scr.same{K:W.Frag}{H H':Hp}{a:Addr}{xs:List V}(g:Same H H')(h:Scr K H a xs):Scr K H' a xs:=h.elim (fun⟨o,z⟩=>.inl ⟨o,g _ _ z⟩) .inr
theorem Scr.upd{K:W.Frag}{H:Hp}{a l:Addr}{xs ys:List V}{o:HO}(hl:H l=some (.lst ys))(h:Scr K H a xs):Scr K (L2.upd H l o) a xs:=h.elim (fun⟨ob,z⟩=>.inl ⟨ob,by rw[b9 (b2d z hl (by intro q;cases q))];exact z⟩) .inr
section
variable {prog:Program}{w:World}{A:Around}{R:Result→Shared→Prop}{s:Shared}
theorem a4O{elt target iter:Expr}{ifs:List Expr}{scope:Scope}{pos:Pos}{it acc:Value}{env:Env}{N:Value→Shared→Prop}(hN:N=notedBy (model prog w) A env fun e s'=>R (.error e) s')(I:Nat→Shared→Prop)
  (turn:∀n s,I n s→wpAny (model prog w) A (pyNext it) (fun r s₁=>match r with
   | none=>R (.ok .next) s₁
   | some v=>wpAny (model prog w) A (letOwnedTupleGo target it v) (fun _ s₁'=>wpAny (model prog w) A (assign target env v) (fun _ s₂ =>
     wpAny (model prog w) A (forIn ifs true fun c r=>if r=true then do let ok ← isTrue c env (eval c env);pure (ForInStep.yield ok)else pure (ForInStep.yield r)) (fun ok s₃ =>
      if ok=true then wpAny (model prog w) A (eval elt env) (fun x s₄ =>
       wpAny (model prog w) A (call (.builtin "list.append") [acc,x]) (fun _ s₅=>∃m,m<n∧I m s₅) N s₄) N s₃
      else ∃m,m<n∧I m s₃) N s₂) N s₁') N s₁) N s)
  (n:Nat) (h:I n s) :
  codeAny (model prog w) A (.compLoop (.ListComp elt [⟨target,iter,ifs,0⟩] scope pos) 0 it acc env) R s:=by
 subst hN
 refine codeAny_loop rfl I (fun k z q=>?_) n h
 show wpAny _ A ((compTurn (.ListComp elt [⟨target,iter,ifs,0⟩] scope pos) 0 it acc env).onRaise (fun ex=>do noteFrame ex env;theTreesLotGoes ex)) _ _ z
 refine wpAny_noted ?_
 rw[compTurn_list]
 refine wpAny_bind (wpAny_standAt (wpAny_bind (l4 (turn k z q) fun r z1 q1=>?_)))
 cases r with
 | none=>exact wpAny_pure q1
 | some v =>
  refine wpAny_bind (l4 q1 fun _ z2 q2=>?_)
  refine wpAny_bind (l4 q2 fun _ z3 q3=>?_)
  refine wpAny_bind (l4 q3 fun ok z4 q4=>?_)
  cases ok with
  | false=>exact wpAny_pure ⟨rfl,q4⟩
  | true=>exact wpAny_bind (wpAny_bind (l4 q4 fun x z5 q5=>wpAny_bind (l4 q5 fun _ z6 q6=>wpAny_pure (wpAny_pure ⟨rfl,q6⟩))))
end
def B8(cells:List (Str×Addr)):List (Str×NameKind)→List (Str×Addr)→List (Str×Addr)
 | [],acc=>acc
 | (n,k)::r,acc=>if k == .free then(match cells.lookup n with
   | some c=>B8 cells r ((n,c)::acc)
   | none=>B8 cells r acc)else B8 cells r acc
theorem W4{cells:List (Str×Addr)}{x:Str}{c:Addr}:∀{names:List (Str×NameKind)} {acc:List (Str×Addr)},(∀d,acc.lookup x=some d→cells.lookup x=some d)→(B8 cells names acc).lookup x=some c→cells.lookup x=some c
 | [],acc,h,e=>h c e
 | (n,k)::r,acc,h,e=>by
  unfold B8 at e
  split at e
  ·split at e
   ·rename_i c' hc'
    refine W4 (fun d q=>?_) e
    rw[List.lookup_cons]at q
    split at q
    ·rename_i hx
     have hx':x=n:=by simpa using hx
     cases q
     rw[hx'];exact hc'
    ·exact h d q
   ·exact W4 h e
  ·exact W4 h e
theorem P9{cells:List (Str×Addr)}{x:Str}:∀{names:List (Str×NameKind)} {acc:List (Str×Addr)},(∃d,acc.lookup x=some d)→∃d,(B8 cells names acc).lookup x=some d
 | [],acc,h=>h
 | (n,k)::r,acc,h=>by
  unfold B8
  split
  ·split
   ·refine P9 ?_
    rw[List.lookup_cons]
    split
    ·exact⟨_,rfl⟩
    ·exact h
   ·exact P9 h
  ·exact P9 h
theorem R7{cells:List (Str×Addr)}{x:Str}:∀{names:List (Str×NameKind)} {acc:List (Str×Addr)},(x,NameKind.free)∈names→(∃c,cells.lookup x=some c)→∃d,(B8 cells names acc).lookup x=some d
 | [],acc,h,_=>by simp at h
 | (n,k)::r,acc,h,hc=>by
  unfold B8
  rcases List.mem_cons.mp h with e | h
  ·cases e
   obtain⟨c,hc⟩:=hc
   rw[if_pos (by rfl),hc]
   exact P9 ⟨c,by simp[List.lookup_cons]⟩
  ·split
   ·split
    ·exact R7 h hc
    ·exact R7 h hc
   ·exact R7 h hc
theorem a0f{env:Env}:∀(names:List (Str×NameKind)) (acc:List (Str×Addr)),(∀y∈names,y.2=.free→∃c,env.cells.lookup y.1=some c) →
  (forIn names acc fun(x:Str×NameKind) (cs:List (Str×Addr))=>if(x.2 == NameKind.free)=true then do let a ← cellOf env x.1;pure (ForInStep.yield ((x.1,a)::cs))else pure (ForInStep.yield cs):Sem (List (Str×Addr)))=pure (B8 env.cells names acc)
 | [],acc,_=>rfl
 | (n,k)::r,acc,h=>by
  rw[List.forIn_cons]
  unfold B8
  by_cases hk:(k == NameKind.free)=true
  ·obtain⟨c,hc⟩:=h (n,k) List.mem_cons_self (by simpa using hk)
   have e:cellOf env n=pure c:=by unfold cellOf;rw[hc]
   rw[if_pos hk,if_pos hk,hc,e]
   exact a0f r _ fun y hy=>h y (List.mem_cons_of_mem _ hy)
  ·rw[if_neg hk,if_neg hk]
   exact a0f r acc fun y hy=>h y (List.mem_cons_of_mem _ hy)
theorem X8{scope:Scope}{env:Env}(h:∀y∈scope.names,y.2=.free→∃c,env.cells.lookup y.1=some c):closureFor scope env=pure (B8 env.cells scope.names []):=by
 have:=a0f (env:=env) scope.names [] h
 unfold closureFor
 exact(congrArg (· >>= pure) this).trans (by first | rfl | simp)
theorem J0{env:Env}:∀{names:List (Str×NameKind)} {x:Str} {k':NameKind},
  (names.map fun(n,k)=>if(k == NameKind.free && env.scope.kind == .function && env.kindOf n == some .cell)then(n,NameKind.cell)else(n,k)).lookup x=some k' →
  ∃k,names.lookup x=some k∧(k'=k∨(k=.free∧k'=.cell))
 | [],_,_,h=>by simp at h
 | (n,k)::r,x,k',h=>by
  rw[List.map_cons]at h
  dsimp only at h
  by_cases hc:(k == NameKind.free && env.scope.kind == .function && env.kindOf n == some .cell)=true
  ·rw[if_pos hc,List.lookup_cons]at h
   rw[List.lookup_cons]
   split at h
   ·rename_i hx
    cases h
    have hk:k=.free:=by
     have:=(Bool.and_eq_true _ _▸(Bool.and_eq_true _ _▸hc).1).1
     simpa using this
    exact⟨k,rfl,.inr ⟨hk,rfl⟩⟩
   ·rename_i hx
    obtain⟨k2,q1,q2⟩:=J0 h
    exact⟨k2,q1,q2⟩
  ·rw[if_neg hc,List.lookup_cons]at h
   rw[List.lookup_cons]
   split at h
   ·rename_i hx
    cases h
    exact⟨k,rfl,.inl rfl⟩
   ·rename_i hx
    obtain⟨k2,q1,q2⟩:=J0 h
    exact⟨k2,q1,q2⟩
theorem E7{env:Env}:∀{names:List (Str×NameKind)} {x:Str},names.lookup x=some .free →
  (names.map fun(n,k)=>if(k == NameKind.free && env.scope.kind == .function && env.kindOf n == some .cell)then(n,NameKind.cell)else(n,k)).lookup x=some .cell ∨
  (names.map fun(n,k)=>if(k == NameKind.free && env.scope.kind == .function && env.kindOf n == some .cell)then(n,NameKind.cell)else(n,k)).lookup x=some .free
 | [],_,h=>by simp at h
 | (n,k)::r,x,h=>by
  rw[List.map_cons]
  dsimp only
  rw[List.lookup_cons]at h
  by_cases hc:(k == NameKind.free && env.scope.kind == .function && env.kindOf n == some .cell)=true
  ·rw[if_pos hc,List.lookup_cons]
   split at h
   ·rename_i hx
    left;rfl
   ·rename_i hx
    exact E7 (env:=env) h
  ·rw[if_neg hc,List.lookup_cons]
   split at h
   ·rename_i hx
    right;exact h
   ·rename_i hx
    exact E7 (env:=env) h
structure CompSc(Sc scope:Scope)(N Nc:List Str)(k:Nat)(js:List Nat):Prop where
 cell:∀y∈scope.names,y.2≠.cell
 kind:scope.kind=.function
 names:∀y∈scope.names,y.2=.local→scope.names.lookup y.1=some .local
 free:∀y∈scope.names,y.2=.free→Sc.names.lookup y.1=some .cell∨Sc.names.lookup y.1=some .free
 nd:Nc.Nodup
 len:Nc.length=k+js.length
 cap:(Nc.drop k).map some=js.map fun j=>N[j]?
 caps:∀x∈Nc.drop k,scope.names.lookup x=some .free
def n9(k:Nat)(js:List Nat)(σ:St):St:=List.replicate k none++js.map fun j=>(σ[j]?).getD none
theorem U7{names:List (Str×NameKind)}{x:Str}{k:NameKind}(h:names.lookup x=some k):(x,k)∈names:=PySem.mem_of_lookup h
abbrev o9(X:Cx)(scope:Scope)(Nc:List Str)(C:Addr)(s3:Shared)(H3:Hp)(fp:List Addr)(xe:Value→Shared→Prop):Cx :=
 { X with N:=Nc,s₀:=s3,H₀:=H3,env:=compEnvC scope (B8 X.env.cells scope.names []) C X.env,outer:=X.stack,ex:=fp,fn:=fun _=>false,pn:=[],xe:=xe }
section
variable {X:Cx}{pins:List (Addr×Obj)}{σ:St}{H3:Hp}{s3:Shared}{scope:Scope}{Nc:List Str}{k:Nat}{js:List Nat}{fp:List Addr}{xe:Value→Shared→Prop}{h₁:Heap}{m₀:Str→Option Value}{tk:Nat}
theorem a0g(I:Inv X pins σ H3 s3)(S:CompSc X.env.scope scope X.N Nc k js):∀y∈scope.names,y.2=.free→∃c,X.env.cells.lookup y.1=some c:=fun y hy hk=>I.ok.has y.1 (S.free y hy hk)
theorem K7{x:Str}{c:Addr}(e:(B8 X.env.cells scope.names []).lookup x=some c):X.env.cells.lookup x=some c:=W4 (fun d q=>by simp at q) e
theorem a7z(I:Inv X pins σ H3 s3)(S:CompSc X.env.scope scope X.N Nc k js)(hf:∀b∈fp,FpOk X pins H3 b)(hfo:∀b∈fp,b<s3.heap.objs.size)(hns:h₁.Ns s3.heap.objs.size m₀)(old:∀b o,s3.heap.get? b=some o→h₁.get? b=some o) :
  Inv (o9 X scope Nc s3.heap.objs.size s3 H3 fp xe) [] (n9 k js σ) H3 { s3 with heap:=h₁,toks:=tk }:=by
 have ok:=I.ok
 have hb0:∀b o,X.base.get? b=some o→b<X.s₀.heap.objs.size:=fun b o e=>Nat.lt_of_lt_of_le (Heap.lt_size e) ok.bsz
 refine⟨⟨ok.mod,S.kind,ok.glob,ok.blt,Nat.le_refl _,fun x y c h1 h2=>ok.inj x y c (K7 h1) (K7 h2),fun x hx=>?_,(fun x c z=>nomatch z),ok.hd,ok.frames,.inl rfl,fun b hb=>⟨Nat.ne_of_lt (hfo b hb),fun x c e=>(hf b hb).2.2.2.2.1 x c (K7 e)⟩,I.bs,Nat.le_trans ok.bsz I.sz,fun b o e hb=>?_,fun b hb z=>?_,I.stack,I.stkFree⟩,
  rfl,I.bare,Un.kept old,⟨m₀,hns,fun i x v e1 e2 e3=>?_⟩,fun x c e=>?_,I.hok.fresh (Nat.le_refl _),fun x c e=>I.freeC x c (K7 e),fun p hp=>absurd (show p∈([]:List (Addr×Obj))from hp) (by simp),I.hok.kept old,?_⟩
 ·have hx:(relabel scope X.env).names.lookup x=some .cell∨(relabel scope X.env).names.lookup x=some .free:=hx
  have hfree:scope.names.lookup x=some .free:=by
   rcases hx with hx | hx
   ·obtain⟨k2,q1,q2⟩:=J0 (env:=X.env) hx
    rcases q2 with q2 | ⟨q2,_⟩
    ·subst q2;exact absurd rfl (S.cell _ (U7 q1))
    ·rw[q2]at q1;exact q1
   ·obtain⟨k2,q1,q2⟩:=J0 (env:=X.env) hx
    rcases q2 with q2 | ⟨q2,q3⟩
    ·subst q2;exact q1
    ·cases q3
  exact R7 (U7 hfree) (ok.has x (S.free _ (U7 hfree) rfl))
 ·rcases(hf b hb).2.2.2.1 with z | z
  ·exact ok.noex b o e z
  ·exact absurd (Nat.lt_of_lt_of_le (hb0 b o e) z) (Nat.lt_irrefl _)
 ·rcases List.mem_cons.mp (I.stkSub b z)with q | q
  ·exact(hf b hb).2.1 q
  ·exact(hf b hb).2.2.1 q
 ·have hlen:(List.replicate k (none:Option V)).length=k:=List.length_replicate
  by_cases hi:i<k
  ·unfold n9 at e2
   rw[List.getElem?_append_left (by omega),List.getElem?_replicate]at e2
   split at e2<;>cases e2
  ·unfold n9 at e2
   rw[List.getElem?_append_right (by omega),hlen,List.getElem?_map]at e2
   cases hj:js[i-k]? with
   | none=>rw[hj]at e2;cases e2
   | some j =>
    rw[hj]at e2
    have e2':(σ[j]?).getD none=some v:=Option.some.inj e2
    have hσ:σ[j]? = some (some v):=by
     cases q:σ[j]? with
     | none=>rw[q]at e2';cases e2'
     | some y=>rw[q]at e2';simp at e2';rw[e2']
    have hx:(Nc.drop k)[i-k]? = some x:=by rw[List.getElem?_drop];rw[show k+(i-k)=i by omega];exact e1
    have hNj:X.N[j]? = some x:=by
     have:=congrArg (fun l=>l[i-k]?) S.cap
     simp only[List.getElem?_map,hx,hj,Option.map_some]at this
     exact(Option.some.inj this).symm
    have hfr:scope.names.lookup x=some .free:=S.caps x (List.mem_of_getElem? hx)
    have hk:=S.free _ (U7 hfr) rfl
    obtain⟨m,hn,hl⟩:=I.loc
    obtain⟨u,r,l⟩:=hl j x v hNj hσ (.inr hk)
    refine⟨u,r,.inr ⟨E7 hfr,?_⟩⟩
    rcases l with⟨l1,_⟩ | ⟨_,c,hc,hcell⟩
    ·have l1:X.env.scope.names.lookup x=some .local:=l1
     rcases hk with hk | hk
     ·rw[l1]at hk;cases hk
     ·rw[l1]at hk;cases hk
    ·obtain⟨d,hd⟩:=R7 (cells:=X.env.cells) (acc:=[]) (U7 hfr) ⟨c,hc⟩
     have:=K7 hd
     rw[hc]at this;cases this
     obtain⟨o,ho,hdd⟩:=hcell
     exact⟨c,hd,⟨o,old _ _ ho,hdd⟩⟩
 ·obtain⟨v,o,ho,hd⟩:=I.cell x c (K7 e)
  exact⟨v,o,old _ _ ho,hd⟩
 ·unfold n9
  rw[List.length_append,List.length_replicate,List.length_map]
  exact S.len.symm
end
def PF(X:Cx)(ifs:List Expr)(t:TT):Prop :=
 ∀(pins:List (Addr×Obj)) (s:Shared) (σ:St) (H:Hp) (Q:Bool→Hp→Prop),Inv X pins σ H s→t σ H Q →
  wpAny (model X.prog X.w) X.A (forIn ifs true fun c r=>if r=true then do let ok ← isTrue c X.env (eval c X.env);pure (ForInStep.yield ok)else pure (ForInStep.yield r)) (TP X pins σ Q) X.xe s
def a1e:TT:=fun _ H Q=>Q true H
theorem a36{X:Cx}:PF X [] a1e:=fun pins s σ H Q I h=>wpAny_tests_nil ⟨H,I,h⟩
def N3(J:It)(g:TG)(tf:TT)(te:TE)(k:Nat)(σ0:St)(D:Addr)(Fin:Hp→Prop)(H1:Hp):Prop :=
 ∃W:Nat→Nat→List V→Hp→Prop,(∃m,W 0 m [] (upd H1 D (.lst [])))∧∀i m ys H,W i m ys H →
  (J.stop i H∧Fin H)∨(J.go i H∧∃N:List V→Hp→Prop,(∀ys' H',N ys' H'→∃m',m'<m∧W (i+1) m' ys' H')∧∀x H',J.yld i H x H'→g x σ0 H' fun σ2 H2=>(σ2.drop k=σ0.drop k∧σ2.length=σ0.length)∧tf σ2 H2 fun b H3 =>
   if b=true then te σ2 H3 fun y H4=>H4 D=some (.lst ys)∧ys.length<sizeLine∧N (ys++[y]) (upd H4 D (.lst (ys++[y])))else N ys H3)
section
variable {X:Cx}{pins:List (Addr×Obj)}{σ:St}{H:Hp}{s:Shared}{elt tg iter:Expr}{ifs:List Expr}{scope:Scope}{pos:Pos}{Nc:List Str}{k:Nat}{js:List Nat}{g:TG}{tf:TT}{te:TE}
theorem a0h{J:It}{fp:List Addr}{it:Addr}{tn:Nat→Heap→Prop}{E:Value→Shared→Prop}{RR:Value→Addr→Result→Shared→Prop}{Fin:Addr→Hp→Prop}(hc:X.calm=true)(S:CompSc X.env.scope scope X.N Nc k js)
  (hg:∀C s3 H3 fp xe,PG (o9 X scope Nc C s3 H3 fp xe) tg g) (hf:∀C s3 H3 fp xe,PF (o9 X scope Nc C s3 H3 fp xe) ifs tf)
  (he:∀C D H3,∃xe:Value→Shared→Prop,(∀e s',xe e s'→notedBy (model X.prog X.w) X.A (compEnvC scope (B8 X.env.cells scope.names []) C X.env) (fun e s'=>RR (.ref D) C (.error e) s') e s') ∧
   ∀s3,Inv X pins σ H3 s3→C=s3.heap.objs.size→(∀b∈fp,FpOk X pins H3 b)→PE (o9 X scope Nc C s3 H3 fp xe) elt te)
  (I2:Inv X pins σ H s) (T:Turn X.prog X.w X.K tg J fp it tn) (st2:tn 0 s.heap) (f2:∀b∈fp,FpOk X pins H b) (hR:∀D,H D=none→N3 J g tf te k (n9 k js σ) D (Fin D) H)
  (hRR:∀D C H' s' m',Inv X pins σ H' s'→s'.heap.Ns C m'→H' C=none→C≠X.env.locals→X.s₀.heap.objs.size≤C→(∀x c,X.env.cells.lookup x=some c→c≠C)→(∀p∈X.pn++pins,p.1≠C)→Fin D H'→RR (.ref D) C (.ok .next) s') :
  wpAny (model X.prog X.w) X.A (newList []) (fun acc s₃=>wpAny (model X.prog X.w) X.A (newFunctionEnv scope X.env.globals (B8 X.env.cells scope.names []) [] X.env.qual none .none (some X.env)) (fun cenv s₄ =>
   codeAny (model X.prog X.w) X.A (.compStart (.ListComp elt [⟨tg,iter,ifs,0⟩] scope pos) 0 (.ref it) acc { cenv with scope:=relabel scope X.env }) (RR acc cenv.locals) s₄) E s₃) E s:=by
 refine wpAny_newObj_type (wpAny_newFunctionEnv S.cell (by intro y hy;simp at hy) (fun h₁ hns₁ hsb₁=>?_) S.kind)
 dsimp only at hns₁ hsb₁ ⊢
 have I3:Inv X pins σ (upd H s.heap.objs.size (.lst [])) { s with heap:=s.heap.push { cls:=.type "list",data:=.seq ([]:List Value).toArray },toks:=s.toks }:=I2.lnew (its:=[]) .nil (Nat.zero_le _)
 have hDn:H s.heap.objs.size=none:=I2.fresh
 obtain⟨W,⟨m0,w0⟩,turn⟩:=hR _ hDn
 generalize hs3:({ s with heap:=s.heap.push { cls:=.type "list",data:=.seq ([]:List Value).toArray },toks:=s.toks }:Shared)=s3 at I3
 have e3:s3.heap=s.heap.push { cls:=.type "list",dict:=none,data:=.seq ([]:List Value).toArray }:=by rw[← hs3]
 rw[← e3]at hns₁ hsb₁ ⊢
 have fpo:∀b∈fp,b<s.heap.objs.size:=fun b hb=>by obtain⟨o,e,_⟩:=T.obj _ _ st2 b hb;exact Heap.lt_size e
 have sz3:s3.heap.objs.size=s.heap.objs.size+1:=by rw[e3,Heap.size_push]
 have fpo3:∀b∈fp,b<s3.heap.objs.size:=fun b hb=>by rw[sz3];exact Nat.lt_succ_of_lt (fpo b hb)
 have f3:∀b∈fp,FpOk X pins (upd H s.heap.objs.size (.lst [])) b:=fun b hb=>⟨by rw[b9 (Nat.ne_of_lt (fpo b hb))];exact(f2 b hb).1,(f2 b hb).2⟩
 have old:∀b o,s3.heap.get? b=some o→h₁.get? b=some o:=fun b o e=>hsb₁.extBut b o (Nat.ne_of_lt (Heap.lt_size e)) (Heap.get?_push_of_some _ e)
 have oldS:∀b o,s.heap.get? b=some o→h₁.get? b=some o:=fun b o e=>old b o (by rw[e3];exact Heap.get?_push_of_some _ e)
 obtain⟨xe,hxe,hel⟩:=he s3.heap.objs.size s.heap.objs.size (upd H s.heap.objs.size (.lst []))
 have hel:=hel s3 I3 rfl f3
 have I4:Inv (o9 X scope Nc s3.heap.objs.size s3 (upd H s.heap.objs.size (.lst [])) fp xe) [] (n9 k js σ) (upd H s.heap.objs.size (.lst [])) { s3 with heap:=h₁,toks:=s.toks+([]:List (Str×Value)).length } :=
  a7z I3 S f3 fpo3 hns₁ old
 have st4:tn 0 h₁:=T.keep _ _ _ st2 fun b hb o e=>oldS b o e
 have es3:({ s3 with heap:=h₁,toks:=s.toks+([]:List (Str×Value)).length }:Shared)={ s with heap:=h₁,toks:=s.toks+([]:List (Str×Value)).length }:=by rw[← hs3]
 rw[es3]at I4
 have ok:=I2.ok
 have lk:=I3.lt
 have hCL:s3.heap.objs.size≠X.env.locals:=Nat.ne_of_gt lk
 have stat:∀{H':Hp},(∀b∈fp,H' b=none)→∀b∈fp,FpOk (o9 X scope Nc s3.heap.objs.size s3 (upd H s.heap.objs.size (.lst [])) fp xe) [] H' b:=fun hn b hb =>
  ⟨hn b hb,Nat.ne_of_lt (fpo3 b hb),fun z=>(List.mem_cons.mp (I3.stkSub b z)).elim (fun q=>(f3 b hb).2.1 q) fun q=>(f3 b hb).2.2.1 q,.inl hb,fun x c e=>(f3 b hb).2.2.2.2.1 x c (K7 e),fun p hp=>absurd (show p∈([]:List (Addr×Obj))from hp) (by simp)⟩
 have loop:codeAny (model X.prog X.w) X.A (.compLoop (.ListComp elt [⟨tg,iter,ifs,0⟩] scope pos) 0 (.ref it) (.ref s.heap.objs.size) (compEnvC scope (B8 X.env.cells scope.names []) s3.heap.objs.size X.env))
    (RR (.ref s.heap.objs.size) s3.heap.objs.size) { s with heap:=h₁,toks:=s.toks+([]:List (Str×Value)).length }:=by
  refine a4O rfl (fun n s'=>∃i ys H',Inv (o9 X scope Nc s3.heap.objs.size s3 (upd H s.heap.objs.size (.lst [])) fp xe) [] (n9 k js σ) H' s'∧tn i s'.heap∧(∀b∈fp,H' b=none)∧W i n ys H') ?_ m0 ⟨0,[],_,I4,st4,fun b hb=>(f3 b hb).1,w0⟩
  rintro n s5 ⟨i,ys,H5,I5,st5,fr5,w5⟩
  rcases turn i n ys H5 w5 with⟨stop,fin⟩ | ⟨go,Nx,hNx,step⟩
  ·refine l4 (T.done (o9 X scope Nc s3.heap.objs.size s3 (upd H s.heap.objs.size (.lst [])) fp xe) rfl rfl rfl hc i [] s5 (n9 k js σ) H5 _ I5 (stat fr5) st5 stop) fun r s6 ⟨hr,I6⟩=>?_
   subst hr
   obtain⟨m6,hn6,_⟩:=I6.loc
   have J:Inv X pins σ H5 s6:=I3.call' (ch:=fp) (I6.os.trans rfl) I6.base I6.hok I6.bare fun b hb=>⟨(f3 b hb).2.2.2.1,(f3 b hb).2.1,(f3 b hb).2.2.2.2.1,(f3 b hb).2.2.2.2.2⟩
   refine hRR _ _ H5 s6 m6 J hn6 I6.free hCL (I3.sz) (fun x c e z=>?_) (fun p hp z=>?_) fin
   ·obtain⟨v,q⟩:=I3.cell x c e
    exact absurd q.lt (by rw[z];exact Nat.lt_irrefl _)
   ·exact absurd (Heap.lt_size (I3.pin p hp).1) (by rw[z];exact Nat.lt_irrefl _)
  ·refine l4 (T.item (o9 X scope Nc s3.heap.objs.size s3 (upd H s.heap.objs.size (.lst [])) fp xe) rfl rfl rfl hc i [] s5 (n9 k js σ) H5 _ I5 (stat fr5) st5 go) fun r s6 ⟨u,hr,h6⟩=>?_
   subst hr
   refine l4 h6 fun _ s7 ⟨x,H7,I7,r7,y7,st7,fr7⟩=>?_
   have I7':=I7.pinned (stat fr7) (T.obj _ _ st7)
   refine wpAny_mono (hg _ _ _ _ _ _ s7 _ H7 x u _ I7' r7 (step x H7 y7)) (fun _ s8 ⟨σ8,H8,I8,⟨d8,l8⟩,q8⟩=>?_) fun e s' z=>hxe e s' z
   refine wpAny_mono (hf _ _ _ _ _ _ s8 σ8 H8 _ I8 q8) (fun b s9 ⟨H9,I9,q9⟩=>?_) fun e s' z=>hxe e s' z
   have again:∀{H':Hp} {s':Shared} {ys':List V},Inv (o9 X scope Nc s3.heap.objs.size s3 (upd H s.heap.objs.size (.lst [])) fp xe) ([]++a0M fp s7.heap) σ8 H' s'→Nx ys' H' →
     ∃m,m<n∧∃i ys H',Inv (o9 X scope Nc s3.heap.objs.size s3 (upd H s.heap.objs.size (.lst [])) fp xe) [] (n9 k js σ) H' s'∧tn i s'.heap∧(∀b∈fp,H' b=none)∧W i m ys H':=fun{H' s' ys'} I' hw=>by
    obtain⟨m',hm,w'⟩:=hNx _ _ hw
    refine⟨m',hm,i+1,ys',H',(I'.unpinned).weak l8.symm fun j v e=>?_,T.keep _ _ _ st7 fun b hb o e=>(I'.pin (b,o) (List.mem_append_right _ (List.mem_append_right _ (S5 hb e)))).1,fun b hb=>?_,w'⟩
    ·by_cases hj:j<k
     ·unfold n9 at e
      rw[List.getElem?_append_left (by rw[List.length_replicate];exact hj),List.getElem?_replicate]at e
      split at e<;>cases e
     ·have e':((n9 k js σ).drop k)[j-k]? = some (some v):=by rw[List.getElem?_drop,show k+(j-k)=j by omega];exact e
      rw[← d8,List.getElem?_drop,show k+(j-k)=j by omega]at e'
      exact e'
    ·obtain⟨o,e,d⟩:=T.obj _ _ st7 b hb
     exact(I'.pin (b,o) (List.mem_append_right _ (List.mem_append_right _ (S5 hb e)))).2.1
   cases b with
   | false =>
    rw[if_neg Bool.false_ne_true]at q9 ⊢
    exact again I9 q9
   | true =>
    rw[if_pos rfl]at q9 ⊢
    refine wpAny_mono (hel _ s9 σ8 H9 _ I9 q9) (fun v s10 ⟨y,H10,I10,r10,hD,hz,w'⟩=>?_) fun e s' z=>hxe e s' z
    refine wpAny_mono (R6 (X:=o9 X scope Nc s3.heap.objs.size s3 (upd H s.heap.objs.size (.lst [])) fp xe) _ s10 σ8 H10 (.ref s.heap.objs.size) [y] (.ref s.heap.objs.size) [v] (fun _ H'=>H'=upd H10 s.heap.objs.size (.lst (ys++[y]))) I10 rfl (.cons r10 .nil)
     ⟨_,ys,y,rfl,rfl,hD,hz,rfl⟩) (fun _ s11 ⟨_,H11,I11,_,q11⟩=>?_) fun e s' z=>hxe e s' z
    subst q11
    exact again I11 w'
 exact codeAny_compStart_list loop (T.self _ 0 _ _ _ st4 loop)
end
def a17(wi:TI)(g:TG)(tf:TT)(te:TE)(k:Nat)(js:List Nat):TE:=fun σ H Q=>wi σ H fun J H1=>∀D,H1 D=none→N3 J g tf te k (n9 k js σ) D (fun H'=>Q (.ref D) H') H1
def a37(i:Nat)(wi:TI)(g:TG)(tf:TT)(te:TE)(k:Nat)(js:List Nat):TS:=fun N σ H=>wi σ H fun J H1=>∀D,H1 D=none→N3 J g tf te k (n9 k js σ) D (fun H'=>N.nx (σ.set i (some (.ref D))) H') H1
section
variable {X:Cx}{elt tg iter:Expr}{ifs:List Expr}{scope:Scope}{pos:Pos}{Nc:List Str}{k:Nat}{js:List Nat}{wi:TI}{g:TG}{tf:TT}{te:TE}
theorem a9v(hc:X.calm=true)(S:CompSc X.env.scope scope X.N Nc k js)(hi:PI X tg iter wi)(hg:∀C s3 H3 fp xe,PG (o9 X scope Nc C s3 H3 fp xe) tg g)(hf:∀C s3 H3 fp xe,PF (o9 X scope Nc C s3 H3 fp xe) ifs tf)
  (he:∀C s3 H3 fp xe,PE (o9 X scope Nc C s3 H3 fp xe) elt te) (hs:∀x,foldedSetIterable iter X.env x=pure x:=by intro _;rfl):PE X (.ListComp elt [⟨tg,iter,ifs,0⟩] scope pos) (a17 wi g tf te k js):=by
 intro pins s σ H Q I h
 rw[eval_ListComp]
 refine wpAny_comprehension_free (use:=none) rfl hs (X8 (a0g I S)) S.kind S.names (l4 (hi pins s σ H _ I h) fun v s1 h1=>l4 h1 fun itv s2 h2=>?_)
 obtain⟨it,fp,tn,J,H2,rfl,I2,T,st2,f2,hR⟩:=h2
 refine a0h (RR:=fun acc C=>compPost (model X.prog X.w) X.A X.xe none (EP X pins σ Q) acc C) (Fin:=fun D H'=>Q (.ref D) H') hc S hg hf (fun C D H3=>⟨fun _ _=>False,fun _ _ z=>z.elim,fun s3 _ _ _=>he _ _ _ _ _⟩) I2 T st2 f2 hR ?_
 intro D C H' s' m' I' hn hC hCL hsz hcl hpn q
 exact⟨m',hn,fun h' hs'=>⟨.ref D,H',I'.turned (t':=s'.toks) (fun b o hb e=>(hs'.2 b hb).trans e) hC hCL (.inr hsz) hcl hpn,rfl,q⟩⟩
theorem a5U{i:Nat}{y:Str}{py spos:Pos}(hc:X.calm=true)(S:CompSc X.env.scope scope X.N Nc k js)(hN:X.N.Nodup)(hy:X.N[i]? = some y)(hi:PI X tg iter wi)(hg:∀C s3 H3 fp xe,PG (o9 X scope Nc C s3 H3 fp xe) tg g)(hf:∀C s3 H3 fp xe,PF (o9 X scope Nc C s3 H3 fp xe) ifs tf)
  (he:∀C s3 H3 fp xe,PE (o9 X scope Nc C s3 H3 fp xe) elt te) (hl:X.env.scope.names.lookup y=some .local:=by rfl) (hs:∀x,foldedSetIterable iter X.env x=pure x:=by intro _;rfl)
  (hsw:swapsWith (.ListComp elt [⟨tg,iter,ifs,0⟩] scope pos) (some (.Name y py)) spos.line X.env=pure true:=by rfl):PS X (.Assign [.Name y py] (.ListComp elt [⟨tg,iter,ifs,0⟩] scope pos) spos) (a37 i wi g tf te k js):=by
 intro pins s σ H N I h
 rw[exec_Assign_Name_used _ _ _ _ hsw]
 refine wpAny_bind (wpAny_standAt (wpAny_bind ?_))
 show wpAny _ X.A (do let _ ← comprehension (.ListComp elt [⟨tg,iter,ifs,0⟩] scope pos) scope X.env _ (newList []) false (eval iter X.env) (some (assign (.Name y py) X.env))) _ _ s
 refine wpAny_bind (l4 (wpAny_comprehension_free (use:=some (assign (.Name y py) X.env)) (Q:=fun _ z=>SP X pins N .next z) rfl hs (X8 (a0g I S)) S.kind S.names
  (l4 (hi pins s σ H _ I h) fun v s1 h1=>l4 h1 fun itv s2 h2=>?_)) fun _ z hq=>wpAny_pure (wpAny_pure hq))
 obtain⟨it,fp,tn,J,H2,rfl,I2,T,st2,f2,hR⟩:=h2
 refine a0h (RR:=fun acc C=>compPost (model X.prog X.w) X.A X.xe (some (assign (.Name y py) X.env)) (fun _ z=>SP X pins N .next z) acc C) (Fin:=fun D H'=>N.nx (σ.set i (some (.ref D))) H') hc S hg hf
  (fun C D H3=>⟨fun _ _=>False,fun _ _ z=>z.elim,fun s3 _ _ _=>he _ _ _ _ _⟩) I2 T st2 f2 hR ?_
 intro D C H' s' m' I' hn hC hCL hsz hcl hpn q
 show wpAny _ X.A (assign (.Name y py) X.env (.ref D)) _ _ s'
 refine wpAny_assign_Name (a22 (v:=.ref D) I' hN hy (.inl hl) rfl (fun s'' I'' ⟨a,hsb,ha⟩=>?_) (.inr hl))
 have hCa:C≠a:=by
  rcases ha with ha | ha
  ·rw[ha];exact hCL
  ·exact fun z=>hcl y a ha z.symm
 exact⟨m',hn.sameBut hsb hCa,fun h' hs'=>⟨_,H',I''.turned (t':=s''.toks) (fun b o hb e=>(hs'.2 b hb).trans e) hC hCL (.inr hsz) hcl hpn,q⟩⟩
end
theorem a5V{lo:Int}{n:Nat}{g:TG}{tf:TT}{te:TE}{k:Nat}{σ0:St}{D:Addr}{Fin:Hp→Prop}{H1:Hp}(Pv:Nat→List V→Hp→Prop)(h0:Pv 0 [] (upd H1 D (.lst [])))
  (hs:∀i ys H,i<n→Pv i ys H→g (.int (lo+i)) σ0 H fun σ2 H2=>(σ2.drop k=σ0.drop k∧σ2.length=σ0.length)∧tf σ2 H2 fun b H3 =>
   if b=true then te σ2 H3 fun y H4=>H4 D=some (.lst ys)∧ys.length<sizeLine∧Pv (i+1) (ys++[y]) (upd H4 D (.lst (ys++[y])))else Pv (i+1) ys H3)
  (hd:∀ys H,Pv n ys H→Fin H):N3 (Itr lo n) g tf te k σ0 D Fin H1:=by
 refine⟨fun i m ys H=>m=n-i∧i≤n∧Pv i ys H,⟨n,by simp,Nat.zero_le _,h0⟩,?_⟩
 rintro i m ys H ⟨rfl,hi,p⟩
 by_cases hlt:i<n
 ·refine .inr ⟨hlt,Pv (i+1),fun ys' H' z=>⟨n-(i+1),by omega,rfl,hlt,z⟩,fun x H' y=>?_⟩
  obtain⟨e,y⟩:=y
  subst e y
  exact hs i ys _ hlt p
 ·have e:i=n:=by omega
  subst e
  exact .inl ⟨Nat.le_refl _,hd ys H p⟩
section
variable {X:Cx}{pins:List (Addr×Obj)}{σ:St}{H:Hp}{s:Shared}
theorem Inv.turnedL{h':Heap}{t':Nat}{ch:List Addr}{p:Addr}{o:HO}(I:Inv X pins σ H s)(k:∀b u,b ∉ ch→s.heap.get? b=some u→h'.get? b=some u)(hf:∀b∈ch,FpOk X pins H b)(hp:s.heap.objs.size≤p)(new:ObjOk X.prog X.w (upd H p o) h' p o) :
  Inv X pins σ (upd H p o) { s with heap:=h',toks:=t' }:=by
 have hn:=I.hok.fresh hp
 have nch:∀b u,H b=some u→b ∉ ch:=fun b u q z=>by rw[(hf b z).1]at q;cases q
 refine I.call (g':=s.gens) (d':=s.drawn) (ch:=ch) ⟨fun b u q _ _ hx=>k b u hx q,fun b u q _ _ hx=>⟨u.slots,k b u hx q⟩,fun b u q n _=>?_,fun b u q hx=>⟨u,k b u hx q⟩,fun b xs q=>?_,fun b u xs q=>?_,fun b ps q=>⟨#[],?_⟩⟩ (fun b u q=>?_) I.bare
  fun b hb=>⟨(hf b hb).2.2.2.1,(hf b hb).2.1,(hf b hb).2.2.2.2.1,(hf b hb).2.2.2.2.2⟩
 ·rw[b9 (Nat.ne_of_lt (Nat.lt_of_lt_of_le (Heap.lt_size q) hp))];exact n
 ·rw[b9 (l6 q hn)];exact q
 ·rw[b9 (l6 q hn)];exact q
 ·rw[b9 (l6 q hn),q];simp
 ·by_cases hb:b=p
  ·subst hb;rw[i8]at q;cases q;exact new
  ·rw[b9 hb]at q
   refine(I.hok b u q).stay (fun c v hc r=>k c v ?_ r) (fun c z=>?_) (fun c xs z=>?_) fun c ob u z=>?_
   ·rcases hc with hc | hc
    ·rw[hc];exact nch b u q
    ·exact nch c _ hc
   ·rw[b9 (l6 z hn)];exact z
   ·rw[b9 (l6 z hn)];exact z
   ·rw[b9 (l6 z hn)];exact z
theorem Inv.turnedN{h':Heap}{t':Nat}{ch:List Addr}(I:Inv X pins σ H s)(k:∀b u,b ∉ ch→s.heap.get? b=some u→h'.get? b=some u)(hf:∀b∈ch,FpOk X pins H b):Inv X pins σ H { s with heap:=h',toks:=t' }:=by
 have nch:∀b u,H b=some u→b ∉ ch:=fun b u q z=>by rw[(hf b z).1]at q;cases q
 refine I.call (g':=s.gens) (d':=s.drawn) (ch:=ch) ⟨fun b u q _ _ hx=>k b u hx q,fun b u q _ _ hx=>⟨u.slots,k b u hx q⟩,fun b u q n _=>n,fun b u q hx=>⟨u,k b u hx q⟩,fun b xs q=>q,fun b u xs q=>q,fun b ps q=>⟨#[],by rw[q];simp⟩⟩ (fun b u q=>?_) I.bare
  fun b hb=>⟨(hf b hb).2.2.2.1,(hf b hb).2.1,(hf b hb).2.2.2.2.1,(hf b hb).2.2.2.2.2⟩
 refine(I.hok b u q).stay (fun c v hc r=>k c v ?_ r) (fun c z=>z) (fun c xs z=>z) fun c ob u z=>z
 rcases hc with hc | hc
 ·rw[hc];exact nch b u q
 ·exact nch c _ hc
end
def Ite(K:W.Frag)(a:Addr):It :=
 ⟨fun i H=>∃xs x,SqL K H a xs∧xs[i]? = some x,fun i H v H'=>∃p x,v=.ref p∧H p=none∧H'=upd H p (.tup [.int i,x])∧∀xs,SqL K H a xs→xs[i]? = some x,fun i H=>∃xs,SqL K H a xs∧xs.length≤i⟩
theorem a6C{P:Program}{w:World}{K:W.Frag}{elts:List Expr}{x1}{tpos:Pos}(a it e:Addr)(hne:e≠it):Turn P w K (.Tuple elts x1 tpos) (Ite K a) [e,it] e (fun i h=>(∃old,IsEnum h e it i old)∧h.IsListIter it a i) where
 mem:=by simp
 obj:=fun i h ⟨⟨old,st⟩,it1⟩ b hb=>by
  rcases List.mem_cons.mp hb with q | hb
  ·subst q
   exact⟨_,st,fun v z=>nomatch (show Data.fields _=Data.cell v from z)⟩
  ·have q:b=it:=by simpa using hb
   subst q
   obtain⟨o,e1,c,d⟩:=it1
   exact⟨o,e1,fun v z=>by rw[d]at z;cases z⟩
 keep:=fun i h h' ⟨⟨old,st⟩,it1⟩ k=>⟨⟨old,k e (by simp) _ st⟩,it1.at fun o q=>k it (by simp) o q⟩
 item:=by
  intro X hP hw hK hc i pins s σ H E I hf st hg
  subst hP hw hK
  obtain⟨⟨old,st⟩,it1⟩:=st
  obtain⟨xs,x,hq,hx⟩:=hg
  obtain⟨its,rv,p,hz⟩:=I.list hq
  obtain⟨u,hu,ru⟩:=rv.get hx
  refine wpAny_pyNext_enum_item st it1 p.isList (x:=u) (by simpa using hu) hne fun h' q1 q2 q3 q4 q5=>⟨_,rfl,?_⟩
  refine wpAny_letOwnedTupleGo_enum (s:={ s with heap:=h',toks:=s.toks+1 }) q1 fun h2 r1 r2=>?_
  have ne1:s.heap.objs.size≠e:=Nat.ne_of_gt (Heap.lt_size st)
  have k2:∀b o,b ∉ [e,it]→s.heap.get? b=some o→h2.get? b=some o:=fun b o hb q=>by
   have hb1:b≠e:=fun z=>hb (by simp[z])
   have hb2:b≠it:=fun z=>hb (by simp[z])
   exact(r2.2 b hb1).trans (q5 b o hb1 hb2 q)
  have I1:Inv X pins σ (upd H s.heap.objs.size (.tup [.int i,x])) { s with heap:=h2,toks:=s.toks+1 }:=I.turnedL k2 hf (Nat.le_refl _)
   ⟨by show 2≤sizeLine;decide,[.int i s.toks,u],.cons ⟨_,rfl⟩ (.cons ru .nil),⟨_,(r2.2 _ ne1).trans q3,rfl,_,rfl⟩⟩
  refine⟨.ref s.heap.objs.size,_,I1,rfl,⟨_,x,rfl,I.fresh,rfl,fun ys hy=>by rw[I.list_inj hy hq];exact hx⟩,⟨⟨_,by rw[show((i+1:Nat):Int)=(i:Int)+1 by omega];exact r1⟩,?_⟩,fun b hb=>?_⟩
  ·exact q2.extBut r2.extBut (Ne.symm hne)
  ·obtain⟨o,e1,_⟩:∃o,s.heap.get? b=some o∧True:=by
    rcases List.mem_cons.mp hb with q | hb
    ·exact⟨_,by rw[q];exact st,trivial⟩
    ·have q:b=it:=by simpa using hb
     obtain⟨o,e1,_⟩:=it1
     exact⟨o,by rw[q];exact e1,trivial⟩
   rw[b9 (Nat.ne_of_lt (Heap.lt_size e1))]
   exact(hf b hb).1
 done:=by
  intro X hP hw hK hc i pins s σ H E I hf st hg
  subst hP hw hK
  obtain⟨⟨old,st⟩,it1⟩:=st
  obtain⟨xs,hq,hx⟩:=hg
  obtain⟨its,rv,p,hz⟩:=I.list hq
  have hl:=rv.length
  exact wpAny_pyNext_enum_end (I.ok.hd hc) st it1 p.isList (by simp;omega) fun h' eb=>⟨rfl,I.turnedN (t':=s.toks) (fun b o hb q=>eb b o (fun z=>hb (by simp[z])) q) hf⟩
 self:=fun _ _ _ _ _ st h=>wpAny_pyIter_enum st.1.choose_spec h
theorem a38{K:PySem.W.Frag}{a:Addr}{xs:List V}{g:TG}{tb:TS}{D:Ends}{σ:St}{H:Hp}(Pv:Nat→St→Hp→Prop)(h0:Pv 0 σ H)(hl:∀i σ H,i≤xs.length→Pv i σ H→SqL K H a xs)
  (hs:∀i x σ H p,xs[i]? = some x→Pv i σ H→H p=none→g (.ref p) σ (upd H p (.tup [.int i,x])) fun σ2 H2=>tb { D with nx:=Pv (i+1),ct:=Pv (i+1),bk:=D.nx } σ2 H2) (hd:∀σ H,Pv xs.length σ H→D.nx σ H) :
  ∃W:Nat→Nat→St→Hp→Prop,(∃m,W 0 m σ H)∧∀i m σ H,W i m σ H →
   ((Ite K a).stop i H∧D.nx σ H)∨((Ite K a).go i H∧∃N:St→Hp→Prop,(∀σ' H',N σ' H'→∃m',m'<m∧W (i+1) m' σ' H')∧∀x H',(Ite K a).yld i H x H'→g x σ H' fun σ2 H2=>tb { D with nx:=N,ct:=N,bk:=D.nx } σ2 H2):=by
 refine⟨fun i m σ H=>m=xs.length-i∧i≤xs.length∧Pv i σ H,⟨xs.length,by simp,Nat.zero_le _,h0⟩,?_⟩
 rintro i m σ H ⟨rfl,hi,p⟩
 have q:=hl i σ H hi p
 by_cases hlt:i<xs.length
 ·refine .inr ⟨⟨xs,xs[i],q,by simp[hlt]⟩,Pv (i+1),fun σ' H' z=>⟨xs.length-(i+1),by omega,rfl,hlt,z⟩,fun v H' y=>?_⟩
  obtain⟨c,x,rfl,hc,rfl,y⟩:=y
  exact hs i x σ _ c (y xs q) p hc
 ·have e:i=xs.length:=by omega
  subst e
  exact .inl ⟨⟨xs,q,Nat.le_refl _⟩,hd σ H p⟩
theorem a39:bootBuiltins "enumerate" = some (.type "enumerate"):=by decide +kernel
def a3H(K:W.Frag)(ta:TA):TI:=fun σ H R=>ta σ H fun vs H1=>∃a,vs=[.ref a]∧(∃xs,SqL K H1 a xs)∧R (Ite K a) H1
section
variable {X:Cx}
theorem a1f{elts:List Expr}{x1}{tpos:Pos}{l:Expr}{ta:TA}{p pos:Pos}(hg:Gl X "enumerate")(hm:X.mg "enumerate" = none)(ha:PA X [l] ta)(hs:starEach [l] X.env=[(false,eval l X.env)]:=by rfl) :
  PI X (.Tuple elts x1 tpos) (.Call (.Name "enumerate" p) [l] [] pos) (a3H X.K ta):=by
 intro pins s σ H R I h
 refine Call_ (Q7 I hg hm a39 (PyProof.Rows.callWith_type1 (l4 (ha pos pins s σ H _ I h) fun us s1 ⟨vs,H1,I1,r1,q1⟩=>?_) hs rfl))
 obtain⟨a,e,⟨xs,hq⟩,q⟩:=q1
 subst e
 obtain⟨u,rfl,ru⟩:=r1.one
 cases (show u=Value.ref a from ru)
 obtain⟨its,rv,pl,hz⟩:=I1.list hq
 refine call_enumerate_list pl.isList fun h' q1 q2 q3 q4=>?_
 have I2:Inv X pins σ H1 { s1 with heap:=h' }:=I1.kept (t':=s1.toks) q4
 refine wpAny_pyIter_enum (s:={ s1 with heap:=h' }) q1 ?_
 refine⟨s1.heap.objs.size+1,[s1.heap.objs.size+1,s1.heap.objs.size],_,_,H1,rfl,I2,a6C a s1.heap.objs.size _ (Nat.succ_ne_self _),⟨⟨_,q1⟩,q2⟩,fun b hb=>?_,q⟩
 have hb':s1.heap.objs.size≤b:=by
  rcases List.mem_cons.mp hb with z | z
  ·rw[z];exact Nat.le_succ _
  ·have z:b=s1.heap.objs.size:=by simpa using z
   rw[z];exact Nat.le_refl _
 exact I1.fpOk hb' (I1.hok.fresh hb')
end
section
variable {X:Cx}
theorem a5W{ys:List Str}:∀{us:List Value},Vals (ys.map V.str) us→StrsAre us ys:=by
 induction ys with
 | nil=>intro us r;rw[List.map_nil]at r;cases r;exact .nil
 | cons n ns ih =>
  intro us r
  rw[List.map_cons]at r
  cases r with
  | cons r1 r2 =>
   obtain⟨t,e⟩:=r1
   subst e
   exact .cons n t (ih r2)
theorem a9w:MtR X "str.join" (fun x vs H Q=>∃z a ys,x=.str z∧vs=[.ref a]∧SqL X.K H a (ys.map V.str)∧(ys.map (·.length)).sum+ys.length*z.length≤16777216∧Q (.str (Txt.join z ys)) H):=by
 intro pins s σ H x vs v us Q I rx rv h
 obtain⟨z,a,ys,rfl,rfl,hq,hp,q⟩:=h
 obtain⟨t,rfl⟩:=rx
 obtain⟨u,rfl,ru⟩:=rv.one
 cases (show u=Value.ref a from ru)
 obtain⟨its,r,pl,hz⟩:=I.list hq
 exact join_list pl.isList (by simpa using a5W r) hp fun t' k=>⟨.str (Txt.join z ys),H,I.tok _,⟨_,rfl⟩,q⟩
end
section
variable {X:Cx}
theorem a3_:bootBuiltins "max" = some (.builtin "max"):=by decide +kernel
end
section
variable {X:Cx}{K:W.Frag}
theorem v3(hK:X.K=K:=by rfl):IxR X (a5M K):=hK▸a9p
theorem g9(hK:X.K=K:=by rfl):IxR X (a7q K):=hK▸b1g
theorem a0i(hK:X.K=K:=by rfl):SlR X (a7r K):=hK▸a9q
def a48(K:W.Frag):List V→Hp→VK→Prop:=fun xs H Q=>∃p ys,xs=[.ref p]∧(SqL K H p ys∨SqT K H p ys)∧Q (.int ys.length) H
theorem t8(hK:X.K=K:=by rfl):CallR X (.builtin "len") (a48 K):=hK▸a3Y
def a49(K:W.Frag):List V→Hp→VK→Prop:=fun xs H Q=>∃p ys,xs=[.ref p]∧(SqL K H p ys∨SqT K H p ys)∧∀l,H l=none→Q (.ref l) (upd H l (.lst ys))
theorem a0H(hK:X.K=K:=by rfl):CallR X (.type "list") (a49 K):=hK▸a3Z
theorem F8(hK:X.K=K:=by rfl):CallR X (.builtin "isinstance") (a35 K):=hK▸a7w
theorem S7(hK:X.K=K:=by rfl):CallR X (.builtin "isinstance") (a5T K):=hK▸a6B
def a8X(K:W.Frag):V→List V→Hp→VK→Prop:=fun x vs H Q=>∃z a ys,x=.str z∧vs=[.ref a]∧SqL K H a (ys.map V.str)∧(ys.map (·.length)).sum+ys.length*z.length≤16777216∧Q (.str (Txt.join z ys)) H
theorem a7A(hK:X.K=K:=by rfl):MtR X "str.join" (a8X K):=hK▸a9w
theorem C9{es:List Expr}{k:Nat}{t:TGs}{n:Nat}{pos:Pos}(hc:X.calm=true)(h:PGs X es t)(hK:X.K=K:=by rfl)(hn:(assignEach es X.env).length=n:=by rfl)(hst:(assignEach es X.env).findIdx? (·.1)=none:=by rfl) :
  PG X (.Tuple es k pos) (a5B K n t):=hK▸b1a hc h hn hst
variable {o e:Expr}{es:List Expr}{to:TE}{t:TA}{name:Str}{apos cpos:Pos}{T id:String}{r:V→List V→Hp→VK→Prop}
theorem a0T(pa:PlainAttrs T)(slot:Slot T name id)(hty:typeOf (.builtin id)=pure (.type "method_descriptor"))(hm:MtR X id r)(ho:PE X o to)(ha:PA X (e::es) t)(hK:X.K=K:=by rfl)
  (hbase:attributeBase o name X.env (eval o X.env)=eval o X.env:=by rfl)
  (hfew:((backTo cpos (starEach (e::es) X.env)).all (fun x=>!x.1) && (backToKw cpos (keywordEach [] X.env)).all (fun x=>x.1.isSome)
   && decide ((e::es).length+([]:List Keyword).length+(if([]:List Keyword).isEmpty then 0 else 1)<30))=true:=by rfl)
  (hline:(apos.endLine == cpos.line)=true:=by rfl) (hs:starEach (e::es) X.env=(false,eval e X.env)::starEach es X.env:=by rfl) (hplain:(backTo cpos (starEach es X.env)).any (·.1)=false:=by rfl) :
  PE X (.Call (.Attribute o name apos) (e::es) [] cpos) (tBM K T r to t):=hK▸b2e pa slot hty hm ho ha hbase hfew hline hs hplain
end
theorem W5{X:Cx}{x:Str}{v:V}{pos:Pos}(hg:Gl X x)(hm:∃u,X.mg x=some u∧RelV v u)(hd:(x == ("__debug__" : Str))=false:=by decide):PE X (.Name x pos) (tC v):=by
 obtain⟨u,h1,h2⟩:=hm
 exact j7 hg h1 h2 hd
theorem a1x{h h' B B':Heap}:∀{l:List Env},h.FunFrames B l→(∀b∈C5 l,h'.get? b=h.get? b)→(∀b,B.get? b=none→B'.get? b=none)→h'.FunFrames B' l
 | [],_,_,_=>trivial
 | env::j6,⟨k,⟨L,o,f,b,g,n⟩,r⟩,hk,hb=>by
  refine⟨k,⟨L,o,f,hb L b,(hk L ?_).trans g,n⟩,a1x r (fun c hc=>hk c ?_) hb⟩
  ·exact List.mem_filterMap.mpr ⟨env,List.mem_cons_self,f⟩
  ·obtain⟨e,he,q⟩:=List.mem_filterMap.mp hc
   exact List.mem_filterMap.mpr ⟨e,List.mem_cons_of_mem _ he,q⟩
section
variable {X:Cx}{E:XK}{pins pins':List (Addr×Obj)}{σ σ':St}{H3 H':Hp}{s3 s':Shared}{scope:Scope}{Nc:List Str}{C a:Addr}{fp:List Addr}{xe:Value→Shared→Prop}{cls:Value}{cx:Option Addr}{B:Heap}
theorem a5X(acc:XAcc X E)(I3:Inv X pins σ H3 s3)(hC:C=s3.heap.objs.size)(hfp:∀b∈fp,FpOk X pins H3 b)(I:Inv (o9 X scope Nc C s3 H3 fp xe) pins' σ' H' s')(x:XAt (o9 X scope Nc C s3 H3 fp xe) pins' H' s' a cls cx B .any)(hE:E cls cx H') :
  ∃m,s'.heap.Ns C m∧∀h',Heap.SameBut C s'.heap h'→∀cenv:Env,cenv.locals=C→wpAny (model X.prog X.w) X.A (passOn "comprehension.variables-let-go" (.ref a) cenv:Sem Value) (fun _ _=>False) X.xe { s' with heap:=h' }:=by
 obtain⟨m,hn,_⟩:=id I.loc
 refine⟨m,hn,fun h' hs cenv _=>?_⟩
 have J:Inv X pins σ H' s':=I3.call' (ch:=fp) (I.os.trans rfl) I.base I.hok I.bare fun b hb=>⟨(hfp b hb).2.2.2.1,(hfp b hb).2.1,(hfp b hb).2.2.2.2.1,(hfp b hb).2.2.2.2.2⟩
 have lt3:∀b o,s3.heap.get? b=some o→b≠C:=fun b o g z=>absurd (Heap.lt_size g) (by rw[z,hC];exact Nat.lt_irrefl _)
 have hCL:C≠X.env.locals:=by rw[hC];exact Nat.ne_of_gt I3.lt
 have hsz:X.s₀.heap.objs.size≤C:=by rw[hC];exact I3.sz
 have hcl:∀y c,X.env.cells.lookup y=some c→c≠C:=fun y c e z=>by
  obtain⟨v,o,ho,_⟩:=I3.cell y c e
  exact lt3 c o ho z
 have hpn:∀p∈X.pn++pins,p.1≠C:=fun p hp z=>lt3 p.1 p.2 (I3.pin p hp).1 z
 have hC0:H' C=none:=I.free
 have J':Inv X pins σ H' { s' with heap:=h' }:=J.turned (t':=s'.toks) (fun b o hb e=>(hs.2 b hb).trans e) hC0 hCL (.inr hsz) hcl hpn
 have nC:∀b∈C5 X.stack,b≠C:=fun b hb=>by
  obtain⟨_,o,g,_⟩:=I3.stack.mem hb
  exact lt3 b o g
 obtain⟨fl,oe,vs,T,oT,ts,⟨ge,ec,de,z6⟩,⟨z1,z2⟩,⟨bT,nT⟩,gT,dT,z3⟩:=x.tr
 have nf:∀{b:Addr} {o:Obj} {ws:Array Value},s'.heap.get? b=some o→o.data=.fields ws→b≠C:=fun g d z=>by
  obtain⟨o,es,ep,ho,hd,_⟩:=id hn
  rw[z]at g
  have:s'.heap.get? C=some o:=ho
  rw[g]at this;cases this
  rw[d]at hd;cases hd
 have ge':=(hs.2 a (nf ge de)).trans ge
 have gT':=(hs.2 T (nf gT dT)).trans gT
 have hid:∀{b:Addr},B.get? b=none→(W.hideAll B [C]).get? b=none:=fun{b} q=>by
  cases w:(W.hideAll B [C]).get? b with
  | none=>rfl
  | some o=>rw[W.of_hideAll _ w]at q;cases q
 have st:(W.hideAll B [C]).StaysIn h':=fun b o e=>by
  have hb:b≠C:=fun z=>by rw[z,W.hideAll_none [C] (by simp)]at e;cases e
  exact(hs.2 b hb).trans (x.stays b o (W.of_hideAll _ e))
 have ff:h'.FunFrames (W.hideAll B [C]) X.stack:=a1x x.frames (fun b hb=>hs.2 b (nC b hb)) fun b q=>hid q
 have tr:TrX h' (W.hideAll B [C]) a cls cx fl:=⟨oe,vs,T,oT,ts,⟨ge',ec,de,z6⟩,⟨z1,z2⟩,⟨hid bT,nT⟩,gT',dT,z3⟩
 have xx:XAt X pins H' { s' with heap:=h' } a cls cx (W.hideAll B [C]) .any:=by
  refine⟨x.free,st,hid x.fresh,ff,fun b o e i n=>?_,fl,tr⟩
  have hb:b≠C:=by
   rcases i with i | ⟨_,o',i⟩ | ⟨p,hp,q⟩
   ·exact fun z=>i (by rw[z];exact hC0)
   ·exact Nat.ne_of_lt (Nat.lt_of_lt_of_le (Heap.lt_size i) hsz)
   ·rw[← q];exact hpn p hp
  refine W.hideAll_get _ (x.cov b o ((hs.2 b hb).symm.trans e) ?_ n) (by simpa using hb)
  by_cases hh:H' b=none
  ·refine .inr (.inl ⟨fun hf=>?_,?_⟩)
   ·obtain⟨_,_,_,f4,_,f6⟩:=hfp b hf
    rcases i with i | ⟨hx,o',i⟩ | ⟨p,hp,q⟩
    ·exact i hh
    ·rcases f4 with f4 | f4
     ·exact hx f4
     ·exact absurd (Nat.lt_of_lt_of_le (Heap.lt_size i) f4) (Nat.lt_irrefl _)
    ·exact f6 p hp q
   ·rcases i with i | ⟨hx,o',i⟩ | ⟨p,hp,q⟩
    ·exact absurd hh i
    ·exact I3.base.there b o' i hx
    ·exact⟨p.2,by rw[← q];exact(I3.pin p hp).1⟩
  ·exact .inl hh
 unfold PySem.passOn
 refine wpAny_bind (wpAny_field (s:={ s' with heap:=h' }) ge' de z1 ?_)
 rw[if_neg (by simp)]
 refine wpAny_bind (a30 (s:={ s' with heap:=h' }) st ff tr fun h2 k=>wpAny_throw ?_)
 exact acc pins σ H' _ a cls cx _ .any (J'.exc xx.cov k.1 k.2.2.2) ⟨xx.free,k.1,xx.fresh,k.2.1,xx.cov' J' k.1,_,k.2.2.1⟩ hE
end
def a4a(X:Cx)(scope:Scope)(Nc:List Str)(C:Addr)(H3:Hp)(fp:List Addr)(pins:List (Addr×Obj))(σ:St)(E:XK):Value→Shared→Prop:=fun e s' =>
 ∃s3 a cls cx H' B ph pins' σ',e=.ref a∧Inv X pins σ H3 s3∧C=s3.heap.objs.size∧(∀b∈fp,FpOk X pins H3 b)∧Inv (o9 X scope Nc C s3 H3 fp fun _ _=>False) pins' σ' H' s'∧XAt (o9 X scope Nc C s3 H3 fp fun _ _=>False) pins' H' s' a cls cx B ph∧E cls cx H'
section
variable {X:Cx}{E:XK}{elt tg iter:Expr}{ifs:List Expr}{scope:Scope}{pos:Pos}{Nc:List Str}{k:Nat}{js:List Nat}{wi:TI}{g:TG}{tf:TT}{te:TE}
theorem a7B{pins:List (Addr×Obj)}{σ:St}{H3:Hp}{s3:Shared}{C:Addr}{fp:List Addr}(I3:Inv X pins σ H3 s3)(hC:C=s3.heap.objs.size)(hfp:∀b∈fp,FpOk X pins H3 b):XAcc (o9 X scope Nc C s3 H3 fp (a4a X scope Nc C H3 fp pins σ E)) E :=
 fun pins' σ' H' s' a cls cx B ph I x hE=>⟨s3,a,cls,cx,H',B,ph,pins',σ',rfl,I3,hC,hfp,I.wish _,⟨x.free,x.stays,x.fresh,x.frames,x.cov,x.tr⟩,hE⟩
theorem a5Y{pins:List (Addr×Obj)}{σ:St}{H3:Hp}{C F:Addr}{fp:List Addr}{env0:Env}{out0:List Env}{R:Value→Shared→Prop}(acc:XAcc X E)(hs0:X.stack=env0::out0)(h0:env0.frame=X.env.frame)(hF:X.env.frame=some F)
  (hR:∀a s',(∃m,s'.heap.Ns C m∧∀h',Heap.SameBut C s'.heap h'→∀cenv:Env,cenv.locals=C→wpAny (model X.prog X.w) X.A (passOn "comprehension.variables-let-go" (.ref a) cenv:Sem Value) (fun _ _=>False) X.xe { s' with heap:=h' })→R (.ref a) s') :
  ∀e s',a4a X scope Nc C H3 fp pins σ E e s'→notedBy (model X.prog X.w) X.A (compEnvC scope (B8 X.env.cells scope.names []) C X.env) R e s':=by
 rintro e s' ⟨s3,a,cls,cx,H',B,ph,pins',σ',rfl,I3,hC,hfp,I,x,hE⟩
 unfold notedBy
 exact a2G (X:=o9 X scope Nc C s3 H3 fp fun _ _=>False) I.ok.frames hs0 h0 hF I x fun h1 I1 x1=>hR a _ (a5X acc I3 hC hfp I1 x1 hE)
theorem a7C{env0:Env}{out0:List Env}{F:Addr}(acc:XAcc X E)(hc:X.calm=true)(S:CompSc X.env.scope scope X.N Nc k js)(hi:PI X tg iter wi)(hg:∀C s3 H3 fp xe,PG (o9 X scope Nc C s3 H3 fp xe) tg g)(hf:∀C s3 H3 fp xe,PF (o9 X scope Nc C s3 H3 fp xe) ifs tf)
  (he:∀C s3 H3 fp xe,XAcc (o9 X scope Nc C s3 H3 fp xe) E→PE (o9 X scope Nc C s3 H3 fp xe) elt te) (hs:∀x,foldedSetIterable iter X.env x=pure x:=by intro _;rfl)
  (hs0:X.stack=env0::out0:=by rfl) (h0:env0.frame=X.env.frame:=by rfl) (hF:X.env.frame=some F:=by rfl):PE X (.ListComp elt [⟨tg,iter,ifs,0⟩] scope pos) (a17 wi g tf te k js):=by
 intro pins s σ H Q I h
 rw[eval_ListComp]
 refine wpAny_comprehension_free (use:=none) rfl hs (X8 (a0g I S)) S.kind S.names (l4 (hi pins s σ H _ I h) fun v s1 h1=>l4 h1 fun itv s2 h2=>?_)
 obtain⟨it,fp,tn,J,H2,rfl,I2,T,st2,f2,hR⟩:=h2
 refine a0h (RR:=fun acc C=>compPost (model X.prog X.w) X.A X.xe none (EP X pins σ Q) acc C) (Fin:=fun D H'=>Q (.ref D) H') hc S hg hf
  (fun C D H3=>⟨a4a X scope Nc C H3 fp pins σ E,a5Y acc hs0 h0 hF fun a s' z=>z,fun s3 I3 hC hfp=>he _ _ _ _ _ (a7B I3 hC hfp)⟩) I2 T st2 f2 hR ?_
 intro D C H' s' m' I' hn hC hCL hsz hcl hpn q
 exact⟨m',hn,fun h' hs'=>⟨.ref D,H',I'.turned (t':=s'.toks) (fun b o hb e=>(hs'.2 b hb).trans e) hC hCL (.inr hsz) hcl hpn,rfl,q⟩⟩
end
theorem a18{X:Cx}{x:Str}{j:Nat}{pos:Pos}{es:List Expr}{t:TA}(hr:PA X es t):PA X (.Constant (.str x) j pos::es) (I0 (tC (.str x)) t):=a6 D9 hr
def Itz(K:W.Frag)(a b:Addr):It :=
 ⟨fun i H=>∃xs ys x y,SqL K H a xs∧SqL K H b ys∧xs[i]? = some x∧ys[i]? = some y,fun i H v H'=>∃p x y,v=.ref p∧H p=none∧H'=upd H p (.tup [x,y])∧(∀xs,SqL K H a xs→xs[i]? = some x)∧∀ys,SqL K H b ys→ys[i]? = some y,
  fun i H=>∃xs ys,SqL K H a xs∧SqL K H b ys∧(xs.length≤i∨ys.length≤i)⟩
theorem a7D{P:Program}{w:World}{K:W.Frag}{elts:List Expr}{x1}{tpos:Pos}(l1 l2 z TI TO i1 i2:Addr)(D:ZipApart z TI TO i1 i2 l1 l2):Turn P w K (.Tuple elts x1 tpos) (Itz K l1 l2) [z,TI,TO,i1,i2] z
  (fun i h=>IsZip h z TI TO .none∧IsPair h TI (.ref i1) (.ref i2)∧(∃a b,IsPair h TO a b)∧h.IsListIter i1 l1 i∧h.IsListIter i2 l2 i) where
 mem:=by simp
 obj:=fun i h ⟨hz,hTI,⟨a,b,hTO⟩,h1,h2⟩ c hc=>by
  simp only[List.mem_cons,List.not_mem_nil,or_false]at hc
  rcases hc with rfl | rfl | rfl | rfl | rfl
  ·exact⟨_,hz,fun v z=>nomatch (show Data.fields _=Data.cell v from z)⟩
  ·exact⟨_,hTI,fun v z=>nomatch (show Data.seq _ _=Data.cell v from z)⟩
  ·exact⟨_,hTO,fun v z=>nomatch (show Data.seq _ _=Data.cell v from z)⟩
  ·obtain⟨o,e1,c,d⟩:=h1;exact⟨o,e1,fun v z=>by rw[d]at z;cases z⟩
  ·obtain⟨o,e1,c,d⟩:=h2;exact⟨o,e1,fun v z=>by rw[d]at z;cases z⟩
 keep:=fun i h h' ⟨hz,hTI,⟨a,b,hTO⟩,h1,h2⟩ k=>⟨k z (by simp) _ hz,k TI (by simp) _ hTI,⟨a,b,k TO (by simp) _ hTO⟩,h1.at fun o q=>k i1 (by simp) o q,h2.at fun o q=>k i2 (by simp) o q⟩
 item:=by
  intro X hP hw hK hc i pins s σ H E I hf st hg
  subst hP hw hK
  obtain⟨hz,hTI,⟨a,b,hTO⟩,h1,h2⟩:=st
  obtain⟨xs,ys,x,y,hq,hq',hx,hy⟩:=hg
  obtain⟨its,rv,p,_⟩:=I.list hq
  obtain⟨u,hu,ru⟩:=rv.get hx
  obtain⟨its',rv',p',_⟩:=I.list hq'
  obtain⟨u',hu',ru'⟩:=rv'.get hy
  refine wpAny_pyNext_zip_item D hz hTI hTO h1 h2 p.isList p'.isList (x:=u) (y:=u') (by simpa using hu) (by simpa using hu') fun h' q1 q2 q3 q4 q5 q6 q7=>⟨_,rfl,?_⟩
  refine wpAny_letOwnedTupleGo_zip (s:={ s with heap:=h',toks:=s.toks }) q1 fun h3 r1 r2=>?_
  have nez:s.heap.objs.size≠z:=Nat.ne_of_gt (Heap.lt_size hz)
  have k2:∀c o,c ∉ [z,TI,TO,i1,i2]→s.heap.get? c=some o→h3.get? c=some o:=fun c o hb q =>
   (r2.2 c fun e=>hb (by simp[e])).trans (q7 c o (fun e=>hb (by simp[e])) (fun e=>hb (by simp[e])) (fun e=>hb (by simp[e])) (fun e=>hb (by simp[e])) q)
  have I1:Inv X pins σ (upd H s.heap.objs.size (.tup [x,y])) { s with heap:=h3,toks:=s.toks }:=I.turnedL k2 hf (Nat.le_refl _)
   ⟨by show 2≤sizeLine;decide,[u,u'],.cons ru (.cons ru' .nil),⟨_,(r2.2 _ nez).trans q5,rfl,_,rfl⟩⟩
  refine⟨.ref s.heap.objs.size,_,I1,rfl,⟨_,x,y,rfl,I.fresh,rfl,(fun zs hs=>by rw[I.list_inj hs hq];exact hx),fun zs hs=>by rw[I.list_inj hs hq'];exact hy⟩,
   ⟨r1,(r2.2 _ D.TIz).trans (q7 _ _ D.TIz D.TITO D.TIi1 D.TIi2 hTI),⟨_,_,(r2.2 _ D.TOz).trans q2⟩,q3.extBut r2.extBut D.i1z,q4.extBut r2.extBut D.i2z⟩,fun c hc=>?_⟩
  have:∃o,s.heap.get? c=some o:=by
   simp only[List.mem_cons,List.not_mem_nil,or_false]at hc
   rcases hc with rfl | rfl | rfl | rfl | rfl
   ·exact⟨_,hz⟩
   ·exact⟨_,hTI⟩
   ·exact⟨_,hTO⟩
   ·obtain⟨o,e1,_⟩:=h1;exact⟨o,e1⟩
   ·obtain⟨o,e1,_⟩:=h2;exact⟨o,e1⟩
  obtain⟨o,e1⟩:=this
  rw[b9 (Nat.ne_of_lt (Heap.lt_size e1))]
  exact(hf c hc).1
 done:=by
  intro X hP hw hK hc i pins s σ H E I hf st hg
  subst hP hw hK
  obtain⟨hz,hTI,⟨a,b,hTO⟩,h1,h2⟩:=st
  obtain⟨xs,ys,hq,hq',hx⟩:=hg
  obtain⟨its,rv,p,_⟩:=I.list hq
  obtain⟨its',rv',p',_⟩:=I.list hq'
  have hl:=rv.length
  have hl':=rv'.length
  refine wpAny_pyNext_zip_end (I.ok.hd hc) D hz hTI hTO h1 h2 p.isList p'.isList (hx.imp (fun h=>by simp;omega) fun h=>by simp;omega) fun h' eb=>⟨rfl,I.turnedN (t':=s.toks) (fun c o hb q=>?_) hf⟩
  exact eb c o (fun e=>hb (by simp[e])) (fun e=>hb (by simp[e])) (fun e=>hb (by simp[e])) (fun e=>hb (by simp[e])) q
 self:=fun _ _ _ _ _ st h=>wpAny_pyIter_zip st.1 h
theorem a7E{K:W.Frag}{a b:Addr}{xs ys:List V}{g:TG}{tf:TT}{te:TE}{k:Nat}{σ0:St}{D:Addr}{Fin:Hp→Prop}{H1:Hp}(Pv:Nat→List V→Hp→Prop)(h0:Pv 0 [] (upd H1 D (.lst [])))(hl:∀i zs H,Pv i zs H→SqL K H a xs∧SqL K H b ys)
  (hs:∀i x y zs H p,xs[i]? = some x→ys[i]? = some y→Pv i zs H→H p=none→g (.ref p) σ0 (upd H p (.tup [x,y])) fun σ2 H2=>(σ2.drop k=σ0.drop k∧σ2.length=σ0.length)∧tf σ2 H2 fun b H3 =>
   if b=true then te σ2 H3 fun y H4=>H4 D=some (.lst zs)∧zs.length<sizeLine∧Pv (i+1) (zs++[y]) (upd H4 D (.lst (zs++[y])))else Pv (i+1) zs H3)
  (hd:∀zs H,Pv (min xs.length ys.length) zs H→Fin H):N3 (Itz K a b) g tf te k σ0 D Fin H1:=by
 refine⟨fun i m zs H=>m=min xs.length ys.length-i∧i≤min xs.length ys.length∧Pv i zs H,⟨min xs.length ys.length,by simp,Nat.zero_le _,h0⟩,?_⟩
 rintro i m zs H ⟨rfl,hi,p⟩
 obtain⟨q,q'⟩:=hl i zs H p
 by_cases hlt:i<min xs.length ys.length
 ·have h1:i<xs.length:=by omega
  have h2:i<ys.length:=by omega
  refine .inr ⟨⟨xs,ys,xs[i],ys[i],q,q',by simp[h1],by simp[h2]⟩,Pv (i+1),fun ys' H' z=>⟨_,by omega,rfl,hlt,z⟩,fun v H' y=>?_⟩
  obtain⟨c,x,y',rfl,hc,rfl,e1,e2⟩:=y
  exact hs i x y' zs _ c (e1 xs q) (e2 ys q') p hc
 ·have e:i=min xs.length ys.length:=by omega
  subst e
  exact .inl ⟨⟨xs,ys,q,q',by omega⟩,hd zs H p⟩
theorem b1p:bootBuiltins "zip" = some (.type "zip"):=by decide +kernel
def b1q(K:W.Frag)(ta:TA):TI:=fun σ H R=>ta σ H fun vs H1=>∃a b,vs=[.ref a,.ref b]∧(∃xs,SqL K H1 a xs)∧(∃ys,SqL K H1 b ys)∧R (Itz K a b) H1
section
variable {X:Cx}
theorem b1r{elts:List Expr}{x1}{tpos:Pos}{l l':Expr}{ta:TA}{p pos:Pos}(hg:Gl X "zip")(hm:X.mg "zip" = none)(ha:PA X [l,l'] ta)(hs:starEach [l,l'] X.env=(false,eval l X.env)::starEach [l'] X.env:=by rfl)(hpl:(backTo pos (starEach [l'] X.env)).any (·.1)=false:=by rfl) :
  PI X (.Tuple elts x1 tpos) (.Call (.Name "zip" p) [l,l'] [] pos) (b1q X.K ta):=by
 intro pins s σ H R I h
 refine Call_ (Q7 I hg hm b1p (PyProof.Rows.callWith_type1 (l4 (ha pos pins s σ H _ I h) fun us s1 ⟨vs,H1,I1,r1,q1⟩=>?_) hs hpl))
 obtain⟨a,b,e,⟨xs,hq⟩,⟨ys,hq'⟩,q⟩:=q1
 subst e
 obtain⟨u,u',rfl,ru,ru'⟩:∃u u',us=[u,u']∧RelV (.ref a) u∧RelV (.ref b) u':=by
  cases r1 with
  | cons r t=>cases t with
   | cons r' t'=>cases t';exact⟨_,_,rfl,r,r'⟩
 cases (show u=Value.ref a from ru)
 cases (show u'=Value.ref b from ru')
 obtain⟨its,rv,pl,hz⟩:=I1.list hq
 obtain⟨its',rv',pl',hz'⟩:=I1.list hq'
 refine call_zip_2 pl.isList pl'.isList fun h' q1 q2 q3 q4 q5 q6 q7=>?_
 have I2:Inv X pins σ H1 { s1 with heap:=h' }:=I1.kept (t':=s1.toks) q7
 refine wpAny_pyIter_zip (s:={ s1 with heap:=h' }) q1 ?_
 have la:a<s1.heap.objs.size:=by obtain⟨o,n,e,_⟩:=pl;exact Heap.lt_size e
 have lb:b<s1.heap.objs.size:=by obtain⟨o,n,e,_⟩:=pl';exact Heap.lt_size e
 refine⟨s1.heap.objs.size+4,[s1.heap.objs.size+4,s1.heap.objs.size+2,s1.heap.objs.size+3,s1.heap.objs.size,s1.heap.objs.size+1],_,_,H1,rfl,I2,a7D a b (s1.heap.objs.size+4) (s1.heap.objs.size+2) (s1.heap.objs.size+3) s1.heap.objs.size (s1.heap.objs.size+1) ?_,⟨q1,q2,⟨_,_,q3⟩,q4,q5⟩,fun c hc=>?_,q⟩
 ·constructor<;> (simp only[Addr,ne_eq]at *;omega)
 ·have hb':s1.heap.objs.size≤c:=by
   simp only[List.mem_cons,List.not_mem_nil,or_false]at hc
   rcases hc with rfl | rfl | rfl | rfl | rfl<;> (simp only[Addr]at *;omega)
  exact I1.fpOk hb' (I1.hok.fresh hb')
end
theorem a0j:∀{ns:List Int} {us:List Value},Vals (ns.map V.int) us→∃ps:List (Int×Tok),us=ps.map (fun p=>Value.int p.1 p.2)∧ps.map (·.1)=ns
 | [],_,.nil=>⟨[],rfl,rfl⟩
 | n::ns,_,.cons r t=>by
  obtain⟨tk,rfl⟩:=r
  obtain⟨ps,rfl,e⟩:=a0j t
  exact⟨(n,tk)::ps,rfl,by rw[List.map_cons,e]⟩
def a8Z(K:W.Frag):List V→Hp→VK→Prop:=fun xs H Q=>∃(a:Addr) (ns:List Int),xs=[.ref a]∧SqT K H a (ns.map V.int)∧ns≠[]∧∀m,m∈ns→(∀n∈ns,m≤n)→Q (.int m) H
section
variable {X:Cx}
theorem a19{K:W.Frag}(hc:X.calm=true:=by rfl)(hK:X.K=K:=by rfl):CallR X (.builtin "min") (a8Z K):=by
 subst hK
 intro pins s σ H xs us Q I r h
 obtain⟨a,ns,rfl,hq,hne,q⟩:=h
 obtain⟨u,rfl,ru⟩:=r.one
 cases (show u=Value.ref a from ru)
 obtain⟨its,rv,pt,hz⟩:=I.tuple hq
 obtain⟨ps,rfl,e⟩:=a0j rv
 have el:(ps.map fun p=>Value.int p.1 p.2).toArray=intItems ps.toArray:=by unfold intItems;simp
 rw[el]at pt
 have hT:s.heap.IsTuple a (intItems ps.toArray):=pt
 have hlt:a<s.heap.objs.size:=by obtain⟨_,e,_⟩:=hT;exact Heap.lt_size e
 have hsz:(intItems ps.toArray).size=ps.length:=by simp[intItems]
 have hps:0<ps.length:=by
  cases ps with
  | nil=>exact absurd e.symm hne
  | cons _ _=>exact Nat.succ_pos _
 refine call_min_walk (wpAny_pyIter_tuple hT ?_)
 refine⟨_,[_,a],[_],_,_,_,_,rfl,Walks.tuple (A:=X.A.in1) (I.ok.hd hc) _ a (Nat.ne_of_lt hlt) (intItems ps.toArray),
  ⟨⟨_,Heap.get?_push_size _ rfl,rfl,rfl⟩,hT.push _⟩,fun c hc=>?_,by rw[hsz];exact hps,CmpOf.ints_lt (numAt ps.toArray) (fun _ _=>intItems_at),fun v h' tk hP hk=>?_⟩
 ·show c<(s.heap.push _).objs.size
  rw[Heap.size_push]
  rcases List.mem_cons.mp hc with rfl | hc
  ·exact Nat.lt_succ_self _
  ·rcases List.mem_cons.mp hc with rfl | hc
   ·exact Nat.lt_succ_of_lt hlt
   ·cases hc
 ·have hold:∀c o,s.heap.get? c=some o→h'.get? c=some o:=fun c o e=>by
   refine hk c o (fun hm=>?_) (Heap.get?_push_of_some _ e)
   rcases List.mem_cons.mp hm with e1 | hm
   ·have:=Heap.lt_size e;rw[e1]at this;exact Nat.lt_irrefl _ this
   ·cases hm
  have hP':(intItems ps.toArray)[argBest (fun i j=>decide (numAt ps.toArray i<numAt ps.toArray j)) (ps.length-1)]? = some v:=by rw[← hsz];exact hP
  obtain⟨b1,b2⟩:=argBest_lt (numAt ps.toArray) (ps.length-1)
  generalize argBest (fun i j=>decide (numAt ps.toArray i<numAt ps.toArray j)) (ps.length-1)=k at hP' b1 b2
  have hk2:k<ps.length:=by omega
  have num:∀j (hj:j<ps.length),numAt ps.toArray j=ps[j].1:=fun j hj=>by
   unfold numAt
   simp[hj]
  obtain⟨t,rfl⟩:=intItems_at hP'
  rw[num k hk2]
  refine⟨.int ps[k].1,H,I.kept hold,⟨t,rfl⟩,q _ ?_ fun n m=>?_⟩
  ·rw[← e];exact List.mem_map.mpr ⟨ps[k],List.getElem_mem hk2,rfl⟩
  ·rw[← e]at m
   obtain⟨p,mp,rfl⟩:=List.mem_map.mp m
   obtain⟨j,hj,rfl⟩:=List.mem_iff_getElem.mp mp
   have:=b2 j (by omega)
   rw[num k hk2,num j hj]at this
   exact this
end
def Gd(n:Nat)(lt:Nat→Nat→Bool){α:Type}:KasT α→(α→Prop)→Prop
 | .ret a,P=>P a
 | .ask i j k,P=>i<n∧j<n∧Gd n lt (k (lt i j)) P
theorem Gd.mono{n:Nat}{lt:Nat→Nat→Bool}{α:Type}{P P':α→Prop}(h:∀a,P a→P' a):∀{t:KasT α},Gd n lt t P→Gd n lt t P'
 | .ret a,g=>h a g
 | .ask i j k,g=>⟨g.1,g.2.1,Gd.mono h g.2.2⟩
theorem Gd.bind{n:Nat}{lt:Nat→Nat→Bool}{α β:Type}{P:β→Prop}{f:α→KasT β}:∀{t:KasT α},Gd n lt t (fun a=>Gd n lt (f a) P)→Gd n lt (t.bind f) P
 | .ret a,g=>g
 | .ask i j k,g=>⟨g.1,g.2.1,Gd.bind (t:=k (lt i j)) g.2.2⟩
def ga(p:Array Nat)(k:Nat):Nat:=p.getD k 0
structure TPre(lt:Nat→Nat→Bool):Prop where
 irr:∀i,lt i i=false
 tr:∀i j k,lt j i=false→lt k j=false→lt k i=false
 asy:∀i j,lt i j=true→lt j i=false
section
variable {n:Nat}{lt:Nat→Nat→Bool}
def Pmn(n:Nat)(p:Array Nat):Prop:=p.toList.Perm (List.range n)
theorem Pmn.size{p:Array Nat}(h:Pmn n p):p.size=n:=by have:=h.length_eq;simpa using this
end
section
variable {prog:Program}{w:World}{A:Around}{E:Value→Shared→Prop}{s:Shared}{b fin:Bool}{Q:Bool→Shared→Prop}
theorem a1y:∀{vs ws:List Value} {ns ms:List Int} (i:Nat),IntsAre vs ns→IntsAre ws ms→fin=decide (ns.length<ms.length)→Q (HT.lexLt ns ms) s→KatLex prog w A true fin Q (vs.zip ws) i s
 | _,_,_,_,i,.nil,.nil,hf,h=>by rw[List.zip_nil_left];refine kat_nil ?_;rw[hf];exact h
 | _,_,_,_,i,.nil,.cons c u t,hf,h=>by
  rw[List.zip_nil_left];refine kat_nil ?_;rw[hf,decide_eq_true (by simp)];exact h
 | _,_,_,_,i,.cons a t r,.nil,hf,h=>by
  rw[List.zip_nil_right];refine kat_nil ?_;rw[hf,decide_eq_false (by simp)];exact h
 | _,_,_,_,i,.cons (ns:=ns) a t r,.cons (ns:=ms) c u r',hf,h=>by
  rw[List.zip_cons_cons]
  rw[HT.lexLt_cons]at h
  refine kat_cons (wpAny_eqBool_int (kat_go (fun e=>?_) fun e=>?_))
  ·rw[if_pos (by simpa using e)]at h
   exact kat_yes (a1y (i+1) r r' (by rw[hf];simp) h)
  ·rw[if_neg (by simpa using e)]at h
   refine kat_no ?_
   by_cases hi:i=0
   ·subst hi
    show wpAny _ _ (oneLt' true _ _) _ _ _
    exact oneLt_int h
   ·have e0:(true && i == 0)=false:=by simpa using hi
    rw[e0]
    exact kat_one _ _ (PyProof.Rows.lt_int h)
def TupKey(h:Heap)(v:Value)(k:List Int):Prop:=∃a o xs m,v=.ref a∧h.get? a=some o∧o.cls=.type "tuple"∧o.data=.seq xs m∧IntsAre xs.toList k∧k≠[]
theorem TupKey.keeps{h h':Heap}{v:Value}{k:List Int}(t:TupKey h v k)(kp:∀a o,h.get? a=some o→h'.get? a=some o):TupKey h' v k:=by
 obtain⟨a,o,xs,m,e,ho,r⟩:=t
 exact⟨a,o,xs,m,e,kp _ _ ho,r⟩
theorem TupKey.lt{v u:Value}{k l:List Int}{C:Bool→Shared→Prop}{E:Value→Shared→Prop}(t:TupKey s.heap v k)(t':TupKey s.heap u l)(h:C (HT.lexLt k l) s):wpAny (model prog w) A (keyLt' (tuples' true) v u) C E s:=by
 obtain⟨a,o,xs,m,rfl,ho,_,hd,hi,_⟩:=t
 obtain⟨a',o',xs',m',rfl,ho',_,hd',hi',_⟩:=t'
 have z1:xs.size=k.length:=by rw[← hi.length];simp
 have z2:xs'.size=l.length:=by rw[← hi'.length];simp
 exact kat_lt ho hd ho' hd' (a1y 0 hi hi' (by rw[z1,z2]) h)
def TKs(h:Heap):List Value→List (List Int)→Prop
 | [],[]=>True
 | v::vs,k::ks=>TupKey h v k∧TKs h vs ks
 | _,_=>False
theorem TKs.keeps{h h':Heap}(kp:∀a o,h.get? a=some o→h'.get? a=some o):∀{vs:List Value} {ks:List (List Int)},TKs h vs ks→TKs h' vs ks
 | [],[],_=>trivial
 | [],_::_,t=>t.elim
 | _::_,[],t=>t.elim
 | v::vs,k::ks,t=>⟨t.1.keeps kp,TKs.keeps kp t.2⟩
theorem TKs.len{h:Heap}:∀{vs:List Value} {ks:List (List Int)},TKs h vs ks→vs.length=ks.length
 | [],[],_=>rfl
 | [],_::_,t=>t.elim
 | _::_,[],t=>t.elim
 | v::vs,k::ks,t=>by simp[t.2.len]
theorem TKs.at{h:Heap}:∀{vs:List Value} {ks:List (List Int)} (i:Nat),TKs h vs ks→i<vs.length→TupKey h (vs.getD i Value.none) (ks.getD i [])
 | [],_,i,_,hi=>absurd hi (Nat.not_lt_zero _)
 | _::_,[],_,t,_=>t.elim
 | v::vs,k::ks,0,t,_=>t.1
 | v::vs,k::ks,i+1,t,hi=>TKs.at (vs:=vs) (ks:=ks) i t.2 (by simpa using hi)
end
theorem a4P:bootBuiltins "reversed" = some (.type "reversed"):=by decide +kernel
namespace F'
end F'
open PySem PySem.Spec PyProof.Rows PySem.W
abbrev TH:=Value→Option Addr→Addr→Ends→St→Hp→Prop
def PH(X:Cx)(hs:List ExceptHandler)(th:TH):Prop :=
 ∀(pins:List (Addr×Obj)) (s:Shared) (σ:St) (H:Hp) (a:Addr) (cls:Value) (cx:Option Addr) (B:Heap) (D:Ends),Inv X pins σ H s→XAt X pins H s a cls cx B .fly→th cls cx a D σ H→wpAny (model X.prog X.w) X.A (handleBy (.ref a) X.env hs) (SP X pins D) X.xe s
def a80:TH:=fun _ _ _ _ _ _=>False
def b1s(K:W.Frag)(C:Addr)(i:Nat)(ts:Addr→TS)(j6:TH):TH:=fun cls cx a D σ H =>
 (W.exmOne K cls (.ref C)=some true∧ts a { nx:=fun σ' H2=>D.nx (σ'.set i none) H2,rt:=D.rt,bk:=fun σ' H2=>D.bk (σ'.set i none) H2,ct:=fun σ' H2=>D.ct (σ'.set i none) H2 } (σ.set i (some (.ref a))) (upd H a (F6 a cls cx)))∨(W.exmOne K cls (.ref C)=some false∧j6 cls cx a D σ H)
section
variable {X:Cx}
theorem b1t:PH X [] a80:=fun _ _ _ _ _ _ _ _ _ _ _ h=>h.elim
theorem a81{x n:Str}{i:Nat}{C:Addr}{suite:List Stmt}{b₀:Stmt}{np hpos:Pos}{hs:List ExceptHandler}{ts:Addr→TS}{j6:TH}(hg:Gl X x)(hm:X.mg x=some (.ref C))(hN:X.N.Nodup)(hi:X.N[i]? = some n)(hh:∀a,PSs (X.inExc a).nox (b₀::suite) (ts a))(hr:PH X hs j6)
  (hl:X.env.scope.names.lookup n=some .local:=by rfl) (hd:(x == ("__debug__" : Str))=false:=by decide):PH X (.ExceptHandler (some (.Name x np)) (some n) (b₀::suite) hpos::hs) (b1s X.K C i ts j6):=by
 intro pins s σ H a cls cx B D I x4 h
 have ok:=I.ok
 refine wpAny_handleBy_cons (codeAny_handlers_test (T9 (I.toExc (a:=a)) hg hm ?_ hd)) (by intro q;cases q)
 obtain⟨oe,vs,e,hc,d,_⟩:=x4.tr.there
 have LT:W.Looks (model X.prog X.w) s.heap (typeOf (.ref a)) cls:=hc▸(W.Looks.ld e).andThen .now
 rcases h with⟨hx,hsu⟩ | ⟨hx,hn⟩
 ·refine(W.exm_one I.kIn LT hx).here ?_
  refine codeAny_handlers_suite_as ?_
  refine a2H I x4 (fun z=>nomatch z) fun h5 I5 x5=>?_
  have I6:=(I5.track x5).toExc (a:=a)
  refine a1D (X:=X.inExc a) (v:=.ref a) I6 hN hi (.inl hl) rfl (fun s6 I7=>?_) (.inr hl)
  refine wpAny_mono (hh a pins s6 _ _ _ (I7.wish _) hsu) (fun f s7 q=>?_) fun _ _ z=>z.elim
  have q:=(q.unwish).ofExc ok
  cases f with
  | next =>
   obtain⟨σ7,H7,I8,q⟩:=q
   exact I8.nameGoes hN hi hl fun h8 I9=>⟨_,H7,I9,q⟩
  | brk =>
   obtain⟨σ7,H7,I8,q⟩:=q
   exact I8.nameGoes hN hi hl fun h8 I9=>⟨_,H7,I9,q⟩
  | cont =>
   obtain⟨σ7,H7,I8,q⟩:=q
   exact I8.nameGoes hN hi hl fun h8 I9=>⟨_,H7,I9,q⟩
  | ret u =>
   obtain⟨v7,σ7,H7,I8,r,q⟩:=q
   exact I8.nameGoes hN hi hl fun h8 I9=>⟨v7,_,H7,I9,r,q⟩
 ·refine(W.exm_one I.kIn LT hx).here ?_
  exact hr pins s σ H a cls cx B D I x4 hn
def a82(n:Nat)(tb:XK→TS)(th:TH):TS:=fun D σ H=>∃Eh:XK,tb Eh D σ H∧∀cls cx H',Eh cls cx H'→∀a,H' a=none→th cls cx a D (W3 n) H'
theorem a9x{body:List Stmt}{h₀:ExceptHandler}{hs:List ExceptHandler}{pos:Pos}{tb:XK→TS}{th:TH}
  (hb:∀(Eh:XK) (E2:Value→Shared→Prop) (pins:List (Addr×Obj)),XAcc (X.tryCx E2 pins) Eh→PassesOwn (model X.prog X.w) X.A X.env E2→PSs (X.tryCx E2 pins) body (tb Eh))
  (hh:PH X (h₀::hs) th)
  (hst:X.stack=X.env::X.outer:=by rfl) (hf:X.env.frame=some X.env.locals:=by rfl) (hex:X.ex=[]:=by rfl) :
  PS X (.Try body (h₀::hs) [] [] pos) (a82 X.N.length tb th):=by
 intro pins s σ H D I h
 obtain⟨Eh,h1,h2⟩:=h
 refine wpAny_Try_except ?_
 have ok:=I.ok
 have acc:XAcc (X.tryCx (fun e s₁=>wpAny (model X.prog X.w) X.A (noteFrame e X.env) (fun _ s₂=>wpAny (model X.prog X.w) X.A (setFlight e none) (fun _ s₃ =>
   wpAny (model X.prog X.w) X.A (handleBy e X.env (h₀::hs)) (SP X pins D) X.xe s₃) X.xe s₂) X.xe s₁) pins) Eh:=by
  intro pins' σ' H' s1 a cls cx B ph I1 x1 hE
  have I2:Inv X pins (W3 X.N.length) H' s1:=(I1.ofTry ok).forget
  have x2:XAt X pins H' s1 a cls cx B ph:=⟨x1.free,x1.stays,x1.fresh,x1.frames,fun b o e i n=>x1.cov b o e (i.elim .inl fun z=>.inr (z.elim .inl fun⟨p,hp,q⟩=>.inr ⟨p,List.mem_append_left _ hp,q⟩)) n,x1.tr⟩
  refine a2G ok.frames hst rfl hf I2 x2 fun h3 I3 x3=>?_
  refine a2H I3 x3 (fun z=>nomatch z) fun h4 I4 x4=>?_
  exact hh pins _ _ _ a cls cx B D I4 x4 (h2 cls cx H' hE a x4.free)
 refine wpAny_mono (hb Eh _ pins acc PassesOwn.looking [] s σ H D I.toTry h1) (fun f s1 q=>?_) fun e s1 q=>q
 have q':=q.ofTry ok
 cases f with
 | next=>exact wpAny_execs_nil q'
 | brk=>exact q'
 | cont=>exact q'
 | ret u=>exact q'
def XAccAt(X:Cx)(σ:St)(E:XK):Prop:=∀(pins:List (Addr×Obj)) (H:Hp) (s:Shared) (a:Addr) (cls:Value) (cx:Option Addr) (B:Heap) (ph:Ph),Inv X pins σ H s→XAt X pins H s a cls cx B ph→E cls cx H→X.xe (.ref a) s
theorem XAccAt.passes{σ:St}{E:XK}(acc:XAccAt X σ E):∀(pins:List (Addr×Obj)) (H:Hp) (s:Shared) (e:Value) (s':Shared),Inv X pins σ H s→w9 X.prog X.w X.stack H s E e s'→X.xe e s':=by
 intro pins H s e s' I h
 obtain⟨a,cls,cx,H',B,rfl,os,bare,un,hok,st,fr,ff,tr,free,cov,hE⟩:=h
 have I':Inv X pins σ H' s':=I.call' (ch:=[]) os un hok bare (fun b z=>absurd z (by simp))
 refine acc pins H' s' a cls cx B .fly I' ⟨free,st,fr,ff,fun b o e i n=>cov b o e ?_ n,tr⟩ hE
 rcases i with i | ⟨hx,o',i⟩ | ⟨p,hp,q⟩
 ·exact .inl i
 ·exact .inr (I.base.there b o' i hx)
 ·exact .inr ⟨p.2,by rw[← q];exact(I.pin p hp).1⟩
end
def Itv(K:W.Frag)(a:Addr)(n:Nat):It :=
 ⟨fun i H=>i<n∧∃xs,SqL K H a xs∧xs.length=n,fun i H x H'=>H'=H∧∀xs,SqL K H a xs→xs[n-1-i]? = some x,fun i H=>n≤i∧∃xs,SqL K H a xs∧xs.length=n⟩
theorem a7F{P:Program}{w:World}{K:PySem.W.Frag}{tg:Expr}(a it:Addr)(n:Nat)(hne:a≠it):Turn P w K tg (Itv K a n) [it] it (fun i h=>i≤n∧h.IsRevIter it a ((n:Int)-1-(i:Int))) where
 mem:=by simp
 obj:=fun i h ⟨_,o,e1,c,d⟩ b hb=>by
  have q:b=it:=by simpa using hb
  subst q
  exact⟨o,e1,fun v z=>by rw[d]at z;cases z⟩
 keep:=fun i h h' ⟨l,st⟩ k=>⟨l,st.at fun o q=>k it (by simp) o q⟩
 item:=by
  intro X hP hw hK hc i pins s σ H E I hf hst hg
  subst hP hw hK
  obtain⟨f0,f1,f2,f3,f4,f5⟩:=hf it (by simp)
  obtain⟨hi,xs,hq,hn⟩:=hg
  obtain⟨its,rv,p,hz⟩:=I.list hq
  have hl:=rv.length
  have hsz:its.toArray.size=n:=by rw[List.size_toArray];omega
  have W:=Walks.listRev (prog:=X.prog) (w:=X.w) (I.ok.hd hc) it a hne its.toArray
  rw[hsz]at W
  refine W.item i s _ _ hi ⟨hst.1,hst.2,p.isList⟩ fun v h' tk hv st' kk=>?_
  have hj:n-1-i<xs.length:=by omega
  obtain⟨u,hu,ru⟩:=rv.get (List.getElem?_eq_getElem hj)
  have hv':its[n-1-i]? = some v:=by simpa using hv
  rw[hu]at hv'
  cases hv'
  have I1:Inv X pins σ H { s with heap:=h',toks:=tk }:=I.turned (fun b o hb e=>kk b o (by simpa using hb) e) f0 f1 f3 f4 f5
  obtain⟨l',⟨o,eo,ec,ed⟩,_⟩:=st'
  exact⟨_,rfl,a5C (s:={ s with heap:=h',toks:=tk }) (n := "list_reverseiterator") eo ec ed (by decide) ⟨xs[n-1-i],H,I1,ru,⟨rfl,fun ys hy=>by rw[I.list_inj hy hq];exact List.getElem?_eq_getElem hj⟩,⟨l',⟨o,eo,ec,ed⟩⟩,fun b hb=>(hf b hb).1⟩⟩
 done:=by
  intro X hP hw hK hc i pins s σ H E I hf hst hg
  subst hP hw hK
  obtain⟨f0,f1,f2,f3,f4,f5⟩:=hf it (by simp)
  obtain⟨hi,xs,hq,hn⟩:=hg
  obtain⟨its,rv,p,hz⟩:=I.list hq
  have hl:=rv.length
  have hsz:its.toArray.size=n:=by rw[List.size_toArray];omega
  have W:=Walks.listRev (prog:=X.prog) (w:=X.w) (I.ok.hd hc) it a hne its.toArray
  rw[hsz]at W
  have e:i=n:=by have:=hst.1;omega
  subst e
  exact W.done s _ _ ⟨hst.1,hst.2,p.isList⟩ fun h' tk kp=>⟨rfl,I.turned (fun b o hb e=>kp b o (by simpa using hb) e) f0 f1 f3 f4 f5⟩
 self:=fun A i s Q E st h=>by
  obtain⟨_,st⟩:=st
  exact wpAny_pyIter_revIter st h
def b1u(K:W.Frag)(ta:TA):TI:=fun σ H R=>ta σ H fun vs H1=>∃a xs,vs=[.ref a]∧SqL K H1 a xs∧R (Itv K a xs.length) H1
section
variable {X:Cx}{tg:Expr}
theorem b1v{l:Expr}{ta:TA}{p pos:Pos}(hg:Gl X "reversed")(hm:X.mg "reversed" = none)(ha:PA X [l] ta)(hs:starEach [l] X.env=[(false,eval l X.env)]:=by rfl) :
  PI X tg (.Call (.Name "reversed" p) [l] [] pos) (b1u X.K ta):=by
 intro pins s σ H R I h
 refine Call_ (Q7 I hg hm a4P (PyProof.Rows.callWith_type1 (l4 (ha pos pins s σ H _ I h) fun us s1 ⟨vs,H1,I1,r1,q1⟩=>?_) hs rfl))
 obtain⟨a,xs,e,hq,q⟩:=q1
 subst e
 obtain⟨u,rfl,ru⟩:=r1.one
 cases (show u=Value.ref a from ru)
 obtain⟨its,rv,pl,hz⟩:=I1.list hq
 have la:a<s1.heap.objs.size:=by obtain⟨o,n,e,_⟩:=pl;exact Heap.lt_size e
 have hlen:=rv.length
 refine call_reversed_list pl.isList ?_
 have el:((its.toArray.size:Nat):Int)-1=(xs.length:Int)-1-((0:Nat):Int):=by simp;omega
 rw[el]
 have I2:Inv X pins σ H1 { s1 with heap:=s1.heap.push (revObj a ((xs.length:Int)-1-((0:Nat):Int))) }:=I1.kept (t':=s1.toks) fun b o e=>Heap.get?_push_of_some _ e
 have hit:(s1.heap.push (revObj a ((xs.length:Int)-1-((0:Nat):Int)))).IsRevIter s1.heap.objs.size a ((xs.length:Int)-1-((0:Nat):Int)):=⟨_,Heap.get?_push_size _ rfl,rfl,rfl⟩
 refine wpAny_pyIter_revIter (s:={ s1 with heap:=s1.heap.push (revObj a ((xs.length:Int)-1-((0:Nat):Int))) }) hit ?_
 refine⟨s1.heap.objs.size,[s1.heap.objs.size],_,_,H1,rfl,I2,a7F a s1.heap.objs.size xs.length (Nat.ne_of_lt la),⟨Nat.zero_le _,hit⟩,fun b hb=>?_,q⟩
 have z:b=s1.heap.objs.size:=by simpa using hb
 subst z
 exact I1.fpOk (Nat.le_refl _) (I1.hok.fresh (Nat.le_refl _))
end
section
variable {prog:Program}{w:World}{A:Around}{E:Value→Shared→Prop}{s:Shared}{fin:Bool}{Q:Bool→Shared→Prop}
theorem a1_{rs rs':List Value}:∀{vs ws:List Value} {ns ms:List Int} (i:Nat),IntsAre vs ns→IntsAre ws ms→ns.length=ms.length→ns≠ms→Q (HT.lexLt ns ms) s→KatLex prog w A true fin Q ((vs++rs).zip (ws++rs')) i s
 | _,_,_,_,i,.nil,.nil,_,hn,_=>absurd rfl hn
 | _,_,_,_,i,.nil,.cons c u t,hf,_,_=>by simp at hf
 | _,_,_,_,i,.cons a t r,.nil,hf,_,_=>by simp at hf
 | _,_,_,_,i,.cons (ns:=ns) a t r,.cons (ns:=ms) c u r',hf,hn,h=>by
  rw[List.cons_append,List.cons_append,List.zip_cons_cons]
  rw[HT.lexLt_cons]at h
  refine kat_cons (wpAny_eqBool_int (kat_go (fun e=>?_) fun e=>?_))
  ·have e':a=c:=by simpa using e
   rw[if_pos e']at h
   exact kat_yes (a1_ (i+1) r r' (by simpa using hf) (fun z=>hn (by rw[e',z])) h)
  ·rw[if_neg (by simpa using e)]at h
   refine kat_no ?_
   by_cases hi:i=0
   ·subst hi
    show wpAny _ _ (oneLt' true _ _) _ _ _
    exact oneLt_int h
   ·have e0:(true && i == 0)=false:=by simpa using hi
    rw[e0]
    exact kat_one _ _ (PyProof.Rows.lt_int h)
def TupPre(h:Heap)(v:Value)(k:List Int):Prop:=∃a o xs m vs rs,v=.ref a∧h.get? a=some o∧o.cls=.type "tuple"∧o.data=.seq xs m∧xs.toList=vs++rs∧IntsAre vs k∧k≠[]∧∀u∈xs.toList,(u == u)=true
theorem TupPre.keeps{h h':Heap}{v:Value}{k:List Int}(t:TupPre h v k)(kp:∀a o,h.get? a=some o→h'.get? a=some o):TupPre h' v k:=by
 obtain⟨a,o,xs,m,vs,rs,e,ho,r⟩:=t
 exact⟨a,o,xs,m,vs,rs,e,kp _ _ ho,r⟩
theorem TupPre.lt{v u:Value}{k l:List Int}{C:Bool→Shared→Prop}(t:TupPre s.heap v k)(t':TupPre s.heap u l)(hl:k.length=l.length)(hn:k≠l)(h:C (HT.lexLt k l) s):wpAny (model prog w) A (keyLt' (tuples' true) v u) C E s:=by
 obtain⟨a,o,xs,m,vs,rs,rfl,ho,_,hd,hx,hi,_⟩:=t
 obtain⟨a',o',xs',m',vs',rs',rfl,ho',_,hd',hx',hi',_⟩:=t'
 refine kat_lt ho hd ho' hd' ?_
 rw[hx,hx']
 exact a1_ 0 hi hi' hl hn h
def TPs(h:Heap):List Value→List (List Int)→Prop
 | [],[]=>True
 | v::vs,k::ks=>TupPre h v k∧TPs h vs ks
 | _,_=>False
theorem TPs.keeps{h h':Heap}(kp:∀a o,h.get? a=some o→h'.get? a=some o):∀{vs:List Value} {ks:List (List Int)},TPs h vs ks→TPs h' vs ks
 | [],[],_=>trivial
 | [],_::_,t=>t.elim
 | _::_,[],t=>t.elim
 | v::vs,k::ks,t=>⟨t.1.keeps kp,TPs.keeps kp t.2⟩
theorem TPs.at{h:Heap}:∀{vs:List Value} {ks:List (List Int)} (i:Nat),TPs h vs ks→i<vs.length→TupPre h (vs.getD i Value.none) (ks.getD i [])
 | [],_,i,_,hi=>absurd hi (Nat.not_lt_zero _)
 | _::_,[],_,t,_=>t.elim
 | v::vs,k::ks,0,t,_=>t.1
 | v::vs,k::ks,i+1,t,hi=>TPs.at (vs:=vs) (ks:=ks) i t.2 (by simpa using hi)
end
section
variable {X:Cx}{pins:List (Addr×Obj)}{σ:St}{H:Hp}{s:Shared}{A':Around}{E:Value→Shared→Prop}
theorem FpOk.to{H':Hp}{b:Addr}(f:FpOk X pins H b)(n:H' b=none):FpOk X pins H' b:=⟨n,f.2⟩
end
def TbAt(P:Addr)(q:Str)(H:Hp):Prop:=∃(qs:Array Value) (t:Tok),H P=some (.tbl qs)∧qs[0]? = some (Value.str q t)
theorem TbAt.now{P:Addr}{q:Str}{fs ex:List Addr}{H H':Hp}{h h':Heap}(t:TbAt P q H)(u:Un fs ex H H' h h'):TbAt P q H':=by
 obtain⟨qs,t,e,e2⟩:=t
 obtain⟨more,e3⟩:=u.tbls _ _ e
 refine⟨_,t,e3,?_⟩
 have h0:0<qs.size:=by
  by_cases z:0<qs.size
  ·exact z
  ·rw[Array.getElem?_eq_none (by omega)]at e2;cases e2
 rw[Array.getElem?_append_left h0];exact e2
def TbAll(TB:List (Addr×Str))(H:Hp):Prop:=∀P q,TB.lookup P=some q→TbAt P q H
theorem TbAll.now{TB:List (Addr×Str)}{fs ex:List Addr}{H H':Hp}{h h':Heap}(t:TbAll TB H)(u:Un fs ex H H' h h'):TbAll TB H':=fun P q e=>(t P q e).now u
end L2
namespace HT
open PySem PyProof.Rows
end HT
namespace L2
open PySem PySem.Spec PyProof.Rows
open PySem.W
def Rise(a:Array Nat):Prop:=a.toList.Pairwise (· < ·)
theorem Rise.lt{a:Array Nat}(h:Rise a){i j:Nat}(hij:i<j)(hj:j<a.size):a.getD i 0<a.getD j 0:=by
 have hi:i<a.size:=Nat.lt_trans hij hj
 have:=List.pairwise_iff_getElem.mp h i j (by simpa using hi) (by simpa using hj) hij
 simpa [Array.getD,hi,hj]using this
structure TbR(led:Bool)(t:SetTable):Prop where
 rise:Rise t.place
 dum:t.dummies = #[]
 led:t.led=led
def b1w(e:Int×Value):Int:=match e.2 with
 | .int k _=>k
 | _=>0
def IsI(e:Int×Value):Prop:=∃k t,e=(hashInt k,Value.int k t)
structure SetR(w:World)(h:Heap)(a:Addr)(L:List Int):Prop where
 ex:∃o es ep t,h.get? a=some o∧o.ExactSet∧o.data=.set es ep t∧(∀e∈es.toList,IsI e)∧(es.toList.map b1w).Nodup∧(∀k,k∈es.toList.map b1w↔k∈L)∧es.size<scanBound∧t.fits es.size=true∧TbR (!w.params.followText "set-order") t
section
variable {prog:Program}{w:World}{A:Around}{E:Value→Shared→Prop}{s:Shared}
theorem SetR.frame{h h':Heap}{a:Addr}{L:List Int}(S:SetR w h a L)(e:∀o,h.get? a=some o→h'.get? a=some o):SetR w h' a L:=by
 obtain⟨o,es,ep,t,ho,r⟩:=S.ex
 exact⟨o,es,ep,t,e o ho,r⟩
end
end L2
namespace HT
open PySem PyProof.Rows
inductive IB:List Value→List Value→List Int→List Int→Prop
 | nil:IB [] [] [] []
 | int (a:Int) (t:Tok) (c:Int) (u:Tok) {vs ws:List Value} {ns ms:List Int} (h:IB vs ws ns ms):IB (.int a t::vs) (.int c u::ws) (a::ns) (c::ms)
 | bl (p q:Bool) {vs ws:List Value} {ns ms:List Int} (h:IB vs ws ns ms):IB (.bool p::vs) (.bool q::ws) (b2i p::ns) (b2i q::ms)
theorem IB.len{vs ws:List Value}{ns ms:List Int}(h:IB vs ws ns ms):vs.length=ws.length:=by
 induction h with
 | nil=>rfl
 | int _ _ _ _ _ ih=>simp[ih]
 | bl _ _ _ ih=>simp[ih]
end HT
namespace L2
open PySem PySem.Spec PyProof.Rows
open PySem.W
section
variable {n:Nat}{lt:Nat→Nat→Bool}
def Prx(n:Nat)(p:Array Nat)(m:Nat):Prop:=(∀i,i<m→ga p i<m)∧∀i,m≤i→i<n→ga p i=i
theorem Prx.up{p:Array Nat}{m k:Nat}(h:Prx n p m)(hk:m≤k)(hn:k≤n):Prx n p k:=by
 refine⟨fun i hi=>?_,fun i h1 h2=>h.2 i (by omega) h2⟩
 by_cases z:i<m
 ·have:=h.1 i z;omega
 ·rw[h.2 i (by omega) (by omega)];exact hi
structure DR(n:Nat)(lt:Nat→Nat→Bool)(p:Array Nat)(k:Nat):Prop where
 pre:Prx n p k
 d1:∀i j,i<j→j<k→lt (ga p i) (ga p j)=false
 d2:∀i j,i<j→j<k→lt (ga p j) (ga p i)=false→ga p j<ga p i
structure DG(n:Nat)(lt:Nat→Nat→Bool)(p:Array Nat)(k q:Nat):Prop where
 pre:Prx n p (k-(q+1))
 d1:∀i j,i<j→j<k→lt (ga p i) (ga p j)=false
 d2:∀i j,i<j→j<k-(q+1)→lt (ga p j) (ga p i)=false→ga p j<ga p i
 d3:∀i,i<k-(q+1)→lt (ga p (k-1)) (ga p i)=true
 d4:∀i,k-(q+1)≤i→i<k→lt (ga p (k-1)) (ga p i)=false
theorem DR.snoc{p:Array Nat}{k:Nat}(T:TPre lt)(d:DR n lt p k)(h:∀i,i<k→lt (ga p k) (ga p i)=true)(hk:k<n):DG n lt p (k+1) 0:=by
 have e:k+1-(0+1)=k:=by omega
 refine⟨by rw[e];exact d.pre,fun i j hij hj=>?_,fun i j hij hj=>by rw[e]at hj;exact d.d2 i j hij hj,fun i hi=>by rw[e]at hi;rw[Nat.add_sub_cancel];exact h i hi,fun i h1 h2=>?_⟩
 ·by_cases z:j<k
  ·exact d.d1 i j hij z
  ·have e:j=k:=by omega
   subst e
   exact T.asy _ _ (h i hij)
 ·have e:i=k:=by omega
  subst e
  rw[Nat.add_sub_cancel];exact T.irr _
theorem DG.one{p:Array Nat}{k:Nat}(T:TPre lt)(d:DG n lt p k 0)(hk1:1≤k)(hk:k≤n):DR n lt p k:=by
 refine⟨d.pre.up (by omega) hk,d.d1,fun i j hij hj z=>?_⟩
 by_cases e:j=k-1
 ·subst e
  rw[d.d3 i (by omega)]at z
  cases z
 ·exact d.d2 i j hij (by omega) z
end
theorem SqL.ext{K:W.Frag}{H1 H2:Hp}{a:Addr}{xs:List V}(h:SqL K H1 a xs)(ex:∀a o,H1 a=some o→H2 a=some o):SqL K H2 a xs:=by
 rcases h with(h | ⟨o,h⟩) | h
 ·exact .inl (.inl (ex _ _ h))
 ·exact .inl (.inr ⟨o,ex _ _ h⟩)
 ·exact .inr h
def Srt(lt:Keyed→Keyed→Bool)(l:List Keyed):Prop:=l.Pairwise fun x y=>lt y x=false
section
variable {lt:Keyed→Keyed→Bool}{aL bL o ra rb u:List Keyed}{x y:Keyed}
theorem Srt.drop{l:List Keyed}(h:Srt lt l)(n:Nat):Srt lt (l.drop n):=List.Pairwise.sublist (List.drop_sublist n l) h
end
def SameG(st st':SortSt):Prop:=kindOf st'=kindOf st∧arrOf st'=arrOf st∧pendingOf st'=pendingOf st∧failedOf st'=failedOf st
theorem SameG.refl(st:SortSt):SameG st st:=⟨rfl,rfl,rfl,rfl⟩
theorem SameG.trans{a b c:SortSt}(h:SameG a b)(g:SameG b c):SameG a c:=⟨g.1.trans h.1,g.2.1.trans h.2.1,g.2.2.1.trans h.2.2.1,g.2.2.2.trans h.2.2.2⟩
section
variable {lt:Keyed→Keyed→Bool}{aL bL o ra rb u:List Keyed}{x y:Keyed}
theorem Srt.left{l m:List Keyed}(h:Srt lt (l++m)):Srt lt l:=(List.pairwise_append.mp h).1
end
section
variable {lt:Keyed→Keyed→Bool}{Dm:Keyed→Prop}{a b out:Array Keyed}{na nb:Nat}{x y:Keyed}
theorem Srt.take{l:List Keyed}(h:Srt lt l)(n:Nat):Srt lt (l.take n):=List.Pairwise.sublist (List.take_sublist n l) h
end
section
variable {prog:Program}{w:World}{A:Around}{E:Value→Shared→Prop}{s:Shared}{κ:SortKind}{lt:Keyed→Keyed→Bool}{Dm:Keyed→Prop}{st:SortSt}
theorem Srt.right{l m:List Keyed}(h:Srt lt (l++m)):Srt lt m:=(List.pairwise_append.mp h).2.1
end
def gk(p:Array Keyed)(k:Nat):Keyed:=p.getD k (Value.none,Value.none)
structure Rst(a0:Array Keyed)(lo hi:Nat)(a:Array Keyed):Prop where
 pm:a.Perm a0
 out:∀x,(x<lo∨hi≤x)→gk a x=gk a0 x
theorem Rst.refl(a:Array Keyed)(lo hi:Nat):Rst a lo hi a:=⟨.refl _,fun _ _=>rfl⟩
theorem Rst.size{a0 a:Array Keyed}{lo hi:Nat}(h:Rst a0 lo hi a):a.size=a0.size:=h.pm.size_eq
def PRun(lt:Keyed→Keyed→Bool):List (Nat×Nat×Nat)→List (List Keyed)→Nat→Prop
 | [],[],_=>True
 | p::ps,S::ss,o=>p.1=o∧p.2.1=S.length∧1≤S.length∧Srt lt S∧PRun lt ps ss (o+S.length)
 | _,_,_=>False
section
variable {lt:Keyed→Keyed→Bool}
theorem PRun.len:∀{pl:List (Nat×Nat×Nat)} {segs:List (List Keyed)} {o:Nat},PRun lt pl segs o→pl.length=segs.length∧pl.length≤segs.flatten.length
 | [],[],_,_=>⟨rfl,Nat.le_refl _⟩
 | p::ps,S::ss,o,h=>by
  obtain⟨_,_,h1,_,h2⟩:=h
  have:=PRun.len h2
  simp only[List.length_cons,List.flatten_cons,List.length_append]
  omega
 | [],_::_,_,h=>h.elim
 | _::_,[],_,h=>h.elim
theorem PRun.snoc:∀{pl:List (Nat×Nat×Nat)} {segs:List (List Keyed)} {o:Nat} {c:Nat×Nat×Nat} {S:List Keyed},PRun lt pl segs o→c.1=o+segs.flatten.length→c.2.1=S.length→1≤S.length→Srt lt S→PRun lt (pl++[c]) (segs++[S]) o
 | [],[],o,c,S,_,h1,h2,h3,h4=>⟨by simpa using h1,h2,h3,h4,trivial⟩
 | p::ps,U::ss,o,c,S,h,h1,h2,h3,h4=>by
  obtain⟨a1,a2,a3,a4,a5⟩:=h
  refine⟨a1,a2,a3,a4,PRun.snoc a5 ?_ h2 h3 h4⟩
  rw[h1];simp only[List.flatten_cons,List.length_append];omega
 | [],_::_,_,_,_,h,_,_,_,_=>h.elim
 | _::_,[],_,_,_,h,_,_,_,_=>h.elim
theorem PRun.split:∀{pl:List (Nat×Nat×Nat)} {segs:List (List Keyed)} {o i:Nat},PRun lt pl segs o→i+1<pl.length→∃p1 a b p2 s1 U V s2,pl=p1++a::b::p2∧p1.length=i∧segs=s1++U::V::s2∧a.1=o+s1.flatten.length∧a.2.1=U.length∧b.1=a.1+U.length∧b.2.1=V.length∧1≤U.length∧1≤V.length∧Srt lt U∧Srt lt V ∧
  ∀(W:List Keyed) (c:Nat×Nat×Nat),W.length=U.length+V.length→Srt lt W→c.1=a.1→c.2.1=W.length→PRun lt (p1++c::p2) (s1++W::s2) o
 | p::q::ps,S::S'::ss,o,0,h,_=>by
  obtain⟨a1,a2,a3,a4,b1,b2,b3,b4,b5⟩:=h
  refine⟨[],p,q,ps,[],S,S',ss,rfl,rfl,rfl,by simpa using a1,a2,by omega,b2,a3,b3,a4,b4,fun W c hW hs h1 h2=>⟨by rw[h1];exact a1,h2,by omega,hs,?_⟩⟩
  rw[hW,← Nat.add_assoc]
  exact b5
 | p::ps,S::ss,o,i+1,h,hi=>by
  obtain⟨a1,a2,a3,a4,a5⟩:=h
  obtain⟨p1,a,b,p2,s1,U,V,s2,e1,e2,e3,e4,e5,e6,e7,e8,e9,e10,e11,e12⟩:=PRun.split a5 (i:=i) (by rw[List.length_cons]at hi;omega)
  refine⟨p::p1,a,b,p2,S::s1,U,V,s2,by rw[e1];rfl,by rw[List.length_cons,e2],by rw[e3];rfl,by rw[e4];simp only[List.flatten_cons,List.length_append];omega,e5,e6,e7,e8,e9,e10,e11,fun W c hW hs h1 h2=>⟨a1,a2,a3,a4,e12 W c hW hs h1 h2⟩⟩
 | [p],[S],o,0,h,hi=>by simp at hi
 | [p],S::S'::ss,o,0,h,hi=>by simp at hi
 | p::q::ps,[S],o,0,h,_=>by obtain⟨_,_,_,_,h⟩:=h;exact h.elim
 | [],[],_,_,_,hi=>by simp at hi
 | [],_::_,_,_,h,_=>h.elim
 | _::_,[],_,_,h,_=>h.elim
end
structure SI(lt:Keyed→Keyed→Bool)(st0 st:SortSt)(lo:Nat)(j6:List Keyed):Prop where
 k:kindOf st=kindOf st0
 f:failedOf st=none
 pm:(arrOf st).Perm (arrOf st0)
 run:∃segs,(arrOf st).toList=segs.flatten++j6∧segs.flatten.length=lo∧PRun lt (pendingOf st).toList segs 0
section
variable {prog:Program}{w:World}{A:Around}{E:Value→Shared→Prop}{s:Shared}{κ:SortKind}{lt:Keyed→Keyed→Bool}{Dm:Keyed→Prop}{st0 st:SortSt}{lo n:Nat}{j6:List Keyed}
theorem SI.push{S:List Keyed}{pw:Nat}(I:SI lt st0 st lo (S++j6))(hn:S.length=n)(h1:1≤n)(hs:Srt lt S):SI lt st0 (setPending st ((pendingOf st).push (lo,n,pw))) (lo+n) j6:=by
 obtain⟨segs,e1,e2,pr⟩:=I.run
 refine⟨I.k,I.f,I.pm,segs++[S],by show(arrOf st).toList=_;rw[e1];simp,by simp only[List.flatten_append,List.flatten_cons,List.flatten_nil,List.length_append,List.length_nil];omega,?_⟩
 show PRun lt ((pendingOf st).push (lo,n,pw)).toList _ 0
 rw[Array.toList_push]
 exact pr.snoc (by show lo=_;omega) (by show n=_;omega) (by omega) hs
end
section
variable {κ:Type} [DecidableEq κ]
def S3(kvs:List (κ×V))(k:κ):Option V:=(kvs.find? fun kv=>decide (kv.1=k)).map (·.2)
def a0U(kvs:List (κ×V))(k:κ)(v:V):List (κ×V) :=
 if(kvs.any fun kv=>decide (kv.1=k))=true then kvs.map (fun kv=>if kv.1=k then(kv.1,v)else kv)else kvs++[(k,v)]
def a84(kvs:List (κ×V))(k:κ):List (κ×V):=kvs.filter fun kv=>decide (kv.1≠k)
theorem a1H{p:κ×V}{r:List (κ×V)}{k:κ}(e:p.1=k):S3 (p::r) k=some p.2:=by simp[S3,List.find?_cons,e]
theorem a1I{p:κ×V}{r:List (κ×V)}{k:κ}(e:¬p.1=k):S3 (p::r) k=S3 r k:=by simp[S3,List.find?_cons,e]
theorem a4b(k:κ):∀kvs:List (κ×V),(kvs.any fun kv=>decide (kv.1=k))=(S3 kvs k).isSome
 | []=>rfl
 | p::r=>by
  rw[List.any_cons]
  by_cases e:p.1=k
  ·simp only[a1H e,decide_eq_true e,Bool.true_or,Option.isSome_some]
  ·rw[a1I e,decide_eq_false e,Bool.false_or];exact a4b k r
theorem RelO.isSome_eq{o:Option V}{u:Option Value}(r:RelO o u):o.isSome=u.isSome:=by
 cases o with
 | none=>cases u with
  | none=>rfl
  | some _=>exact(show False from r).elim
 | some _=>cases u with
  | none=>exact(show False from r).elim
  | some _=>rfl
theorem RelO.getD{o:Option V}{u:Option Value}{d:V}{d':Value}(r:RelO o u)(rd:RelV d d'):RelV (o.getD d) (u.getD d'):=by
 cases o with
 | none=>cases u with
  | none=>exact rd
  | some _=>exact(show False from r).elim
 | some _=>cases u with
  | none=>exact(show False from r).elim
  | some _=>exact r
theorem KV.val{kvs:List (κ×V)}{vs:List (κ×Value)}(r:KV kvs vs)(k:κ):RelO (S3 kvs k) (valueAt vs k):=by
 unfold KV at r
 induction r with
 | nil=>exact True.intro
 | @cons p q ps qs h t ih =>
  obtain⟨h1,h2⟩:=h
  by_cases e:p.1=k
  ·have e':q.1=k:=h1.symm.trans e
   have b:valueAt (q::qs) k=some q.2:=by simp[valueAt,List.find?_cons,e']
   rw[a1H e,b];exact h2
  ·have e':¬q.1=k:=fun z=>e (h1.trans z)
   have b:valueAt (q::qs) k=valueAt qs k:=by simp[valueAt,List.find?_cons,e']
   rw[a1I e,b];exact ih
theorem KV.any{kvs:List (κ×V)}{vs:List (κ×Value)}(r:KV kvs vs)(k:κ):(kvs.any fun kv=>decide (kv.1=k))=vs.any fun kv=>decide (kv.1=k):=by
 unfold KV at r
 induction r with
 | nil=>rfl
 | cons h t ih=>rw[List.any_cons,List.any_cons,ih,h.1]
theorem KV.repl{kvs:List (κ×V)}{vs:List (κ×Value)}(r:KV kvs vs)(k:κ){y:V}{u:Value}(ry:RelV y u) :
  KV (kvs.map fun kv=>if kv.1=k then(kv.1,y)else kv) (vs.map fun kv=>if kv.1=k then(kv.1,u)else kv):=by
 unfold KV at r ⊢
 induction r with
 | nil=>exact .nil
 | @cons p q ps qs h t ih =>
  rw[List.map_cons,List.map_cons]
  refine .cons ?_ ih
  obtain⟨h1,h2⟩:=h
  by_cases e:p.1=k
  ·rw[if_pos e,if_pos (h1.symm.trans e)];exact⟨h1,ry⟩
  ·rw[if_neg e,if_neg (fun z=>e (h1.trans z))];exact⟨h1,h2⟩
theorem KV.put{kvs:List (κ×V)}{vs:List (κ×Value)}(r:KV kvs vs)(k:κ){y:V}{u:Value}(ry:RelV y u):KV (a0U kvs k y) (stored vs k u):=by
 unfold a0U stored
 rw[r.any k]
 by_cases e:(vs.any fun kv=>decide (kv.1=k))=true
 ·rw[if_pos e,if_pos e];exact r.repl k ry
 ·rw[if_neg e,if_neg e];exact Paired.snoc r ⟨rfl,ry⟩
theorem KV.drop{kvs:List (κ×V)}{vs:List (κ×Value)}(r:KV kvs vs)(k:κ):KV (a84 kvs k) (without vs k):=by
 unfold KV at r ⊢
 unfold a84 without
 induction r with
 | nil=>exact .nil
 | @cons p q ps qs h t ih =>
  obtain⟨h1,h2⟩:=h
  rw[List.filter_cons,List.filter_cons]
  by_cases e:p.1=k
  ·have a:¬decide (p.1≠k)=true:=by simp[e]
   have b:¬decide (q.1≠k)=true:=by simp[h1.symm.trans e]
   rw[if_neg a,if_neg b];exact ih
  ·have e':¬q.1=k:=fun z=>e (h1.trans z)
   have a:decide (p.1≠k)=true:=by simp[e]
   have b:decide (q.1≠k)=true:=by simp[e']
   rw[if_pos a,if_pos b];exact .cons ⟨h1,h2⟩ ih
theorem KV.keys{kvs:List (κ×V)}{vs:List (κ×Value)}(r:KV kvs vs):kvs.map (·.1)=vs.map (·.1):=by
 unfold KV at r
 induction r with
 | nil=>rfl
 | cons h t ih=>rw[List.map_cons,List.map_cons,ih,h.1]
theorem KV.length{kvs:List (κ×V)}{vs:List (κ×Value)}(r:KV kvs vs):kvs.length=vs.length:=Paired.length r
end
abbrev KT(H:Hp):List (List x6×V)→List (List x6×Addr×Value)→Prop:=Paired fun p q=>p.1=q.1∧H q.2.1=some (.tup (p.1.map kV))∧RelV p.2 q.2.2
theorem KT.val{H:Hp}{kvs:List (List x6×V)}{xs:List (List x6×Addr×Value)}(r:KT H kvs xs)(k:List x6):RelO (S3 kvs k) ((atKey xs k).map (·.2)):=by
 induction r with
 | nil=>exact True.intro
 | @cons p q ps qs h t ih =>
  obtain⟨h1,_,h2⟩:=h
  by_cases e:p.1=k
  ·have e':q.1=k:=h1.symm.trans e
   have b:atKey (q::qs) k=some q.2:=by simp[atKey,List.find?_cons,e']
   rw[a1H e,b];exact h2
  ·have e':¬q.1=k:=fun z=>e (h1.trans z)
   have b:atKey (q::qs) k=atKey qs k:=by simp[atKey,List.find?_cons,e']
   rw[a1I e,b];exact ih
theorem KT.repl{H:Hp}{kvs:List (List x6×V)}{xs:List (List x6×Addr×Value)}(r:KT H kvs xs)(k:List x6){y:V}{u:Value}(ry:RelV y u) :
  KT H (kvs.map fun kv=>if kv.1=k then(kv.1,y)else kv) (xs.map (putAt k u)):=by
 induction r with
 | nil=>exact .nil
 | @cons p q ps qs h t ih =>
  rw[List.map_cons,List.map_cons]
  refine .cons ?_ ih
  obtain⟨h1,h2,h3⟩:=h
  unfold putAt
  by_cases e:p.1=k
  ·rw[if_pos e,if_pos (h1.symm.trans e)];exact⟨h1,h2,ry⟩
  ·rw[if_neg e,if_neg (fun z=>e (h1.trans z))];exact⟨h1,h2,h3⟩
theorem KT.put{H:Hp}{kvs:List (List x6×V)}{xs:List (List x6×Addr×Value)}(r:KT H kvs xs)(k:List x6){b:Addr}{y:V}{u:Value}(hb:H b=some (.tup (k.map kV)))(ry:RelV y u) :
  KT H (a0U kvs k y) (storedH xs k b u):=by
 have e:(kvs.any fun kv=>decide (kv.1=k))=(atKey xs k).isSome:=by
  rw[a4b,(r.val k).isSome_eq,Option.isSome_map]
 unfold a0U storedH
 rw[e]
 by_cases q:(atKey xs k).isSome=true
 ·rw[if_pos q,if_pos q];exact r.repl k ry
 ·rw[if_neg q,if_neg q];exact Paired.snoc r ⟨rfl,hb,ry⟩
theorem KT.keeps{H H':Hp}{kvs:List (List x6×V)}{xs:List (List x6×Addr×Value)}(r:KT H kvs xs)(ht:∀b ys,H b=some (.tup ys)→H' b=some (.tup ys)):KT H' kvs xs :=
 Paired.mapP r fun _ _ z=>⟨z.1,ht _ _ z.2.1,z.2.2⟩
def DGet(H:Hp)(a:Addr)(y:V)(r:Option V):Prop :=
 (∃kvs k,Rd H a (.dK kvs)∧y=kV k∧r=S3 kvs k)∨∃kvs k b,Rd H a (.dT kvs)∧y=.ref b∧H b=some (.tup (k.map kV))∧r=S3 kvs k
def DPut(H:Hp)(a:Addr)(y v:V)(H':Hp):Prop :=
 (∃kvs k,H a=some (.dK kvs)∧y=kV k∧kvs.length<sizeLine∧H'=upd H a (.dK (a0U kvs k v))) ∨
 ∃kvs k b,H a=some (.dT kvs)∧y=.ref b∧H b=some (.tup (k.map kV))∧kvs.length<sizeLine∧H'=upd H a (.dT (a0U kvs k v))
theorem DGet.k{H:Hp}{a:Addr}{kvs:List (x6×V)}{k:x6}(e:H a=some (.dK kvs)):DGet H a (kV k) (S3 kvs k):=.inl ⟨kvs,k,.inl e,rfl,rfl⟩
theorem DGet.t{H:Hp}{a b:Addr}{kvs:List (List x6×V)}{k:List x6}(e:H a=some (.dT kvs))(eb:H b=some (.tup (k.map kV))):DGet H a (.ref b) (S3 kvs k):=.inr ⟨kvs,k,b,.inl e,rfl,eb,rfl⟩
theorem DPut.k{H:Hp}{a:Addr}{kvs:List (x6×V)}{k:x6}{v:V}(e:H a=some (.dK kvs))(hl:kvs.length<sizeLine):DPut H a (kV k) v (upd H a (.dK (a0U kvs k v))):=.inl ⟨kvs,k,e,rfl,hl,rfl⟩
theorem DPut.t{H:Hp}{a b:Addr}{kvs:List (List x6×V)}{k:List x6}{v:V}(e:H a=some (.dT kvs))(eb:H b=some (.tup (k.map kV)))(hl:kvs.length<sizeLine) :
  DPut H a (.ref b) v (upd H a (.dT (a0U kvs k v))):=.inr ⟨kvs,k,b,e,rfl,eb,hl,rfl⟩
end L2
namespace PySem.W
open PySem PySem.Spec PySem.Calls PyProof.Rows
def onlyVE:List Value→Bool
 | .ref _::r=>onlyVE r
 | l=>l == L2.vErr
theorem a3f(self:Value):∀l:List Value,onlyVE l=true→refuseLoop self "__setattr__" l=pure ()
 | [],e=>by cases (show([] == L2.vErr)=true from e)
 | y::r,e=>by
  unfold onlyVE at e
  split at e
  ·rename_i c r' q
   cases q
   rw[refuseLoop_ref]
   exact a3f self _ e
  ·rw[beq_iff_eq.mp e]
   exact PySem.F.store_ValueError.passes self
structure ExcS(K:Frag)(C:Addr)(f:Str):Prop where
 sa:findIn K (.ref C) "__setattr__" = some (some (.builtin "object.__setattr__"))
 mr:((clsIn K C).any fun cd=>onlyVE cd.mro)=true
 mo:mroIn K C (.type "object")=some true
 hd:hasDictIn K C=true
 na:findIn K (.ref C) f=some none
section
variable {prog:Program}{w:World}{A:Around}{E:Value→Shared→Prop}{s:Shared}{K:Frag}{x C:Addr}{o:Obj}{vs:Array Value}{f:Str}{v:Value}
theorem a9y{tk:Tok}{R:Result→Shared→Prop}(X:K.In s.heap)(T:ExcS K C f)(hx:s.heap.get? x=some o)(hc:o.cls=.ref C)(hd:o.dict=none)(hf:o.data=.fields vs)
  (q:∀h' tk',h'.get? x=some { o with dict:=some s.heap.objs.size }→h'.Ns1 s.heap.objs.size (fun y=>if y=f then some v else none)→(∀b ob,b≠x→s.heap.get? b=some ob→h'.get? b=some ob)→R (.ok (.ret .none)) { s with heap:=h',toks:=tk' }) :
  codeAny (model prog w) A (.call (.builtin "object.__setattr__") ⟨[.ref x,.str f tk,v],[]⟩) R s:=by
 obtain⟨cd,hcd,ho⟩:=any_some T.mr
 obtain⟨cd',hcd',hhd⟩:=any_some T.hd
 rw[hcd]at hcd';cases hcd'
 have LT:Looks (model prog w) s.heap (typeOf (.ref x)) (.ref C):=hc▸(Looks.ld hx).andThen .now
 have SF:=PySem.F.store_object
 have sub:Looks (model prog w) s.heap (isInstance (.ref x) (.type "object")) true:=LT.andThen (looks_mroIn X T.mo)
 have hm:Looks (model prog w) s.heap (mroOf (.ref C)) cd.mro:=(looks_clsIn X hcd).andThen .now
 refine codeAny_call_builtin SF.slot.plain SF.entry (@check_slot (model prog w) _ _ s "object.__setattr__" "object" "__setattr__" (.ref x) [.str f tk,v] [] _ SF.kind SF.split sub (SF.args (.ref x) (.str f tk) v) ?_)
 show wpAny _ _ (Builtin.«object.__setattr__» ⟨[.ref x,.str f tk,v],[]⟩) _ _ _
 rw[osa_eq,refuse_eq]
 refine wpAny_bind (wpAny_bind (LT.here (wpAny_bind (hm.here ?_))))
 rw[a3f _ _ ho]
 refine wpAny_pure (wpAny_bind (LT.here (wpAny_bind ((looks_findIn X T.na).here (wpAny_bind (wpAny_pure ?_))))))
 show wpAny _ _ (Builtin.ObjectAttr.storeInOwnDict (.ref x) (.ref C) (.str f tk) f v false) _ _ _
 refine wpAny_bind (wpAny_pure (wpAny_bind ?_))
 unfold Builtin.ObjectAttr.ownDictForStores instanceDict
 refine wpAny_bind (wpAny_loadPart hx ?_)
 rw[hc]
 refine wpAny_bind ((looks_clsIn X hcd).here ?_)
 rw[if_neg (by rw[hhd];decide)]
 dsimp only
 rw[hd]
 dsimp only
 rw[if_neg (by simp[typeHasDict]),hf]
 dsimp only
 have hx₁:(s.heap.push { cls:=.type "dict",data:=.dict #[] }).get? x=some o:=Heap.get?_push_of_some _ hx
 have hxs:x≠s.heap.objs.size:=Nat.ne_of_lt (Heap.lt_size hx)
 refine wpAny_bind (wpAny_alloc' ?_)
 refine wpAny_bind (wpAny_update' hx₁ ?_)
 refine wpAny_pure ?_
 have hgd:((s.heap.push { cls:=.type "dict",data:=.dict #[] }).update x fun o=>{ cls:=o.cls,dict:=some s.heap.objs.size,data:=o.data,slots:=o.slots }).get? s.heap.objs.size
   = some { cls:=.type "dict",data:=.dict #[] } :=
  (Heap.get?_update_ne _ _ _ _ hxs.symm).trans (Heap.get?_push_at rfl rfl)
 have hnd:((s.heap.push { cls:=.type "dict",data:=.dict #[] }).update x fun o=>{ cls:=o.cls,dict:=some s.heap.objs.size,data:=o.data,slots:=o.slots }).Ns s.heap.objs.size (fun _=>none) :=
  ⟨_,#[],_,hgd,rfl,fun e he=>absurd he (by simp),fun _=>rfl⟩
 show wpAny _ _ (Builtin.ObjectAttr.storeInDict s.heap.objs.size (.str f tk) f v) _ _ _
 unfold Builtin.ObjectAttr.storeInDict Builtin.ObjectAttr.newKeyGuard
 refine wpAny_bind (wpAny_pure (wpAny_bind (wpAny_nsSet1 (Heap.Ns1.of_empty hnd) fun h' hn' hs=>?_)))
 obtain⟨oD,esD,epD,hoD,hdD,hcD⟩:=hn'.count (Within.cons f v Within.nil)
 refine wpAny_bind (wpAny_lookBehind hoD (by rw[hdD];exact pastItsLine_dict (Nat.le_trans hcD (by rw[List.length_cons,List.length_nil,sizeLine_eq];omega))) ?_)
 refine wpAny_pure (q h' _ ?_ hn' fun b ob hb e=>?_)
 ·refine(hs.2 x hxs).trans (Heap.get?_update_self _ hx₁ ?_)
  rw[show({ cls:=o.cls,dict:=some s.heap.objs.size,data:=o.data,slots:=o.slots }:Obj).isFreed=false from Obj.isFreed_of_fields hf]
 ·exact(hs.2 b (Nat.ne_of_lt (Heap.lt_size e))).trans ((Heap.get?_update_ne _ _ _ _ hb).trans (Heap.get?_push_of_some _ e))
theorem exc_setattr{Q:Unit→Shared→Prop}(X:K.In s.heap)(T:ExcS K C f)(hx:s.heap.get? x=some o)(hc:o.cls=.ref C)(hd:o.dict=none)(hf:o.data=.fields vs)
  (q:∀h' tk',h'.get? x=some { o with dict:=some s.heap.objs.size }→h'.Ns1 s.heap.objs.size (fun y=>if y=f then some v else none)→(∀b ob,b≠x→s.heap.get? b=some ob→h'.get? b=some ob)→Q () { s with heap:=h',toks:=tk' }) :
  wpAny (model prog w) A (setAttr (.ref x) f v) Q E s:=by
 have I:InstAt s.heap x o C none:=⟨hx,hc,by unfold notCls;rw[hf],by rw[hd];trivial⟩
 exact set_plain X I T.sa (a9y (s:={ s with toks:=s.toks+1 }) X T hx hc hd hf q)
end
end PySem.W
namespace PySem.W
open PySem PySem.Spec PySem.Calls PyProof.Rows
section
variable {prog:Program}{w:World}{A:Around}{E:Value→Shared→Prop}{h:Heap}{g:Array GenState}{d:Drawn}{t:Nat}{os:OsState}{K:Frag}
variable {nm q:Str}{C N:Addr}{bs bm bmB:List Value}{hdct:Bool}{sn:List Str}{sub:List Value}{ab:Bool}{col:Option Bool}{dd:Option Addr}{k0 k1 k2 k3 k5:Option Value}{B newId initId:String}
abbrev a2K(C tu:Addr):Obj:={ cls:=.ref C,data:=.fields #[.ref tu,.none,.none,.none,.bool false,.none] }
theorem a2L(X:K.In h)(F:ExcBaseFacts B newId initId bmB)(T:OwnTail h bmB bm){j6:List Value}{fI:Addr}{Q:Fin→Shared→Prop}
  (hC:h.get? C=some (excClassObj nm q C N bs bm hdct sn sub ab col dd k0 k1 k2 k3 k5 newId)) (hi:findIn K (.ref C) "__init__" = some (some (.ref fI))) (hf:typeIn K (.ref fI)=some (.type "function"))
  (hq:∀h' e,Heap.MadeExcOf h h' e (.ref C) j6→h.objs.size≤e→wpAny (model prog w) A (call (.ref fI) (.ref e::j6)) (fun r s'=>r=.none∧Q (.done (.ret (.ref e))) s') E ⟨h',g,d,t,os⟩) (hrest:j6.length≤sizeLine) :
  wpAny (model prog w) A (Builtin.«type.__call__» ⟨.ref C::j6,[]⟩) Q E ⟨h,g,d,t,os⟩:=by
 repeat (first | with_reducible refine wpAny_loadPart_at hC ?_ | with_reducible refine wpAny_madeBy_exc hC ?_ | wp_step)
 refine codeAny_call_builtin_code (Code.quiet_builtin _ F.quiet) (wpAny_check_new_subT F T hC ?_)
 refine codeAny_exc_new_subT F T hC ?_ hrest
 show wpAny _ _ _ _ _ _
 have kp:∀b o,h.get? b=some o→((h.push { cls:=.type "tuple",data:=.seq j6.toArray }).push (a2K C h.objs.size)).get? b=some o:=fun b o e=>Heap.get?_push_of_some _ (Heap.get?_push_of_some _ e)
 have hC₁:=kp _ _ hC
 have X₁:=X.keeps kp
 have hget:((h.push { cls:=.type "tuple",data:=.seq j6.toArray }).push (a2K C h.objs.size)).get? (h.objs.size+1)=some (a2K C h.objs.size):=by heap_get
 have hcC:(Value.ref C::bm).contains (.ref C)=true:=by simp
 unfold isInstance
 repeat (first | with_reducible refine wpAny_loadPart_at hget ?_ | (with_reducible refine wpAny_isSubtype_exc hC₁ ?_;rw[hcC]) | wp_step)
 show wpAny _ _ (typeLookup (.ref C) _) _ _ _
 refine Looks.here (s:=⟨_,g,d,t,os⟩) (looks_findIn X₁ hi) ?_
 refine wpAny_holding (wpAny_bind (Looks.here (s:=⟨_,g,d,t,os⟩) (bind_fn X₁ _ hf) ?_))
 refine wpAny_bind (wpAny_mono (hq _ (h.objs.size+1) ⟨kp,Heap.get?_none_of_le (Nat.le_succ _),h.objs.size,hget,Heap.get?_none_of_le (Nat.le_refl _),?_⟩ (Nat.le_succ _)) (fun r s' hr=>?_) fun _ _ x=>x)
 ·exact Heap.get?_push_of_some _ (Heap.get?_push_at rfl rfl)
 ·obtain⟨rfl,hQ⟩:=hr
  wp_walk
  exact hQ
theorem call_excI(X:K.In h)(F:ExcBaseFacts B newId initId bmB)(T:OwnTail h bmB bm){j6:List Value}{fI:Addr}{Q:Value→Shared→Prop}
  (hC:h.get? C=some (excClassObj nm q C N bs bm hdct sn sub ab col dd k0 k1 k2 k3 k5 newId)) (hi:findIn K (.ref C) "__init__" = some (some (.ref fI))) (hf:typeIn K (.ref fI)=some (.type "function"))
  (hq:∀h' e,Heap.MadeExcOf h h' e (.ref C) j6→h.objs.size≤e→wpAny (model prog w) (A.under (.builtin "type.__call__" ⟨.ref C::j6,[]⟩)) (call (.ref fI) (.ref e::j6)) (fun r s'=>r=.none∧Q (.ref e) s') E ⟨h',g,d,t,os⟩) (hrest:j6.length≤sizeLine) :
  wpAny (model prog w) A (call (.ref C) j6) Q E ⟨h,g,d,t,os⟩:=by
 have f1:=tc_lookup
 have f2:=tc_bind (.ref C)
 have hT:(⟨h,g,d,t,os⟩:Shared).TypeIs (.ref C) "type" := ⟨_,hC,rfl⟩
 refine wpAny_call (codeAny_of_tree ?_)
 show wpAny _ _ (callAny (.ref C) _) _ _ _
 repeat (any_goals (first | assumption | with_reducible refine wpAny_loadPart_at hC ?_ | wp_step))
 refine⟨rfl,?_⟩
 exact codeAny_call_builtin_at (Code.quiet_builtin _ (by decide +kernel)) entry_typeCall (wpAny_check_type_call_sub hC (a2L X F T hC hi hf (fun h' e hm he=>hq h' e hm he) hrest))
theorem raise_madeI{M:Model}{env:Env}{s:Shared}{x:Sem Value}{Q:Flow→Shared→Prop}(hbase:bm.contains (.type "BaseException")=true)(hh:A.handled=none)
  (hx:wpAny M A x (fun v s₁=>∃e oe,v=.ref e∧s₁.heap.get? C=some (excClassObj nm q C N bs bm hdct sn sub ab col dd k0 k1 k2 k3 k5 newId)∧s₁.heap.get? e=some oe∧oe.cls=.ref C∧(∃tu,oe.data=.fields #[.ref tu,.none,.none,.none,.bool false,.none])∧E (.ref e) s₁) E s) :
  wpAny M A (raiseStmt env (some x) none) Q E s:=by
 have hcB:(Value.ref C::bm).contains (.type "BaseException")=true:=by rw[List.contains_cons,hbase,Bool.or_true]
 unfold raiseStmt
 refine wpAny_bind (wpAny_mono hx (fun v s₁ h₁=>?_) fun _ _ x=>x)
 obtain⟨e,oe,rfl,hC,he,hc,⟨tu,hdt⟩,hE⟩:=h₁
 obtain⟨oc,od,odt,osl⟩:=oe
 dsimp only at hc hdt
 subst hc hdt
 obtain⟨hp,g,d,tk,os⟩:=s₁
 repeat (first | with_reducible refine wpAny_loadPart_at he ?_ | with_reducible refine wpAny_loadPart_at hC ?_ | (with_reducible refine wpAny_isSubtype_exc hC ?_;rw[hcB]) | wp_step)
 exact wpAny_raiseNew_none hh hE
end
end PySem.W
namespace L2
open PySem PySem.Spec PyProof.Rows
def K8(a C:Addr)(od:Option Addr):HO:=.ext fun h=>∃o tu,h.get? a=some o∧o.cls=.ref C∧o.dict=od∧o.data=.fields #[.ref tu,.none,.none,.none,.bool false,.none]
section
variable {X:Cx}{pins:List (Addr×Obj)}{σ:St}{H:Hp}{s:Shared}{a C:Addr}{f:Str}
theorem a4_{P:Program}{w:World}{H:Hp}{h:Heap}{o:Obj}{tu:Addr}{od:Option Addr}(e:h.get? a=some o)(hc:o.cls=.ref C)(hd:o.dict=od)(hf:o.data=.fields #[.ref tu,.none,.none,.none,.bool false,.none]):ObjOk P w H h a (K8 a C od) :=
 ⟨⟨o,tu,e,hc,hd,hf⟩,⟨o,e⟩,fun h1 h2 ⟨o1,t1,z1,z2,z3,z4⟩ k=>⟨o1,t1,k o1 z1,z2,z3,z4⟩⟩
theorem a9z{y:V}{u:Value}{A:Around}{E:Value→Shared→Prop}{Q:Unit→Shared→Prop}(I:Inv X pins σ H s)(e:H a=some (K8 a C none))(T:W.ExcS X.K C f)(ry:RelV y u)
  (h:∀dx s',H dx=none→dx≠a→Inv X pins σ (upd (upd H a (K8 a C (some dx))) dx (.xd [(f,y)])) s'→Q () s'):wpAny (model X.prog X.w) A (setAttr (.ref a) f u) Q E s:=by
 obtain⟨⟨o,tu,hx,hc,hd,hf⟩,_⟩:=(show ObjOk X.prog X.w H s.heap a (K8 a C none)from I.hok a _ e)
 refine W.exc_setattr I.kIn T hx hc hd hf fun h' tk' g1 g2 g3=>?_
 have ns:s.heap.objs.size≠a:=fun z=>absurd (Heap.lt_size hx) (by rw[z];exact Nat.lt_irrefl _)
 refine h s.heap.objs.size _ (I.hok.fresh (Nat.le_refl _)) ns ?_
 have hfr:({ o with dict:=some s.heap.objs.size }:Obj).isFreed=false:=Obj.isFreed_of_fields hf
 have u1:=Heap.get?_update_self (h:=s.heap) (fun o=>{ o with dict:=some s.heap.objs.size }) hx hfr
 have far:∀b,b≠a→(s.heap.update a fun o=>{ o with dict:=some s.heap.objs.size }).get? b=s.heap.get? b:=fun b n=>Heap.get?_update_other _ _ (Ne.symm n)
 have I1:Inv X pins σ (upd H a (K8 a C (some s.heap.objs.size))) { s with heap:=s.heap.update a fun o=>{ o with dict:=some s.heap.objs.size } } :=
  I.write (x:=a) (e:=a) (t':=s.toks) (by rw[e];exact True.intro) (.inl rfl) (fun b q hb z=>(far b hb).trans z) ⟨_,u1⟩ (a4_ u1 hc rfl hf)
 refine I1.laid (a:=s.heap.objs.size) (t':=tk') (fun b q z=>?_) ?_ ⟨_,g2,fun g=>?_⟩
 ·by_cases hb:b=a
  ·subst hb;rw[u1]at z;cases z;exact g1
  ·rw[far b hb]at z;exact g3 b q hb z
 ·exact Nat.le_of_eq (by simp[Heap.update])
 ·show RelO ([(f,y)].lookup g) (if g=f then some u else none)
  by_cases z:g=f
  ·subst z
   rw[if_pos rfl,List.lookup_cons,beq_self_eq_true]
   exact ry
  ·rw[if_neg z,List.lookup_cons,beq_false_of_ne z]
   exact True.intro
def sXF(K:W.Frag)(ta tv:TE)(f:Str):TS:=fun D σ H=>tv σ H fun y H1=>ta σ H1 fun x H2=>∃a C,x=.ref a∧H2 a=some (K8 a C none)∧W.ExcS K C f∧∀dx,H2 dx=none→dx≠a→D.nx σ (upd (upd H2 a (K8 a C (some dx))) dx (.xd [(f,y)]))
theorem b2g{o value:Expr}{pos pos':Pos}{ta tv:TE}(ha:PE X o ta)(hv:PE X value tv)(hs:swapsWith value (some (.Attribute o f pos')) pos.line X.env=pure false):PS X (.Assign [.Attribute o f pos'] value pos) (sXF X.K ta tv f):=by
 intro pins s σ H D I h
 refine plainObj_wpAny_Assign_Attribute (l4 (hv pins s σ H _ I h) fun u s1 ⟨y,H1,I1,ry,q⟩=>l4 (ha pins s1 σ H1 _ I1 q) fun ov s2 ⟨x,H2,I2,rx,a,C,ex,ea,T,q2⟩=>?_) hs
 subst ex
 obtain rfl:ov=Value.ref a:=rx
 exact a9z I2 ea T ry fun dx s3 n1 n2 I3=>⟨σ,_,I3,q2 dx n1 n2⟩
def a0k(H:Hp)(a:Addr):Hp:=fun b=>if b=a then none else H b
theorem Inv.untrack{φ:Heap→Prop}(I:Inv X pins σ H s)(e:H a=some (.ext φ)):Inv X pins σ (a0k H a) s:=by
 have ne:∀{b:Addr} {o:HO},H b=some o→(∀ψ,o≠.ext ψ)→a0k H a b=some o:=fun{b o} q n=>by
  unfold a0k
  rw[if_neg (fun z=>by rw[z,e]at q;cases q;exact n φ rfl)]
  exact q
 have none':∀{b:Addr},H b=none→a0k H a b=none:=fun{b} q=>by unfold a0k;split<;>first | rfl | exact q
 refine⟨I.ok,I.os,I.bare,⟨I.base.keep,I.base.slot,fun b o e1 n hx=>none' (I.base.free b o e1 n hx),I.base.there,fun b xs q=>ne (I.base.tups b xs q) (fun _ z=>nomatch z),fun b o u q=>ne (I.base.frzs b o u q) (fun _ z=>nomatch z),fun b ps q=>?_⟩,I.loc,I.cell,none' I.free,fun y c q=>none' (I.freeC y c q),fun p hp=>?_,fun b u q=>?_,I.len⟩
 ·obtain⟨more,q1⟩:=I.base.tbls b ps q
  exact⟨more,ne q1 (fun _ z=>nomatch z)⟩
 ·obtain⟨h1,h2,h3,h4,h5⟩:=I.pin p hp
  exact⟨h1,none' h2,h3,h4,h5⟩
 ·have q1:H b=some u:=by
   unfold a0k at q
   split at q
   ·cases q
   ·exact q
  exact(I.hok b u q1).stay (fun _ _ _ z=>z) (fun c z=>ne z (fun _ z=>nomatch z)) (fun c xs z=>ne z (fun _ z=>nomatch z)) fun c ob u z=>ne z (fun _ z=>nomatch z)
end
def a2a(K:W.Frag)(C:Addr):Bool:=match K.lookup C with
 | some ⟨.type "type",_,.cls cd,sl⟩=>(match cd.mro,sl.toList with
  | .ref C'::bm,[_,_,_,_,some (.builtin n),_]=>C' == C && n == "ValueError.__new__" && !cd.hasDel && W.tailIn K vErr bm
  | _,_=>false)
 | _=>false
theorem a7G{K:W.Frag}{h₀:Heap}{C:Addr}(KX:K.In h₀)(q:a2a K C=true) :
  ∃bm N nm q bs hdct sn sub ab col dd k0 k1 k2 k3 k5,h₀.get? C=some (excClassObj nm q C N bs bm hdct sn sub ab col dd k0 k1 k2 k3 k5 "ValueError.__new__")∧OwnTail h₀ vErr bm:=by
 unfold a2a at q
 split at q
 ·rename_i dd cd sl ho
  split at q
  ·rename_i C' bm k0 k1 k2 k3 n k5 hm hs
   simp only[Bool.and_eq_true,beq_iff_eq,Bool.not_eq_true']at q
   obtain⟨⟨⟨rfl,rfl⟩,hdel⟩,ht⟩:=q
   obtain⟨nm,bs,mro,ns,qn,hd,sn,sub,ab,col,a0k⟩:=cd
   dsimp only at hm hdel
   subst hm hdel
   have hsl:sl = #[k0,k1,k2,k3,some (.builtin "ValueError.__new__"),k5]:=by
    obtain⟨l⟩:=sl
    simp only at hs
    rw[hs]
   subst hsl
   exact⟨bm,ns,nm,qn,bs,hd,sn,sub,ab,col,dd,k0,k1,k2,k3,k5,KX _ _ ho,W.tail_of_in KX ht⟩
  ·cases q
 ·cases q
def a2M(C:Addr)(f:Str):Sp:=fun vs H Q _=>∃a v,vs=[.ref a,v]∧H a=some (K8 a C none)∧∀dx,H dx=none→dx≠a→Q .non (upd (upd H a (K8 a C (some dx))) dx (.xd [(f,v)]))
structure MkX(K:W.Frag)(C fI:Addr):Prop where
 obj:a2a K C=true
 init:W.findIn K (.ref C) "__init__" = some (some (.ref fI))
 fn:W.typeIn K (.ref fI)=some (.type "function")
section
variable {X:Cx}{E:XK}{k:Nat}
def a2N(C:Addr)(f:Str)(E:XK)(ta:TA):TS:=fun _ σ H=>ta σ H fun vs H1=>∃v,vs=[v]∧∀dx,H1 dx=none→E (.ref C) (some (2*dx+1)) (upd H1 dx (.xd [(f,v)]))
theorem a6D{x f:Str}{C fI:Addr}{fd:FuncData}{ps:List Str}{e₀:Expr}{j6:List Expr}{np cpos pos:Pos}{ta:TA}(acc:XAcc X E)(M:MkX X.K C fI)(F:FnOk X.prog X.w X.K X.mg X.base (w9 X.prog X.w) k fI fd ps (a2M C f))(hr:Room (k+1) X.A)(hb:Binds X.K fd ps [])
  (hg:Gl X x) (hm:X.mg x=some (.ref C)) (ha:PA X (e₀::j6) ta)
  (hc:X.calm=true:=by rfl) (hex:X.ex=[]:=by rfl)
  (he:starEach (e₀::j6) X.env=(false,eval e₀ X.env)::starEach j6 X.env:=by rfl) (hplain:(backTo cpos (starEach j6 X.env)).any (·.1)=false:=by rfl) (hd:(x == ("__debug__" : Str))=false:=by decide) :
  PS X (.Raise (some (.Call (.Name x np) (e₀::j6) [] cpos)) none pos) (a2N C f E ta):=by
 intro pins s σ H D I h
 obtain⟨tl,N,nm,qn,bs,hdct,sn,sub,ab,col,dd,k0,k1,k2,k3,k5,hC,T⟩:=a7G I.mod.kin M.obj
 have hp:=ha cpos pins s σ H _ I h
 rw[he]at hp
 have pl:(backTo cpos (starEach (e₀::j6) X.env)).any (·.1)=false:=by rw[he];show(false || (backTo cpos (starEach j6 X.env)).any (·.1))=false;rw[hplain];rfl
 rw[arm_exec_Raise]
 simp only[evalOpt,Option.map]
 refine wpAny_bind (wpAny_standAt (W.raise_madeI (C:=C) (nm:=nm) (q:=qn) (N:=N) (bs:=bs) (bm:=tl) (hdct:=hdct) (sn:=sn) (sub:=sub) (ab:=ab) (col:=col) (dd:=dd) (k0:=k0) (k1:=k1) (k2:=k2) (k3:=k3) (k5:=k5) (newId := "ValueError.__new__") (T.hasType PySem.F.excBase_ValueError.hasBase) (I.ok.hd hc) ?_))
 refine wpAny_bind (wpAny_mono (wpAny_Call_ofName (wpAny_mono (T9 I hg hm (Q:=fun f s1=>f=.ref C∧s1=s) ⟨rfl,rfl⟩ hd) (fun f s1 h1=>?_) fun _ _ x=>x)) (fun v s3 h3=>wpAny_bind (wpAny_standAt (wpAny_pure h3))) fun _ _ x=>x)
 obtain⟨rfl,rfl⟩:=h1
 unfold callWith
 refine wpAny_bind (wpAny_holding (wpAny_mono (Q:=fun us s2=>∃v H2,us.kw=[]∧Inv X pins σ H2 s2∧Vals [v] us.pos∧∀dx,H2 dx=none→E (.ref C) (some (2*dx+1)) (upd H2 dx (.xd [(f,v)]))) ?_ (fun us s2 h2=>wpAny_bind (wpAny_standAt ?_)) fun _ _ x=>x))
 ·rw[he]
  exact Calls.evalArgs_plain (l4 hp fun us s2 ⟨vs,H2,I2,rv,v,ev,hE⟩=>⟨v,H2,rfl,I2,by rw[← ev];exact rv,hE⟩)
 obtain⟨upos,ukw⟩:=us
 obtain⟨v,H2,ekw,I2,rv,hE⟩:=h2
 obtain rfl:ukw=[]:=ekw
 have C2:=I2.bk _ _ hC
 have T2:=T.keeps I2.bk
 have hlen:upos.length≤sizeLine:=by rw[← rv.length,sizeLine_eq];show 1≤_;omega
 have K2:=I2.kIn
 obtain⟨hp2,g2,d2,tk2,os2⟩:=s2
 simp only[pl]
 refine wpAny_bind (wpAny_keeperOf_exc C2 ?_)
 refine wpAny_bind (W.call_excI (K:=X.K) K2 PySem.F.excBase_ValueError T2 C2 M.init M.fn (fun h' e m me=>?_) hlen)
 obtain⟨tu,ht,_,_⟩:=m.there
 have fe:H2 e=none:=I2.hok.fresh me
 have I3:Inv X pins σ (upd H2 e (K8 e C none)) ⟨h',g2,d2,tk2,os2⟩:=I2.laid (a:=e) (t':=tk2) m.keeps me (a4_ ht rfl rfl rfl)
 have sp3:a2M C f [.ref e,v] (upd H2 e (K8 e C none)) (fun r H'=>r=.non∧∃dx,H2 dx=none∧dx≠e∧H'=upd (upd (upd H2 e (K8 e C none)) e (K8 e C (some dx))) dx (.xd [(f,v)])) E :=
  ⟨e,v,rfl,i8,fun dx n1 n2=>⟨rfl,dx,by rw[b9 n2]at n1;exact n1,n2,rfl⟩⟩
 have r3:Vals [V.ref e,v] (Value.ref e::upos):=.cons rfl rv
 have hl:(Value.ref e::upos++[]).length=ps.length:=by
  have z:=r3.length
  rw[F.len _ _ _ _ sp3]at z
  rw[List.append_nil]
  exact z.symm
 have hb3:=hb ⟨h',g2,d2,tk2,os2⟩ (Value.ref e::upos) I3.kIn hl
 rw[List.append_nil]at hb3
 refine wpAny_call (codeAny_mono (F.run _ X.stack _ _ ⟨Value.ref e::upos,[]⟩ (Value.ref e::upos) _ _ E (hr.make C upos []) (I3.env0.make C upos []) hb3 r3 sp3) fun r s' hq'=>?_)
 cases r with
 | error e'=>exact acc.passes pins σ _ _ e' s' I3 hq'
 | ok fl =>
  cases fl with
  | next=>exact False.elim hq'
  | brk=>exact False.elim hq'
  | cont=>exact False.elim hq'
  | ret u =>
   obtain⟨v0,H',I4,rv0,ev,dx,n1,n2,eH⟩:=I3.after hq'
   subst ev
   refine⟨rv0,wpAny_bind (wpAny_holding (wpAny_point (wpAny_pure ?_)))⟩
   have He:H' e=some (K8 e C (some dx)):=by rw[eH,b9 (Ne.symm n2),i8]
   have I5:=I4.untrack He
   have eD:a0k H' e=upd H2 dx (.xd [(f,v)]):=by
    funext b
    unfold a0k
    by_cases z:b=e
    ·rw[if_pos z,z,b9 (Ne.symm n2)];exact fe.symm
    ·rw[if_neg z,eH]
     by_cases z2:b=dx
     ·rw[z2,i8,i8]
     ·rw[b9 z2,b9 z2,b9 z,b9 z]
   rw[eD]at I5
   obtain⟨⟨oe,tu',ge,gc,gd,gf⟩,_⟩:=(show ObjOk X.prog X.w H' s'.heap e (K8 e C (some dx))from I4.hok e _ He)
   refine⟨e,oe,rfl,I4.bk _ _ hC,ge,gc,⟨tu',gf⟩,?_⟩
   have odd:¬(2*dx+1)%2=0:=by
    show ¬(2*dx+1:Nat)%2=0
    rw[Nat.mul_add_mod];decide
   refine acc pins σ _ s' e (.ref C) (some (2*dx+1)) (W.hideAll s'.heap (e::C5 X.stack)) .new I5 ⟨by rw[b9 (Ne.symm n2)];exact fe,fun b o q=>W.of_hideAll _ q,W.hideAll_none _ List.mem_cons_self,W.funFrames_hide I5.stack fun env he b hb=>List.mem_cons_of_mem _ (List.mem_filterMap.mpr ⟨env,he,hb⟩),fun b o q i n=>?_,⟨oe,_,ge,gc,gf,rfl,?_,?_⟩⟩ (hE dx n1)
   ·refine W.hideAll_get _ q fun z=>?_
    rcases List.mem_cons.mp z with z | z
    ·subst z
     have gone:∀o',(⟨hp2,g2,d2,tk2,os2⟩:Shared).heap.get? b=some o'→False:=fun o' w=>absurd (Heap.lt_size w) (Nat.not_lt.mpr me)
     rcases i with i | ⟨hx,o',i⟩ | ⟨p,hp',w⟩
     ·exact i (by rw[b9 (Ne.symm n2)];exact fe)
     ·obtain⟨o2,w⟩:=I2.base.there b o' i hx
      exact gone _ w
     ·exact gone _ (by rw[← w];exact(I2.pin p hp').1)
    ·exact n z
   ·show some Value.none=some (if(2*dx+1)%2=0 then _ else Value.none)
    rw[if_neg odd]
   ·show oe.dict=(if(2*dx+1)%2=0 then none else some ((2*dx+1)/2))
    rw[if_neg odd,gd]
    congr 1
    show dx=(2*dx+1:Nat)/2
    rw[Nat.mul_add_div (by decide)]
    simp
end
end L2
namespace PySem.W
open PySem PySem.Spec PySem.Calls PyProof.Rows
section
variable {prog:Program}{w:World}{A:Around}{E:Value→Shared→Prop}{h:Heap}{g:Array GenState}{d:Drawn}{t:Nat}{os:OsState}{K:Frag}{x C:Addr}{o od:Obj}{f:Str}{v:Value}
theorem a4c{tk:Tok}{Q:Fin→Shared→Prop}(X:K.In h)(I:InstAt h x o C (some od))(hf:findObj K C (some od) f=some (.value v))(q:Q (.done (.ret v)) ⟨h,g,d,t,os⟩) :
  wpAny (model prog w) A (Builtin.«object.__getattribute__» ⟨[.ref x,.str f tk],[]⟩) Q E ⟨h,g,d,t,os⟩:=by
 have L0:=I.type (M:=model prog w)
 have L1:=looks_find (M:=model prog w) X I hf
 refine wpAny_bind (wpAny_pure (wpAny_bind (wpAny_pure (wpAny_bind (L0.at (wpAny_bind (L1.at ?_)))))))
 exact wpAny_pure q
theorem exc_at_by{tk:Tok}{b b2:Bool}{Q:Value→Shared→Prop}(X:K.In h)(T:ExcT K C)(I:InstAt h x o C (some od))(hf:findObj K C (some od) f=some (.value v))(hh:handedIn v=true)(hq:Q v ⟨h,g,d,t,os⟩):wpAny (model prog w) A (getAttrBy (.ref x) (.str f tk) b b2) Q E ⟨h,g,d,t,os⟩:=by
 have L0:=I.type (M:=model prog w)
 have L1:=looks_findIn (M:=model prog w) X T.ga
 have L2:=looks_findIn (M:=model prog w) X T.gt
 have f3:=F.attr_ValueError.ga.bind (.ref x)
 have hx2:(Value.builtin "BaseException.__getattribute__" == Value.builtin "object.__getattribute__")=false:=by decide +kernel
 have hx1:(onTheHeap (Value.ref C) && Value.builtin "BaseException.__getattribute__" == Value.builtin "object.__getattribute__")=false:=by rw[hx2];rfl
 have hd:=handedOut_of hh
 have hx3:¬(b2 && onTheHeap (Value.builtin "BaseException.__getattribute__"))=true:=by cases b2<;>exact Bool.false_ne_true
 repeat (any_goals (first | assumption | (with_reducible refine L0.at ?_) | (with_reducible refine wpAny_bind (L0.at ?_)) | (with_reducible refine L1.at ?_) | (with_reducible refine wpAny_bind (L1.at ?_)) | (with_reducible refine L2.at ?_) | (with_reducible refine wpAny_bind (L2.at ?_)) | wp_step))
 refine codeAny_call_builtin F.attr_ValueError.ga.plain F.entry_bexc_ga (a0S X T I.at_ I.cls (a4c X I hf ?_))
 show wpAny (model prog w) A (handedOut v) Q E _
 rw[hd]
 exact wpAny_pure hq
end
end PySem.W
namespace L2
open PySem PySem.Spec PyProof.Rows
def b1x(K:W.Frag)(ta:TE)(f:Str):TE:=fun σ H Q=>ta σ H fun x H1=>∃a C dx y,x=.ref a∧H1 a=some (F6 a (.ref C) (some (2*dx+1)))∧H1 dx=some (.xd [(f,y)])∧W.ExcT K C∧W.hasDictIn K C=true∧W.findIn K (.ref C) f=some none∧Q y H1
section
variable {X:Cx}{e:Expr}{f:Str}{pos:Pos}{ta:TE}
theorem a7H(dx:Nat):a0R (some (2*dx+1))=some dx:=by
 show(if(2*dx+1)%2=0 then none else some ((2*dx+1)/2))=some dx
 rw[if_neg (by rw[Nat.mul_add_mod];decide),Nat.mul_add_div (by decide)]
 simp
theorem b1y(he:PE X e ta)(hb:attributeBase e f X.env (eval e X.env)=eval e X.env):PE X (.Attribute e f pos) (b1x X.K ta f):=by
 intro pins s σ H Q I h
 refine a9m hb (l4 (he pins s σ H _ I h) fun u s1 ⟨x,H1,I1,rx,a,C,dx,y,ex,ea,ed,T,hh,hn,q⟩=>?_)
 subst ex
 obtain rfl:u=Value.ref a:=rx
 obtain⟨⟨o,vs,hx,hc,hdt,_,hdi⟩,_⟩:=(show ObjOk X.prog X.w H1 s1.heap a (F6 a (.ref C) (some (2*dx+1)))from I1.hok a _ ea)
 obtain⟨mA,hns,r⟩:=(show ObjOk X.prog X.w H1 s1.heap dx (.xd [(f,y)])from I1.hok dx _ ed)
 rw[a7H]at hdi
 obtain⟨u,hu,ru⟩:=RelO.some_of (v:=y) (o:=mA f) (by have:=r f;rw[List.lookup_cons,beq_self_eq_true]at this;exact this)
 obtain⟨od,god,hl⟩:=a29 hns
 have J:W.InstAt s1.heap a o C (some od):=⟨hx,hc,by unfold W.notCls;rw[hdt],by rw[hdi];exact god⟩
 have K1:=I1.kIn
 obtain⟨hp,g,d,t,os⟩:=s1
 unfold getAttr
 refine wpAny_bind (wpAny_mkText ?_)
 refine W.exc_at_by K1 T J (W.findObj_own hh hn rfl (by rw[hl,hu])) (a6y ru) ?_
 exact⟨y,H1,I1.tok _,ru,q⟩
end
open PySem.W
abbrev DK:=Sum (List x6) (List (List x6))
def dkO(ks:DK)(xs:List V):HO:=match ks with
 | .inl ks=>.dK (ks.zip xs)
 | .inr ks=>.dT (ks.zip xs)
def dkN:DK→Nat
 | .inl ks=>ks.length
 | .inr ks=>ks.length
theorem a5a{ks:DK}{xs ys:List V}:dkO ks xs≠.lst ys:=by cases ks<;>exact fun z=>nomatch z
inductive D where
 | non | bl (b:Bool) | int (i:Int) | str (x:Str) | ty (n:String) | cls (n:Str) | tup (ds:List D) | lst (ds:List D) | scr (ns:List Int) | exc (c:Str) | obj (c:Str) (ns:List Str) (ds:List D) | dic (ks:DK) (ds:List D) | exv (c f:Str) (d:D)
mutual
def Rp(K:W.Frag)(cl:Str→Addr)(F:Hp):D→V→Prop
 | .non,v=>v=.non
 | .bl b,v=>v=.bl b
 | .int i,v=>v=.int i
 | .str x,v=>v=.str x
 | .ty n,v=>v=.ty n
 | .cls n,v=>v=.ref (cl n)
 | .tup ds,v=>∃a xs,v=.ref a∧F a=some (.tup xs)∧Rps K cl F ds xs
 | .lst ds,v=>∃a xs,v=.ref a∧F a=some (.lst xs)∧Rps K cl F ds xs
 | .scr ns,v=>∃a,v=.ref a∧Scr K F a (ns.map V.int)
 | .exc c,v=>∃a cx,v=.ref a∧F a=some (F6 a (.ref (cl c)) cx)
 | .obj c ns ds,v=>∃a dx xs,v=.ref a∧F a=some (.ins (cl c) dx (ns.zip xs))∧ns.length=xs.length∧Rps K cl F ds xs
 | .dic ks ds,v=>∃a xs,v=.ref a∧F a=some (dkO ks xs)∧dkN ks=xs.length∧Rps K cl F ds xs
 | .exv c f d,v=>∃a dx y,v=.ref a∧F a=some (F6 a (.ref (cl c)) (some (2*dx+1)))∧F dx=some (.xd [(f,y)])∧Rp K cl F d y
def Rps(K:W.Frag)(cl:Str→Addr)(F:Hp):List D→List V→Prop
 | [],vs=>vs=[]
 | d::ds,vs=>∃v r,vs=v::r∧Rp K cl F d v∧Rps K cl F ds r
end
section
variable {K:W.Frag}{cl:Str→Addr}{F F' H H':Hp}
mutual
theorem Rp.mono(g:Same F F'):∀(d:D) (v:V),Rp K cl F d v→Rp K cl F' d v
 | .non,_,h=>by simpa only[Rp]using h
 | .bl _,_,h=>by simpa only[Rp]using h
 | .int _,_,h=>by simpa only[Rp]using h
 | .str _,_,h=>by simpa only[Rp]using h
 | .ty _,_,h=>by simpa only[Rp]using h
 | .cls _,_,h=>by simpa only[Rp]using h
 | .tup ds,v,h=>by
  simp only[Rp]at h ⊢
  obtain⟨a,xs,e,h1,h2⟩:=h
  exact⟨a,xs,e,g _ _ h1,Rps.mono g ds xs h2⟩
 | .lst ds,v,h=>by
  simp only[Rp]at h ⊢
  obtain⟨a,xs,e,h1,h2⟩:=h
  exact⟨a,xs,e,g _ _ h1,Rps.mono g ds xs h2⟩
 | .scr ns,v,h=>by
  simp only[Rp]at h ⊢
  obtain⟨a,e,h1⟩:=h
  exact⟨a,e,h1.same g⟩
 | .exc c,v,h=>by
  simp only[Rp]at h ⊢
  obtain⟨a,cx,e,h1⟩:=h
  exact⟨a,cx,e,g _ _ h1⟩
 | .obj c ns ds,v,h=>by
  simp only[Rp]at h ⊢
  obtain⟨a,dx,xs,e,h1,hl,h2⟩:=h
  exact⟨a,dx,xs,e,g _ _ h1,hl,Rps.mono g ds xs h2⟩
 | .dic ks ds,v,h=>by
  simp only[Rp]at h ⊢
  obtain⟨a,xs,e,h1,hl,h2⟩:=h
  exact⟨a,xs,e,g _ _ h1,hl,Rps.mono g ds xs h2⟩
 | .exv c f d,v,h=>by
  simp only[Rp]at h ⊢
  obtain⟨a,dx,y,e,h1,h2,h3⟩:=h
  exact⟨a,dx,y,e,g _ _ h1,g _ _ h2,Rp.mono g d y h3⟩
theorem Rps.mono(g:Same F F'):∀(ds:List D) (vs:List V),Rps K cl F ds vs→Rps K cl F' ds vs
 | [],_,h=>by simpa only[Rps]using h
 | d::ds,vs,h=>by
  simp only[Rps]at h ⊢
  obtain⟨v,r,e,h1,h2⟩:=h
  exact⟨v,r,e,Rp.mono g d v h1,Rps.mono g ds r h2⟩
end
theorem Rps.nil:Rps K cl F [] []:=by simp only[Rps]
theorem Rps.cons{d:D}{v:V}{ds:List D}{vs:List V}(h:Rp K cl F d v)(t:Rps K cl F ds vs):Rps K cl F (d::ds) (v::vs):=by simp only[Rps];exact⟨v,vs,rfl,h,t⟩
theorem Rps.inv{d:D}{ds:List D}{vs:List V}(h:Rps K cl F (d::ds) vs):∃v r,vs=v::r∧Rp K cl F d v∧Rps K cl F ds r:=by simpa only[Rps]using h
theorem Rps.inv0{vs:List V}(h:Rps K cl F [] vs):vs=[]:=by simpa only[Rps]using h
theorem Rps.length:∀{ds:List D} {vs:List V},Rps K cl F ds vs→ds.length=vs.length
 | [],vs,h=>by rw[h.inv0];rfl
 | d::ds,vs,h=>by obtain⟨v,r,rfl,_,t⟩:=h.inv;simp[t.length]
theorem Rps.get:∀{ds:List D} {vs:List V} {i:Nat} {d:D},Rps K cl F ds vs→ds[i]? = some d→∃v,vs[i]? = some v∧Rp K cl F d v
 | [],_,_,_,_,e=>by simp at e
 | d::ds,vs,0,x,h,e=>by
  obtain⟨v,r,rfl,h1,_⟩:=h.inv
  simp at e;subst e
  exact⟨v,rfl,h1⟩
 | d::ds,vs,i+1,x,h,e=>by
  obtain⟨v,r,rfl,_,t⟩:=h.inv
  obtain⟨u,h1,h2⟩:=t.get (i:=i) (d:=x) (by simpa using e)
  exact⟨u,by simpa using h1,h2⟩
theorem Rps.get'{ds:List D}{vs:List V}{i:Nat}{v:V}(h:Rps K cl F ds vs)(e:vs[i]? = some v):∃d,ds[i]? = some d∧Rp K cl F d v:=by
 have hi:i<ds.length:=by
  have:=(List.getElem?_eq_some_iff.mp e).1
  rw[h.length];exact this
 obtain⟨u,h1,h2⟩:=h.get (List.getElem?_eq_getElem hi)
 rw[e]at h1;cases h1
 exact⟨_,List.getElem?_eq_getElem hi,h2⟩
theorem Rps.append:∀{ds es:List D} {vs us:List V},Rps K cl F ds vs→Rps K cl F es us→Rps K cl F (ds++es) (vs++us)
 | [],_,_,_,h,t=>by rw[h.inv0];exact t
 | d::ds,_,_,_,h,t=>by obtain⟨v,r,rfl,h1,h2⟩:=h.inv;exact .cons h1 (h2.append t)
theorem Rps.one{d:D}{v:V}(h:Rp K cl F d v):Rps K cl F [d] [v]:=.cons h .nil
theorem Rps.set{d:D}{v:V}(r:Rp K cl F d v):∀{ds:List D} {vs:List V} (i:Nat),Rps K cl F ds vs→Rps K cl F (ds.set i d) (vs.set i v)
 | [],_,_,h=>by rw[h.inv0];exact .nil
 | _::_,_,0,h=>by obtain⟨_,_,rfl,_,h2⟩:=h.inv;exact .cons r h2
 | _::_,_,i+1,h=>by obtain⟨_,_,rfl,h1,h2⟩:=h.inv;exact .cons h1 (h2.set r i)
theorem Rps.drop:∀{ds:List D} {vs:List V} (n:Nat),Rps K cl F ds vs→Rps K cl F (ds.drop n) (vs.drop n)
 | _,_,0,h=>h
 | [],_,_+1,h=>by rw[h.inv0];exact .nil
 | _::_,_,n+1,h=>by obtain⟨_,_,rfl,_,h2⟩:=h.inv;exact h2.drop n
theorem Rps.take:∀{ds:List D} {vs:List V} (n:Nat),Rps K cl F ds vs→Rps K cl F (ds.take n) (vs.take n)
 | _,_,0,h=>.nil
 | [],_,_+1,h=>by rw[h.inv0];exact .nil
 | _::_,_,n+1,h=>by obtain⟨_,_,rfl,h1,h2⟩:=h.inv;exact .cons h1 (h2.take n)
theorem Rps.ints:∀{ns:List Int} {vs:List V},Rps K cl F (ns.map D.int) vs→vs=ns.map V.int
 | [],_,h=>h.inv0
 | n::ns,_,h=>by
  obtain⟨v,r,rfl,h1,h2⟩:=h.inv
  rw[h2.ints]
  simp only[Rp]at h1
  rw[h1];rfl
theorem Rps.ofInts:∀{ns:List Int},Rps K cl F (ns.map D.int) (ns.map V.int)
 | []=>.nil
 | _::_=>.cons (by simp only[Rp]) Rps.ofInts
theorem Rps.strs:∀{bs:List Str} {vs:List V},Rps K cl F (bs.map D.str) vs→vs=bs.map V.str
 | [],_,h=>h.inv0
 | n::ns,_,h=>by
  obtain⟨v,r,rfl,h1,h2⟩:=h.inv
  rw[h2.strs]
  simp only[Rp]at h1
  rw[h1];rfl
end
inductive Sl where | no | fz (d:D) | ow (ds:List D) | hd (ds:List D) | od (ks:DK) (ds:List D) | hk (ks:DK) (ds:List D)
abbrev DE:=List Sl
def Mu(env:DE)(i:Nat):Prop:=∃ds:List D,env[i]? = some (.ow ds)∨env[i]? = some (.hd ds)
def isO:Sl→Prop
 | .ow _=>True
 | .od _ _=>True
 | _=>False
def R8:Sl→DK→List D→Prop
 | .od ks ds,ks',ds'=>ks=ks'∧ds=ds'
 | .hk ks ds,ks',ds'=>ks=ks'∧ds=ds'
 | _,_,_=>False
def Ow(σ:St)(env:DE)(a:Addr):Prop:=∃(i:Nat) (s:Sl),isO s∧env[i]? = some s∧σ[i]? = some (some (V.ref a))
structure RelOd(K:W.Frag)(cl:Str→Addr)(σ:St)(H F:Hp)(env:DE):Prop where
 at_:∀(i:Nat) (s:Sl) (ks:DK) (ds:List D),env[i]? = some s→R8 s ks ds→∃a xs,σ[i]? = some (some (.ref a))∧H a=some (dkO ks xs)∧F a=none∧dkN ks=xs.length∧Rps K cl F ds xs
 inj:∀(i j:Nat) (s t:Sl) (ks ls:DK) (ds es:List D) (a:Addr),env[i]? = some s→R8 s ks ds→env[j]? = some t→R8 t ls es→σ[i]? = some (some (.ref a))→σ[j]? = some (some (.ref a))→i=j
structure Rel(K:W.Frag)(cl:Str→Addr)(σ:St)(H F:Hp)(env:DE):Prop where
 sub:Same F H
 len:σ.length=env.length
 fz:∀(i:Nat) (d:D),env[i]? = some (.fz d)→∃v,σ[i]? = some (some v)∧Rp K cl F d v
 mu:∀(i:Nat) (ds:List D),(env[i]? = some (.ow ds)∨env[i]? = some (.hd ds))→∃a xs,σ[i]? = some (some (.ref a))∧H a=some (.lst xs)∧F a=none∧Rps K cl F ds xs
 inj:∀(i j:Nat) (a:Addr),Mu env i→Mu env j→σ[i]? = some (some (.ref a))→σ[j]? = some (some (.ref a))→i=j
 od:RelOd K cl σ H F env
structure Frm(σ:St)(H F:Hp)(env:DE)(σ':St)(H' F':Hp)(env':DE):Prop where
 fz:Same F F'
 hid:∀a o,H a=some o→F a=none→¬Ow σ env a→H' a=some o∧F' a=none∧¬Ow σ' env' a
 keep:∀(i:Nat) (ds:List D),env[i]? = some (.hd ds)→env'[i]? = some (.hd ds)∧σ'[i]? = σ[i]?
 dom:∀a,H' a=none→H a=none
structure Gr(H F H' F':Hp):Prop where
 fz:Same F F'
 sub:Same F' H'
 hid:∀a o,H a=some o→F a=none→H' a=some o∧F' a=none
section
variable {K:W.Frag}{cl:Str→Addr}{σ σ' σ'':St}{H H' H'' F F' F'':Hp}{env env' env'':DE}
theorem RelOd.to(R:RelOd K cl σ H F env)(he:∀(i:Nat) (s:Sl) (ks:DK) (ds:List D),env'[i]? = some s→R8 s ks ds→∃t,env[i]? = some t∧R8 t ks ds∧σ'[i]? = σ[i]?)
  (hh:∀(i:Nat) (a:Addr) (ks:DK) (xs:List V),σ[i]? = some (some (.ref a))→H a=some (dkO ks xs)→F a=none→H' a=some (dkO ks xs)∧F' a=none) (sF:Same F F'):RelOd K cl σ' H' F' env' :=
 ⟨fun i s ks ds h d=>by
  obtain⟨t,h1,d1,e1⟩:=he i s ks ds h d
  obtain⟨a,xs,e,hH,hF,hn,r⟩:=R.at_ i t ks ds h1 d1
  obtain⟨h2,f2⟩:=hh i a ks xs e hH hF
  exact⟨a,xs,by rw[e1];exact e,h2,f2,hn,r.mono sF⟩,
  fun i j s t ks ls ds es a hi di hj dj ei ej=>by
  obtain⟨s1,h1,d1,e1⟩:=he i s ks ds hi di
  obtain⟨t1,h2,d2,e2⟩:=he j t ls es hj dj
  exact R.inj i j s1 t1 ks ls ds es a h1 d1 h2 d2 (by rw[← e1];exact ei) (by rw[← e2];exact ej)⟩
theorem RelOd.gr(R:RelOd K cl σ H F env)(g:Gr H F H' F'):RelOd K cl σ H' F' env:=R.to (fun i s ks ds h d=>⟨s,h,d,rfl⟩) (fun _ a ks xs _ h f=>g.hid a _ h f) g.fz
theorem RelOd.set{i:Nat}{s:Sl}{v:Option V}(R:RelOd K cl σ H F env)(n:∀ks ds,¬R8 s ks ds):RelOd K cl (σ.set i v) H F (env.set i s) :=
 R.to (fun j t ks ds h d=>by
  by_cases z:j=i
  ·subst z
   have hj:j<env.length:=by have:=(List.getElem?_eq_some_iff.mp h).1;rwa [List.length_set]at this
   rw[List.getElem?_set_self hj]at h;cases h;exact absurd d (n ks ds)
  ·rw[List.getElem?_set_ne (Ne.symm z)]at h
   exact⟨t,h,d,List.getElem?_set_ne (Ne.symm z)⟩) (fun _ a ks xs _ h f=>⟨h,f⟩) (Same.refl _)
theorem RelOd.setE{i:Nat}{s:Sl}(R:RelOd K cl σ H F env)(n:∀ks ds,¬R8 s ks ds):RelOd K cl σ H F (env.set i s) :=
 R.to (fun j t ks ds h d=>by
  by_cases z:j=i
  ·subst z
   have hj:j<env.length:=by have:=(List.getElem?_eq_some_iff.mp h).1;rwa [List.length_set]at this
   rw[List.getElem?_set_self hj]at h;cases h;exact absurd d (n ks ds)
  ·rw[List.getElem?_set_ne (Ne.symm z)]at h
   exact⟨t,h,d,rfl⟩) (fun _ a ks xs _ h f=>⟨h,f⟩) (Same.refl _)
theorem RelOd.lst(R:RelOd K cl σ H F env)(hh:∀(a:Addr) (o:HO),(∀xs,o≠.lst xs)→H a=some o→F a=none→H' a=some o∧F' a=none)(sF:Same F F'):RelOd K cl σ H' F' env :=
 R.to (fun i s ks ds h d=>⟨s,h,d,rfl⟩) (fun _ a ks xs _ h f=>hh a _ (fun _=>a5a) h f) sF
theorem RelOd.own(R:RelOd K cl σ H F env)(hh:∀(i:Nat) (s:Sl) (ks:DK) (ds:List D) (a:Addr) (xs:List V),env[i]? = some s→R8 s ks ds→σ[i]? = some (some (.ref a))→H a=some (dkO ks xs)→F a=none→H' a=some (dkO ks xs)∧F' a=none)(sF:Same F F'):RelOd K cl σ H' F' env :=
 ⟨fun i s ks ds h d=>by
  obtain⟨a,xs,e,hH,hF,hn,r⟩:=R.at_ i s ks ds h d
  obtain⟨h2,f2⟩:=hh i s ks ds a xs h d e hH hF
  exact⟨a,xs,e,h2,f2,hn,r.mono sF⟩,R.inj⟩
theorem RelOd.frzL{a:Addr}{xs:List V}{o:HO}(R:RelOd K cl σ H F env)(hH:H a=some (.lst xs))(hF:F a=none):RelOd K cl σ H (upd F a o) env :=
 R.lst (fun c u n h f=>⟨h,by rw[b9 (fun z=>by rw[z,hH]at h;exact n xs (Option.some.inj h).symm)];exact f⟩) (O5 hF _)
theorem RelOd.updL{a:Addr}{xs:List V}{o:HO}(R:RelOd K cl σ H F env)(hH:H a=some (.lst xs)):RelOd K cl σ (upd H a o) F env :=
 R.lst (fun c u n h f=>⟨by rw[b9 (fun z=>by rw[z,hH]at h;exact n xs (Option.some.inj h).symm)];exact h,f⟩) (Same.refl _)
theorem RelOd.newO{a:Addr}{o:HO}(R:RelOd K cl σ H F env)(hH:H a=none):RelOd K cl σ (upd H a o) F env :=
 R.lst (fun c u n h f=>⟨by rw[b9 (fun z=>by rw[z,hH]at h;cases h)];exact h,f⟩) (Same.refl _)
theorem RelOd.none(n:∀(i:Nat) (s:Sl) ks ds,env[i]? = some s→¬R8 s ks ds):RelOd K cl σ H F env:=⟨fun i s ks ds h d=>absurd d (n i s ks ds h),fun i j s t ks ls ds es a h d=>absurd d (n i s ks ds h)⟩
theorem a2b{d:D}:∀ks ds,¬R8 (.fz d) ks ds:=fun _ _ h=>h
theorem a0l{d:List D}:∀ks ds,¬R8 (.ow d) ks ds:=fun _ _ h=>h
theorem a2c{d:List D}:∀ks ds,¬R8 (.hd d) ks ds:=fun _ _ h=>h
theorem a5Z:∀ks ds,¬R8 .no ks ds:=fun _ _ h=>h
theorem Frm.refl:Frm σ H F env σ H F env:=⟨Same.refl _,fun _ _ h f o=>⟨h,f,o⟩,fun _ _ h=>⟨h,rfl⟩,fun _ h=>h⟩
theorem Frm.trans(a:Frm σ H F env σ' H' F' env')(b:Frm σ' H' F' env' σ'' H'' F'' env''):Frm σ H F env σ'' H'' F'' env'' :=
 ⟨a.fz.trans b.fz,fun x o h f w=>by obtain⟨h1,f1,w1⟩:=a.hid x o h f w;exact b.hid x o h1 f1 w1,
  fun i ds h=>by obtain⟨h1,e1⟩:=a.keep i ds h;obtain⟨h2,e2⟩:=b.keep i ds h1;exact⟨h2,e2.trans e1⟩,fun x h=>a.dom x (b.dom x h)⟩
theorem Gr.dom(g:Gr H F H' F')(a:Addr)(h:H' a=none):H a=none:=by
 cases e:H a with
 | none=>rfl
 | some o =>
  cases f:F a with
  | none=>rw[(g.hid a o e f).1]at h;cases h
  | some u=>rw[g.sub _ _ (g.fz _ _ f)]at h;cases h
theorem Rel.gr(R:Rel K cl σ H F env)(g:Gr H F H' F'):Rel K cl σ H' F' env :=
 ⟨g.sub,R.len,fun i d h=>by obtain⟨v,e,r⟩:=R.fz i d h;exact⟨v,e,r.mono g.fz⟩,
  fun i ds h=>by obtain⟨a,xs,e,hH,hF,r⟩:=R.mu i ds h;obtain⟨h1,f1⟩:=g.hid a _ hH hF;exact⟨a,xs,e,h1,f1,r.mono g.fz⟩,R.inj,R.od.gr g⟩
theorem Rel.frm(R:Rel K cl σ H F env)(g:Gr H F H' F'):Frm σ H F env σ H' F' env :=
 ⟨g.fz,fun a o h f w=>by obtain⟨h1,f1⟩:=g.hid a o h f;exact⟨h1,f1,w⟩,fun _ _ h=>⟨h,rfl⟩,g.dom⟩
theorem Gr.refl(s:Same F H):Gr H F H F:=⟨Same.refl _,s,fun _ _ h f=>⟨h,f⟩⟩
theorem Gr.trans(a:Gr H F H' F')(b:Gr H' F' H'' F''):Gr H F H'' F'':=⟨a.fz.trans b.fz,b.sub,fun x o h f=>by obtain⟨h1,f1⟩:=a.hid x o h f;exact b.hid x o h1 f1⟩
theorem Gr.new{p:Addr}{o:HO}(s:Same F H)(hp:H p=none):Gr H F (upd H p o) (upd F p o):=by
 have fp:F p=none:=s.free hp
 refine⟨O5 fp o,fun b u e=>?_,fun a u e f=>?_⟩
 ·by_cases z:b=p
  ·subst z;rw[i8]at e ⊢;exact e
  ·rw[b9 z]at e ⊢;exact s _ _ e
 ·have z:a≠p:=fun z=>by rw[z,hp]at e;cases e
  rw[b9 z,b9 z];exact⟨e,f⟩
theorem Rel.freeze{i:Nat}{ds:List D}(R:Rel K cl σ H F env)(h:env[i]? = some (.ow ds)):∃a F',σ[i]? = some (some (.ref a))∧Frm σ H F env σ H F' (env.set i (.fz (.lst ds)))∧Rel K cl σ H F' (env.set i (.fz (.lst ds)))∧Rp K cl F' (.lst ds) (.ref a):=by
 obtain⟨a,xs,e,hH,hF,r⟩:=R.mu i ds (.inl h)
 have hi:i<env.length:=(List.getElem?_eq_some_iff.mp h).1
 have sF:Same F (upd F a (.lst xs)):=O5 hF _
 have oth:∀j,j≠i→(env.set i (.fz (.lst ds)))[j]? = env[j]?:=fun j hj=>List.getElem?_set_ne (Ne.symm hj)
 have self:(env.set i (.fz (.lst ds)))[i]? = some (.fz (.lst ds)):=List.getElem?_set_self hi
 have mui:∀j,Mu (env.set i (.fz (.lst ds))) j→j≠i∧Mu env j:=fun j ⟨es,q⟩=>by
  by_cases z:j=i
  ·subst z;rw[self]at q;rcases q with q | q<;>cases q
  ·rw[oth j z]at q;exact⟨z,es,q⟩
 have rl:Rp K cl (upd F a (.lst xs)) (.lst ds) (.ref a):=by simp only[Rp];exact⟨a,xs,rfl,i8,r.mono sF⟩
 refine⟨a,upd F a (.lst xs),e,⟨sF,fun b o hb fb w=>?_,fun j es q=>?_,fun _ h=>h⟩,⟨fun b o q=>?_,by rw[List.length_set];exact R.len,fun j d q=>?_,fun j es q=>?_,fun j k b hj hk e1 e2=>R.inj j k b (mui j hj).2 (mui k hk).2 e1 e2,(R.od.lst (fun c u n h f=>⟨h,by rw[b9 (fun z=>by rw[z,hH]at h;exact n xs (Option.some.inj h).symm)];exact f⟩) sF).setE a2b⟩,rl⟩
 ·have z:b≠a:=fun z=>w ⟨i,.ow ds,True.intro,h,by rw[z];exact e⟩
  refine⟨hb,by rw[b9 z];exact fb,fun⟨j,es,oo,q,e1⟩=>?_⟩
  by_cases y:j=i
  ·subst y;rw[self]at q;cases q;exact oo
  ·rw[oth j y]at q;exact w ⟨j,es,oo,q,e1⟩
 ·have z:j≠i:=fun z=>by subst z;rw[h]at q;cases q
  exact⟨by rw[oth j z];exact q,rfl⟩
 ·by_cases z:b=a
  ·subst z;rw[i8]at q;cases q;exact hH
  ·rw[b9 z]at q;exact R.sub _ _ q
 ·by_cases z:j=i
  ·subst z;rw[self]at q;cases q;exact⟨_,e,rl⟩
  ·rw[oth j z]at q;obtain⟨v,e1,r1⟩:=R.fz j d q;exact⟨v,e1,r1.mono sF⟩
 ·have z:j≠i:=(mui j ⟨es,q⟩).1
  rw[oth j z]at q
  obtain⟨b,ys,e1,h1,f1,r1⟩:=R.mu j es q
  have nb:b≠a:=fun y=>z (R.inj j i b ⟨es,q⟩ ⟨ds,.inl h⟩ e1 (by rw[y];exact e))
  exact⟨b,ys,e1,h1,by rw[b9 nb];exact f1,r1.mono sF⟩
theorem Rel.put{i:Nat}{d:D}{v:V}(R:Rel K cl σ H F env)(hi:i<env.length)(nh:∀ds,env[i]?≠some (.hd ds))(r:Rp K cl F d v):Rel K cl (σ.set i (some v)) H F (env.set i (.fz d)):=by
 refine⟨R.sub,by rw[List.length_set,List.length_set];exact R.len,fun j e q=>?_,fun j es q=>?_,fun j k b hj hk e1 e2=>?_,R.od.set a2b⟩
 ·by_cases z:j=i
  ·subst z
   rw[List.getElem?_set_self hi]at q;cases q
   exact⟨v,List.getElem?_set_self (by rw[R.len];exact hi),r⟩
  ·rw[List.getElem?_set_ne (Ne.symm z)]at q
   obtain⟨u,e1,r1⟩:=R.fz j e q
   exact⟨u,by rw[List.getElem?_set_ne (Ne.symm z)];exact e1,r1⟩
 ·have z:j≠i:=fun z=>by
   subst z
   rw[List.getElem?_set_self hi]at q
   rcases q with q | q<;>cases q
  rw[List.getElem?_set_ne (Ne.symm z)]at q
  obtain⟨a,xs,e1,h1,f1,r1⟩:=R.mu j es q
  exact⟨a,xs,by rw[List.getElem?_set_ne (Ne.symm z)];exact e1,h1,f1,r1⟩
 ·have nz:∀j,Mu (env.set i (.fz d)) j→j≠i∧Mu env j:=fun j ⟨es,q⟩=>by
   by_cases z:j=i
   ·subst z
    rw[List.getElem?_set_self hi]at q
    rcases q with q | q<;>cases q
   ·rw[List.getElem?_set_ne (Ne.symm z)]at q;exact⟨z,es,q⟩
  obtain⟨zj,mj⟩:=nz j hj
  obtain⟨zk,mk⟩:=nz k hk
  rw[List.getElem?_set_ne (Ne.symm zj)]at e1
  rw[List.getElem?_set_ne (Ne.symm zk)]at e2
  exact R.inj j k b mj mk e1 e2
theorem Rel.putO{i:Nat}{ds:List D}{a:Addr}{xs:List V}(R:Rel K cl σ H F env)(hi:i<env.length)(hH:H a=some (.lst xs))(hF:F a=none)(na:∀j,Mu env j→σ[j]?≠some (some (.ref a)))(r:Rps K cl F ds xs):Rel K cl (σ.set i (some (.ref a))) H F (env.set i (.ow ds)):=by
 have his:i<σ.length:=by rw[R.len];exact hi
 have nz:∀j,j≠i→Mu (env.set i (.ow ds)) j→Mu env j:=fun j z ⟨es,q⟩=>by
  rw[List.getElem?_set_ne (Ne.symm z)]at q;exact⟨es,q⟩
 refine⟨R.sub,by rw[List.length_set,List.length_set];exact R.len,fun j e q=>?_,fun j es q=>?_,fun j k b hj hk e1 e2=>?_,R.od.set a0l⟩
 ·have z:j≠i:=fun z=>by subst z;rw[List.getElem?_set_self hi]at q;cases q
  rw[List.getElem?_set_ne (Ne.symm z)]at q
  obtain⟨u,e1,r1⟩:=R.fz j e q
  exact⟨u,by rw[List.getElem?_set_ne (Ne.symm z)];exact e1,r1⟩
 ·by_cases z:j=i
  ·subst z
   rw[List.getElem?_set_self hi]at q
   rcases q with q | q
   ·cases q;exact⟨a,xs,List.getElem?_set_self his,hH,hF,r⟩
   ·cases q
  ·rw[List.getElem?_set_ne (Ne.symm z)]at q
   obtain⟨b,ys,e1,h1,f1,r1⟩:=R.mu j es q
   exact⟨b,ys,by rw[List.getElem?_set_ne (Ne.symm z)];exact e1,h1,f1,r1⟩
 ·by_cases zj:j=i
  ·by_cases zk:k=i
   ·rw[zj,zk]
   ·subst zj
    rw[List.getElem?_set_self his]at e1
    rw[List.getElem?_set_ne (Ne.symm zk)]at e2
    cases e1
    exact absurd e2 (na k (nz k zk hk))
  ·rw[List.getElem?_set_ne (Ne.symm zj)]at e1
   by_cases zk:k=i
   ·subst zk
    rw[List.getElem?_set_self his]at e2
    cases e2
    exact absurd e1 (na j (nz j zj hj))
   ·rw[List.getElem?_set_ne (Ne.symm zk)]at e2
    exact R.inj j k b (nz j zj hj) (nz k zk hk) e1 e2
theorem Frm.put{i:Nat}{d:D}{x:Option V}(nh:∀ds,env[i]?≠some (.hd ds)):Frm σ H F env (σ.set i x) H F (env.set i (.fz d)):=by
 refine⟨Same.refl _,fun a o h f w=>⟨h,f,fun⟨j,ds,oo,q,e⟩=>?_⟩,fun j ds q=>?_,fun _ h=>h⟩
 ·by_cases z:j=i
  ·subst z
   have hj:j<env.length:=by have:=(List.getElem?_eq_some_iff.mp q).1;rwa [List.length_set]at this
   rw[List.getElem?_set_self hj]at q
   cases q;exact oo
  ·rw[List.getElem?_set_ne (Ne.symm z)]at q e
   exact w ⟨j,ds,oo,q,e⟩
 ·have z:j≠i:=fun z=>by subst z;exact nh ds q
  rw[List.getElem?_set_ne (Ne.symm z),List.getElem?_set_ne (Ne.symm z)]
  exact⟨q,rfl⟩
theorem Frm.putO{i:Nat}{s0:Sl}{a:Addr}(f:Frm σ H F env σ' H' F' env')(ha:H a=none)(nh:∀ds,env'[i]?≠some (.hd ds)):Frm σ H F env (σ'.set i (some (.ref a))) H' F' (env'.set i s0):=by
 refine⟨f.fz,fun b o h g w=>?_,fun j ds q=>?_,f.dom⟩
 ·obtain⟨h1,f1,w1⟩:=f.hid b o h g w
  refine⟨h1,f1,fun⟨j,ds,oo,q,e⟩=>?_⟩
  by_cases z:j=i
  ·subst z
   have hj:j<σ'.length:=by have:=(List.getElem?_eq_some_iff.mp e).1;rwa [List.length_set]at this
   rw[List.getElem?_set_self hj]at e
   cases e
   rw[ha]at h;cases h
  ·rw[List.getElem?_set_ne (Ne.symm z)]at q e
   exact w1 ⟨j,ds,oo,q,e⟩
 ·obtain⟨q1,e1⟩:=f.keep j ds q
  have z:j≠i:=fun z=>by subst z;exact nh ds q1
  rw[List.getElem?_set_ne (Ne.symm z),List.getElem?_set_ne (Ne.symm z)]
  exact⟨q1,e1⟩
end
inductive XN where | p (c:Str) | v (c f:Str) (d:D)
instance:Coe Str XN:=⟨.p⟩
def XN.nm:XN→Str
 | .p c=>c
 | .v c _ _=>c
def XN.d:XN→D
 | .p c=>.exc c
 | .v c f d=>.exv c f d
def Xf(K:W.Frag)(cl:Str→Addr)(F:Hp):XN→Option Addr→Prop
 | .p _,cx=>cx=none
 | .v _ f d,cx=>∃dx y,cx=some (2*dx+1)∧F dx=some (.xd [(f,y)])∧Rp K cl F d y
inductive R(α:Type) where | ok (a:α) (e:DE) | ex (c:XN)
inductive RS where | nx (e:DE) | rt (d:D) | ro (ds:List D) | rz (dss:List (List D)) | rp (n:Int) (ds:List D) | bk (e:DE) | ct (e:DE) | ex (c:XN)
def bnd{α β:Type}(x:Option (R α))(k:α→DE→Option (R β)):Option (R β):=match x with
 | none=>none
 | some (.ok a e)=>k a e
 | some (.ex c)=>some (.ex c)
def F5{α:Type}(x:Option (R α))(k:α→DE→Option RS):Option RS:=match x with
 | none=>none
 | some (.ok a e)=>k a e
 | some (.ex c)=>some (.ex c)
def Y9{α:Type}(x:Option α)(e:DE):Option (R α):=match x with
 | none=>none
 | some a=>some (.ok a e)
@[simp] theorem a4d{α β:Type}(a:α)(e:DE)(k:α→DE→Option (R β)):bnd (some (.ok a e)) k=k a e:=rfl
@[simp] theorem b1z{α β:Type}(c:XN)(k:α→DE→Option (R β)):bnd (some (.ex c)) k=some (.ex c):=rfl
@[simp] theorem b1A{α β:Type}(k:α→DE→Option (R β)):bnd (none:Option (R α)) k=none:=rfl
@[simp] theorem a4e{α:Type}(a:α)(e:DE)(k:α→DE→Option RS):F5 (some (.ok a e)) k=k a e:=rfl
@[simp] theorem b1B{α:Type}(c:XN)(k:α→DE→Option RS):F5 (some (.ex c)) k=some (.ex c):=rfl
@[simp] theorem b1C{α:Type}(k:α→DE→Option RS):F5 (none:Option (R α)) k=none:=rfl
@[simp] theorem a0m{α:Type}(a:α)(e:DE):Y9 (some a) e=some (.ok a e):=rfl
@[simp] theorem a0n{α:Type}(e:DE):Y9 (none:Option α) e=none:=rfl
structure FX(σ:St)(H F:Hp)(env:DE)(H' F':Hp):Prop where
 fz:Same F F'
 sub:Same F' H'
 hid:∀a o,H a=some o→F a=none→¬Ow σ env a→H' a=some o∧F' a=none
 dom:∀a,H' a=none→H a=none
section
variable {K:W.Frag}{cl:Str→Addr}{E:XK}{σ σ':St}{H H' H1 F F' F1:Hp}{env env' env1:DE}{α β γ δ:Type}
theorem Frm.fx{H2 F2:Hp}(a:Frm σ H F env σ' H1 F1 env1)(b:FX σ' H1 F1 env1 H2 F2):FX σ H F env H2 F2 :=
 ⟨a.fz.trans b.fz,b.sub,fun x o h f w=>by obtain⟨h1,f1,w1⟩:=a.hid x o h f w;exact b.hid x o h1 f1 w1,fun x h=>a.dom x (b.dom x h)⟩
theorem Frm.toFX(a:Frm σ H F env σ' H1 F1 env1)(s:Same F1 H1):FX σ H F env H1 F1:=⟨a.fz,s,fun x o h f w=>by obtain⟨h1,f1,_⟩:=a.hid x o h f w;exact⟨h1,f1⟩,a.dom⟩
abbrev Py(α β:Type):=α→St→Hp→Hp→Hp→DE→β→Prop
def PM(P:Py α β):Prop:=∀a σ H0 H1 H' F' e b,(∀x:Addr,H1 x=none→H0 x=none)→P a σ H1 H' F' e b→P a σ H0 H' F' e b
def Ct(K:W.Frag)(cl:Str→Addr)(E:XK)(P:Py α β)(r:Option (R α))(σ:St)(H F:Hp)(env:DE)(Q:β→Hp→Prop):Prop:=match r with
 | none=>False
 | some (.ok a e)=>∀b H' F',Frm σ H F env σ H' F' e→Rel K cl σ H' F' e→P a σ H H' F' e b→Q b H'
 | some (.ex c)=>∀H' F',FX σ H F env H' F'→∀cx,Xf K cl F' c cx→E (.ref (cl c.nm)) cx H'
def Rz(K:W.Frag)(cl:Str→Addr)(F' H':Hp)(nw:Addr→Prop)(dss:List (List D))(as:List Addr):Prop:=as.Nodup∧as.length=dss.length∧∀(k:Nat) (a:Addr) (ds:List D),as[k]? = some a→dss[k]? = some ds→∃xs,H' a=some (.lst xs)∧F' a=none∧nw a∧Rps K cl F' ds xs
theorem Rz.imp{nw nw':Addr→Prop}{dss:List (List D)}{as:List Addr}(h:Rz K cl F' H' nw dss as)(i:∀a xs,H' a=some (.lst xs)→F' a=none→nw a→nw' a):Rz K cl F' H' nw' dss as :=
 ⟨h.1,h.2.1,fun k a ds e1 e2=>by obtain⟨xs,h1,h2,h3,h4⟩:=h.2.2 k a ds e1 e2;exact⟨xs,h1,h2,i a xs h1 h2 h3,h4⟩⟩
def Cs(K:W.Frag)(cl:Str→Addr)(E:XK)(r:Option RS)(σ:St)(H F:Hp)(env:DE)(N:Ends):Prop:=match r with
 | none=>False
 | some (.nx e)=>∀σ' H' F',Frm σ H F env σ' H' F' e→Rel K cl σ' H' F' e→N.nx σ' H'
 | some (.bk e)=>∀σ' H' F',Frm σ H F env σ' H' F' e→Rel K cl σ' H' F' e→N.bk σ' H'
 | some (.ct e)=>∀σ' H' F',Frm σ H F env σ' H' F' e→Rel K cl σ' H' F' e→N.ct σ' H'
 | some (.rt d)=>∀v H' F',FX σ H F env H' F'→Rp K cl F' d v→N.rt v H'
 | some (.ro ds)=>∀a xs H' F',FX σ H F env H' F'→H' a=some (.lst xs)→F' a=none→(∀o,H a=some o→Ow σ env a)→Rps K cl F' ds xs→N.rt (.ref a) H'
 | some (.rz dss)=>∀p as H' F',FX σ H F env H' F'→H p=none→H' p=some (.tup (as.map V.ref))→F' p=none→Rz K cl F' H' (fun a=>∀o,H a=some o→Ow σ env a) dss as→N.rt (.ref p) H'
 | some (.rp n ds)=>∀p a xs H' F',FX σ H F env H' F'→H p=none→H' p=some (.tup [.int n,.ref a])→F' p=none→H' a=some (.lst xs)→F' a=none→(∀o,H a=some o→Ow σ env a)→Rps K cl F' ds xs→N.rt (.ref p) H'
 | some (.ex c)=>∀H' F',FX σ H F env H' F'→∀cx,Xf K cl F' c cx→E (.ref (cl c.nm)) cx H'
theorem Ct.mono{P:Py α β}{r:Option (R α)}{Q Q':β→Hp→Prop}(h:Ct K cl E P r σ H F env Q)(q:∀b H',Q b H'→Q' b H'):Ct K cl E P r σ H F env Q':=by
 unfold Ct at h ⊢
 split at h
 ·exact h
 ·exact fun b H' F' f R p=>q _ _ (h b H' F' f R p)
 ·exact h
theorem Ct.from{P2:Py γ δ}{r:Option (R γ)}{Q:δ→Hp→Prop}(f:Frm σ H F env σ H1 F1 env1)(pm:PM P2)(h:Ct K cl E P2 r σ H F env Q):Ct K cl E P2 r σ H1 F1 env1 Q:=by
 unfold Ct at h ⊢
 split at h
 ·exact h
 ·exact fun b H' F' f2 R2 p2=>h b H' F' (f.trans f2) R2 (pm _ _ _ _ _ _ _ _ f.dom p2)
 ·exact fun H' F' x=>h H' F' (f.fx x)
theorem Ct.bnd{P1:Py α β}{P2:Py γ δ}{r:Option (R α)}{k:α→DE→Option (R γ)}{Q:δ→Hp→Prop}(h:Ct K cl E P2 (bnd r k) σ H F env Q)(pm:PM P2) :
  Ct K cl E P1 r σ H F env fun b H1=>∃F1 env1 a,Same F F1∧Rel K cl σ H1 F1 env1∧P1 a σ H H1 F1 env1 b∧Ct K cl E P2 (k a env1) σ H1 F1 env1 Q:=by
 unfold Ct
 rcases r with _ | ⟨a,e⟩ | c
 ·exact h
 ·intro b H1 F1 f R p
  refine⟨F1,e,a,f.fz,R,p,?_⟩
  have h:Ct K cl E P2 (k a e) σ H F env Q:=h
  exact Ct.from f pm h
 ·exact h
theorem Cs.from{r:Option RS}{N:Ends}(f:Frm σ H F env σ' H1 F1 env1)(h:Cs K cl E r σ H F env N):Cs K cl E r σ' H1 F1 env1 N:=by
 unfold Cs at h ⊢
 split at h
 ·exact h
 ·exact fun σ' H' F' f2 R2=>h σ' H' F' (f.trans f2) R2
 ·exact fun σ' H' F' f2 R2=>h σ' H' F' (f.trans f2) R2
 ·exact fun σ' H' F' f2 R2=>h σ' H' F' (f.trans f2) R2
 ·exact fun v H' F' x p=>h v H' F' (f.fx x) p
 ·refine fun a xs H' F' x ha fa nw p=>h a xs H' F' (f.fx x) ha fa (fun o e=>?_) p
  refine Classical.byContradiction fun w=>?_
  cases q:F a with
  | none =>
   obtain⟨h1,f1,w1⟩:=f.hid a o e q w
   exact w1 (nw o h1)
  | some u=>rw[x.fz _ _ (f.fz _ _ q)]at fa;cases fa
 ·refine fun p as H' F' x hp ht fp rz=>h p as H' F' (f.fx x) (f.dom p hp) ht fp (rz.imp fun a xs ha fa nw o e=>?_)
  refine Classical.byContradiction fun w=>?_
  cases q:F a with
  | none =>
   obtain⟨h1,f1,w1⟩:=f.hid a o e q w
   exact w1 (nw o h1)
  | some u=>rw[x.fz _ _ (f.fz _ _ q)]at fa;cases fa
 ·refine fun p a xs H' F' x hp ht fp ha fa nw r=>h p a xs H' F' (f.fx x) (f.dom p hp) ht fp ha fa (fun o e=>?_) r
  refine Classical.byContradiction fun w=>?_
  cases q:F a with
  | none =>
   obtain⟨h1,f1,w1⟩:=f.hid a o e q w
   exact w1 (nw o h1)
  | some u=>rw[x.fz _ _ (f.fz _ _ q)]at fa;cases fa
 ·exact fun H' F' x=>h H' F' (f.fx x)
theorem Cs.bnd{P1:Py α β}{r:Option (R α)}{k:α→DE→Option RS}{N:Ends}(h:Cs K cl E (F5 r k) σ H F env N) :
  Ct K cl E P1 r σ H F env fun b H1=>∃F1 env1 a,Frm σ H F env σ H1 F1 env1∧Rel K cl σ H1 F1 env1∧P1 a σ H H1 F1 env1 b∧Cs K cl E (k a env1) σ H F env N:=by
 unfold Ct
 rcases r with _ | ⟨a,e⟩ | c
 ·exact h
 ·intro b H1 F1 f R p
  exact⟨F1,e,a,f,R,p,h⟩
 ·exact h
end
def PZ(K:W.Frag)(cl:Str→Addr):Py D V:=fun d _ _ _ F' _ v=>Rp K cl F' d v
def PAs(K:W.Frag)(cl:Str→Addr):Py (List D) (List V):=fun ds _ _ _ F' _ vs=>Rps K cl F' ds vs
def PB:Py Bool Bool:=fun b _ _ _ _ _ c=>c=b
def PI':Py (Option Int) (Option Int):=fun b _ _ _ _ _ c=>c=b
def PN(K:W.Frag)(cl:Str→Addr):Py (List D) V:=fun ds σ H H' F' e v=>∃a xs,v=.ref a∧H a=none∧H' a=some (.lst xs)∧F' a=none∧(∀j,Mu e j→σ[j]?≠some (some (.ref a)))∧Rps K cl F' ds xs
theorem O6{K cl}:PM (PZ K cl):=fun _ _ _ _ _ _ _ _ _ h=>h
theorem b1D{K cl}:PM (PAs K cl):=fun _ _ _ _ _ _ _ _ _ h=>h
theorem a50:PM PB:=fun _ _ _ _ _ _ _ _ _ h=>h
theorem b2M:PM PI':=fun _ _ _ _ _ _ _ _ _ h=>h
theorem a1J{K cl}:PM (PN K cl):=fun _ _ _ _ _ _ _ _ g ⟨a,xs,e,h,r⟩=>⟨a,xs,e,g a h,r⟩
abbrev ZF:=DE→Option (R D)
abbrev NF:=DE→Option (R (List D))
abbrev AF:=DE→Option (R (List D))
abbrev BF:=DE→Option (R Bool)
abbrev OF:=DE→Option (R (Option Int))
abbrev SF:=DE→Option RS
section
variable (K:W.Frag)(cl:Str→Addr)(E:XK)
def u2(t:TE)(f:ZF):Prop:=∀σ H Q env F,Rel K cl σ H F env→Ct K cl E (PZ K cl) (f env) σ H F env Q→t σ H Q
def RfN(t:TE)(f:NF):Prop:=∀σ H Q env F,Rel K cl σ H F env→Ct K cl E (PN K cl) (f env) σ H F env Q→t σ H Q
def N4(t:TA)(f:AF):Prop:=∀σ H Q env F,Rel K cl σ H F env→Ct K cl E (PAs K cl) (f env) σ H F env Q→t σ H Q
def R9(t:TT)(f:BF):Prop:=∀σ H Q env F,Rel K cl σ H F env→Ct K cl E PB (f env) σ H F env Q→t σ H Q
def RfO(t:TO)(f:OF):Prop:=∀σ H Q env F,Rel K cl σ H F env→Ct K cl E PI' (f env) σ H F env Q→t σ H Q
def RfS(t:TS)(f:SF):Prop:=∀(N:Ends) σ H env F,Rel K cl σ H F env→Cs K cl E (f env) σ H F env N→t N σ H
end
def eC(d:D):ZF:=fun e=>some (.ok d e)
def eV(i:Nat):ZF:=fun e=>match e[i]? with
 | some (.fz d)=>some (.ok d e)
 | some (.ow ds)=>some (.ok (.lst ds) (e.set i (.fz (.lst ds))))
 | _=>none
def look(e:DE)(i:Nat):Option D:=match e[i]? with
 | some (.fz d)=>some d
 | some (.ow ds)=>some (.lst ds)
 | some (.hd ds)=>some (.lst ds)
 | _=>none
def Rb(K:W.Frag)(cl:Str→Addr)(F H:Hp)(d:D)(v:V):Prop:=Rp K cl F d v∨∃a xs ds,v=.ref a∧d=.lst ds∧H a=some (.lst xs)∧Rps K cl F ds xs
section
variable {K:W.Frag}{cl:Str→Addr}{E:XK}{σ:St}{H F:Hp}{env:DE}
theorem Rel.look{i:Nat}{d:D}(R:Rel K cl σ H F env)(h:look env i=some d):∃v,σ[i]? = some (some v)∧Rb K cl F H d v:=by
 unfold L2.look at h
 split at h
 ·rename_i q;cases h;obtain⟨v,e,r⟩:=R.fz i d q;exact⟨v,e,.inl r⟩
 ·rename_i ds q;cases h;obtain⟨a,xs,e,hH,_,r⟩:=R.mu i ds (.inl q);exact⟨_,e,.inr ⟨a,xs,ds,rfl,rfl,hH,r⟩⟩
 ·rename_i ds q;cases h;obtain⟨a,xs,e,hH,_,r⟩:=R.mu i ds (.inr q);exact⟨_,e,.inr ⟨a,xs,ds,rfl,rfl,hH,r⟩⟩
 ·cases h
theorem a9{v:V}{d:D}(h:∀F,Rp K cl F d v:=by intro F;simp only[Rp]):u2 K cl E (tC v) (eC d):=fun σ H Q env F R h'=>h' v H F Frm.refl R (h F)
theorem b0{i:Nat}:u2 K cl E (E6 i) (eV i):=by
 intro σ H Q env F R h
 unfold eV at h
 split at h
 ·rename_i d q
  obtain⟨v,e,r⟩:=R.fz i d q
  exact⟨v,e,h v H F Frm.refl R r⟩
 ·rename_i ds q
  obtain⟨a,F',e,fr,R',r⟩:=R.freeze q
  exact⟨_,e,h _ H F' fr R' r⟩
 ·exact h.elim
end
def OpOk(K:W.Frag)(cl:Str→Addr)(r:R2)(g:D→D→Option D):Prop:=∀x y d e z H F Q,Same F H→Rb K cl F H d x→Rb K cl F H e y→g d e=some z→(∀v H' F',Gr H F H' F'→Rp K cl F' z v→Q v H')→r x y H Q
def eB(g:D→D→Option D)(f k:ZF):ZF:=fun e=>bnd (f e) fun d e1=>bnd (k e1) fun d' e2=>Y9 (g d d') e2
def A2(g:D→D→Option D)(i:Nat)(k:ZF):ZF:=fun e=>match look e i with
 | none=>none
 | some _=>bnd (k e) fun d' e2=>match look e2 i with
  | some d=>Y9 (g d d') e2
  | none=>none
section
variable {K:W.Frag}{cl:Str→Addr}{E:XK}{r:R2}{g:D→D→Option D}{ta tb:TE}{f k:ZF}{i j:Nat}
theorem OpOk.fin{σ:St}{H F:Hp}{env:DE}{x y:V}{d e:D}{Q:VK}(ok:OpOk K cl r g)(R:Rel K cl σ H F env)(hx:Rb K cl F H d x)(hy:Rb K cl F H e y)(h:Ct K cl E (PZ K cl) (Y9 (g d e) env) σ H F env Q):r x y H Q:=by
 cases hz:g d e with
 | none=>rw[hz]at h;exact h.elim
 | some z =>
  rw[hz]at h
  exact ok x y d e z H F Q R.sub hx hy hz fun v H' F' gr p=>h v H' F' (R.frm gr) (R.gr gr) p
theorem b7(ok:OpOk K cl r g)(ha:u2 K cl E ta f)(hb:u2 K cl E tb k):u2 K cl E (tOp r ta tb) (eB g f k):=by
 intro σ H Q env F R h
 refine ha σ H _ env F R ((Ct.bnd h O6).mono fun x H1 ⟨F1,e1,d,s1,R1,p1,h1⟩=>?_)
 refine hb σ H1 _ e1 F1 R1 ((Ct.bnd h1 O6).mono fun y H2 ⟨F2,e2,e,s2,R2,p2,h2⟩=>?_)
 exact ok.fin R2 (.inl (Rp.mono s2 _ _ p1)) (.inl p2) h2
theorem B5(ok:OpOk K cl r g)(hb:u2 K cl E tb k):u2 K cl E (tOp r (E6 i) tb) (A2 g i k):=by
 intro σ H Q env F R h
 unfold A2 at h
 cases q:look env i with
 | none=>rw[q]at h;exact h.elim
 | some d0 =>
  rw[q]at h
  obtain⟨x,e0,_⟩:=R.look q
  refine⟨x,e0,hb σ H _ env F R ((Ct.bnd h O6).mono fun y H2 ⟨F2,e2,e,s2,R2,p2,h2⟩=>?_)⟩
  cases q2:look e2 i with
  | none=>rw[q2]at h2;exact h2.elim
  | some d =>
   rw[q2]at h2
   obtain⟨x',e',rb⟩:=R2.look q2
   rw[e0]at e';cases e'
   exact ok.fin R2 rb (.inl p2) h2
end
section
variable {K:W.Frag}{cl:Str→Addr}{E:XK}
theorem Rb.int{F H:Hp}{i:Int}{v:V}(h:Rb K cl F H (.int i) v):v=.int i:=by
 rcases h with h | ⟨_,_,_,_,z,_⟩
 ·simpa only[Rp]using h
 ·cases z
theorem Rb.bl{F H:Hp}{i:Bool}{v:V}(h:Rb K cl F H (.bl i) v):v=.bl i:=by
 rcases h with h | ⟨_,_,_,_,z,_⟩
 ·simpa only[Rp]using h
 ·cases z
theorem Rb.str{F H:Hp}{i:Str}{v:V}(h:Rb K cl F H (.str i) v):v=.str i:=by
 rcases h with h | ⟨_,_,_,_,z,_⟩
 ·simpa only[Rp]using h
 ·cases z
theorem Rb.non{F H:Hp}{v:V}(h:Rb K cl F H .non v):v=.non:=by
 rcases h with h | ⟨_,_,_,_,z,_⟩
 ·simpa only[Rp]using h
 ·cases z
theorem Rb.lst{F H:Hp}{ds:List D}{v:V}(s:Same F H)(h:Rb K cl F H (.lst ds) v):∃a xs,v=.ref a∧H a=some (.lst xs)∧Rps K cl F ds xs:=by
 rcases h with h | ⟨a,xs,ds',e,z,h,r⟩
 ·simp only[Rp]at h
  obtain⟨a,xs,e,h,r⟩:=h
  exact⟨a,xs,e,s _ _ h,r⟩
 ·cases z;exact⟨a,xs,e,h,r⟩
theorem Rb.tup{F H:Hp}{ds:List D}{v:V}(s:Same F H)(h:Rb K cl F H (.tup ds) v):∃a xs,v=.ref a∧H a=some (.tup xs)∧Rps K cl F ds xs:=by
 rcases h with h | ⟨_,_,_,_,z,_⟩
 ·simp only[Rp]at h
  obtain⟨a,xs,e,h,r⟩:=h
  exact⟨a,xs,e,s _ _ h,r⟩
 ·cases z
theorem Rb.scr{F H:Hp}{ns:List Int}{v:V}(s:Same F H)(h:Rb K cl F H (.scr ns) v):∃a,v=.ref a∧Scr K H a (ns.map V.int):=by
 rcases h with h | ⟨_,_,_,_,z,_⟩
 ·simp only[Rp]at h
  obtain⟨a,e,h⟩:=h
  exact⟨a,e,h.same s⟩
 ·cases z
def gI(C:Int→Int→Prop) [∀i j,Decidable (C i j)] (g:Int→Int→D):D→D→Option D
 | .int i,.int j=>if C i j then some (g i j)else none
 | _,_=>none
def gI0(g:Int→Int→D):D→D→Option D
 | .int i,.int j=>some (g i j)
 | _,_=>none
theorem a51{C:Int→Int→Prop} [∀i j,Decidable (C i j)] {g:Int→Int→V} {g':Int→Int→D} (hg:∀F i j,Rp K cl F (g' i j) (g i j)):OpOk K cl (rI C g) (gI C g'):=by
 intro x y d e z H F Q s hx hy h q
 unfold gI at h
 split at h
 ·rename_i i j
  split at h
  ·rename_i c;cases h
   exact⟨i,j,hx.int,hy.int,c,q _ H F (.refl s) (hg F i j)⟩
  ·cases h
 ·cases h
theorem a1g{g:Int→Int→V}{g':Int→Int→D}(hg:∀F i j,Rp K cl F (g' i j) (g i j)):OpOk K cl (U4 g) (gI0 g'):=by
 intro x y d e z H F Q s hx hy h q
 unfold gI0 at h
 split at h
 ·rename_i i j
  cases h
  exact⟨i,j,hx.int,hy.int,q _ H F (.refl s) (hg F i j)⟩
 ·cases h
end
section
variable {K:W.Frag}{cl:Str→Addr}{E:XK}{σ:St}{H F:Hp}{env:DE}
theorem Rel.newN{p:Addr}{o:HO}(R:Rel K cl σ H F env)(hp:H p=none):Rel K cl σ (upd H p o) F env∧Frm σ H F env σ (upd H p o) F env:=by
 have fp:F p=none:=R.sub.free hp
 have ne:∀a u,H a=some u→a≠p:=fun a u h z=>by rw[z,hp]at h;cases h
 refine⟨⟨R.sub.trans (O5 hp _),R.len,R.fz,fun i ds h=>?_,R.inj,R.od.newO hp⟩,⟨Same.refl _,fun a u h f w=>?_,fun _ _ h=>⟨h,rfl⟩,fun a h=>?_⟩⟩
 ·obtain⟨a,xs,e,hH,hF,r⟩:=R.mu i ds h
  exact⟨a,xs,e,by rw[b9 (ne _ _ hH)];exact hH,hF,r⟩
 ·exact⟨by rw[b9 (ne _ _ h)];exact h,f,w⟩
 ·by_cases z:a=p
  ·rw[z];exact hp
  ·rw[b9 z]at h;exact h
theorem Ct.newN{p:Addr}{xs:List V}{ds:List D}{Q:VK}(R:Rel K cl σ H F env)(hp:H p=none)(r:Rps K cl F ds xs)(h:Ct K cl E (PN K cl) (some (.ok ds env)) σ H F env Q):Q (.ref p) (upd H p (.lst xs)):=by
 obtain⟨R',f⟩:=R.newN (o:=.lst xs) hp
 refine h _ _ F f R' ⟨p,xs,rfl,hp,i8,R.sub.free hp,fun j mj e=>?_,r⟩
 obtain⟨ds',q⟩:=mj
 obtain⟨a,ys,e1,hH,_⟩:=R.mu j ds' q
 rw[e]at e1;cases e1
 rw[hp]at hH;cases hH
def zN(f:NF):ZF:=fun e=>bnd (f e) fun ds e1=>some (.ok (.lst ds) e1)
theorem J1{t:TE}{f:NF}(h:RfN K cl E t f):u2 K cl E t (zN f):=by
 intro σ H Q env F R q
 refine h σ H Q env F R ?_
 unfold zN at q
 rcases hf:f env with _ | ⟨ds,e1⟩ | c
 ·rw[hf]at q;exact q
 ·rw[hf]at q
  rintro b H' F' fr R' ⟨a,xs,rfl,hn,hH,hF,nm,r⟩
  have sF:Same F' (upd F' a (.lst xs)):=O5 hF _
  refine q _ H' (upd F' a (.lst xs)) ⟨fr.fz.trans sF,fun b o hb fb w=>?_,fr.keep,fr.dom⟩ ⟨fun b o z=>?_,R'.len,fun i d z=>?_,fun i es z=>?_,R'.inj,R'.od.frzL hH hF⟩ (by show Rp K cl _ (.lst ds) _;simp only[Rp];exact⟨a,xs,rfl,i8,r.mono sF⟩)
  ·obtain⟨h1,f1,w1⟩:=fr.hid b o hb fb w
   have nb:b≠a:=fun z=>by rw[z,hn]at hb;cases hb
   exact⟨h1,by rw[b9 nb];exact f1,w1⟩
  ·by_cases y:b=a
   ·subst y;rw[i8]at z;cases z;exact hH
   ·rw[b9 y]at z;exact R'.sub _ _ z
  ·obtain⟨v,e,r1⟩:=R'.fz i d z
   exact⟨v,e,r1.mono sF⟩
  ·obtain⟨b,ys,e,h1,f1,r1⟩:=R'.mu i es z
   have nb:b≠a:=fun y=>nm i ⟨es,z⟩ (by rw[e,y])
   exact⟨b,ys,e,h1,by rw[b9 nb];exact f1,r1.mono sF⟩
 ·rw[hf]at q;exact q
def aN:AF:=fun e=>some (.ok [] e)
def aC(f:ZF)(k:AF):AF:=fun e=>bnd (f e) fun d e1=>bnd (k e1) fun ds e2=>some (.ok (d::ds) e2)
theorem f9:N4 K cl E U5 aN:=fun σ H Q env F R h=>h [] H F Frm.refl R .nil
theorem a7{te:TE}{ta:TA}{f:ZF}{k:AF}(hf:u2 K cl E te f)(hk:N4 K cl E ta k):N4 K cl E (I0 te ta) (aC f k):=by
 intro σ H Q env F R h
 refine hf σ H _ env F R ((Ct.bnd h b1D).mono fun x H1 ⟨F1,e1,d,s1,R1,p1,h1⟩=>?_)
 refine hk σ H1 _ e1 F1 R1 ((Ct.bnd h1 b1D).mono fun xs H2 ⟨F2,e2,ds,s2,R2,p2,h2⟩=>?_)
 exact h2 (x::xs) H2 F2 Frm.refl R2 (.cons (Rp.mono s2 _ _ p1) p2)
def eT(f:AF):ZF:=fun e=>bnd (f e) fun ds e1=>if ds.length≤sizeLine then some (.ok (.tup ds) e1)else none
def eL(f:AF):NF:=fun e=>bnd (f e) fun ds e1=>if ds.length≤sizeLine then some (.ok ds e1)else none
theorem x9{ta:TA}{f:AF}(hf:N4 K cl E ta f):u2 K cl E (b1c ta) (eT f):=by
 intro σ H Q env F R h
 refine hf σ H _ env F R ((Ct.bnd h O6).mono fun xs H1 ⟨F1,e1,ds,s1,R1,p1,h1⟩=>?_)
 have hl:ds.length=xs.length:=Rps.length p1
 split at h1
 ·rename_i z
  refine⟨by rw[← hl];exact z,fun p hp=>?_⟩
  have g:Gr H1 F1 (upd H1 p (.tup xs)) (upd F1 p (.tup xs)):=.new R1.sub hp
  exact h1 _ _ _ (R1.frm g) (R1.gr g) (by show Rp K cl _ (.tup ds) _;simp only[Rp];exact⟨p,xs,rfl,i8,Rps.mono g.fz _ _ p1⟩)
 ·exact h1.elim
theorem N5{ta:TA}{f:AF}(hf:N4 K cl E ta f):RfN K cl E (b1d ta) (eL f):=by
 intro σ H Q env F R h
 refine hf σ H _ env F R ((Ct.bnd h a1J).mono fun xs H1 ⟨F1,e1,ds,s1,R1,p1,h1⟩=>?_)
 have hl:ds.length=xs.length:=Rps.length p1
 split at h1
 ·rename_i z
  exact⟨by rw[← hl];exact z,fun p hp=>Ct.newN R1 hp p1 h1⟩
 ·exact h1.elim
def bZ(f:ZF):BF:=fun e=>bnd (f e) fun d e1=>match d with
 | .bl b=>some (.ok b e1)
 | _=>none
theorem A3{t:TE}{f:ZF}(hf:u2 K cl E t f):R9 K cl E (tB t) (bZ f):=by
 intro σ H Q env F R h
 refine hf σ H _ env F R ((Ct.bnd h a50).mono fun x H1 ⟨F1,e1,d,s1,R1,p1,h1⟩=>?_)
 split at h1
 ·rename_i b
  have:x=.bl b:=by have:=(show Rp K cl F1 (.bl b) x from p1);simpa only[Rp]using this
  exact⟨b,this,h1 b H1 F1 Frm.refl R1 rfl⟩
 ·exact h1.elim
theorem w6{t:TE}{f:ZF}(hf:u2 K cl E t f):R9 K cl E (a8T t) (bZ f):=A3 hf
def u4(f:BF):BF:=fun e=>bnd (f e) fun b e1=>some (.ok (!b) e1)
def U8(f k:BF):BF:=fun e=>bnd (f e) fun b e1=>if b=true then k e1 else some (.ok false e1)
def B2(f k:BF):BF:=fun e=>bnd (f e) fun b e1=>if b=true then some (.ok true e1)else k e1
theorem z7{t:TT}{f:BF}(hf:R9 K cl E t f):R9 K cl E (b07 t) (u4 f):=by
 intro σ H Q env F R h
 refine hf σ H _ env F R ((Ct.bnd h a50).mono fun x H1 ⟨F1,e1,d,s1,R1,p1,h1⟩=>?_)
 cases (show x=d from p1)
 exact h1 _ H1 F1 Frm.refl R1 rfl
theorem a1h{t u:TT}{f k:BF}(hf:R9 K cl E t f)(hk:R9 K cl E u k):R9 K cl E (b06 t u) (U8 f k):=by
 intro σ H Q env F R h
 refine hf σ H _ env F R ((Ct.bnd h a50).mono fun x H1 ⟨F1,e1,d,s1,R1,p1,h1⟩=>?_)
 cases (show x=d from p1)
 by_cases z:x=true
 ·rw[if_pos z]at h1 ⊢;exact hk σ H1 Q e1 F1 R1 h1
 ·rw[if_neg z]at h1 ⊢;exact h1 _ H1 F1 Frm.refl R1 rfl
theorem F9{t u:TT}{f k:BF}(hf:R9 K cl E t f)(hk:R9 K cl E u k):R9 K cl E (tOr t u) (B2 f k):=by
 intro σ H Q env F R h
 refine hf σ H _ env F R ((Ct.bnd h a50).mono fun x H1 ⟨F1,e1,d,s1,R1,p1,h1⟩=>?_)
 cases (show x=d from p1)
 by_cases z:x=true
 ·rw[if_pos z]at h1 ⊢;exact h1 _ H1 F1 Frm.refl R1 rfl
 ·rw[if_neg z]at h1 ⊢;exact hk σ H1 Q e1 F1 R1 h1
def O7(f k:ZF):ZF:=fun e=>bnd (f e) fun d e1=>match d with
 | .bl b=>if b=true then k e1 else some (.ok (.bl false) e1)
 | _=>none
def eOr(f k:ZF):ZF:=fun e=>bnd (f e) fun d e1=>match d with
 | .bl b=>if b=true then some (.ok (.bl true) e1)else k e1
 | _=>none
theorem S0{t u:TE}{f k:ZF}(hf:u2 K cl E t f)(hk:u2 K cl E u k):u2 K cl E (a8N t u) (O7 f k):=by
 intro σ H Q env F R h
 refine hf σ H _ env F R ((Ct.bnd h O6).mono fun x H1 ⟨F1,e1,d,s1,R1,p1,h1⟩=>?_)
 split at h1
 ·rename_i b
  have:x=.bl b:=by have:=(show Rp K cl F1 (.bl b) x from p1);simpa only[Rp]using this
  refine⟨b,this,?_⟩
  by_cases z:b=true
  ·rw[if_pos z]at h1 ⊢;exact hk σ H1 Q e1 F1 R1 h1
  ·rw[if_neg z]at h1 ⊢;exact h1 _ H1 F1 Frm.refl R1 (by show Rp K cl F1 (.bl _) _;simp only[Rp])
 ·exact h1.elim
theorem a0o{t u:TE}{f k:ZF}(hf:u2 K cl E t f)(hk:u2 K cl E u k):u2 K cl E (b08 t u) (eOr f k):=by
 intro σ H Q env F R h
 refine hf σ H _ env F R ((Ct.bnd h O6).mono fun x H1 ⟨F1,e1,d,s1,R1,p1,h1⟩=>?_)
 split at h1
 ·rename_i b
  have:x=.bl b:=by have:=(show Rp K cl F1 (.bl b) x from p1);simpa only[Rp]using this
  refine⟨b,this,?_⟩
  by_cases z:b=true
  ·rw[if_pos z]at h1 ⊢;exact h1 _ H1 F1 Frm.refl R1 (by show Rp K cl F1 (.bl _) _;simp only[Rp])
  ·rw[if_neg z]at h1 ⊢;exact hk σ H1 Q e1 F1 R1 h1
 ·exact h1.elim
def b1E(K:W.Frag)(cl:Str→Addr)(r:V→Hp→VK→Prop)(g:D→Option D):Prop:=∀x d z H F Q,Same F H→Rb K cl F H d x→g d=some z→(∀v H' F',Gr H F H' F'→Rp K cl F' z v→Q v H')→r x H Q
def eU(g:D→Option D)(f:ZF):ZF:=fun e=>bnd (f e) fun d e1=>Y9 (g d) e1
theorem b2N{r:V→Hp→VK→Prop}{g:D→Option D}{t:TE}{f:ZF}(ok:b1E K cl r g)(hf:u2 K cl E t f):u2 K cl E (tUn r t) (eU g f):=by
 intro σ H Q env F R h
 refine hf σ H _ env F R ((Ct.bnd h O6).mono fun x H1 ⟨F1,e1,d,s1,R1,p1,h1⟩=>?_)
 cases hz:g d with
 | none=>rw[hz]at h1;exact h1.elim
 | some z =>
  rw[hz]at h1
  exact ok x d z H1 F1 Q R1.sub (.inl p1) hz fun v H' F' gr p=>h1 v H' F' (R1.frm gr) (R1.gr gr) p
def a1K(K:W.Frag)(cl:Str→Addr)(r:List V→Hp→VK→Prop)(g:List D→Option D):Prop:=∀xs ds z H F Q,Same F H→Rps K cl F ds xs→g ds=some z→(∀v H' F',Gr H F H' F'→Rp K cl F' z v→Q v H')→r xs H Q
def CbOk1(K:W.Frag)(cl:Str→Addr)(r:List V→Hp→VK→Prop)(g:D→Option D):Prop:=∀x d z H F Q,Same F H→Rb K cl F H d x→g d=some z→(∀v H' F',Gr H F H' F'→Rp K cl F' z v→Q v H')→r [x] H Q
def A9(g:List D→Option D)(f:AF):ZF:=fun e=>bnd (f e) fun ds e1=>Y9 (g ds) e1
def C3(g:D→Option D)(i:Nat):ZF:=fun e=>match look e i with
 | some d=>Y9 (g d) e
 | none=>none
theorem B9{r:List V→Hp→VK→Prop}{g:List D→Option D}{t:TA}{f:AF}(ok:a1K K cl r g)(hf:N4 K cl E t f):u2 K cl E (tCB r t) (A9 g f):=by
 intro σ H Q env F R h
 refine hf σ H _ env F R ((Ct.bnd h O6).mono fun x H1 ⟨F1,e1,d,s1,R1,p1,h1⟩=>?_)
 cases hz:g d with
 | none=>rw[hz]at h1;exact h1.elim
 | some z =>
  rw[hz]at h1
  exact ok x d z H1 F1 Q R1.sub p1 hz fun v H' F' gr p=>h1 v H' F' (R1.frm gr) (R1.gr gr) p
theorem N6{r:List V→Hp→VK→Prop}{g:D→Option D}{i:Nat}(ok:CbOk1 K cl r g):u2 K cl E (tCB r (I0 (E6 i) U5)) (C3 g i):=by
 intro σ H Q env F R h
 unfold C3 at h
 cases q:look env i with
 | none=>rw[q]at h;exact h.elim
 | some d =>
  rw[q]at h
  obtain⟨x,e,rb⟩:=R.look q
  refine⟨x,e,?_⟩
  cases hz:g d with
  | none=>simp only[hz,a0n]at h;exact h.elim
  | some z =>
   simp only[hz,a0m]at h
   exact ok x d z H F Q R.sub rb hz fun v H' F' gr p=>h v H' F' (R.frm gr) (R.gr gr) p
def g1(g:D→Option D):List D→Option D
 | [d]=>g d
 | _=>none
theorem CbOk1.cb{r:List V→Hp→VK→Prop}{g:D→Option D}(ok:CbOk1 K cl r g):a1K K cl r (g1 g):=by
 intro xs ds z H F Q s hx h q
 unfold g1 at h
 split at h
 ·obtain⟨v,r,rfl,h1,h2⟩:=hx.inv
  rw[h2.inv0]
  exact ok v _ z H F Q s (.inl h1) h q
 ·cases h
def b1F(K:W.Frag)(cl:Str→Addr)(r:List V→Hp→VK→Prop)(g:D→Option (List D)):Prop:=∀x d zs H F Q,Same F H→Rb K cl F H d x→g d=some zs→(∀p xs,H p=none→Rps K cl F zs xs→Q (.ref p) (upd H p (.lst xs)))→r [x] H Q
def nCV(g:D→Option (List D))(i:Nat):NF:=fun e=>match look e i with
 | some d=>Y9 (g d) e
 | none=>none
theorem a6E{r:List V→Hp→VK→Prop}{g:D→Option (List D)}{i:Nat}(ok:b1F K cl r g):RfN K cl E (tCB r (I0 (E6 i) U5)) (nCV g i):=by
 intro σ H Q env F R h
 unfold nCV at h
 cases q:look env i with
 | none=>rw[q]at h;exact h.elim
 | some d =>
  rw[q]at h
  obtain⟨x,e,rb⟩:=R.look q
  refine⟨x,e,?_⟩
  cases hz:g d with
  | none=>simp only[hz,a0n]at h;exact h.elim
  | some z =>
   simp only[hz,a0m]at h
   exact ok x d z H F Q R.sub rb hz fun p xs hp r=>Ct.newN R hp r h
def b1G(K:W.Frag)(cl:Str→Addr)(r:R2)(g:D→D→Option (List D)):Prop:=∀x y d e zs H F Q,Same F H→Rb K cl F H d x→Rb K cl F H e y→g d e=some zs→(∀p xs,H p=none→Rps K cl F zs xs→Q (.ref p) (upd H p (.lst xs)))→r x y H Q
def nB(g:D→D→Option (List D))(f k:ZF):NF:=fun e=>bnd (f e) fun d e1=>bnd (k e1) fun d' e2=>Y9 (g d d') e2
theorem b2h{r:R2}{g:D→D→Option (List D)}{ta tb:TE}{f k:ZF}(ok:b1G K cl r g)(ha:u2 K cl E ta f)(hb:u2 K cl E tb k):RfN K cl E (tOp r ta tb) (nB g f k):=by
 intro σ H Q env F R h
 refine ha σ H _ env F R ((Ct.bnd h a1J).mono fun x H1 ⟨F1,e1,d,s1,R1,p1,h1⟩=>?_)
 refine hb σ H1 _ e1 F1 R1 ((Ct.bnd h1 a1J).mono fun y H2 ⟨F2,e2,e,s2,R2,p2,h2⟩=>?_)
 cases hz:g d e with
 | none=>rw[hz]at h2;exact h2.elim
 | some z =>
  rw[hz]at h2
  exact ok x y d e z H2 F2 Q R2.sub (.inl (Rp.mono s2 _ _ p1)) (.inl p2) hz fun p xs hp r=>Ct.newN R2 hp r h2
end
section
variable {K:W.Frag}{cl:Str→Addr}{E:XK}{σ:St}{H F:Hp}{env:DE}
instance decMul(i j:Int):Decidable (IntMulOk i j):=by unfold IntMulOk;infer_instance
instance decPow(i j:Int):Decidable (a2D i j):=by unfold a2D;infer_instance
abbrev A1:=gI0 fun i j=>.int (i+j)
abbrev W6:=gI0 fun i j=>.int (i-j)
abbrev K9:=gI IntMulOk fun i j=>.int (i*j)
abbrev E8:=gI (fun _ j=>0<j∧j.natAbs.log2<9000) fun i j=>.int (i/j)
abbrev k8:=gI (fun _ j=>0<j) fun i j=>.int (i%j)
abbrev a0p:=gI a2D fun i j=>.int (i ^ j.toNat)
abbrev gLt:=gI0 fun i j=>.bl (decide (i<j))
abbrev gLe:=gI0 fun i j=>.bl (decide (i≤j))
abbrev G0:=gI0 fun i j=>.bl (decide (j<i))
abbrev gGe:=gI0 fun i j=>.bl (decide (j≤i))
theorem B6:OpOk K cl (U4 fun i j=>.int (i+j)) A1:=a1g fun F i j=>by simp only[Rp]
theorem a2f:OpOk K cl (U4 fun i j=>.int (i-j)) W6:=a1g fun F i j=>by simp only[Rp]
theorem Z0:OpOk K cl (rI IntMulOk fun i j=>.int (i*j)) K9:=a51 fun F i j=>by simp only[Rp]
theorem S1:OpOk K cl (rI (fun _ j=>0<j∧j.natAbs.log2<9000) fun i j=>.int (i/j)) E8:=a51 fun F i j=>by simp only[Rp]
theorem r6:OpOk K cl (rI (fun _ j=>0<j) fun i j=>.int (i%j)) k8:=a51 fun F i j=>by simp only[Rp]
theorem a4g:OpOk K cl (rI a2D fun i j=>.int (i ^ j.toNat)) a0p:=a51 fun F i j=>by simp only[Rp]
theorem a52:OpOk K cl (U4 fun i j=>.bl (decide (i<j))) gLt:=a1g fun F i j=>by simp only[Rp]
theorem a0q:OpOk K cl (U4 fun i j=>.bl (decide (i≤j))) gLe:=a1g fun F i j=>by simp only[Rp]
theorem S8:OpOk K cl (U4 fun i j=>.bl (decide (j<i))) G0:=a1g fun F i j=>by simp only[Rp]
theorem a53:OpOk K cl (U4 fun i j=>.bl (decide (j≤i))) gGe:=a1g fun F i j=>by simp only[Rp]
def toV:D→Option V
 | .non=>some .non
 | .bl b=>some (.bl b)
 | .int i=>some (.int i)
 | .str x=>some (.str x)
 | _=>none
theorem Rb.toV{d:D}{v u:V}(h:Rb K cl F H d v)(e:toV d=some u):v=u:=by
 cases d with
 | non=>cases e;exact h.non
 | bl b=>cases e;exact h.bl
 | int i=>cases e;exact h.int
 | str x=>cases e;exact h.str
 | _=>cases e
def y9(neg:Bool)(d e:D):Option D:=match toV d,toV e with
 | some x,some y=>if a5F x y=true then some (.bl (if neg then !decide (x=y)else decide (x=y)))else none
 | _,_=>none
theorem N7:OpOk K cl rEq (y9 false):=by
 intro x y d e z H F Q s hx hy h q
 unfold y9 at h
 split at h
 ·rename_i u w hu hw
  split at h
  ·rename_i c;cases h
   rw[hx.toV hu,hy.toV hw]
   exact⟨c,q _ H F (.refl s) (by simp only[Rp];rfl)⟩
  ·cases h
 ·cases h
theorem a3I:OpOk K cl rNe (y9 true):=by
 intro x y d e z H F Q s hx hy h q
 unfold y9 at h
 split at h
 ·rename_i u w hu hw
  split at h
  ·rename_i c;cases h
   rw[hx.toV hu,hy.toV hw]
   exact⟨c,q _ H F (.refl s) (by simp only[Rp];rfl)⟩
  ·cases h
 ·cases h
@[simp] theorem a9A(neg:Bool)(a b:Int):y9 neg (.int a) (.int b)=some (.bl (if neg then !decide (a=b)else decide (a=b))):=by
 unfold y9 toV
 simp only[a5F,if_true,V.int.injEq]
def G1(neg:Bool)(d e:D):Option D:=match d,e with
 | .non,.non=>some (.bl (!neg))
 | _,.non=>some (.bl neg)
 | _,_=>none
theorem Rb.notNon{d:D}{v:V}(h:Rb K cl F H d v)(n:d≠.non):v≠.non:=by
 rcases h with h | ⟨_,_,_,rfl,_⟩
 ·cases d<;>simp only[Rp]at h
  ·exact absurd rfl n
  all_goals first | (rw[h];intro z;cases z) | (obtain⟨_,_,rfl,_⟩:=h;intro z;cases z) | (obtain⟨_,rfl,_⟩:=h;intro z;cases z) | (obtain⟨_,_,_,rfl,_⟩:=h;intro z;cases z)
 ·intro z;cases z
theorem a5b:OpOk K cl (fun x y H Q=>y=.non∧Q (.bl (!decide (x=.non))) H) (G1 true):=by
 intro x y d e z H F Q s hx hy h q
 unfold G1 at h
 split at h
 ·cases h;rw[hx.non];exact⟨hy.non,q _ H F (.refl s) (by simp[Rp])⟩
 ·rename_i n;cases h
  exact⟨hy.non,q _ H F (.refl s) (by simp only[Rp];rw[decide_eq_false (hx.notNon n)];rfl)⟩
 ·cases h
theorem Rps.atI{ds:List D}{xs:List V}{i:Int}{d:D}(h:Rps K cl F ds xs)(e:atI ds i=some d):∃v,L2.atI xs i=some v∧Rp K cl F d v:=by
 unfold L2.atI at e ⊢
 rw[← h.length]
 cases q:N2 ds.length i with
 | none=>rw[q]at e;cases e
 | some j=>rw[q]at e;exact h.get e
def u9(d e:D):Option D:=match d,e with
 | .lst ds,.int i=>atI ds i
 | .scr ns,.int i=>(atI ns i).map .int
 | _,_=>none
def h9(d e:D):Option D:=match d,e with
 | .tup ds,.int i=>atI ds i
 | _,_=>none
theorem a9B{α β:Type}(f:α→β)(xs:List α)(i:Int):atI (xs.map f) i=(atI xs i).map f:=by
 unfold L2.atI
 rw[List.length_map]
 cases N2 xs.length i with
 | none=>rfl
 | some j=>simp
theorem B7:OpOk K cl (a5M K) u9:=by
 intro x y d e z H F Q s hx hy h q
 unfold u9 at h
 split at h
 ·obtain⟨a,xs,rfl,hH,r⟩:=hx.lst s
  obtain⟨v,e,p⟩:=r.atI h
  exact⟨a,xs,_,v,rfl,hy.int,.of hH,e,q v H F (.refl s) p⟩
 ·rename_i ns i
  obtain⟨a,rfl,hS⟩:=hx.scr s
  cases hz:atI ns i with
  | none=>rw[hz]at h;cases h
  | some n =>
   rw[hz]at h;cases h
   exact⟨a,_,_,.int n,rfl,hy.int,hS.seq,by rw[a9B,hz];rfl,q _ H F (.refl s) (by simp only[Rp])⟩
 ·cases h
theorem i7:OpOk K cl (a7q K) h9:=by
 intro x y d e z H F Q s hx hy h q
 unfold h9 at h
 split at h
 ·obtain⟨a,xs,rfl,hH,r⟩:=hx.tup s
  obtain⟨v,e,p⟩:=r.atI h
  exact⟨a,xs,_,v,rfl,hy.int,.of hH,e,q v H F (.refl s) p⟩
 ·cases h
def U9:D→D→Bool
 | .non,.non=>true
 | .bl a,.bl b=>a == b
 | .bl a,.int b=>(if a then 1 else 0) == b
 | .int a,.bl b=>a == (if b then 1 else 0)
 | .int a,.int b=>a == b
 | .str a,.str b=>a == b
 | _,_=>false
def a54:List D→List D→Bool
 | [],[]=>true
 | x::xs,y::ys=>U9 x y && a54 xs ys
 | _,_=>false
def l9:D→Bool
 | .non=>true
 | .bl _=>true
 | .int _=>true
 | .str _=>true
 | _=>false
theorem Rp.flat{d:D}{v:V}(h:Rp K cl F d v)(f:l9 d=true):toV d=some v∧a3G v=true:=by
 cases d<;>simp only[Rp]at h<;>first | (subst h;exact⟨rfl,rfl⟩) | cases f
theorem Rps.flat:∀{ds:List D} {vs:List V},Rps K cl F ds vs→ds.all l9=true→vs.all a3G=true
 | [],_,h,_=>by rw[h.inv0];rfl
 | d::ds,_,h,f=>by
  obtain⟨v,r,rfl,h1,h2⟩:=h.inv
  rw[List.all_cons,Bool.and_eq_true]at f
  rw[List.all_cons,(h1.flat f.1).2,h2.flat f.2];rfl
theorem Rp.eq{d e:D}{v u:V}(h:Rp K cl F d v)(g:Rp K cl F e u)(fd:l9 d=true)(fe:l9 e=true):eqV v u=U9 d e:=by
 have h1:=(h.flat fd).1
 have h2:=(g.flat fe).1
 cases d<;>cases e<;>first | (cases h1;cases h2;rfl) | (cases fd;done) | (cases fe;done)
theorem Rps.eq:∀{ds es:List D} {vs us:List V},Rps K cl F ds vs→Rps K cl F es us→ds.all l9=true→es.all l9=true→a7x vs us=a54 ds es
 | [],[],_,_,h,g,_,_=>by rw[h.inv0,g.inv0];rfl
 | [],_::_,_,_,h,g,_,_=>by rw[h.inv0];obtain⟨_,_,rfl,_,_⟩:=g.inv;rfl
 | _::_,[],_,_,h,g,_,_=>by rw[g.inv0];obtain⟨_,_,rfl,_,_⟩:=h.inv;rfl
 | d::ds,e::es,_,_,h,g,fd,fe=>by
  obtain⟨v,r,rfl,h1,h2⟩:=h.inv
  obtain⟨u,r',rfl,g1,g2⟩:=g.inv
  rw[List.all_cons,Bool.and_eq_true]at fd fe
  unfold a7x a54
  rw[h1.eq g1 fd.1 fe.1,h2.eq g2 fd.2 fe.2]
theorem Rps.rep{ds:List D}{xs:List V}(h:Rps K cl F ds xs):∀n:Nat,Rps K cl F (List.replicate n ds).flatten (List.replicate n xs).flatten
 | 0=>.nil
 | n+1=>by rw[List.replicate_succ,List.replicate_succ,List.flatten_cons,List.flatten_cons];exact h.append (h.rep n)
def a1L(d e:D):Option (List D):=match d,e with
 | .lst ds,.int k=>if -(2 ^ 63)≤k∧k<2 ^ 63∧ds.length*k.toNat≤sizeLine then some (List.replicate k.toNat ds).flatten else none
 | _,_=>none
theorem b1H:b1G K cl b1l a1L:=by
 intro x y d e zs H F Q s hx hy h q
 unfold a1L at h
 split at h
 ·split at h
  ·rename_i ds k c;cases h
   obtain⟨a,xs,rfl,hH,r⟩:=hx.lst s
   exact⟨a,k,xs,rfl,hy.int,hH,c.1,c.2.1,by rw[← r.length];exact c.2.2,fun p hp=>q p _ hp (r.rep _)⟩
  ·cases h
 ·cases h
def y3:D→Option D
 | .lst ds=>some (.int ds.length)
 | .tup ds=>some (.int ds.length)
 | .scr ns=>some (.int ns.length)
 | _=>none
theorem G2:CbOk1 K cl (a48 K) y3:=by
 intro x d z H F Q s hx h q
 unfold y3 at h
 split at h
 ·cases h
  obtain⟨a,xs,rfl,hH,r⟩:=hx.lst s
  exact⟨a,xs,rfl,.inl (.of hH),q _ H F (.refl s) (by simp only[Rp];rw[r.length])⟩
 ·cases h
  obtain⟨a,xs,rfl,hH,r⟩:=hx.tup s
  exact⟨a,xs,rfl,.inr (.of hH),q _ H F (.refl s) (by simp only[Rp];rw[r.length])⟩
 ·cases h
  obtain⟨a,rfl,hS⟩:=hx.scr s
  exact⟨a,_,rfl,.inl hS.seq,q _ H F (.refl s) (by simp only[Rp];rw[List.length_map])⟩
 ·cases h
def D3:D→Option D
 | .str z=>if z.length≤sizeLine then some (.int z.length)else none
 | _=>none
theorem a5c:CbOk1 K cl (fun xs H Q=>∃z,xs=[.str z]∧z.length≤sizeLine∧Q (.int z.length) H) D3:=by
 intro x d z H F Q s hx h q
 unfold D3 at h
 split at h
 ·split at h
  ·rename_i y c;cases h;rw[hx.str];exact⟨y,rfl,c,q _ H F (.refl s) (by simp only[Rp])⟩
  ·cases h
 ·cases h
def a0r:D→Option (List D)
 | .lst ds=>some ds
 | .tup ds=>some ds
 | .scr ns=>some (ns.map .int)
 | _=>none
theorem a5d:b1F K cl (a49 K) a0r:=by
 intro x d zs H F Q s hx h q
 unfold a0r at h
 split at h
 ·cases h
  obtain⟨a,xs,rfl,hH,r⟩:=hx.lst s
  exact⟨a,xs,rfl,.inl (.of hH),fun p hp=>q p _ hp r⟩
 ·cases h
  obtain⟨a,xs,rfl,hH,r⟩:=hx.tup s
  exact⟨a,xs,rfl,.inr (.of hH),fun p hp=>q p _ hp r⟩
 ·cases h
  obtain⟨a,rfl,hS⟩:=hx.scr s
  exact⟨a,_,rfl,.inl hS.seq,fun p hp=>q p _ hp Rps.ofInts⟩
 ·cases h
end
inductive R1 where | ret (d:D) | own (ds:List D) | owz (dss:List (List D)) | owp (n:Int) (ds:List D) | ex (c:XN)
def k6(K:W.Frag)(cl:Str→Addr)(g:List D→Option R1):Sp:=fun vs H Q E=>∃ds F,Same F H∧Rps K cl F ds vs∧match g ds with
 | none=>False
 | some (.ret d)=>∀v H' F',Gr H F H' F'→Rp K cl F' d v→Q v H'
 | some (.own es)=>∀a xs H' F',Gr H F H' F'→H a=none→H' a=some (.lst xs)→F' a=none→Rps K cl F' es xs→Q (.ref a) H'
 | some (.owz dss)=>∀p as H' F',Gr H F H' F'→H p=none→H' p=some (.tup (as.map V.ref))→F' p=none→Rz K cl F' H' (fun a=>H a=none) dss as→Q (.ref p) H'
 | some (.owp n es)=>∀p a xs H' F',Gr H F H' F'→H p=none→H' p=some (.tup [.int n,.ref a])→F' p=none→H a=none→H' a=some (.lst xs)→F' a=none→Rps K cl F' es xs→Q (.ref p) H'
 | some (.ex c)=>∀H' F',Gr H F H' F'→∀cx,Xf K cl F' c cx→E (.ref (cl c.nm)) cx H'
def toZ(r:Option R1)(e:DE):Option (R D):=match r with
 | none=>none
 | some (.ret d)=>some (.ok d e)
 | some (.own ds)=>some (.ok (.lst ds) e)
 | some (.owz _)=>none
 | some (.owp _ _)=>none
 | some (.ex c)=>some (.ex c)
def a0W(r:Option R1)(e:DE):Option (R D):=match r with
 | some (.ret d)=>some (.ok d e)
 | some (.own ds)=>some (.ok (.lst ds) e)
 | _=>none
def S9(g:List D→Option R1)(f:AF):ZF:=fun e=>bnd (f e) fun ds e1=>toZ (g ds) e1
def g8(g:List D→Option R1)(f:AF):ZF:=fun e=>bnd (f e) fun ds e1=>a0W (g ds) e1
def put(i:Nat)(s:Sl)(e:DE):Option RS:=match e[i]? with
 | none=>none
 | some (.hd _)=>none
 | some _=>some (.nx (e.set i s))
def a2g(i:Nat)(r:Option R1)(e:DE):Option RS:=match r with
 | none=>none
 | some (.ret d)=>put i (.fz d) e
 | some (.own ds)=>put i (.ow ds) e
 | some (.owz _)=>none
 | some (.owp _ _)=>none
 | some (.ex c)=>some (.ex c)
def a2h(i:Nat)(r:Option R1)(e:DE):Option RS:=match r with
 | some (.ret d)=>put i (.fz d) e
 | some (.own ds)=>put i (.ow ds) e
 | _=>none
def a3J(r:Option R1):Option RS:=match r with
 | none=>none
 | some (.ret d)=>some (.rt d)
 | some (.own ds)=>some (.ro ds)
 | some (.owz dss)=>some (.rz dss)
 | some (.owp n ds)=>some (.rp n ds)
 | some (.ex c)=>some (.ex c)
def a2i(r:Option R1):Option RS:=match r with
 | some (.ret d)=>some (.rt d)
 | some (.own ds)=>some (.ro ds)
 | _=>none
def m4:SF:=fun e=>some (.nx e)
def d7(f k:SF):SF:=fun e=>match f e with
 | some (.nx e1)=>k e1
 | r=>r
def r9(i:Nat)(f:ZF):SF:=fun e=>F5 (f e) fun d e1=>put i (.fz d) e1
def N8(i:Nat)(f:NF):SF:=fun e=>F5 (f e) fun ds e1=>put i (.ow ds) e1
def K6(i:Nat)(g:List D→Option R1)(f:AF):SF:=fun e=>F5 (f e) fun ds e1=>a2g i (g ds) e1
def E1(i:Nat)(g:List D→Option R1)(f:AF):SF:=fun e=>F5 (f e) fun ds e1=>a2h i (g ds) e1
def i9(f:ZF):SF:=fun e=>F5 (f e) fun d _=>some (.rt d)
def a0s(f:NF):SF:=fun e=>F5 (f e) fun ds _=>some (.ro ds)
def a2j(g:List D→Option R1)(f:AF):SF:=fun e=>F5 (f e) fun ds _=>a2i (g ds)
def T1(i:Nat):SF:=fun e=>match e[i]? with
 | some (.fz d)=>some (.rt d)
 | some (.ow ds)=>some (.ro ds)
 | _=>none
def m5(c:BF)(f k:SF):SF:=fun e=>F5 (c e) fun b e1=>if b=true then f e1 else k e1
def Z1(c:Str)(f:AF):SF:=fun e=>F5 (f e) fun ds _=>if ds.length≤sizeLine then some (.ex (.p c))else none
def S4(i:Nat)(f:ZF):SF:=fun e=>match look e i with
 | some (.lst _)=>F5 (f e) fun d e1=>match e1[i]? with
  | some (.ow ds)=>if ds.length<sizeLine then some (.nx (e1.set i (.ow (ds++[d]))))else none
  | _=>none
 | _=>none
def a55(i:Nat)(k:ZF)(f:ZF):SF:=fun e=>F5 (f e) fun d e1=>match look e1 i with
 | none=>none
 | some _=>F5 (k e1) fun j e2=>match e2[i]?,j with
  | some (.ow ds),.int j=>match N2 ds.length j with
   | some n=>some (.nx (e2.set i (.ow (ds.set n d))))
   | none=>none
  | _,_=>none
section
variable {K:W.Frag}{cl:Str→Addr}{E:XK}{σ:St}{H F:Hp}{env:DE}
theorem Gr.fx{H' F':Hp}(g:Gr H F H' F'):FX σ H F env H' F':=⟨g.fz,g.sub,fun a o h f _=>g.hid a o h f,g.dom⟩
theorem a4h{g:List D→Option R1}{ds:List D}{vs:List V}{Q:VK}(R:Rel K cl σ H F env)(p:Rps K cl F ds vs)(h:Ct K cl E (PZ K cl) (toZ (g ds) env) σ H F env Q):k6 K cl g (vs++[]) H Q E:=by
 rw[List.append_nil]
 refine⟨ds,F,R.sub,p,?_⟩
 unfold toZ at h
 split at h
 ·exact h.elim
 ·exact fun v H' F' gr r=>h v H' F' (R.frm gr) (R.gr gr) r
 ·rename_i es _
  intro a xs H' F' gr ha hH hF r
  have sF:Same F' (upd F' a (.lst xs)):=O5 hF _
  have gr':Gr H F H' (upd F' a (.lst xs)):=by
   refine⟨gr.fz.trans sF,fun b o z=>?_,fun b o hb fb=>?_⟩
   ·by_cases y:b=a
    ·subst y;rw[i8]at z;cases z;exact hH
    ·rw[b9 y]at z;exact gr.sub _ _ z
   ·obtain⟨h1,f1⟩:=gr.hid b o hb fb
    have nb:b≠a:=fun z=>by rw[z,ha]at hb;cases hb
    exact⟨h1,by rw[b9 nb];exact f1⟩
  exact h _ H' _ (R.frm gr') (R.gr gr') (by show Rp K cl _ (.lst es) _;simp only[Rp];exact⟨a,xs,rfl,i8,r.mono sF⟩)
 ·exact h.elim
 ·exact h.elim
 ·exact fun H' F' gr=>h H' F' gr.fx
theorem a5e{r:Option R1}{e:DE}{P:Py D V}{Q:VK}(h:Ct K cl E P (a0W r e) σ H F env Q):toZ r e=a0W r e∧∀c,r≠some (.ex c):=by
 unfold a0W at h
 split at h
 ·exact⟨rfl,fun c z=>by cases z⟩
 ·exact⟨rfl,fun c z=>by cases z⟩
 ·exact h.elim
theorem a2O{g:List D→Option R1}{t:TA}{f:AF}(hf:N4 K cl E t f):u2 K cl E (a0c (k6 K cl g) [] E t) (S9 g f):=by
 intro σ H Q env F R h
 refine hf σ H _ env F R ((Ct.bnd h O6).mono fun vs H1 ⟨F1,e1,ds,s1,R1,p1,h1⟩=>a4h R1 p1 h1)
theorem n5{g:List D→Option R1}{t:TA}{f:AF}(hf:N4 K cl E t f):u2 K cl E (a0c (k6 K cl g) [] E0 t) (g8 g f):=by
 intro σ H Q env F R h
 refine hf σ H _ env F R ((Ct.bnd h O6).mono fun vs H1 ⟨F1,e1,ds,s1,R1,p1,h1⟩=>?_)
 refine a4h R1 p1 ?_
 obtain⟨z,n⟩:=a5e h1
 rw[z]
 unfold Ct at h1 ⊢
 split at h1
 ·exact h1
 ·exact h1
 ·rename_i c q
  exact absurd q (by unfold a0W;split<;>intro y<;>cases y)
theorem u3:RfS K cl E a8O m4:=fun N σ H env F R h=>h σ H F Frm.refl R
theorem g7{t u:TS}{f k:SF}(hf:RfS K cl E t f)(hk:RfS K cl E u k):RfS K cl E (a2C t u) (d7 f k):=by
 intro N σ H env F R h
 refine hf _ σ H env F R ?_
 unfold d7 at h
 split at h
 ·rename_i e1 q
  rw[q]
  intro σ' H' F' fr R'
  exact hk N σ' H' e1 F' R' (h.from fr)
 ·rename_i n
  unfold Cs at h ⊢
  split at h
  ·exact h
  ·rename_i e q;exact absurd q (n e)
  all_goals exact h
theorem a0X{i:Nat}{s:Sl}{e:DE}{N:Ends}{σ0:St}{H0 F0:Hp}{env0:DE}(h:Cs K cl E (put i s e) σ0 H0 F0 env0 N):i<e.length∧(∀ds,e[i]?≠some (.hd ds))∧Cs K cl E (some (.nx (e.set i s))) σ0 H0 F0 env0 N:=by
 unfold put at h
 split at h
 ·exact h.elim
 ·exact h.elim
 ·rename_i z n q
  exact⟨(List.getElem?_eq_some_iff.mp q).1,fun ds y=>by rw[q]at y;cases y;exact n ds rfl,h⟩
theorem v9{i:Nat}{t:TE}{f:ZF}(hf:u2 K cl E t f):RfS K cl E (X7 t (N0 i)) (r9 i f):=by
 intro N σ H env F R h
 refine hf σ H _ env F R ((Cs.bnd h).mono fun x H1 ⟨F1,e1,d,fr,R1,p1,h1⟩=>?_)
 obtain⟨hi,nh,h2⟩:=a0X h1
 exact h2 _ H1 F1 (fr.trans (Frm.put nh)) (R1.put hi nh p1)
theorem Z2{i:Nat}{t:TE}{f:NF}(hf:RfN K cl E t f):RfS K cl E (X7 t (N0 i)) (N8 i f):=by
 intro N σ H env F R h
 refine hf σ H _ env F R ((Cs.bnd h).mono fun x H1 ⟨F1,e1,ds,fr,R1,p1,h1⟩=>?_)
 obtain⟨a,xs,rfl,hn,hH,hF,nm,r⟩:=p1
 obtain⟨hi,nh,h2⟩:=a0X h1
 exact h2 _ H1 F1 (fr.putO hn nh) (R1.putO hi hH hF nm r)
theorem l5{t:TE}{f:ZF}(hf:u2 K cl E t f):RfS K cl E (a3T t) (i9 f):=by
 intro N σ H env F R h
 exact hf σ H _ env F R ((Cs.bnd h).mono fun x H1 ⟨F1,e1,d,fr,R1,p1,h1⟩=>h1 x H1 F1 (fr.toFX R1.sub) p1)
theorem a1i{t:TE}{f:NF}(hf:RfN K cl E t f):RfS K cl E (a3T t) (a0s f):=by
 intro N σ H env F R h
 refine hf σ H _ env F R ((Cs.bnd h).mono fun x H1 ⟨F1,e1,ds,fr,R1,p1,h1⟩=>?_)
 obtain⟨a,xs,rfl,hn,hH,hF,nm,r⟩:=p1
 exact h1 a xs H1 F1 (fr.toFX R1.sub) hH hF (fun o e=>by rw[hn]at e;cases e) r
theorem a5f{i:Nat}:RfS K cl E (a3T (E6 i)) (T1 i):=by
 intro N σ H env F R h
 unfold T1 at h
 split at h
 ·rename_i d q
  obtain⟨v,e,r⟩:=R.fz i d q
  exact⟨v,e,h v H F (Frm.refl.toFX R.sub) r⟩
 ·rename_i ds q
  obtain⟨a,xs,e,hH,hF,r⟩:=R.mu i ds (.inl q)
  exact⟨_,e,h a xs H F (Frm.refl.toFX R.sub) hH hF (fun o _=>⟨i,.ow ds,True.intro,q,e⟩) r⟩
 ·exact h.elim
theorem n8{c:TT}{t u:TS}{b:BF}{f k:SF}(hc:R9 K cl E c b)(hf:RfS K cl E t f)(hk:RfS K cl E u k):RfS K cl E (b09 c t u) (m5 b f k):=by
 intro N σ H env F R h
 refine hc σ H _ env F R ((Cs.bnd h).mono fun x H1 ⟨F1,e1,d,fr,R1,p1,h1⟩=>?_)
 cases (show x=d from p1)
 by_cases z:x=true
 ·rw[if_pos z]at h1 ⊢;exact hf N σ H1 e1 F1 R1 (h1.from fr)
 ·rw[if_neg z]at h1 ⊢;exact hk N σ H1 e1 F1 R1 (h1.from fr)
theorem a4i{c:Str}{t:TA}{f:AF}(hf:N4 K cl E t f):RfS K cl E (a6A (cl c) E t) (Z1 c f):=by
 intro N σ H env F R h
 refine hf σ H _ env F R ((Cs.bnd h).mono fun xs H1 ⟨F1,e1,ds,fr,R1,p1,h1⟩=>?_)
 have hl:ds.length=xs.length:=Rps.length p1
 split at h1
 ·rename_i z
  exact⟨by rw[← hl];exact z,h1 H1 F1 (fr.toFX R1.sub) none rfl⟩
 ·exact h1.elim
theorem a2P{i:Nat}{g:List D→Option R1}{t:TA}{f:AF}(hf:N4 K cl E t f):RfS K cl E (X7 (a0c (k6 K cl g) [] E t) (N0 i)) (K6 i g f):=by
 intro N σ H env F R h
 refine hf σ H _ env F R ((Cs.bnd h).mono fun vs H1 ⟨F1,e1,ds,fr,R1,p1,h1⟩=>?_)
 show k6 K cl g (vs++[]) H1 _ E
 rw[List.append_nil]
 refine⟨ds,F1,R1.sub,p1,?_⟩
 unfold a2g at h1
 split at h1
 ·exact h1.elim
 ·obtain⟨hi,nh,h2⟩:=a0X h1
  exact fun v H' F' gr r=>h2 _ H' F' ((fr.trans (R1.frm gr)).trans (Frm.put nh)) ((R1.gr gr).put hi nh r)
 ·obtain⟨hi,nh,h2⟩:=a0X h1
  intro a xs H' F' gr ha hH hF r
  refine h2 _ H' F' ((fr.trans (R1.frm gr)).putO (fr.dom a ha) nh) ((R1.gr gr).putO hi hH hF (fun j mj e=>?_) r)
  obtain⟨es,q⟩:=mj
  obtain⟨b,ys,e',hb,_⟩:=R1.mu j es q
  rw[e]at e';cases e'
  rw[ha]at hb;cases hb
 ·exact h1.elim
 ·exact h1.elim
 ·exact fun H' F' gr=>h1 H' F' (fr.fx gr.fx)
theorem a1M{i:Nat}{g:List D→Option R1}{t:TA}{f:AF}(hf:N4 K cl E t f):RfS K cl E (X7 (a0c (k6 K cl g) [] E0 t) (N0 i)) (E1 i g f):=by
 intro N σ H env F R h
 refine hf σ H _ env F R ((Cs.bnd h).mono fun vs H1 ⟨F1,e1,ds,fr,R1,p1,h1⟩=>?_)
 show k6 K cl g (vs++[]) H1 _ E0
 rw[List.append_nil]
 refine⟨ds,F1,R1.sub,p1,?_⟩
 unfold a2h at h1
 split at h1
 ·rename_i q;rw[q]
  obtain⟨hi,nh,h2⟩:=a0X h1
  exact fun v H' F' gr r=>h2 _ H' F' ((fr.trans (R1.frm gr)).trans (Frm.put nh)) ((R1.gr gr).put hi nh r)
 ·rename_i q;rw[q]
  obtain⟨hi,nh,h2⟩:=a0X h1
  intro a xs H' F' gr ha hH hF r
  refine h2 _ H' F' ((fr.trans (R1.frm gr)).putO (fr.dom a ha) nh) ((R1.gr gr).putO hi hH hF (fun j mj e=>?_) r)
  obtain⟨es,q⟩:=mj
  obtain⟨b,ys,e',hb,_⟩:=R1.mu j es q
  rw[e]at e';cases e'
  rw[ha]at hb;cases hb
 ·exact h1.elim
theorem a7I{g:List D→Option R1}{t:TA}{f:AF}(hf:N4 K cl E t f):RfS K cl E (a3T (a0c (k6 K cl g) [] E0 t)) (a2j g f):=by
 intro N σ H env F R h
 refine hf σ H _ env F R ((Cs.bnd h).mono fun vs H1 ⟨F1,e1,ds,fr,R1,p1,h1⟩=>?_)
 show k6 K cl g (vs++[]) H1 _ E0
 rw[List.append_nil]
 refine⟨ds,F1,R1.sub,p1,?_⟩
 unfold a2i at h1
 split at h1
 ·rename_i q;rw[q]
  exact fun v H' F' gr r=>h1 v H' F' (fr.fx gr.fx) r
 ·rename_i q;rw[q]
  exact fun a xs H' F' gr ha hH hF r=>h1 a xs H' F' (fr.fx gr.fx) hH hF (fun o e=>by rw[fr.dom a ha]at e;cases e) r
 ·exact h1.elim
theorem Rel.change{i:Nat}{ds es:List D}{a:Addr}{ys:List V}(R:Rel K cl σ H F env)(h:env[i]? = some (.ow ds))(e:σ[i]? = some (some (.ref a)))(r:Rps K cl F es ys) :
  Rel K cl σ (upd H a (.lst ys)) F (env.set i (.ow es))∧Frm σ H F env σ (upd H a (.lst ys)) F (env.set i (.ow es)):=by
 obtain⟨a',xs,e',hH,hF,_⟩:=R.mu i ds (.inl h)
 rw[e]at e';cases e'
 have hi:i<env.length:=(List.getElem?_eq_some_iff.mp h).1
 have self:(env.set i (.ow es))[i]? = some (.ow es):=List.getElem?_set_self hi
 have oth:∀j,j≠i→(env.set i (.ow es))[j]? = env[j]?:=fun j hj=>List.getElem?_set_ne (Ne.symm hj)
 have mui:∀j,Mu (env.set i (.ow es)) j→Mu env j:=fun j ⟨fs,q⟩=>by
  by_cases z:j=i
  ·subst z;exact⟨ds,.inl h⟩
  ·rw[oth j z]at q;exact⟨fs,q⟩
 refine⟨⟨fun b o q=>?_,by rw[List.length_set];exact R.len,fun j d q=>?_,fun j fs q=>?_,fun j k b hj hk=>R.inj j k b (mui j hj) (mui k hk),(R.od.updL hH).setE a0l⟩,⟨Same.refl _,fun b o hb fb w=>?_,fun j fs q=>?_,fun b q=>?_⟩⟩
 ·have z:b≠a:=fun z=>by rw[z,hF]at q;cases q
  rw[b9 z];exact R.sub _ _ q
 ·have z:j≠i:=fun z=>by subst z;rw[self]at q;cases q
  rw[oth j z]at q;exact R.fz j d q
 ·by_cases z:j=i
  ·subst z
   rw[self]at q
   rcases q with q | q
   ·cases q;exact⟨a,ys,e,i8,hF,r⟩
   ·cases q
  ·rw[oth j z]at q
   obtain⟨b,zs,e1,h1,f1,r1⟩:=R.mu j fs q
   have nb:b≠a:=fun y=>z (R.inj j i b ⟨fs,q⟩ ⟨ds,.inl h⟩ e1 (by rw[y];exact e))
   exact⟨b,zs,e1,by rw[b9 nb];exact h1,f1,r1⟩
 ·have z:b≠a:=fun z=>w ⟨i,.ow ds,True.intro,h,by rw[z];exact e⟩
  refine⟨by rw[b9 z];exact hb,fb,fun⟨j,fs,oo,q,e1⟩=>?_⟩
  by_cases y:j=i
  ·subst y;rw[e]at e1;cases e1;exact z rfl
  ·rw[oth j y]at q;exact w ⟨j,fs,oo,q,e1⟩
 ·have z:j≠i:=fun z=>by subst z;rw[h]at q;cases q
  exact⟨by rw[oth j z];exact q,rfl⟩
 ·by_cases z:b=a
  ·rw[z,i8]at q;cases q
  ·rw[b9 z]at q;exact q
theorem a2k{i:Nat}{t:TE}{f:ZF}(hf:u2 K cl E t f):RfS K cl E (a8P (tBM K "list" a44 (E6 i) (I0 t U5))) (S4 i f):=by
 intro N σ H env F R h
 unfold S4 at h
 split at h
 ·rename_i ds0 q
  obtain⟨x,e0,rb⟩:=R.look q
  obtain⟨a0,xs0,rfl,hH0,_⟩:=rb.lst R.sub
  refine⟨_,e0,.inl ⟨rfl,xs0,.of hH0⟩,?_⟩
  ·refine hf σ H _ env F R ((Cs.bnd h).mono fun y H1 ⟨F1,e1,d,fr,R1,p1,h1⟩=>?_)
   split at h1
   ·rename_i ds q1
    split at h1
    ·rename_i c
     obtain⟨a,xs,e,hH,hF,r⟩:=R1.mu i ds (.inl q1)
     rw[e0]at e;cases e
     obtain⟨R2,f2⟩:=R1.change q1 e0 (r.append (.one p1))
     exact⟨_,xs,y,rfl,rfl,hH,by rw[← r.length];exact c,h1 σ _ F1 (fr.trans f2) R2⟩
    ·exact h1.elim
   ·exact h1.elim
 ·exact h.elim
theorem b1I{i:Nat}{t u:TE}{f k:ZF}(hf:u2 K cl E t f)(hk:u2 K cl E u k):RfS K cl E (X7 t (a7n (E6 i) u a5O)) (a55 i k f):=by
 intro N σ H env F R h
 refine hf σ H _ env F R ((Cs.bnd h).mono fun x H1 ⟨F1,e1,d,fr,R1,p1,h1⟩=>?_)
 cases q:look e1 i with
 | none=>simp only[q]at h1;exact h1.elim
 | some d0 =>
  simp only[q]at h1
  obtain⟨o,e0,_⟩:=R1.look q
  refine⟨o,e0,hk σ H1 _ e1 F1 R1 ((Cs.bnd (h1.from fr)).mono fun y H2 ⟨F2,e2,j,fr2,R2,p2,h2⟩=>?_)⟩
  split at h2
  ·rename_i _ _ ds j q2
   split at h2
   ·rename_i n hn
    obtain⟨a,xs,e,hH,hF,r⟩:=R2.mu i ds (.inl q2)
    rw[e0]at e;cases e
    obtain⟨R3,f3⟩:=R2.change q2 e0 (r.set (Rp.mono fr2.fz _ _ p1) n)
    have hy:y=.int j:=by have:=(show Rp K cl F2 (.int j) y from p2);simpa only[Rp]using this
    exact⟨a,xs,j,n,rfl,hy,hH,by rw[← r.length];exact hn,h2 σ _ F2 (fr2.trans f3) R3⟩
   ·exact h2.elim
  ·exact h2.elim
end
abbrev GF:=D→DE→Option DE
def g0(i:Nat):GF:=fun d e=>match e[i]? with
 | none=>none
 | some (.hd _)=>none
 | some _=>some (e.set i (.fz d))
def a0t:List GF→List D→DE→Option DE
 | [],[],e=>some e
 | b::bs,d::ds,e=>match b d e with
  | none=>none
  | some e1=>a0t bs ds e1
 | _,_,_=>none
def w4(bs:List GF):GF:=fun d e=>match d with
 | .tup ds=>a0t bs ds e
 | _=>none
section
variable (K:W.Frag)(cl:Str→Addr)
def G3(k:Nat)(g:TG)(b:GF):Prop:=∀v σ H Q d env env' F,Rel K cl σ H F env→Rp K cl F d v→b d env=some env'→(∀σ',σ'.drop k=σ.drop k→σ'.length=σ.length→Frm σ H F env σ' H F env'→Rel K cl σ' H F env'→Q σ' H)→g v σ H Q
def a56(k:Nat)(t:TGs)(bs:List GF):Prop:=∀vs σ H Q ds env env' F,Rel K cl σ H F env→Rps K cl F ds vs→a0t bs ds env=some env'→(∀σ',σ'.drop k=σ.drop k→σ'.length=σ.length→Frm σ H F env σ' H F env'→Rel K cl σ' H F env'→Q σ' H)→t vs σ H Q
end
section
variable {K:W.Frag}{cl:Str→Addr}{E:XK}{σ:St}{H F:Hp}{env:DE}{k:Nat}
theorem a7J{α:Type}{l:List α}{i k:Nat}{x:α}(h:i<k):(l.set i x).drop k=l.drop k:=by
 apply List.ext_getElem?
 intro j
 rw[List.getElem?_drop,List.getElem?_drop,List.getElem?_set_ne (by omega)]
theorem j0{i:Nat}(hi:i<k):G3 K cl k (N0 i) (g0 i):=by
 intro v σ H Q d env env' F R p h q
 unfold g0 at h
 split at h
 ·cases h
 ·cases h
 ·rename_i z n e
  cases h
  have nh:∀ds,env[i]?≠some (.hd ds):=fun ds y=>by rw[e]at y;cases y;exact n ds rfl
  exact q _ (a7J hi) List.length_set (Frm.put nh) (R.put (List.getElem?_eq_some_iff.mp e).1 nh p)
theorem D0:a56 K cl k a7m []:=by
 intro vs σ H Q ds env env' F R p h q
 cases ds with
 | nil=>cases h;exact⟨p.inv0,q σ rfl rfl Frm.refl R⟩
 | cons _ _=>cases h
theorem l3{t:TG}{u:TGs}{b:GF}{bs:List GF}(h1:G3 K cl k t b)(h2:a56 K cl k u bs):a56 K cl k (a3C t u) (b::bs):=by
 intro vs σ H Q ds env env' F R p h q
 cases ds with
 | nil=>cases h
 | cons d ds =>
  obtain⟨v,r,rfl,p1,p2⟩:=p.inv
  unfold a0t at h
  split at h
  ·cases h
  ·rename_i e1 hb
   refine⟨v,r,rfl,h1 v σ H _ d env e1 F R p1 hb fun σ1 d1 l1 f1 R1=>?_⟩
   exact h2 r σ1 H _ ds e1 env' F R1 p2 h fun σ2 d2 l2 f2 R2=>q σ2 (d2.trans d1) (l2.trans l1) (f1.trans f2) R2
theorem a3j:∀{bs:List GF} {ds:List D} {e e':DE},a0t bs ds e=some e'→ds.length=bs.length
 | [],[],_,_,_=>rfl
 | [],_::_,_,_,h=>by cases h
 | _::_,[],_,_,h=>by cases h
 | b::bs,d::ds,e,e',h=>by
  unfold a0t at h
  split at h
  ·cases h
  ·simp[a3j h]
theorem D1{t:TGs}{bs:List GF}{n:Nat}(h:a56 K cl k t bs)(hn:bs.length=n):G3 K cl k (a5B K n t) (w4 bs):=by
 intro v σ H Q d env env' F R p e q
 unfold w4 at e
 split at e
 ·rename_i ds
  simp only[Rp]at p
  obtain⟨a,xs,rfl,hF,r⟩:=p
  exact⟨a,xs,rfl,.of (R.sub _ _ hF),by rw[← r.length,a3j e,hn],h xs σ H Q ds env env' F R r e q⟩
 ·cases e
def X9(f:ZF)(b:GF):SF:=fun e=>F5 (f e) fun d e1=>match b d e1 with
 | none=>none
 | some e2=>some (.nx e2)
theorem Z3{t:TE}{g:TG}{f:ZF}{b:GF}(hf:u2 K cl E t f)(hg:G3 K cl k g b):RfS K cl E (X7 t g) (X9 f b):=by
 intro N σ H env F R h
 refine hf σ H _ env F R ((Cs.bnd h).mono fun x H1 ⟨F1,e1,d,fr,R1,p1,h1⟩=>?_)
 split at h1
 ·exact h1.elim
 ·rename_i e2 hb
  exact hg x σ H1 _ d e1 e2 F1 R1 p1 hb fun σ' _ _ f2 R2=>h1 σ' H1 F1 (fr.trans f2) R2
def t6(b:GF)(body:SF):List D→DE→Option RS
 | [],e=>some (.nx e)
 | d::ds,e=>match b d e with
  | none=>none
  | some e1=>match body e1 with
   | some (.nx e2)=>t6 b body ds e2
   | some (.ct e2)=>t6 b body ds e2
   | some (.bk e2)=>some (.nx e2)
   | r=>r
theorem a1N{b:GF}{body:SF}{g:TG}{tb:TS}{d:D}{x:V}{ds:List D}{e1:DE}{N:Ends}{σ1:St}{H1 F1:Hp}{Pv:St→Hp→Prop}(hb:RfS K cl E tb body)(hg:G3 K cl k g b)
  (f1:Frm σ H F env σ1 H1 F1 e1) (R1:Rel K cl σ1 H1 F1 e1) (p:Rp K cl F1 d x) (h:Cs K cl E (t6 b body (d::ds) e1) σ H F env N)
  (hP:∀σ' H' F' e',Frm σ H F env σ' H' F' e'→Rel K cl σ' H' F' e'→Cs K cl E (t6 b body ds e') σ H F env N→Pv σ' H') :
  g x σ1 H1 fun σ2 H2=>tb { N with nx:=Pv,ct:=Pv,bk:=N.nx } σ2 H2:=by
 unfold t6 at h
 split at h
 ·exact h.elim
 ·rename_i e2 hbd
  refine hg x σ1 H1 _ d e1 e2 F1 R1 p hbd fun σ2 _ _ f2 R2=>?_
  refine hb _ σ2 H1 e2 F1 R2 ?_
  split at h
  ·rename_i e3 q;rw[q]
   exact fun σ' H' F' f3 R3=>hP σ' H' F' e3 ((f1.trans f2).trans f3) R3 h
  ·rename_i e3 q;rw[q]
   exact fun σ' H' F' f3 R3=>hP σ' H' F' e3 ((f1.trans f2).trans f3) R3 h
  ·rename_i e3 q;rw[q]
   exact fun σ' H' F' f3 R3=>h σ' H' F' ((f1.trans f2).trans f3) R3
  ·rename_i n1 n2 n3
   have h2:=h.from (f1.trans f2)
   unfold Cs at h2 ⊢
   split at h2
   ·exact h2
   ·rename_i e q;exact absurd q (n1 e)
   ·rename_i e q;exact absurd q (n3 e)
   ·rename_i e q;exact absurd q (n2 e)
   ·exact h2
   ·exact h2
   ·exact h2
   ·exact h2
   ·exact h2
theorem L9{α:Type}{l:List α}{i:Nat}{x:α}(h:l[i]? = some x):l.drop i=x::l.drop (i+1):=by
 obtain⟨hi,e⟩:=List.getElem?_eq_some_iff.mp h
 rw[← e];exact List.drop_eq_getElem_cons hi
theorem a7K{b:GF}{body:SF}{g:TG}{tb:TS}{ds:List D}{xs:List V}{a:Addr}{N:Ends}(hb:RfS K cl E tb body)(hg:G3 K cl k g b)(R:Rel K cl σ H F env)
  (hl:∀σ' H' F' e',Frm σ H F env σ' H' F' e'→Rel K cl σ' H' F' e'→SqL K H' a xs) (r:Rps K cl F ds xs) (h:Cs K cl E (t6 b body ds env) σ H F env N) :
  ∃W:Nat→Nat→St→Hp→Prop,(∃m,W 0 m σ H)∧∀i m σ H,W i m σ H →
   ((Itl K a).stop i H∧N.nx σ H)∨((Itl K a).go i H∧∃M:St→Hp→Prop,(∀σ' H',M σ' H'→∃m',m'<m∧W (i+1) m' σ' H')∧∀x H',(Itl K a).yld i H x H'→g x σ H' fun σ2 H2=>tb { N with nx:=M,ct:=M,bk:=N.nx } σ2 H2):=by
 refine a7o (xs:=xs) (fun i σ' H'=>∃F' e',Frm σ H F env σ' H' F' e'∧Rel K cl σ' H' F' e'∧Cs K cl E (t6 b body (ds.drop i) e') σ H F env N) ⟨F,env,Frm.refl,R,h⟩ (fun i σ' H' _ ⟨F',e',f,R',_⟩=>hl σ' H' F' e' f R') (fun i x σ' H' hx ⟨F',e',f,R',h'⟩=>?_) (fun σ' H' ⟨F',e',f,R',h'⟩=>?_)
 ·obtain⟨d,hd,p⟩:=r.get' hx
  rw[L9 hd]at h'
  exact a1N hb hg f R' (Rp.mono f.fz _ _ p) h' fun σ2 H2 F2 e2 f2 R2 h2=>⟨F2,e2,f2,R2,h2⟩
 ·rw[← r.length,List.drop_length]at h'
  exact h' σ' H' F' f R'
def seqL:D→Option (List D)
 | .lst ds=>some ds
 | .scr ns=>some (ns.map .int)
 | _=>none
theorem Rp.seqL{d:D}{ds:List D}{v:V}(p:Rp K cl F d v)(s:L2.seqL d=some ds):∃a xs,v=.ref a∧Rps K cl F ds xs∧∀H',Same F H'→SqL K H' a xs:=by
 unfold L2.seqL at s
 split at s
 ·cases s;simp only[Rp]at p
  obtain⟨a,xs,e,h,r⟩:=p
  exact⟨a,xs,e,r,fun H' g=>.of (g _ _ h)⟩
 ·cases s;simp only[Rp]at p
  obtain⟨a,e,h⟩:=p
  exact⟨a,_,e,Rps.ofInts,fun H' g=>(h.same g).seq⟩
 ·cases s
def A6(lo:Int)(n:Nat):List D:=(List.range n).map fun(i:Nat)=>.int (lo+(i:Int))
theorem a0Y{lo:Int}{n i:Nat}(h:i<n):(A6 lo n).drop i=.int (lo+i)::(A6 lo n).drop (i+1):=L9 (by unfold A6;rw[List.getElem?_map,List.getElem?_range h];rfl)
theorem V0{lo:Int}{n:Nat}:(A6 lo n).length=n:=by unfold A6;rw[List.length_map,List.length_range]
theorem b2O{b:GF}{body:SF}{g:TG}{tb:TS}{lo:Int}{n:Nat}{N:Ends}(hb:RfS K cl E tb body)(hg:G3 K cl k g b)(R:Rel K cl σ H F env)(h:Cs K cl E (t6 b body (A6 lo n) env) σ H F env N) :
  ∃W:Nat→Nat→St→Hp→Prop,(∃m,W 0 m σ H)∧∀i m σ H,W i m σ H →
   ((Itr lo n).stop i H∧N.nx σ H)∨((Itr lo n).go i H∧∃M:St→Hp→Prop,(∀σ' H',M σ' H'→∃m',m'<m∧W (i+1) m' σ' H')∧∀x H',(Itr lo n).yld i H x H'→g x σ H' fun σ2 H2=>tb { N with nx:=M,ct:=M,bk:=N.nx } σ2 H2):=by
 refine a25 (fun i σ' H'=>∃F' e',Frm σ H F env σ' H' F' e'∧Rel K cl σ' H' F' e'∧Cs K cl E (t6 b body ((A6 lo n).drop i) e') σ H F env N) ⟨F,env,Frm.refl,R,h⟩ (fun i σ' H' hx ⟨F',e',f,R',h'⟩=>?_) (fun σ' H' ⟨F',e',f,R',h'⟩=>?_)
 ·rw[a0Y hx]at h'
  exact a1N hb hg f R' (by simp only[Rp]) h' fun σ2 H2 F2 e2 f2 R2 h2=>⟨F2,e2,f2,R2,h2⟩
 ·rw[show(A6 lo n).drop n=[]from List.drop_eq_nil_of_le (by rw[V0];exact Nat.le_refl _)]at h'
  exact h' σ' H' F' f R'
def O8(ds:List D):Option (Int×Nat):=match ds with
 | [.int j]=>if -(2 ^ 62)≤j∧j<2 ^ 62 then some (0,j.toNat)else none
 | _=>none
def a2Q(ds:List D):Option (Int×Nat):=match ds with
 | [.int i,.int j]=>if -(2 ^ 62)≤i∧i<2 ^ 62∧-(2 ^ 62)≤j∧j<2 ^ 62 then some (i,(j-i).toNat)else none
 | _=>none
theorem a5g{ds:List D}{vs:List V}{lo:Int}{n:Nat}(h:O8 ds=some (lo,n))(p:Rps K cl F ds vs):∃j:Int,vs=[.int j]∧-(2 ^ 62)≤j∧j<2 ^ 62∧lo=0∧n=j.toNat:=by
 unfold O8 at h
 split at h
 ·rename_i j
  split at h
  ·rename_i c;cases h
   exact⟨j,(Rps.ints (ns:=[j]) p),c.1,c.2,rfl,rfl⟩
  ·cases h
 ·cases h
theorem a9C{ds:List D}{vs:List V}{lo:Int}{n:Nat}(h:a2Q ds=some (lo,n))(p:Rps K cl F ds vs):∃i j:Int,vs=[.int i,.int j]∧(-(2 ^ 62)≤i∧i<2 ^ 62∧-(2 ^ 62)≤j∧j<2 ^ 62)∧lo=i∧n=(j-i).toNat:=by
 unfold a2Q at h
 split at h
 ·rename_i i j
  split at h
  ·rename_i c;cases h
   exact⟨_,j,(Rps.ints (ns:=[_,j]) p),c,rfl,rfl⟩
  ·cases h
 ·cases h
def T5(rg:List D→Option (Int×Nat))(f:AF)(b:GF)(body:SF):SF:=fun e=>F5 (f e) fun ds e1=>match rg ds with
 | none=>none
 | some (lo,n)=>t6 b body (A6 lo n) e1
theorem a1O{t:TA}{g:TG}{tb:TS}{f:AF}{b:GF}{body:SF}(hf:N4 K cl E t f)(hg:G3 K cl k g b)(hb:RfS K cl E tb body):RfS K cl E (a1E (a3D t) g tb) (T5 O8 f b body):=by
 intro N σ H env F R h
 refine hf σ H _ env F R ((Cs.bnd h).mono fun x H1 ⟨F1,e1,ds,fr,R1,p1,h1⟩=>?_)
 split at h1
 ·exact h1.elim
 ·rename_i lo n hs
  obtain⟨j,e,c1,c2,rfl,rfl⟩:=a5g hs p1
  exact⟨j,e,c1,c2,b2O hb hg R1 (h1.from fr)⟩
end
section
variable {K:W.Frag}{cl:Str→Addr}{E:XK}{σ:St}{H F:Hp}{env:DE}{k:Nat}
def unhide(i:Nat)(ds:List D)(r:Option RS):Option RS:=match r with
 | some (.nx e)=>some (.nx (e.set i (.ow ds)))
 | some (.bk _)=>none
 | some (.ct _)=>none
 | r=>r
theorem Rel.hide{i:Nat}{ds:List D}(R:Rel K cl σ H F env)(h:env[i]? = some (.ow ds)):Rel K cl σ H F (env.set i (.hd ds)):=by
 have hi:i<env.length:=(List.getElem?_eq_some_iff.mp h).1
 have self:(env.set i (.hd ds))[i]? = some (.hd ds):=List.getElem?_set_self hi
 have oth:∀j,j≠i→(env.set i (.hd ds))[j]? = env[j]?:=fun j hj=>List.getElem?_set_ne (Ne.symm hj)
 have mui:∀(j:Nat) (fs:List D),(env.set i (.hd ds))[j]? = some (.ow fs)∨(env.set i (.hd ds))[j]? = some (.hd fs)→env[j]? = some (.ow fs)∨env[j]? = some (.hd fs):=fun j fs q=>by
  by_cases z:j=i
  ·subst z;rw[self]at q;rcases q with q | q<;>cases q;exact .inl h
  ·rw[oth j z]at q;exact q
 refine⟨R.sub,by rw[List.length_set];exact R.len,fun j d q=>?_,fun j fs q=>R.mu j fs (mui j fs q),fun j l b ⟨fs,q⟩ ⟨gs,q'⟩=>R.inj j l b ⟨fs,mui j fs q⟩ ⟨gs,mui l gs q'⟩,R.od.setE a2c⟩
 have z:j≠i:=fun z=>by subst z;rw[self]at q;cases q
 rw[oth j z]at q;exact R.fz j d q
theorem Ow.hide{i:Nat}{ds:List D}{a:Addr}(w:Ow σ (env.set i (.hd ds)) a):Ow σ env a:=by
 obtain⟨j,fs,oo,q,e⟩:=w
 by_cases z:j=i
 ·subst z
  have hj:j<env.length:=by have:=(List.getElem?_eq_some_iff.mp q).1;rwa [List.length_set]at this
  rw[List.getElem?_set_self hj]at q;cases q;exact oo.elim
 ·rw[List.getElem?_set_ne (Ne.symm z)]at q;exact⟨j,fs,oo,q,e⟩
theorem Rel.unhide{i:Nat}{ds:List D}(R:Rel K cl σ H F env)(h:env[i]? = some (.hd ds)):Rel K cl σ H F (env.set i (.ow ds)):=by
 have hi:i<env.length:=(List.getElem?_eq_some_iff.mp h).1
 have self:(env.set i (.ow ds))[i]? = some (.ow ds):=List.getElem?_set_self hi
 have oth:∀j,j≠i→(env.set i (.ow ds))[j]? = env[j]?:=fun j hj=>List.getElem?_set_ne (Ne.symm hj)
 have mui:∀(j:Nat) (fs:List D),(env.set i (.ow ds))[j]? = some (.ow fs)∨(env.set i (.ow ds))[j]? = some (.hd fs)→env[j]? = some (.ow fs)∨env[j]? = some (.hd fs):=fun j fs q=>by
  by_cases z:j=i
  ·subst z;rw[self]at q;rcases q with q | q<;>cases q;exact .inr h
  ·rw[oth j z]at q;exact q
 refine⟨R.sub,by rw[List.length_set];exact R.len,fun j d q=>?_,fun j fs q=>R.mu j fs (mui j fs q),fun j l b ⟨fs,q⟩ ⟨gs,q'⟩=>R.inj j l b ⟨fs,mui j fs q⟩ ⟨gs,mui l gs q'⟩,R.od.setE a0l⟩
 have z:j≠i:=fun z=>by subst z;rw[self]at q;cases q
 rw[oth j z]at q;exact R.fz j d q
theorem Cs.hide{i:Nat}{ds:List D}{r:Option RS}{N:Ends}(R:Rel K cl σ H F env)(h:env[i]? = some (.ow ds))(c:Cs K cl E (unhide i ds r) σ H F env N):Cs K cl E r σ H F (env.set i (.hd ds)) N:=by
 have hi:i<env.length:=(List.getElem?_eq_some_iff.mp h).1
 have self:(env.set i (.hd ds))[i]? = some (.hd ds):=List.getElem?_set_self hi
 have fx:∀{H' F'},FX σ H F (env.set i (.hd ds)) H' F'→FX σ H F env H' F':=fun x=>⟨x.fz,x.sub,fun a o h f w=>x.hid a o h f fun y=>w y.hide,x.dom⟩
 rcases r with _ | r
 ·exact c
 cases r with
 | nx e =>
  intro σ' H' F' f R'
  obtain⟨q,eσ⟩:=f.keep i ds self
  refine c σ' H' F' ⟨f.fz,fun a o ha fa w=>?_,fun j fs q'=>?_,f.dom⟩ (R'.unhide q)
  ·obtain⟨h1,f1,w1⟩:=f.hid a o ha fa fun y=>w y.hide
   refine⟨h1,f1,fun⟨j,fs,oo,q2,e2⟩=>?_⟩
   by_cases z:j=i
   ·subst z
    rw[eσ]at e2
    exact w ⟨j,.ow ds,True.intro,h,e2⟩
   ·rw[List.getElem?_set_ne (Ne.symm z)]at q2
    exact w1 ⟨j,fs,oo,q2,e2⟩
  ·have z:j≠i:=fun z=>by subst z;rw[h]at q';cases q'
   obtain⟨q2,e2⟩:=f.keep j fs (by rw[List.getElem?_set_ne (Ne.symm z)];exact q')
   exact⟨by rw[List.getElem?_set_ne (Ne.symm z)];exact q2,e2⟩
 | bk e=>exact c.elim
 | ct e=>exact c.elim
 | rt d=>exact fun v H' F' x p=>c v H' F' (fx x) p
 | ro es=>exact fun a xs H' F' x ha fa nw p=>c a xs H' F' (fx x) ha fa (fun o e=>(nw o e).hide) p
 | rp n es=>exact fun p a xs H' F' x hp ht fp ha fa nw r=>c p a xs H' F' (fx x) hp ht fp ha fa (fun o e=>(nw o e).hide) r
 | rz dss=>exact fun p as H' F' x hp ht fp rz=>c p as H' F' (fx x) hp ht fp (rz.imp fun a xs ha fa nw o e=>(nw o e).hide)
 | ex n=>exact fun H' F' x=>c H' F' (fx x)
def a0u(i:Nat)(b:GF)(body:SF):SF:=fun e=>match e[i]? with
 | some (.fz d)=>(match seqL d with
  | none=>none
  | some ds=>t6 b body ds e)
 | some (.ow ds)=>unhide i ds (t6 b body ds (e.set i (.hd ds)))
 | some (.hd ds)=>t6 b body ds e
 | _=>none
theorem Rel.hid_stays{i:Nat}{ds:List D}(R:Rel K cl σ H F env)(h:env[i]? = some (.hd ds)):∃a xs,σ[i]? = some (some (.ref a))∧Rps K cl F ds xs∧H a=some (.lst xs)∧∀σ' H' F' e',Frm σ H F env σ' H' F' e'→H' a=some (.lst xs):=by
 obtain⟨a,xs,e,hH,hF,r⟩:=R.mu i ds (.inr h)
 refine⟨a,xs,e,r,hH,fun σ' H' F' e' f=>(f.hid a _ hH hF fun⟨j,fs,oo,q,e'⟩=>?_).1⟩
 cases fs with
 | ow fs =>
  have z:i=j:=R.inj i j a ⟨ds,.inr h⟩ ⟨fs,.inl q⟩ e e'
  subst z;rw[h]at q;cases q
 | od ks fs =>
  obtain⟨a',xs',e2,h2,_⟩:=R.od.at_ j _ ks fs q ⟨rfl,rfl⟩
  rw[e']at e2;cases e2
  rw[hH]at h2
  exact a5a (Option.some.inj h2).symm
 | no=>exact oo
 | fz _=>exact oo
 | hd _=>exact oo
 | hk _ _=>exact oo
theorem a9D{i:Nat}{g:TG}{tb:TS}{b:GF}{body:SF}(hg:G3 K cl k g b)(hb:RfS K cl E tb body):RfS K cl E (a1E (a8Q K (E6 i)) g tb) (a0u i b body):=by
 intro N σ H env F R h
 unfold a0u at h
 split at h
 ·rename_i d q
  split at h
  ·exact h.elim
  ·rename_i ds hs
   obtain⟨v,e,p⟩:=R.fz i d q
   obtain⟨a,xs,rfl,r,hl⟩:=Rp.seqL p hs
   exact⟨_,e,a,rfl,⟨xs,hl H R.sub⟩,a7K hb hg R (fun σ' H' F' e' f2 R2=>hl H' (f2.fz.trans R2.sub)) r h⟩
 ·rename_i ds q
  have hi:i<env.length:=(List.getElem?_eq_some_iff.mp q).1
  have R':=R.hide q
  obtain⟨a,xs,e,r,hH,st⟩:=R'.hid_stays (i:=i) (ds:=ds) (List.getElem?_set_self hi)
  exact⟨_,e,a,rfl,⟨xs,.of hH⟩,a7K hb hg R' (fun σ' H' F' e' f2 R2=>.of (st σ' H' F' e' f2)) r (h.hide R q)⟩
 ·rename_i ds q
  obtain⟨a,xs,e,r,hH,st⟩:=R.hid_stays q
  exact⟨_,e,a,rfl,⟨xs,.of hH⟩,a7K hb hg R (fun σ' H' F' e' f2 R2=>.of (st σ' H' F' e' f2)) r h⟩
 ·exact h.elim
def K0(n:Nat):List D→List D
 | []=>[]
 | d::ds=>.tup [.int n,d]::K0 (n+1) ds
theorem a2R:∀{ds:List D} {n i:Nat} {d:D},ds[i]? = some d→(K0 n ds)[i]? = some (.tup [.int (n+i:Nat),d])
 | [],_,_,_,h=>by simp at h
 | _::_,n,0,_,h=>by simp at h;subst h;rfl
 | _::ds,n,i+1,d,h=>by
  have:=a2R (ds:=ds) (n:=n+1) (i:=i) (d:=d) (by simpa using h)
  show(K0 (n+1) ds)[i]? = _
  rw[this,show n+1+i=n+(i+1) by omega]
theorem a2S:∀{ds:List D} {n:Nat},(K0 n ds).length=ds.length
 | [],_=>rfl
 | _::ds,n=>by show(K0 (n+1) ds).length+1=ds.length+1;rw[a2S]
theorem a57{b:GF}{body:SF}{g:TG}{tb:TS}{ds:List D}{xs:List V}{a:Addr}{N:Ends}(hb:RfS K cl E tb body)(hg:G3 K cl k g b)(R:Rel K cl σ H F env)
  (hl:∀σ' H' F' e',Frm σ H F env σ' H' F' e'→Rel K cl σ' H' F' e'→SqL K H' a xs) (r:Rps K cl F ds xs) (h:Cs K cl E (t6 b body (K0 0 ds) env) σ H F env N) :
  ∃W:Nat→Nat→St→Hp→Prop,(∃m,W 0 m σ H)∧∀i m σ H,W i m σ H →
   ((Ite K a).stop i H∧N.nx σ H)∨((Ite K a).go i H∧∃M:St→Hp→Prop,(∀σ' H',M σ' H'→∃m',m'<m∧W (i+1) m' σ' H')∧∀x H',(Ite K a).yld i H x H'→g x σ H' fun σ2 H2=>tb { N with nx:=M,ct:=M,bk:=N.nx } σ2 H2):=by
 refine a38 (xs:=xs) (fun i σ' H'=>∃F' e',Frm σ H F env σ' H' F' e'∧Rel K cl σ' H' F' e'∧Cs K cl E (t6 b body ((K0 0 ds).drop i) e') σ H F env N) ⟨F,env,Frm.refl,R,h⟩ (fun i σ' H' _ ⟨F',e',f,R',_⟩=>hl σ' H' F' e' f R') (fun i x σ' H' p hx ⟨F',e',f,R',h'⟩ hp=>?_) (fun σ' H' ⟨F',e',f,R',h'⟩=>?_)
 ·obtain⟨d,hd,pd⟩:=r.get' hx
  rw[L9 (a2R hd),Nat.zero_add]at h'
  have gr:Gr H' F' (upd H' p (.tup [.int i,x])) (upd F' p (.tup [.int i,x])):=.new R'.sub hp
  refine a1N hb hg (f.trans (R'.frm gr)) (R'.gr gr) ?_ h' fun σ2 H2 F2 e2 f2 R2 h2=>⟨F2,e2,f2,R2,h2⟩
  simp only[Rp]
  exact⟨p,_,rfl,i8,.cons (by simp only[Rp]) (.one (Rp.mono (f.fz.trans gr.fz) _ _ pd))⟩
 ·rw[← r.length,List.drop_eq_nil_of_le (by rw[a2S];exact Nat.le_refl _)]at h'
  exact h' σ' H' F' f R'
def a2l(f:ZF)(b:GF)(body:SF):SF:=fun e=>F5 (f e) fun d e1=>match seqL d with
 | none=>none
 | some ds=>t6 b body (K0 0 ds) e1
theorem a9E{t:TE}{g:TG}{tb:TS}{f:ZF}{b:GF}{body:SF}(hf:u2 K cl E t f)(hg:G3 K cl k g b)(hb:RfS K cl E tb body):RfS K cl E (a1E (a3H K (I0 t U5)) g tb) (a2l f b body):=by
 intro N σ H env F R h
 refine hf σ H _ env F R ((Cs.bnd h).mono fun x H1 ⟨F1,e1,d,fr,R1,p1,h1⟩=>?_)
 split at h1
 ·exact h1.elim
 ·rename_i ds hs
  obtain⟨a,xs,rfl,r,hl⟩:=Rp.seqL p1 hs
  exact⟨a,rfl,⟨xs,hl H1 R1.sub⟩,a57 hb hg R1 (fun σ' H' F' e' f2 R2=>hl H' (f2.fz.trans R2.sub)) r (h1.from fr)⟩
def V1(i:Nat)(b:GF)(body:SF):SF:=fun e=>match e[i]? with
 | some (.fz d)=>(match seqL d with
  | none=>none
  | some ds=>t6 b body (K0 0 ds) e)
 | some (.ow ds)=>unhide i ds (t6 b body (K0 0 ds) (e.set i (.hd ds)))
 | some (.hd ds)=>t6 b body (K0 0 ds) e
 | _=>none
theorem a4j{i:Nat}{g:TG}{tb:TS}{b:GF}{body:SF}(hg:G3 K cl k g b)(hb:RfS K cl E tb body):RfS K cl E (a1E (a3H K (I0 (E6 i) U5)) g tb) (V1 i b body):=by
 intro N σ H env F R h
 unfold V1 at h
 split at h
 ·rename_i d q
  split at h
  ·exact h.elim
  ·rename_i ds hs
   obtain⟨v,e,p⟩:=R.fz i d q
   obtain⟨a,xs,rfl,r,hl⟩:=Rp.seqL p hs
   exact⟨_,e,a,rfl,⟨xs,hl H R.sub⟩,a57 hb hg R (fun σ' H' F' e' f2 R2=>hl H' (f2.fz.trans R2.sub)) r h⟩
 ·rename_i ds q
  have hi:i<env.length:=(List.getElem?_eq_some_iff.mp q).1
  have R':=R.hide q
  obtain⟨a,xs,e,r,hH,st⟩:=R'.hid_stays (i:=i) (ds:=ds) (List.getElem?_set_self hi)
  exact⟨_,e,a,rfl,⟨xs,.of hH⟩,a57 hb hg R' (fun σ' H' F' e' f2 R2=>.of (st σ' H' F' e' f2)) r (h.hide R q)⟩
 ·rename_i ds q
  obtain⟨a,xs,e,r,hH,st⟩:=R.hid_stays q
  exact⟨_,e,a,rfl,⟨xs,.of hH⟩,a57 hb hg R (fun σ' H' F' e' f2 R2=>.of (st σ' H' F' e' f2)) r h⟩
 ·exact h.elim
def a0Z(e:DE):Bool:=e.all fun s=>match s with
 | .hd _=>false
 | _=>true
def b1J(n i:Nat)(exm:Str→Bool)(body suite:SF):SF:=fun e=>match body e with
 | some (.ex (.v _ _ _))=>none
 | some (.ex (.p c))=>if(exm c && a0Z e)=true then(match suite ((List.replicate n Sl.no).set i (.fz (.exc c)))with
   | some (.nx e2)=>put i .no e2
   | some (.rt d)=>some (.rt d)
   | some (.ro ds)=>some (.ro ds)
   | _=>none)else none
 | r=>r
theorem a9F{e:DE}(h:a0Z e=true)(i:Nat)(ds:List D):e[i]?≠some (.hd ds):=fun q=>by
 have:=List.all_eq_true.mp h _ (List.mem_of_getElem? q)
 cases this
theorem Rel.drop{i:Nat}(R:Rel K cl σ H F env)(nh:∀ds,env[i]?≠some (.hd ds)):Rel K cl (σ.set i none) H F (env.set i .no)∧Frm σ H F env (σ.set i none) H F (env.set i .no):=by
 have key:∀(j:Nat) (s:Sl),(env.set i .no)[j]? = some s→s≠.no→j≠i∧env[j]? = some s:=fun j s q ns=>by
  by_cases z:j=i
  ·subst z
   have hj:j<env.length:=by have:=(List.getElem?_eq_some_iff.mp q).1;rwa [List.length_set]at this
   rw[List.getElem?_set_self hj]at q;cases q;exact absurd rfl ns
  ·rw[List.getElem?_set_ne (Ne.symm z)]at q;exact⟨z,q⟩
 have muk:∀j,Mu (env.set i .no) j→j≠i∧Mu env j:=fun j ⟨ds,q⟩=>by
  rcases q with q | q
  ·obtain⟨z,q⟩:=key j _ q (fun z=>by cases z);exact⟨z,ds,.inl q⟩
  ·obtain⟨z,q⟩:=key j _ q (fun z=>by cases z);exact⟨z,ds,.inr q⟩
 refine⟨⟨R.sub,by rw[List.length_set,List.length_set];exact R.len,fun j d q=>?_,fun j ds q=>?_,fun j l b hj hl e1 e2=>?_,R.od.set a5Z⟩,⟨Same.refl _,fun a o h f w=>⟨h,f,fun⟨j,ds,oo,q,e⟩=>?_⟩,fun j ds q=>?_,fun _ h=>h⟩⟩
 ·obtain⟨z,q⟩:=key j _ q (fun z=>by cases z)
  obtain⟨v,e,p⟩:=R.fz j d q
  exact⟨v,by rw[List.getElem?_set_ne (Ne.symm z)];exact e,p⟩
 ·have:j≠i∧(env[j]? = some (.ow ds)∨env[j]? = some (.hd ds)):=by
   rcases q with q | q
   ·obtain⟨z,q⟩:=key j _ q (fun z=>by cases z);exact⟨z,.inl q⟩
   ·obtain⟨z,q⟩:=key j _ q (fun z=>by cases z);exact⟨z,.inr q⟩
  obtain⟨z,q⟩:=this
  obtain⟨a,xs,e,r⟩:=R.mu j ds q
  exact⟨a,xs,by rw[List.getElem?_set_ne (Ne.symm z)];exact e,r⟩
 ·obtain⟨zj,mj⟩:=muk j hj
  obtain⟨zl,ml⟩:=muk l hl
  rw[List.getElem?_set_ne (Ne.symm zj)]at e1
  rw[List.getElem?_set_ne (Ne.symm zl)]at e2
  exact R.inj j l b mj ml e1 e2
 ·obtain⟨z,q⟩:=key j _ q (fun z=>by subst z;exact oo)
  rw[List.getElem?_set_ne (Ne.symm z)]at e
  exact w ⟨j,ds,oo,q,e⟩
 ·have z:j≠i:=fun z=>by subst z;exact nh ds q
  rw[List.getElem?_set_ne (Ne.symm z),List.getElem?_set_ne (Ne.symm z)]
  exact⟨q,rfl⟩
end
section
variable {K:W.Frag}{cl:Str→Addr}{E:XK}{σ:St}{H F:Hp}{env:DE}{k:Nat}
def V2:Option Sl→Sl
 | some (.fz d)=>.fz d
 | some (.ow ds)=>.hd ds
 | some (.hd ds)=>.hd ds
 | some (.od ks ds)=>.hk ks ds
 | some (.hk ks ds)=>.hk ks ds
 | _=>.no
def p9(k:Nat)(js:List Nat)(e:DE):DE:=List.replicate k .no++js.map fun j=>V2 e[j]?
def w8(b:GF)(c:BF)(el:ZF)(ec:DE)(eo:DE):List D→List D→Option (R (List D))
 | [],acc=>some (.ok acc eo)
 | d::ds,acc=>match b d ec with
  | none=>none
  | some e1=>bnd (c e1) fun t e2=>if t=true then bnd (el e2) fun y _=>if acc.length<sizeLine then w8 b c el ec eo ds (acc++[y])else none
   else w8 b c el ec eo ds acc
theorem S2{js:List Nat}{e:DE}{i:Nat}{s:Sl}(h:(p9 k js e)[i]? = some s)(n:s≠.no):k≤i∧∃j,js[i-k]? = some j∧V2 e[j]? = s:=by
 unfold p9 at h
 by_cases z:i<k
 ·rw[List.getElem?_append_left (by rw[List.length_replicate];exact z),List.getElem?_replicate,if_pos z]at h
  cases h;exact absurd rfl n
 ·rw[List.getElem?_append_right (by rw[List.length_replicate];omega),List.length_replicate,List.getElem?_map]at h
  cases q:js[i-k]? with
  | none=>rw[q]at h;cases h
  | some j=>rw[q]at h;cases h;exact⟨by omega,j,rfl,rfl⟩
theorem D4{js:List Nat}{i j:Nat}{v:V}(hk:k≤i)(hj:js[i-k]? = some j)(h:σ[j]? = some (some v)):(n9 k js σ)[i]? = some (some v):=by
 unfold n9
 rw[List.getElem?_append_right (by rw[List.length_replicate];exact hk),List.length_replicate,List.getElem?_map,hj]
 simp[h]
theorem RelOd.comp{js:List Nat}(R:RelOd K cl σ H F env)(nd:js.Nodup):RelOd K cl (n9 k js σ) H F (p9 k js env):=by
 have cap:∀{j:Nat} {s:Sl} {ks:DK} {ds:List D},V2 env[j]? = s→R8 s ks ds→∃t,env[j]? = some t∧R8 t ks ds:=fun{j s ks ds} h d=>by
  unfold V2 at h
  split at h<;>subst h
  ·exact d.elim
  ·exact d.elim
  ·exact d.elim
  ·rename_i q;exact⟨_,q,d⟩
  ·rename_i q;exact⟨_,q,d⟩
  ·exact d.elim
 have get:∀(i:Nat) (s:Sl) (ks:DK) (ds:List D),(p9 k js env)[i]? = some s→R8 s ks ds→k≤i∧∃j t,js[i-k]? = some j∧env[j]? = some t∧R8 t ks ds:=fun i s ks ds h d=>by
  obtain⟨hk,j,hj,c⟩:=S2 h (fun z=>by subst z;exact d)
  obtain⟨t,q,dt⟩:=cap c d
  exact⟨hk,j,t,hj,q,dt⟩
 refine⟨fun i s ks ds h d=>?_,fun i l s t ks ls ds es b hi di hl dl ei el=>?_⟩
 ·obtain⟨hk,j,t,hj,q,dt⟩:=get i s ks ds h d
  obtain⟨a,xs,e,r⟩:=R.at_ j t ks ds q dt
  exact⟨a,xs,D4 hk hj e,r⟩
 ·obtain⟨hk,j,s',hj,q,dt⟩:=get i s ks ds hi di
  obtain⟨hk',m,t',hm,q',dt'⟩:=get l t ls es hl dl
  obtain⟨a,xs,e,_⟩:=R.at_ j s' ks ds q dt
  obtain⟨a',xs',e',_⟩:=R.at_ m t' ls es q' dt'
  have h1:=D4 (k:=k) hk hj e
  have h2:=D4 (k:=k) hk' hm e'
  rw[ei]at h1;cases h1
  rw[el]at h2;cases h2
  have jm:j=m:=R.inj j m s' t' ks ls ds es b q dt q' dt' e e'
  subst jm
  obtain⟨hi',ej⟩:=List.getElem?_eq_some_iff.mp hj
  obtain⟨hl',em⟩:=List.getElem?_eq_some_iff.mp hm
  have:i-k=l-k:=(List.getElem_inj nd).mp (ej.trans em.symm)
  omega
theorem Rel.comp{js:List Nat}(R:Rel K cl σ H F env)(nd:js.Nodup):Rel K cl (n9 k js σ) H F (p9 k js env):=by
 have cap:∀{j:Nat} {ds:List D},V2 env[j]? = .hd ds→env[j]? = some (.ow ds)∨env[j]? = some (.hd ds):=fun{j ds} h=>by
  unfold V2 at h
  split at h
  ·cases h
  ·rename_i q;cases h;exact .inl q
  ·rename_i q;cases h;exact .inr q
  ·cases h
  ·cases h
  ·cases h
 have noow:∀{j:Nat} {ds:List D},V2 env[j]?≠.ow ds:=fun{j ds} h=>by
  unfold V2 at h
  split at h<;>cases h
 have mu':∀(i:Nat) (ds:List D),((p9 k js env)[i]? = some (.ow ds)∨(p9 k js env)[i]? = some (.hd ds))→k≤i∧∃j,js[i-k]? = some j∧(env[j]? = some (.ow ds)∨env[j]? = some (.hd ds)):=fun i ds q=>by
  rcases q with q | q
  ·obtain⟨hk,j,hj,c⟩:=S2 q (fun z=>by cases z);exact absurd c noow
  ·obtain⟨hk,j,hj,c⟩:=S2 q (fun z=>by cases z);exact⟨hk,j,hj,cap c⟩
 refine⟨R.sub,?_,fun i d q=>?_,fun i ds q=>?_,fun i l b ⟨ds,q⟩ ⟨es,q'⟩ e1 e2=>?_,R.od.comp nd⟩
 ·unfold n9 p9
  rw[List.length_append,List.length_append,List.length_replicate,List.length_replicate,List.length_map,List.length_map]
 ·obtain⟨hk,j,hj,c⟩:=S2 q (fun z=>by cases z)
  have:env[j]? = some (.fz d):=by
   unfold V2 at c
   split at c
   ·rename_i q;cases c;exact q
   all_goals cases c
  obtain⟨v,e,p⟩:=R.fz j d this
  exact⟨v,D4 hk hj e,p⟩
 ·obtain⟨hk,j,hj,c⟩:=mu' i ds q
  obtain⟨a,xs,e,r⟩:=R.mu j ds c
  exact⟨a,xs,D4 hk hj e,r⟩
 ·obtain⟨hk,j,hj,c⟩:=mu' i ds q
  obtain⟨hl,m,hm,c'⟩:=mu' l es q'
  obtain⟨a,xs,e,_⟩:=R.mu j ds c
  obtain⟨a',xs',e',_⟩:=R.mu m es c'
  have h1:=D4 (k:=k) hk hj e
  have h2:=D4 (k:=k) hl hm e'
  rw[e1]at h1;cases h1
  rw[e2]at h2;cases h2
  have jm:j=m:=R.inj j m b ⟨ds,c⟩ ⟨es,c'⟩ e e'
  subst jm
  obtain⟨hi',ei⟩:=List.getElem?_eq_some_iff.mp hj
  obtain⟨hl',el⟩:=List.getElem?_eq_some_iff.mp hm
  have:i-k=l-k:=(List.getElem_inj nd).mp (ei.trans el.symm)
  omega
def NoOw(e:DE):Prop:=∀(i:Nat) (s:Sl),isO s→e[i]?≠some s
theorem a3k{js:List Nat}{e:DE}:NoOw (p9 k js e):=fun i s oo q=>by
 obtain⟨hk,j,hj,c⟩:=S2 q (fun z=>by subst z;exact oo)
 unfold V2 at c
 split at c<;>subst c<;>exact oo
theorem NoOw.not{e:DE}(n:NoOw e){σ:St}{a:Addr}:¬Ow σ e a:=fun⟨i,ds,oo,q,_⟩=>n i ds oo q
theorem Frm.gr{σ':St}{H' F':Hp}{env':DE}(f:Frm σ H F env σ' H' F' env')(n:NoOw env)(s:Same F' H'):Gr H F H' F':=⟨f.fz,s,fun a o h g=>by obtain⟨h1,f1,_⟩:=f.hid a o h g n.not;exact⟨h1,f1⟩⟩
theorem FX.gr{H' F':Hp}(f:FX σ H F env H' F')(n:NoOw env):Gr H F H' F':=⟨f.fz,f.sub,fun a o h g=>f.hid a o h g n.not⟩
structure Grow(K:W.Frag)(cl:Str→Addr)(σ:St)(H0 F0:Hp)(env:DE)(B:Addr)(acc:List D)(ys:List V)(H F:Hp):Prop where
 rel:Rel K cl σ H F env
 frm:Frm σ H0 F0 env σ H F env
 new:H0 B=none
 at_:H B=some (.lst ys)
 un:F B=none
 far:∀j,Mu env j→σ[j]?≠some (some (.ref B))
 rps:Rps K cl F acc ys
 stay:∀a o,H0 a=some o→F0 a=none→H a=some o∧F a=none
theorem Grow.start{B:Addr}(R:Rel K cl σ H F env)(hB:H B=none):Grow K cl σ H F env B [] [] (upd H B (.lst [])) F:=by
 obtain⟨R',f⟩:=R.newN (o:=.lst []) hB
 refine⟨R',f,hB,i8,R.sub.free hB,fun j ⟨ds,q⟩ e=>?_,.nil,fun a o h f=>⟨by rw[b9 (fun z=>by rw[z,hB]at h;cases h)];exact h,f⟩⟩
 obtain⟨a,ys,e1,hH,_⟩:=R.mu j ds q
 rw[e]at e1;cases e1
 rw[hB]at hH;cases hH
theorem Grow.gr{B:Addr}{acc:List D}{ys:List V}{H0 F0 H' F':Hp}(g:Grow K cl σ H0 F0 env B acc ys H F)(r:Gr H F H' F'):Grow K cl σ H0 F0 env B acc ys H' F' :=
 ⟨g.rel.gr r,g.frm.trans (g.rel.frm r),g.new,(r.hid B _ g.at_ g.un).1,(r.hid B _ g.at_ g.un).2,g.far,g.rps.mono r.fz,fun a o h f=>by obtain⟨h1,f1⟩:=g.stay a o h f;exact r.hid a o h1 f1⟩
theorem Grow.push{B:Addr}{acc:List D}{ys:List V}{H0 F0:Hp}{d:D}{y:V}(g:Grow K cl σ H0 F0 env B acc ys H F)(p:Rp K cl F d y):Grow K cl σ H0 F0 env B (acc++[d]) (ys++[y]) (upd H B (.lst (ys++[y]))) F:=by
 have ne:∀a o,F a=some o→a≠B:=fun a o h z=>by rw[z,g.un]at h;cases h
 refine⟨⟨fun a o h=>by rw[b9 (ne a o h)];exact g.rel.sub _ _ h,g.rel.len,g.rel.fz,fun j ds q=>?_,g.rel.inj,g.rel.od.updL g.at_⟩,⟨g.frm.fz,fun a o h f w=>?_,g.frm.keep,fun a h=>?_⟩,g.new,i8,g.un,g.far,g.rps.append (.one p),fun a o h f=>by rw[b9 (fun z=>by rw[z,g.new]at h;cases h)];exact g.stay a o h f⟩
 ·obtain⟨a,xs,e,hH,r⟩:=g.rel.mu j ds q
  have z:a≠B:=fun z=>g.far j ⟨ds,q⟩ (by rw[e,z])
  exact⟨a,xs,e,by rw[b9 z];exact hH,r⟩
 ·have z:a≠B:=fun z=>by rw[z,g.new]at h;cases h
  rw[b9 z];exact g.frm.hid a o h f w
 ·by_cases z:a=B
  ·rw[z,i8]at h;cases h
  ·rw[b9 z]at h;exact g.frm.dom a h
theorem a3l{b:GF}{c:BF}{el:ZF}{g:TG}{tf:TT}{te:TE}{js:List Nat}{B:Addr}{d:D}{x:V}{ds acc:List D}{ys:List V}{H0 F0:Hp}{Q:VK}{Pv:List V→Hp→Prop}(nd:js.Nodup)
  (hg:G3 K cl k g b) (hc:R9 K cl E tf c) (he:u2 K cl E te el) (gw:Grow K cl σ H0 F0 env B acc ys H F) (p:Rp K cl F d x)
  (h:Ct K cl E (PN K cl) (w8 b c el (p9 k js env) env (d::ds) acc) σ H0 F0 env Q)
  (hP:∀acc' ys' H' F',Grow K cl σ H0 F0 env B acc' ys' H' F'→Ct K cl E (PN K cl) (w8 b c el (p9 k js env) env ds acc') σ H0 F0 env Q→Pv ys' H') :
  g x (n9 k js σ) H fun σ2 H2=>(σ2.drop k=(n9 k js σ).drop k∧σ2.length=(n9 k js σ).length)∧tf σ2 H2 fun t H3 =>
   if t=true then te σ2 H3 fun y H4=>H4 B=some (.lst ys)∧ys.length<sizeLine∧Pv (ys++[y]) (upd H4 B (.lst (ys++[y])))else Pv ys H3:=by
 unfold w8 at h
 have Rc:Rel K cl (n9 k js σ) H F (p9 k js env):=gw.rel.comp nd
 split at h
 ·exact h.elim
 ·rename_i e1 hb
  refine hg x _ H _ d _ e1 F Rc p hb fun σ2 d2 l2 f2 R2=>⟨⟨d2,l2⟩,?_⟩
  have n1:NoOw (p9 k js env):=a3k
  -- ways out by an exception
  have exc:∀{H' F':Hp} {σ':St} {e':DE} {H'' F'':Hp} {n:XN},Frm (n9 k js σ) H F (p9 k js env) σ' H' F' e'→FX σ' H' F' e' H'' F''→(∀H' F',FX σ H0 F0 env H' F'→∀cx,Xf K cl F' n cx→E (.ref (cl n.nm)) cx H')→∀cx,Xf K cl F'' n cx→E (.ref (cl n.nm)) cx H'':=fun{H' F' σ' e' H'' F'' n} f fx q=>by
   have gr:Gr H F H'' F'':=(f.fx fx).gr n1
   exact q _ _ (gw.frm.fx gr.fx)
  refine hc σ2 H _ e1 F R2 ?_
  cases hce:c e1 with
  | none=>rw[hce]at h;exact h.elim
  | some rc =>
   rw[hce]at h
   cases rc with
   | ex n=>exact fun H' F' fx=>exc f2 fx h
   | ok t e2 =>
    intro t' H3 F3 f3 R3 ht
    have ht:t'=t:=ht
    subst ht
    have h:Ct K cl E (PN K cl) (if t'=true then bnd (el e2) fun y _=>if acc.length<sizeLine then w8 b c el (p9 k js env) env ds (acc++[y])else none else w8 b c el (p9 k js env) env ds acc) σ H0 F0 env Q:=h
    have gr3:Gr H F H3 F3:=(f2.trans f3).gr n1 R3.sub
    by_cases z:t'=true
    ·rw[if_pos z]at h ⊢
     refine he σ2 H3 _ e2 F3 R3 ?_
     cases hel:el e2 with
     | none=>rw[hel]at h;exact h.elim
     | some re =>
      rw[hel]at h
      cases re with
      | ex n=>exact fun H' F' fx=>exc (f2.trans f3) fx h
      | ok y e3 =>
       intro v H4 F4 f4 R4 hv
       have h:Ct K cl E (PN K cl) (if acc.length<sizeLine then w8 b c el (p9 k js env) env ds (acc++[y])else none) σ H0 F0 env Q:=h
       split at h
       ·rename_i hlen
        have gr4:Gr H F H4 F4:=((f2.trans f3).trans f4).gr n1 R4.sub
        have gw4:=gw.gr gr4
        exact⟨gw4.at_,by rw[← gw4.rps.length];exact hlen,hP _ _ _ _ (gw4.push hv) h⟩
       ·exact h.elim
    ·rw[if_neg z]at h ⊢
     exact hP _ _ _ _ (gw.gr gr3) h
theorem a4k{b:GF}{c:BF}{el:ZF}{js:List Nat}{B:Addr}{acc:List D}{ys:List V}{H0 F0:Hp}{Q:VK}(gw:Grow K cl σ H0 F0 env B acc ys H F)(h:Ct K cl E (PN K cl) (w8 b c el (p9 k js env) env [] acc) σ H0 F0 env Q):Q (.ref B) H :=
 h _ H F gw.frm gw.rel ⟨B,ys,rfl,gw.new,gw.at_,gw.un,gw.far,gw.rps⟩
def T6:BF:=fun e=>some (.ok true e)
theorem a4l:R9 K cl E a1e T6:=fun σ H Q env F R h=>h true H F Frm.refl R rfl
end
def fD(n m:Nat)(body:SF)(ds:List D):Option R1:=if ds.length=m then(match body (ds.map .fz++List.replicate (n-ds.length) .no)with
 | some (.nx _)=>some (.ret .non)
 | some (.rt d)=>some (.ret d)
 | some (.ro es)=>some (.own es)
 | some (.rz dss)=>some (.owz dss)
 | some (.rp n es)=>some (.owp n es)
 | some (.ex c)=>some (.ex c)
 | _=>none)else none
section
variable {P:Program}{w:World}{K:W.Frag}{mg:Str→Option Value}{base:Heap}{cl:Str→Addr}
theorem a6G{N:List Str}{vs:List V}{ds:List D}{H F:Hp}(s:Same F H)(p:Rps K cl F ds vs):Rel K cl (start N vs) H F (ds.map .fz++List.replicate (N.length-ds.length) .no)∧NoOw (ds.map .fz++List.replicate (N.length-ds.length) .no):=by
 have key:∀(i:Nat) (t:Sl),(ds.map Sl.fz++List.replicate (N.length-ds.length) .no)[i]? = some t→t≠.no→∃d,ds[i]? = some d∧t=.fz d:=fun i t q n=>by
  by_cases z:i<ds.length
  ·rw[List.getElem?_append_left (by rw[List.length_map];exact z),List.getElem?_map]at q
   cases hd:ds[i]? with
   | none=>rw[hd]at q;cases q
   | some d=>rw[hd]at q;cases q;exact⟨d,rfl,rfl⟩
  ·rw[List.getElem?_append_right (by rw[List.length_map];omega),List.getElem?_replicate]at q
   split at q
   ·cases q;exact absurd rfl n
   ·cases q
 have no:NoOw (ds.map .fz++List.replicate (N.length-ds.length) .no):=fun i es oo q=>by
  obtain⟨d,_,z⟩:=key i _ q (fun z=>by subst z;exact oo)
  subst z;exact oo
 refine⟨⟨s,?_,fun i d q=>?_,fun i es q=>?_,fun i j b ⟨es,q⟩ _ _ _=>?_,.none fun j s ks ds q d=>by obtain⟨_,_,rfl⟩:=key j s q (fun z=>by subst z;exact d);exact d⟩,no⟩
 ·unfold start
  rw[List.length_append,List.length_append,List.length_map,List.length_map,List.length_replicate,List.length_replicate,p.length]
 ·obtain⟨d',hd,z⟩:=key i _ q (fun z=>by cases z)
  cases z
  obtain⟨v,hv,r⟩:=p.get hd
  refine⟨v,?_,r⟩
  unfold start
  rw[List.getElem?_append_left (by rw[List.length_map];exact(List.getElem?_eq_some_iff.mp hv).1),List.getElem?_map,hv];rfl
 ·rcases q with q | q
  ·obtain⟨d,_,z⟩:=key i _ q (fun z=>by cases z);cases z
  ·obtain⟨d,_,z⟩:=key i _ q (fun z=>by cases z);cases z
 ·rcases q with q | q
  ·obtain⟨d,_,z⟩:=key i _ q (fun z=>by cases z);cases z
  ·obtain⟨d,_,z⟩:=key i _ q (fun z=>by cases z);cases z
theorem a2T{n m:Nat}{body:SF}{vs:List V}{H:Hp}{Q:VK}{E:XK}(h:k6 K cl (fD n m body) vs H Q E):vs.length=m:=by
 obtain⟨ds,F,s,p,h⟩:=h
 unfold fD at h
 by_cases z:ds.length=m
 ·rw[← p.length];exact z
 ·rw[if_neg z]at h;exact h.elim
theorem a0v{N:List Str}{m:Nat}{body:SF}{t:TS}{vs:List V}{H:Hp}{Q:VK}{E:XK}(hb:RfS K cl E t body)(h:k6 K cl (fD N.length m body) vs H Q E):t { nx:=fun _ H'=>Q .non H',rt:=Q } (start N vs) H:=by
 obtain⟨ds,F,s,p,h⟩:=h
 obtain⟨R,no⟩:=a6G (N:=N) s p
 refine hb _ _ H _ F R ?_
 unfold fD at h
 by_cases z:ds.length=m
 ·rw[if_pos z]at h
  cases r:body (ds.map .fz++List.replicate (N.length-ds.length) .no)with
  | none=>rw[r]at h;exact h.elim
  | some rs =>
   rw[r]at h
   cases rs with
   | nx e=>exact fun σ' H' F' f R'=>h .non H' F' (f.gr no R'.sub) (by simp only[Rp])
   | rt d=>exact fun v H' F' x q=>h v H' F' (x.gr no) q
   | ro es =>
    refine fun a xs H' F' x ha fa nw q=>h a xs H' F' (x.gr no) ?_ ha fa q
    cases e:H a with
    | none=>rfl
    | some o=>exact absurd (nw o e) no.not
   | rz dss =>
    refine fun p as H' F' x hp ht fp rz=>h p as H' F' (x.gr no) hp ht fp (rz.imp fun a xs ha fa nw=>?_)
    cases e:H a with
    | none=>rfl
    | some o=>exact absurd (nw o e) no.not
   | rp n es =>
    refine fun p a xs H' F' x hp ht fp ha fa nw q=>h p a xs H' F' (x.gr no) hp ht fp ?_ ha fa q
    cases e:H a with
    | none=>rfl
    | some o=>exact absurd (nw o e) no.not
   | bk e=>exact h.elim
   | ct e=>exact h.elim
   | ex c=>exact fun H' F' x=>h H' F' (x.gr no)
 ·rw[if_neg z]at h;exact h.elim
theorem Fun.okD{x qual:Str}{st:Stmt}{f:Addr}{fd:FuncData}{N ps:List Str}{k:Nat}{body:SF}(F:Fun K x qual st f fd)(S:FnScope N ps (b8 st))
  (hbody:∀(cdv:Value) (A:Around) (outer:List Env) (s:Shared) (H:Hp) (E:XK),Room k (A.deeper (envOfC qual (b8 st) s.heap.objs.size f cdv)) →
   ∃t,PSs (O4 (w9 P w) P w K mg base N qual (b8 st) f cdv A outer s H E) (j9 st) t∧RfS K cl E t body):FnOk P w K mg base (w9 P w) (k+1) f fd ps (k6 K cl (fD N.length ps.length body)) :=
 F.okE S (fun vs H Q E h=>a2T h) fun cdv A outer s H vs Q E hr h=>by
  obtain⟨t,h1,h2⟩:=hbody cdv A outer s H E hr
  exact⟨t,h1,a0v h2 h⟩
theorem FunD.okD{x qual:Str}{st:Stmt}{dT f:Addr}{fd:FuncData}{N ps:List Str}{k:Nat}{body:SF}(F:FunD K x qual st dT f fd)(S:FnScope N ps (b8 st))
  (hbody:∀(cdv:Value) (A:Around) (outer:List Env) (s:Shared) (H:Hp) (E:XK),Room k (A.deeper (envOfC qual (b8 st) s.heap.objs.size f cdv)) →
   ∃t,PSs (O4 (w9 P w) P w K mg base N qual (b8 st) f cdv A outer s H E) (j9 st) t∧RfS K cl E t body):FnOk P w K mg base (w9 P w) (k+1) f fd ps (k6 K cl (fD N.length ps.length body)) :=
 F.okE S (fun vs H Q E h=>a2T h) fun cdv A outer s H vs Q E hr h=>by
  obtain⟨t,h1,h2⟩:=hbody cdv A outer s H E hr
  exact⟨t,h1,a0v h2 h⟩
theorem a9G{g:List D→Option R1}{vs:List V}{H:Hp}{Q:VK}{E:XK}{a:Addr}{ns:List Int}(e:vs=[.ref a])(h:Scr K H a (ns.map V.int))(q:∀H',Q (.bl true) H')(m:g [.scr ns]=some (.ret (.bl true))):k6 K cl g vs H Q E:=by
 refine⟨[.scr ns],H,Same.refl _,?_,?_⟩
 ·rw[e];exact .one (by simp only[Rp];exact⟨a,rfl,h⟩)
 ·rw[m]
  intro v H' F' _ p
  have p:Rp K cl F' (.bl true) v:=p
  simp only[Rp]at p
  rw[p];exact q H'
def tyN:D→Option String
 | .non=>some "NoneType"
 | .bl _=>some "bool"
 | .int _=>some "int"
 | .str _=>some "str"
 | .lst _=>some "list"
 | .tup _=>some "tuple"
 | _=>none
theorem a5h{K:W.Frag}(t n:String)(ht:t∈["NoneType","bool","int","str","list","tuple"])(hn:n∈["bool","int","str","list","tuple"]):W.kitOne K (.type t) (.type n)=some (t == n || (t == "bool" && n == "int")):=by
 simp only[List.mem_cons,List.not_mem_nil,or_false]at ht hn
 rcases ht with rfl | rfl | rfl | rfl | rfl | rfl<;>rcases hn with rfl | rfl | rfl | rfl | rfl<;>first | rfl | with_unfolding_all rfl
def a00:List D→Option D
 | [d,.ty n]=>match tyN d with
  | some t=>if n∈["bool","int","str","list","tuple"]then some (.bl (t == n || (t == "bool" && n == "int")))else none
  | none=>none
 | _=>none
theorem a5i{d:D}{t:String}(h:tyN d=some t):t∈["NoneType","bool","int","str","list","tuple"]:=by
 cases d<;>cases h<;>decide
theorem a6I{F H:Hp}{d:D}{t:String}{v:V}(s:Same F H)(p:Rp K cl F d v)(h:tyN d=some t):TyX K H v (.type t):=by
 cases d<;>cases h<;>simp only[Rp]at p
 ·subst p;exact .of .non
 ·subst p;exact .of (.bl _)
 ·subst p;exact .of (.int _)
 ·subst p;exact .of (.str _)
 ·obtain⟨a,xs,rfl,h,_⟩:=p;exact .of (.tup (s _ _ h))
 ·obtain⟨a,xs,rfl,h,_⟩:=p;exact .of (.lst (s _ _ h))
theorem b1K:a1K K cl (a35 K) a00:=by
 intro xs ds z H F Q s hx h q
 unfold a00 at h
 split at h
 ·rename_i d n
  split at h
  ·rename_i t ht
   split at h
   ·rename_i hn;cases h
    obtain⟨v,r,rfl,p1,p2⟩:=hx.inv
    obtain⟨u,r',rfl,p3,p4⟩:=p2.inv
    rw[p4.inv0]
    simp only[Rp]at p3
    subst p3
    exact⟨v,_,_,_,_,rfl,rfl,a6I s p1 ht,a5h t n (a5i ht) hn,q _ H F (.refl s) (by simp only[Rp])⟩
   ·cases h
  ·cases h
 ·cases h
def a3K(n:String)(d:D):Option D:=match tyN d with
 | some t=>if n∈["bool","int","str","list","tuple"]then some (.bl (t == n || (t == "bool" && n == "int")))else none
 | none=>none
def T7(i:Nat)(n:String):ZF:=fun e=>match look e i with
 | some d=>Y9 (a3K n d) e
 | none=>none
theorem a5j{E:XK}{i:Nat}{n:String}{t:TE}(ht:t=tC (.ty n):=by rfl):u2 K cl E (tCB (a35 K) (I0 (E6 i) (I0 t U5))) (T7 i n):=by
 subst ht
 intro σ H Q env F R h
 unfold T7 at h
 cases q:look env i with
 | none=>rw[q]at h;exact h.elim
 | some d =>
  rw[q]at h
  obtain⟨x,e,rb⟩:=R.look q
  refine⟨x,e,?_⟩
  cases hz:a3K n d with
  | none=>simp only[hz,a0n]at h;exact h.elim
  | some z =>
   simp only[hz,a0m]at h
   unfold a3K at hz
   split at hz
   ·rename_i t ht
    split at hz
    ·rename_i hn;cases hz
     refine⟨x,_,_,_,_,rfl,rfl,?_,a5h t n (a5i ht) hn,h _ H F Frm.refl R (by show Rp K cl F (.bl _) _;simp only[Rp])⟩
     rcases rb with p | ⟨a,xs,ds,rfl,rfl,hH,_⟩
     ·exact a6I R.sub p ht
     ·cases ht;exact .of (.lst hH)
    ·cases hz
   ·cases hz
end
section
variable {P:Program}{w:World}{mg:Str→Option Value}{base:Heap}{K:W.Frag}{cl:Str→Addr}{E:XK}
theorem a4m{g:List D→Option R1}{t:TA}{f:AF}(hf:N4 K cl E t f):u2 K cl E (a33 (k6 K cl g) t) (g8 g f):=by
 intro σ H Q env F R h
 refine hf σ H _ env F R ((Ct.bnd h O6).mono fun vs H1 ⟨F1,e1,ds,s1,R1,p1,h1⟩=>?_)
 obtain⟨z,n⟩:=a5e h1
 have:k6 K cl g (vs++[]) H1 Q E0:=by
  refine a4h R1 p1 ?_
  rw[z]
  unfold Ct at h1 ⊢
  split at h1
  ·exact h1
  ·exact h1
  ·rename_i c q
   exact absurd q (by unfold a0W;split<;>intro y<;>cases y)
 rw[List.append_nil]at this
 exact this
theorem Fun.okWD{x qual:Str}{st:Stmt}{f:Addr}{fd:FuncData}{N ps:List Str}{k:Nat}{body:SF}(F:Fun K x qual st f fd)(S:FnScope N ps (b8 st))
  (hbody:∀(cdv:Value) (A:Around) (outer:List Env) (s:Shared) (H:Hp),RoomW k (A.deeper (envOfC qual (b8 st) s.heap.objs.size f cdv)) →
   ∃t,PSs (a16 P w K mg base N qual (b8 st) f cdv A outer s H) (j9 st) t∧RfS K cl E0 t body):FnOkW P w K mg base (k+1) f fd ps (k6 K cl (fD N.length ps.length body)) :=
 F.okW S (fun vs H Q E h=>a2T h) fun cdv A outer s H vs Q hr h=>by
  obtain⟨t,h1,h2⟩:=hbody cdv A outer s H hr
  exact⟨t,h1,a0v h2 h⟩
def a4n:D→Option Str
 | .cls n=>some n
 | _=>none
def a1j(xT:Str→List Str→Option Bool):List D→Option D
 | [.exc c,.tup cs]=>match cs.mapM a4n with
  | some ns=>(xT c ns).map .bl
  | none=>none
 | [.exv c _ _,.tup cs]=>match cs.mapM a4n with
  | some ns=>(xT c ns).map .bl
  | none=>none
 | _=>none
def a1k(x1:Str→Str→Option Bool)(x2:Str→String→Option Bool):List D→Option D
 | [.exc c,.cls n]=>(x1 c n).map .bl
 | [.exc c,.ty n]=>(x2 c n).map .bl
 | [.exv c _ _,.cls n]=>(x1 c n).map .bl
 | [.exv c _ _,.ty n]=>(x2 c n).map .bl
 | _=>none
theorem a1P:∀{cs:List D} {ns:List Str} {F:Hp} {ys:List V},cs.mapM a4n=some ns→Rps K cl F cs ys→ys.mapM a1G=some (ns.map fun m=>Value.ref (cl m))
 | [],_,_,_,h,p=>by cases h;rw[p.inv0];rfl
 | c::cs,_,_,_,h,p=>by
  obtain⟨v,r,rfl,p1,p2⟩:=p.inv
  rw[List.mapM_cons]at h ⊢
  cases hc:a4n c with
  | none=>rw[hc]at h;cases h
  | some n =>
   rw[hc]at h
   cases hcs:cs.mapM a4n with
   | none=>rw[hcs]at h;cases h
   | some ns =>
    rw[hcs]at h;cases h
    have hv:v=.ref (cl n):=by
     cases c<;>cases hc
     simpa only[Rp]using p1
    rw[hv,a1P hcs p2];rfl
theorem a1l{xT:Str→List Str→Option Bool}(hx:∀c ns b,xT c ns=some b→W.ExcT K (cl c)∧W.kitAny K (.ref (cl c)) (ns.map fun m=>.ref (cl m))=some b):a1K K cl (a5T K) (a1j xT):=by
 intro xs ds z H F Q s p h q
 unfold a1j at h
 split at h
 ·rename_i c cs
  split at h
  ·rename_i ns hn
   cases hb:xT c ns with
   | none=>rw[hb]at h;cases h
   | some b =>
    rw[hb]at h;cases h
    obtain⟨v,r,rfl,p1,p2⟩:=p.inv
    obtain⟨u,r',rfl,p3,p4⟩:=p2.inv
    rw[p4.inv0]
    simp only[Rp]at p1 p3
    obtain⟨a,cx,rfl,ha⟩:=p1
    obtain⟨t,ys,rfl,ht,r⟩:=p3
    obtain⟨hT,hk⟩:=hx c ns b hb
    exact⟨_,t,ys,_,_,b,rfl,s _ _ ht,a1P hn r,.exc (s _ _ ha) hT,hk,q _ H F (.refl s) (by simp only[Rp])⟩
  ·cases h
 ·rename_i c f' d' cs
  split at h
  ·rename_i ns hn
   cases hb:xT c ns with
   | none=>rw[hb]at h;cases h
   | some b =>
    rw[hb]at h;cases h
    obtain⟨v,r,rfl,p1,p2⟩:=p.inv
    obtain⟨u,r',rfl,p3,p4⟩:=p2.inv
    rw[p4.inv0]
    simp only[Rp]at p1 p3
    obtain⟨a,dx,y,rfl,ha,_⟩:=p1
    obtain⟨t,ys,rfl,ht,r⟩:=p3
    obtain⟨hT,hk⟩:=hx c ns b hb
    exact⟨_,t,ys,_,_,b,rfl,s _ _ ht,a1P hn r,.exc (s _ _ ha) hT,hk,q _ H F (.refl s) (by simp only[Rp])⟩
  ·cases h
 ·cases h
theorem a1m{x1:Str→Str→Option Bool}{x2:Str→String→Option Bool}(h1:∀c n b,x1 c n=some b→W.ExcT K (cl c)∧W.kitOne K (.ref (cl c)) (.ref (cl n))=some b)
  (h2:∀c n b,x2 c n=some b→W.ExcT K (cl c)∧W.kitOne K (.ref (cl c)) (.type n)=some b):a1K K cl (a35 K) (a1k x1 x2):=by
 intro xs ds z H F Q s p h q
 unfold a1k at h
 split at h
 ·rename_i c n
  cases hb:x1 c n with
  | none=>rw[hb]at h;cases h
  | some b =>
   rw[hb]at h;cases h
   obtain⟨v,r,rfl,p1,p2⟩:=p.inv
   obtain⟨u,r',rfl,p3,p4⟩:=p2.inv
   rw[p4.inv0]
   simp only[Rp]at p1 p3
   obtain⟨a,cx,rfl,ha⟩:=p1
   subst p3
   obtain⟨hT,hk⟩:=h1 c n b hb
   exact⟨_,_,_,_,b,rfl,rfl,.exc (s _ _ ha) hT,hk,q _ H F (.refl s) (by simp only[Rp])⟩
 ·rename_i c n
  cases hb:x2 c n with
  | none=>rw[hb]at h;cases h
  | some b =>
   rw[hb]at h;cases h
   obtain⟨v,r,rfl,p1,p2⟩:=p.inv
   obtain⟨u,r',rfl,p3,p4⟩:=p2.inv
   rw[p4.inv0]
   simp only[Rp]at p1 p3
   obtain⟨a,cx,rfl,ha⟩:=p1
   subst p3
   obtain⟨hT,hk⟩:=h2 c n b hb
   exact⟨_,_,_,_,b,rfl,rfl,.exc (s _ _ ha) hT,hk,q _ H F (.refl s) (by simp only[Rp])⟩
 ·rename_i c f' d' n
  cases hb:x1 c n with
  | none=>rw[hb]at h;cases h
  | some b =>
   rw[hb]at h;cases h
   obtain⟨v,r,rfl,p1,p2⟩:=p.inv
   obtain⟨u,r',rfl,p3,p4⟩:=p2.inv
   rw[p4.inv0]
   simp only[Rp]at p1 p3
   obtain⟨a,dx,y,rfl,ha,_⟩:=p1
   subst p3
   obtain⟨hT,hk⟩:=h1 c n b hb
   exact⟨_,_,_,_,b,rfl,rfl,.exc (s _ _ ha) hT,hk,q _ H F (.refl s) (by simp only[Rp])⟩
 ·rename_i c f' d' n
  cases hb:x2 c n with
  | none=>rw[hb]at h;cases h
  | some b =>
   rw[hb]at h;cases h
   obtain⟨v,r,rfl,p1,p2⟩:=p.inv
   obtain⟨u,r',rfl,p3,p4⟩:=p2.inv
   rw[p4.inv0]
   simp only[Rp]at p1 p3
   obtain⟨a,dx,y,rfl,ha,_⟩:=p1
   subst p3
   obtain⟨hT,hk⟩:=h2 c n b hb
   exact⟨_,_,_,_,b,rfl,rfl,.exc (s _ _ ha) hT,hk,q _ H F (.refl s) (by simp only[Rp])⟩
 ·cases h
end
section
variable {α β:Type}
def O9(r:Option RS)(k:SF):Option RS:=match r with
 | some (.nx e)=>k e
 | r=>r
theorem a9H{f k:SF}{e:DE}:d7 f k e=O9 (f e) k:=rfl
theorem a2U{e:DE}{k:SF}:O9 (some (.nx e)) k=k e:=rfl
theorem a9I{d:D}{k:SF}:O9 (some (.rt d)) k=some (.rt d):=rfl
theorem a9J{d:List D}{k:SF}:O9 (some (.ro d)) k=some (.ro d):=rfl
theorem a9K{d:XN}{k:SF}:O9 (some (.ex d)) k=some (.ex d):=rfl
theorem a9L{e:DE}{k:SF}:O9 (some (.bk e)) k=some (.bk e):=rfl
theorem a9M{e:DE}{k:SF}:O9 (some (.ct e)) k=some (.ct e):=rfl
theorem a9N{k:SF}:O9 none k=none:=rfl
theorem a7L{c:Prop} [Decidable c] {a b:Option RS} {k:SF}:O9 (if c then a else b) k=if c then O9 a k else O9 b k:=by split<;>rfl
theorem a9O{c:Prop} [Decidable c] {a b:Option (R α)} {k:α→DE→Option RS}:F5 (if c then a else b) k=if c then F5 a k else F5 b k:=by split<;>rfl
theorem a9P{d:D}{e:DE}:toZ (some (.ret d)) e=some (.ok d e):=rfl
theorem a9Q{d:List D}{e:DE}:toZ (some (.own d)) e=some (.ok (.lst d) e):=rfl
theorem b1L{d:XN}{e:DE}:toZ (some (.ex d)) e=some (.ex d):=rfl
theorem a7M{d:D}{e:DE}:a0W (some (.ret d)) e=some (.ok d e):=rfl
theorem a7N{d:List D}{e:DE}:a0W (some (.own d)) e=some (.ok (.lst d) e):=rfl
theorem a6J{i:Nat}{d:D}{e:DE}:a2g i (some (.ret d)) e=put i (.fz d) e:=rfl
theorem a6K{i:Nat}{d:List D}{e:DE}:a2g i (some (.own d)) e=put i (.ow d) e:=rfl
theorem a7O{i:Nat}{d:XN}{e:DE}:a2g i (some (.ex d)) e=some (.ex d):=rfl
theorem a58{i:Nat}{d:D}{e:DE}:a2h i (some (.ret d)) e=put i (.fz d) e:=rfl
theorem a59{i:Nat}{d:List D}{e:DE}:a2h i (some (.own d)) e=put i (.ow d) e:=rfl
theorem a6L{d:D}:a3J (some (.ret d))=some (.rt d):=rfl
theorem a6M{d:List D}:a3J (some (.own d))=some (.ro d):=rfl
theorem a7P{d:XN}:a3J (some (.ex d))=some (.ex d):=rfl
theorem a5_{d:D}:a2i (some (.ret d))=some (.rt d):=rfl
theorem a6a{d:List D}:a2i (some (.own d))=some (.ro d):=rfl
def V3(r:Option RS):Option R1:=match r with
 | some (.nx _)=>some (.ret .non)
 | some (.rt d)=>some (.ret d)
 | some (.ro es)=>some (.own es)
 | some (.rz dss)=>some (.owz dss)
 | some (.rp n es)=>some (.owp n es)
 | some (.ex c)=>some (.ex c)
 | _=>none
theorem b2j{n m:Nat}{body:SF}{ds:List D}(h:ds.length=m):fD n m body ds=V3 (body (ds.map .fz++List.replicate (n-m) .no)):=by
 unfold fD;rw[if_pos h,h];rfl
theorem a9R{e:DE}:V3 (some (.nx e))=some (.ret .non):=rfl
theorem a2V{d:D}:V3 (some (.rt d))=some (.ret d):=rfl
theorem a9S{d:List (List D)}:V3 (some (.rz d))=some (.owz d):=rfl
theorem a9T{d:List (List D)}{k:SF}:O9 (some (.rz d)) k=some (.rz d):=rfl
theorem a6N{d:List (List D)}:a3J (some (.owz d))=some (.rz d):=rfl
theorem a9U{d:List D}:V3 (some (.ro d))=some (.own d):=rfl
theorem a9V{d:XN}:V3 (some (.ex d))=some (.ex d):=rfl
theorem a7Q{c:Prop} [Decidable c] {a b:Option RS}:V3 (if c then a else b)=if c then V3 a else V3 b:=by split<;>rfl
def V4(r:Option RS)(k:SF):Option RS:=match r with
 | some (.nx e)=>k e
 | some (.ct e)=>k e
 | some (.bk e)=>some (.nx e)
 | r=>r
theorem a9W{e:DE}{k:SF}:V4 (some (.nx e)) k=k e:=rfl
theorem a9X{e:DE}{k:SF}:V4 (some (.ct e)) k=k e:=rfl
theorem a9Y{e:DE}{k:SF}:V4 (some (.bk e)) k=some (.nx e):=rfl
theorem a9Z{d:D}{k:SF}:V4 (some (.rt d)) k=some (.rt d):=rfl
theorem a90{d:List (List D)}{k:SF}:V4 (some (.rz d)) k=some (.rz d):=rfl
theorem a91{d:List D}{k:SF}:V4 (some (.ro d)) k=some (.ro d):=rfl
theorem a92{d:XN}{k:SF}:V4 (some (.ex d)) k=some (.ex d):=rfl
theorem a7R{b:GF}{body:SF}{e:DE}:t6 b body [] e=some (.nx e):=rfl
def J7(x:Option DE)(k:SF):Option RS:=match x with
 | none=>none
 | some e=>k e
theorem a01{b:GF}{body:SF}{d:D}{ds:List D}{e:DE}:t6 b body (d::ds) e=J7 (b d e) fun e1=>V4 (body e1) (t6 b body ds):=by
 rw[t6];cases b d e<;>rfl
theorem M0{e:DE}{k:SF}:J7 (some e) k=k e:=rfl
def a4o(n i:Nat)(exm:Str→Bool)(suite:SF)(e:DE)(r:Option RS):Option RS:=match r with
 | some (.ex (.v _ _ _))=>none
 | some (.ex (.p c))=>if(exm c && a0Z e)=true then(match suite ((List.replicate n Sl.no).set i (.fz (.exc c)))with
   | some (.nx e2)=>put i .no e2
   | some (.rt d)=>some (.rt d)
   | some (.ro ds)=>some (.ro ds)
   | _=>none)else none
 | r=>r
theorem a6O{n i:Nat}{exm:Str→Bool}{body suite:SF}{e:DE}:b1J n i exm body suite e=a4o n i exm suite e (body e):=rfl
def a6b(i:Nat)(r:Option RS):Option RS:=match r with
 | some (.nx e2)=>put i .no e2
 | some (.rt d)=>some (.rt d)
 | some (.ro ds)=>some (.ro ds)
 | _=>none
theorem a93{i:Nat}{e:DE}:a6b i (some (.nx e))=put i .no e:=rfl
theorem a94{i:Nat}{d:D}:a6b i (some (.rt d))=some (.rt d):=rfl
theorem a95{i:Nat}{d:List D}:a6b i (some (.ro d))=some (.ro d):=rfl
theorem a96{n i:Nat}{exm:Str→Bool}{suite:SF}{e:DE}{c:Str}:a4o n i exm suite e (some (.ex (.p c)))=if(exm c && a0Z e)=true then a6b i (suite ((List.replicate n Sl.no).set i (.fz (.exc c))))else none:=rfl
theorem a97{n i:Nat}{exm:Str→Bool}{suite:SF}{e:DE}{d:D}:a4o n i exm suite e (some (.rt d))=some (.rt d):=rfl
theorem a98{n i:Nat}{exm:Str→Bool}{suite:SF}{e:DE}{d:List D}:a4o n i exm suite e (some (.ro d))=some (.ro d):=rfl
theorem a99{n i:Nat}{exm:Str→Bool}{suite:SF}{e e1:DE}:a4o n i exm suite e (some (.nx e1))=some (.nx e1):=rfl
theorem a9_(a b:Int):A1 (.int a) (.int b)=some (.int (a+b)):=rfl
theorem b0a(a b:Int):W6 (.int a) (.int b)=some (.int (a-b)):=rfl
theorem b1M(a b:Int):gLt (.int a) (.int b)=some (.bl (decide (a<b))):=rfl
theorem b1N(a b:Int):gLe (.int a) (.int b)=some (.bl (decide (a≤b))):=rfl
theorem b1O(a b:Int):G0 (.int a) (.int b)=some (.bl (decide (b<a))):=rfl
theorem b1P(a b:Int):gGe (.int a) (.int b)=some (.bl (decide (b≤a))):=rfl
theorem a5k{a b:Int}(h:IntMulOk a b):K9 (.int a) (.int b)=some (.int (a*b)):=by show(if _ then _ else _)=_;rw[if_pos h]
theorem b0b{a b:Int}(h:0<b∧b.natAbs.log2<9000):E8 (.int a) (.int b)=some (.int (a/b)):=by show(if _ then _ else _)=_;rw[if_pos h]
theorem b0c{a b:Int}(h:0<b):k8 (.int a) (.int b)=some (.int (a%b)):=by show(if _ then _ else _)=_;rw[if_pos h]
theorem a1n{a b:Int}(h:a2D a b):a0p (.int a) (.int b)=some (.int (a ^ b.toNat)):=by show(if _ then _ else _)=_;rw[if_pos h]
end
def Fits(i:Int):Prop:=Builtin.Int.intBits i≤2 ^ 20
theorem b0d{a b:Int}(h:a.natAbs≤b.natAbs):Builtin.Int.intBits a≤Builtin.Int.intBits b:=by
 unfold Builtin.Int.intBits
 split
 ·exact Nat.zero_le _
 ·rename_i ha
  have ha':a.natAbs≠0:=by
   intro z;apply ha;first | exact Int.natAbs_eq_zero.mp z | (simpa using z)
  have hb':b.natAbs≠0:=by omega
  split
  ·rename_i hb
   exact absurd (by first | exact Int.natAbs_eq_zero.mpr hb | (simpa using hb)) hb'
  ·have h1:b.natAbs<2 ^ (b.natAbs.log2+1):=Nat.lt_log2_self
   have h2:a.natAbs.log2<b.natAbs.log2+1:=(Nat.log2_lt ha').mpr (by omega)
   omega
theorem Fits.le{a b:Int}(h:Fits b)(l:a.natAbs≤b.natAbs):Fits a:=Nat.le_trans (b0d l) h
theorem Fits.div{i:Int}{n:Int}(h:Fits i)(hn:0<n:=by decide):Fits (i/n):=by
 refine h.le ?_
 rcases Int.lt_or_le i 0 with z | z
 ·have h1:i/n<0:=Int.ediv_neg_of_neg_of_pos z hn
  have h2:i≤i/n:=by
   have h3:n*(i/n)≤i:=Int.mul_ediv_self_le (by omega)
   have h4:i<n*(i/n)+n:=Int.lt_mul_ediv_self_add hn
   have:i/n*1≥i/n*n:=Int.mul_le_mul_of_nonpos_left (by omega) (by omega)
   have e:n*(i/n)=i/n*n:=Int.mul_comm _ _
   have h5:i≤(i/n)*1+(n-1):=by omega
   apply Classical.byContradiction
   intro hc
   have hc:i/n<i:=by omega
   have:i/n*n≤(i-1)*n:=Int.mul_le_mul_of_nonneg_right (by omega) (by omega)
   have h6:i<(i-1)*n+n:=by omega
   have h7:(i-1)*n+n=i*n:=by rw[Int.sub_mul];omega
   have h8:i*n≤i*1:=Int.mul_le_mul_of_nonpos_left (by omega) (by omega)
   omega
  omega
 ·have h1:0≤i/n:=Int.ediv_nonneg z (by omega)
  have h2:i/n≤i:=Int.ediv_le_self n z
  omega
theorem Fits.mod{i n:Int}(hn:0<n)(h:Fits n):Fits (i%n):=by
 refine h.le ?_
 have h1:=Int.emod_nonneg i (show n≠0 by omega)
 have h2:=Int.emod_lt_of_pos i hn
 omega
theorem Fits.mul{i j:Int}(a:Fits i)(b:Fits j):IntMulOk i j:=IntMulOk.of_bits a b
theorem a7S{i:Int}(h:i.natAbs<2 ^ 400:=by decide):Fits i:=by
 have e:Builtin.Int.intBits (2 ^ 400:Int)≤2 ^ 20:=by decide +kernel
 have e2:(2 ^ 400:Int).natAbs=2 ^ 400:=by decide +kernel
 exact(show Fits (2 ^ 400)from e).le (by omega)
theorem b2G{a b:Int}(h:a.natAbs<2 ^ 64):IntMulOk a b:=IntMulOk.of_left (intBits_le_64 (by omega) (by omega))
theorem a6c{a b:Int}(h:b.natAbs<2 ^ 64):IntMulOk a b:=IntMulOk.of_right (intBits_le_64 (by omega) (by omega))
theorem a2m{a b:Int}(h:b.natAbs<2 ^ 64):K9 (.int a) (.int b)=some (.int (a*b)):=a5k (a6c h)
section
variable {α:Type}
theorem a86{a:α}{l:List α}:atI (a::l) 0=some a:=by unfold atI N2;simp
theorem a2n{a:α}{l:List α}{n:Nat}:atI (a::l) ((n:Int)+1)=atI l n:=by
 unfold atI N2
 have h1:(0:Int)≤(n:Int)+1:=by omega
 have h2:(0:Int)≤(n:Int):=by omega
 rw[if_pos h1,if_pos h2]
 by_cases z:(n:Int)<(l.length:Int)
 ·rw[if_pos z,if_pos (by rw[List.length_cons];push_cast;omega)]
  show(a::l)[((n:Int)+1).toNat]? = l[((n:Int)).toNat]?
  rw[show((n:Int)+1).toNat=n+1 by omega,show((n:Int)).toNat=n by omega]
  rfl
 ·rw[if_neg z,if_neg (by rw[List.length_cons];push_cast;omega)]
  rfl
theorem a87{a b:α}{l:List α}:atI (a::b::l) 1=some b:=(a2n (n:=0)).trans a86
theorem a88{a b c:α}{l:List α}:atI (a::b::c::l) 2=some c:=(a2n (n:=1)).trans a87
theorem a89{a b c d:α}{l:List α}:atI (a::b::c::d::l) 3=some d:=(a2n (n:=2)).trans a88
theorem b2k{a b c d e:α}{l:List α}:atI (a::b::c::d::e::l) 4=some e:=(a2n (n:=3)).trans a89
theorem b21{a b c d e f:α}{l:List α}:atI (a::b::c::d::e::f::l) 5=some f:=(a2n (n:=4)).trans b2k
end
def n4(ns:List Int)(k:Int):Int:=ns.getD k.toNat 0
theorem a3m{ns:List Int}(h:∀m∈ns,Builtin.Int.intBits m≤2 ^ 20)(k:Int):Fits (n4 ns k):=by
 unfold n4 Fits
 rw[List.getD_eq_getElem?_getD]
 cases q:ns[k.toNat]? with
 | none=>show Builtin.Int.intBits 0≤_;decide
 | some v=>exact h v (List.mem_of_getElem? q)
theorem b0e{ns:List Int}{k:Int}(hk:0≤k):(if k<(ns.length:Int)then(match atI ns k with
  | none=>none
  | some n=>some (R1.ret (D.int n)))else some (R1.ret (D.int 0)))=some (R1.ret (D.int (n4 ns k))):=by
 unfold n4
 by_cases z:k<(ns.length:Int)
 ·rw[if_pos z]
  have h:k.toNat<ns.length:=by omega
  have e:atI ns k=some ns[k.toNat]:=by
   unfold atI N2
   rw[if_pos hk,if_pos z]
   exact List.getElem?_eq_getElem h
  rw[e,List.getD_eq_getElem?_getD,List.getElem?_eq_getElem h];rfl
 ·rw[if_neg z,List.getD_eq_getElem?_getD,List.getElem?_eq_none (by omega)];rfl
theorem a5l{j:Int}(h : -(2 ^ 62)≤j∧j<2 ^ 62):O8 [.int j]=some (0,j.toNat):=by
 show(if _ then _ else _)=_
 rw[if_pos h]
section
variable {K:W.Frag}{cl:Str→Addr}{E:XK}{σ:St}{H F:Hp}{env:DE}{k:Nat}
def V5(ds es:List D):List D:=List.zipWith (fun a b=>.tup [a,b]) ds es
theorem a7T{ds es:List D}{i:Nat}{d e:D}(h:ds[i]? = some d)(h':es[i]? = some e):(V5 ds es)[i]? = some (.tup [d,e]):=by
 unfold V5;rw[List.getElem?_zipWith,h,h']
theorem a7U{ds es:List D}:(V5 ds es).length=min ds.length es.length:=by unfold V5;rw[List.length_zipWith]
def a6d(ds:List D):Option (List D):=match ds with
 | [d,e]=>match seqL d,seqL e with
  | some xs,some ys=>some (V5 xs ys)
  | _,_=>none
 | _=>none
theorem b0f{ds zs:List D}{vs:List V}(h:a6d ds=some zs)(p:Rps K cl F ds vs):∃a a' xs ys ds' es',vs=[.ref a,.ref a']∧zs=V5 ds' es'∧Rps K cl F ds' xs∧Rps K cl F es' ys∧∀H',Same F H'→SqL K H' a xs∧SqL K H' a' ys:=by
 unfold a6d at h
 split at h
 ·rename_i d e
  split at h
  ·rename_i xs ys h1 h2
   cases h
   obtain⟨v,r,rfl,p1,p2⟩:=p.inv
   obtain⟨u,r',rfl,p3,p4⟩:=p2.inv
   rw[p4.inv0]
   obtain⟨a,us,rfl,q1,l1⟩:=Rp.seqL p1 h1
   obtain⟨a',us',rfl,q2,l2⟩:=Rp.seqL p3 h2
   exact⟨a,a',us,us',xs,ys,rfl,rfl,q1,q2,fun H' g=>⟨l1 H' g,l2 H' g⟩⟩
  ·cases h
 ·cases h
theorem b2l{b:GF}{c:BF}{el:ZF}{g:TG}{tf:TT}{te:TE}{js:List Nat}{ds es:List D}{xs ys:List V}{a a' B:Addr}{Q:VK}(nd:js.Nodup)(hg:G3 K cl k g b)(hc:R9 K cl E tf c)(he:u2 K cl E te el)(R:Rel K cl σ H F env)(hB:H B=none)
  (hl:∀H' F',Same F F'→Same F' H'→SqL K H' a xs∧SqL K H' a' ys) (r:Rps K cl F ds xs) (r':Rps K cl F es ys) (h:Ct K cl E (PN K cl) (w8 b c el (p9 k js env) env (V5 ds es) []) σ H F env Q) :
  N3 (Itz K a a') g tf te k (n9 k js σ) B (fun H'=>Q (.ref B) H') H:=by
 refine a7E (xs:=xs) (ys:=ys) (fun i zs H'=>∃F' acc,Grow K cl σ H F env B acc zs H' F'∧Ct K cl E (PN K cl) (w8 b c el (p9 k js env) env ((V5 ds es).drop i) acc) σ H F env Q) ⟨F,[],.start R hB,h⟩ (fun i zs H' ⟨F',acc,gw,_⟩=>hl H' F' gw.frm.fz gw.rel.sub) (fun i x y zs H' p hx hy ⟨F',acc,gw,h'⟩ hp=>?_) (fun zs H' ⟨F',acc,gw,h'⟩=>?_)
 ·obtain⟨d,hd,pd⟩:=r.get' hx
  obtain⟨d',hd',pd'⟩:=r'.get' hy
  rw[L9 (a7T hd hd')]at h'
  have gr:Gr H' F' (upd H' p (.tup [x,y])) (upd F' p (.tup [x,y])):=.new gw.rel.sub hp
  refine a3l (Pv:=fun zs' H2=>∃F' acc,Grow K cl σ H F env B acc zs' H2 F'∧Ct K cl E (PN K cl) (w8 b c el (p9 k js env) env ((V5 ds es).drop (i+1)) acc) σ H F env Q) nd hg hc he (gw.gr gr) ?_ h' fun acc' ys' H2 F2 gw2 h2=>⟨F2,acc',gw2,h2⟩
  simp only[Rp]
  exact⟨p,_,rfl,i8,.cons (Rp.mono (gw.frm.fz.trans gr.fz) _ _ pd) (.one (Rp.mono (gw.frm.fz.trans gr.fz) _ _ pd'))⟩
 ·rw[← r.length,← r'.length,List.drop_eq_nil_of_le (by rw[a7U];exact Nat.le_refl _)]at h'
  exact a4k gw h'
def a4p(k:Nat)(js:List Nat)(f:AF)(b:GF)(c:BF)(el:ZF):NF:=fun e=>bnd (f e) fun ds e1=>match a6d ds with
 | none=>none
 | some zs=>w8 b c el (p9 k js e1) e1 zs []
theorem a7V{t:TA}{g:TG}{tf:TT}{te:TE}{js:List Nat}{f:AF}{b:GF}{c:BF}{el:ZF}(nd:js.Nodup)(hf:N4 K cl E t f)(hg:G3 K cl k g b)(hc:R9 K cl E tf c)(he:u2 K cl E te el):RfN K cl E (a17 (b1q K t) g tf te k js) (a4p k js f b c el):=by
 intro σ H Q env F R h
 refine hf σ H _ env F R ((Ct.bnd h a1J).mono fun x H1 ⟨F1,e1,ds,s1,R1,p1,h1⟩=>?_)
 split at h1
 ·exact h1.elim
 ·rename_i zs hs
  obtain⟨a,a',xs,ys,ds',es',rfl,rfl,q1,q2,hl⟩:=b0f hs p1
  exact⟨a,a',rfl,⟨xs,(hl H1 R1.sub).1⟩,⟨ys,(hl H1 R1.sub).2⟩,fun B hB=>b2l nd hg hc he R1 hB (fun H' F' f2 s2=>hl H' (f2.trans s2)) q1 q2 h1⟩
def oN:OF:=fun e=>some (.ok none e)
def oS(f:ZF):OF:=fun e=>bnd (f e) fun d e1=>match d with
 | .int i=>some (.ok (some i) e1)
 | _=>none
theorem a3L:RfO K cl E a42 oN:=fun σ H Q env F R h=>h none H F Frm.refl R rfl
theorem a3M{t:TE}{f:ZF}(hf:u2 K cl E t f):RfO K cl E (a8U t) (oS f):=by
 intro σ H Q env F R h
 refine hf σ H _ env F R ((Ct.bnd h b2M).mono fun x H1 ⟨F1,e1,d,s1,R1,p1,h1⟩=>?_)
 split at h1
 ·rename_i i
  have:x=.int i:=by have:=(show Rp K cl F1 (.int i) x from p1);simpa only[Rp]using this
  exact⟨i,this,h1 _ H1 F1 Frm.refl R1 rfl⟩
 ·exact h1.elim
def Y0(xs:List D)(lo hi:Option Int):List D:=(xs.drop (HT.sIx xs.length 0 lo)).take (HT.sIx xs.length xs.length hi-HT.sIx xs.length 0 lo)
theorem Rps.cut{ds:List D}{xs:List V}(h:Rps K cl F ds xs)(lo hi:Option Int):Rps K cl F (Y0 ds lo hi) (a2E xs lo hi):=by
 unfold Y0 a2E
 rw[h.length]
 exact(h.drop _).take _
def V6(i:Nat)(l u:OF):NF:=fun e=>match look e i with
 | none=>none
 | some _=>bnd (l e) fun lo e2=>bnd (u e2) fun hi e3=>match look e3 i with
  | some d=>(match seqL d with
   | some ds=>some (.ok (Y0 ds lo hi) e3)
   | none=>none)
  | none=>none
theorem Rb.seqL{d:D}{ds:List D}{v:V}(s:Same F H)(p:Rb K cl F H d v)(q:L2.seqL d=some ds):∃a xs,v=.ref a∧Rps K cl F ds xs∧SqL K H a xs:=by
 rcases p with p | ⟨a,xs,es,e,rfl,h,r⟩
 ·obtain⟨a,xs,e,r,l⟩:=Rp.seqL p q;exact⟨a,xs,e,r,l H s⟩
 ·cases q;exact⟨a,xs,e,r,.of h⟩
theorem a2o{i:Nat}{tl tu:TO}{l u:OF}(hl:RfO K cl E tl l)(hu:RfO K cl E tu u):RfN K cl E (tSl (a7r K) (E6 i) tl tu) (V6 i l u):=by
 intro σ H Q env F R h
 unfold V6 at h
 cases q:look env i with
 | none=>rw[q]at h;exact h.elim
 | some d0 =>
  rw[q]at h
  obtain⟨x,e0,_⟩:=R.look q
  refine⟨x,e0,?_⟩
  refine hl σ H _ env F R ((Ct.bnd h a1J).mono fun lo H2 ⟨F2,e2,lo',s2,R2,p2,h2⟩=>?_)
  refine hu σ H2 _ e2 F2 R2 ((Ct.bnd h2 a1J).mono fun hi H3 ⟨F3,e3,hi',s3,R3,p3,h3⟩=>?_)
  cases (show lo=lo' from p2)
  cases (show hi=hi' from p3)
  cases q2:look e3 i with
  | none=>simp only[q2]at h3;exact h3.elim
  | some d =>
   simp only[q2]at h3
   obtain⟨x',e',rb⟩:=R3.look q2
   rw[e0]at e';cases e'
   split at h3
   ·rename_i ds hs
    obtain⟨a,xs,rfl,r,hq⟩:=rb.seqL R3.sub hs
    exact⟨a,xs,rfl,hq,fun p hp=>Ct.newN R3 hp (r.cut _ _) h3⟩
   ·exact h3.elim
end
section
variable {P:Program}{w:World}{mg:Str→Option Value}{base:Heap}{K:W.Frag}{cl:Str→Addr}{E:XK}{σ:St}{H F:Hp}{env:DE}{k:Nat}
def W7:List D→Option (List Int)
 | []=>some []
 | .int b::ds=>(W7 ds).map (b :: ·)
 | _=>none
theorem a2W:∀{ds:List D} {bs:List Int},W7 ds=some bs→ds=bs.map .int
 | [],_,h=>by cases h;rfl
 | .int b::ds,_,h=>by
  unfold W7 at h
  cases q:W7 ds with
  | none=>rw[q]at h;cases h
  | some bs=>rw[q]at h;cases h;rw[a2W q];rfl
 | .non::_,_,h=>by cases h
 | .bl _::_,_,h=>by cases h
 | .str _::_,_,h=>by cases h
 | .ty _::_,_,h=>by cases h
 | .cls _::_,_,h=>by cases h
 | .tup _::_,_,h=>by cases h
 | .lst _::_,_,h=>by cases h
 | .scr _::_,_,h=>by cases h
 | .exc _::_,_,h=>by cases h
 | .obj _ _ _::_,_,h=>by cases h
 | .dic _ _::_,_,h=>by cases h
 | .exv _ _ _::_,_,h=>by cases h
end
def b1Q(x:Option DE)(k:DE→Option (R (List D))):Option (R (List D)):=match x with
 | none=>none
 | some e=>k e
theorem a3n{e:DE}{k:DE→Option (R (List D))}:b1Q (some e) k=k e:=rfl
theorem a6P{b:GF}{c:BF}{el:ZF}{ec eo:DE}{acc:List D}:w8 b c el ec eo [] acc=some (.ok acc eo):=rfl
theorem a2p{b:GF}{c:BF}{el:ZF}{ec eo:DE}{d:D}{ds acc:List D}:w8 b c el ec eo (d::ds) acc=b1Q (b d ec) fun e1=>bnd (c e1) fun t e2=>if t=true then bnd (el e2) fun y _=>if acc.length<sizeLine then w8 b c el ec eo ds (acc++[y])else none else w8 b c el ec eo ds acc:=by
 rw[w8];cases b d ec<;>rfl
section
variable {K:W.Frag}{cl:Str→Addr}{E:XK}{σ:St}{H F:Hp}{env:DE}{k:Nat}
def a2q:List D→Option D
 | [.int i,.int j]=>some (.int (if j > i then j else i))
 | _=>none
def a2r:List D→Option D
 | [.int i,.int j]=>some (.int (if j<i then j else i))
 | _=>none
theorem a5m:a1K K cl (fun xs H Q=>∃i j,xs=[.int i,.int j]∧Q (.int (if j > i then j else i)) H) a2q:=by
 intro xs ds z H F Q s p h q
 unfold a2q at h
 split at h
 ·rename_i i j;cases h
  exact⟨i,j,Rps.ints (ns:=[i,j]) p,q _ H F (.refl s) (by simp only[Rp])⟩
 ·cases h
theorem a5n:a1K K cl (fun xs H Q=>∃i j,xs=[.int i,.int j]∧Q (.int (if j<i then j else i)) H) a2r:=by
 intro xs ds z H F Q s p h q
 unfold a2r at h
 split at h
 ·rename_i i j;cases h
  exact⟨i,j,Rps.ints (ns:=[i,j]) p,q _ H F (.refl s) (by simp only[Rp])⟩
 ·cases h
theorem a2s:bootBuiltins "min" = some (.builtin "min"):=by decide +kernel
theorem Rb.flat{d:D}{v:V}(h:Rb K cl F H d v)(f:l9 d=true):Rp K cl F d v:=by
 rcases h with h | ⟨_,_,_,_,rfl,_⟩
 ·exact h
 ·cases f
end
mutual
def u5:D→D→Bool
 | .tup ds,e=>(match e with
  | .tup es=>E9 ds es
  | _=>false)
 | .lst ds,e=>(match e with
  | .lst es=>E9 ds es
  | _=>false)
 | d,e=>U9 d e
def E9:List D→List D→Bool
 | [],es=>es.isEmpty
 | d::ds,es=>(match es with
  | []=>false
  | e::es=>u5 d e && E9 ds es)
end
mutual
def i6:D→Bool
 | .tup ds=>y6 ds
 | .lst ds=>y6 ds
 | d=>l9 d
def y6:List D→Bool
 | []=>true
 | d::ds=>i6 d && y6 ds
end
mutual
def G4:D→Nat
 | .tup ds=>B0 ds+1
 | .lst ds=>B0 ds+1
 | _=>0
def B0:List D→Nat
 | []=>0
 | d::ds=>max (G4 d) (B0 ds)
end
def a4q(ds es:List D)(j:Nat):Bool:=match ds[j]?,es[j]? with
 | some d,some e=>u5 d e
 | _,_=>true
theorem N9:∀{ds es:List D},ds.length=es.length→(List.range ds.length).all (a4q ds es)=E9 ds es
 | [],[],_=>by simp[E9]
 | d::ds,e::es,h=>by
  have h':ds.length=es.length:=by simpa using h
  simp only[E9]
  show(List.range (ds.length+1)).all _=(u5 d e && E9 ds es)
  rw[List.range_succ_eq_map,List.all_cons,List.all_map,← N9 h']
  rfl
theorem V7:∀{ds es:List D},ds.length≠es.length→E9 ds es=false
 | [],[],h=>absurd rfl h
 | _::_,[],_=>by simp[E9]
 | [],_::_,_=>by simp[E9]
 | d::ds,e::es,h=>by
  simp only[E9]
  rw[V7 (fun q=>h (by simp[q])),Bool.and_false]
section
variable {K:W.Frag}{cl:Str→Addr}{F:Hp}
theorem a0w{d e:D}{v:V}(fd:l9 d=true)(p:Rp K cl F d v)(q:Rp K cl F e v)(pe:i6 e=true):U9 d e=true:=by
 cases d<;>first | (cases fd;done) | skip
 all_goals simp only[Rp]at p;subst p
 all_goals cases e<;>simp only[Rp]at q<;>first | (cases q;done) | (cases q;simp[U9];done) | (obtain⟨_,_,z,_⟩:=q;cases z;done) | (obtain⟨_,z,_⟩:=q;cases z;done) | (simp[i6,l9]at pe;done)
mutual
theorem a2X:∀(d e:D) (v:V),Rp K cl F d v→Rp K cl F e v→i6 d=true→i6 e=true→u5 d e=true
 | .tup ds,e,v,p,q,pd,pe=>by
  simp only[Rp]at p
  obtain⟨a,xs,rfl,ha,r⟩:=p
  cases e<;>simp only[Rp]at q
  case tup es =>
   obtain⟨a',ys,z,ha',r'⟩:=q
   cases z;rw[ha]at ha';cases ha'
   simp only[i6]at pd pe
   simp only[u5]
   exact a1Q ds es xs r r' pd pe
  case lst es =>
   obtain⟨a',ys,z,ha',r'⟩:=q
   cases z;rw[ha]at ha';cases ha'
  all_goals first | (cases q;done) | (simp[i6,l9]at pe;done)
 | .lst ds,e,v,p,q,pd,pe=>by
  simp only[Rp]at p
  obtain⟨a,xs,rfl,ha,r⟩:=p
  cases e<;>simp only[Rp]at q
  case lst es =>
   obtain⟨a',ys,z,ha',r'⟩:=q
   cases z;rw[ha]at ha';cases ha'
   simp only[i6]at pd pe
   simp only[u5]
   exact a1Q ds es xs r r' pd pe
  case tup es =>
   obtain⟨a',ys,z,ha',r'⟩:=q
   cases z;rw[ha]at ha';cases ha'
  all_goals first | (cases q;done) | (simp[i6,l9]at pe;done)
 | .non,e,v,p,q,pd,pe=>by simp only[u5];exact a0w rfl p q pe
 | .bl _,e,v,p,q,pd,pe=>by simp only[u5];exact a0w rfl p q pe
 | .int _,e,v,p,q,pd,pe=>by simp only[u5];exact a0w rfl p q pe
 | .str _,e,v,p,q,pd,pe=>by simp only[u5];exact a0w rfl p q pe
 | .ty _,e,v,p,q,pd,pe=>by simp[i6,l9]at pd
 | .cls _,e,v,p,q,pd,pe=>by simp[i6,l9]at pd
 | .scr _,e,v,p,q,pd,pe=>by simp[i6,l9]at pd
 | .exc _,e,v,p,q,pd,pe=>by simp[i6,l9]at pd
 | .obj _ _ _,e,v,p,q,pd,pe=>by simp[i6,l9]at pd
 | .dic _ _,e,v,p,q,pd,pe=>by simp[i6,l9]at pd
 | .exv _ _ _,e,v,p,q,pd,pe=>by simp[i6,l9]at pd
theorem a1Q:∀(ds es:List D) (vs:List V),Rps K cl F ds vs→Rps K cl F es vs→y6 ds=true→y6 es=true→E9 ds es=true
 | [],es,vs,p,q,_,_=>by
  rw[p.inv0]at q
  cases es with
  | nil=>simp[E9]
  | cons e es=>obtain⟨_,_,z,_⟩:=q.inv;cases z
 | d::ds,es,vs,p,q,pd,pe=>by
  obtain⟨v,r,rfl,p1,p2⟩:=p.inv
  cases es with
  | nil=>have:=q.inv0;cases this
  | cons e es =>
   obtain⟨v',r',z,q1,q2⟩:=q.inv
   cases z
   simp only[y6,Bool.and_eq_true]at pd pe
   simp only[E9]
   rw[a2X d e v p1 q1 pd.1 pe.1,a1Q ds es r p2 q2 pd.2 pe.2];rfl
end
end
section
variable {X:Cx}{cl:Str→Addr}{F:Hp}{pins:List (Addr×Obj)}{σ:St}{H:Hp}{s:Shared}
theorem a0x{a:Addr}{d:D}{v:V}{u:Value}{A:Around}(hu:A.units<cLine)(hl:(∃xs,SqL X.K H a xs)∨∃xs,SqT X.K H a xs)(I:Inv X pins σ H s)(f:l9 d=true)(p:Rp X.K cl F d v)(r:RelV v u):SeqAt.EqAt A s (.ref a) u false∧SeqAt.EqAt A s u (.ref a) false:=by
 rcases hl with⟨xs,h⟩ | ⟨xs,h⟩
 ·obtain⟨us,r1,p1,z1⟩:=I.list h
  have q:=p1.isList
  cases d<;>first | (cases f;done) | skip
  all_goals simp only[Rp]at p;subst p
  ·cases r;exact⟨.list_none q hu,.none_list q hu⟩
  ·cases r;exact⟨.list_bool _ q hu,.bool_list _ q hu⟩
  ·obtain⟨t,rfl⟩:=r;exact⟨.list_int _ _ q hu,.int_list _ _ q hu⟩
  ·obtain⟨t,rfl⟩:=r;exact⟨.list_str _ _ q hu,.str_list _ _ q hu⟩
 ·obtain⟨us,r1,q,z1⟩:=I.tuple h
  cases d<;>first | (cases f;done) | skip
  all_goals simp only[Rp]at p;subst p
  ·cases r;exact⟨.tuple_none q hu,.none_tuple q hu⟩
  ·cases r;exact⟨.tuple_bool _ q hu,.bool_tuple _ q hu⟩
  ·obtain⟨t,rfl⟩:=r;exact⟨.tuple_int _ _ q hu,.int_tuple _ _ q hu⟩
  ·obtain⟨t,rfl⟩:=r;exact⟨.tuple_str _ _ q hu,.str_tuple _ _ q hu⟩
theorem D5{d:D}(p:i6 d=true):l9 d=true∨(∃ds,d=.tup ds)∨∃ds,d=.lst ds:=by
 cases d<;>first | exact .inl rfl | exact .inr (.inl ⟨_,rfl⟩) | exact .inr (.inr ⟨_,rfl⟩) | (simp[i6,l9]at p;done)
theorem a7W{d e:D}(f:l9 d=true):u5 d e=U9 d e:=by cases d<;>first | (cases f;done) | simp only[u5]
theorem W8{d e:D}{v u:V}{a b:Value}{A:Around}(I:Inv X pins σ H s)(sF:Same F H)(hu:A.units<cLine)(f:l9 d=true)(p:Rp X.K cl F d v)(q:Rp X.K cl F e u)(rv:RelV v a)(ru:RelV u b)(pe:i6 e=true):SeqAt.EqAt A s a b (u5 d e):=by
 rw[a7W f]
 rcases D5 pe with fe | ⟨es,rfl⟩ | ⟨es,rfl⟩
 ·rw[← p.eq q f fe]
  exact b1j rv ru (p.flat f).2 (q.flat fe).2
 ·simp only[Rp]at q
  obtain⟨c,ys,rfl,hb,r'⟩:=q
  cases ru
  have:=(a0x (A:=A) hu (.inr ⟨ys,.of (sF _ _ hb)⟩) I f p rv).2
  have z:U9 d (.tup es)=false:=by cases d<;>first | (cases f;done) | rfl
  rw[z];exact this
 ·simp only[Rp]at q
  obtain⟨c,ys,rfl,hb,r'⟩:=q
  cases ru
  have:=(a0x (A:=A) hu (.inl ⟨ys,.of (sF _ _ hb)⟩) I f p rv).2
  have z:U9 d (.lst es)=false:=by cases d<;>first | (cases f;done) | rfl
  rw[z];exact this
mutual
theorem b0g(I:Inv X pins σ H s)(sF:Same F H):∀(d e:D) (v u:V) (a b:Value) (A:Around),A.units+G4 d<cLine→Rp X.K cl F d v→Rp X.K cl F e u→RelV v a→RelV u b→i6 d=true→i6 e=true→SeqAt.EqAt A s a b (u5 d e)
 | .tup ds,e,v,u,va,ua,A,hu,p,q,rv,ru,pd,pe=>by
  have p0:=p
  have hu':A.units<cLine:=by omega
  simp only[G4]at hu
  simp only[Rp]at p
  obtain⟨a,xs,rfl,ha,r⟩:=p
  cases rv
  have ha':=sF _ _ ha
  rcases D5 pe with f | ⟨es,rfl⟩ | ⟨es,rfl⟩
  ·have:=(a0x (A:=A) hu' (.inr ⟨xs,.of ha'⟩) I f q ru).1
   have z:u5 (.tup ds) e=false:=by cases e<;>first | (cases f;done) | simp only[u5]
   rw[z];exact this
  ·have q0:=q
   simp only[Rp]at q
   obtain⟨b,ys,rfl,hb,r'⟩:=q
   cases ru
   have hb':=sF _ _ hb
   by_cases z:a=b
   ·subst z
    rw[a2X _ _ _ p0 q0 pd pe]
    exact .same _
   ·obtain⟨us,r1,p1,_⟩:=I.tuple (.of ha')
    obtain⟨ws,r2,p2,_⟩:=I.tuple (.of hb')
    simp only[i6]at pd pe
    have he:∀j (h1:j<us.toArray.size) (h2:j<ws.toArray.size),SeqAt.EqAt A.in1 s us.toArray[j] ws.toArray[j] (a4q ds es j):=V8 I sF ds es xs ys us ws A.in1 (by show A.units+1+B0 ds<cLine;omega) r r' r1 r2 pd pe
    have:=SeqAt.EqAt.of_refs z (SeqAt.RcAt.tuples p1 p2 hu' he)
    have e1:us.toArray.size=ds.length:=by simp[← r1.length,r.length]
    have e2:ws.toArray.size=es.length:=by simp[← r2.length,r'.length]
    rw[e1,e2]at this
    simp only[u5]
    by_cases hl:ds.length=es.length
    ·rw[← hl,Nat.min_self,N9 hl,beq_self_eq_true,Bool.and_true]at this
     exact this
    ·rw[V7 hl]
     rw[beq_eq_false_iff_ne.mpr hl,Bool.and_false]at this
     exact this
  ·simp only[Rp]at q
   obtain⟨b,ys,rfl,hb,r'⟩:=q
   cases ru
   obtain⟨us,r1,p1,_⟩:=I.tuple (.of ha')
   obtain⟨ws,r2,p2,_⟩:=I.list (.of (sF _ _ hb))
   simp only[u5]
   exact .tuple_list p1 p2.isList hu'
 | .lst ds,e,v,u,va,ua,A,hu,p,q,rv,ru,pd,pe=>by
  have p0:=p
  have hu':A.units<cLine:=by omega
  simp only[G4]at hu
  simp only[Rp]at p
  obtain⟨a,xs,rfl,ha,r⟩:=p
  cases rv
  have ha':=sF _ _ ha
  rcases D5 pe with f | ⟨es,rfl⟩ | ⟨es,rfl⟩
  ·have:=(a0x (A:=A) hu' (.inl ⟨xs,.of ha'⟩) I f q ru).1
   have z:u5 (.lst ds) e=false:=by cases e<;>first | (cases f;done) | simp only[u5]
   rw[z];exact this
  ·simp only[Rp]at q
   obtain⟨b,ys,rfl,hb,r'⟩:=q
   cases ru
   obtain⟨us,r1,p1,_⟩:=I.list (.of ha')
   obtain⟨ws,r2,p2,_⟩:=I.tuple (.of (sF _ _ hb))
   simp only[u5]
   exact .list_tuple p1.isList p2 hu'
  ·have q0:=q
   simp only[Rp]at q
   obtain⟨b,ys,rfl,hb,r'⟩:=q
   cases ru
   have hb':=sF _ _ hb
   by_cases z:a=b
   ·subst z
    rw[a2X _ _ _ p0 q0 pd pe]
    exact .same _
   ·obtain⟨us,r1,p1,_⟩:=I.list (.of ha')
    obtain⟨ws,r2,p2,_⟩:=I.list (.of hb')
    simp only[i6]at pd pe
    have he:∀j (h1:j<us.toArray.size) (h2:j<ws.toArray.size),SeqAt.EqAt A.in1 s us.toArray[j] ws.toArray[j] (a4q ds es j):=V8 I sF ds es xs ys us ws A.in1 (by show A.units+1+B0 ds<cLine;omega) r r' r1 r2 pd pe
    have e1:us.toArray.size=ds.length:=by simp[← r1.length,r.length]
    have e2:ws.toArray.size=es.length:=by simp[← r2.length,r'.length]
    simp only[u5]
    by_cases hl:ds.length=es.length
    ·have:=SeqAt.EqAt.of_refs z (SeqAt.RcAt.lists p1.isList p2.isList (by rw[e1,e2,hl]) hu' he)
     rw[e1,N9 hl]at this
     exact this
    ·rw[V7 hl]
     exact SeqAt.EqAt.of_refs z (SeqAt.RcAt.lists_lengths p1.isList p2.isList (by rw[e1,e2];simp[hl]) hu')
 | .non,e,v,u,va,ua,A,hu,p,q,rv,ru,pd,pe=>W8 I sF (by omega) rfl p q rv ru pe
 | .bl _,e,v,u,va,ua,A,hu,p,q,rv,ru,pd,pe=>W8 I sF (by omega) rfl p q rv ru pe
 | .int _,e,v,u,va,ua,A,hu,p,q,rv,ru,pd,pe=>W8 I sF (by omega) rfl p q rv ru pe
 | .str _,e,v,u,va,ua,A,hu,p,q,rv,ru,pd,pe=>W8 I sF (by omega) rfl p q rv ru pe
 | .ty _,e,v,u,va,ua,A,hu,p,q,rv,ru,pd,pe=>by simp[i6,l9]at pd
 | .cls _,e,v,u,va,ua,A,hu,p,q,rv,ru,pd,pe=>by simp[i6,l9]at pd
 | .scr _,e,v,u,va,ua,A,hu,p,q,rv,ru,pd,pe=>by simp[i6,l9]at pd
 | .exc _,e,v,u,va,ua,A,hu,p,q,rv,ru,pd,pe=>by simp[i6,l9]at pd
 | .obj _ _ _,e,v,u,va,ua,A,hu,p,q,rv,ru,pd,pe=>by simp[i6,l9]at pd
 | .dic _ _,e,v,u,va,ua,A,hu,p,q,rv,ru,pd,pe=>by simp[i6,l9]at pd
 | .exv _ _ _,e,v,u,va,ua,A,hu,p,q,rv,ru,pd,pe=>by simp[i6,l9]at pd
theorem V8(I:Inv X pins σ H s)(sF:Same F H):∀(ds es:List D) (xs ys:List V) (us ws:List Value) (A:Around),A.units+B0 ds<cLine→Rps X.K cl F ds xs→Rps X.K cl F es ys→Vals xs us→Vals ys ws→y6 ds=true→y6 es=true→∀j (h1:j<us.toArray.size) (h2:j<ws.toArray.size),SeqAt.EqAt A s us.toArray[j] ws.toArray[j] (a4q ds es j)
 | [],es,xs,ys,us,ws,A,hu,p,q,rv,rw',pd,pe=>fun j h1 h2=>by
  rw[p.inv0]at rv;cases rv;simp at h1
 | d::ds,es,xs,ys,us,ws,A,hu,p,q,rv,rw',pd,pe=>fun j h1 h2=>by
  obtain⟨x,xs',rfl,p1,p2⟩:=p.inv
  cases rv with
  | cons r1 t1 =>
   cases es with
   | nil=>rw[q.inv0]at rw';cases rw';simp at h2
   | cons e es =>
    obtain⟨y,ys',rfl,q1,q2⟩:=q.inv
    cases rw' with
    | cons r2 t2 =>
     simp only[y6,Bool.and_eq_true]at pd pe
     simp only[B0]at hu
     cases j with
     | zero=>exact b0g I sF d e x y _ _ A (by omega) p1 q1 r1 r2 pd.1 pe.1
     | succ j =>
      have:=V8 I sF ds es xs' ys' _ _ A (by omega) p2 q2 t1 t2 pd.2 pe.2 j (by simpa using h1) (by simpa using h2)
      simpa [a4q]using this
end
end
theorem a7X{A:Around}{k:Nat}(hr:Room k A):A.units+41<cLine:=Nat.lt_of_le_of_lt (Nat.add_le_add_left (by decide:41≤64) _) hr.units
def Q0 : D→Bool
 | .tup _=>true
 | .lst _=>true
 | _=>false
theorem Rb.toRp{K:W.Frag}{cl:Str→Addr}{F H:Hp}{d:D}{v:V}(s:Same F H)(h:Rb K cl F H d v):∃F',Same F F'∧Same F' H∧Rp K cl F' d v:=by
 rcases h with h | ⟨a,xs,ds,rfl,rfl,ha,r⟩
 ·exact⟨F,Same.refl _,s,h⟩
 ·have g:Same F (upd F a (.lst xs)):=fun b o q=>by
   by_cases z:b=a
   ·subst z;have:=s _ _ q;rw[ha]at this;cases this;exact i8
   ·rw[b9 z];exact q
  refine⟨upd F a (.lst xs),g,fun b o q=>?_,?_⟩
  ·by_cases z:b=a
   ·subst z;rw[i8]at q;cases q;exact ha
   ·rw[b9 z]at q;exact s _ _ q
  ·simp only[Rp];exact⟨a,xs,rfl,i8,r.mono g⟩
section
variable {X:Cx}{cl:Str→Addr}{F:Hp}{pins:List (Addr×Obj)}{σ:St}{H:Hp}{s:Shared}
theorem a1o{a:Addr}{d:D}{v:V}{u:Value}{A:Around}(hu:A.units<cLine)(hl:(∃xs,SqL X.K H a xs)∨∃xs,SqT X.K H a xs)(I:Inv X pins σ H s)(f:l9 d=true)(p:Rp X.K cl F d v)(r:RelV v u) :
  (SeqAt.RcAt A s (.ref a) u false∧SeqAt.RcAt A s u (.ref a) false)∧SeqAt.RcNeAt A s (.ref a) u true∧SeqAt.RcNeAt A s u (.ref a) true:=by
 rcases hl with⟨xs,h⟩ | ⟨xs,h⟩
 ·obtain⟨us,r1,p1,z1⟩:=I.list h
  have q:=p1.isList
  cases d<;>first | (cases f;done) | skip
  all_goals simp only[Rp]at p;subst p
  ·cases r;exact⟨⟨.list_none q hu,.none_list q hu⟩,.list_none q hu,.none_list q hu⟩
  ·cases r;exact⟨⟨.list_bool _ q hu,.bool_list _ q hu⟩,.list_bool _ q hu,.bool_list _ q hu⟩
  ·obtain⟨t,rfl⟩:=r;exact⟨⟨.list_int _ _ q hu,.int_list _ _ q hu⟩,.list_int _ _ q hu,.int_list _ _ q hu⟩
  ·obtain⟨t,rfl⟩:=r;exact⟨⟨.list_str _ _ q hu,.str_list _ _ q hu⟩,.list_str _ _ q hu,.str_list _ _ q hu⟩
 ·obtain⟨us,r1,q,z1⟩:=I.tuple h
  cases d<;>first | (cases f;done) | skip
  all_goals simp only[Rp]at p;subst p
  ·cases r;exact⟨⟨.tuple_none q hu,.none_tuple q hu⟩,.tuple_none q hu,.none_tuple q hu⟩
  ·cases r;exact⟨⟨.tuple_bool _ q hu,.bool_tuple _ q hu⟩,.tuple_bool _ q hu,.bool_tuple _ q hu⟩
  ·obtain⟨t,rfl⟩:=r;exact⟨⟨.tuple_int _ _ q hu,.int_tuple _ _ q hu⟩,.tuple_int _ _ q hu,.int_tuple _ _ q hu⟩
  ·obtain⟨t,rfl⟩:=r;exact⟨⟨.tuple_str _ _ q hu,.str_tuple _ _ q hu⟩,.tuple_str _ _ q hu,.str_tuple _ _ q hu⟩
theorem a5o{d e:D}{v u:V}{a b:Value}{A:Around}(I:Inv X pins σ H s)(sF:Same F H)(hu:A.units+G4 d<cLine)(p:Rp X.K cl F d v)(q:Rp X.K cl F e u)(rv:RelV v a)(ru:RelV u b)(pd:i6 d=true)(pe:i6 e=true)(hs:Q0 d=true∨Q0 e=true) :
  SeqAt.RcAt A s a b (u5 d e)∧SeqAt.RcNeAt A s a b (!u5 d e):=by
 have hu':A.units<cLine:=by omega
 rcases D5 pd with fd | ⟨ds,rfl⟩ | ⟨ds,rfl⟩
 ·have se:Q0 e=true:=hs.resolve_left (by cases d<;>first | (cases fd;done) | simp[Q0])
  rcases D5 pe with fe | ⟨es,rfl⟩ | ⟨es,rfl⟩
  ·cases e<;>first | (cases fe;done) | (cases se;done)
  ·simp only[Rp]at q
   obtain⟨c,ys,rfl,hb,r'⟩:=q
   cases ru
   have:=a1o (A:=A) hu' (.inr ⟨ys,.of (sF _ _ hb)⟩) I fd p rv
   have z:u5 d (.tup es)=false:=by cases d<;>first | (cases fd;done) | simp[u5,U9]
   rw[z];exact⟨this.1.2,this.2.2⟩
  ·simp only[Rp]at q
   obtain⟨c,ys,rfl,hb,r'⟩:=q
   cases ru
   have:=a1o (A:=A) hu' (.inl ⟨ys,.of (sF _ _ hb)⟩) I fd p rv
   have z:u5 d (.lst es)=false:=by cases d<;>first | (cases fd;done) | simp[u5,U9]
   rw[z];exact⟨this.1.2,this.2.2⟩
 ·simp only[G4]at hu
  simp only[Rp]at p
  obtain⟨l,xs,rfl,ha,r⟩:=p
  cases rv
  have ha':=sF _ _ ha
  obtain⟨us,r1,p1,_⟩:=I.tuple (.of ha')
  rcases D5 pe with fe | ⟨es,rfl⟩ | ⟨es,rfl⟩
  ·have:=a1o (A:=A) hu' (.inr ⟨xs,.of ha'⟩) I fe q ru
   have z:u5 (.tup ds) e=false:=by cases e<;>first | (cases fe;done) | simp only[u5]
   rw[z];exact⟨this.1.1,this.2.1⟩
  ·simp only[Rp]at q
   obtain⟨c,ys,rfl,hb,r'⟩:=q
   cases ru
   obtain⟨ws,r2,p2,_⟩:=I.tuple (.of (sF _ _ hb))
   simp only[i6]at pd pe
   have he:=V8 I sF ds es xs ys us ws A.in1 (by show A.units+1+B0 ds<cLine;omega) r r' r1 r2 pd pe
   have h1:=SeqAt.RcAt.tuples p1 p2 hu' he
   have h2:=SeqAt.RcNeAt.tuples p1 p2 hu' he
   have e1:us.toArray.size=ds.length:=by simp[← r1.length,r.length]
   have e2:ws.toArray.size=es.length:=by simp[← r2.length,r'.length]
   rw[e1,e2]at h1 h2
   simp only[u5]
   by_cases hl:ds.length=es.length
   ·rw[← hl,Nat.min_self,N9 hl,beq_self_eq_true,Bool.and_true]at h1 h2
    exact⟨h1,h2⟩
   ·rw[V7 hl]
    rw[beq_eq_false_iff_ne.mpr hl,Bool.and_false]at h1 h2
    exact⟨h1,h2⟩
  ·simp only[Rp]at q
   obtain⟨c,ys,rfl,hb,r'⟩:=q
   cases ru
   obtain⟨ws,r2,p2,_⟩:=I.list (.of (sF _ _ hb))
   simp only[u5]
   exact⟨.tuple_list p1 p2.isList hu',.tuple_list p1 p2.isList hu'⟩
 ·simp only[G4]at hu
  simp only[Rp]at p
  obtain⟨l,xs,rfl,ha,r⟩:=p
  cases rv
  have ha':=sF _ _ ha
  obtain⟨us,r1,p1,_⟩:=I.list (.of ha')
  rcases D5 pe with fe | ⟨es,rfl⟩ | ⟨es,rfl⟩
  ·have:=a1o (A:=A) hu' (.inl ⟨xs,.of ha'⟩) I fe q ru
   have z:u5 (.lst ds) e=false:=by cases e<;>first | (cases fe;done) | simp only[u5]
   rw[z];exact⟨this.1.1,this.2.1⟩
  ·simp only[Rp]at q
   obtain⟨c,ys,rfl,hb,r'⟩:=q
   cases ru
   obtain⟨ws,r2,p2,_⟩:=I.tuple (.of (sF _ _ hb))
   simp only[u5]
   exact⟨.list_tuple p1.isList p2 hu',.list_tuple p1.isList p2 hu'⟩
  ·simp only[Rp]at q
   obtain⟨c,ys,rfl,hb,r'⟩:=q
   cases ru
   obtain⟨ws,r2,p2,_⟩:=I.list (.of (sF _ _ hb))
   simp only[i6]at pd pe
   have he:=V8 I sF ds es xs ys us ws A.in1 (by show A.units+1+B0 ds<cLine;omega) r r' r1 r2 pd pe
   have e1:us.toArray.size=ds.length:=by simp[← r1.length,r.length]
   have e2:ws.toArray.size=es.length:=by simp[← r2.length,r'.length]
   simp only[u5]
   by_cases hl:ds.length=es.length
   ·have h1:=SeqAt.RcAt.lists p1.isList p2.isList (by rw[e1,e2,hl]) hu' he
    have h2:=SeqAt.RcNeAt.lists p1.isList p2.isList (by rw[e1,e2,hl]) hu' he
    rw[e1,N9 hl]at h1 h2
    exact⟨h1,h2⟩
   ·rw[V7 hl]
    exact⟨SeqAt.RcAt.lists_lengths p1.isList p2.isList (by rw[e1,e2];simp[hl]) hu',SeqAt.RcNeAt.lists_lengths p1.isList p2.isList (by rw[e1,e2];simp[hl]) hu'⟩
end
def a7Y(K:W.Frag)(cl:Str→Addr)(neg:Bool):R2:=fun x y H Q=>∃F d e,Same F H∧Rp K cl F d x∧Rp K cl F e y∧i6 d=true∧i6 e=true∧G4 d≤40∧(Q0 d=true∨Q0 e=true)∧Q (.bl (if neg then !u5 d e else u5 d e)) H
theorem a5p{X:Cx}{K:W.Frag}{cl:Str→Addr}(hu:X.A.units+41<cLine)(hK:X.K=K:=by rfl):OpR X (compareOp .Eq) (a7Y K cl false):=by
 subst hK
 intro pins s σ H x y v u Q I rx ry h
 obtain⟨F,d,e,sF,p,q,pd,pe,hd,hs,hQ⟩:=h
 exact(a5o I sF (by omega) p q rx ry pd pe hs).1 X.prog X.w _ _ ⟨.bl _,H,I,rfl,hQ⟩
theorem b0h{X:Cx}{K:W.Frag}{cl:Str→Addr}(hu:X.A.units+41<cLine)(hK:X.K=K:=by rfl):OpR X (compareOp .NotEq) (a7Y K cl true):=by
 subst hK
 intro pins s σ H x y v u Q I rx ry h
 obtain⟨F,d,e,sF,p,q,pd,pe,hd,hs,hQ⟩:=h
 exact(a5o I sF (by omega) p q rx ry pd pe hs).2 X.prog X.w _ _ ⟨.bl _,H,I,rfl,hQ⟩
def L3(neg:Bool)(d e:D):Option D:=if(i6 d && i6 e && decide (G4 d≤40) && (Q0 d || Q0 e))=true then some (.bl (if neg then !u5 d e else u5 d e))else none
theorem a4r{K:W.Frag}{cl:Str→Addr}{neg:Bool}:OpOk K cl (a7Y K cl neg) (L3 neg):=by
 intro x y d e z H F Q s hx hy h q
 unfold L3 at h
 split at h
 ·rename_i c;cases h
  simp only[Bool.and_eq_true,Bool.or_eq_true,decide_eq_true_eq]at c
  obtain⟨F1,g1,s1,p1⟩:=hx.toRp s
  have hy1:Rb K cl F1 H e y:=by
   rcases hy with hy | ⟨a,xs,ds,e1,e2,ha,r⟩
   ·exact .inl (hy.mono g1)
   ·exact .inr ⟨a,xs,ds,e1,e2,ha,r.mono g1⟩
  obtain⟨F2,g2,s2,p2⟩:=hy1.toRp s1
  exact⟨F2,d,e,s2,p1.mono g2,p2,c.1.1.1,c.1.1.2,c.1.2,c.2,q _ H F (.refl s) (by simp only[Rp])⟩
 ·cases h
mutual
theorem a4s:∀(d:D),i6 d=true→u5 d d=true
 | .tup ds,h=>by simp only[i6]at h;simp only[u5];exact a02 ds h
 | .lst ds,h=>by simp only[i6]at h;simp only[u5];exact a02 ds h
 | .non,_=>by simp[u5,U9]
 | .bl _,_=>by simp[u5,U9]
 | .int _,_=>by simp[u5,U9]
 | .str _,_=>by simp[u5,U9]
 | .ty _,h=>by simp[i6,l9]at h
 | .cls _,h=>by simp[i6,l9]at h
 | .scr _,h=>by simp[i6,l9]at h
 | .exc _,h=>by simp[i6,l9]at h
 | .obj _ _ _,h=>by simp[i6,l9]at h
 | .dic _ _,h=>by simp[i6,l9]at h
 | .exv _ _ _,h=>by simp[i6,l9]at h
theorem a02:∀(ds:List D),y6 ds=true→E9 ds ds=true
 | [],_=>by simp[E9]
 | d::ds,h=>by
  simp only[y6,Bool.and_eq_true]at h
  simp only[E9]
  rw[a4s d h.1,a02 ds h.2];rfl
end
theorem W9{d:D}(neg:Bool)(h1:i6 d=true)(h2:G4 d≤40)(h3:Q0 d=true):L3 neg d d=some (.bl (!neg)):=by
 unfold L3
 rw[if_pos (by simp[h1,h2,h3]),a4s d h1]
 cases neg<;>rfl
theorem a4Q{α:Type}{f:α→D}{l:List α}(h:∀a∈l,i6 (f a)=true):y6 (l.map f)=true:=by
 induction l with
 | nil=>rfl
 | cons a l ih =>
  simp only[List.map_cons,y6,Bool.and_eq_true]
  exact⟨h a List.mem_cons_self,ih fun b hb=>h b (List.mem_cons_of_mem _ hb)⟩
theorem a6Q{α:Type}{f:α→D}{l:List α}{n:Nat}(h:∀a∈l,G4 (f a)≤n):B0 (l.map f)≤n:=by
 induction l with
 | nil=>simp[B0]
 | cons a l ih =>
  simp only[List.map_cons,B0]
  have:=h a List.mem_cons_self
  have:=ih fun b hb=>h b (List.mem_cons_of_mem _ hb)
  omega
section
variable {K:W.Frag}{cl:Str→Addr}{E:XK}{σ:St}{H F:Hp}{env:DE}{k:Nat}
def b2P(K:W.Frag)(cl:Str→Addr)(E:XK)(a:Addr)(t:TS)(f:SF):Prop:=∀(N:Ends) σ H env F,Rel K cl σ H F env→(∃cls,F a=some (F6 a cls none))→Cs K cl E (f env) σ H F env N→t N σ H
theorem RfS.x{a:Addr}{t:TS}{f:SF}(h:RfS K cl E t f):b2P K cl E a t f:=fun N σ H env F R _ c=>h N σ H env F R c
theorem a6R{n:Nat}(sub:Same F H):Rel K cl (W3 n) H F (List.replicate n Sl.no):=by
 have no:∀(j:Nat) (s:Sl),(List.replicate n Sl.no)[j]? = some s→s=.no:=fun j s q=>by
  rw[List.getElem?_replicate]at q
  split at q<;>cases q;rfl
 refine⟨sub,by unfold W3;rw[List.length_replicate,List.length_replicate],fun j e q=>?_,fun j ds q=>?_,fun j l b ⟨ds,q⟩ _ _ _=>?_,.none fun j s ks ds q d=>by cases no j s q;exact d⟩
 ·cases no j _ q
 ·rcases q with q | q<;>cases no j _ q
 ·rcases q with q | q<;>cases no j _ q
theorem a4t{n:Nat}{σ:St}{a:Addr}:¬Ow σ (List.replicate n Sl.no) a:=fun⟨j,ds,oo,q,_⟩=>by
 rw[List.getElem?_replicate]at q
 split at q<;>cases q
 exact oo
end
def a03:Sl→Sl
 | .ow ds=>.fz (.lst ds)
 | .hd ds=>.fz (.lst ds)
 | .od ks ds=>.fz (.dic ks ds)
 | .hk ks ds=>.fz (.dic ks ds)
 | s=>s
def a2Y:DE→DE
 | []=>[]
 | s::e=>a03 s::a2Y e
mutual
def noL:D→Bool
 | .lst _=>false
 | .scr _=>false
 | .exc _=>false
 | .obj _ _ _=>false
 | .dic _ _=>false
 | .exv _ _ _=>false
 | .tup ds=>noLs ds
 | _=>true
def noLs:List D→Bool
 | []=>true
 | d::ds=>noL d && noLs ds
end
def a7Z(o:HO):Prop:=(∃xs,o=.lst xs)∨∃ks xs,o=dkO ks xs
section
variable {K:W.Frag}{cl:Str→Addr}{E:XK}{σ:St}{H F F1 H' F' F2:Hp}{env:DE}
mutual
theorem Rp.noL(g:∀b o,F' b=some o→¬a7Z o→F2 b=some o):∀(d:D) (v:V),L2.noL d=true→Rp K cl F' d v→Rp K cl F2 d v
 | .non,_,_,h=>by simpa only[Rp]using h
 | .bl _,_,_,h=>by simpa only[Rp]using h
 | .int _,_,_,h=>by simpa only[Rp]using h
 | .str _,_,_,h=>by simpa only[Rp]using h
 | .ty _,_,_,h=>by simpa only[Rp]using h
 | .cls _,_,_,h=>by simpa only[Rp]using h
 | .tup ds,v,n,h=>by
  simp only[Rp]at h ⊢
  obtain⟨a,xs,e,h1,h2⟩:=h
  exact⟨a,xs,e,g _ _ h1 (fun z=>by rcases z with⟨_,z⟩ | ⟨ks,_,z⟩;exact nomatch z;cases ks<;>exact nomatch z),Rps.noL g ds xs (by simpa only[L2.noL]using n) h2⟩
 | .lst ds,v,n,h=>by simp[L2.noL]at n
 | .scr ns,v,n,h=>by simp[L2.noL]at n
 | .exc c,v,n,h=>by simp[L2.noL]at n
 | .obj _ _ _,v,n,h=>by simp[L2.noL]at n
 | .dic _ _,v,n,h=>by simp[L2.noL]at n
 | .exv _ _ _,v,n,h=>by simp[L2.noL]at n
theorem Rps.noL(g:∀b o,F' b=some o→¬a7Z o→F2 b=some o):∀(ds:List D) (vs:List V),L2.noLs ds=true→Rps K cl F' ds vs→Rps K cl F2 ds vs
 | [],_,_,h=>by simpa only[Rps]using h
 | d::ds,vs,n,h=>by
  simp only[Rps]at h ⊢
  simp only[L2.noLs,Bool.and_eq_true]at n
  obtain⟨v,r,e,h1,h2⟩:=h
  exact⟨v,r,e,Rp.noL g d v n.1 h1,Rps.noL g ds r n.2 h2⟩
end
def noX:XN→Bool
 | .p _=>true
 | .v _ _ d=>noL d
theorem Xf.noL{c:XN}{cx:Option Addr}(g:∀b o,F' b=some o→¬a7Z o→F2 b=some o)(n:noX c=true)(h:Xf K cl F' c cx):Xf K cl F2 c cx:=by
 cases c with
 | p c=>exact h
 | v c f d =>
  obtain⟨dx,y,e,h1,h2⟩:=h
  exact⟨dx,y,e,g _ _ h1 (fun z=>by rcases z with⟨_,z⟩ | ⟨ks,_,z⟩;exact nomatch z;cases ks<;>exact nomatch z),Rp.noL g d y n h2⟩
def b2m(f:ZF):ZF:=fun e=>match f (a2Y e)with
 | some (.ok d _)=>if noL d=true then some (.ok d e)else none
 | some (.ex c)=>if noX c=true then some (.ex c)else none
 | none=>none
def b2n(f:BF):BF:=fun e=>match f (a2Y e)with
 | some (.ok d _)=>some (.ok d e)
 | some (.ex c)=>if noX c=true then some (.ex c)else none
 | none=>none
def bLd(r:Option (R Bool))(e:DE):Option (R Bool):=match r with
 | some (.ok d _)=>some (.ok d e)
 | some (.ex c)=>if noX c=true then some (.ex c)else none
 | none=>none
def zLd(r:Option (R D))(e:DE):Option (R D):=match r with
 | some (.ok d _)=>if noL d=true then some (.ok d e)else none
 | some (.ex c)=>if noX c=true then some (.ex c)else none
 | none=>none
theorem a70(f:BF)(e:DE):b2n f e=bLd (f (a2Y e)) e:=rfl
theorem a71(f:ZF)(e:DE):b2m f e=zLd (f (a2Y e)) e:=rfl
theorem b1R(d:Bool)(e e2:DE):bLd (some (.ok d e2)) e=some (.ok d e):=rfl
theorem b1S(c:Str)(e:DE):bLd (some (.ex (.p c))) e=some (.ex (.p c)):=rfl
theorem b0i(c f:Str)(d:D)(e:DE):bLd (some (.ex (.v c f d))) e=if noL d=true then some (.ex (.v c f d))else none:=rfl
theorem b1T(d:D)(e e2:DE):zLd (some (.ok d e2)) e=if noL d=true then some (.ok d e)else none:=rfl
theorem b1U(c:Str)(e:DE):zLd (some (.ex (.p c))) e=some (.ex (.p c)):=rfl
theorem b0j(c f:Str)(d:D)(e:DE):zLd (some (.ex (.v c f d))) e=if noL d=true then some (.ex (.v c f d))else none:=rfl
variable {k:Nat}
end
def un:Option D→Sl
 | none=>.no
 | some d=>.fz d
def O0:Sl→Bool
 | .hd _=>false
 | _=>true
def okS:Option Sl→Bool
 | none=>false
 | some s=>O0 s
theorem a72(o:Option D):O0 (un o)=true:=by cases o<;>rfl
theorem a73:O0 .no=true:=rfl
theorem a74(d:D):O0 (.fz d)=true:=rfl
theorem a75(d:List D):O0 (.ow d)=true:=rfl
theorem a76(d:List D):O0 (.hd d)=false:=rfl
theorem a77(s:Sl):okS (some s)=O0 s:=rfl
theorem a78:okS none=false:=rfl
theorem b0k:a03 .no=.no:=rfl
theorem b0l(d:D):a03 (.fz d)=.fz d:=rfl
theorem b0m(d:List D):a03 (.ow d)=.fz (.lst d):=rfl
theorem b0n(d:List D):a03 (.hd d)=.fz (.lst d):=rfl
theorem a6T(i:Nat)(s:Sl)(e:DE):put i s e=if okS e[i]? = true then some (.nx (e.set i s))else none:=by
 unfold put okS
 cases e[i]? with
 | none=>rfl
 | some t=>cases t<;>rfl
theorem a79(i:Nat)(d:D)(e:DE):g0 i d e=if okS e[i]? = true then some (e.set i (.fz d))else none:=by
 unfold g0 okS
 cases e[i]? with
 | none=>rfl
 | some t=>cases t<;>rfl
theorem b0o(o:Option D):a03 (un o)=un o:=by cases o<;>rfl
theorem a7_:a0Z []=true:=rfl
theorem a6U(s:Sl)(e:DE):a0Z (s::e)=(O0 s && a0Z e):=by cases s<;>rfl
def z8(r:Option RS):Option RS:=match r with
 | some (.ct e)=>some (.nx e)
 | r=>r
theorem b0p(e:DE):z8 (some (.nx e))=some (.nx e):=rfl
theorem b0q(e:DE):z8 (some (.ct e))=some (.nx e):=rfl
theorem b0r(d:D):z8 (some (.rt d))=some (.rt d):=rfl
theorem b0s(c:XN):z8 (some (.ex c))=some (.ex c):=rfl
theorem b0t(d:List (List D)):z8 (some (.rz d))=some (.rz d):=rfl
theorem b0u(d:List D):z8 (some (.ro d))=some (.ro d):=rfl
theorem a3p{r:Option RS}{k:SF}:V4 r k=V4 (z8 r) k:=by
 cases r with
 | none=>rfl
 | some r=>cases r<;>rfl
theorem a4u{α:Type}{b:GF}{body:SF}(f:α→D)(I:List α→DE→Prop)(l0:List α):∀(l pre:List α) (e:DE),l0=pre++l→I pre e→(∀pre x post e,l0=pre++x::post→I pre e→∃e2,z8 (J7 (b (f x) e) body)=some (.nx e2)∧I (pre++[x]) e2)→∃e',t6 b body (l.map f) e=some (.nx e')∧I l0 e'
 | [],pre,e,hl,h,_=>⟨e,rfl,by rw[hl,List.append_nil];exact h⟩
 | x::l,pre,e,hl,h,hs=>by
  obtain⟨e2,h2,h3⟩:=hs pre x l e hl h
  obtain⟨e',h4,h5⟩:=a4u f I l0 l (pre++[x]) e2 (by rw[hl,List.append_assoc];rfl) h3 hs
  refine⟨e',?_,h5⟩
  rw[List.map_cons,a01]
  cases q:b (f x) e with
  | none=>rw[q]at h2;cases h2
  | some e1 =>
   rw[q]at h2
   have h2:z8 (body e1)=some (.nx e2):=h2
   rw[M0,a3p,h2];exact h4
theorem a5q{α:Type}{b:GF}{body:SF}(f:α→D)(I:List α→DE→Prop)(l:List α)(e:DE)(h:I [] e)(hs:∀pre x post e,l=pre++x::post→I pre e→∃e2,z8 (J7 (b (f x) e) body)=some (.nx e2)∧I (pre++[x]) e2):∃e',t6 b body (l.map f) e=some (.nx e')∧I l e' :=
 a4u f I l l [] e rfl h hs
def a3N:RS→Bool
 | .rt _=>true
 | .ro _=>true
 | .rz _=>true
 | .rp _ _=>true
 | .ex _=>true
 | _=>false
theorem a0y{α:Type}{b:GF}{c:BF}{el:ZF}{ec eo:DE}(f:α→D)(g:α→D)(q:α→Bool):∀(l:List α) (acc:List D),acc.length+l.length≤sizeLine→(∀x∈l,∃e1 e2,b (f x) ec=some e1∧c e1=some (.ok (q x) e2)∧(q x=true→∃e3,el e2=some (.ok (g x) e3)))→w8 b c el ec eo (l.map f) acc=some (.ok (acc++(l.filter q).map g) eo)
 | [],acc,_,_=>by simp only[List.filter_nil,List.map_nil,List.append_nil];rfl
 | x::l,acc,hl,h=>by
  obtain⟨e1,e2,h1,h2,h3⟩:=h x List.mem_cons_self
  have hl':acc.length<sizeLine:=by rw[List.length_cons]at hl;omega
  rw[List.map_cons,a2p,h1,a3n,h2,a4d]
  by_cases z:q x=true
  ·obtain⟨e3,h4⟩:=h3 z
   rw[if_pos z,h4,a4d,if_pos hl',a0y f g q l (acc++[g x]) (by rw[List.length_append,List.length_cons,List.length_nil];rw[List.length_cons]at hl;omega) (fun y m=>h y (List.mem_cons_of_mem _ m)),List.filter_cons_of_pos z,List.map_cons,List.append_assoc];rfl
  ·rw[if_neg z,a0y f g q l acc (by rw[List.length_cons]at hl;omega) (fun y m=>h y (List.mem_cons_of_mem _ m)),List.filter_cons_of_neg z]
theorem a8a(lo:Int)(n:Nat):A6 lo n=(List.range n).map fun i=>.int (lo+i):=rfl
theorem a8b{ds:List D}{v:Int}(h:0≤v):Y0 ds none (some v)=ds.take v.toNat:=by
 unfold Y0
 rw[HT.sIx_none]
 obtain⟨n,rfl⟩:=Int.eq_ofNat_of_zero_le h
 rw[HT.sIx_nat,List.drop_zero,Nat.sub_zero,Int.toNat_natCast]
 by_cases z:n≤ds.length
 ·rw[Nat.min_eq_left z]
 ·rw[Nat.min_eq_right (by omega),List.take_of_length_le (Nat.le_refl _),List.take_of_length_le (by omega)]
theorem a1p{n k:Nat}(h:k<n):N2 n (k:Int)=some k:=by
 unfold N2;rw[if_pos (by omega),if_pos (by omega),Int.toNat_natCast]
def J8{α:Type}(g:Nat→α→D)(n:Nat):List α→List D
 | []=>[]
 | x::l=>g n x::J8 g (n+1) l
theorem a1q{α:Type}(f:α→D):∀(n:Nat) (l:List α),K0 n (l.map f)=J8 (fun k x=>.tup [.int k,f x]) n l
 | _,[]=>rfl
 | n,x::l=>by rw[List.map_cons,J8,K0,a1q f (n+1) l]
theorem a5r{α:Type}{b:GF}{body:SF}(g:Nat→α→D)(I:List α→DE→Prop)(Z:List α→α→RS→Prop)(l0:List α):∀(l pre:List α) (e:DE),l0=pre++l→I pre e →
  (∀pre x post e,l0=pre++x::post→I pre e→(∃r,a3N r=true∧z8 (J7 (b (g pre.length x) e) body)=some r∧Z pre x r)∨(∃e2,z8 (J7 (b (g pre.length x) e) body)=some (.nx e2)∧I (pre++[x]) e2)) →
  ((∃pr x post r,l0=pr++x::post∧a3N r=true∧t6 b body (J8 g pre.length l) e=some r∧Z pr x r∧∃e',I pr e')∨(∃e',t6 b body (J8 g pre.length l) e=some (.nx e')∧I l0 e'))
 | [],pre,e,hl,h,_=>.inr ⟨e,rfl,by rw[hl,List.append_nil];exact h⟩
 | x::l,pre,e,hl,h,hs=>by
  have hstep:∀r,z8 (J7 (b (g pre.length x) e) body)=some r→t6 b body (J8 g pre.length (x::l)) e=V4 (some r) (t6 b body (J8 g (pre.length+1) l)):=fun r h2=>by
   rw[J8,a01]
   cases q:b (g pre.length x) e with
   | none=>rw[q]at h2;cases h2
   | some e1 =>
    rw[q]at h2
    have h2:z8 (body e1)=some r:=h2
    rw[M0,a3p,h2]
  rcases hs pre x l e hl h with⟨r,hr,h2,hz⟩ | ⟨e2,h2,h3⟩
  ·refine .inl ⟨pre,x,l,r,hl,hr,?_,hz,e,h⟩
   rw[hstep r h2]
   cases r<;>first | rfl | cases hr
  ·have ih:=a5r g I Z l0 l (pre++[x]) e2 (by rw[hl,List.append_assoc];rfl) h3 hs
   rw[List.length_append,List.length_singleton]at ih
   rw[hstep _ h2]
   exact ih
theorem a04{α:Type}{b:GF}{body:SF}(g:Nat→α→D)(I:List α→DE→Prop)(Z:List α→α→RS→Prop)(l:List α)(e:DE)(h:I [] e)
  (hs:∀pre x post e,l=pre++x::post→I pre e→(∃r,a3N r=true∧z8 (J7 (b (g pre.length x) e) body)=some r∧Z pre x r)∨(∃e2,z8 (J7 (b (g pre.length x) e) body)=some (.nx e2)∧I (pre++[x]) e2)) :
  (∃pre x post r,l=pre++x::post∧a3N r=true∧t6 b body (J8 g 0 l) e=some r∧Z pre x r∧∃e',I pre e')∨(∃e',t6 b body (J8 g 0 l) e=some (.nx e')∧I l e') :=
 a5r g I Z l l [] e rfl h hs
theorem b0v{α:Type}{b:GF}{body:SF}(g:Nat→α→D)(I:List α→DE→Prop)(l:List α)(e:DE)(h:I [] e)
  (hs:∀pre x post e,l=pre++x::post→I pre e→∃e2,z8 (J7 (b (g pre.length x) e) body)=some (.nx e2)∧I (pre++[x]) e2):∃e',t6 b body (J8 g 0 l) e=some (.nx e')∧I l e':=by
 rcases a04 g I (fun _ _ _=>False) l e h (fun pre x post e hl hi=>.inr (hs pre x post e hl hi))with⟨_,_,_,_,_,_,_,h,_⟩ | h
 ·exact h.elim
 ·exact h
theorem a3q{α:Type}(f g:α→D):∀(l:List α),V5 (l.map f) (l.map g)=l.map fun q=>.tup [f q,g q]
 | []=>rfl
 | x::l=>by
  have:=a3q f g l
  unfold V5 at this ⊢
  rw[List.map_cons,List.map_cons,List.zipWith_cons_cons,this,List.map_cons]
theorem a1R{α:Type}{l:List α}{k:Nat}{a:α}(h:l[k]? = some a):atI l (k:Int)=some a:=by
 have hk:=(List.getElem?_eq_some_iff.mp h).1
 unfold atI
 rw[a1p hk];exact h
theorem V9{α:Type}(f:α→D){p r:List α}{x:α}:atI ((p++x::r).map f) (p.length:Int)=some (f x) :=
 a1R (by rw[List.map_append,List.getElem?_append_right (by rw[List.length_map];exact Nat.le_refl _),List.length_map,Nat.sub_self];rfl)
section
variable {K:W.Frag}{cl:Str→Addr}{E:XK}
theorem a05:∀(ns:List Int) (m:Int),ns.foldl min m≤m∧∀a∈ns,ns.foldl min m≤a
 | [],m=>⟨Int.le_refl _,fun _ h=>by cases h⟩
 | n::ns,m=>by
  obtain⟨h1,h2⟩:=a05 ns (min m n)
  rw[List.foldl_cons]
  refine⟨by omega,fun a h=>?_⟩
  rcases List.mem_cons.mp h with rfl | h
  ·omega
  ·exact h2 a h
theorem a0J:∀(ns:List Int) (m:Int),ns.foldl min m=m∨ns.foldl min m∈ns
 | [],m=>.inl rfl
 | n::ns,m=>by
  rw[List.foldl_cons]
  rcases a0J ns (min m n)with e | e
  ·rw[e]
   rcases(show min m n=m∨min m n=n by omega)with z | z
   ·exact .inl z
   ·rw[z];exact .inr List.mem_cons_self
  ·exact .inr (List.mem_cons_of_mem _ e)
def Q1:D→Option D
 | .tup ds=>match W7 ds with
  | some (n::ns)=>some (.int (ns.foldl min n))
  | _=>none
 | _=>none
theorem a5s:CbOk1 K cl (a8Z K) Q1:=by
 intro x d z H F Q s hx h q
 unfold Q1 at h
 split at h
 ·rename_i ds
  cases hb:W7 ds with
  | none=>rw[hb]at h;cases h
  | some l =>
   rw[hb]at h
   cases l with
   | nil=>cases h
   | cons n ns =>
    cases h
    obtain⟨a,xs,rfl,hH,r⟩:=hx.tup s
    rw[a2W hb]at r
    rw[r.ints]at hH
    refine⟨a,n::ns,rfl,.of hH,List.cons_ne_nil _ _,fun m hm hle=>?_⟩
    have e:m=ns.foldl min n:=by
     obtain⟨h1,h2⟩:=a05 ns n
     have hmem:ns.foldl min n∈n::ns:=by
      rcases a0J ns n with e | e
      ·rw[e];exact List.mem_cons_self
      ·exact List.mem_cons_of_mem _ e
     have a1:=hle _ hmem
     rcases List.mem_cons.mp hm with rfl | hm
     ·omega
     ·have:=h2 m hm;omega
    rw[e]
    exact q _ H F (.refl s) (by simp only[Rp])
 ·cases h
theorem b0w(a b c d:Int):Q1 (.tup [.int a,.int b,.int c,.int d])=some (.int (min (min (min a b) c) d)):=rfl
end
section
variable {K:W.Frag}{cl:Str→Addr}{E:XK}
theorem a3r{F:Hp}:∀{dss:List (List D)} {as:List Addr},dss.length=as.length→(∀(k:Nat) (ds:List D) (a:Addr),dss[k]? = some ds→as[k]? = some a→Rp K cl F (.lst ds) (.ref a))→Rps K cl F (dss.map .lst) (as.map V.ref)
 | [],[],_,_=>.nil
 | ds::dss,a::as,hl,h=>.cons (h 0 ds a rfl rfl) (a3r (by simpa using hl) fun k d b h1 h2=>h (k+1) d b h1 h2)
end
open Classical in
section
variable {K:W.Frag}{cl:Str→Addr}{E:XK}
theorem a5t{F:Hp}:∀{ds:List D} {xs:List V},Rps K cl F ds xs→Rps K cl F ds.reverse xs.reverse
 | [],_,r=>by rw[r.inv0];exact .nil
 | d::ds,_,r=>by
  obtain⟨v,xs,rfl,p,r'⟩:=r.inv
  rw[List.reverse_cons,List.reverse_cons]
  exact(a5t r').append (.one p)
end
section
variable {K:W.Frag}{cl:Str→Addr}{E:XK}{σ:St}{H F:Hp}{env:DE}
abbrev HF:=XN→SF
theorem Xf.rp{c:XN}{cx:Option Addr}{a:Addr}(h:Xf K cl F c cx)(na:F a=none):Rp K cl (upd F a (F6 a (.ref (cl c.nm)) cx)) c.d (.ref a):=by
 have g:Same F (upd F a (F6 a (.ref (cl c.nm)) cx)):=fun b o e=>by rw[b9 (l6 e na)];exact e
 cases c with
 | p c=>show Rp K cl _ (.exc c) _;simp only[Rp];exact⟨a,cx,rfl,i8⟩
 | v c f d =>
  obtain⟨dx,y,rfl,h1,h2⟩:=h
  show Rp K cl _ (.exv c f d) _
  simp only[Rp]
  exact⟨a,dx,y,rfl,i8,g _ _ h1,h2.mono g⟩
def RfH(K:W.Frag)(cl:Str→Addr)(E:XK)(th:TH)(f:HF):Prop:=∀(N:Ends) σ H env F a c cx,Rel K cl σ H F env→H a=none→Xf K cl F c cx→Cs K cl E (f c env) σ H F env N→th (.ref (cl c.nm)) cx a N σ H
def hN:HF:=fun _ _=>none
def a6e(i:Nat)(r:Option RS):Option RS:=match r with
 | some (.nx e2)=>put i .no e2
 | some (.rt d)=>some (.rt d)
 | some (.ro ds)=>some (.ro ds)
 | _=>none
def hAs(i:Nat)(exm:Str→Option Bool)(suite:SF)(j6:HF):HF:=fun c e=>match exm c.nm with
 | some true=>(match put i (.fz c.d) e with
  | some (.nx e1)=>a6e i (suite e1)
  | _=>none)
 | some false=>j6 c e
 | none=>none
theorem b2o:RfH K cl E a80 hN:=fun _ _ _ _ _ _ _ _ _ _ _ h=>h
theorem a6V{C:Addr}{i:Nat}{exm:Str→Option Bool}{ts:Addr→TS}{suite:SF}{rt:TH}{j6:HF}(hx:∀c b,exm c=some b→W.exmOne K (.ref (cl c)) (.ref C)=some b)(hs:∀a,RfS K cl E (ts a) suite)(hr:RfH K cl E rt j6):RfH K cl E (b1s K C i ts rt) (hAs i exm suite j6):=by
 intro N σ H env F a c cx R ha xf h
 unfold hAs at h
 split at h
 ·rename_i q
  have gr:Gr H F (upd H a (F6 a (.ref (cl c.nm)) cx)) (upd F a (F6 a (.ref (cl c.nm)) cx)):=.new R.sub ha
  refine .inl ⟨hx c.nm true q,?_⟩
  have p:Rp K cl (upd F a (F6 a (.ref (cl c.nm)) cx)) c.d (.ref a):=xf.rp (by cases e:F a with | none=>rfl | some o=>have:=R.sub _ _ e;rw[ha]at this;cases this)
  have h:=h.from (R.frm gr)
  have R0:=R.gr gr
  generalize upd H a (F6 a (.ref (cl c.nm)) cx)=H1 at h R0 ⊢
  generalize upd F a (F6 a (.ref (cl c.nm)) cx)=F1 at h R0 p
  cases hp:put i (.fz c.d) env with
  | none=>rw[hp]at h;exact h.elim
  | some r =>
   rw[hp]at h
   cases r with
   | nx e1 =>
    obtain⟨hi,nh,ee⟩:i<env.length∧(∀ds,env[i]?≠some (.hd ds))∧e1=env.set i (.fz c.d):=by
     have h0:Cs K cl (fun _ _ _=>False) (put i (.fz c.d) env) σ H1 F1 env ⟨fun _ _=>True,fun _ _=>True,fun _ _=>True,fun _ _=>True⟩:=by rw[hp];exact fun _ _ _ _ _=>trivial
     obtain⟨a1,a2,a3⟩:=a0X h0
     refine⟨a1,a2,?_⟩
     rw[a6T]at hp
     revert hp
     cases env[i]? with
     | none=>simp[okS]
     | some sl=>cases sl<;>simp[okS,O0]<;>intro z<;>exact z.symm
    subst ee
    have R1:=R0.put (d:=c.d) hi nh p
    have f1:Frm σ H1 F1 env (σ.set i (some (.ref a))) H1 F1 (env.set i (.fz c.d)):=Frm.put nh
    refine hs a _ _ _ _ _ R1 ?_
    have h2:=Cs.from f1 h
    cases r:suite (env.set i (.fz c.d))with
    | none=>simp only[r,a6e]at h2;exact h2.elim
    | some rs =>
     simp only[r,a6e]at h2
     cases rs with
     | nx e2 =>
      obtain⟨hi,nh,h3⟩:=a0X h2
      intro σ2 H2 F2 f2 R2
      obtain⟨R3,f3⟩:=R2.drop nh
      exact h3 _ H2 F2 (f2.trans f3) R3
     | bk e2=>exact h2.elim
     | ct e2=>exact h2.elim
     | rt d=>exact h2
     | ro ds=>exact h2
     | rz dss=>exact h2.elim
     | rp _ _=>exact h2.elim
     | ex c2=>exact h2.elim
   | _=>exact h.elim
 ·rename_i q
  exact .inr ⟨hx c.nm false q,hr N σ H env F a c cx R ha xf h⟩
 ·exact h.elim
def Q2(n:Nat)(body:SF)(fh:HF):SF:=fun e=>match body e with
 | some (.ex c)=>if a0Z e=true then fh c (List.replicate n Sl.no)else none
 | r=>r
theorem b0x{n:Nat}{tb:XK→TS}{th:TH}{body:SF}{fh:HF}(hb:∀Eh,RfS K cl Eh (tb Eh) body)(hh:RfH K cl E th fh):RfS K cl E (a82 n tb th) (Q2 n body fh):=by
 intro N σ H env F R h
 refine⟨fun cls cx H'=>∃c F',cls=.ref (cl c.nm)∧Xf K cl F' c cx∧body env=some (.ex c)∧FX σ H F env H' F',?_,?_⟩
 ·refine hb _ N σ H env F R ?_
  unfold Q2 at h
  split at h
  ·rename_i c q;rw[q]
   exact fun H' F' x cx e=>⟨c,F',rfl,e,rfl,x⟩
  ·rename_i n1
   unfold Cs at h ⊢
   split at h
   ·exact h
   ·exact h
   ·exact h
   ·exact h
   ·exact h
   ·exact h
   ·exact h
   ·exact h
   ·rename_i c q;exact absurd q (n1 c)
 ·rintro cls cx H' ⟨c,F',rfl,xf,q,x⟩ a ha
  unfold Q2 at h
  rw[q]at h
  dsimp only at h
  split at h
  ·rename_i hc
   have f1:Frm σ H F env (W3 n) H' F' (List.replicate n Sl.no) :=
    ⟨x.fz,fun b o hb fb w=>by obtain⟨h1,f1⟩:=x.hid b o hb fb w;exact⟨h1,f1,a4t⟩,fun j ds z=>absurd z (a9F hc j ds),fun b z=>x.dom b z⟩
   exact hh N _ _ _ _ a c cx (a6R x.sub) ha xf (h.from f1)
  ·exact h.elim
end
section
variable {K:W.Frag}{cl:Str→Addr}{E:XK}
theorem a0K:∀(ns:List Int) (m:Int),m≤ns.foldl max m∧∀a∈ns,a≤ns.foldl max m
 | [],m=>⟨Int.le_refl _,fun _ h=>by cases h⟩
 | n::ns,m=>by
  obtain⟨h1,h2⟩:=a0K ns (max m n)
  rw[List.foldl_cons]
  refine⟨by omega,fun a h=>?_⟩
  rcases List.mem_cons.mp h with rfl | h
  ·omega
  ·exact h2 a h
theorem Z4:∀(ns:List Int) (m:Int),ns.foldl max m=m∨ns.foldl max m∈ns
 | [],m=>.inl rfl
 | n::ns,m=>by
  rw[List.foldl_cons]
  rcases Z4 ns (max m n)with e | e
  ·rw[e]
   rcases(show max m n=m∨max m n=n by omega)with z | z
   ·exact .inl z
   ·rw[z];exact .inr List.mem_cons_self
  ·exact .inr (List.mem_cons_of_mem _ e)
end
section
variable {K:W.Frag}{cl:Str→Addr}{E:XK}{σ:St}{H F:Hp}{env:DE}
theorem Rps.lookup{f:Str}:∀{ns:List Str} {ds:List D} {xs:List V} {z:D},Rps K cl F ds xs→(ns.zip ds).lookup f=some z→∃v,(ns.zip xs).lookup f=some v∧Rp K cl F z v
 | [],ds,xs,z,_,h=>by simp at h
 | n::ns,[],xs,z,r,h=>by simp at h
 | n::ns,d::ds,xs,z,r,h=>by
  obtain⟨v,ys,rfl,p,r'⟩:=r.inv
  rw[List.zip_cons_cons,List.lookup_cons]at h ⊢
  by_cases q:(f == n)=true
  ·rw[q]at h ⊢;cases h;exact⟨v,rfl,p⟩
  ·rw[Bool.not_eq_true _ |>.mp q]at h ⊢;exact r'.lookup h
end
structure GrM(a:Addr)(H F H' F':Hp):Prop where
 fz:Same F F'
 sub:Same F' H'
 hid:∀b o,b≠a→H b=some o→F b=none→H' b=some o∧F' b=none
 dom:∀b,H' b=none→H b=none
structure Bs(a:Addr)(σ:St)(env:DE)(H0 F0 H F:Hp):Prop where
 fz:Same F0 F
 hid:∀b o,b≠a→H0 b=some o→F0 b=none→H b=some o∧F b=none∧¬Ow σ env b
 dom:∀b,H b=none→H0 b=none
section
variable {K:W.Frag}{cl:Str→Addr}{E:XK}{σ:St}{H F:Hp}{env:DE}
theorem Bs.frm{a:Addr}{ds:List D}{σ':St}{env':DE}{H0 F0 H' F':Hp}(B:Bs a σ env H0 F0 H F)(f:Frm σ H F env σ' H' F' env'):Bs a σ' env' H0 F0 H' F' :=
 ⟨B.fz.trans f.fz,fun b o n h g=>by obtain⟨h1,f1,w1⟩:=B.hid b o n h g;exact f.hid b o h1 f1 w1,fun b h=>B.dom b (f.dom b h)⟩
theorem Bs.gr{a:Addr}{H0 F0:Hp}(B:Bs a σ env H0 F0 H F)(s:Same F H):GrM a H0 F0 H F :=
 ⟨B.fz,s,fun b o n h g=>by obtain⟨h1,f1,_⟩:=B.hid b o n h g;exact⟨h1,f1⟩,B.dom⟩
end
section
variable {P:Program}{w:World}{K:W.Frag}{mg:Str→Option Value}{base:Heap}{cl:Str→Addr}{TB:List (Addr×Str)}
variable {X:Cx}{k k':Nat}{x:Str}{ps:List Str}{sp:Sp}{E:XK}{e:Expr}{es:List Expr}{t:TA}{p pos:Pos}{d:V}
theorem OwnD.own(G:OwnD P w K mg base k x ps sp d):Own P w K mg base k x ps sp:=by
 obtain⟨f,fd,du,F,b,bd,rd,kp,m⟩:=G.ex
 exact⟨f,fd,F,b,kp,m⟩
end
section
variable {K:W.Frag}{cl:Str→Addr}{E:XK}
def a2Z(d e:D):Option D:=match d,e with
 | .str z,.int i=>if z.length≤sizeLine then(atI z.cps.toList i).map fun c=>.str ⟨#[c]⟩else none
 | _,_=>none
theorem b1V:OpOk K cl b1f a2Z:=by
 intro x y d e z H F Q s hx hy h q
 unfold a2Z at h
 split at h
 ·rename_i zz i
  split at h
  ·rename_i hz
   cases hc:atI zz.cps.toList i with
   | none=>rw[hc]at h;cases h
   | some c =>
    rw[hc]at h
    cases h
    have:x=.str zz:=hx.str
    exact⟨zz,i,c,this,hy.int,hz,hc,q _ H F (.refl s) (by simp only[Rp])⟩
  ·cases h
 ·cases h
end
section
variable {K:W.Frag}{cl:Str→Addr}{E:XK}{F:Hp}
def X0:List D→Option (List Str)
 | []=>some []
 | .str z::ds=>(X0 ds).map (z :: ·)
 | _::_=>none
theorem a4v:∀{ds:List D} {ys:List Str} {us:List V},X0 ds=some ys→Rps K cl F ds us→us=ys.map V.str
 | [],_,us,h,r=>by
  cases h
  exact r.inv0
 | .str z::ds,ys,us,h,r=>by
  unfold X0 at h
  cases h1:X0 ds with
  | none=>rw[h1]at h;cases h
  | some ys' =>
   rw[h1]at h
   cases h
   obtain⟨u,r',rfl,p1,p2⟩:=r.inv
   have e:u=.str z:=by simpa only[Rp]using p1
   rw[e,a4v h1 p2]
   rfl
 | .non::_,_,_,h,_=>by cases h
 | .bl _::_,_,_,h,_=>by cases h
 | .int _::_,_,_,h,_=>by cases h
 | .ty _::_,_,_,h,_=>by cases h
 | .cls _::_,_,_,h,_=>by cases h
 | .tup _::_,_,_,h,_=>by cases h
 | .lst _::_,_,_,h,_=>by cases h
 | .scr _::_,_,_,h,_=>by cases h
 | .exc _::_,_,_,h,_=>by cases h
 | .obj _ _ _::_,_,_,h,_=>by cases h
 | .dic _ _::_,_,_,h,_=>by cases h
 | .exv _ _ _::_,_,_,h,_=>by cases h
def a6f(f h:ZF):ZF:=fun e=>bnd (f e) fun d e1=>match d with
 | .str z=>bnd (h e1) fun d2 e2=>match seqL d2 with
  | some ds=>match X0 ds with
   | some ys=>if(ys.map (·.length)).sum+ys.length*z.length≤16777216 then some (.ok (.str (Txt.join z ys)) e2)else none
   | none=>none
  | none=>none
 | _=>none
theorem b0y{t u:TE}{f h:ZF}(hf:u2 K cl E t f)(hh:u2 K cl E u h):u2 K cl E (tBM K "str" (a8X K) t (I0 u U5)) (a6f f h):=by
 intro σ H Q env F R h0
 refine hf σ H _ env F R ((Ct.bnd h0 O6).mono fun x H1 ⟨F1,e1,d,s1,R1,p1,h1⟩=>?_)
 split at h1
 ·rename_i z
  have ex:x=.str z:=by have:=(show Rp K cl F1 (.str z) x from p1);simpa only[Rp]using this
  subst ex
  refine⟨rfl,?_⟩
  refine hh σ H1 _ e1 F1 R1 ((Ct.bnd h1 O6).mono fun x2 H2 ⟨F2,e2,d2,s2,R2,p2,h2⟩=>?_)
  split at h2
  ·rename_i ds hs
   split at h2
   ·rename_i ys hy
    split at h2
    ·rename_i hz
     obtain⟨a,us,rfl,q1,l1⟩:=Rp.seqL p2 hs
     have e:=a4v hy q1
     subst e
     exact⟨z,a,ys,rfl,rfl,l1 H2 R2.sub,hz,h2 _ H2 F2 Frm.refl R2 (by simp only[PZ,Rp])⟩
    ·exact h2.elim
   ·exact h2.elim
  ·exact h2.elim
 ·exact h1.elim
end
@[simp] theorem a8c(ks:DK)(ds:List D):O0 (.od ks ds)=true:=rfl
@[simp] theorem b0z(ks:DK)(ds:List D):a03 (.od ks ds)=.fz (.dic ks ds):=rfl
@[simp] theorem b0A(ks:DK)(ds:List D):a03 (.hk ks ds)=.fz (.dic ks ds):=rfl
structure SU(K:W.Frag)(cl:Str→Addr)(ps:List Nat)(A:Nat→Addr)(H0 F0 F1:Hp)(σ:St)(H F:Hp)(env:DE):Prop where
 rel:Rel K cl σ H F env
 pn:∀i∈ps,σ[i]? = some (some (.ref (A i)))∧∃ds,env[i]? = some (.hd ds)
 fz:Same F0 F
 gz:Same F1 F
 hid:∀b o,(∀i∈ps,b≠A i)→H0 b=some o→F0 b=none→H b=some o∧F b=none∧¬Ow σ env b
 dom:∀b,H b=none→H0 b=none
section
variable {K:W.Frag}{cl:Str→Addr}{E:XK}{ps:List Nat}{A:Nat→Addr}{H0 F0 F1:Hp}{σ:St}{H F:Hp}{env:DE}{k:Nat}
theorem SU.frm{σ':St}{H' F':Hp}{env':DE}(S:SU K cl ps A H0 F0 F1 σ H F env)(f:Frm σ H F env σ' H' F' env')(R:Rel K cl σ' H' F' env'):SU K cl ps A H0 F0 F1 σ' H' F' env' :=
 ⟨R,fun i m=>by obtain⟨e,ds,h⟩:=S.pn i m;obtain⟨h1,e1⟩:=f.keep i ds h;exact⟨e1.trans e,ds,h1⟩,S.fz.trans f.fz,S.gz.trans f.fz,
  fun b o n h g=>by obtain⟨h1,f1,w1⟩:=S.hid b o n h g;exact f.hid b o h1 f1 w1,fun b h=>S.dom b (f.dom b h)⟩
theorem SU.change{i:Nat}{ds es:List D}{ys:List V}(S:SU K cl ps A H0 F0 F1 σ H F env)(m:i∈ps)(h:env[i]? = some (.hd ds))(r:Rps K cl F es ys):SU K cl ps A H0 F0 F1 σ (upd H (A i) (.lst ys)) F (env.set i (.hd es)):=by
 obtain⟨e,_,_⟩:=S.pn i m
 obtain⟨a',xs,e',hH,hF,_⟩:=S.rel.mu i ds (.inr h)
 rw[e]at e';cases e'
 have hi:i<env.length:=(List.getElem?_eq_some_iff.mp h).1
 have self:(env.set i (.hd es))[i]? = some (.hd es):=List.getElem?_set_self hi
 have oth:∀j,j≠i→(env.set i (.hd es))[j]? = env[j]?:=fun j hj=>List.getElem?_set_ne (Ne.symm hj)
 have mui:∀j,Mu (env.set i (.hd es)) j→Mu env j:=fun j ⟨fs,q⟩=>by
  by_cases z:j=i
  ·subst z;exact⟨ds,.inr h⟩
  ·rw[oth j z]at q;exact⟨fs,q⟩
 have R:=S.rel
 refine⟨⟨fun b o q=>?_,by rw[List.length_set];exact R.len,fun j d q=>?_,fun j fs q=>?_,fun j k b hj hk=>R.inj j k b (mui j hj) (mui k hk),(R.od.updL hH).setE a2c⟩,fun j mj=>?_,S.fz,S.gz,fun b o n h0 f0=>?_,fun b q=>?_⟩
 ·have z:b≠A i:=fun z=>by rw[z,hF]at q;cases q
  rw[b9 z];exact R.sub _ _ q
 ·have z:j≠i:=fun z=>by subst z;rw[self]at q;cases q
  rw[oth j z]at q;exact R.fz j d q
 ·by_cases z:j=i
  ·subst z
   rw[self]at q
   rcases q with q | q
   ·cases q
   ·cases q;exact⟨_,ys,e,i8,hF,r⟩
  ·rw[oth j z]at q
   obtain⟨b,zs,e1,h1,f1,r1⟩:=R.mu j fs q
   have nb:b≠A i:=fun y=>z (R.inj j i b ⟨fs,q⟩ ⟨ds,.inr h⟩ e1 (by rw[y];exact e))
   exact⟨b,zs,e1,by rw[b9 nb];exact h1,f1,r1⟩
 ·obtain⟨e1,fs,q⟩:=S.pn j mj
  refine⟨e1,?_⟩
  by_cases z:j=i
  ·subst z;exact⟨es,self⟩
  ·exact⟨fs,by rw[oth j z];exact q⟩
 ·obtain⟨h1,f1,w1⟩:=S.hid b o n h0 f0
  refine⟨by rw[b9 (n i m)];exact h1,f1,fun⟨j,fs,oo,q,e1⟩=>?_⟩
  have y:j≠i:=fun y=>by subst y;rw[self]at q;cases q;exact oo
  rw[oth j y]at q;exact w1 ⟨j,fs,oo,q,e1⟩
 ·by_cases z:b=A i
  ·rw[z,i8]at q;cases q
  ·rw[b9 z]at q;exact S.dom b q
theorem SU.at(S:SU K cl ps A H0 F0 F1 σ H F env):SU K cl ps A H0 F0 F σ H F env:=⟨S.rel,S.pn,S.fz,Same.refl _,S.hid,S.dom⟩
end
def RpU(K:W.Frag)(cl:Str→Addr)(σ:St)(F:Hp):List (Sum Nat D)→List V→Prop
 | [],vs=>vs=[]
 | .inl i::xs,vs=>∃v r,vs=v::r∧σ[i]? = some (some v)∧RpU K cl σ F xs r
 | .inr d::xs,vs=>∃v r,vs=v::r∧Rp K cl F d v∧RpU K cl σ F xs r
section
variable {K:W.Frag}{cl:Str→Addr}{E:XK}{ps:List Nat}{σ:St}{H F:Hp}{env:DE}
theorem RpU.mono{F':Hp}(s:Same F F'):∀{xs:List (Sum Nat D)} {vs:List V},RpU K cl σ F xs vs→RpU K cl σ F' xs vs
 | [],_,h=>h
 | .inl _::_,_,⟨v,r,e,h1,h2⟩=>⟨v,r,e,h1,h2.mono s⟩
 | .inr _::_,_,⟨v,r,e,h1,h2⟩=>⟨v,r,e,Rp.mono s _ _ h1,h2.mono s⟩
theorem RpU.length:∀{xs:List (Sum Nat D)} {vs:List V},RpU K cl σ F xs vs→vs.length=xs.length
 | [],_,h=>by rw[show _=_ from h];rfl
 | .inl _::_,_,⟨v,r,e,_,h2⟩=>by rw[e,List.length_cons,List.length_cons,h2.length]
 | .inr _::_,_,⟨v,r,e,_,h2⟩=>by rw[e,List.length_cons,List.length_cons,h2.length]
end
def a8d(P:Program)(w:World)(K:W.Frag)(mg:Str→Option Value)(base:Heap)(k:Nat)(x:Str)(C:Addr)(ps:List Str)(f:Str):Prop :=
 ∃fI fd,MkX K C fI∧FnOk P w K mg base (w9 P w) k fI fd ps (a2M C f)∧Binds K fd ps []∧mg x=some (.ref C)
section
variable {X:Cx}{E:XK}{j k:Nat}
theorem a6W{x f:Str}{C:Addr}{ps:List Str}{e₀:Expr}{j6:List Expr}{np cpos pos:Pos}{ta:TA}(acc:XAcc X E)(G:a8d X.prog X.w X.K X.mg X.base j x C ps f)(hr:Room k X.A)(hk:j+1≤k)(hg:Gl X x)(ha:PA X (e₀::j6) ta)
  (hc:X.calm=true:=by rfl) (hex:X.ex=[]:=by rfl)
  (he:starEach (e₀::j6) X.env=(false,eval e₀ X.env)::starEach j6 X.env:=by rfl) (hplain:(backTo cpos (starEach j6 X.env)).any (·.1)=false:=by rfl) (hd:(x == ("__debug__" : Str))=false:=by decide) :
  PS X (.Raise (some (.Call (.Name x np) (e₀::j6) [] cpos)) none pos) (a2N C f E ta):=by
 obtain⟨fI,fd,M,F,B,m⟩:=G
 exact a6D acc M F (hr.mono hk) B hg m ha hc hex he hplain hd
end
section
variable {K:W.Frag}{cl:Str→Addr}{E:XK}
def Z5(c f:Str)(g:AF):SF:=fun e=>F5 (g e) fun ds _=>match ds with
 | [d]=>some (.ex (.v c f d))
 | _=>none
theorem a6X{c f:Str}{t:TA}{g:AF}(hf:N4 K cl E t g):RfS K cl E (a2N (cl c) f E t) (Z5 c f g):=by
 intro N σ H env F R h
 refine hf σ H _ env F R ((Cs.bnd h).mono fun xs H1 ⟨F1,e1,ds,fr,R1,p1,h1⟩=>?_)
 split at h1
 ·rename_i d
  have p1:Rps K cl F1 [d] xs:=p1
  obtain⟨v,r,rfl,p,p2⟩:=p1.inv
  rw[p2.inv0]
  refine⟨v,rfl,fun dx nd=>?_⟩
  have gr:Gr H1 F1 (upd H1 dx (.xd [(f,v)])) (upd F1 dx (.xd [(f,v)])):=.new R1.sub nd
  exact h1 _ _ (fr.fx gr.fx) _ ⟨dx,v,rfl,i8,p.mono gr.fz⟩
 ·exact h1.elim
def a06(xt:Str→Bool)(f:Str):D→Option D
 | .exv c g d=>if xt c=true∧g=f then some d else none
 | _=>none
def b2Q(K:W.Frag)(f:Str):V→Hp→VK→Prop:=fun x H1 Q=>∃a C dx y,x=.ref a∧H1 a=some (F6 a (.ref C) (some (2*dx+1)))∧H1 dx=some (.xd [(f,y)])∧W.ExcT K C∧W.hasDictIn K C=true∧W.findIn K (.ref C) f=some none∧Q y H1
theorem b1W{xt:Str→Bool}{f:Str}(hf:∀c,xt c=true→W.ExcT K (cl c)∧W.hasDictIn K (cl c)=true∧W.findIn K (.ref (cl c)) f=some none):b1E K cl (b2Q K f) (a06 xt f):=by
 intro x d z H F Q s hx h q
 unfold a06 at h
 split at h
 ·rename_i c g d
  split at h
  ·rename_i hc
   obtain⟨hc,rfl⟩:=hc
   cases h
   obtain⟨h1,h2,h3⟩:=hf c hc
   rcases hx with hx | ⟨_,_,_,_,e,_⟩
   ·simp only[Rp]at hx
    obtain⟨a,dx,y,rfl,ha,hd,r⟩:=hx
    exact⟨a,_,dx,y,rfl,s _ _ ha,s _ _ hd,h1,h2,h3,q y H F (.refl s) r⟩
   ·cases e
  ·cases h
 ·cases h
theorem b1X{xt:Str→Bool}{f:Str}{t:TE}{o:ZF}(hf:∀c,xt c=true→W.ExcT K (cl c)∧W.hasDictIn K (cl c)=true∧W.findIn K (.ref (cl c)) f=some none)(ho:u2 K cl E t o):u2 K cl E (b1x K t f) (eU (a06 xt f) o):=b2N (b1W hf) ho
theorem a8e{C:Addr}{f:Str}{vs:List V}{H:Hp}{Q:VK}{E:XK}(h:a2M C f vs H Q E):vs.length=2:=by
 obtain⟨a,v,rfl,_⟩:=h
 rfl
theorem a4R{N:List Str}{C:Addr}{f:Str}{vs:List V}{H:Hp}{Q:VK}(S:W.ExcS K C f)(h:a2M C f vs H Q E):(sXF K (E6 0) (E6 1) f) { nx:=fun _ H'=>Q .non H',rt:=Q } (start N vs) H:=by
 obtain⟨a,v,rfl,hp,q⟩:=h
 exact⟨v,rfl,.ref a,rfl,a,C,rfl,hp,S,q⟩
end
theorem A7{p:Prop} [Decidable p] {a b:Bool} {r:Option Bool} {P:Bool→Prop} (h:(if p then some a else r)=some b) (h1:p→P a) (h2:r=some b→P b):P b:=by
 by_cases z:p
 ·rw[if_pos z]at h;cases h;exact h1 z
 ·rw[if_neg z]at h;exact h2 h
def a1S:Sl→Bool
 | .no=>true
 | .fz _=>true
 | _=>false
def okW(r:Nat)(e:DE):Bool:=e.all a1S && (match e[r]? with
 | some .no=>true
 | _=>false)
abbrev WF:=List (List D)→DE→Option (List (List D)×DE)
structure DSt(K:W.Frag)(cl:Str→Addr)(H F:Hp)(B:Addr)(as:List Addr)(dss:List (List D))(H' F':Hp):Prop where
 gr:Gr H F H' F'
 atB:H' B=some (.lst (as.map V.ref))
 unB:F' B=none
 len:dss.length=as.length
 ins:∀(k:Nat) (a:Addr),as[k]? = some a→∃ds zs,dss[k]? = some ds∧H' a=some (.lst zs)∧F' a=none∧Rps K cl F' ds zs
structure Fx(H:Hp)(B:Addr)(as:List Addr):Prop where
 hB:H B=none
 nd:as.Nodup
 nw:∀a∈as,H a=none∧a≠B
section
variable {K:W.Frag}{cl:Str→Addr}{E:XK}{σ:St}{H F H0 F0 H' F' H2 F2:Hp}{env:DE}{B:Addr}{as:List Addr}{dss:List (List D)}{r k:Nat}
theorem DSt.to(s:DSt K cl H0 F0 B as dss H F)(g:Gr H F H2 F2):DSt K cl H0 F0 B as dss H2 F2 :=
 ⟨s.gr.trans g,(g.hid B _ s.atB s.unB).1,(g.hid B _ s.atB s.unB).2,s.len,fun k a h=>by
  obtain⟨ds,zs,h1,h2,h3,h4⟩:=s.ins k a h
  exact⟨ds,zs,h1,(g.hid a _ h2 h3).1,(g.hid a _ h2 h3).2,h4.mono g.fz⟩⟩
theorem DSt.put{j n:Nat}{a:Addr}{ds:List D}{d:D}{v:V}(s:DSt K cl H0 F0 B as dss H F)(fx:Fx H0 B as)(hj:as[j]? = some a)(hd:dss[j]? = some ds)(p:Rp K cl F d v) :
  ∃zs,H a=some (.lst zs)∧F a=none∧ds.length=zs.length∧DSt K cl H0 F0 B as (dss.set j (ds.set n d)) (upd H a (.lst (zs.set n v))) F:=by
 obtain⟨ds',zs,h1,h2,h3,h4⟩:=s.ins j a hj
 rw[hd]at h1;cases h1
 obtain⟨aH,aB⟩:=fx.nw a (List.mem_of_getElem? hj)
 refine⟨zs,h2,h3,h4.length,⟨⟨s.gr.fz,fun b o hb=>?_,fun b o hb fb=>?_⟩,by rw[b9 (Ne.symm aB)];exact s.atB,s.unB,by rw[List.length_set];exact s.len,fun m b hb=>?_⟩⟩
 ·rw[b9 (fun z=>by rw[z,h3]at hb;cases hb)];exact s.gr.sub _ _ hb
 ·rw[b9 (fun z=>by rw[z,aH]at hb;cases hb)];exact s.gr.hid b o hb fb
 ·by_cases z:m=j
  ·subst z
   rw[hj]at hb;cases hb
   exact⟨_,_,List.getElem?_set_self (List.getElem?_eq_some_iff.mp hd).1,i8,h3,h4.set p n⟩
  ·obtain⟨d2,z2,k1,k2,k3,k4⟩:=s.ins m b hb
   have ne:b≠a:=fun e=>z (by
    obtain⟨hm,em⟩:=List.getElem?_eq_some_iff.mp hb
    obtain⟨hj',ej⟩:=List.getElem?_eq_some_iff.mp hj
    exact(List.getElem_inj fx.nd).mp (em.trans (e.trans ej.symm)))
   exact⟨d2,z2,by rw[List.getElem?_set_ne (Ne.symm z)];exact k1,by rw[b9 ne];exact k2,k3,k4⟩
theorem W0(h:okW r env=true)(i:Nat)(s:Sl)(e:env[i]? = some s):a1S s=true:=by
 unfold okW at h
 rw[Bool.and_eq_true,List.all_eq_true]at h
 exact h.1 s (List.mem_of_getElem? e)
theorem a4w(h:okW r env=true):env[r]? = some .no:=by
 unfold okW at h
 rw[Bool.and_eq_true]at h
 have:=h.2
 split at this
 ·rename_i q;exact q
 ·cases this
theorem a1T(h:okW r env=true):NoOw env:=fun i s oo e=>by
 have:=W0 h i s e
 cases s<;>first | exact oo | cases this
theorem a07(hp:∀(i:Nat) (s:Sl),env[i]? = some s→a1S s=true)(sub:Same F H)(len:σ.length=env.length)(fz:∀(i:Nat) (d:D),env[i]? = some (.fz d)→∃v,σ[i]? = some (some v)∧Rp K cl F d v):Rel K cl σ H F env :=
 ⟨sub,len,fz,fun i ds q=>by rcases q with q | q<;>exact absurd (hp i _ q) (by simp[a1S]),
  fun i j a ⟨ds,q⟩=>by rcases q with q | q<;>exact absurd (hp i _ q) (by simp[a1S]),.none fun j s ks ds q d=>by
  have:=hp j s q
  cases s<;>first | exact d | cases this⟩
def RfW(K:W.Frag)(cl:Str→Addr)(E:XK)(r:Nat)(t:TS)(f:WF):Prop:=∀(N:Ends) (σ:St) (H F H0 F0:Hp) (env:DE) (B:Addr) (as:List Addr) (dss dss':List (List D)) (e':DE),
 Fx H0 B as→okW r env=true→Rel K cl σ H F env→σ[r]? = some (some (.ref B))→DSt K cl H0 F0 B as dss H F→f dss env=some (dss',e') →
 (∀σ' H' F',okW r e'=true→Rel K cl σ' H' F' e'→σ'[r]? = some (some (.ref B))→Same F F'→DSt K cl H0 F0 B as dss' H' F'→N.nx σ' H')→t N σ H
def a6g(r y x:Nat)(d:D)(dss:List (List D))(e:DE):Option (List (List D)×DE):=match e[y]?,e[x]? with
 | some (.fz (.int j)),some (.fz (.int i))=>(match N2 dss.length j with
  | some m=>(match dss[m]? with
   | some ds=>(match N2 ds.length i with
    | some n=>some (dss.set m (ds.set n d),e)
    | none=>none)
   | none=>none)
  | none=>none)
 | _,_=>none
def a4x(r y x:Nat)(f:ZF):WF:=fun dss e=>match f e with
 | some (.ok d e1)=>if okW r e1=true then a6g r y x d dss e1 else none
 | _=>none
theorem b0B{y x:Nat}{t:TE}{f:ZF}(hf:u2 K cl E t f):RfW K cl E r (X7 t (a7n (tOp (a5M K) (E6 r) (E6 y)) (E6 x) a5O)) (a4x r y x f):=by
 intro N σ H F H0 F0 env B as dss dss' e' fx ok R hr s h q
 unfold a4x at h
 split at h
 ·rename_i d e1 hfe
  split at h
  ·rename_i ok1
   refine hf σ H _ env F R ?_
   rw[hfe]
   intro v H1 F1 fr R1 p1
   have g1:Gr H F H1 F1:=fr.gr (a1T ok) R1.sub
   have s1:=s.to g1
   unfold a6g at h
   split at h
   ·rename_i j i ey ex
    split at h
    ·rename_i m hm
     split at h
     ·rename_i ds hd
      split at h
      ·rename_i n hn
       cases h
       obtain⟨vy,ey',py⟩:=R1.fz y _ ey
       obtain⟨vx,ex',px⟩:=R1.fz x _ ex
       have hvy:vy=.int j:=by simpa only[Rp]using py
       have hvx:vx=.int i:=by simpa only[Rp]using px
       subst hvy hvx
       have hml:m<as.length:=by have:=(List.getElem?_eq_some_iff.mp hd).1;rw[s1.len]at this;exact this
       have ha:as[m]? = some as[m]:=List.getElem?_eq_getElem hml
       obtain⟨zs,k1,k2,k3,k4⟩:=s1.put (n:=n) fx ha hd p1
       have hat:atI (as.map V.ref) j=some (.ref as[m]):=by
        unfold atI
        rw[List.length_map,← s1.len,hm]
        show(as.map V.ref)[m]? = _
        rw[List.getElem?_map,ha]
        rfl
       refine⟨_,hr,_,ey',B,_,j,_,rfl,rfl,.of s1.atB,hat,_,ex',as[m],zs,i,n,rfl,rfl,k1,by rw[← k3];exact hn,?_⟩
       refine q σ _ F1 ok1 (a07 (W0 ok1) (fun b o hb=>?_) R1.len R1.fz) hr fr.fz k4
       rw[b9 (fun z=>by rw[z,k2]at hb;cases hb)];exact R1.sub _ _ hb
      ·cases h
     ·cases h
    ·cases h
   ·cases h
  ·cases h
 ·cases h
def a2t(r:Nat)(g:TG):Prop:=∀(x:V) (σ:St) (H:Hp) (Q:St→Hp→Prop),g x σ H (fun σ2 H2=>σ2[r]? = σ[r]?→Q σ2 H2)→g x σ H Q
theorem a2u{j:Nat}(h:j≠r:=by decide):a2t r (N0 j):=fun x σ H Q q=>q (List.getElem?_set_ne h)
theorem a6Y{i j:Nat}(h:i≠r:=by decide)(h':j≠r:=by decide):a2t r (a5B K 2 (a3C (N0 i) (a3C (N0 j) a7m))):=fun x σ H Q q=>by
 obtain⟨a,xs,e,hT,hl,v,r1,e1,w,r2,e2,e3,q⟩:=q
 exact⟨a,xs,e,hT,hl,v,r1,e1,w,r2,e2,e3,q (by rw[List.getElem?_set_ne h',List.getElem?_set_ne h])⟩
def G5(r:Nat)(b:GF)(body:WF):List D→WF
 | [],dss,e=>some (dss,e)
 | d::ds,dss,e=>match b d e with
  | none=>none
  | some e1=>if okW r e1=true then(match body dss e1 with
   | none=>none
   | some (dss1,e2)=>G5 r b body ds dss1 e2)else none
theorem a6Z{g:TG}{tb:TS}{b:GF}{body:WF}{d:D}{x:V}{ds:List D}{dss':List (List D)}{e':DE}{N:Ends}{Pv:St→Hp→Prop}(hg:G3 K cl k g b)(kp:a2t r g)(hb:RfW K cl E r tb body)(fx:Fx H0 B as)(R:Rel K cl σ H F env)(hr:σ[r]? = some (some (.ref B)))(s:DSt K cl H0 F0 B as dss H F)(p:Rp K cl F d x)
  (h:G5 r b body (d::ds) dss env=some (dss',e'))
  (hP:∀σ' H' F' e1 dss1,okW r e1=true→Rel K cl σ' H' F' e1→σ'[r]? = some (some (.ref B))→Same F F'→DSt K cl H0 F0 B as dss1 H' F'→G5 r b body ds dss1 e1=some (dss',e')→Pv σ' H') :
  g x σ H fun σ2 H2=>tb { N with nx:=Pv,ct:=Pv,bk:=N.nx } σ2 H2:=by
 unfold G5 at h
 split at h
 ·cases h
 ·rename_i e1 hb1
  split at h
  ·rename_i ok1
   split at h
   ·cases h
   ·rename_i dss1 e2 hbd
    refine kp x σ H _ (hg x σ H _ d env e1 F R p hb1 fun σ2 _ _ f2 R2 h2=>?_)
    refine hb _ σ2 H F H0 F0 e1 B as dss dss1 e2 fx ok1 R2 (h2.trans hr) s hbd fun σ' H' F' ok' R' hr' sF s'=>?_
    exact hP σ' H' F' e2 dss1 ok' R' hr' sF s' h
  ·cases h
def X3(r:Nat)(f:AF)(b:GF)(body:WF):WF:=fun dss e=>match f e with
 | some (.ok ds e1)=>if okW r e1=true then(match a2Q ds with
  | some (lo,n)=>G5 r b body (A6 lo n) dss e1
  | none=>none)else none
 | _=>none
theorem a4y{t:TA}{g:TG}{tb:TS}{f:AF}{b:GF}{body:WF}(hf:N4 K cl E t f)(hg:G3 K cl k g b)(kp:a2t r g)(hb:RfW K cl E r tb body):RfW K cl E r (a1E (a8R t) g tb) (X3 r f b body):=by
 intro N σ H F H0 F0 env B as dss dss' e' fx ok R hr s h q
 unfold X3 at h
 split at h
 ·rename_i ds e1 hfe
  split at h
  ·rename_i ok1
   split at h
   ·rename_i lo n hs
    refine hf σ H _ env F R ?_
    rw[hfe]
    intro vs H1 F1 fr R1 p1
    have g1:Gr H F H1 F1:=fr.gr (a1T ok) R1.sub
    obtain⟨i,j,e,c,rfl,rfl⟩:=a9C hs p1
    refine⟨_,j,e,c,?_⟩
    refine a25 (fun i σ' H'=>∃F' e2 dss2,okW r e2=true∧Rel K cl σ' H' F' e2∧σ'[r]? = some (some (.ref B))∧Same F1 F'∧DSt K cl H0 F0 B as dss2 H' F'∧G5 r b body ((A6 lo _).drop i) dss2 e2=some (dss',e')) ⟨F1,e1,dss,ok1,R1,hr,Same.refl _,s.to g1,h⟩ (fun i σ' H' hx ⟨F',e2,dss2,ok2,R2,hr2,sF,s2,h2⟩=>?_) (fun σ' H' ⟨F',e2,dss2,ok2,R2,hr2,sF,s2,h2⟩=>?_)
    ·rw[a0Y hx]at h2
     exact a6Z hg kp hb fx R2 hr2 s2 (by simp only[Rp]) h2 fun σ3 H3 F3 e3 dss3 ok3 R3 hr3 sF3 s3 h3=>⟨F3,e3,dss3,ok3,R3,hr3,sF.trans sF3,s3,h3⟩
    ·rw[List.drop_eq_nil_of_le (by rw[V0];exact Nat.le_refl _)]at h2
     cases h2
     exact q σ' H' F' ok2 R2 hr2 (g1.fz.trans sF) s2
   ·cases h
  ·cases h
 ·cases h
def a2v(r:Nat)(f:ZF)(b:GF)(body:WF):WF:=fun dss e=>match f e with
 | some (.ok d e1)=>if okW r e1=true then(match seqL d with
  | some ds=>G5 r b body (K0 0 ds) dss e1
  | none=>none)else none
 | _=>none
theorem a8f{t:TE}{g:TG}{tb:TS}{f:ZF}{b:GF}{body:WF}(hf:u2 K cl E t f)(hg:G3 K cl k g b)(kp:a2t r g)(hb:RfW K cl E r tb body):RfW K cl E r (a1E (a3H K (I0 t U5)) g tb) (a2v r f b body):=by
 intro N σ H F H0 F0 env B as dss dss' e' fx ok R hr s h q
 unfold a2v at h
 split at h
 ·rename_i d e1 hfe
  split at h
  ·rename_i ok1
   split at h
   ·rename_i ds hs
    refine hf σ H _ env F R ?_
    rw[hfe]
    intro v H1 F1 fr R1 p1
    have g1:Gr H F H1 F1:=fr.gr (a1T ok) R1.sub
    obtain⟨a,xs,rfl,rp,hl⟩:=Rp.seqL p1 hs
    refine⟨a,rfl,⟨xs,hl H1 R1.sub⟩,?_⟩
    refine a38 (xs:=xs) (fun i σ' H'=>∃F' e2 dss2,okW r e2=true∧Rel K cl σ' H' F' e2∧σ'[r]? = some (some (.ref B))∧Same F1 F'∧DSt K cl H0 F0 B as dss2 H' F'∧G5 r b body ((K0 0 ds).drop i) dss2 e2=some (dss',e')) ⟨F1,e1,dss,ok1,R1,hr,Same.refl _,s.to g1,h⟩ (fun i σ' H' _ ⟨F',e2,dss2,ok2,R2,hr2,sF,s2,h2⟩=>hl H' (sF.trans R2.sub)) (fun i x σ' H' p hx ⟨F',e2,dss2,ok2,R2,hr2,sF,s2,h2⟩ hp=>?_) (fun σ' H' ⟨F',e2,dss2,ok2,R2,hr2,sF,s2,h2⟩=>?_)
    ·obtain⟨d,hd,pd⟩:=rp.get' hx
     rw[L9 (a2R hd),Nat.zero_add]at h2
     have gr:Gr H' F' (upd H' p (.tup [.int i,x])) (upd F' p (.tup [.int i,x])):=.new R2.sub hp
     refine a6Z hg kp hb fx (R2.gr gr) hr2 (s2.to gr) ?_ h2 fun σ3 H3 F3 e3 dss3 ok3 R3 hr3 sF3 s3 h3=>⟨F3,e3,dss3,ok3,R3,hr3,(sF.trans gr.fz).trans sF3,s3,h3⟩
     simp only[Rp]
     exact⟨p,_,rfl,i8,.cons (by simp only[Rp]) (.one (Rp.mono (sF.trans gr.fz) _ _ pd))⟩
    ·rw[← rp.length,List.drop_eq_nil_of_le (by rw[a2S];exact Nat.le_refl _)]at h2
     cases h2
     exact q σ' H' F' ok2 R2 hr2 (g1.fz.trans sF) s2
   ·cases h
  ·cases h
 ·cases h
def Q3(b:GF)(el:NF)(ec:DE):List D→List (List D)→Option (List (List D))
 | [],acc=>some acc
 | d::ds,acc=>match b d ec with
  | none=>none
  | some e1=>match el e1 with
   | some (.ok y _)=>if acc.length<sizeLine then Q3 b el ec ds (acc++[y])else none
   | _=>none
theorem b1Y{b:GF}{el:NF}{g:TG}{te:TE}{js:List Nat}{lo:Int}{n:Nat}{Fin:Hp→Prop}{dss':List (List D)}(nd:js.Nodup)(hg:G3 K cl k g b)(he:RfN K cl E te el)(ok:okW r env=true)(R:Rel K cl σ H F env)(hB:H B=none)
  (h:Q3 b el (p9 k js env) (A6 lo n) []=some dss') (hq:∀as H' F',Fx H B as→Rel K cl σ H' F' env→DSt K cl H F B as dss' H' F'→Fin H') :
  N3 (Itr lo n) g a1e te k (n9 k js σ) B Fin H:=by
 refine a5V (fun i ys H'=>∃as F' acc,ys=as.map V.ref∧Fx H B as∧Rel K cl σ H' F' env∧DSt K cl H F B as acc H' F'∧Q3 b el (p9 k js env) ((A6 lo n).drop i) acc=some dss') ?h0 ?hs ?hd
 case h0 =>
  have FB:F B=none:=R.sub.free hB
  have sub:Same F (upd H B (.lst [])):=fun a o ha=>by rw[b9 (fun z=>by rw[z,FB]at ha;cases ha)];exact R.sub _ _ ha
  refine⟨[],F,[],rfl,⟨hB,List.nodup_nil,fun a m=>absurd m List.not_mem_nil⟩,a07 (W0 ok) sub R.len R.fz,⟨⟨Same.refl _,sub,fun a o ha fa=>⟨by rw[b9 (fun z=>by rw[z,hB]at ha;cases ha)];exact ha,fa⟩⟩,i8,FB,rfl,fun k a ha=>by simp at ha⟩,h⟩
 case hs =>
  rintro i ys H' hi ⟨as,F',acc,rfl,fx,R',s,h'⟩
  rw[a0Y hi]at h'
  unfold Q3 at h'
  have Rc:Rel K cl (n9 k js σ) H' F' (p9 k js env):=R'.comp nd
  have n1:NoOw (p9 k js env):=a3k
  split at h'
  ·cases h'
  ·rename_i e1 hb
   refine hg _ _ H' _ _ _ e1 F' Rc (by simp only[Rp]) hb fun σ2 d2 l2 f2 R2=>⟨⟨d2,l2⟩,?_⟩
   unfold a1e
   dsimp only
   rw[if_pos rfl]
   split at h'
   ·rename_i y e3 hel
    refine he σ2 H' _ e1 F' R2 ?_
    rw[hel]
    rintro v H4 F4 f4 R4 ⟨p,xs,rfl,hp,hp4,fp4,_,rxs⟩
    split at h'
    ·rename_i hlen
     have g4:Gr H' F' H4 F4:=(f2.trans f4).gr n1 R4.sub
     have s4:=s.to g4
     have Hp:H p=none:=by
      cases z:H p with
      | none=>rfl
      | some o =>
       cases zf:F p with
       | none=>rw[(s.gr.hid p o z zf).1]at hp;cases hp
       | some u=>rw[s.gr.sub _ _ (s.gr.fz _ _ zf)]at hp;cases hp
     have pB:p≠B:=fun z=>by rw[z,s.atB]at hp;cases hp
     have pas:p ∉ as:=fun m=>by
      obtain⟨kk,hk⟩:=List.getElem?_of_mem m
      obtain⟨_,_,_,h2,_⟩:=s.ins kk p hk
      rw[h2]at hp;cases hp
     refine⟨s4.atB,by rw[List.length_map,← s.len];exact hlen,as++[p],F4,acc++[y],by rw[List.map_append];rfl,⟨hB,List.nodup_append.mpr ⟨fx.nd,by simp,fun a ha c hc=>by rw[List.mem_singleton.mp hc];exact fun z=>pas (z▸ha)⟩,fun a m=>?_⟩,?_,⟨⟨s4.gr.fz,fun a o ha=>?_,fun a o ha fa=>?_⟩,?_,s4.unB,by rw[List.length_append,List.length_append,s4.len];rfl,fun m a ha=>?_⟩,h'⟩
     ·rcases List.mem_append.mp m with m | m
      ·exact fx.nw a m
      ·rw[List.mem_singleton.mp m];exact⟨Hp,pB⟩
     ·refine a07 (W0 ok) (fun a o ha=>?_) R'.len (fun i d q=>?_)
      ·rw[b9 (fun z=>by rw[z,s4.unB]at ha;cases ha)];exact R4.sub _ _ ha
      ·obtain⟨v,e,pv⟩:=R'.fz i d q
       exact⟨v,e,Rp.mono g4.fz _ _ pv⟩
     ·rw[b9 (fun z=>by rw[z,s4.unB]at ha;cases ha)];exact R4.sub _ _ ha
     ·rw[b9 (fun z=>by rw[z,hB]at ha;cases ha)];exact s4.gr.hid a o ha fa
     ·rw[i8,List.map_append];rfl
     ·by_cases z:m<as.length
      ·rw[List.getElem?_append_left z]at ha
       obtain⟨ds,zs,k1,k2,k3,k4⟩:=s4.ins m a ha
       refine⟨ds,zs,by rw[List.getElem?_append_left (by rw[s4.len];exact z)];exact k1,?_,k3,k4⟩
       rw[b9 (fx.nw a (List.mem_of_getElem? ha)).2];exact k2
      ·have hm:m=as.length:=by
        have:=(List.getElem?_eq_some_iff.mp ha).1
        rw[List.length_append,List.length_singleton]at this
        omega
       subst hm
       rw[List.getElem?_append_right (Nat.le_refl _),Nat.sub_self]at ha
       cases ha
       refine⟨y,xs,by rw[List.getElem?_append_right (by rw[s4.len];exact Nat.le_refl _),s4.len,Nat.sub_self];rfl,?_,fp4,rxs⟩
       rw[b9 pB];exact hp4
    ·cases h'
   ·cases h'
 case hd =>
  rintro ys H' ⟨as,F',acc,rfl,fx,R',s,h'⟩
  rw[List.drop_eq_nil_of_le (by rw[V0];exact Nat.le_refl _)]at h'
  cases h'
  exact hq as H' F' fx R' s
def a0z(r k:Nat)(js:List Nat)(fa:AF)(b:GF)(el:NF)(lp:WF)(fr:SF):SF:=fun e=>match fa e with
 | some (.ok ds e1)=>if okW r e1=true then(match O8 ds with
  | some (lo,m)=>(match Q3 b el (p9 k js e1) (A6 lo m) []with
   | some dss=>(match lp dss e1 with
    | some (dss',e2)=>if okW r e2=true then fr (e2.set r (.fz (.lst (dss'.map .lst))))else none
    | none=>none)
   | none=>none)
  | none=>none)else none
 | _=>none
theorem b0C{js:List Nat}{t:TA}{g:TG}{te:TE}{tl tr:TS}{fa:AF}{b:GF}{el:NF}{lp:WF}{fr:SF}(nd:js.Nodup)(hf:N4 K cl E t fa)(hg:G3 K cl k g b)(he:RfN K cl E te el)(hl:RfW K cl E r tl lp)(hr:RfS K cl E tr fr) :
  RfS K cl E (a2C (X7 (a17 (a3D t) g a1e te k js) (N0 r)) (a2C tl tr)) (a0z r k js fa b el lp fr):=by
 intro N σ H env F R h
 unfold a0z at h
 split at h
 ·rename_i ds e1 hfe
  split at h
  ·rename_i ok1
   split at h
   ·rename_i lo m hs
    split at h
    ·rename_i dss hc
     split at h
     ·rename_i dss' e2 hlp
      split at h
      ·rename_i ok2
       refine hf σ H _ env F R ?_
       rw[hfe]
       intro vs H1 F1 fr1 R1 p1
       obtain⟨j,e,c1,c2,rfl,rfl⟩:=a5g hs p1
       refine⟨j,e,c1,c2,fun B hB=>b1Y nd hg he ok1 R1 hB hc fun as H' F' fx R' s=>?_⟩
       have hrl:r<σ.length:=by
        have:=(List.getElem?_eq_some_iff.mp (a4w ok1)).1
        rw[R1.len];exact this
       have Rr:Rel K cl (σ.set r (some (.ref B))) H' F' e1:=by
        refine a07 (W0 ok1) R'.sub (by rw[List.length_set];exact R'.len) fun i d q=>?_
        obtain⟨v,ev,pv⟩:=R'.fz i d q
        have:r≠i:=fun z=>by rw[← z,a4w ok1]at q;cases q
        exact⟨v,by rw[List.getElem?_set_ne this];exact ev,pv⟩
       refine hl _ (σ.set r (some (.ref B))) H' F' H1 F1 e1 B as dss dss' e2 fx ok1 Rr (List.getElem?_set_self hrl) s hlp fun σ2 H2 F2 _ R2 hr2 sF s2=>?_
       have nas:∀c o,F2 c=some o→c≠B∧c ∉ as:=fun c o hc=>by
        refine⟨fun z=>(by rw[z,s2.unB]at hc;cases hc),fun m=>?_⟩
        obtain⟨kk,hk⟩:=List.getElem?_of_mem m
        obtain⟨_,_,_,_,h3,_⟩:=s2.ins kk c hk
        rw[h3]at hc;cases hc
       let F3:Hp:=fun c=>if c=B∨c∈as then H2 c else F2 c
       have F3in:∀c,(c=B∨c∈as)→F3 c=H2 c:=fun c z=>by show(if _ then _ else _)=_;rw[if_pos z]
       have F3out:∀c,¬(c=B∨c∈as)→F3 c=F2 c:=fun c z=>by show(if _ then _ else _)=_;rw[if_neg z]
       have s23:Same F2 F3:=fun c o hc=>by
        rw[F3out c (fun z=>z.elim (nas c o hc).1 (nas c o hc).2)];exact hc
       have sub3:Same F3 H2:=fun c o hc=>by
        by_cases z:c=B∨c∈as
        ·rw[F3in c z]at hc;exact hc
        ·rw[F3out c z]at hc;exact R2.sub _ _ hc
       have rl:Rp K cl F3 (.lst (dss'.map .lst)) (.ref B):=by
        simp only[Rp]
        refine⟨B,as.map V.ref,rfl,by rw[F3in B (.inl rfl)];exact s2.atB,a3r s2.len fun kk ds a h1 h2=>?_⟩
        obtain⟨d2,z2,k1,k2,k3,k4⟩:=s2.ins kk a h2
        rw[h1]at k1;cases k1
        simp only[Rp]
        exact⟨a,z2,rfl,by rw[F3in a (.inr (List.mem_of_getElem? h2))];exact k2,k4.mono s23⟩
       have hr2l:r<e2.length:=(List.getElem?_eq_some_iff.mp (a4w ok2)).1
       have pl3:∀(i:Nat) (s:Sl),(e2.set r (.fz (.lst (dss'.map .lst))))[i]? = some s→a1S s=true:=fun i s q=>by
        by_cases z:i=r
        ·subst z;rw[List.getElem?_set_self hr2l]at q;cases q;rfl
        ·rw[List.getElem?_set_ne (Ne.symm z)]at q;exact W0 ok2 i s q
       have R3:Rel K cl σ2 H2 F3 (e2.set r (.fz (.lst (dss'.map .lst)))):=by
        refine a07 pl3 sub3 (by rw[List.length_set];exact R2.len) fun i d q=>?_
        by_cases z:i=r
        ·subst z;rw[List.getElem?_set_self hr2l]at q;cases q;exact⟨_,hr2,rl⟩
        ·rw[List.getElem?_set_ne (Ne.symm z)]at q
         obtain⟨v,ev,pv⟩:=R2.fz i d q
         exact⟨v,ev,Rp.mono s23 _ _ pv⟩
       have f3:Frm σ H1 F1 e1 σ2 H2 F3 (e2.set r (.fz (.lst (dss'.map .lst)))):=by
        refine⟨s2.gr.fz.trans s23,fun a o ha fa _=>?_,fun i ds q=>?_,s2.gr.dom⟩
        ·obtain⟨k1,k2⟩:=s2.gr.hid a o ha fa
         refine⟨k1,?_,fun⟨i,s,oo,q,_⟩=>?_⟩
         ·have nz:¬(a=B∨a∈as):=fun z=>by
           rcases z with z | z
           ·rw[z,hB]at ha;cases ha
           ·rw[(fx.nw a z).1]at ha;cases ha
          rw[F3out a nz]
          exact k2
         ·have:=pl3 i s q
          cases s<;>first | exact oo | cases this
        ·exact absurd (W0 ok1 i _ q) (by simp[a1S])
       exact hr N σ2 H2 _ F3 R3 (h.from (fr1.trans f3))
      ·exact h.elim
     ·exact h.elim
    ·exact h.elim
   ·exact h.elim
  ·exact h.elim
 ·exact h.elim
end
theorem a8g{K:W.Frag}{a:Addr}{xs:List V}{g:TG}{tf:TT}{te:TE}{k:Nat}{σ0:St}{D:Addr}{Fin:Hp→Prop}{H1:Hp}(Pv:Nat→List V→Hp→Prop)(h0:Pv 0 [] (upd H1 D (.lst [])))(hl:∀i ys H,i≤xs.length→Pv i ys H→SqL K H a xs)
  (hs:∀i x ys H,xs.reverse[i]? = some x→Pv i ys H→g x σ0 H fun σ2 H2=>(σ2.drop k=σ0.drop k∧σ2.length=σ0.length)∧tf σ2 H2 fun b H3 =>
   if b=true then te σ2 H3 fun y H4=>H4 D=some (.lst ys)∧ys.length<sizeLine∧Pv (i+1) (ys++[y]) (upd H4 D (.lst (ys++[y])))else Pv (i+1) ys H3)
  (hd:∀ys H,Pv xs.length ys H→Fin H):N3 (Itv K a xs.length) g tf te k σ0 D Fin H1:=by
 refine⟨fun i m ys H=>m=xs.length-i∧i≤xs.length∧Pv i ys H,⟨xs.length,by simp,Nat.zero_le _,h0⟩,?_⟩
 rintro i m ys H ⟨rfl,hi,p⟩
 have q:=hl i ys H hi p
 by_cases hlt:i<xs.length
 ·refine .inr ⟨⟨hlt,xs,q,rfl⟩,Pv (i+1),fun ys' H' z=>⟨xs.length-(i+1),by omega,rfl,hlt,z⟩,fun x H' y=>?_⟩
  obtain⟨e,y⟩:=y
  subst e
  refine hs i x ys _ ?_ p
  rw[List.getElem?_reverse hlt]
  exact y xs q
 ·have e:i=xs.length:=by omega
  subst e
  exact .inl ⟨⟨Nat.le_refl _,xs,q,rfl⟩,hd ys H p⟩
section
variable {K:W.Frag}{cl:Str→Addr}{E:XK}{σ:St}{H F:Hp}{env:DE}{k:Nat}
theorem a60{b:GF}{c:BF}{el:ZF}{g:TG}{tf:TT}{te:TE}{js:List Nat}{ds:List D}{xs:List V}{a B:Addr}{Q:VK}(nd:js.Nodup)(hg:G3 K cl k g b)(hc:R9 K cl E tf c)(he:u2 K cl E te el)(R:Rel K cl σ H F env)(hB:H B=none)
  (hl:∀H' F',Same F F'→Same F' H'→(∀a o,H a=some o→F a=none→H' a=some o∧F' a=none)→SqL K H' a xs) (r:Rps K cl F ds xs) (h:Ct K cl E (PN K cl) (w8 b c el (p9 k js env) env ds.reverse []) σ H F env Q) :
  N3 (Itv K a xs.length) g tf te k (n9 k js σ) B (fun H'=>Q (.ref B) H') H:=by
 have rr:Rps K cl F ds.reverse xs.reverse:=a5t r
 refine a8g (xs:=xs) (fun i ys H'=>∃F' acc,Grow K cl σ H F env B acc ys H' F'∧Ct K cl E (PN K cl) (w8 b c el (p9 k js env) env (ds.reverse.drop i) acc) σ H F env Q) ⟨F,[],.start R hB,h⟩ (fun i ys H' _ ⟨F',acc,gw,_⟩=>hl H' F' gw.frm.fz gw.rel.sub gw.stay) (fun i x ys H' hx ⟨F',acc,gw,h'⟩=>?_) (fun ys H' ⟨F',acc,gw,h'⟩=>?_)
 ·obtain⟨d,hd,p⟩:=rr.get' hx
  rw[L9 hd]at h'
  exact a3l (Pv:=fun ys' H2=>∃F' acc,Grow K cl σ H F env B acc ys' H2 F'∧Ct K cl E (PN K cl) (w8 b c el (p9 k js env) env (ds.reverse.drop (i+1)) acc) σ H F env Q) nd hg hc he gw (Rp.mono gw.frm.fz _ _ p) h' fun acc' ys' H2 F2 gw2 h2=>⟨F2,acc',gw2,h2⟩
 ·rw[← r.length,← List.length_reverse,List.drop_length]at h'
  exact a4k gw h'
def a4z(k:Nat)(js:List Nat)(f:ZF)(b:GF)(c:BF)(el:ZF):NF:=fun e=>bnd (f e) fun d e1=>match seqL d with
 | none=>none
 | some ds=>w8 b c el (p9 k js e1) e1 ds.reverse []
theorem a8h{t:TE}{g:TG}{tf:TT}{te:TE}{js:List Nat}{f:ZF}{b:GF}{c:BF}{el:ZF}(nd:js.Nodup)(hf:u2 K cl E t f)(hg:G3 K cl k g b)(hc:R9 K cl E tf c)(he:u2 K cl E te el):RfN K cl E (a17 (b1u K (I0 t U5)) g tf te k js) (a4z k js f b c el):=by
 intro σ H Q env F R h
 refine hf σ H _ env F R ((Ct.bnd h a1J).mono fun x H1 ⟨F1,e1,d,s1,R1,p1,h1⟩=>?_)
 split at h1
 ·exact h1.elim
 ·rename_i ds hs
  obtain⟨a,xs,rfl,r,hl⟩:=Rp.seqL p1 hs
  exact⟨a,xs,rfl,hl H1 R1.sub,fun B hB=>a60 nd hg hc he R1 hB (fun H' F' g1 g2 _=>hl H' (g1.trans g2)) r h1⟩
theorem a8i{r:Nat}{js:List Nat}{t:TA}{g:TG}{te:TE}{tl tr:TS}{fa:AF}{b:GF}{el:NF}{lp:WF}{fr:SF}(nd:js.Nodup)(hf:N4 K cl E t fa)(hg:G3 K cl k g b)(he:RfN K cl E te el)(hl:RfW K cl E r tl lp)(hr:RfS K cl E tr fr) :
  RfS K cl E (a2C (a37 r (a3D t) g a1e te k js) (a2C tl tr)) (a0z r k js fa b el lp fr):=fun N σ H env F R q=>b0C nd hf hg he hl hr N σ H env F R q
end
def a9c(K:W.Frag):List V→Hp→VK→Prop:=fun xs H Q=>∃(a:Addr) (ns:List Int),xs=[.ref a]∧SqT K H a (ns.map V.int)∧ns≠[]∧∀m,m∈ns→(∀n∈ns,n≤m)→Q (.int m) H
section
variable {X:Cx}
theorem a6h{K:W.Frag}(hc:X.calm=true:=by rfl)(hK:X.K=K:=by rfl):CallR X (.builtin "max") (a9c K):=by
 subst hK
 intro pins s σ H xs us Q I r h
 obtain⟨a,ns,rfl,hq,hne,q⟩:=h
 obtain⟨u,rfl,ru⟩:=r.one
 cases (show u=Value.ref a from ru)
 obtain⟨its,rv,pt,hz⟩:=I.tuple hq
 obtain⟨ps,rfl,e⟩:=a0j rv
 have el:(ps.map fun p=>Value.int p.1 p.2).toArray=intItems ps.toArray:=by unfold intItems;simp
 rw[el]at pt
 have hT:s.heap.IsTuple a (intItems ps.toArray):=pt
 have hlt:a<s.heap.objs.size:=by obtain⟨_,e,_⟩:=hT;exact Heap.lt_size e
 have hsz:(intItems ps.toArray).size=ps.length:=by simp[intItems]
 have hps:0<ps.length:=by
  cases ps with
  | nil=>exact absurd e.symm hne
  | cons _ _=>exact Nat.succ_pos _
 refine call_max_walk (wpAny_pyIter_tuple hT ?_)
 refine⟨_,[_,a],[_],_,_,_,_,rfl,Walks.tuple (A:=X.A.in1) (I.ok.hd hc) _ a (Nat.ne_of_lt hlt) (intItems ps.toArray),
  ⟨⟨_,Heap.get?_push_size _ rfl,rfl,rfl⟩,hT.push _⟩,fun c hc=>?_,by rw[hsz];exact hps,CmpOf.ints_gt (numAt ps.toArray) (fun _ _=>intItems_at),fun v h' tk hP hk=>?_⟩
 ·show c<(s.heap.push _).objs.size
  rw[Heap.size_push]
  rcases List.mem_cons.mp hc with rfl | hc
  ·exact Nat.lt_succ_self _
  ·rcases List.mem_cons.mp hc with rfl | hc
   ·exact Nat.lt_succ_of_lt hlt
   ·cases hc
 ·have hold:∀c o,s.heap.get? c=some o→h'.get? c=some o:=fun c o e=>by
   refine hk c o (fun hm=>?_) (Heap.get?_push_of_some _ e)
   rcases List.mem_cons.mp hm with e1 | hm
   ·have:=Heap.lt_size e;rw[e1]at this;exact Nat.lt_irrefl _ this
   ·cases hm
  have hP':(intItems ps.toArray)[argBest (fun i j=>decide (numAt ps.toArray i > numAt ps.toArray j)) (ps.length-1)]? = some v:=by rw[← hsz];exact hP
  obtain⟨b1,b2⟩:=argBest_gt (numAt ps.toArray) (ps.length-1)
  generalize argBest (fun i j=>decide (numAt ps.toArray i > numAt ps.toArray j)) (ps.length-1)=k at hP' b1 b2
  have hk2:k<ps.length:=by omega
  have num:∀j (hj:j<ps.length),numAt ps.toArray j=ps[j].1:=fun j hj=>by
   unfold numAt
   simp[hj]
  obtain⟨t,rfl⟩:=intItems_at hP'
  rw[num k hk2]
  refine⟨.int ps[k].1,H,I.kept hold,⟨t,rfl⟩,q _ ?_ fun n m=>?_⟩
  ·rw[← e];exact List.mem_map.mpr ⟨ps[k],List.getElem_mem hk2,rfl⟩
  ·rw[← e]at m
   obtain⟨p,mp,rfl⟩:=List.mem_map.mp m
   obtain⟨j,hj,rfl⟩:=List.mem_iff_getElem.mp mp
   have:=b2 j (by omega)
   rw[num k hk2,num j hj]at this
   exact this
end
section
variable {K:W.Frag}{cl:Str→Addr}{E:XK}
def a0A:D→Option D
 | .tup ds=>match W7 ds with
  | some (n::ns)=>some (.int (ns.foldl max n))
  | _=>none
 | _=>none
theorem b0D:CbOk1 K cl (a9c K) a0A:=by
 intro x d z H F Q s hx h q
 unfold a0A at h
 split at h
 ·rename_i ds
  cases hb:W7 ds with
  | none=>rw[hb]at h;cases h
  | some l =>
   rw[hb]at h
   cases l with
   | nil=>cases h
   | cons n ns =>
    cases h
    obtain⟨a,xs,rfl,hH,r⟩:=hx.tup s
    rw[a2W hb]at r
    rw[r.ints]at hH
    refine⟨a,n::ns,rfl,.of hH,List.cons_ne_nil _ _,fun m hm hle=>?_⟩
    have e:m=ns.foldl max n:=by
     obtain⟨h1,h2⟩:=a0K ns n
     have hmem:ns.foldl max n∈n::ns:=by
      rcases Z4 ns n with e | e
      ·rw[e];exact List.mem_cons_self
      ·exact List.mem_cons_of_mem _ e
     have a1:=hle _ hmem
     rcases List.mem_cons.mp hm with rfl | hm
     ·omega
     ·have:=h2 m hm;omega
    rw[e]
    exact q _ H F (.refl s) (by simp only[Rp])
 ·cases h
end
end L2
namespace Law
open PySem L2 PyProof.Rows
def K3(i:Nat):Stmt:=PySem.Challenge.pw_cratefit_k69_no_sheet.main.body.getD i (.Pass ⟨0,0,0,0⟩)
abbrev J2:Stmt:=K3 20
abbrev M1:Stmt:=K3 22
abbrev C4:Stmt:=K3 23
abbrev U1:Stmt:=K3 24
abbrev M3:Stmt:=K3 25
abbrev U2:Stmt:=K3 26
abbrev A4:Stmt:=K3 31
abbrev E3:Stmt:=K3 32
abbrev E4:Stmt:=K3 34
abbrev J3:Stmt:=K3 35
abbrev P0:Stmt:=K3 36
abbrev M4:Stmt:=K3 37
abbrev U3:Stmt:=K3 38
abbrev P3:Stmt:=K3 39
abbrev P4:Stmt:=K3 40
abbrev A5:Stmt:=K3 41
abbrev y8:Stmt:=K3 42
abbrev M5:Stmt:=K3 43
abbrev P5:Stmt:=K3 44
abbrev Q4:Stmt:=K3 45
abbrev u6:Stmt:=a9s (K3 18) 0
variable {P:Program}{w:World}{K:PySem.W.Frag}{mg:Str→Option Value}{base:Heap}{c:Str→Addr}
structure Txt(K:PySem.W.Frag)(mg:Str→Option Value)(c:Str→Addr):Prop where
 z_ValueError:mg "ValueError" = none
 z_enumerate:mg "enumerate" = none
 z_isinstance:mg "isinstance" = none
 z_len:mg "len" = none
 z_list:mg "list" = none
 z_max:mg "max" = none
 z_min:mg "min" = none
 z_range:mg "range" = none
 z_reversed:mg "reversed" = none
 z_str:mg "str" = none
 z_tuple:mg "tuple" = none
 z_zip:mg "zip" = none
 m_BadPacking:mg "BadPacking" = some (.ref (c "BadPacking"))
 m_BadPlan:mg "BadPlan" = some (.ref (c "BadPlan"))
 m_BadSide:mg "BadSide" = some (.ref (c "BadSide"))
 m_BadTurn:mg "BadTurn" = some (.ref (c "BadTurn"))
 m_CrateError:mg "CrateError" = some (.ref (c "CrateError"))
 m_Full:mg "Full" = some (.ref (c "Full"))
 m_Hangs:mg "Hangs" = some (.ref (c "Hangs"))
 m_NoDeed:mg "NoDeed" = some (.ref (c "NoDeed"))
 m_NoDrawing:mg "NoDrawing" = some (.ref (c "NoDrawing"))
 m_NoPicker:mg "NoPicker" = some (.ref (c "NoPicker"))
 m_NoSheet:mg "NoSheet" = some (.ref (c "NoSheet"))
 m_NoText:mg "NoText" = some (.ref (c "NoText"))
 m_NoWare:mg "NoWare" = some (.ref (c "NoWare"))
 m_NoWeighing:mg "NoWeighing" = some (.ref (c "NoWeighing"))
 m_NothingDone:mg "NothingDone" = some (.ref (c "NothingDone"))
 m_Ring:mg "Ring" = some (.ref (c "Ring"))
 m_TooMany:mg "TooMany" = some (.ref (c "TooMany"))
 m_TooWide:mg "TooWide" = some (.ref (c "TooWide"))
 x_BadTurn:PySem.W.excIn K (c "BadTurn") vErr "ValueError.__new__" = true
 x_NoSheet:PySem.W.excIn K (c "NoSheet") vErr "ValueError.__new__" = true
 v_MOST_SIDE:∃u,mg "MOST_SIDE" = some u∧RelV (.int 60) u
 v_NOTHING:∃u,mg "NOTHING" = some u∧RelV (.str ".") u
 v_SIGNS:∃u,mg "SIGNS" = some u∧RelV (.str "0123456789abcdefghijklmnopqrstuvwxyzABCDEFGHIJKLMNOPQRSTUVWXYZ") u
 t_exc_BadPacking:PySem.W.ExcT K (c "BadPacking")
 t_exc_BadTurn:PySem.W.ExcT K (c "BadTurn")
 t_exc_NoSheet:PySem.W.ExcT K (c "NoSheet")
 hd_BadPacking:PySem.W.hasDictIn K (c "BadPacking")=true
 xn_BadPacking:PySem.W.findIn K (.ref (c "BadPacking")) "why" = some none
 t_any_BadPacking_0:PySem.W.kitAny K (.ref (c "BadPacking")) [.ref (c "BadSide"),.ref (c "BadTurn"),.ref (c "NoText"),.ref (c "TooMany"),.ref (c "Ring"),.ref (c "NoWeighing"),.ref (c "NoPicker"),.ref (c "NoDrawing")]=some false
 t_any_BadPacking_1:PySem.W.kitAny K (.ref (c "BadPacking")) [.ref (c "BadSide"),.ref (c "BadTurn"),.ref (c "NoText"),.ref (c "TooMany"),.ref (c "Ring"),.ref (c "NoWeighing"),.ref (c "NoPicker"),.ref (c "NoSheet")]=some false
 t_any_BadPacking_2:PySem.W.kitAny K (.ref (c "BadPacking")) [.ref (c "NoDeed"),.ref (c "NoWare"),.ref (c "Full"),.ref (c "NothingDone"),.ref (c "TooWide"),.ref (c "Hangs"),.ref (c "BadPlan"),.ref (c "BadPacking")]=some true
 t_any_BadPacking_3:PySem.W.kitAny K (.ref (c "BadPacking")) [.ref (c "NoDrawing"),.ref (c "NoDeed"),.ref (c "NoWare"),.ref (c "Full"),.ref (c "NothingDone"),.ref (c "TooWide"),.ref (c "Hangs"),.ref (c "BadPlan")]=some false
 t_one_BadPacking_CrateError:PySem.W.kitOne K (.ref (c "BadPacking")) (.ref (c "CrateError"))=some true
 t_one_BadPacking_ValueError:PySem.W.kitOne K (.ref (c "BadPacking")) (.type "ValueError")=some true
 t_exo_BadPacking_BadPacking:PySem.W.exmOne K (.ref (c "BadPacking")) (.ref (c "BadPacking"))=some true
 t_exo_BadPacking_NoSheet:PySem.W.exmOne K (.ref (c "BadPacking")) (.ref (c "NoSheet"))=some false
 t_any_BadTurn_0:PySem.W.kitAny K (.ref (c "BadTurn")) [.ref (c "BadSide"),.ref (c "BadTurn"),.ref (c "NoText"),.ref (c "TooMany"),.ref (c "Ring"),.ref (c "NoWeighing"),.ref (c "NoPicker"),.ref (c "NoDrawing")]=some true
 t_any_BadTurn_1:PySem.W.kitAny K (.ref (c "BadTurn")) [.ref (c "BadSide"),.ref (c "BadTurn"),.ref (c "NoText"),.ref (c "TooMany"),.ref (c "Ring"),.ref (c "NoWeighing"),.ref (c "NoPicker"),.ref (c "NoSheet")]=some true
 t_any_BadTurn_2:PySem.W.kitAny K (.ref (c "BadTurn")) [.ref (c "NoDeed"),.ref (c "NoWare"),.ref (c "Full"),.ref (c "NothingDone"),.ref (c "TooWide"),.ref (c "Hangs"),.ref (c "BadPlan"),.ref (c "BadPacking")]=some false
 t_any_BadTurn_3:PySem.W.kitAny K (.ref (c "BadTurn")) [.ref (c "NoDrawing"),.ref (c "NoDeed"),.ref (c "NoWare"),.ref (c "Full"),.ref (c "NothingDone"),.ref (c "TooWide"),.ref (c "Hangs"),.ref (c "BadPlan")]=some false
 t_one_BadTurn_CrateError:PySem.W.kitOne K (.ref (c "BadTurn")) (.ref (c "CrateError"))=some true
 t_one_BadTurn_ValueError:PySem.W.kitOne K (.ref (c "BadTurn")) (.type "ValueError")=some true
 t_exo_BadTurn_BadPacking:PySem.W.exmOne K (.ref (c "BadTurn")) (.ref (c "BadPacking"))=some false
 t_exo_BadTurn_NoSheet:PySem.W.exmOne K (.ref (c "BadTurn")) (.ref (c "NoSheet"))=some false
 t_any_NoSheet_0:PySem.W.kitAny K (.ref (c "NoSheet")) [.ref (c "BadSide"),.ref (c "BadTurn"),.ref (c "NoText"),.ref (c "TooMany"),.ref (c "Ring"),.ref (c "NoWeighing"),.ref (c "NoPicker"),.ref (c "NoDrawing")]=some false
 t_any_NoSheet_1:PySem.W.kitAny K (.ref (c "NoSheet")) [.ref (c "BadSide"),.ref (c "BadTurn"),.ref (c "NoText"),.ref (c "TooMany"),.ref (c "Ring"),.ref (c "NoWeighing"),.ref (c "NoPicker"),.ref (c "NoSheet")]=some true
 t_any_NoSheet_2:PySem.W.kitAny K (.ref (c "NoSheet")) [.ref (c "NoDeed"),.ref (c "NoWare"),.ref (c "Full"),.ref (c "NothingDone"),.ref (c "TooWide"),.ref (c "Hangs"),.ref (c "BadPlan"),.ref (c "BadPacking")]=some false
 t_any_NoSheet_3:PySem.W.kitAny K (.ref (c "NoSheet")) [.ref (c "NoDrawing"),.ref (c "NoDeed"),.ref (c "NoWare"),.ref (c "Full"),.ref (c "NothingDone"),.ref (c "TooWide"),.ref (c "Hangs"),.ref (c "BadPlan")]=some false
 t_one_NoSheet_CrateError:PySem.W.kitOne K (.ref (c "NoSheet")) (.ref (c "CrateError"))=some true
 t_one_NoSheet_ValueError:PySem.W.kitOne K (.ref (c "NoSheet")) (.type "ValueError")=some true
 t_exo_NoSheet_BadPacking:PySem.W.exmOne K (.ref (c "NoSheet")) (.ref (c "BadPacking"))=some false
 t_exo_NoSheet_NoSheet:PySem.W.exmOne K (.ref (c "NoSheet")) (.ref (c "NoSheet"))=some true
def xT(n:Str)(ns:List Str):Option Bool:=if n = "BadPacking"∧ns=(["BadSide","BadTurn","NoText","TooMany","Ring","NoWeighing","NoPicker","NoDrawing"]:List Str)then some false else if n = "BadPacking"∧ns=(["BadSide","BadTurn","NoText","TooMany","Ring","NoWeighing","NoPicker","NoSheet"]:List Str)then some false else if n = "BadPacking"∧ns=(["NoDeed","NoWare","Full","NothingDone","TooWide","Hangs","BadPlan","BadPacking"]:List Str)then some true else if n = "BadPacking"∧ns=(["NoDrawing","NoDeed","NoWare","Full","NothingDone","TooWide","Hangs","BadPlan"]:List Str)then some false else if n = "BadTurn"∧ns=(["BadSide","BadTurn","NoText","TooMany","Ring","NoWeighing","NoPicker","NoDrawing"]:List Str)then some true else if n = "BadTurn"∧ns=(["BadSide","BadTurn","NoText","TooMany","Ring","NoWeighing","NoPicker","NoSheet"]:List Str)then some true else if n = "BadTurn"∧ns=(["NoDeed","NoWare","Full","NothingDone","TooWide","Hangs","BadPlan","BadPacking"]:List Str)then some false else if n = "BadTurn"∧ns=(["NoDrawing","NoDeed","NoWare","Full","NothingDone","TooWide","Hangs","BadPlan"]:List Str)then some false else if n = "NoSheet"∧ns=(["BadSide","BadTurn","NoText","TooMany","Ring","NoWeighing","NoPicker","NoDrawing"]:List Str)then some false else if n = "NoSheet"∧ns=(["BadSide","BadTurn","NoText","TooMany","Ring","NoWeighing","NoPicker","NoSheet"]:List Str)then some true else if n = "NoSheet"∧ns=(["NoDeed","NoWare","Full","NothingDone","TooWide","Hangs","BadPlan","BadPacking"]:List Str)then some false else if n = "NoSheet"∧ns=(["NoDrawing","NoDeed","NoWare","Full","NothingDone","TooWide","Hangs","BadPlan"]:List Str)then some false else none
def x1(n m:Str):Option Bool:=if n = "BadPacking"∧m = "CrateError" then some true else if n = "BadTurn"∧m = "CrateError" then some true else if n = "NoSheet"∧m = "CrateError" then some true else none
def x2(n:Str)(m:String):Option Bool:=if n = "BadPacking"∧m = "ValueError" then some true else if n = "BadTurn"∧m = "ValueError" then some true else if n = "NoSheet"∧m = "ValueError" then some true else none
theorem a3O(T:Txt K mg c):∀(n:Str) (m:List Str) (b:Bool),xT n m=some b→PySem.W.ExcT K (c n)∧PySem.W.kitAny K (.ref (c n)) (m.map fun m=>.ref (c m))=some b:=by
 intro n m b h
 unfold xT at h
 refine A7 (P:=fun b=>PySem.W.ExcT K (c n)∧PySem.W.kitAny K (.ref (c n)) (m.map fun m=>.ref (c m))=some b) h (fun z=>by obtain⟨rfl,rfl⟩:=z;exact⟨T.t_exc_BadPacking,T.t_any_BadPacking_0⟩) fun h=>?_
 refine A7 (P:=fun b=>PySem.W.ExcT K (c n)∧PySem.W.kitAny K (.ref (c n)) (m.map fun m=>.ref (c m))=some b) h (fun z=>by obtain⟨rfl,rfl⟩:=z;exact⟨T.t_exc_BadPacking,T.t_any_BadPacking_1⟩) fun h=>?_
 refine A7 (P:=fun b=>PySem.W.ExcT K (c n)∧PySem.W.kitAny K (.ref (c n)) (m.map fun m=>.ref (c m))=some b) h (fun z=>by obtain⟨rfl,rfl⟩:=z;exact⟨T.t_exc_BadPacking,T.t_any_BadPacking_2⟩) fun h=>?_
 refine A7 (P:=fun b=>PySem.W.ExcT K (c n)∧PySem.W.kitAny K (.ref (c n)) (m.map fun m=>.ref (c m))=some b) h (fun z=>by obtain⟨rfl,rfl⟩:=z;exact⟨T.t_exc_BadPacking,T.t_any_BadPacking_3⟩) fun h=>?_
 refine A7 (P:=fun b=>PySem.W.ExcT K (c n)∧PySem.W.kitAny K (.ref (c n)) (m.map fun m=>.ref (c m))=some b) h (fun z=>by obtain⟨rfl,rfl⟩:=z;exact⟨T.t_exc_BadTurn,T.t_any_BadTurn_0⟩) fun h=>?_
 refine A7 (P:=fun b=>PySem.W.ExcT K (c n)∧PySem.W.kitAny K (.ref (c n)) (m.map fun m=>.ref (c m))=some b) h (fun z=>by obtain⟨rfl,rfl⟩:=z;exact⟨T.t_exc_BadTurn,T.t_any_BadTurn_1⟩) fun h=>?_
 refine A7 (P:=fun b=>PySem.W.ExcT K (c n)∧PySem.W.kitAny K (.ref (c n)) (m.map fun m=>.ref (c m))=some b) h (fun z=>by obtain⟨rfl,rfl⟩:=z;exact⟨T.t_exc_BadTurn,T.t_any_BadTurn_2⟩) fun h=>?_
 refine A7 (P:=fun b=>PySem.W.ExcT K (c n)∧PySem.W.kitAny K (.ref (c n)) (m.map fun m=>.ref (c m))=some b) h (fun z=>by obtain⟨rfl,rfl⟩:=z;exact⟨T.t_exc_BadTurn,T.t_any_BadTurn_3⟩) fun h=>?_
 refine A7 (P:=fun b=>PySem.W.ExcT K (c n)∧PySem.W.kitAny K (.ref (c n)) (m.map fun m=>.ref (c m))=some b) h (fun z=>by obtain⟨rfl,rfl⟩:=z;exact⟨T.t_exc_NoSheet,T.t_any_NoSheet_0⟩) fun h=>?_
 refine A7 (P:=fun b=>PySem.W.ExcT K (c n)∧PySem.W.kitAny K (.ref (c n)) (m.map fun m=>.ref (c m))=some b) h (fun z=>by obtain⟨rfl,rfl⟩:=z;exact⟨T.t_exc_NoSheet,T.t_any_NoSheet_1⟩) fun h=>?_
 refine A7 (P:=fun b=>PySem.W.ExcT K (c n)∧PySem.W.kitAny K (.ref (c n)) (m.map fun m=>.ref (c m))=some b) h (fun z=>by obtain⟨rfl,rfl⟩:=z;exact⟨T.t_exc_NoSheet,T.t_any_NoSheet_2⟩) fun h=>?_
 refine A7 (P:=fun b=>PySem.W.ExcT K (c n)∧PySem.W.kitAny K (.ref (c n)) (m.map fun m=>.ref (c m))=some b) h (fun z=>by obtain⟨rfl,rfl⟩:=z;exact⟨T.t_exc_NoSheet,T.t_any_NoSheet_3⟩) fun h=>?_
 cases h
theorem a3P(T:Txt K mg c):∀(n:Str) (m:Str) (b:Bool),x1 n m=some b→PySem.W.ExcT K (c n)∧PySem.W.kitOne K (.ref (c n)) (.ref (c m))=some b:=by
 intro n m b h
 unfold x1 at h
 split at h
 ·rename_i z;obtain⟨rfl,rfl⟩:=z;cases h;exact⟨T.t_exc_BadPacking,T.t_one_BadPacking_CrateError⟩
 split at h
 ·rename_i z;obtain⟨rfl,rfl⟩:=z;cases h;exact⟨T.t_exc_BadTurn,T.t_one_BadTurn_CrateError⟩
 split at h
 ·rename_i z;obtain⟨rfl,rfl⟩:=z;cases h;exact⟨T.t_exc_NoSheet,T.t_one_NoSheet_CrateError⟩
 cases h
theorem a3Q(T:Txt K mg c):∀(n:Str) (m:String) (b:Bool),x2 n m=some b→PySem.W.ExcT K (c n)∧PySem.W.kitOne K (.ref (c n)) (.type m)=some b:=by
 intro n m b h
 unfold x2 at h
 split at h
 ·rename_i z;obtain⟨rfl,rfl⟩:=z;cases h;exact⟨T.t_exc_BadPacking,T.t_one_BadPacking_ValueError⟩
 split at h
 ·rename_i z;obtain⟨rfl,rfl⟩:=z;cases h;exact⟨T.t_exc_BadTurn,T.t_one_BadTurn_ValueError⟩
 split at h
 ·rename_i z;obtain⟨rfl,rfl⟩:=z;cases h;exact⟨T.t_exc_NoSheet,T.t_one_NoSheet_ValueError⟩
 cases h
def t9(n:Str):Option Bool:=if n = "BadPacking" then some true else if n = "BadTurn" then some false else if n = "NoSheet" then some false else none
theorem a1U(T:Txt K mg c):∀n b,t9 n=some b→PySem.W.exmOne K (.ref (c n)) (.ref (c "BadPacking"))=some b:=by
 intro n b h
 unfold t9 at h
 split at h
 ·rename_i z;subst z;cases h;exact T.t_exo_BadPacking_BadPacking
 split at h
 ·rename_i z;subst z;cases h;exact T.t_exo_BadTurn_BadPacking
 split at h
 ·rename_i z;subst z;cases h;exact T.t_exo_NoSheet_BadPacking
 cases h
def D6(n:Str):Option Bool:=if n = "BadPacking" then some false else if n = "BadTurn" then some false else if n = "NoSheet" then some true else none
theorem a3B(T:Txt K mg c):∀n b,D6 n=some b→PySem.W.exmOne K (.ref (c n)) (.ref (c "NoSheet"))=some b:=by
 intro n b h
 unfold D6 at h
 split at h
 ·rename_i z;subst z;cases h;exact T.t_exo_BadPacking_NoSheet
 split at h
 ·rename_i z;subst z;cases h;exact T.t_exo_BadTurn_NoSheet
 split at h
 ·rename_i z;subst z;cases h;exact T.t_exo_NoSheet_NoSheet
 cases h
def W1(n:Str):Bool:=decide (n = "BadPacking")
theorem a61(T:Txt K mg c):∀n,W1 n=true→PySem.W.ExcT K (c n)∧PySem.W.hasDictIn K (c n)=true∧PySem.W.findIn K (.ref (c n)) "why" = some none:=by
 intro n h
 unfold W1 at h
 simp only[Bool.or_eq_true,decide_eq_true_eq]at h
 rcases h with rfl
 ·exact⟨T.t_exc_BadPacking,T.hd_BadPacking,T.xn_BadPacking⟩
theorem Y3:FnScope ["self","why"] ["self","why"] (b8 u6):=⟨rfl,rfl,rfl,by decide +kernel,rfl,by decide +kernel,by decide +kernel⟩
seal PSs PS PE PA PT
theorem Y4{f:Addr}{fd:FuncData}(F:Fun K "__init__" "BadPacking.__init__" u6 f fd)(S:PySem.W.ExcS K (c "BadPacking") "why"):FnOk P w K mg base (w9 P w) 3 f fd ["self","why"] (a2M (c "BadPacking") "why") :=
 F.okE Y3 (fun vs H Q E h=>a8e h) fun cdv A outer s H vs Q E hr h=>⟨_,g5 (b2g (pv 0) (pv 1) rfl),a4R S h⟩
def a2w:SF:=(d7 (X9 (eV 0) (w4 [(g0 2),(g0 3),(g0 4)])) (d7 (m5 (u4 (bZ (eV 1))) (i9 (eT (aC (eV 2) (aC (eV 3) aN)))) m4) (d7 (m5 (u4 (bZ (eV 4))) (Z1 "BadTurn" (aC (eC (.str "a ware that may not be turned has no sides turned")) aN)) m4) (i9 (eT (aC (eV 3) (aC (eV 2) aN)))))))
def O1:List D→Option R1:=fD 5 2 a2w
theorem Q5:FnScope ["ware","lie","w","h","turns"] ["ware","lie"] (b8 J2):=⟨rfl,rfl,rfl,by decide +kernel,rfl,by decide +kernel,by decide +kernel⟩
theorem a4S{f:Addr}{fd:FuncData}(F:Fun K "sides_of" "sides_of" J2 f fd)(T:Txt K mg c)  : FnOk P w K mg base (w9 P w) 3 f fd ["ware","lie"] (k6 K c O1) :=
 F.okD (k:=2) Q5 fun cdv A outer s H E hr=>⟨_,(d9 (R5 (pv 0) (C9 (K:=K) (n:=3) rfl (k9 (j8 (i:=2) Q5.nd rfl (Or.inl rfl)) (k9 (j8 (i:=3) Q5.nd rfl (Or.inl rfl)) (k9 (j8 (i:=4) Q5.nd rfl (Or.inl rfl)) C7))))) (d9 (u0 (B3 (y0 (pv 1))) (g5 (j3 (n0 (a6 (pv 2) (a6 (pv 3) b6))))) l7) (d9 (u0 (B3 (y0 (pv 4))) (g5 (a32 L8 T.x_BadTurn rfl T.m_BadTurn (a6 D9 b6))) l7) (g5 (j3 (n0 (a6 (pv 3) (a6 (pv 2) b6)))))))),(g7 (Z3 b0 (D1 (l3 (j0 (k:=5) (by decide)) (l3 (j0 (k:=5) (by decide)) (l3 (j0 (k:=5) (by decide)) D0))) rfl)) (g7 (n8 (z7 (A3 b0)) (l5 (x9 (a7 b0 (a7 b0 f9)))) u3) (g7 (n8 (z7 (A3 b0)) (a4i (a7 a9 f9)) u3) (l5 (x9 (a7 b0 (a7 b0 f9)))))))⟩
def a3t:SF:=(d7 (X9 (eV 1) (w4 [(g0 2),(g0 3),(g0 4)])) (d7 (X9 (S9 O1 (aC (eV 0) (aC (eV 4) aN))) (w4 [(g0 5),(g0 6)])) (i9 (eT (aC (eV 2) (aC (eV 3) (aC (eB A1 (eV 2) (eV 5)) (aC (eB A1 (eV 3) (eV 6)) aN))))))))
def z0:List D→Option R1:=fD 7 2 a3t
theorem J4:FnScope ["ware","place","x","y","lie","w","h"] ["ware","place"] (b8 M1):=⟨rfl,rfl,rfl,by decide +kernel,rfl,by decide +kernel,by decide +kernel⟩
theorem a6i{f:Addr}{fd:FuncData}(F:Fun K "spot_of" "spot_of" M1 f fd)(T:Txt K mg c)(G_sides_of:Own P w K mg base 3 "sides_of" ["ware","lie"] (k6 K c O1)):FnOk P w K mg base (w9 P w) 5 f fd ["ware","place"] (k6 K c z0) :=
 F.okD (k:=4) J4 fun cdv A outer s H E hr=>⟨_,(d9 (R5 (pv 1) (C9 (K:=K) (n:=3) rfl (k9 (j8 (i:=2) J4.nd rfl (Or.inl rfl)) (k9 (j8 (i:=3) J4.nd rfl (Or.inl rfl)) (k9 (j8 (i:=4) J4.nd rfl (Or.inl rfl)) C7))))) (d9 (R5 (m8 G_sides_of hr (by decide) (XAcc.passes L8) (a6 (pv 0) (a6 (pv 4) b6))) (C9 (K:=K) (n:=2) rfl (k9 (j8 (i:=5) J4.nd rfl (Or.inl rfl)) (k9 (j8 (i:=6) J4.nd rfl (Or.inl rfl)) C7)))) (g5 (j3 (n0 (a6 (pv 2) (a6 (pv 3) (a6 (i5 B4 (pv 2) (pv 5)) (a6 (i5 B4 (pv 3) (pv 6)) b6))))))))),(g7 (Z3 b0 (D1 (l3 (j0 (k:=7) (by decide)) (l3 (j0 (k:=7) (by decide)) (l3 (j0 (k:=7) (by decide)) D0))) rfl)) (g7 (Z3 (a2O (a7 b0 (a7 b0 f9))) (D1 (l3 (j0 (k:=7) (by decide)) (l3 (j0 (k:=7) (by decide)) D0)) rfl)) (l5 (x9 (a7 b0 (a7 b0 (a7 (b7 B6 b0 b0) (a7 (b7 B6 b0 b0) f9))))))))⟩
def a2x:SF:=(a0s (a4p 2 [] (aC (eV 0) (aC (eV 1) aN)) (w4 [(g0 0),(g0 1)]) T6 (S9 z0 (aC (eV 0) (aC (eV 1) aN)))))
def B1:List D→Option R1:=fD 2 2 a2x
theorem a4T:FnScope ["wares","places"] ["wares","places"] (b8 C4):=⟨rfl,rfl,rfl,by decide +kernel,rfl,by decide +kernel,by decide +kernel⟩
theorem a4U{f:Addr}{fd:FuncData}(F:Fun K "spots_of" "spots_of" C4 f fd)(T:Txt K mg c)(G_spot_of:Own P w K mg base 5 "spot_of" ["ware","place"] (k6 K c z0)):FnOk P w K mg base (w9 P w) 7 f fd ["wares","places"] (k6 K c B1) :=
 F.okD (k:=6) a4T fun cdv A outer s H E hr=>⟨_,(g5 (j3 (a7C (Nc:=["ware","place"]) (k:=2) (js:=[]) L8 rfl ⟨by decide +kernel,rfl,by decide +kernel,(by change ∀y∈Scope.names _,y.2=NameKind.free→(b8 C4).names.lookup y.1=some .cell∨(b8 C4).names.lookup y.1=some .free;decide +kernel),by decide +kernel,rfl,rfl,by decide +kernel⟩ (b1r rfl T.z_zip (a6 (pv 0) (a6 (pv 1) b6))) (fun _ _ _ _ _=>(C9 (K:=K) (n:=2) rfl (k9 (j8 (i:=0) (by show List.Nodup [("ware" : Str),("place" : Str)];decide +kernel) rfl (Or.inl rfl)) (k9 (j8 (i:=1) (by show List.Nodup [("ware" : Str),("place" : Str)];decide +kernel) rfl (Or.inl rfl)) C7)))) (fun _ _ _ _ _=>a36) (fun _ _ _ _ _ ac=>(m8 G_spot_of hr (by decide) (XAcc.passes ac) (a6 (pv 0) (a6 (pv 1) b6))))))),(a1i (a7V (by decide) (a7 b0 (a7 b0 f9)) (D1 (l3 (j0 (k:=2) (by decide)) (l3 (j0 (k:=2) (by decide)) D0)) rfl) a4l (a2O (a7 b0 (a7 b0 f9)))))⟩
def a5u:SF:=(d7 (r9 2 (eOr (eB gLe (eB h9 (eV 0) (eC (.int 2))) (eB h9 (eV 1) (eC (.int 0)))) (eB gLe (eB h9 (eV 1) (eC (.int 2))) (eB h9 (eV 0) (eC (.int 0)))))) (d7 (r9 3 (eOr (eB gLe (eB h9 (eV 0) (eC (.int 3))) (eB h9 (eV 1) (eC (.int 1)))) (eB gLe (eB h9 (eV 1) (eC (.int 3))) (eB h9 (eV 0) (eC (.int 1)))))) (i9 (eOr (eV 2) (eV 3)))))
def P6:List D→Option R1:=fD 4 2 a5u
theorem a1V:FnScope ["one","other","across","up"] ["one","other"] (b8 U1):=⟨rfl,rfl,rfl,by decide +kernel,rfl,by decide +kernel,by decide +kernel⟩
theorem a8j{f:Addr}{fd:FuncData}(F:Fun K "apart" "apart" U1 f fd)(T:Txt K mg c)  : FnOk P w K mg base (w9 P w) 3 f fd ["one","other"] (k6 K c P6) :=
 F.okD (k:=2) a1V fun cdv A outer s H E hr=>⟨_,(d9 (m7 (i:=2) a1V.nd rfl (Or.inl rfl) (a0a (x8 a0b (i0 (g9 (K:=K)) (pv 0) a8 (fun _ _=>rfl)) (i0 (g9 (K:=K)) (pv 1) a8 (fun _ _=>rfl)) (j4 _)) (C6 (x8 a0b (i0 (g9 (K:=K)) (pv 1) a8 (fun _ _=>rfl)) (i0 (g9 (K:=K)) (pv 0) a8 (fun _ _=>rfl)) (j4 _))))) (d9 (m7 (i:=3) a1V.nd rfl (Or.inl rfl) (a0a (x8 a0b (i0 (g9 (K:=K)) (pv 0) a8 (fun _ _=>rfl)) (i0 (g9 (K:=K)) (pv 1) a8 (fun _ _=>rfl)) (j4 _)) (C6 (x8 a0b (i0 (g9 (K:=K)) (pv 1) a8 (fun _ _=>rfl)) (i0 (g9 (K:=K)) (pv 0) a8 (fun _ _=>rfl)) (j4 _))))) (g5 (j3 (a0a (pv 2) (C6 (pv 3))))))),(g7 (v9 (a0o (b7 a0q (b7 i7 b0 a9) (b7 i7 b0 a9)) (b7 a0q (b7 i7 b0 a9) (b7 i7 b0 a9)))) (g7 (v9 (a0o (b7 a0q (b7 i7 b0 a9) (b7 i7 b0 a9)) (b7 a0q (b7 i7 b0 a9) (b7 i7 b0 a9)))) (l5 (a0o b0 b0))))⟩
def a3u:SF:=(d7 (X9 (eV 1) (w4 [(g0 2),(g0 3),(g0 4),(g0 5)])) (i9 (O7 (eB gGe (eV 2) (eC (.int 0))) (O7 (eB gGe (eV 3) (eC (.int 0))) (O7 (eB gLe (eV 4) (eB h9 (eV 0) (eC (.int 0)))) (eB gLe (eV 5) (eB h9 (eV 0) (eC (.int 1)))))))))
def D2:List D→Option R1:=fD 6 2 a3u
theorem O2:FnScope ["box","spot","x","y","x2","y2"] ["box","spot"] (b8 M3):=⟨rfl,rfl,rfl,by decide +kernel,rfl,by decide +kernel,by decide +kernel⟩
theorem a6j{f:Addr}{fd:FuncData}(F:Fun K "lies_in" "lies_in" M3 f fd)(T:Txt K mg c)  : FnOk P w K mg base (w9 P w) 3 f fd ["box","spot"] (k6 K c D2) :=
 F.okD (k:=2) O2 fun cdv A outer s H E hr=>⟨_,(d9 (R5 (pv 1) (C9 (K:=K) (n:=4) rfl (k9 (j8 (i:=2) O2.nd rfl (Or.inl rfl)) (k9 (j8 (i:=3) O2.nd rfl (Or.inl rfl)) (k9 (j8 (i:=4) O2.nd rfl (Or.inl rfl)) (k9 (j8 (i:=5) O2.nd rfl (Or.inl rfl)) C7)))))) (g5 (j3 (Q9 (x8 a5H (pv 2) a8 (j4 _)) (Q9 (x8 a5H (pv 3) a8 (j4 _)) (Q9 (x8 a0b (pv 4) (i0 (g9 (K:=K)) (pv 0) a8 (fun _ _=>rfl)) (j4 _)) (C6 (x8 a0b (pv 5) (i0 (g9 (K:=K)) (pv 0) a8 (fun _ _=>rfl)) (j4 _))))))))),(g7 (Z3 b0 (D1 (l3 (j0 (k:=6) (by decide)) (l3 (j0 (k:=6) (by decide)) (l3 (j0 (k:=6) (by decide)) (l3 (j0 (k:=6) (by decide)) D0)))) rfl)) (l5 (S0 (b7 a53 b0 a9) (S0 (b7 a53 b0 a9) (S0 (b7 a0q b0 (b7 i7 b0 a9)) (b7 a0q b0 (b7 i7 b0 a9)))))))⟩
def a20:SF:=(d7 (m5 (bZ (eB (y9 true) (C3 y3 2) (C3 y3 1))) (i9 (eT (aC (eC (.str "count")) (aC (C3 y3 2) aN)))) m4) (d7 (N8 3 (eL aN)) (d7 (V1 2 (w4 [(g0 4),(g0 5)]) (d7 (m5 (U8 (bZ (eB h9 (eV 5) (eC (.int 2)))) (u4 (bZ (eB h9 (A2 u9 1 (eV 4)) (eC (.int 2)))))) (i9 (eT (aC (eC (.str "turn")) (aC (eV 4) aN)))) m4) (d7 (K6 6 z0 (aC (A2 u9 1 (eV 4)) (aC (eV 5) aN))) (d7 (m5 (u4 (bZ (g8 D2 (aC (eV 0) (aC (eV 6) aN))))) (i9 (eT (aC (eC (.str "out")) (aC (eV 4) aN)))) m4) (d7 (V1 3 (w4 [(g0 7),(g0 8)]) (m5 (u4 (bZ (g8 P6 (aC (eV 8) (aC (eV 6) aN))))) (i9 (eT (aC (eC (.str "over")) (aC (eV 7) (aC (eV 4) aN))))) m4)) (S4 3 (eV 6))))))) (i9 (eC .non)))))
def C0:List D→Option R1:=fD 9 3 a20
theorem L4:FnScope ["box","wares","places","spots","k","place","spot","i","other"] ["box","wares","places"] (b8 U2):=⟨rfl,rfl,rfl,by decide +kernel,rfl,by decide +kernel,by decide +kernel⟩
theorem a8k{f:Addr}{fd:FuncData}(F:Fun K "fault" "fault" U2 f fd)(T:Txt K mg c)(G_spot_of:Own P w K mg base 5 "spot_of" ["ware","place"] (k6 K c z0))(G_lies_in:Own P w K mg base 3 "lies_in" ["box","spot"] (k6 K c D2))(G_apart:Own P w K mg base 3 "apart" ["one","other"] (k6 K c P6)):FnOk P w K mg base (w9 P w) 7 f fd ["box","wares","places"] (k6 K c C0) :=
 F.okD (k:=6) L4 fun cdv A outer s H E hr=>⟨_,(d9 (u0 (n6 a3E (j5 (t8 (K:=K)) rfl T.z_len C8 (a6 (pv 2) b6)) (j5 (t8 (K:=K)) rfl T.z_len C8 (a6 (pv 1) b6)) (j4 _)) (g5 (j3 (n0 (a6 D9 (a6 (j5 (t8 (K:=K)) rfl T.z_len C8 (a6 (pv 2) b6)) b6))))) l7) (d9 (m7 (i:=3) L4.nd rfl (Or.inl rfl) (C1 b6)) (d9 (J9 PassesOwn.leaving rfl (a1f rfl T.z_enumerate (a6 (pv 2) b6)) (C9 (K:=K) (n:=2) rfl (k9 (j8 (i:=4) L4.nd rfl (Or.inl rfl)) (k9 (j8 (i:=5) L4.nd rfl (Or.inl rfl)) C7))) (d9 (u0 (PW.pt (a11 (y0 (i0 (g9 (K:=K)) (pv 5) a8 (fun _ _=>rfl))) (a1a (B3 (y0 (i0 (g9 (K:=K)) (i0 (v3 (K:=K)) (pv 1) (pv 4) (fun _ _=>rfl)) a8 (fun _ _=>rfl))))))) (g5 (j3 (n0 (a6 D9 (a6 (pv 4) b6))))) l7) (d9 (m7 (i:=6) L4.nd rfl (Or.inl rfl) (m8 G_spot_of hr (by decide) (XAcc.passes L8) (a6 (i0 (v3 (K:=K)) (pv 1) (pv 4) (fun _ _=>rfl)) (a6 (pv 5) b6)))) (d9 (u0 (B3 (y0 (m8 G_lies_in hr (by decide) t5 (a6 (pv 0) (a6 (pv 6) b6))))) (g5 (j3 (n0 (a6 D9 (a6 (pv 4) b6))))) l7) (d9 (J9 PassesOwn.leaving rfl (a1f rfl T.z_enumerate (a6 (pv 3) b6)) (C9 (K:=K) (n:=2) rfl (k9 (j8 (i:=7) L4.nd rfl (Or.inl rfl)) (k9 (j8 (i:=8) L4.nd rfl (Or.inl rfl)) C7))) (g5 (u0 (B3 (y0 (m8 G_apart hr (by decide) t5 (a6 (pv 8) (a6 (pv 6) b6))))) (g5 (j3 (n0 (a18 (a6 (pv 7) (a6 (pv 4) b6)))))) l7))) (g5 (a1b (a0T (K:=K) PySem.F.plainAttrs_list PySem.F.slot_list_append PySem.F.type_list_append R6 (pv 3) (a6 (pv 6) b6))))))))) (g5 (j3 a10))))),(g7 (n8 (w6 (b7 a3I (N6 G2) (N6 G2))) (l5 (x9 (a7 a9 (a7 (N6 G2) f9)))) u3) (g7 (Z2 (N5 f9)) (g7 (a4j (D1 (l3 (j0 (k:=9) (by decide)) (l3 (j0 (k:=9) (by decide)) D0)) rfl) (g7 (n8 (a1h (A3 (b7 i7 b0 a9)) (z7 (A3 (b7 i7 (B5 B7 b0) a9)))) (l5 (x9 (a7 a9 (a7 b0 f9)))) u3) (g7 (a2P (a7 (B5 B7 b0) (a7 b0 f9))) (g7 (n8 (z7 (A3 (n5 (a7 b0 (a7 b0 f9))))) (l5 (x9 (a7 a9 (a7 b0 f9)))) u3) (g7 (a4j (D1 (l3 (j0 (k:=9) (by decide)) (l3 (j0 (k:=9) (by decide)) D0)) rfl) (n8 (z7 (A3 (n5 (a7 b0 (a7 b0 f9))))) (l5 (x9 (a7 a9 (a7 b0 (a7 b0 f9))))) u3)) (a2k b0)))))) (l5 a9))))⟩
def X4:SF:=(i9 (O7 (eB gGe (eV 0) (eC (.int 1))) (eB gLe (eV 0) (eC (.int 60)))))
def r8:List D→Option R1:=fD 1 1 X4
theorem a1W:FnScope ["side"] ["side"] (b8 A4):=⟨rfl,rfl,rfl,by decide +kernel,rfl,by decide +kernel,by decide +kernel⟩
theorem a1X{f:Addr}{fd:FuncData}(F:Fun K "is_sheet_side" "is_sheet_side" A4 f fd)(T:Txt K mg c)  : FnOk P w K mg base (w9 P w) 3 f fd ["side"] (k6 K c r8) :=
 F.okD (k:=2) a1W fun cdv A outer s H E hr=>⟨_,(g5 (j3 (Q9 (x8 a5H (pv 0) a8 (j4 _)) (C6 (x8 a0b (pv 0) (W5 rfl T.v_MOST_SIDE) (j4 _)))))),(l5 (S0 (b7 a53 b0 a9) (b7 a0q b0 a9)))⟩
def b0E:SF:=(d7 (m5 (B2 (u4 (bZ (g8 r8 (aC (eB h9 (eV 0) (eC (.int 0))) aN)))) (B2 (u4 (bZ (g8 r8 (aC (eB h9 (eV 0) (eC (.int 1))) aN)))) (bZ (eB G0 (C3 y3 1) (A9 (g1 D3) (aC (eC (.str "0123456789abcdefghijklmnopqrstuvwxyzABCDEFGHIJKLMNOPQRSTUVWXYZ")) aN)))))) (Z1 "NoSheet" (aC (eC (.str "the box or the wares are too many for a sheet")) aN)) m4) (d7 (K6 3 C0 (aC (eV 0) (aC (eV 1) (aC (eV 2) aN)))) (d7 (m5 (bZ (eB (G1 true) (eV 3) (eC .non))) (Z5 "BadPacking" "why" (aC (eV 3) aN)) m4) (a0z 4 1 [0] (aC (eB h9 (eV 0) (eC (.int 1))) aN) (g0 0) (nB a1L (zN (eL (aC (eC (.str ".")) aN))) (eB h9 (eV 1) (eC (.int 0)))) (a2v 4 (S9 B1 (aC (eV 1) (aC (eV 2) aN)))  (w4 [(g0 5),(g0 6)]) (X3 4 (aC (eB h9 (eV 6) (eC (.int 1))) (aC (eB h9 (eV 6) (eC (.int 3))) aN)) (g0 7) (X3 4 (aC (eB h9 (eV 6) (eC (.int 0))) (aC (eB h9 (eV 6) (eC (.int 2))) aN)) (g0 8) (a4x 4 7 8 (eB a2Z (eC (.str "0123456789abcdefghijklmnopqrstuvwxyzABCDEFGHIJKLMNOPQRSTUVWXYZ")) (eV 5)))))) (a0s (a4z 1 [] (eV 4) (g0 0) T6 (a6f (eC (.str "")) (eV 0))))))))
def E5:List D→Option R1:=fD 9 3 b0E
theorem L5:FnScope ["box","wares","places","why","rows","k","spot","y","x"] ["box","wares","places"] (b8 E3):=⟨rfl,rfl,rfl,by decide +kernel,rfl,by decide +kernel,by decide +kernel⟩
theorem a8l{f:Addr}{fd:FuncData}(F:Fun K "drawn" "drawn" E3 f fd)(T:Txt K mg c)(G_is_sheet_side:Own P w K mg base 3 "is_sheet_side" ["side"] (k6 K c r8))(G_fault:Own P w K mg base 7 "fault" ["box","wares","places"] (k6 K c C0))(G_spots_of:Own P w K mg base 7 "spots_of" ["wares","places"] (k6 K c B1))(XI_BadPacking:a8d P w K mg base 3 "BadPacking" (c "BadPacking") ["self","why"] "why"):FnOk P w K mg base (w9 P w) 9 f fd ["box","wares","places"] (k6 K c E5) :=
 F.okD (k:=8) L5 fun cdv A outer s H E hr=>⟨_,(d9 (u0 (PW.pt (M9 (B3 (y0 (m8 G_is_sheet_side hr (by decide) t5 (a6 (i0 (g9 (K:=K)) (pv 0) a8 (fun _ _=>rfl)) b6)))) (M9 (B3 (y0 (m8 G_is_sheet_side hr (by decide) t5 (a6 (i0 (g9 (K:=K)) (pv 0) a8 (fun _ _=>rfl)) b6)))) (Q8 (n6 S6 (j5 (t8 (K:=K)) rfl T.z_len C8 (a6 (pv 1) b6)) (j5 a0Q rfl T.z_len C8 (a6 (W5 rfl T.v_SIGNS) b6)) (j4 _)))))) (g5 (a32 L8 T.x_NoSheet rfl T.m_NoSheet (a6 D9 b6))) l7) (d9 (m7 (i:=3) L5.nd rfl (Or.inl rfl) (m8 G_fault hr (by decide) (XAcc.passes L8) (a6 (pv 0) (a6 (pv 1) (a6 (pv 2) b6))))) (d9 (u0 (n6 a40 (pv 3) a10 (j4 _)) (g5 (a6W L8 XI_BadPacking hr (by decide) rfl (a6 (pv 3) b6))) l7) (d9 (a5U (i:=4) (Nc:=["y","box"]) (k:=1) (js:=[0]) rfl ⟨by decide +kernel,rfl,by decide +kernel,(by change ∀y∈Scope.names _,y.2=NameKind.free→(b8 E3).names.lookup y.1=some .cell∨(b8 E3).names.lookup y.1=some .free;decide +kernel),by decide +kernel,rfl,rfl,by decide +kernel⟩ L5.nd rfl (W2 rfl T.z_range (a6 (i0 (g9 (K:=K)) (pv 0) a8 (fun _ _=>rfl)) b6)) (fun _ _ _ _ _=>(j8 (i:=0) (by show List.Nodup [("y" : Str),("box" : Str)];decide +kernel) rfl (Or.inl rfl))) (fun _ _ _ _ _=>a36) (fun _ _ _ _ _=>(i5 b1m (C1 (a6 (W5 rfl T.v_NOTHING) b6)) (i0 (g9 (K:=K)) (pv 1) a8 (fun _ _=>rfl))))) (d9 (J9 PassesOwn.leaving rfl (a1f rfl T.z_enumerate (a6 (m8 G_spots_of hr (by decide) (XAcc.passes L8) (a6 (pv 1) (a6 (pv 2) b6))) b6)) (C9 (K:=K) (n:=2) rfl (k9 (j8 (i:=5) L5.nd rfl (Or.inl rfl)) (k9 (j8 (i:=6) L5.nd rfl (Or.inl rfl)) C7))) (g5 (J9 PassesOwn.leaving rfl (a24 rfl T.z_range (a6 (i0 (g9 (K:=K)) (pv 6) a8 (fun _ _=>rfl)) (a6 (i0 (g9 (K:=K)) (pv 6) a8 (fun _ _=>rfl)) b6))) (j8 (i:=7) L5.nd rfl (Or.inl rfl)) (g5 (J9 PassesOwn.leaving rfl (a24 rfl T.z_range (a6 (i0 (g9 (K:=K)) (pv 6) a8 (fun _ _=>rfl)) (a6 (i0 (g9 (K:=K)) (pv 6) a8 (fun _ _=>rfl)) b6))) (j8 (i:=8) L5.nd rfl (Or.inl rfl)) (g5 (R5 (i0 b1h (W5 rfl T.v_SIGNS) (pv 5) (fun _ _=>rfl)) (a6u (i0 (v3 (K:=K)) (pv 4) (pv 7) (fun _ _=>rfl)) (pv 8) a3W)))))))) (g5 (j3 (a9v (Nc:=["row"]) (k:=1) (js:=[]) rfl ⟨by decide +kernel,rfl,by decide +kernel,(by change ∀y∈Scope.names _,y.2=NameKind.free→(b8 E3).names.lookup y.1=some .cell∨(b8 E3).names.lookup y.1=some .free;decide +kernel),by decide +kernel,rfl,rfl,by decide +kernel⟩ (b1v rfl T.z_reversed (a6 (pv 4) b6)) (fun _ _ _ _ _=>(j8 (i:=0) (by show List.Nodup [("row" : Str)];decide +kernel) rfl (Or.inl rfl))) (fun _ _ _ _ _=>a36) (fun _ _ _ _ _=>(a0T (K:=K) PySem.F.plainAttrs_str PySem.F.slot_str_join PySem.F.type_str_join (a7A (K:=K)) D9 (a6 (pv 0) b6))))))))))),(g7 (n8 (F9 (z7 (A3 (n5 (a7 (b7 i7 b0 a9) f9)))) (F9 (z7 (A3 (n5 (a7 (b7 i7 b0 a9) f9)))) (w6 (b7 S8 (N6 G2) (B9 a5c.cb (a7 a9 f9)))))) (a4i (a7 a9 f9)) u3) (g7 (a2P (a7 b0 (a7 b0 (a7 b0 f9)))) (g7 (n8 (w6 (b7 a5b b0 a9)) (a6X (a7 b0 f9)) u3) (a8i (by decide) (a7 (b7 i7 b0 a9) f9) (j0 (k:=1) (by decide)) (b2h b1H (J1 (N5 (a7 a9 f9))) (b7 i7 b0 a9)) (a8f (a2O (a7 b0 (a7 b0 f9))) (D1 (l3 (j0 (k:=9) (by decide)) (l3 (j0 (k:=9) (by decide)) D0)) rfl) a6Y (a4y (a7 (b7 i7 b0 a9) (a7 (b7 i7 b0 a9) f9)) (j0 (k:=9) (by decide)) a2u (a4y (a7 (b7 i7 b0 a9) (a7 (b7 i7 b0 a9) f9)) (j0 (k:=9) (by decide)) a2u (b0B (b7 b1V a9 b0))))) (a1i (a8h (by decide) b0 (j0 (k:=1) (by decide)) a4l (b0y a9 b0)))))))⟩
def a1A:SF:=(d7 (m5 (bZ (eB gLt (eV 1) (C3 y3 0))) (i9 (A2 u9 0 (eV 1))) m4) (i9 (eC (.int 0))))
def k7:List D→Option R1:=fD 2 2 a1A
theorem a4A:FnScope ["_law_script","_law_k"] ["_law_script","_law_k"] (b8 E4):=⟨rfl,rfl,rfl,by decide +kernel,rfl,by decide +kernel,by decide +kernel⟩
theorem a4B{f:Addr}{fd:FuncData}(F:Fun K "_law_cell_at" "_law_cell_at" E4 f fd)(T:Txt K mg c)  : FnOk P w K mg base (w9 P w) 3 f fd ["_law_script","_law_k"] (k6 K c k7) :=
 F.okD (k:=2) a4A fun cdv A outer s H E hr=>⟨_,(d9 (u0 (n6 a5G (pv 1) (j5 (t8 (K:=K)) rfl T.z_len C8 (a6 (pv 0) b6)) (j4 _)) (g5 (j3 (i0 (v3 (K:=K)) (pv 0) (pv 1) (fun _ _=>rfl)))) l7) (g5 (j3 a8))),(g7 (n8 (w6 (b7 a52 b0 (N6 G2))) (l5 (B5 B7 b0)) u3) (l5 a9))⟩
def a6k:SF:=(d7 (N8 2 (eL aN)) (d7 (r9 3 (eB k8 (eV 0) (eC (.int 2147483647)))) (d7 (T5 O8 (aC (eV 1) aN) (g0 4) (d7 (r9 3 (eB k8 (eB A1 (eB A1 (eB K9 (eV 3) (eC (.int 69621))) (eB K9 (eB K9 (eV 4) (eV 4)) (eC (.int 7919)))) (eC (.int 48271))) (eC (.int 2147483647)))) (S4 2 (eV 3)))) (T1 2))))
def D7:List D→Option R1:=fD 5 2 a6k
theorem K4:FnScope ["_law_cell","_law_many","_law_found","_law_number","_law_k"] ["_law_cell","_law_many"] (b8 J3):=⟨rfl,rfl,rfl,by decide +kernel,rfl,by decide +kernel,by decide +kernel⟩
theorem a4V{f:Addr}{fd:FuncData}(F:Fun K "_law_stream" "_law_stream" J3 f fd)(T:Txt K mg c)  : FnOk P w K mg base (w9 P w) 3 f fd ["_law_cell","_law_many"] (k6 K c D7) :=
 F.okD (k:=2) K4 fun cdv A outer s H E hr=>⟨_,(d9 (m7 (i:=2) K4.nd rfl (Or.inl rfl) (C1 b6)) (d9 (m7 (i:=3) K4.nd rfl (Or.inl rfl) (i5 r0 (pv 0) a8)) (d9 (J9 PassesOwn.leaving rfl (W2 rfl T.z_range (a6 (pv 1) b6)) (j8 (i:=4) K4.nd rfl (Or.inl rfl)) (d9 (m7 (i:=3) K4.nd rfl (Or.inl rfl) (i5 r0 (i5 B4 (i5 B4 (i5 U0 (pv 3) a8) (i5 U0 (i5 U0 (pv 4) (pv 4)) a8)) a8) a8)) (g5 (a1b (a0T (K:=K) PySem.F.plainAttrs_list PySem.F.slot_list_append PySem.F.type_list_append R6 (pv 2) (a6 (pv 3) b6)))))) (g5 (j3 (pv 2)))))),(g7 (Z2 (N5 f9)) (g7 (v9 (b7 r6 b0 a9)) (g7 (a1O (a7 b0 f9) (j0 (k:=5) (by decide)) (g7 (v9 (b7 r6 (b7 B6 (b7 B6 (b7 Z0 b0 a9) (b7 Z0 (b7 Z0 b0 b0) a9)) a9) a9)) (a2k b0))) a5f)))⟩
def a4C:SF:=(d7 (m5 (bZ (eB h9 (eV 1) (eC (.int 2)))) (i9 (eT (aC (eB h9 (eV 1) (eC (.int 0))) (aC (eB h9 (eV 1) (eC (.int 1))) (aC (eB A1 (eB h9 (eV 1) (eC (.int 0))) (eB h9 (eV 0) (eC (.int 1)))) (aC (eB A1 (eB h9 (eV 1) (eC (.int 1))) (eB h9 (eV 0) (eC (.int 0)))) aN)))))) m4) (i9 (eT (aC (eB h9 (eV 1) (eC (.int 0))) (aC (eB h9 (eV 1) (eC (.int 1))) (aC (eB A1 (eB h9 (eV 1) (eC (.int 0))) (eB h9 (eV 0) (eC (.int 0)))) (aC (eB A1 (eB h9 (eV 1) (eC (.int 1))) (eB h9 (eV 0) (eC (.int 1)))) aN)))))))
def D8:List D→Option R1:=fD 2 2 a4C
theorem a62:FnScope ["_law_ware","_law_place"] ["_law_ware","_law_place"] (b8 P0):=⟨rfl,rfl,rfl,by decide +kernel,rfl,by decide +kernel,by decide +kernel⟩
theorem a63{f:Addr}{fd:FuncData}(F:Fun K "_law_spot" "_law_spot" P0 f fd)(T:Txt K mg c)  : FnOk P w K mg base (w9 P w) 3 f fd ["_law_ware","_law_place"] (k6 K c D8) :=
 F.okD (k:=2) a62 fun cdv A outer s H E hr=>⟨_,(d9 (u0 (y0 (i0 (g9 (K:=K)) (pv 1) a8 (fun _ _=>rfl))) (g5 (j3 (n0 (a6 (i0 (g9 (K:=K)) (pv 1) a8 (fun _ _=>rfl)) (a6 (i0 (g9 (K:=K)) (pv 1) a8 (fun _ _=>rfl)) (a6 (i5 B4 (i0 (g9 (K:=K)) (pv 1) a8 (fun _ _=>rfl)) (i0 (g9 (K:=K)) (pv 0) a8 (fun _ _=>rfl))) (a6 (i5 B4 (i0 (g9 (K:=K)) (pv 1) a8 (fun _ _=>rfl)) (i0 (g9 (K:=K)) (pv 0) a8 (fun _ _=>rfl))) b6))))))) l7) (g5 (j3 (n0 (a6 (i0 (g9 (K:=K)) (pv 1) a8 (fun _ _=>rfl)) (a6 (i0 (g9 (K:=K)) (pv 1) a8 (fun _ _=>rfl)) (a6 (i5 B4 (i0 (g9 (K:=K)) (pv 1) a8 (fun _ _=>rfl)) (i0 (g9 (K:=K)) (pv 0) a8 (fun _ _=>rfl))) (a6 (i5 B4 (i0 (g9 (K:=K)) (pv 1) a8 (fun _ _=>rfl)) (i0 (g9 (K:=K)) (pv 0) a8 (fun _ _=>rfl))) b6)))))))),(g7 (n8 (A3 (b7 i7 b0 a9)) (l5 (x9 (a7 (b7 i7 b0 a9) (a7 (b7 i7 b0 a9) (a7 (b7 B6 (b7 i7 b0 a9) (b7 i7 b0 a9)) (a7 (b7 B6 (b7 i7 b0 a9) (b7 i7 b0 a9)) f9)))))) u3) (l5 (x9 (a7 (b7 i7 b0 a9) (a7 (b7 i7 b0 a9) (a7 (b7 B6 (b7 i7 b0 a9) (b7 i7 b0 a9)) (a7 (b7 B6 (b7 i7 b0 a9) (b7 i7 b0 a9)) f9)))))))⟩
def a3v:SF:=(d7 (r9 2 (eB W6 (A9 a2r (aC (eB h9 (eV 0) (eC (.int 2))) (aC (eB h9 (eV 1) (eC (.int 2))) aN))) (A9 a2q (aC (eB h9 (eV 0) (eC (.int 0))) (aC (eB h9 (eV 1) (eC (.int 0))) aN))))) (d7 (r9 3 (eB W6 (A9 a2r (aC (eB h9 (eV 0) (eC (.int 3))) (aC (eB h9 (eV 1) (eC (.int 3))) aN))) (A9 a2q (aC (eB h9 (eV 0) (eC (.int 1))) (aC (eB h9 (eV 1) (eC (.int 1))) aN))))) (i9 (O7 (eB G0 (eV 2) (eC (.int 0))) (eB G0 (eV 3) (eC (.int 0)))))))
def G6:List D→Option R1:=fD 4 2 a3v
theorem a0B:FnScope ["_law_one","_law_other","_law_across","_law_up"] ["_law_one","_law_other"] (b8 M4):=⟨rfl,rfl,rfl,by decide +kernel,rfl,by decide +kernel,by decide +kernel⟩
theorem a6l{f:Addr}{fd:FuncData}(F:Fun K "_law_share" "_law_share" M4 f fd)(T:Txt K mg c)  : FnOk P w K mg base (w9 P w) 3 f fd ["_law_one","_law_other"] (k6 K c G6) :=
 F.okD (k:=2) a0B fun cdv A outer s H E hr=>⟨_,(d9 (m7 (i:=2) a0B.nd rfl (Or.inl rfl) (i5 a12 (j5 (a28 rfl) rfl T.z_min a2s (a6 (i0 (g9 (K:=K)) (pv 0) a8 (fun _ _=>rfl)) (a6 (i0 (g9 (K:=K)) (pv 1) a8 (fun _ _=>rfl)) b6))) (j5 (a27 rfl) rfl T.z_max a3_ (a6 (i0 (g9 (K:=K)) (pv 0) a8 (fun _ _=>rfl)) (a6 (i0 (g9 (K:=K)) (pv 1) a8 (fun _ _=>rfl)) b6))))) (d9 (m7 (i:=3) a0B.nd rfl (Or.inl rfl) (i5 a12 (j5 (a28 rfl) rfl T.z_min a2s (a6 (i0 (g9 (K:=K)) (pv 0) a8 (fun _ _=>rfl)) (a6 (i0 (g9 (K:=K)) (pv 1) a8 (fun _ _=>rfl)) b6))) (j5 (a27 rfl) rfl T.z_max a3_ (a6 (i0 (g9 (K:=K)) (pv 0) a8 (fun _ _=>rfl)) (a6 (i0 (g9 (K:=K)) (pv 1) a8 (fun _ _=>rfl)) b6))))) (g5 (j3 (Q9 (x8 S6 (pv 2) a8 (j4 _)) (C6 (x8 S6 (pv 3) a8 (j4 _)))))))),(g7 (v9 (b7 a2f (B9 a5n (a7 (b7 i7 b0 a9) (a7 (b7 i7 b0 a9) f9))) (B9 a5m (a7 (b7 i7 b0 a9) (a7 (b7 i7 b0 a9) f9))))) (g7 (v9 (b7 a2f (B9 a5n (a7 (b7 i7 b0 a9) (a7 (b7 i7 b0 a9) f9))) (B9 a5m (a7 (b7 i7 b0 a9) (a7 (b7 i7 b0 a9) f9))))) (l5 (S0 (b7 S8 b0 a9) (b7 S8 b0 a9)))))⟩
def a5v:SF:=(d7 (m5 (bZ (eB (y9 true) (C3 y3 2) (C3 y3 1))) (i9 (eT (aC (eC (.str "count")) (aC (C3 y3 2) aN)))) m4) (d7 (T5 O8 (aC (C3 y3 1) aN) (g0 3) (d7 (m5 (U8 (bZ (eB h9 (A2 u9 2 (eV 3)) (eC (.int 2)))) (u4 (bZ (eB h9 (A2 u9 1 (eV 3)) (eC (.int 2)))))) (i9 (eT (aC (eC (.str "turn")) (aC (eV 3) aN)))) m4) (d7 (E1 4 D8 (aC (A2 u9 1 (eV 3)) (aC (A2 u9 2 (eV 3)) aN))) (d7 (m5 (B2 (bZ (eB gLt (A9 (g1 Q1) (aC (eV 4) aN)) (eC (.int 0)))) (B2 (bZ (eB G0 (eB h9 (eV 4) (eC (.int 2))) (eB h9 (eV 0) (eC (.int 0))))) (bZ (eB G0 (eB h9 (eV 4) (eC (.int 3))) (eB h9 (eV 0) (eC (.int 1))))))) (i9 (eT (aC (eC (.str "out")) (aC (eV 3) aN)))) m4) (T5 O8 (aC (eV 3) aN) (g0 5) (m5 (bZ (g8 G6 (aC (eV 4) (aC (g8 D8 (aC (A2 u9 1 (eV 5)) (aC (A2 u9 2 (eV 5)) aN))) aN)))) (i9 (eT (aC (eC (.str "over")) (aC (eV 5) (aC (eV 3) aN))))) m4)))))) (i9 (eC .non))))
def M6:List D→Option R1:=fD 6 3 a5v
theorem a0C:FnScope ["_law_box","_law_wares","_law_places","_law_k","_law_spot_here","_law_i"] ["_law_box","_law_wares","_law_places"] (b8 U3):=⟨rfl,rfl,rfl,by decide +kernel,rfl,by decide +kernel,by decide +kernel⟩
theorem a8m{f:Addr}{fd:FuncData}(F:Fun K "_law_due" "_law_due" U3 f fd)(T:Txt K mg c)(G_l_spot:Own P w K mg base 3 "_law_spot" ["_law_ware","_law_place"] (k6 K c D8))(G_l_share:Own P w K mg base 3 "_law_share" ["_law_one","_law_other"] (k6 K c G6)):FnOk P w K mg base (w9 P w) 5 f fd ["_law_box","_law_wares","_law_places"] (k6 K c M6) :=
 F.okD (k:=4) a0C fun cdv A outer s H E hr=>⟨_,(d9 (u0 (n6 a3E (j5 (t8 (K:=K)) rfl T.z_len C8 (a6 (pv 2) b6)) (j5 (t8 (K:=K)) rfl T.z_len C8 (a6 (pv 1) b6)) (j4 _)) (g5 (j3 (n0 (a6 D9 (a6 (j5 (t8 (K:=K)) rfl T.z_len C8 (a6 (pv 2) b6)) b6))))) l7) (d9 (J9 PassesOwn.leaving rfl (W2 rfl T.z_range (a6 (j5 (t8 (K:=K)) rfl T.z_len C8 (a6 (pv 1) b6)) b6)) (j8 (i:=3) a0C.nd rfl (Or.inl rfl)) (d9 (u0 (PW.pt (a11 (y0 (i0 (g9 (K:=K)) (i0 (v3 (K:=K)) (pv 2) (pv 3) (fun _ _=>rfl)) a8 (fun _ _=>rfl))) (a1a (B3 (y0 (i0 (g9 (K:=K)) (i0 (v3 (K:=K)) (pv 1) (pv 3) (fun _ _=>rfl)) a8 (fun _ _=>rfl))))))) (g5 (j3 (n0 (a6 D9 (a6 (pv 3) b6))))) l7) (d9 (m7 (i:=4) a0C.nd rfl (Or.inl rfl) (m8 G_l_spot hr (by decide) t5 (a6 (i0 (v3 (K:=K)) (pv 1) (pv 3) (fun _ _=>rfl)) (a6 (i0 (v3 (K:=K)) (pv 2) (pv 3) (fun _ _=>rfl)) b6)))) (d9 (u0 (PW.pt (M9 (n6 a5G (j5 (a19 (K:=K)) rfl T.z_min a2s (a6 (pv 4) b6)) a8 (j4 _)) (M9 (n6 S6 (i0 (g9 (K:=K)) (pv 4) a8 (fun _ _=>rfl)) (i0 (g9 (K:=K)) (pv 0) a8 (fun _ _=>rfl)) (j4 _)) (Q8 (n6 S6 (i0 (g9 (K:=K)) (pv 4) a8 (fun _ _=>rfl)) (i0 (g9 (K:=K)) (pv 0) a8 (fun _ _=>rfl)) (j4 _)))))) (g5 (j3 (n0 (a6 D9 (a6 (pv 3) b6))))) l7) (g5 (J9 PassesOwn.leaving rfl (W2 rfl T.z_range (a6 (pv 3) b6)) (j8 (i:=5) a0C.nd rfl (Or.inl rfl)) (g5 (u0 (y0 (m8 G_l_share hr (by decide) t5 (a6 (pv 4) (a6 (m8 G_l_spot hr (by decide) t5 (a6 (i0 (v3 (K:=K)) (pv 1) (pv 5) (fun _ _=>rfl)) (a6 (i0 (v3 (K:=K)) (pv 2) (pv 5) (fun _ _=>rfl)) b6))) b6)))) (g5 (j3 (n0 (a18 (a6 (pv 5) (a6 (pv 3) b6)))))) l7)))))))) (g5 (j3 a10)))),(g7 (n8 (w6 (b7 a3I (N6 G2) (N6 G2))) (l5 (x9 (a7 a9 (a7 (N6 G2) f9)))) u3) (g7 (a1O (a7 (N6 G2) f9) (j0 (k:=6) (by decide)) (g7 (n8 (a1h (A3 (b7 i7 (B5 B7 b0) a9)) (z7 (A3 (b7 i7 (B5 B7 b0) a9)))) (l5 (x9 (a7 a9 (a7 b0 f9)))) u3) (g7 (a1M (a7 (B5 B7 b0) (a7 (B5 B7 b0) f9))) (g7 (n8 (F9 (w6 (b7 a52 (B9 a5s.cb (a7 b0 f9)) a9)) (F9 (w6 (b7 S8 (b7 i7 b0 a9) (b7 i7 b0 a9))) (w6 (b7 S8 (b7 i7 b0 a9) (b7 i7 b0 a9))))) (l5 (x9 (a7 a9 (a7 b0 f9)))) u3) (a1O (a7 b0 f9) (j0 (k:=6) (by decide)) (n8 (A3 (n5 (a7 b0 (a7 (n5 (a7 (B5 B7 b0) (a7 (B5 B7 b0) f9))) f9)))) (l5 (x9 (a7 a9 (a7 b0 (a7 b0 f9))))) u3)))))) (l5 a9)))⟩
def a8n:SF:=(d7 (r9 1 (eB E8 (eV 0) (eC (.int 5)))) (d7 (m5 (bZ (eB (y9 false) (eB k8 (eV 0) (eC (.int 5))) (eC (.int 1)))) (i9 (eC (.int 60))) m4) (d7 (m5 (bZ (eB (y9 false) (eB k8 (eV 0) (eC (.int 5))) (eC (.int 2)))) (i9 (eB u9 (zN (eL (aC (eC (.int 61)) (aC (eC (.int 0)) aN)))) (eB k8 (eV 1) (eC (.int 2))))) m4) (d7 (m5 (U8 (bZ (eB (y9 false) (eB k8 (eV 0) (eC (.int 5))) (eC (.int 3)))) (bZ (eB (y9 false) (eB k8 (eV 1) (eC (.int 3))) (eC (.int 1))))) (i9 (eB k8 (eB K9 (eV 1) (eB a0p (eC (.int 7919)) (eC (.int 11)))) (eB A1 (eB a0p (eC (.int 10)) (eC (.int 42))) (eC (.int 1))))) m4) (d7 (m5 (bZ (eB (y9 false) (eB k8 (eV 0) (eC (.int 5))) (eC (.int 3)))) (i9 (eB A1 (eC (.int 21)) (eB k8 (eV 1) (eC (.int 40))))) m4) (i9 (eB A1 (eC (.int 1)) (eB k8 (eV 1) (eC (.int 12))))))))))
def G7:List D→Option R1:=fD 2 1 a8n
theorem a3w:FnScope ["_law_cell","_law_rest"] ["_law_cell"] (b8 P3):=⟨rfl,rfl,rfl,by decide +kernel,rfl,by decide +kernel,by decide +kernel⟩
theorem a64{f:Addr}{fd:FuncData}(F:Fun K "_law_side" "_law_side" P3 f fd)(T:Txt K mg c)  : FnOk P w K mg base (w9 P w) 3 f fd ["_law_cell"] (k6 K c G7) :=
 F.okD (k:=2) a3w fun cdv A outer s H E hr=>⟨_,(d9 (m7 (i:=1) a3w.nd rfl (Or.inl rfl) (i5 F7 (pv 0) a8)) (d9 (u0 (n6 N1 (i5 r0 (pv 0) a8) a8 (j4 _)) (g5 (j3 a8)) l7) (d9 (u0 (n6 N1 (i5 r0 (pv 0) a8) a8 (j4 _)) (g5 (j3 (i0 (v3 (K:=K)) (C1 (a6 a8 (a6 a8 b6))) (i5 r0 (pv 1) a8) (fun _ _=>rfl)))) l7) (d9 (u0 (PW.pt (a11 (n6 N1 (i5 r0 (pv 0) a8) a8 (j4 _)) (a1a (n6 N1 (i5 r0 (pv 1) a8) a8 (j4 _))))) (g5 (j3 (i5 r0 (i5 U0 (pv 1) (i5 a3V a8 a8)) (i5 B4 (i5 a3V a8 a8) a8)))) l7) (d9 (u0 (n6 N1 (i5 r0 (pv 0) a8) a8 (j4 _)) (g5 (j3 (i5 B4 a8 (i5 r0 (pv 1) a8)))) l7) (g5 (j3 (i5 B4 a8 (i5 r0 (pv 1) a8))))))))),(g7 (v9 (b7 S1 b0 a9)) (g7 (n8 (w6 (b7 N7 (b7 r6 b0 a9) a9)) (l5 a9) u3) (g7 (n8 (w6 (b7 N7 (b7 r6 b0 a9) a9)) (l5 (b7 B7 (J1 (N5 (a7 a9 (a7 a9 f9)))) (b7 r6 b0 a9))) u3) (g7 (n8 (a1h (w6 (b7 N7 (b7 r6 b0 a9) a9)) (w6 (b7 N7 (b7 r6 b0 a9) a9))) (l5 (b7 r6 (b7 Z0 b0 (b7 a4g a9 a9)) (b7 B6 (b7 a4g a9 a9) a9))) u3) (g7 (n8 (w6 (b7 N7 (b7 r6 b0 a9) a9)) (l5 (b7 B6 a9 (b7 r6 b0 a9))) u3) (l5 (b7 B6 a9 (b7 r6 b0 a9))))))))⟩
def a8o:SF:=(d7 (r9 1 (eB k8 (g8 k7 (aC (eV 0) (aC (eC (.int 2)) aN))) (eC (.int 71)))) (d7 (m5 (bZ (eB (y9 false) (eB k8 (eB E8 (g8 k7 (aC (eV 0) (aC (eC (.int 2)) aN))) (eC (.int 71))) (eC (.int 2))) (eC (.int 1)))) (r9 1 (eB k8 (eV 1) (eC (.int 8)))) m4) (d7 (N8 2 (eL aN)) (d7 (N8 3 (eL aN)) (d7 (a2l (g8 D7 (aC (g8 k7 (aC (eV 0) (aC (eC (.int 3)) aN))) (aC (eV 1) aN)))  (w4 [(g0 4),(g0 5)]) (d7 (r9 6 (eB (y9 false) (eB k8 (eV 5) (eC (.int 3))) (eC (.int 1)))) (d7 (S4 2 (eT (aC (eB A1 (eC (.int 1)) (eB k8 (eB E8 (eV 5) (eC (.int 3))) (eC (.int 3)))) (aC (eB A1 (eC (.int 1)) (eB k8 (eB E8 (eV 5) (eC (.int 9))) (eC (.int 3)))) (aC (eOr (eV 6) (eB (y9 false) (eB k8 (eB E8 (eV 5) (eC (.int 27))) (eC (.int 2))) (eC (.int 1)))) aN))))) (S4 3 (eT (aC (eB K9 (eB k8 (eV 4) (eC (.int 7))) (eC (.int 3))) (aC (eB K9 (eB E8 (eV 4) (eC (.int 7))) (eC (.int 3))) (aC (eV 6) aN)))))))) (d7 (r9 7 (eB k8 (g8 k7 (aC (eV 0) (aC (eC (.int 5)) aN))) (eB a0p (eC (.int 10)) (eC (.int 9))))) (d7 (m5 (U8 (bZ (eB G0 (eV 1) (eC (.int 0)))) (bZ (eB G0 (eB k8 (eV 7) (eC (.int 4))) (eC (.int 0))))) (d7 (r9 8 (eB k8 (g8 k7 (aC (eV 0) (aC (eC (.int 4)) aN))) (eV 1))) (d7 (X9 (A2 u9 3 (eV 8)) (w4 [(g0 9),(g0 10),(g0 6)])) (d7 (m5 (bZ (eB (y9 false) (eB k8 (eV 7) (eC (.int 4))) (eC (.int 1)))) (r9 9 (eB W6 (eB A1 (eV 9) (eB k8 (eB E8 (eV 7) (eC (.int 4))) (eC (.int 7)))) (eC (.int 3)))) m4) (d7 (m5 (bZ (eB (y9 false) (eB k8 (eV 7) (eC (.int 4))) (eC (.int 2)))) (r9 10 (eB W6 (eB A1 (eV 10) (eB k8 (eB E8 (eV 7) (eC (.int 4))) (eC (.int 7)))) (eC (.int 3)))) m4) (a55 3 (eV 8) (eT (aC (eV 9) (aC (eV 10) (aC (eOr (eV 6) (eB (y9 false) (eB k8 (eV 7) (eC (.int 4))) (eC (.int 3)))) aN))))))))) m4) (i9 (eT (aC (eV 2) (aC (eV 3) aN)))))))))))
def L6:List D→Option R1:=fD 11 1 a8o
theorem u7:FnScope ["_law_script","_law_many","_law_wares","_law_places","_law_k","_law_number","_law_lie","_law_mix","_law_at","_law_x","_law_y"] ["_law_script"] (b8 P4):=⟨rfl,rfl,rfl,by decide +kernel,rfl,by decide +kernel,by decide +kernel⟩
theorem a65{f:Addr}{fd:FuncData}(F:Fun K "_law_case" "_law_case" P4 f fd)(T:Txt K mg c)(G_l_cell_at:Own P w K mg base 3 "_law_cell_at" ["_law_script","_law_k"] (k6 K c k7))(G_l_stream:Own P w K mg base 3 "_law_stream" ["_law_cell","_law_many"] (k6 K c D7)):FnOk P w K mg base (w9 P w) 5 f fd ["_law_script"] (k6 K c L6) :=
 F.okD (k:=4) u7 fun cdv A outer s H E hr=>⟨_,(d9 (m7 (i:=1) u7.nd rfl (Or.inl rfl) (i5 r0 (m8 G_l_cell_at hr (by decide) t5 (a6 (pv 0) (a6 a8 b6))) a8)) (d9 (u0 (n6 N1 (i5 r0 (i5 F7 (m8 G_l_cell_at hr (by decide) t5 (a6 (pv 0) (a6 a8 b6))) a8) a8) a8 (j4 _)) (g5 (m7 (i:=1) u7.nd rfl (Or.inl rfl) (i5 r0 (pv 1) a8))) l7) (d9 (m7 (i:=2) u7.nd rfl (Or.inl rfl) (C1 b6)) (d9 (m7 (i:=3) u7.nd rfl (Or.inl rfl) (C1 b6)) (d9 (J9 PassesOwn.leaving rfl (a1f rfl T.z_enumerate (a6 (m8 G_l_stream hr (by decide) t5 (a6 (m8 G_l_cell_at hr (by decide) t5 (a6 (pv 0) (a6 a8 b6))) (a6 (pv 1) b6))) b6)) (C9 (K:=K) (n:=2) rfl (k9 (j8 (i:=4) u7.nd rfl (Or.inl rfl)) (k9 (j8 (i:=5) u7.nd rfl (Or.inl rfl)) C7))) (d9 (m7 (i:=6) u7.nd rfl (Or.inl rfl) (x8 N1 (i5 r0 (pv 5) a8) a8 (j4 _))) (d9 (a1b (a0T (K:=K) PySem.F.plainAttrs_list PySem.F.slot_list_append PySem.F.type_list_append R6 (pv 2) (a6 (n0 (a6 (i5 B4 a8 (i5 r0 (i5 F7 (pv 5) a8) a8)) (a6 (i5 B4 a8 (i5 r0 (i5 F7 (pv 5) a8) a8)) (a6 (a0a (pv 6) (C6 (x8 N1 (i5 r0 (i5 F7 (pv 5) a8) a8) a8 (j4 _)))) b6)))) b6))) (g5 (a1b (a0T (K:=K) PySem.F.plainAttrs_list PySem.F.slot_list_append PySem.F.type_list_append R6 (pv 3) (a6 (n0 (a6 (i5 U0 (i5 r0 (pv 4) a8) a8) (a6 (i5 U0 (i5 F7 (pv 4) a8) a8) (a6 (pv 6) b6)))) b6))))))) (d9 (m7 (i:=7) u7.nd rfl (Or.inl rfl) (i5 r0 (m8 G_l_cell_at hr (by decide) t5 (a6 (pv 0) (a6 a8 b6))) (i5 a3V a8 a8))) (d9 (u0 (PW.pt (a11 (n6 S6 (pv 1) a8 (j4 _)) (a1a (n6 S6 (i5 r0 (pv 7) a8) a8 (j4 _))))) (d9 (m7 (i:=8) u7.nd rfl (Or.inl rfl) (i5 r0 (m8 G_l_cell_at hr (by decide) t5 (a6 (pv 0) (a6 a8 b6))) (pv 1))) (d9 (R5 (i0 (v3 (K:=K)) (pv 3) (pv 8) (fun _ _=>rfl)) (C9 (K:=K) (n:=3) rfl (k9 (j8 (i:=9) u7.nd rfl (Or.inl rfl)) (k9 (j8 (i:=10) u7.nd rfl (Or.inl rfl)) (k9 (j8 (i:=6) u7.nd rfl (Or.inl rfl)) C7))))) (d9 (u0 (n6 N1 (i5 r0 (pv 7) a8) a8 (j4 _)) (g5 (m7 (i:=9) u7.nd rfl (Or.inl rfl) (i5 a12 (i5 B4 (pv 9) (i5 r0 (i5 F7 (pv 7) a8) a8)) a8))) l7) (d9 (u0 (n6 N1 (i5 r0 (pv 7) a8) a8 (j4 _)) (g5 (m7 (i:=10) u7.nd rfl (Or.inl rfl) (i5 a12 (i5 B4 (pv 10) (i5 r0 (i5 F7 (pv 7) a8) a8)) a8))) l7) (g5 (R5 (n0 (a6 (pv 9) (a6 (pv 10) (a6 (a0a (pv 6) (C6 (x8 N1 (i5 r0 (pv 7) a8) a8 (j4 _)))) b6)))) (a6u (pv 3) (pv 8) a3W))))))) l7) (g5 (j3 (n0 (a6 (pv 2) (a6 (pv 3) b6)))))))))))),(g7 (v9 (b7 r6 (n5 (a7 b0 (a7 a9 f9))) a9)) (g7 (n8 (w6 (b7 N7 (b7 r6 (b7 S1 (n5 (a7 b0 (a7 a9 f9))) a9) a9) a9)) (v9 (b7 r6 b0 a9)) u3) (g7 (Z2 (N5 f9)) (g7 (Z2 (N5 f9)) (g7 (a9E (n5 (a7 (n5 (a7 b0 (a7 a9 f9))) (a7 b0 f9))) (D1 (l3 (j0 (k:=11) (by decide)) (l3 (j0 (k:=11) (by decide)) D0)) rfl) (g7 (v9 (b7 N7 (b7 r6 b0 a9) a9)) (g7 (a2k (x9 (a7 (b7 B6 a9 (b7 r6 (b7 S1 b0 a9) a9)) (a7 (b7 B6 a9 (b7 r6 (b7 S1 b0 a9) a9)) (a7 (a0o b0 (b7 N7 (b7 r6 (b7 S1 b0 a9) a9) a9)) f9))))) (a2k (x9 (a7 (b7 Z0 (b7 r6 b0 a9) a9) (a7 (b7 Z0 (b7 S1 b0 a9) a9) (a7 b0 f9)))))))) (g7 (v9 (b7 r6 (n5 (a7 b0 (a7 a9 f9))) (b7 a4g a9 a9))) (g7 (n8 (a1h (w6 (b7 S8 b0 a9)) (w6 (b7 S8 (b7 r6 b0 a9) a9))) (g7 (v9 (b7 r6 (n5 (a7 b0 (a7 a9 f9))) b0)) (g7 (Z3 (B5 B7 b0) (D1 (l3 (j0 (k:=11) (by decide)) (l3 (j0 (k:=11) (by decide)) (l3 (j0 (k:=11) (by decide)) D0))) rfl)) (g7 (n8 (w6 (b7 N7 (b7 r6 b0 a9) a9)) (v9 (b7 a2f (b7 B6 b0 (b7 r6 (b7 S1 b0 a9) a9)) a9)) u3) (g7 (n8 (w6 (b7 N7 (b7 r6 b0 a9) a9)) (v9 (b7 a2f (b7 B6 b0 (b7 r6 (b7 S1 b0 a9) a9)) a9)) u3) (b1I (x9 (a7 b0 (a7 b0 (a7 (a0o b0 (b7 N7 (b7 r6 b0 a9) a9)) f9)))) b0))))) u3) (l5 (x9 (a7 b0 (a7 b0 f9)))))))))))⟩
def a2y:SF:=(d7 (r9 1 (A9 (a1j xT) (aC (eV 0) (aC (eT (aC (eC (.cls "BadSide")) (aC (eC (.cls "BadTurn")) (aC (eC (.cls "NoText")) (aC (eC (.cls "TooMany")) (aC (eC (.cls "Ring")) (aC (eC (.cls "NoWeighing")) (aC (eC (.cls "NoPicker")) (aC (eC (.cls "NoDrawing")) aN))))))))) aN)))) (d7 (r9 2 (A9 (a1j xT) (aC (eV 0) (aC (eT (aC (eC (.cls "NoDeed")) (aC (eC (.cls "NoWare")) (aC (eC (.cls "Full")) (aC (eC (.cls "NothingDone")) (aC (eC (.cls "TooWide")) (aC (eC (.cls "Hangs")) (aC (eC (.cls "BadPlan")) (aC (eC (.cls "BadPacking")) aN))))))))) aN)))) (a0s (eL (aC (O7 (A9 (a1k x1 x2) (aC (eV 0) (aC (eC (.cls "CrateError")) aN))) (A9 (a1k x1 x2) (aC (eV 0) (aC (eC (.ty "ValueError")) aN)))) (aC (eOr (eV 1) (eV 2)) aN))))))
def y4:List D→Option R1:=fD 3 1 a2y
theorem L7:FnScope ["_law_e","_law_one","_law_two"] ["_law_e"] (b8 A5):=⟨rfl,rfl,rfl,by decide +kernel,rfl,by decide +kernel,by decide +kernel⟩
theorem a1Y{f:Addr}{fd:FuncData}(F:Fun K "_law_sheet_kinds" "_law_sheet_kinds" A5 f fd)(T:Txt K mg c)  : FnOkW P w K mg base 3 f fd ["_law_e"] (k6 K c y4) :=
 F.okWD (k:=2) L7 fun cdv A outer s H hr=>⟨_,(d9 (m7 (i:=1) L7.nd rfl (Or.inl rfl) (j5 (S7 (K:=K)) rfl T.z_isinstance t7 (a6 (pv 0) (a6 (n0 (a6 (j7 (v:=.ref (c "BadSide")) rfl T.m_BadSide rfl) (a6 (j7 (v:=.ref (c "BadTurn")) rfl T.m_BadTurn rfl) (a6 (j7 (v:=.ref (c "NoText")) rfl T.m_NoText rfl) (a6 (j7 (v:=.ref (c "TooMany")) rfl T.m_TooMany rfl) (a6 (j7 (v:=.ref (c "Ring")) rfl T.m_Ring rfl) (a6 (j7 (v:=.ref (c "NoWeighing")) rfl T.m_NoWeighing rfl) (a6 (j7 (v:=.ref (c "NoPicker")) rfl T.m_NoPicker rfl) (a6 (j7 (v:=.ref (c "NoDrawing")) rfl T.m_NoDrawing rfl) b6))))))))) b6)))) (d9 (m7 (i:=2) L7.nd rfl (Or.inl rfl) (j5 (S7 (K:=K)) rfl T.z_isinstance t7 (a6 (pv 0) (a6 (n0 (a6 (j7 (v:=.ref (c "NoDeed")) rfl T.m_NoDeed rfl) (a6 (j7 (v:=.ref (c "NoWare")) rfl T.m_NoWare rfl) (a6 (j7 (v:=.ref (c "Full")) rfl T.m_Full rfl) (a6 (j7 (v:=.ref (c "NothingDone")) rfl T.m_NothingDone rfl) (a6 (j7 (v:=.ref (c "TooWide")) rfl T.m_TooWide rfl) (a6 (j7 (v:=.ref (c "Hangs")) rfl T.m_Hangs rfl) (a6 (j7 (v:=.ref (c "BadPlan")) rfl T.m_BadPlan rfl) (a6 (j7 (v:=.ref (c "BadPacking")) rfl T.m_BadPacking rfl) b6))))))))) b6)))) (g5 (j3 (C1 (a6 (Q9 (j5 (F8 (K:=K)) rfl T.z_isinstance t7 (a6 (pv 0) (a6 (j7 (v:=.ref (c "CrateError")) rfl T.m_CrateError rfl) b6))) (C6 (j5 (F8 (K:=K)) rfl T.z_isinstance t7 (a6 (pv 0) (a6 (Y6 (v:=.ty "ValueError") rfl T.z_ValueError a0G rfl) b6))))) (a6 (a0a (pv 1) (C6 (pv 2))) b6))))))),(g7 (v9 (B9 (a1l (a3O T)) (a7 b0 (a7 (x9 (a7 a9 (a7 a9 (a7 a9 (a7 a9 (a7 a9 (a7 a9 (a7 a9 (a7 a9 f9))))))))) f9)))) (g7 (v9 (B9 (a1l (a3O T)) (a7 b0 (a7 (x9 (a7 a9 (a7 a9 (a7 a9 (a7 a9 (a7 a9 (a7 a9 (a7 a9 (a7 a9 f9))))))))) f9)))) (a1i (N5 (a7 (S0 (B9 (a1m (a3P T) (a3Q T)) (a7 b0 (a7 a9 f9))) (B9 (a1m (a3P T) (a3Q T)) (a7 b0 (a7 a9 f9)))) (a7 (a0o b0 b0) f9))))))⟩
def a1v:SF:=(d7 (r9 1 (A9 (a1j xT) (aC (eV 0) (aC (eT (aC (eC (.cls "BadSide")) (aC (eC (.cls "BadTurn")) (aC (eC (.cls "NoText")) (aC (eC (.cls "TooMany")) (aC (eC (.cls "Ring")) (aC (eC (.cls "NoWeighing")) (aC (eC (.cls "NoPicker")) (aC (eC (.cls "NoSheet")) aN))))))))) aN)))) (d7 (r9 2 (A9 (a1j xT) (aC (eV 0) (aC (eT (aC (eC (.cls "NoDrawing")) (aC (eC (.cls "NoDeed")) (aC (eC (.cls "NoWare")) (aC (eC (.cls "Full")) (aC (eC (.cls "NothingDone")) (aC (eC (.cls "TooWide")) (aC (eC (.cls "Hangs")) (aC (eC (.cls "BadPlan")) aN))))))))) aN)))) (a0s (eL (aC (O7 (A9 (a1k x1 x2) (aC (eV 0) (aC (eC (.cls "CrateError")) aN))) (A9 (a1k x1 x2) (aC (eV 0) (aC (eC (.ty "ValueError")) aN)))) (aC (eOr (eV 1) (eV 2)) aN))))))
def v5:List D→Option R1:=fD 3 1 a1v
theorem G8:FnScope ["_law_e","_law_one","_law_two"] ["_law_e"] (b8 y8):=⟨rfl,rfl,rfl,by decide +kernel,rfl,by decide +kernel,by decide +kernel⟩
theorem a08{f:Addr}{fd:FuncData}(F:Fun K "_law_packing_kinds" "_law_packing_kinds" y8 f fd)(T:Txt K mg c)  : FnOkW P w K mg base 3 f fd ["_law_e"] (k6 K c v5) :=
 F.okWD (k:=2) G8 fun cdv A outer s H hr=>⟨_,(d9 (m7 (i:=1) G8.nd rfl (Or.inl rfl) (j5 (S7 (K:=K)) rfl T.z_isinstance t7 (a6 (pv 0) (a6 (n0 (a6 (j7 (v:=.ref (c "BadSide")) rfl T.m_BadSide rfl) (a6 (j7 (v:=.ref (c "BadTurn")) rfl T.m_BadTurn rfl) (a6 (j7 (v:=.ref (c "NoText")) rfl T.m_NoText rfl) (a6 (j7 (v:=.ref (c "TooMany")) rfl T.m_TooMany rfl) (a6 (j7 (v:=.ref (c "Ring")) rfl T.m_Ring rfl) (a6 (j7 (v:=.ref (c "NoWeighing")) rfl T.m_NoWeighing rfl) (a6 (j7 (v:=.ref (c "NoPicker")) rfl T.m_NoPicker rfl) (a6 (j7 (v:=.ref (c "NoSheet")) rfl T.m_NoSheet rfl) b6))))))))) b6)))) (d9 (m7 (i:=2) G8.nd rfl (Or.inl rfl) (j5 (S7 (K:=K)) rfl T.z_isinstance t7 (a6 (pv 0) (a6 (n0 (a6 (j7 (v:=.ref (c "NoDrawing")) rfl T.m_NoDrawing rfl) (a6 (j7 (v:=.ref (c "NoDeed")) rfl T.m_NoDeed rfl) (a6 (j7 (v:=.ref (c "NoWare")) rfl T.m_NoWare rfl) (a6 (j7 (v:=.ref (c "Full")) rfl T.m_Full rfl) (a6 (j7 (v:=.ref (c "NothingDone")) rfl T.m_NothingDone rfl) (a6 (j7 (v:=.ref (c "TooWide")) rfl T.m_TooWide rfl) (a6 (j7 (v:=.ref (c "Hangs")) rfl T.m_Hangs rfl) (a6 (j7 (v:=.ref (c "BadPlan")) rfl T.m_BadPlan rfl) b6))))))))) b6)))) (g5 (j3 (C1 (a6 (Q9 (j5 (F8 (K:=K)) rfl T.z_isinstance t7 (a6 (pv 0) (a6 (j7 (v:=.ref (c "CrateError")) rfl T.m_CrateError rfl) b6))) (C6 (j5 (F8 (K:=K)) rfl T.z_isinstance t7 (a6 (pv 0) (a6 (Y6 (v:=.ty "ValueError") rfl T.z_ValueError a0G rfl) b6))))) (a6 (a0a (pv 1) (C6 (pv 2))) b6))))))),(g7 (v9 (B9 (a1l (a3O T)) (a7 b0 (a7 (x9 (a7 a9 (a7 a9 (a7 a9 (a7 a9 (a7 a9 (a7 a9 (a7 a9 (a7 a9 f9))))))))) f9)))) (g7 (v9 (B9 (a1l (a3O T)) (a7 b0 (a7 (x9 (a7 a9 (a7 a9 (a7 a9 (a7 a9 (a7 a9 (a7 a9 (a7 a9 (a7 a9 f9))))))))) f9)))) (a1i (N5 (a7 (S0 (B9 (a1m (a3P T) (a3Q T)) (a7 b0 (a7 a9 f9))) (B9 (a1m (a3P T) (a3Q T)) (a7 b0 (a7 a9 f9)))) (a7 (a0o b0 b0) f9))))))⟩
def a66:SF:=(d7 (Q2 5 (K6 3 E5 (aC (eV 0) (aC (eV 1) (aC (eV 2) aN)))) (hAs 4 D6 (r9 3 (eT (aC (eC (.str "sheet")) (aC (g8 y4 (aC (eV 4) aN)) aN)))) (hAs 4 t9 (r9 3 (eT (aC (eC (.str "packing")) (aC (g8 v5 (aC (eV 4) aN)) (aC (eU (a06 W1 "why") (eV 4)) aN))))) hN))) (T1 3))
def G9:List D→Option R1:=fD 5 3 a66
theorem J5:FnScope ["_law_box","_law_wares","_law_places","_law_found","_law_e"] ["_law_box","_law_wares","_law_places"] (b8 M5):=⟨rfl,rfl,rfl,by decide +kernel,rfl,by decide +kernel,by decide +kernel⟩
theorem a6m{f:Addr}{fd:FuncData}(F:Fun K "_law_drawn" "_law_drawn" M5 f fd)(T:Txt K mg c)(G_l_packing_kinds:OwnW P w K mg base 3 "_law_packing_kinds" ["_law_e"] (k6 K c v5))(G_l_sheet_kinds:OwnW P w K mg base 3 "_law_sheet_kinds" ["_law_e"] (k6 K c y4))(G_drawn:Own P w K mg base 9 "drawn" ["box","wares","places"] (k6 K c E5)):FnOk P w K mg base (w9 P w) 11 f fd ["_law_box","_law_wares","_law_places"] (k6 K c G9) :=
 F.okD (k:=10) J5 fun cdv A outer s H E hr=>⟨_,(d9 (a9x (fun Eh E2 pins acc po=>(g5 (m7 (i:=3) J5.nd rfl (Or.inl rfl) (m8 G_drawn hr (by decide) (XAcc.passes acc) (a6 (pv 0) (a6 (pv 1) (a6 (pv 2) b6))))))) (a81 rfl T.m_NoSheet J5.nd (i:=4) rfl (fun a=>(g5 (m7 (i:=3) J5.nd rfl (Or.inl rfl) (n0 (a6 D9 (a6 (a47 G_l_sheet_kinds (hr.w _) (a6 (pv 4) b6)) b6)))))) (a81 rfl T.m_BadPacking J5.nd (i:=4) rfl (fun a=>(g5 (m7 (i:=3) J5.nd rfl (Or.inl rfl) (n0 (a18 (a6 (a47 G_l_packing_kinds (hr.w _) (a6 (pv 4) b6)) (a6 (b1y (pv 4) rfl) b6))))))) b1t))) (g5 (j3 (pv 3)))),(g7 (b0x (fun Eh=>(a2P (a7 b0 (a7 b0 (a7 b0 f9))))) (a6V (a3B T) (fun a=>(v9 (x9 (a7 a9 (a7 (a4m (a7 b0 f9)) f9))))) (a6V (a1U T) (fun a=>(v9 (x9 (a7 a9 (a7 (a4m (a7 b0 f9)) (a7 (b1X (a61 T) b0) f9)))))) b2o))) a5f)⟩
def a8p:SF:=(d7 (E1 3 G9 (aC (eV 0) (aC (eV 1) (aC (eV 2) aN)))) (d7 (m5 (B2 (bZ (eB gLt (A9 (g1 Q1) (aC (eV 0) aN)) (eC (.int 1)))) (B2 (bZ (eB G0 (A9 (g1 a0A) (aC (eV 0) aN)) (eC (.int 60)))) (bZ (eB G0 (C3 y3 1) (eC (.int 62)))))) (i9 (eB (L3 false) (eV 3) (eT (aC (eC (.str "sheet")) (aC (zN (eL (aC (eC (.bl true)) (aC (eC (.bl false)) aN)))) aN))))) m4) (d7 (E1 4 M6 (aC (eV 0) (aC (eV 1) (aC (eV 2) aN)))) (d7 (m5 (bZ (eB (G1 true) (eV 4) (eC .non))) (i9 (O7 (eB (L3 false) (eV 3) (eT (aC (eC (.str "packing")) (aC (zN (eL (aC (eC (.bl true)) (aC (eC (.bl false)) aN)))) (aC (eV 4) aN))))) (A9 a00 (aC (eB h9 (eV 3) (eC (.int 2))) (aC (eC (.ty "tuple")) aN))))) m4) (d7 (m5 (B2 (u4 (bZ (T7 3 "list"))) (bZ (eB (y9 true) (C3 y3 3) (eB h9 (eV 0) (eC (.int 1)))))) (i9 (eC (.bl false))) m4) (d7 (a0u 3 (g0 5) (m5 (B2 (u4 (bZ (T7 5 "str"))) (bZ (eB (y9 true) (A9 (g1 D3) (aC (eV 5) aN)) (eB h9 (eV 0) (eC (.int 0)))))) (i9 (eC (.bl false))) m4)) (i9 (eC (.bl true)))))))))
def A8:List D→Option R1:=fD 6 3 a8p
theorem X5:FnScope ["_law_box","_law_wares","_law_places","_law_found","_law_due_here","_law_row"] ["_law_box","_law_wares","_law_places"] (b8 P5):=⟨rfl,rfl,rfl,by decide +kernel,rfl,by decide +kernel,by decide +kernel⟩
theorem a67{f:Addr}{fd:FuncData}(F:Fun K "_law_good" "_law_good" P5 f fd)(T:Txt K mg c)(G_l_drawn:Own P w K mg base 11 "_law_drawn" ["_law_box","_law_wares","_law_places"] (k6 K c G9))(G_l_due:Own P w K mg base 5 "_law_due" ["_law_box","_law_wares","_law_places"] (k6 K c M6)):FnOk P w K mg base (w9 P w) 13 f fd ["_law_box","_law_wares","_law_places"] (k6 K c A8) :=
 F.okD (k:=12) X5 fun cdv A outer s H E hr=>⟨_,(d9 (m7 (i:=3) X5.nd rfl (Or.inl rfl) (m8 G_l_drawn hr (by decide) t5 (a6 (pv 0) (a6 (pv 1) (a6 (pv 2) b6))))) (d9 (u0 (PW.pt (M9 (n6 a5G (j5 (a19 (K:=K)) rfl T.z_min a2s (a6 (pv 0) b6)) a8 (j4 _)) (M9 (n6 S6 (j5 (a6h (K:=K)) rfl T.z_max a3_ (a6 (pv 0) b6)) a8 (j4 _)) (Q8 (n6 S6 (j5 (t8 (K:=K)) rfl T.z_len C8 (a6 (pv 1) b6)) a8 (j4 _)))))) (g5 (j3 (x8 (a5p (K:=K) (cl:=c) (a7X hr)) (pv 3) (n0 (a6 D9 (a6 (C1 (a6 P8 (a6 P8 b6))) b6))) (j4 _)))) l7) (d9 (m7 (i:=4) X5.nd rfl (Or.inl rfl) (m8 G_l_due hr (by decide) t5 (a6 (pv 0) (a6 (pv 1) (a6 (pv 2) b6))))) (d9 (u0 (n6 a40 (pv 4) a10 (j4 _)) (g5 (j3 (Q9 (x8 (a5p (K:=K) (cl:=c) (a7X hr)) (pv 3) (n0 (a18 (a6 (C1 (a6 P8 (a6 P8 b6))) (a6 (pv 4) b6)))) (j4 _)) (C6 (j5 (F8 (K:=K)) rfl T.z_isinstance t7 (a6 (i0 (g9 (K:=K)) (pv 3) a8 (fun _ _=>rfl)) (a6 (Y6 (v:=.ty "tuple") rfl T.z_tuple a7y rfl) b6))))))) l7) (d9 (u0 (PW.pt (M9 (B3 (y0 (j5 (F8 (K:=K)) rfl T.z_isinstance t7 (a6 (pv 3) (a6 (Y6 (v:=.ty "list") rfl T.z_list a2J rfl) b6))))) (Q8 (n6 a3E (j5 (t8 (K:=K)) rfl T.z_len C8 (a6 (pv 3) b6)) (i0 (g9 (K:=K)) (pv 0) a8 (fun _ _=>rfl)) (j4 _))))) (g5 (j3 P8)) l7) (d9 (J9 PassesOwn.leaving rfl (a9k (pv 3)) (j8 (i:=5) X5.nd rfl (Or.inl rfl)) (g5 (u0 (PW.pt (M9 (B3 (y0 (j5 (F8 (K:=K)) rfl T.z_isinstance t7 (a6 (pv 5) (a6 (Y6 (v:=.ty "str") rfl T.z_str b1o rfl) b6))))) (Q8 (n6 a3E (j5 a0Q rfl T.z_len C8 (a6 (pv 5) b6)) (i0 (g9 (K:=K)) (pv 0) a8 (fun _ _=>rfl)) (j4 _))))) (g5 (j3 P8)) l7))) (g5 (j3 P8)))))))),(g7 (a1M (a7 b0 (a7 b0 (a7 b0 f9)))) (g7 (n8 (F9 (w6 (b7 a52 (B9 a5s.cb (a7 b0 f9)) a9)) (F9 (w6 (b7 S8 (B9 b0D.cb (a7 b0 f9)) a9)) (w6 (b7 S8 (N6 G2) a9)))) (l5 (b7 a4r b0 (x9 (a7 a9 (a7 (J1 (N5 (a7 a9 (a7 a9 f9)))) f9))))) u3) (g7 (a1M (a7 b0 (a7 b0 (a7 b0 f9)))) (g7 (n8 (w6 (b7 a5b b0 a9)) (l5 (S0 (b7 a4r b0 (x9 (a7 a9 (a7 (J1 (N5 (a7 a9 (a7 a9 f9)))) (a7 b0 f9))))) (B9 b1K (a7 (b7 i7 b0 a9) (a7 a9 f9))))) u3) (g7 (n8 (F9 (z7 (A3 a5j)) (w6 (b7 a3I (N6 G2) (b7 i7 b0 a9)))) (l5 a9) u3) (g7 (a9D (j0 (k:=6) (by decide)) (n8 (F9 (z7 (A3 a5j)) (w6 (b7 a3I (B9 a5c.cb (a7 b0 f9)) (b7 i7 b0 a9)))) (l5 a9) u3)) (l5 a9)))))))⟩
def b2p:SF:=(d7 (r9 1 (eT (aC (g8 G7 (aC (g8 k7 (aC (eV 0) (aC (eC (.int 0)) aN))) aN)) (aC (g8 G7 (aC (g8 k7 (aC (eV 0) (aC (eC (.int 1)) aN))) aN)) aN)))) (d7 (X9 (g8 L6 (aC (eV 0) aN)) (w4 [(g0 2),(g0 3)])) (d7 (N8 4 (eL (aC (zN (nCV a0r 2)) (aC (zN (nCV a0r 3)) aN)))) (d7 (m5 (B2 (u4 (bZ (g8 A8 (aC (eV 1) (aC (A2 u9 4 (eC (.int 0))) (aC (A2 u9 4 (eC (.int 1))) aN)))))) (bZ (A2 (L3 true) 4 (zN (eL (aC (eV 2) (aC (eV 3) aN))))))) (i9 (eC (.bl false))) m4) (d7 (m5 (B2 (u4 (bZ (g8 A8 (aC (eT (aC (eC (.int 60)) (aC (eC (.int 60)) aN))) (aC (eV 2) (aC (eV 3) aN)))))) (u4 (bZ (g8 A8 (aC (eT (aC (eC (.int 21)) (aC (eC (.int 60)) aN))) (aC (zN (V6 2 oN (oS (eC (.int 62))))) (aC (zN (V6 3 oN (oS (eC (.int 62))))) aN))))))) (i9 (eC (.bl false))) m4) (d7 (m5 (B2 (u4 (bZ (g8 A8 (aC (eT (aC (eC (.int 2)) (aC (eC (.int 61)) aN))) (aC (zN (V6 2 oN (oS (eC (.int 1))))) (aC (zN (V6 3 oN (oS (eC (.int 1))))) aN)))))) (u4 (bZ (g8 A8 (aC (eT (aC (eC (.int 61)) (aC (eC (.int 2)) aN))) (aC (zN (eL aN)) (aC (zN (eL aN)) aN))))))) (i9 (eC (.bl false))) m4) (a2j A8 (aC (eV 1) (aC (A2 u9 4 (eC (.int 0))) (aC (A2 u9 4 (eC (.int 1))) aN))))))))))
def a9d:List D→Option R1:=fD 5 1 b2p
theorem a09:FnScope ["_law_script","_law_box","_law_wares","_law_places","_law_handed"] ["_law_script"] (b8 Q4):=⟨rfl,rfl,rfl,by decide +kernel,rfl,by decide +kernel,by decide +kernel⟩
theorem b0F{f:Addr}{fd:FuncData}(F:Fun K "law" "law" Q4 f fd)(T:Txt K mg c)(G_l_side:Own P w K mg base 3 "_law_side" ["_law_cell"] (k6 K c G7))(G_l_cell_at:Own P w K mg base 3 "_law_cell_at" ["_law_script","_law_k"] (k6 K c k7))(G_l_case:Own P w K mg base 5 "_law_case" ["_law_script"] (k6 K c L6))(G_l_good:Own P w K mg base 13 "_law_good" ["_law_box","_law_wares","_law_places"] (k6 K c A8)):FnOk P w K mg base (w9 P w) 15 f fd ["_law_script"] (k6 K c a9d) :=
 F.okD (k:=14) a09 fun cdv A outer s H E hr=>⟨_,(d9 (m7 (i:=1) a09.nd rfl (Or.inl rfl) (n0 (a6 (m8 G_l_side hr (by decide) t5 (a6 (m8 G_l_cell_at hr (by decide) t5 (a6 (pv 0) (a6 a8 b6))) b6)) (a6 (m8 G_l_side hr (by decide) t5 (a6 (m8 G_l_cell_at hr (by decide) t5 (a6 (pv 0) (a6 a8 b6))) b6)) b6)))) (d9 (R5 (m8 G_l_case hr (by decide) t5 (a6 (pv 0) b6)) (C9 (K:=K) (n:=2) rfl (k9 (j8 (i:=2) a09.nd rfl (Or.inl rfl)) (k9 (j8 (i:=3) a09.nd rfl (Or.inl rfl)) C7)))) (d9 (m7 (i:=4) a09.nd rfl (Or.inl rfl) (C1 (a6 (a3b (a0H (K:=K)) rfl T.z_list a2J (a6 (pv 2) b6)) (a6 (a3b (a0H (K:=K)) rfl T.z_list a2J (a6 (pv 3) b6)) b6)))) (d9 (u0 (PW.pt (M9 (B3 (y0 (m8 G_l_good hr (by decide) t5 (a6 (pv 1) (a6 (i0 (v3 (K:=K)) (pv 4) a8 (fun _ _=>rfl)) (a6 (i0 (v3 (K:=K)) (pv 4) a8 (fun _ _=>rfl)) b6)))))) (Q8 (n6 (b0h (K:=K) (cl:=c) (a7X hr)) (pv 4) (C1 (a6 (pv 2) (a6 (pv 3) b6))) (j4 _))))) (g5 (j3 P8)) l7) (d9 (u0 (PW.pt (M9 (B3 (y0 (m8 G_l_good hr (by decide) t5 (a6 (n0 (a6 a8 (a6 a8 b6))) (a6 (pv 2) (a6 (pv 3) b6)))))) (Q8 (B3 (y0 (m8 G_l_good hr (by decide) t5 (a6 (n0 (a6 a8 (a6 a8 b6))) (a6 (a0e (a0i (K:=K)) (pv 2) a1c (a1d a8)) (a6 (a0e (a0i (K:=K)) (pv 3) a1c (a1d a8)) b6))))))))) (g5 (j3 P8)) l7) (d9 (u0 (PW.pt (M9 (B3 (y0 (m8 G_l_good hr (by decide) t5 (a6 (n0 (a6 a8 (a6 a8 b6))) (a6 (a0e (a0i (K:=K)) (pv 2) a1c (a1d a8)) (a6 (a0e (a0i (K:=K)) (pv 3) a1c (a1d a8)) b6)))))) (Q8 (B3 (y0 (m8 G_l_good hr (by decide) t5 (a6 (n0 (a6 a8 (a6 a8 b6))) (a6 (C1 b6) (a6 (C1 b6) b6))))))))) (g5 (j3 P8)) l7) (g5 (j3 (m8 G_l_good hr (by decide) t5 (a6 (pv 1) (a6 (i0 (v3 (K:=K)) (pv 4) a8 (fun _ _=>rfl)) (a6 (i0 (v3 (K:=K)) (pv 4) a8 (fun _ _=>rfl)) b6)))))))))))),(g7 (v9 (x9 (a7 (n5 (a7 (n5 (a7 b0 (a7 a9 f9))) f9)) (a7 (n5 (a7 (n5 (a7 b0 (a7 a9 f9))) f9)) f9)))) (g7 (Z3 (n5 (a7 b0 f9)) (D1 (l3 (j0 (k:=5) (by decide)) (l3 (j0 (k:=5) (by decide)) D0)) rfl)) (g7 (Z2 (N5 (a7 (J1 (a6E a5d)) (a7 (J1 (a6E a5d)) f9)))) (g7 (n8 (F9 (z7 (A3 (n5 (a7 b0 (a7 (B5 B7 a9) (a7 (B5 B7 a9) f9)))))) (w6 (B5 a4r (J1 (N5 (a7 b0 (a7 b0 f9))))))) (l5 a9) u3) (g7 (n8 (F9 (z7 (A3 (n5 (a7 (x9 (a7 a9 (a7 a9 f9))) (a7 b0 (a7 b0 f9)))))) (z7 (A3 (n5 (a7 (x9 (a7 a9 (a7 a9 f9))) (a7 (J1 (a2o a3L (a3M a9))) (a7 (J1 (a2o a3L (a3M a9))) f9))))))) (l5 a9) u3) (g7 (n8 (F9 (z7 (A3 (n5 (a7 (x9 (a7 a9 (a7 a9 f9))) (a7 (J1 (a2o a3L (a3M a9))) (a7 (J1 (a2o a3L (a3M a9))) f9)))))) (z7 (A3 (n5 (a7 (x9 (a7 a9 (a7 a9 f9))) (a7 (J1 (N5 f9)) (a7 (J1 (N5 f9)) f9))))))) (l5 a9) u3) (a7I (a7 b0 (a7 (B5 B7 a9) (a7 (B5 B7 a9) f9))))))))))⟩
end Law
namespace Law
open PySem L2 PyProof.Rows
variable {P:Program}{w:World}{K:PySem.W.Frag}{mg:Str→Option Value}{base:Heap}{c:Str→Addr}
local macro_rules|`(tactic|walk_at $s:str)=>do
 let t←`(tactic|simp(decide:=true)only[*,b2j,a9H,a2U,a9I,a9J,a9T,a9K,a9L,a9M,a9N,a7L,a9O,a9P,a9Q,b1L,a7M,a7N,a6J,a6K,a7O,a58,a59,a6L,a6M,a6N,a7P,a5_,a6a,a9R,a2V,a9U,a9S,a9V,a7Q,a9W,a9X,a9Y,a9Z,a91,a90,a92,a7R,a01,M0,b0p,b0q,b0r,b0s,b0u,b0t,a3n,a6P,a2p,p9,V2,a4p,a6d,a70,b1R,b1S,a71,b1T,b1U,a2Y,b0k,b0l,b0m,b0n,noL,noLs,V6,oN,oS,a0u,a2l,V1,unhide,a6O,a99,a96,a97,a98,a93,a94,a95,a54,U9,L3,u5,E9,i6,y6,G4,B0,Q0,Nat.max_self,Nat.zero_max,Nat.max_zero,decide_true,Bool.or_true,Bool.true_or,Bool.or_false,List.isEmpty_nil,a2q,a2r,b0w,List.any_cons,List.any_nil,l9,List.all_cons,List.all_nil,Bool.and_self,Bool.and_true,Bool.true_and,beq_self_eq_true,a9_,b0a,b1M,b1N,b1O,b1P,a2m,b0b,b0c,a1n,m5,r9,N8,K6,E1,i9,a0s,a2j,T1,m4,X9,Z1,Z5,a06,XN.nm,XN.d,b0i,b0j,S4,a8c,b0z,b0A,a55,T5,a6T,a77,a78,a73,a74,a75,a76,a72,b0o,a7_,a6U,eC,eV,eB,A2,eT,eL,zN,aN,aC,S9,g8,O7,eOr,eU,A9,C3,nCV,nB,g1,y3,a0r,bZ,u4,U8,B2,T6,a79,w4,a0t,a4d,b1z,b1A,a4e,b1B,b1C,a0m,a0n,look,h9,u9,a9A,G1,T7,a3K,tyN,seqL,a86,a87,a88,a89,List.map_cons,List.map_nil,List.length_cons,List.length_nil,List.cons_append,List.nil_append,List.replicate_succ,List.replicate_zero,List.getElem?_cons_zero,List.getElem?_cons_succ,List.set_cons_zero,List.set_cons_succ,Nat.reduceAdd,Nat.reduceSub,if_true,if_false,Bool.not_true,Bool.not_false,Bool.not_not,Nat.zero_add,Bool.false_eq_true,decide_eq_true_eq,Bool.not_eq_true',decide_eq_false_iff_not,Option.map_some,Option.map_none,ite_self,t9,D6,W1])
 return if s.getString=="eh" then t.raw else t.raw.modifyArg 4 (·.modifyArg 1 fun l=>l.setArg 0 l[2])
abbrev T3:=Int×Int×Bool
abbrev T4:=Int×Int×Int×Int
def M7(q:T3×T3):Bool:=q.2.2.2 && !q.1.2.2
def g6(q:T3×T3):T4:=if q.2.2.2=true then(q.2.1,q.2.2.1,q.2.1+q.1.2.1,q.2.2.1+q.1.1)else(q.2.1,q.2.2.1,q.2.1+q.1.1,q.2.2.1+q.1.2.1)
def ap(s t:T4):Bool:=(decide (s.2.2.1≤t.1) || decide (t.2.2.1≤s.1)) || (decide (s.2.2.2≤t.2.1) || decide (t.2.2.2≤s.2.1))
theorem b1Z(s t:T4):ap s t=true↔((s.2.2.1≤t.1∨t.2.2.1≤s.1)∨(s.2.2.2≤t.2.1∨t.2.2.2≤s.2.1)):=by
 unfold ap;simp only[Bool.or_eq_true,decide_eq_true_eq]
def ins(bx:Int×Int)(s:T4):Bool:=decide (0≤s.1) && (decide (0≤s.2.1) && (decide (s.2.2.1≤bx.1) && decide (s.2.2.2≤bx.2)))
theorem a5w(bx:Int×Int)(s:T4):ins bx s=true↔(0≤s.1∧0≤s.2.1∧s.2.2.1≤bx.1∧s.2.2.2≤bx.2):=by
 unfold ins;simp only[Bool.and_eq_true,decide_eq_true_eq]
structure Good(bx:Int×Int)(l:List (T3×T3)):Prop where
 one:∀q∈l,M7 q=false∧ins bx (g6 q)=true
 two:l.Pairwise fun p q=>ap (g6 p) (g6 q)=true
theorem Good.nil{bx:Int×Int}:Good bx []:=⟨fun _ h=>absurd h List.not_mem_nil,.nil⟩
theorem Good.snoc{bx:Int×Int}{l:List (T3×T3)}{q:T3×T3}(h:Good bx l)(h1:M7 q=false)(h2:ins bx (g6 q)=true)(h3:∀p∈l,ap (g6 p) (g6 q)=true):Good bx (l++[q]):=by
 refine⟨fun p m=>?_,List.pairwise_append.mpr ⟨h.two,List.pairwise_singleton _ _,fun p m r mr=>?_⟩⟩
 ·rcases List.mem_append.mp m with m | m
  ·exact h.one p m
  ·rw[List.mem_singleton.mp m];exact⟨h1,h2⟩
 ·rw[List.mem_singleton.mp mr];exact h3 p m
theorem Good.left{bx:Int×Int}{l m:List (T3×T3)}(h:Good bx (l++m)):Good bx l :=
 ⟨fun q hq=>h.one q (List.mem_append_left _ hq),(List.pairwise_append.mp h.two).1⟩
theorem Good.last{bx:Int×Int}{l m:List (T3×T3)}{q:T3×T3}(h:Good bx (l++q::m)):M7 q=false∧ins bx (g6 q)=true∧∀p∈l,ap (g6 p) (g6 q)=true :=
 ⟨(h.one q (List.mem_append_right _ List.mem_cons_self)).1,(h.one q (List.mem_append_right _ List.mem_cons_self)).2,fun p hp=>(List.pairwise_append.mp h.two).2.2 p hp q List.mem_cons_self⟩
def Flt(bx:Int×Int)(pre:List (T3×T3))(q:T3×T3)(turn out:Prop)(over:Nat→Prop):Prop :=
 (M7 q=true∧turn)∨(M7 q=false∧ins bx (g6 q)=false∧out)∨(M7 q=false∧ins bx (g6 q)=true∧∃p1 o p2,pre=p1++o::p2∧(∀p∈p1,ap (g6 p) (g6 q)=true)∧ap (g6 o) (g6 q)=false∧over p1.length)
theorem Flt.not{bx:Int×Int}{pre post:List (T3×T3)}{q:T3×T3}{a b:Prop}{c:Nat→Prop}(h:Flt bx pre q a b c)(g:Good bx (pre++q::post)):False:=by
 obtain⟨g1,g2,g3⟩:=g.last
 rcases h with⟨h,_⟩ | ⟨_,h,_⟩ | ⟨_,_,p1,o,p2,rfl,_,h,_⟩
 ·rw[g1]at h;cases h
 ·rw[g2]at h;cases h
 ·rw[g3 o (List.mem_append_right _ List.mem_cons_self)]at h;cases h
structure Laid(pre:List T4)(L:List (T3×T3)):Prop where
 one:∀q∈L,M7 q=false∧g6 q∈pre
 two:L.Pairwise fun p q=>ap (g6 p) (g6 q)=true
 len:L.length≤pre.length
 all:L.length=pre.length→∀s∈pre,∃q∈L,g6 q=s
theorem Laid.nil:Laid [] []:=⟨fun _ h=>absurd h List.not_mem_nil,.nil,Nat.le_refl _,fun _ _ h=>absurd h List.not_mem_nil⟩
def mir(bx:Int×Int)(ac:Bool)(q:T3×T4):T3:=if ac=true then(bx.1-q.2.2.2.1,q.1.2.1,q.1.2.2)else(q.1.1,bx.2-q.2.2.2.2,q.1.2.2)
def mr(bx:Int×Int)(ac:Bool)(q:T3×T3):T3×T3:=(q.1,mir bx ac (q.2,g6 q))
abbrev t3(p:T3):D:=.tup [.int p.1,.int p.2.1,.bl p.2.2]
abbrev t4(p:T4):D:=.tup [.int p.1,.int p.2.1,.int p.2.2.1,.int p.2.2.2]
abbrev t2(b:Int×Int):D:=.tup [.int b.1,.int b.2]
abbrev wD(q:T3×T3):D:=t3 q.1
abbrev pD(q:T3×T3):D:=t3 q.2
abbrev sD(q:T3×T3):D:=t4 (g6 q)
theorem a5x(q:T3×T3)(hb:M7 q=false):z0 [t3 q.1,t3 q.2]=some (.ret (t4 (g6 q))):=by
 obtain⟨⟨w,h,t⟩,⟨x,y,l⟩⟩:=q
 unfold z0 a3t O1 a2w g6
 unfold M7 at hb
 cases l<;>cases t<;>first | (simp only[Bool.and_true,Bool.and_false,Bool.not_true,Bool.not_false,Bool.true_and,Bool.false_and];walk_at "ev";done) | simp at hb
theorem a8q(s t:T4):P6 [t4 s,t4 t]=some (.ret (.bl (ap s t))):=by
 obtain⟨a,b,x,y⟩:=s
 obtain⟨a',b',x',y'⟩:=t
 unfold P6 a5u ap
 walk_at "ev"
 by_cases h1:x≤a' <;>by_cases h2:x'≤a<;>by_cases h3:y≤b' <;>by_cases h4:y'≤b<;>simp[h1,h2,h3,h4,a2U,a2V]
theorem b0G(bx:Int×Int)(s:T4):D2 [t2 bx,t4 s]=some (.ret (.bl (ins bx s))):=by
 obtain⟨a,b,x,y⟩:=s
 obtain⟨u,v⟩:=bx
 unfold D2 a3u ins
 walk_at "ev"
 by_cases h1:0≤a<;>by_cases h2:0≤b<;>by_cases h3:x≤u<;>by_cases h4:y≤v<;>simp[h1,h2,h3,h4,a2U,a2V]
abbrev K5:SF:=(m5 (u4 (bZ (g8 P6 (aC (eV 8) (aC (eV 6) aN))))) (i9 (eT (aC (eC (.str "over")) (aC (eV 7) (aC (eV 4) aN))))) m4)
theorem a8r(bx:Int×Int)(A B:D)(ds:List (T3×T3))(q:T3×T3)(k:Nat)(o7 o8:Option D) :
  (∃p1 o p2,ds=p1++o::p2∧(∀p∈p1,ap (g6 p) (g6 q)=true)∧ap (g6 o) (g6 q)=false∧t6 (w4 [(g0 7),(g0 8)]) K5 (K0 0 (ds.map sD)) [.fz (t2 bx),.fz A,.fz B,.hd (ds.map sD),.fz (.int k),.fz (t3 q.2),.fz (t4 (g6 q)),un o7,un o8]=some (.rt (.tup [.str "over",.int p1.length,.int k])))
  ∨ ((∀p∈ds,ap (g6 p) (g6 q)=true)∧∃o7' o8',t6 (w4 [(g0 7),(g0 8)]) K5 (K0 0 (ds.map sD)) [.fz (t2 bx),.fz A,.fz B,.hd (ds.map sD),.fz (.int k),.fz (t3 q.2),.fz (t4 (g6 q)),un o7,un o8]=some (.nx [.fz (t2 bx),.fz A,.fz B,.hd (ds.map sD),.fz (.int k),.fz (t3 q.2),.fz (t4 (g6 q)),un o7',un o8'])):=by
 rw[a1q]
 generalize hG:Sl.hd (ds.map sD)=G
 have hG':O0 G=false:=by rw[← hG];rfl
 rcases a04 (b:=w4 [(g0 7),(g0 8)]) (body:=K5) (fun k x=>.tup [.int k,sD x]) (fun pre e=>(∀p∈pre,ap (g6 p) (g6 q)=true)∧∃o7 o8,e=[.fz (t2 bx),.fz A,.fz B,G,.fz (.int k),.fz (t3 q.2),.fz (t4 (g6 q)),un o7,un o8]) (fun pre x r=>ap (g6 x) (g6 q)=false∧r=.rt (.tup [.str "over",.int pre.length,.int k])) ds [.fz (t2 bx),.fz A,.fz B,G,.fz (.int k),.fz (t3 q.2),.fz (t4 (g6 q)),un o7,un o8] ⟨fun _ h=>absurd h List.not_mem_nil,_,_,rfl⟩ (by
   rintro pre x post e hl ⟨hp,o7,o8,rfl⟩
   have h:=a8q (g6 x) (g6 q)
   clear hG hG'
   cases hap:ap (g6 x) (g6 q)with
   | false =>
    rw[hap]at h
    refine .inl ⟨.rt (.tup [.str "over",.int pre.length,.int k]),rfl,?_,rfl,rfl⟩
    clear hl hp hap
    unfold K5
    walk_at "eh"
   | true =>
    rw[hap]at h
    have hp':∀p∈pre++[x],ap (g6 p) (g6 q)=true:=fun p m=>by
     rcases List.mem_append.mp m with m | m
     ·exact hp p m
     ·rw[List.mem_singleton.mp m];exact hap
    suffices hh:∃e2,z8 (J7 (w4 [(g0 7),(g0 8)] (.tup [.int pre.length,sD x]) [.fz (t2 bx),.fz A,.fz B,G,.fz (.int k),.fz (t3 q.2),.fz (t4 (g6 q)),un o7,un o8]) K5)=some (.nx e2)∧∃o7 o8,e2=[.fz (t2 bx),.fz A,.fz B,G,.fz (.int k),.fz (t3 q.2),.fz (t4 (g6 q)),un o7,un o8] by
     obtain⟨e2,h1,h2⟩:=hh
     exact .inr ⟨e2,h1,hp',h2⟩
    clear hl hp hap hp'
    unfold K5
    walk_at "eh"
    exact⟨_,rfl,some _,some _,rfl⟩)with⟨p1,o,p2,r,h1,_,h3,⟨h4,rfl⟩,e',h6,_⟩ | ⟨e',h1,h2,o7',o8',rfl⟩
 ·exact .inl ⟨p1,o,p2,h1,h6,h4,h3⟩
 ·exact .inr ⟨h2,o7',o8',h1⟩
theorem a4D(bx:Int×Int)(L:List (T3×T3))(hl:L.length≤1000):∃v,C0 [t2 bx,.lst (L.map wD),.lst (L.map pD)]=some (.ret v)∧((v=.non∧Good bx L)∨∃pre q post,L=pre++q::post∧Good bx pre∧Flt bx pre q (v=.tup [.str "turn",.int pre.length]) (v=.tup [.str "out",.int pre.length]) (fun i=>v=.tup [.str "over",.int i,.int pre.length])):=by
 have key:=a04 (b:=w4 [(g0 4),(g0 5)]) (body:=(d7 (m5 (U8 (bZ (eB h9 (eV 5) (eC (.int 2)))) (u4 (bZ (eB h9 (A2 u9 1 (eV 4)) (eC (.int 2)))))) (i9 (eT (aC (eC (.str "turn")) (aC (eV 4) aN)))) m4) (d7 (K6 6 z0 (aC (A2 u9 1 (eV 4)) (aC (eV 5) aN))) (d7 (m5 (u4 (bZ (g8 D2 (aC (eV 0) (aC (eV 6) aN))))) (i9 (eT (aC (eC (.str "out")) (aC (eV 4) aN)))) m4) (d7 (V1 3 (w4 [(g0 7),(g0 8)]) K5) (S4 3 (eV 6)))))))
  (fun k q=>.tup [.int k,pD q])
  (fun pre e=>Good bx pre∧∃o4 o5 o6 o7 o8,e=[.fz (t2 bx),.fz (.lst (L.map wD)),.fz (.lst (L.map pD)),.ow (pre.map sD),un o4,un o5,un o6,un o7,un o8])
  (fun pre q r=>∃v,r=.rt v∧Flt bx pre q (v=.tup [.str "turn",.int pre.length]) (v=.tup [.str "out",.int pre.length]) (fun i=>v=.tup [.str "over",.int i,.int pre.length]))
  L [.fz (t2 bx),.fz (.lst (L.map wD)),.fz (.lst (L.map pD)),.ow [],.no,.no,.no,.no,.no] ⟨.nil,none,none,none,none,none,rfl⟩ (by
   rintro pre q post e hq ⟨g,o4,o5,o6,o7,o8,rfl⟩
   have hat:atI (L.map wD) (pre.length:Int)=some (t3 q.1):=by rw[hq];exact V9 wD
   have hs:(pre.map sD).length<sizeLine:=by
    rw[hq,List.length_append]at hl
    rw[List.length_map];show _<2 ^ 24;omega
   clear hq hl
   cases hb:M7 q with
   | true =>
    refine .inl ⟨.rt (.tup [.str "turn",.int pre.length]),rfl,?_,_,rfl,.inl ⟨hb,rfl⟩⟩
    have hb1:q.2.2.2=true:=by unfold M7 at hb;simp at hb;exact hb.1
    have hb2:q.1.2.2=false:=by unfold M7 at hb;simp at hb;exact hb.2
    generalize pre.map sD=acc at *
    generalize L.map wD=LW at *
    generalize L.map pD=LP at *
    clear hb g
    walk_at "eh"
   | false =>
    have h1:=a5x q hb
    have h2:=b0G bx (g6 q)
    have hlt:(q.2.2.2=false)∨(q.2.2.2=true∧q.1.2.2=true):=by
     unfold M7 at hb
     cases h:q.2.2.2
     ·exact .inl rfl
     ·rw[h]at hb;simp at hb;exact .inr ⟨rfl,hb⟩
    cases hi:ins bx (g6 q)with
    | false =>
     rw[hi]at h2
     refine .inl ⟨.rt (.tup [.str "out",.int pre.length]),rfl,?_,_,rfl,.inr (.inl ⟨hb,hi,rfl⟩)⟩
     generalize pre.map sD=acc at *
     generalize L.map wD=LW at *
     generalize L.map pD=LP at *
     clear hb g hi
     rcases hlt with hlt | ⟨hlt,hlt2⟩<;>walk_at "eh"
    | true =>
     rw[hi]at h2
     rcases a8r bx (.lst (L.map wD)) (.lst (L.map pD)) pre q pre.length o7 o8 with⟨p1,o,p2,i1,i2,i3,i4⟩ | ⟨i1,o7',o8',i4⟩
     ·refine .inl ⟨.rt (.tup [.str "over",.int p1.length,.int pre.length]),rfl,?_,_,rfl,.inr (.inr ⟨hb,hi,p1,o,p2,i1,i2,i3,rfl⟩)⟩
      generalize pre.map sD=acc at *
      generalize L.map wD=LW at *
      generalize L.map pD=LP at *
      clear hb g hi i1 i2 i3
      rcases hlt with hlt | ⟨hlt,hlt2⟩<;>walk_at "eh"
     ·suffices hh:∃e2,z8 (J7 (w4 [(g0 4),(g0 5)] (.tup [.int pre.length,pD q]) [.fz (t2 bx),.fz (.lst (L.map wD)),.fz (.lst (L.map pD)),.ow (pre.map sD),un o4,un o5,un o6,un o7,un o8]) (d7 (m5 (U8 (bZ (eB h9 (eV 5) (eC (.int 2)))) (u4 (bZ (eB h9 (A2 u9 1 (eV 4)) (eC (.int 2)))))) (i9 (eT (aC (eC (.str "turn")) (aC (eV 4) aN)))) m4) (d7 (K6 6 z0 (aC (A2 u9 1 (eV 4)) (aC (eV 5) aN))) (d7 (m5 (u4 (bZ (g8 D2 (aC (eV 0) (aC (eV 6) aN))))) (i9 (eT (aC (eC (.str "out")) (aC (eV 4) aN)))) m4) (d7 (V1 3 (w4 [(g0 7),(g0 8)]) K5) (S4 3 (eV 6)))))))=some (.nx e2)∧∃o4 o5 o6 o7 o8,e2=[.fz (t2 bx),.fz (.lst (L.map wD)),.fz (.lst (L.map pD)),.ow ((pre++[q]).map sD),un o4,un o5,un o6,un o7,un o8] by
       obtain⟨e2,j1,j2⟩:=hh
       exact .inr ⟨e2,j1,g.snoc hb hi i1,j2⟩
      rw[List.map_append]
      generalize pre.map sD=acc at *
      generalize L.map wD=LW at *
      generalize L.map pD=LP at *
      clear hb g hi i1
      rcases hlt with hlt | ⟨hlt,hlt2⟩<;> (walk_at "eh";exact⟨_,rfl,some _,some _,some _,_,_,rfl⟩))
 have l1:((L.map pD).length:Int)=L.length:=by rw[List.length_map]
 have l2:((L.map wD).length:Int)=L.length:=by rw[List.length_map]
 rw[← a1q]at key
 rcases key with⟨pre,q,post,r,k1,_,k3,⟨v,rfl,k4⟩,e',k5,_⟩ | ⟨e',k1,k2,o4,o5,o6,o7,o8,rfl⟩
 ·refine⟨v,?_,.inr ⟨pre,q,post,k1,k5,k4⟩⟩
  clear k4 k5 k1 hl
  unfold K5 at k3
  generalize L.map wD=LW at *
  generalize L.map pD=LP at *
  unfold C0 a20
  walk_at "eh"
 ·refine⟨.non,?_,.inl ⟨rfl,k2⟩⟩
  clear k2 hl
  unfold K5 at k1
  generalize L.map sD=LS at *
  generalize L.map wD=LW at *
  generalize L.map pD=LP at *
  unfold C0 a20
  walk_at "eh"
theorem a6n(bx:Int×Int)(L:List (T3×T3))(hl:L.length≤1000)(g:Good bx L):C0 [t2 bx,.lst (L.map wD),.lst (L.map pD)]=some (.ret .non):=by
 obtain⟨v,h1,⟨rfl,_⟩ | ⟨pre,q,post,rfl,_,h⟩⟩:=a4D bx L hl
 ·exact h1
 ·exact(h.not g).elim
theorem a8s(L:List (T3×T3))(hl:L.length≤1000)(hb:∀q∈L,M7 q=false):B1 [.lst (L.map wD),.lst (L.map pD)]=some (.own (L.map sD)):=by
 have key:∀eo,w8 (w4 [g0 0,g0 1]) T6 (S9 z0 (aC (eV 0) (aC (eV 1) aN))) [.no,.no] eo (L.map fun q=>D.tup [wD q,pD q]) []=some (.ok (L.map sD) eo):=fun eo=>by
  have:=a0y (b:=w4 [g0 0,g0 1]) (c:=T6) (el:=S9 z0 (aC (eV 0) (aC (eV 1) aN))) (ec:=[.no,.no]) (eo:=eo) (fun q:T3×T3=>D.tup [wD q,pD q]) sD (fun _=>true) L [] (by show 0+_≤2 ^ 24;omega) fun q m=>⟨[.fz (t3 q.1),.fz (t3 q.2)],[.fz (t3 q.1),.fz (t3 q.2)],rfl,rfl,fun _=>by
   have h:=a5x q (hb q m)
   clear hb m
   walk_at "eh";exact⟨_,rfl⟩⟩
  rw[this,List.filter_eq_self.mpr (fun _ _=>rfl),List.nil_append]
 have hz:=a3q wD pD L
 unfold B1 a2x
 clear hl hb
 walk_at "eh"
theorem M8{ns:List Int}{k:Int}(hk:0≤k):k7 [.scr ns,.int k]=some (.ret (.int (n4 ns k))):=by
 rw[← b0e hk]
 unfold k7 a1A
 walk_at "ev"
 split
 ·cases atI ns k<;>rfl
 ·rfl
def a6o(bx:Int×Int)(L:List (T3×T3))(v:D):Prop:=(v=.non∧Good bx L)∨∃pre q post,L=pre++q::post∧Good bx pre∧Flt bx pre q (v=.tup [.str "turn",.int pre.length]) (v=.tup [.str "out",.int pre.length]) (fun i=>v=.tup [.str "over",.int i,.int pre.length])
theorem a6p{α:Type}{P:α→Prop}{p1 p2 r1 r2:List α}{o1 o2:α}(e:p1++o1::r1=p2++o2::r2)(h1:∀p∈p1,P p)(h2:∀p∈p2,P p)(n1:¬P o1)(n2:¬P o2):p1=p2:=by
 rcases List.append_eq_append_iff.mp e with⟨a,e1,e2⟩ | ⟨a,e1,e2⟩
 ·cases a with
  | nil=>rw[e1,List.append_nil]
  | cons b a =>
   rw[List.cons_append]at e2;cases e2
   exact absurd (h2 o1 (by rw[e1];simp)) n1
 ·cases a with
  | nil=>rw[e1,List.append_nil]
  | cons b a =>
   rw[List.cons_append]at e2;cases e2
   exact absurd (h1 o2 (by rw[e1];simp)) n2
theorem a4E{bx:Int×Int}{pre:List (T3×T3)}{q:T3×T3}{v v' a b:D}{c:Nat→D}(h:Flt bx pre q (v=a) (v=b) (fun i=>v=c i))(h':Flt bx pre q (v'=a) (v'=b) (fun i=>v'=c i)):v=v':=by
 rcases h with⟨h,rfl⟩ | ⟨h,k,rfl⟩ | ⟨h,k,p1,o,p2,e,i1,i2,rfl⟩
 ·rcases h' with⟨h',rfl⟩ | ⟨h',k',rfl⟩ | ⟨h',k',q1,o',q2,e',i1',i2',rfl⟩
  ·rfl
  ·rw[h]at h';cases h'
  ·rw[h]at h';cases h'
 ·rcases h' with⟨h',rfl⟩ | ⟨h',k',rfl⟩ | ⟨h',k',q1,o',q2,e',i1',i2',rfl⟩
  ·rw[h]at h';cases h'
  ·rfl
  ·rw[k]at k';cases k'
 ·rcases h' with⟨h',rfl⟩ | ⟨h',k',rfl⟩ | ⟨h',k',q1,o',q2,e',i1',i2',rfl⟩
  ·rw[h]at h';cases h'
  ·rw[k]at k';cases k'
  ·have:=a6p (P:=fun p=>ap (g6 p) (g6 q)=true) (e.symm.trans e') i1 i1' (by rw[i2];decide) (by rw[i2'];decide)
   rw[this]
theorem a68{bx:Int×Int}{L:List (T3×T3)}{v v':D}(h:a6o bx L v)(h':a6o bx L v'):v=v':=by
 rcases h with⟨rfl,g⟩ | ⟨pre,q,post,e,g,f⟩
 ·rcases h' with⟨rfl,_⟩ | ⟨pre,q,post,e,_,f⟩
  ·rfl
  ·rw[e]at g;exact(f.not g).elim
 ·rcases h' with⟨rfl,g'⟩ | ⟨pre',q',post',e',g',f'⟩
  ·rw[e]at g';exact(f.not g').elim
  ·have e2:=e.symm.trans e'
   rcases List.append_eq_append_iff.mp e2 with⟨a,e1,e3⟩ | ⟨a,e1,e3⟩
   ·cases a with
    | nil =>
     rw[List.append_nil]at e1;rw[List.nil_append]at e3
     cases e3;subst e1
     exact a4E f f'
    | cons b a =>
     rw[List.cons_append]at e3;cases e3
     rw[e1]at g'
     exact(f.not g').elim
   ·cases a with
    | nil =>
     rw[List.append_nil]at e1;rw[List.nil_append]at e3
     cases e3;subst e1
     exact a4E f f'
    | cons b a =>
     rw[List.cons_append]at e3;cases e3
     rw[e1]at g
     exact(f'.not g).elim
def P7(w:T3):Prop:=1≤w.1∧1≤w.2.1
theorem a1r{q:T3×T3}(h:P7 q.1):(g6 q).1<(g6 q).2.2.1∧(g6 q).2.1<(g6 q).2.2.2:=by
 obtain⟨⟨w,h',t⟩,⟨x,y,l⟩⟩:=q
 unfold P7 at h
 simp only at h
 cases l<;>simp[g6]<;>omega
theorem a1Z(q:T3×T3):D8 [t3 q.1,t3 q.2]=some (.ret (t4 (g6 q))):=by
 unfold D8 a4C g6
 cases h:q.2.2.2<;>walk_at "eh"
theorem a8t(s t:T4)(hs:s.1<s.2.2.1∧s.2.1<s.2.2.2)(ht:t.1<t.2.2.1∧t.2.1<t.2.2.2):G6 [t4 s,t4 t]=some (.ret (.bl (!ap t s))):=by
 obtain⟨a,b,x,y⟩:=s
 obtain⟨a',b',x',y'⟩:=t
 simp only at hs ht
 unfold G6 a3v
 have hv:ap (a',b',x',y') (a,b,x,y) = !(decide (0<(if x'<x then x' else x)-(if a' > a then a' else a)) && decide (0<(if y'<y then y' else y)-(if b' > b then b' else b))):=by
  rw[Bool.eq_iff_iff,b1Z]
  simp only[Bool.not_eq_true',Bool.and_eq_false_iff,decide_eq_false_iff_not]
  split<;>split<;>split<;>split<;>omega
 rw[hv,Bool.not_not]
 clear hv hs ht
 generalize hA:(if x'<x then x' else x)-(if a' > a then a' else a)=A
 generalize hB:(if y'<y then y' else y)-(if b' > b then b' else b)=B
 by_cases h1:0<A<;>by_cases h2:0<B<;>simp only[h1,h2,decide_true,decide_false,Bool.and_true,Bool.and_false,Bool.true_and,Bool.false_and]<;> (walk_at "eh";try rfl)
theorem b0H(bx:Int×Int)(s:T4)(hs:s.1<s.2.2.1∧s.2.1<s.2.2.2):ins bx s = !(decide (min (min (min s.1 s.2.1) s.2.2.1) s.2.2.2<0) || (decide (bx.1<s.2.2.1) || decide (bx.2<s.2.2.2))):=by
 rw[Bool.eq_iff_iff,a5w]
 simp only[Bool.not_eq_true',Bool.or_eq_false_iff,decide_eq_false_iff_not]
 omega
theorem a4F{α:Type}:∀(l:List α) (n:Nat),(List.range' n l.length).map (fun i:Nat=>D.int (0+(i:Int)))=J8 (fun k (_:α)=>D.int (k:Int)) n l
 | [],n=>rfl
 | x::l,n=>by rw[List.length_cons,List.range'_succ,List.map_cons,J8,a4F l (n+1),Int.zero_add]
theorem a5y{α:Type}(l:List α):A6 0 l.length=J8 (fun k (_:α)=>D.int (k:Int)) 0 l:=by
 rw[a8a,List.range_eq_range',a4F]
theorem a21{rg:List D→Option (Int×Nat)}{f:AF}{b:GF}{body:SF}{e e1:DE}{ds:List D}{lo:Int}{n:Nat}(h:f e=some (.ok ds e1))(hr:rg ds=some (lo,n)):T5 rg f b body e=t6 b body (A6 lo n) e1:=by
 unfold T5;rw[h,a4e,hr]
abbrev a1s:SF:=(m5 (bZ (g8 G6 (aC (eV 4) (aC (g8 D8 (aC (A2 u9 1 (eV 5)) (aC (A2 u9 2 (eV 5)) aN))) aN)))) (i9 (eT (aC (eC (.str "over")) (aC (eV 5) (aC (eV 3) aN))))) m4)
def O3:SF:=T5 O8 (aC (eV 3) aN) (g0 5) a1s
abbrev T8(DI:SF):SF:=(d7 (m5 (U8 (bZ (eB h9 (A2 u9 2 (eV 3)) (eC (.int 2)))) (u4 (bZ (eB h9 (A2 u9 1 (eV 3)) (eC (.int 2)))))) (i9 (eT (aC (eC (.str "turn")) (aC (eV 3) aN)))) m4) (d7 (E1 4 D8 (aC (A2 u9 1 (eV 3)) (aC (A2 u9 2 (eV 3)) aN))) (d7 (m5 (B2 (bZ (eB gLt (A9 (g1 Q1) (aC (eV 4) aN)) (eC (.int 0)))) (B2 (bZ (eB G0 (eB h9 (eV 4) (eC (.int 2))) (eB h9 (eV 0) (eC (.int 0))))) (bZ (eB G0 (eB h9 (eV 4) (eC (.int 3))) (eB h9 (eV 0) (eC (.int 1))))))) (i9 (eT (aC (eC (.str "out")) (aC (eV 3) aN)))) m4) DI)))
def Z6:SF:=T5 O8 (aC (C3 y3 1) aN) (g0 3) (T8 O3)
theorem a8u(bx:Int×Int)(LW LP:List D)(pre:List (T3×T3))(q:T3×T3)(hk:pre.length≤1000)(hp:∀p∈pre,P7 p.1)(hq:P7 q.1)
  (hw:∀p1 o p2,pre=p1++o::p2→atI LW (p1.length:Int)=some (t3 o.1)∧atI LP (p1.length:Int)=some (t3 o.2)) (o5:Option D) :
  (∃p1 o p2,pre=p1++o::p2∧(∀p∈p1,ap (g6 p) (g6 q)=true)∧ap (g6 o) (g6 q)=false∧O3 [.fz (t2 bx),.fz (.lst LW),.fz (.lst LP),.fz (.int pre.length),.fz (t4 (g6 q)),un o5]=some (.rt (.tup [.str "over",.int p1.length,.int pre.length])))
  ∨ ((∀p∈pre,ap (g6 p) (g6 q)=true)∧∃o5',O3 [.fz (t2 bx),.fz (.lst LW),.fz (.lst LP),.fz (.int pre.length),.fz (t4 (g6 q)),un o5]=some (.nx [.fz (t2 bx),.fz (.lst LW),.fz (.lst LP),.fz (.int pre.length),.fz (t4 (g6 q)),un o5'])):=by
 have e0:O3 [.fz (t2 bx),.fz (.lst LW),.fz (.lst LP),.fz (.int pre.length),.fz (t4 (g6 q)),un o5]=t6 (g0 5) a1s (J8 (fun k (_:T3×T3)=>D.int (k:Int)) 0 pre) [.fz (t2 bx),.fz (.lst LW),.fz (.lst LP),.fz (.int pre.length),.fz (t4 (g6 q)),un o5]:=by
  unfold O3
  rw[a21 (ds:=[.int pre.length]) (lo:=0) (n:=pre.length) (e1:=[.fz (t2 bx),.fz (.lst LW),.fz (.lst LP),.fz (.int pre.length),.fz (t4 (g6 q)),un o5]) rfl (by rw[a5l ⟨by omega,by omega⟩,Int.toNat_natCast]),a5y]
 rw[e0]
 generalize hN:(pre.length:Int)=N
 rcases a04 (b:=g0 5) (body:=a1s) (fun k (_:T3×T3)=>D.int (k:Int)) (fun pr e=>(∀p∈pr,ap (g6 p) (g6 q)=true)∧∃o5,e=[.fz (t2 bx),.fz (.lst LW),.fz (.lst LP),.fz (.int N),.fz (t4 (g6 q)),un o5]) (fun pr x r=>ap (g6 x) (g6 q)=false∧r=.rt (.tup [.str "over",.int pr.length,.int N])) pre [.fz (t2 bx),.fz (.lst LW),.fz (.lst LP),.fz (.int N),.fz (t4 (g6 q)),un o5] ⟨fun _ h=>absurd h List.not_mem_nil,_,rfl⟩ (by
   rintro pr x post e hl ⟨hpr,o5,rfl⟩
   obtain⟨w1,w2⟩:=hw pr x post hl
   have s1:=a1Z x
   have s2:=a8t (g6 q) (g6 x) (a1r hq) (a1r (hp x (by rw[hl];simp)))
   cases hap:ap (g6 x) (g6 q)with
   | false =>
    rw[hap]at s2
    refine .inl ⟨.rt (.tup [.str "over",.int pr.length,.int N]),rfl,?_,rfl,rfl⟩
    clear hl hpr hap hw hp hq hk e0 hN
    unfold a1s
    walk_at "eh"
   | true =>
    rw[hap]at s2
    have hp':∀p∈pr++[x],ap (g6 p) (g6 q)=true:=fun p m=>by
     rcases List.mem_append.mp m with m | m
     ·exact hpr p m
     ·rw[List.mem_singleton.mp m];exact hap
    suffices hh:∃e2,z8 (J7 (g0 5 (.int pr.length) [.fz (t2 bx),.fz (.lst LW),.fz (.lst LP),.fz (.int N),.fz (t4 (g6 q)),un o5]) a1s)=some (.nx e2)∧∃o5,e2=[.fz (t2 bx),.fz (.lst LW),.fz (.lst LP),.fz (.int N),.fz (t4 (g6 q)),un o5] by
     obtain⟨e2,h1,h2⟩:=hh
     exact .inr ⟨e2,h1,hp',h2⟩
    clear hl hpr hap hp' hw hp hq hk e0 hN
    unfold a1s
    walk_at "eh"
    exact⟨_,rfl,some _,rfl⟩)with⟨p1,o,p2,r,h1,_,h3,⟨h4,rfl⟩,e',h6,_⟩ | ⟨e',h1,h2,o5',rfl⟩
 ·exact .inl ⟨p1,o,p2,h1,h6,h4,h3⟩
 ·exact .inr ⟨h2,o5',h1⟩
section
variable (DI:SF)(bx:Int×Int)(LW LP:List D)(q:T3×T3)(k:Int)(o3 o4 o5:Option D)(hat:atI LW k=some (t3 q.1))(hat2:atI LP k=some (t3 q.2))
theorem a8v(hat:atI LW k=some (t3 q.1))(hat2:atI LP k=some (t3 q.2))(hb1:q.2.2.2=true)(hb2:q.1.2.2=false):z8 (J7 (g0 3 (.int k) [.fz (t2 bx),.fz (.lst LW),.fz (.lst LP),un o3,un o4,un o5]) (T8 DI))=some (.rt (.tup [.str "turn",.int k])):=by
 unfold T8
 walk_at "eh"
theorem b0I(hat:atI LW k=some (t3 q.1))(hat2:atI LP k=some (t3 q.2))(hlt:(q.2.2.2=false)∨(q.2.2.2=true∧q.1.2.2=true))(ho:min (min (min (g6 q).1 (g6 q).2.1) (g6 q).2.2.1) (g6 q).2.2.2<0∨(¬min (min (min (g6 q).1 (g6 q).2.1) (g6 q).2.2.1) (g6 q).2.2.2<0∧bx.1<(g6 q).2.2.1)∨(¬min (min (min (g6 q).1 (g6 q).2.1) (g6 q).2.2.1) (g6 q).2.2.2<0∧¬bx.1<(g6 q).2.2.1∧bx.2<(g6 q).2.2.2)):z8 (J7 (g0 3 (.int k) [.fz (t2 bx),.fz (.lst LW),.fz (.lst LP),un o3,un o4,un o5]) (T8 DI))=some (.rt (.tup [.str "out",.int k])):=by
 have s1:=a1Z q
 unfold T8
 rcases hlt with hlt | ⟨hlt,hlt2⟩<;>rcases ho with ho | ⟨ho,ho2⟩ | ⟨ho,ho2,ho3⟩<;>walk_at "eh"
theorem a69(r:RS)(hat:atI LW k=some (t3 q.1))(hat2:atI LP k=some (t3 q.2))(hlt:(q.2.2.2=false)∨(q.2.2.2=true∧q.1.2.2=true))(h1:¬min (min (min (g6 q).1 (g6 q).2.1) (g6 q).2.2.1) (g6 q).2.2.2<0)(h2:¬bx.1<(g6 q).2.2.1)(h3:¬bx.2<(g6 q).2.2.2)
  (hd:DI [.fz (t2 bx),.fz (.lst LW),.fz (.lst LP),.fz (.int k),.fz (t4 (g6 q)),un o5]=some r):z8 (J7 (g0 3 (.int k) [.fz (t2 bx),.fz (.lst LW),.fz (.lst LP),un o3,un o4,un o5]) (T8 DI))=z8 (some r):=by
 have s1:=a1Z q
 unfold T8
 rcases hlt with hlt | ⟨hlt,hlt2⟩<;>walk_at "eh"
end
theorem b0J(DO:SF)(bx:Int×Int)(LW LP:List D)(hl:(LP.length:Int)=LW.length)(r:RS)(h:DO [.fz (t2 bx),.fz (.lst LW),.fz (.lst LP),.no,.no,.no]=some r):fD 6 3 (d7 (m5 (bZ (eB (y9 true) (C3 y3 2) (C3 y3 1))) (i9 (eT (aC (eC (.str "count")) (aC (C3 y3 2) aN)))) m4) (d7 DO (i9 (eC .non)))) [t2 bx,.lst LW,.lst LP]=V3 (O9 (some r) (i9 (eC .non))):=by
 walk_at "eh"
theorem a6_(bx:Int×Int)(L:List (T3×T3))(hl:L.length≤1000)(hp:∀p∈L,P7 p.1) :
  (∃v,Z6 [.fz (t2 bx),.fz (.lst (L.map wD)),.fz (.lst (L.map pD)),.no,.no,.no]=some (.rt v)∧a6o bx L v)∨(Good bx L∧∃o3 o4 o5,Z6 [.fz (t2 bx),.fz (.lst (L.map wD)),.fz (.lst (L.map pD)),.no,.no,.no]=some (.nx [.fz (t2 bx),.fz (.lst (L.map wD)),.fz (.lst (L.map pD)),un o3,un o4,un o5])):=by
 have e0:Z6 [.fz (t2 bx),.fz (.lst (L.map wD)),.fz (.lst (L.map pD)),.no,.no,.no]=t6 (g0 3) (T8 O3) (J8 (fun k (_:T3×T3)=>D.int (k:Int)) 0 L) [.fz (t2 bx),.fz (.lst (L.map wD)),.fz (.lst (L.map pD)),.no,.no,.no]:=by
  unfold Z6
  rw[a21 (ds:=[.int (L.map wD).length]) (lo:=0) (n:=L.length) (e1:=[.fz (t2 bx),.fz (.lst (L.map wD)),.fz (.lst (L.map pD)),.no,.no,.no]) rfl (by rw[a5l ⟨by omega,by rw[List.length_map];omega⟩,Int.toNat_natCast,List.length_map]),a5y]
 rw[e0]
 rcases a04 (b:=g0 3) (body:=T8 O3) (fun k (_:T3×T3)=>D.int (k:Int)) (fun pre e=>Good bx pre∧∃o3 o4 o5,e=[.fz (t2 bx),.fz (.lst (L.map wD)),.fz (.lst (L.map pD)),un o3,un o4,un o5])
  (fun pre q r=>∃v,r=.rt v∧Flt bx pre q (v=.tup [.str "turn",.int pre.length]) (v=.tup [.str "out",.int pre.length]) (fun i=>v=.tup [.str "over",.int i,.int pre.length]))
  L [.fz (t2 bx),.fz (.lst (L.map wD)),.fz (.lst (L.map pD)),.no,.no,.no] ⟨.nil,none,none,none,rfl⟩ (by
   rintro pre q post e hq ⟨g,o3,o4,o5,rfl⟩
   have hat:atI (L.map wD) (pre.length:Int)=some (t3 q.1):=by rw[hq];exact V9 wD
   have hat2:atI (L.map pD) (pre.length:Int)=some (t3 q.2):=by rw[hq];exact V9 pD
   have hpq:P7 q.1:=hp q (by rw[hq];simp)
   have hin:=a8u bx (L.map wD) (L.map pD) pre q (by rw[hq,List.length_append]at hl;omega) (fun p m=>hp p (by rw[hq];exact List.mem_append_left _ m)) hpq (fun p1 o p2 e=>by
    rw[hq,e,List.append_assoc]
    exact⟨V9 wD,V9 pD⟩)
   clear hq hl hp e0
   cases hb:M7 q with
   | true =>
    have hb1:q.2.2.2=true:=by unfold M7 at hb;simp at hb;exact hb.1
    have hb2:q.1.2.2=false:=by unfold M7 at hb;simp at hb;exact hb.2
    exact .inl ⟨.rt (.tup [.str "turn",.int pre.length]),rfl,a8v O3 bx _ _ q _ o3 o4 o5 hat hat2 hb1 hb2,_,rfl,.inl ⟨hb,rfl⟩⟩
   | false =>
    have hlt:(q.2.2.2=false)∨(q.2.2.2=true∧q.1.2.2=true):=by
     unfold M7 at hb
     cases h:q.2.2.2
     ·exact .inl rfl
     ·rw[h]at hb;simp at hb;exact .inr ⟨rfl,hb⟩
    have ho:=b0H bx (g6 q) (a1r hpq)
    cases hi:ins bx (g6 q)with
    | false =>
     rw[hi]at ho
     replace ho:min (min (min (g6 q).1 (g6 q).2.1) (g6 q).2.2.1) (g6 q).2.2.2<0∨(¬min (min (min (g6 q).1 (g6 q).2.1) (g6 q).2.2.1) (g6 q).2.2.2<0∧bx.1<(g6 q).2.2.1)∨(¬min (min (min (g6 q).1 (g6 q).2.1) (g6 q).2.2.1) (g6 q).2.2.2<0∧¬bx.1<(g6 q).2.2.1∧bx.2<(g6 q).2.2.2):=by
      have ho:=ho.symm
      simp only[Bool.not_eq_false',Bool.or_eq_true,decide_eq_true_eq]at ho
      omega
     exact .inl ⟨.rt (.tup [.str "out",.int pre.length]),rfl,b0I O3 bx _ _ q _ o3 o4 o5 hat hat2 hlt ho,_,rfl,.inr (.inl ⟨hb,hi,rfl⟩)⟩
    | true =>
     rw[hi]at ho
     replace ho:¬min (min (min (g6 q).1 (g6 q).2.1) (g6 q).2.2.1) (g6 q).2.2.2<0∧¬bx.1<(g6 q).2.2.1∧¬bx.2<(g6 q).2.2.2:=by
      have ho:=ho.symm
      simp only[Bool.not_eq_true',Bool.or_eq_false_iff,decide_eq_false_iff_not]at ho
      exact ho
     obtain⟨h1,h2,h3⟩:=ho
     rcases hin o5 with⟨p1,o,p2,i1,i2,i3,i4⟩ | ⟨i1,o5',i4⟩
     ·exact .inl ⟨.rt (.tup [.str "over",.int p1.length,.int pre.length]),rfl,a69 O3 bx _ _ q _ o3 o4 o5 _ hat hat2 hlt h1 h2 h3 i4,_,rfl,.inr (.inr ⟨hb,hi,p1,o,p2,i1,i2,i3,rfl⟩)⟩
     ·exact .inr ⟨_,a69 O3 bx _ _ q _ o3 o4 o5 _ hat hat2 hlt h1 h2 h3 i4,g.snoc hb hi i1,some _,some _,o5',rfl⟩)with⟨pre,q,post,r,k1,_,k3,⟨v,rfl,k4⟩,e',k5,_⟩ | ⟨e',k1,k2,o3,o4,o5,rfl⟩
 ·exact .inl ⟨v,k3,.inr ⟨pre,q,post,k1,k5,k4⟩⟩
 ·exact .inr ⟨k2,o3,o4,o5,k1⟩
theorem b10(bx:Int×Int)(L:List (T3×T3))(hl:L.length≤1000)(hp:∀p∈L,P7 p.1):∃v,M6 [t2 bx,.lst (L.map wD),.lst (L.map pD)]=some (.ret v)∧a6o bx L v:=by
 have hf:a5v=(d7 (m5 (bZ (eB (y9 true) (C3 y3 2) (C3 y3 1))) (i9 (eT (aC (eC (.str "count")) (aC (C3 y3 2) aN)))) m4) (d7 Z6 (i9 (eC .non)))):=rfl
 have l1:((L.map pD).length:Int)=(L.map wD).length:=by rw[List.length_map,List.length_map]
 have F:=fun r=>b0J Z6 bx (L.map wD) (L.map pD) l1 r
 rw[← hf]at F
 rcases a6_ bx L hl hp with⟨v,h1,h2⟩ | ⟨h1,o3,o4,o5,h2⟩
 ·exact⟨v,F _ h1,h2⟩
 ·exact⟨.non,F _ h2,.inl ⟨rfl,h1⟩⟩
theorem b11(l:List T3):y6 (l.map t3)=true:=a4Q fun a _=>rfl
theorem b12(l:List T3):B0 (l.map t3)≤2:=a6Q fun a _=>by simp[G4,B0]
abbrev ch(c:Nat):D:=.str ⟨#[c]⟩
def z9(w h:Nat)(f:Nat→Nat→Nat):List (List D):=(List.range h).map fun y=>(List.range w).map fun x=>ch (f x y)
theorem a1B{α:Type}(n i:Nat)(g:Nat→α)(v:α):((List.range n).map g).set i v=(List.range n).map fun j=>if j=i then v else g j:=by
 apply List.ext_getElem?
 intro j
 rw[List.getElem?_set,List.getElem?_map,List.getElem?_map,List.length_map,List.length_range]
 by_cases z:j<n
 ·rw[List.getElem?_range z]
  by_cases e:i=j
  ·subst e
   rw[if_pos rfl,if_pos z]
   show _=some (if i=i then v else g i)
   rw[if_pos rfl]
  ·rw[if_neg e]
   show some (g j)=some (if j=i then v else g j)
   rw[if_neg (Ne.symm e)]
 ·rw[List.getElem?_eq_none (by rw[List.length_range];omega)]
  by_cases e:i=j
  ·subst e;rw[if_pos rfl,if_neg z];rfl
  ·rw[if_neg e];rfl
def upf(f:Nat→Nat→Nat)(x y c:Nat):Nat→Nat→Nat:=fun u v=>if u=x∧v=y then c else f u v
theorem a8w(w h:Nat)(f:Nat→Nat→Nat)(x y c:Nat):(z9 w h f).set y (((List.range w).map fun u=>ch (f u y)).set x (ch c))=z9 w h (upf f x y c):=by
 unfold z9
 rw[a1B,a1B]
 refine List.map_congr_left fun v _=>?_
 by_cases e:v=y
 ·subst e
  rw[if_pos rfl]
  refine List.map_congr_left fun u _=>?_
  unfold upf
  by_cases d:u=x
  ·rw[if_pos d,if_pos ⟨d,rfl⟩]
  ·rw[if_neg d,if_neg (fun z=>d z.1)]
 ·rw[if_neg e]
  refine List.map_congr_left fun u _=>?_
  unfold upf
  rw[if_neg (fun z=>e z.2)]
theorem a8x(w h:Nat)(f:Nat→Nat→Nat)(y:Nat)(hy:y<h):(z9 w h f)[y]? = some ((List.range w).map fun u=>ch (f u y)):=by
 unfold z9
 rw[List.getElem?_map,List.getElem?_range hy]
 rfl
theorem a8y(w h:Nat)(f:Nat→Nat→Nat):(z9 w h f).length=h:=by unfold z9;rw[List.length_map,List.length_range]
theorem b0K(w h:Nat)(f:Nat→Nat→Nat)(x y c:Nat)(hx:x<w)(hy:y<h)(d0 d1 d2 d3 d5 d6:D):a6g 4 7 8 (ch c) (z9 w h f) [.fz d0,.fz d1,.fz d2,.fz d3,.no,.fz d5,.fz d6,.fz (.int (y:Int)),.fz (.int (x:Int))]=some (z9 w h (upf f x y c),[.fz d0,.fz d1,.fz d2,.fz d3,.no,.fz d5,.fz d6,.fz (.int (y:Int)),.fz (.int (x:Int))]):=by
 have hx2:N2 ((List.range w).map fun u=>ch (f u y)).length (x:Int)=some x:=by rw[List.length_map,List.length_range];exact a1p hx
 have hy2:N2 (z9 w h f).length (y:Int)=some y:=by rw[a8y];exact a1p hy
 unfold a6g
 simp only[List.getElem?_cons_succ,List.getElem?_cons_zero]
 rw[hy2]
 dsimp only
 rw[a8x w h f y hy]
 dsimp only
 rw[hx2]
 dsimp only
 rw[a8w]
abbrev sgE(S:Str):ZF:=(eB a2Z (eC (.str S)) (eV 5))
abbrev wP(S:Str):WF:=a4x 4 7 8 (sgE S)
def J6(S:Str)(k:Nat):Nat:=(S.cps.toList[k]?).getD 0
theorem b13(S:Str)(hS:S.length≤100)(k:Nat)(hk:k<S.length)(s0 s1 s2 s3 s4 s6 s7 s8:Sl):sgE S [s0,s1,s2,s3,s4,.fz (.int (k:Int)),s6,s7,s8]=some (.ok (ch (J6 S k)) [s0,s1,s2,s3,s4,.fz (.int (k:Int)),s6,s7,s8]):=by
 have hk':k<S.cps.toList.length:=by rw[Array.length_toList];exact hk
 have h1:a2Z (.str S) (.int (k:Int))=some (ch (J6 S k)):=by
  show(if S.length≤sizeLine then Option.map (fun c=>D.str { cps := #[c] }) (atI S.cps.toList (k:Int))else none)=_
  rw[if_pos (by show _≤2 ^ 24;omega),a1R (List.getElem?_eq_getElem hk')]
  unfold J6
  rw[List.getElem?_eq_getElem hk']
  rfl
 show Y9 (a2Z (.str S) (.int (k:Int))) _=_
 rw[h1]
 rfl
theorem b2q(S:Str)(hS:S.length≤100)(k:Nat)(hk:k<S.length)(w h:Nat)(f:Nat→Nat→Nat)(x y:Nat)(hx:x<w)(hy:y<h)(d0 d1 d2 d3 d6:D):wP S (z9 w h f) [.fz d0,.fz d1,.fz d2,.fz d3,.no,.fz (.int (k:Int)),.fz d6,.fz (.int (y:Int)),.fz (.int (x:Int))]=some (z9 w h (upf f x y (J6 S k)),[.fz d0,.fz d1,.fz d2,.fz d3,.no,.fz (.int (k:Int)),.fz d6,.fz (.int (y:Int)),.fz (.int (x:Int))]):=by
 unfold wP a4x
 rw[b13 S hS k hk]
 dsimp only
 refine(if_pos (by rfl)).trans ?_
 exact b0K w h f x y _ hx hy d0 d1 d2 d3 _ d6
theorem a5z(a n:Nat):A6 (a:Int) n=(List.range' a n).map fun(x:Nat)=>D.int (x:Int):=by
 unfold A6
 rw[List.range'_eq_map_range,List.map_map]
 refine List.map_congr_left fun i _=>?_
 show D.int ((a:Int)+(i:Int))=D.int ((a+i:Nat):Int)
 rw[Int.natCast_add]
def Y5(f:Nat→Nat→Nat)(c y x1 n:Nat):Nat→Nat→Nat:=fun u v=>if v=y∧x1≤u∧u<x1+n then c else f u v
theorem a0_{r:Nat}{b:GF}{body:WF}{d:D}{ds:List D}{dss dss1:List (List D)}{e e1 e2:DE}(h1:b d e=some e1)(h2:okW r e1=true)(h3:body dss e1=some (dss1,e2)):G5 r b body (d::ds) dss e=G5 r b body ds dss1 e2:=by
 rw[G5,h1]
 dsimp only
 rw[if_pos h2,h3]
theorem a7a(S:Str)(hS:S.length≤100)(k:Nat)(hk:k<S.length)(w h y:Nat)(hy:y<h)(d0 d1 d2 d3 d6:D):∀(n x1:Nat) (f:Nat→Nat→Nat) (o8:Option D),x1+n≤w→∃o8':Option D,G5 4 (g0 8) (wP S) ((List.range' x1 n).map fun(x:Nat)=>D.int (x:Int)) (z9 w h f) [.fz d0,.fz d1,.fz d2,.fz d3,.no,.fz (.int (k:Int)),.fz d6,.fz (.int (y:Int)),un o8]=some (z9 w h (Y5 f (J6 S k) y x1 n),[.fz d0,.fz d1,.fz d2,.fz d3,.no,.fz (.int (k:Int)),.fz d6,.fz (.int (y:Int)),un o8'])
 | 0,x1,f,o8,_=>by
  refine⟨o8,?_⟩
  have:Y5 f (J6 S k) y x1 0=f:=by
   funext u v
   unfold Y5
   rw[if_neg (by omega)]
  rw[this]
  rfl
 | n+1,x1,f,o8,hw=>by
  obtain⟨o8',ih⟩:=a7a S hS k hk w h y hy d0 d1 d2 d3 d6 n (x1+1) (upf f x1 y (J6 S k)) (some (.int (x1:Int))) (by omega)
  refine⟨o8',?_⟩
  rw[List.range'_succ,List.map_cons,a0_ (e1:=[.fz d0,.fz d1,.fz d2,.fz d3,.no,.fz (.int (k:Int)),.fz d6,.fz (.int (y:Int)),.fz (.int (x1:Int))]) (by cases o8<;>rfl) rfl (b2q S hS k hk w h f x1 y (by omega) hy d0 d1 d2 d3 d6)]
  refine Eq.trans ih ?_
  have:Y5 (upf f x1 y (J6 S k)) (J6 S k) y (x1+1) n=Y5 f (J6 S k) y x1 (n+1):=by
   funext u v
   unfold Y5 upf
   split
   ·rw[if_pos (by omega)]
   ·split
    ·rw[if_pos (by omega)]
    ·rw[if_neg (by omega)]
  rw[this]
theorem a7b{a b:Int}(h1:0≤a)(h2:a≤1000)(h3:0≤b)(h4:b≤1000):a2Q [.int a,.int b]=some (a,(b-a).toNat):=by
 unfold a2Q
 show(if _ then _ else _)=_
 rw[if_pos (by omega)]
abbrev a6q(S:Str):WF:=(X3 4 (aC (eB h9 (eV 6) (eC (.int 0))) (aC (eB h9 (eV 6) (eC (.int 2))) aN)) (g0 8) (wP S))
theorem a4G{r:Nat}{f:AF}{b:GF}{body:WF}{dss:List (List D)}{e e1:DE}{ds:List D}{lo:Int}{n:Nat}(h:f e=some (.ok ds e1))(h2:okW r e1=true)(hr:a2Q ds=some (lo,n)):X3 r f b body dss e=G5 r b body (A6 lo n) dss e1:=by
 unfold X3;rw[h];dsimp only;rw[if_pos h2,hr]
theorem b0L(S:Str)(hS:S.length≤100)(k:Nat)(hk:k<S.length)(w h y:Nat)(hy:y<h)(hw:w≤60)(d0 d1 d2 d3:D)(x1 x2:Nat)(y1 y2:Int)(hx:x1≤x2)(hx2:x2≤w)(f:Nat→Nat→Nat)(o8:Option D):∃o8':Option D,a6q S (z9 w h f) [.fz d0,.fz d1,.fz d2,.fz d3,.no,.fz (.int (k:Int)),.fz (t4 ((x1:Int),y1,(x2:Int),y2)),.fz (.int (y:Int)),un o8]=some (z9 w h (Y5 f (J6 S k) y x1 (x2-x1)),[.fz d0,.fz d1,.fz d2,.fz d3,.no,.fz (.int (k:Int)),.fz (t4 ((x1:Int),y1,(x2:Int),y2)),.fz (.int (y:Int)),un o8']):=by
 have e0:(aC (eB h9 (eV 6) (eC (.int 0))) (aC (eB h9 (eV 6) (eC (.int 2))) aN)) [.fz d0,.fz d1,.fz d2,.fz d3,.no,.fz (.int (k:Int)),.fz (t4 ((x1:Int),y1,(x2:Int),y2)),.fz (.int (y:Int)),un o8]=some (.ok [.int (x1:Int),.int (x2:Int)] [.fz d0,.fz d1,.fz d2,.fz d3,.no,.fz (.int (k:Int)),.fz (t4 ((x1:Int),y1,(x2:Int),y2)),.fz (.int (y:Int)),un o8]):=rfl
 obtain⟨o8',h1⟩:=a7a S hS k hk w h y hy d0 d1 d2 d3 (t4 ((x1:Int),y1,(x2:Int),y2)) (x2-x1) x1 f o8 (by omega)
 refine⟨o8',?_⟩
 unfold a6q
 rw[a4G e0 (by cases o8<;>rfl) (a7b (by omega) (by omega) (by omega) (by omega)),show((x2:Int)-(x1:Int)).toNat=x2-x1 by omega,a5z]
 exact h1
def X6(f:Nat→Nat→Nat)(c x1 n y1 m:Nat):Nat→Nat→Nat:=fun u v=>if y1≤v∧v<y1+m∧x1≤u∧u<x1+n then c else f u v
theorem a7c(S:Str)(hS:S.length≤100)(k:Nat)(hk:k<S.length)(w h:Nat)(hw:w≤60)(d0 d1 d2 d3:D)(x1 x2:Nat)(Y1 Y2:Int)(hx:x1≤x2)(hx2:x2≤w):∀(m y1:Nat) (f:Nat→Nat→Nat) (o7 o8:Option D),y1+m≤h→∃o7' o8':Option D,G5 4 (g0 7) (a6q S) ((List.range' y1 m).map fun(x:Nat)=>D.int (x:Int)) (z9 w h f) [.fz d0,.fz d1,.fz d2,.fz d3,.no,.fz (.int (k:Int)),.fz (t4 ((x1:Int),Y1,(x2:Int),Y2)),un o7,un o8]=some (z9 w h (X6 f (J6 S k) x1 (x2-x1) y1 m),[.fz d0,.fz d1,.fz d2,.fz d3,.no,.fz (.int (k:Int)),.fz (t4 ((x1:Int),Y1,(x2:Int),Y2)),un o7',un o8'])
 | 0,y1,f,o7,o8,_=>by
  refine⟨o7,o8,?_⟩
  have:X6 f (J6 S k) x1 (x2-x1) y1 0=f:=by
   funext u v
   unfold X6
   rw[if_neg (by omega)]
  rw[this]
  rfl
 | m+1,y1,f,o7,o8,hh=>by
  obtain⟨p8,h1⟩:=b0L S hS k hk w h y1 (by omega) hw d0 d1 d2 d3 x1 x2 Y1 Y2 hx hx2 f o8
  obtain⟨o7',o8',ih⟩:=a7c S hS k hk w h hw d0 d1 d2 d3 x1 x2 Y1 Y2 hx hx2 m (y1+1) (Y5 f (J6 S k) y1 x1 (x2-x1)) (some (.int (y1:Int))) p8 (by omega)
  refine⟨o7',o8',?_⟩
  rw[List.range'_succ,List.map_cons,a0_ (e1:=[.fz d0,.fz d1,.fz d2,.fz d3,.no,.fz (.int (k:Int)),.fz (t4 ((x1:Int),Y1,(x2:Int),Y2)),.fz (.int (y1:Int)),un o8]) (by cases o7<;>rfl) (by cases o8<;>rfl) h1]
  refine Eq.trans ih ?_
  have:X6 (Y5 f (J6 S k) y1 x1 (x2-x1)) (J6 S k) x1 (x2-x1) (y1+1) m=X6 f (J6 S k) x1 (x2-x1) y1 (m+1):=by
   funext u v
   unfold X6 Y5
   split
   ·rw[if_pos (by omega)]
   ·split
    ·rw[if_pos (by omega)]
    ·rw[if_neg (by omega)]
  rw[this]
abbrev a4H(S:Str):WF:=(X3 4 (aC (eB h9 (eV 6) (eC (.int 1))) (aC (eB h9 (eV 6) (eC (.int 3))) aN)) (g0 7) (a6q S))
def a2z(f:Nat→Nat→Nat)(s:T4)(c:Nat):Nat→Nat→Nat:=fun u v=>if s.2.1≤(v:Int)∧(v:Int)<s.2.2.2∧s.1≤(u:Int)∧(u:Int)<s.2.2.1 then c else f u v
def inB(w h:Nat)(s:T4):Prop:=0≤s.1∧s.1≤s.2.2.1∧s.2.2.1≤(w:Int)∧0≤s.2.1∧s.2.1≤s.2.2.2∧s.2.2.2≤(h:Int)
theorem b0M(S:Str)(hS:S.length≤100)(k:Nat)(hk:k<S.length)(w h:Nat)(hw:w≤60)(hh:h≤60)(d0 d1 d2 d3:D)(s:T4)(hs:inB w h s)(f:Nat→Nat→Nat)(o7 o8:Option D):∃o7' o8':Option D,a4H S (z9 w h f) [.fz d0,.fz d1,.fz d2,.fz d3,.no,.fz (.int (k:Int)),.fz (t4 s),un o7,un o8]=some (z9 w h (a2z f s (J6 S k)),[.fz d0,.fz d1,.fz d2,.fz d3,.no,.fz (.int (k:Int)),.fz (t4 s),un o7',un o8']):=by
 obtain⟨X1,Y1,X2,Y2⟩:=s
 obtain⟨q1,q2,q3,q4,q5,q6⟩:=hs
 dsimp only at q1 q2 q3 q4 q5 q6
 obtain⟨x1,rfl⟩:=Int.eq_ofNat_of_zero_le q1
 obtain⟨y1,rfl⟩:=Int.eq_ofNat_of_zero_le q4
 obtain⟨x2,rfl⟩:=Int.eq_ofNat_of_zero_le (show 0≤X2 by omega)
 obtain⟨y2,rfl⟩:=Int.eq_ofNat_of_zero_le (show 0≤Y2 by omega)
 have e0:(aC (eB h9 (eV 6) (eC (.int 1))) (aC (eB h9 (eV 6) (eC (.int 3))) aN)) [.fz d0,.fz d1,.fz d2,.fz d3,.no,.fz (.int (k:Int)),.fz (t4 ((x1:Int),(y1:Int),(x2:Int),(y2:Int))),un o7,un o8]=some (.ok [.int (y1:Int),.int (y2:Int)] [.fz d0,.fz d1,.fz d2,.fz d3,.no,.fz (.int (k:Int)),.fz (t4 ((x1:Int),(y1:Int),(x2:Int),(y2:Int))),un o7,un o8]):=rfl
 obtain⟨o7',o8',h1⟩:=a7c S hS k hk w h hw d0 d1 d2 d3 x1 x2 (y1:Int) (y2:Int) (by omega) (by omega) (y2-y1) y1 f o7 o8 (by omega)
 refine⟨o7',o8',?_⟩
 unfold a4H
 rw[a4G e0 (by cases o7<;>cases o8<;>rfl) (a7b (by omega) (by omega) (by omega) (by omega)),show((y2:Int)-(y1:Int)).toNat=y2-y1 by omega,a5z]
 refine Eq.trans h1 ?_
 have:X6 f (J6 S k) x1 (x2-x1) y1 (y2-y1)=a2z f ((x1:Int),(y1:Int),(x2:Int),(y2:Int)) (J6 S k):=by
  funext u v
  unfold X6 a2z
  dsimp only
  by_cases z:y1≤v∧v<y1+(y2-y1)∧x1≤u∧u<x1+(x2-x1)
  ·rw[if_pos z,if_pos (by omega)]
  ·rw[if_neg z,if_neg (by omega)]
 rw[this]
def pnt(S:Str)(f:Nat→Nat→Nat):Nat→List T4→Nat→Nat→Nat
 | _,[]=>f
 | k,s::l=>pnt S (a2z f s (J6 S k)) (k+1) l
theorem a7d(S:Str)(hS:S.length≤100)(w h:Nat)(hw:w≤60)(hh:h≤60)(d0 d1 d2 d3:D):∀(l:List T4) (k:Nat) (f:Nat→Nat→Nat) (o5 o6 o7 o8:Option D),k+l.length≤S.length→(∀s∈l,inB w h s)→∃p5 p6 p7 p8:Option D,G5 4 (w4 [g0 5,g0 6]) (a4H S) (K0 k (l.map t4)) (z9 w h f) [.fz d0,.fz d1,.fz d2,.fz d3,.no,un o5,un o6,un o7,un o8]=some (z9 w h (pnt S f k l),[.fz d0,.fz d1,.fz d2,.fz d3,.no,un p5,un p6,un p7,un p8])
 | [],k,f,o5,o6,o7,o8,_,_=>⟨o5,o6,o7,o8,rfl⟩
 | s::l,k,f,o5,o6,o7,o8,hk,hb=>by
  rw[List.length_cons]at hk
  obtain⟨q7,q8,h1⟩:=b0M S hS k (by omega) w h hw hh d0 d1 d2 d3 s (hb s List.mem_cons_self) f o7 o8
  obtain⟨p5,p6,p7,p8,ih⟩:=a7d S hS w h hw hh d0 d1 d2 d3 l (k+1) (a2z f s (J6 S k)) (some (.int (k:Int))) (some (t4 s)) q7 q8 (by omega) (fun t m=>hb t (List.mem_cons_of_mem _ m))
  refine⟨p5,p6,p7,p8,?_⟩
  rw[List.map_cons]
  show G5 4 _ _ (.tup [.int (k:Int),t4 s]::K0 (k+1) (l.map t4)) _ _=_
  rw[a0_ (e1:=[.fz d0,.fz d1,.fz d2,.fz d3,.no,.fz (.int (k:Int)),.fz (t4 s),un o7,un o8]) (by cases o5<;>cases o6<;>rfl) (by cases o7<;>cases o8<;>rfl) h1]
  exact ih
theorem a4J(b:GF)(el:NF)(ec:DE)(y:List D):∀(ds:List D) (acc:List (List D)),acc.length+ds.length≤1000→(∀d∈ds,∃e1 e2,b d ec=some e1∧el e1=some (.ok y e2))→Q3 b el ec ds acc=some (acc++List.replicate ds.length y)
 | [],acc,_,_=>by rw[Q3,List.length_nil,List.replicate_zero,List.append_nil]
 | d::ds,acc,hl,h=>by
  rw[List.length_cons]at hl
  obtain⟨e1,e2,h1,h2⟩:=h d List.mem_cons_self
  have ih:=a4J b el ec y ds (acc++[y]) (by rw[List.length_append,List.length_singleton];omega) (fun d m=>h d (List.mem_cons_of_mem _ m))
  rw[Q3,h1]
  dsimp only
  rw[h2]
  dsimp only
  rw[if_pos (show acc.length<sizeLine by show _<2 ^ 24;omega),ih,List.append_assoc,List.length_cons,List.replicate_succ]
  rfl
theorem a6r(w h c:Nat):List.replicate h (List.replicate w (ch c))=z9 w h (fun _ _=>c):=by
 unfold z9
 rw[List.map_const',List.map_const',List.length_range,List.length_range]
theorem a8z(w:Nat)(d:D):(List.replicate w [d]).flatten=List.replicate w d:=by
 induction w with
 | zero=>rfl
 | succ n ih=>rw[List.replicate_succ,List.flatten_cons,ih];rfl
abbrev a2A:NF:=(nB a1L (zN (eL (aC (eC (.str ".")) aN))) (eB h9 (eV 1) (eC (.int 0))))
theorem b14(d:D)(w:Nat)(hw:w≤60):a1L (.lst [d]) (.int (w:Int))=some (List.replicate w d):=by
 unfold a1L
 dsimp only
 rw[if_pos ⟨by omega,by omega,by rw[List.length_singleton,Nat.one_mul];show _≤2 ^ 24;omega⟩,a8z,Int.toNat_natCast]
theorem b0N(G:D→D→Option (List D))(w hb:Int)(i:D)(R:List D)(h:G (.lst [.str "."]) (.int w)=some R):(nB G (zN (eL (aC (eC (.str ".")) aN))) (eB h9 (eV 1) (eC (.int 0)))) [.fz i,.fz (.tup [.int w,.int hb])]=some (.ok R [.fz i,.fz (.tup [.int w,.int hb])]):=by
 show Y9 (G (.lst [.str "."]) (.int w)) _=_
 rw[h]
 rfl
theorem a8A(w:Nat)(hb:Int)(hw:w≤60)(i:D):a2A [.fz i,.fz (.tup [.int (w:Int),.int hb])]=some (.ok (List.replicate w (ch 46)) [.fz i,.fz (.tup [.int (w:Int),.int hb])]):=b0N a1L (w:Int) hb i _ (b14 _ w hw)
abbrev a8B(S:Str)(SO:ZF):WF:=(a2v 4 SO (w4 [(g0 5),(g0 6)]) (a4H S))
def Q6(w h:Nat)(f:Nat→Nat→Nat):List (List Nat):=(List.range h).map fun y=>(List.range w).map fun x=>f x y
theorem a7e(w h:Nat)(f:Nat→Nat→Nat):z9 w h f=(Q6 w h f).map fun r=>r.map ch:=by
 unfold z9 Q6
 rw[List.map_map]
 refine List.map_congr_left fun y _=>?_
 show _=((List.range w).map fun x=>f x y).map ch
 rw[List.map_map]
 rfl
theorem a5A:∀(r:List Nat),X0 (r.map ch)=some (r.map fun c=>(⟨#[c]⟩:Str))
 | []=>rfl
 | c::r=>by
  show(X0 (r.map ch)).map (⟨#[c]⟩ :: ·)=_
  rw[a5A r]
  rfl
theorem a3y(g:Array Nat)(hg:g = #[]):∀(r:List Nat) (a:Array Nat),List.foldl (fun(acc:Array Nat) (p:Str)=>acc++g++p.cps) a (r.map fun c=>(⟨#[c]⟩:Str))=a++r.toArray
 | [],a=>by simp
 | c::r,a=>by
  rw[List.map_cons,List.foldl_cons,a3y g hg r,hg]
  simp
theorem b0O(r:List Nat):Txt.join "" (r.map fun c=>(⟨#[c]⟩:Str))=⟨r.toArray⟩:=by
 unfold Txt.join Builtin.Str.glued
 cases r with
 | nil=>rfl
 | cons c r =>
  have:=a3y (Str.ofString "").cps rfl r #[c]
  show Str.mk (List.foldl _ #[c] (r.map fun c=>(⟨#[c]⟩:Str)))=_
  rw[this]
  simp
abbrev a3R:ZF:=(a6f (eC (.str "")) (eV 0))
theorem a4K:∀(r:List Nat),((r.map fun c=>(⟨#[c]⟩:Str)).map (·.length)).sum=r.length
 | []=>rfl
 | c::r=>by
  rw[List.map_cons,List.map_cons,List.sum_cons,a4K r,List.length_cons]
  show 1+_=_
  omega
theorem b0P(r:List Nat)(hr:r.length≤1000):a3R [.fz (.lst (r.map ch))]=some (.ok (.str ⟨r.toArray⟩) [.fz (.lst (r.map ch))]):=by
 show(match X0 (r.map ch)with
   | some (ys:List Str)=>(if(ys.map (fun(s:Str)=>s.length)).sum+ys.length*(Str.ofString "").length≤16777216 then some (L2.R.ok (D.str (Txt.join (Str.ofString "") ys)) [Sl.fz (D.lst (r.map ch))])else none:Option (L2.R D))
   | none=>none)=_
 rw[a5A]
 dsimp only
 have hz:(Str.ofString "").length=0:=rfl
 rw[a4K,hz,Nat.mul_zero,if_pos (by omega),b0O]
abbrev b15:SF:=(a0s (a4z 1 [] (eV 4) (g0 0) T6 a3R))
theorem b16(R:List (List Nat))(hR:R.length≤1000)(hr:∀r∈R,r.length≤1000)(d0 d1 d2 d3:D)(s5 s6 s7 s8:Sl):b15 [.fz d0,.fz d1,.fz d2,.fz d3,.fz (.lst ((R.map fun r=>r.map ch).map .lst)),s5,s6,s7,s8]=some (.ro (R.reverse.map fun r=>.str ⟨r.toArray⟩)):=by
 have e1:(R.map fun r=>r.map ch).map D.lst=R.map fun r=>D.lst (r.map ch):=by rw[List.map_map];rfl
 rw[e1]
 have h:=a0y (b:=g0 0) (c:=T6) (el:=a3R) (ec:=[.no]) (eo:=[.fz d0,.fz d1,.fz d2,.fz d3,.fz (.lst (R.map fun r=>D.lst (r.map ch))),s5,s6,s7,s8]) (fun(r:List Nat)=>D.lst (r.map ch)) (fun r=>D.str ⟨r.toArray⟩) (fun _=>true) R.reverse [] (by rw[List.length_reverse];show 0+_≤2 ^ 24;omega) (fun r m=>⟨[.fz (.lst (r.map ch))],[.fz (.lst (r.map ch))],rfl,rfl,fun _=>⟨_,b0P r (hr r (List.mem_reverse.mp m))⟩⟩)
 rw[List.filter_eq_self.mpr (fun _ _=>rfl),List.nil_append,List.map_reverse]at h
 show F5 (w8 (g0 0) T6 a3R [.no] _ (R.map fun r=>D.lst (r.map ch)).reverse []) (fun ds _=>some (.ro ds))=_
 rw[h]
 rfl
abbrev drw(S:Str)(SO:ZF):SF:=(a0z 4 1 [0] (aC (eB h9 (eV 0) (eC (.int 1))) aN) (g0 0) a2A (a8B S SO) b15)
theorem a7f{n:Nat}(h:n≤1000):O8 [.int (n:Int)]=some (0,n):=by
 unfold O8
 show(if _ then _ else _)=_
 rw[if_pos (by omega)]
 simp
theorem b0Q{r k:Nat}{js:List Nat}{fa:AF}{b:GF}{el:NF}{lp:WF}{fr:SF}{e e1 e2:DE}{ds:List D}{lo:Int}{m:Nat}{dss dss':List (List D)}(h1:fa e=some (.ok ds e1))(h2:okW r e1=true)(h3:O8 ds=some (lo,m))(h4:Q3 b el (p9 k js e1) (A6 lo m) []=some dss)(h5:lp dss e1=some (dss',e2))(h6:okW r e2=true):a0z r k js fa b el lp fr e=fr (e2.set r (.fz (.lst (dss'.map .lst)))):=by
 unfold a0z
 rw[h1]
 dsimp only
 rw[if_pos h2,h3]
 dsimp only
 rw[h4]
 dsimp only
 rw[h5]
 dsimp only
 rw[if_pos h6]
theorem b0R{S:Str}{SO:ZF}{e e1:DE}{ds:List D}{dss:List (List D)}(h1:SO e=some (.ok (.lst ds) e1))(h2:okW 4 e1=true):a8B S SO dss e=G5 4 (w4 [g0 5,g0 6]) (a4H S) (K0 0 ds) dss e1:=by
 unfold a8B a2v
 rw[h1]
 dsimp only
 rw[if_pos h2]
 rfl
theorem b17(S:Str)(SO:ZF)(hS:S.length≤100)(w h:Nat)(hw:w≤60)(hh:h≤60)(d1 d2 d3:D)(l:List T4)(hl:l.length≤S.length)(hb:∀s∈l,inB w h s)
  (hs:SO [.fz (.tup [.int (w:Int),.int (h:Int)]),.fz d1,.fz d2,.fz d3,.no,.no,.no,.no,.no]=some (.ok (.lst (l.map t4)) [.fz (.tup [.int (w:Int),.int (h:Int)]),.fz d1,.fz d2,.fz d3,.no,.no,.no,.no,.no])) :
  drw S SO [.fz (.tup [.int (w:Int),.int (h:Int)]),.fz d1,.fz d2,.fz d3,.no,.no,.no,.no,.no]=some (.ro ((Q6 w h (pnt S (fun _ _=>46) 0 l)).reverse.map fun r=>.str ⟨r.toArray⟩)):=by
 have h1:(aC (eB h9 (eV 0) (eC (.int 1))) aN) [.fz (.tup [.int (w:Int),.int (h:Int)]),.fz d1,.fz d2,.fz d3,.no,.no,.no,.no,.no]=some (.ok [.int (h:Int)] [.fz (.tup [.int (w:Int),.int (h:Int)]),.fz d1,.fz d2,.fz d3,.no,.no,.no,.no,.no]):=rfl
 have h4:Q3 (g0 0) a2A [.no,.fz (.tup [.int (w:Int),.int (h:Int)])] (A6 0 h) []=some (z9 w h (fun _ _=>46)):=by
  rw[a4J (g0 0) a2A _ (List.replicate w (ch 46)) (A6 0 h) [] (by rw[V0];show 0+_≤_;omega) (fun d _=>⟨[.fz d,.fz (.tup [.int (w:Int),.int (h:Int)])],_,rfl,a8A w h hw d⟩),V0,List.nil_append,a6r]
 obtain⟨p5,p6,p7,p8,h5⟩:=a7d S hS w h hw hh (.tup [.int (w:Int),.int (h:Int)]) d1 d2 d3 l 0 (fun _ _=>46) none none none none (by omega) hb
 unfold drw
 rw[b0Q h1 rfl (a7f (by omega)) h4 ((b0R hs rfl).trans h5) (by cases p5<;>cases p6<;>cases p7<;>cases p8<;>rfl),a7e]
 refine b16 (Q6 w h (pnt S (fun _ _=>46) 0 l)) (by unfold Q6;rw[List.length_map,List.length_range];omega) (fun r m=>?_) _ d1 d2 d3 (un p5) (un p6) (un p7) (un p8)
 unfold Q6 at m
 obtain⟨y,_,rfl⟩:=List.mem_map.mp m
 rw[List.length_map,List.length_range]
 omega
abbrev stB(GM:D→D→Option D):SF:=(d7 (r9 3 (eB k8 (eB A1 (eB A1 (eB GM (eV 3) (eC (.int 69621))) (eB GM (eB GM (eV 4) (eV 4)) (eC (.int 7919)))) (eC (.int 48271))) (eC (.int 2147483647)))) (S4 2 (eV 3)))
theorem b2R(GM:D→D→Option D)(c m:D)(A:List D)(n k a b d:Int)(h1:GM (.int n) (.int 69621)=some (.int a))(h2:GM (.int k) (.int k)=some (.int b))(h3:GM (.int b) (.int 7919)=some (.int d))(hA:A.length<sizeLine) :
  stB GM [.fz c,.fz m,.ow A,.fz (.int n),.fz (.int k)]=some (.nx [.fz c,.fz m,.ow (A++[.int ((a+d+48271)%2147483647)]),.fz (.int ((a+d+48271)%2147483647)),.fz (.int k)]):=by
 unfold stB
 walk_at "eh"
theorem b2S(LP:SF)(c m:Int)(A:List D)(n:D)(o4:Option D)(h:LP [.fz (.int c),.fz (.int m),.ow [],.fz (.int (c%2147483647)),.no]=some (.nx [.fz (.int c),.fz (.int m),.ow A,.fz n,un o4])):fD 5 2 (d7 (N8 2 (eL aN)) (d7 (r9 3 (eB k8 (eV 0) (eC (.int 2147483647)))) (d7 LP (T1 2)))) [.int c,.int m]=some (.own A):=by
 walk_at "eh"
theorem b2T(m:Nat):A6 0 m=(List.range m).map fun(k:Nat)=>D.int (k:Int):=by
 unfold A6
 refine List.map_congr_left fun i _=>?_
 rw[Int.zero_add]
theorem a7g(c:Int)(m:Nat)(hm:m≤1000):∃L:List Int,L.length=m∧D7 [.int c,.int (m:Int)]=some (.own (L.map D.int)):=by
 obtain⟨e',lp,L,n,o4,hL,rfl⟩:=a5q (b:=g0 4) (body:=stB K9) (fun(k:Nat)=>D.int (k:Int)) (fun pre e=>∃(L:List Int) (n:Int) (o4:Option D),L.length=pre.length∧e=[.fz (.int c),.fz (.int (m:Int)),.ow (L.map D.int),.fz (.int n),un o4]) (List.range m) [.fz (.int c),.fz (.int (m:Int)),.ow [],.fz (.int (c%2147483647)),.no] ⟨[],_,none,rfl,rfl⟩ (by
  rintro pre k post e hq ⟨L,n,o4,hL,rfl⟩
  have hk:k<m:=List.mem_range.mp (by rw[hq];simp)
  have hp:pre.length<m:=by have:=congrArg List.length hq;rw[List.length_range,List.length_append,List.length_cons]at this;omega
  have hb:g0 4 (.int (k:Int)) [.fz (.int c),.fz (.int (m:Int)),.ow (L.map D.int),.fz (.int n),un o4]=some [.fz (.int c),.fz (.int (m:Int)),.ow (L.map D.int),.fz (.int n),.fz (.int (k:Int))]:=by cases o4<;>rfl
  rw[hb,M0]
  refine⟨_,(congrArg z8 (b2R K9 (.int c) (.int (m:Int)) (L.map D.int) n (k:Int) _ _ _ (a2m (by decide)) (a2m (by omega)) (a2m (by decide)) (by rw[List.length_map];show _<2 ^ 24;omega))).trans rfl,L++[(n*69621+(k:Int)*k*7919+48271)%2147483647],(n*69621+(k:Int)*k*7919+48271)%2147483647,some (.int (k:Int)),by rw[List.length_append,List.length_append,hL];rfl,?_⟩
  rw[List.map_append]
  rfl)
 refine⟨L,by rw[hL,List.length_range],b2S _ c m _ (.int n) o4 ?_⟩
 have e0:(aC (eV 1) aN) [.fz (.int c),.fz (.int (m:Int)),.ow [],.fz (.int (c%2147483647)),.no]=some (.ok [.int (m:Int)] [.fz (.int c),.fz (.int (m:Int)),.ow [],.fz (.int (c%2147483647)),.no]):=rfl
 rw[a21 e0 (a7f hm),b2T]
 exact lp
abbrev a0D:Str := "0123456789abcdefghijklmnopqrstuvwxyzABCDEFGHIJKLMNOPQRSTUVWXYZ"
theorem Z7(a:Int):r8 [.int a]=some (.ret (.bl (decide (a≥1) && decide (a≤60)))):=by
 unfold r8 X4
 by_cases z:a≥1
 ·rw[decide_eq_true z,Bool.true_and]
  walk_at "eh"
 ·rw[decide_eq_false z,Bool.false_and]
  walk_at "eh"
theorem a8C(SS FA:List D→Option R1)(GL:D→Option D)(DR RZ:SF)(a b:Int)(p q:Bool)(A B:List D)(g:GL (.str "0123456789abcdefghijklmnopqrstuvwxyzABCDEFGHIJKLMNOPQRSTUVWXYZ")=some (.int 62))(h1:SS [.int a]=some (.ret (.bl p)))(h2:SS [.int b]=some (.ret (.bl q)))(hc:p=false∨(p=true∧q=false)∨(p=true∧q=true∧(A.length:Int) > 62)):fD 9 3 (d7 (m5 (B2 (u4 (bZ (g8 SS (aC (eB h9 (eV 0) (eC (.int 0))) aN)))) (B2 (u4 (bZ (g8 SS (aC (eB h9 (eV 0) (eC (.int 1))) aN)))) (bZ (eB G0 (C3 y3 1) (A9 (g1 GL) (aC (eC (.str "0123456789abcdefghijklmnopqrstuvwxyzABCDEFGHIJKLMNOPQRSTUVWXYZ")) aN)))))) (Z1 "NoSheet" (aC (eC (.str "the box or the wares are too many for a sheet")) aN)) m4) (d7 (K6 3 FA (aC (eV 0) (aC (eV 1) (aC (eV 2) aN)))) (d7 (m5 (bZ (eB (G1 true) (eV 3) (eC .non))) RZ m4) DR))) [.tup [.int a,.int b],.lst A,.lst B]=some (.ex (.p "NoSheet")):=by
 rcases hc with rfl | ⟨rfl,rfl⟩ | ⟨rfl,rfl,hc⟩<;>walk_at "eh"
theorem a9f(SS FA:List D→Option R1)(GL:D→Option D)(DR RZ:SF)(a b:Int)(p q:Bool)(A B:List D)(g:GL (.str "0123456789abcdefghijklmnopqrstuvwxyzABCDEFGHIJKLMNOPQRSTUVWXYZ")=some (.int 62))(h1:SS [.int a]=some (.ret (.bl p)))(h2:SS [.int b]=some (.ret (.bl q)))(hp:p=true)(hq:q=true)(hl:¬(A.length:Int) > 62)(v:D)(h3:FA [.tup [.int a,.int b],.lst A,.lst B]=some (.ret v))(r:Option RS)(hv:(G1 true v .non=some (.bl true)∧RZ [.fz (.tup [.int a,.int b]),.fz (.lst A),.fz (.lst B),.fz v,.no,.no,.no,.no,.no]=r∧(∃c,r=some (.ex c)))∨(G1 true v .non=some (.bl false)∧DR [.fz (.tup [.int a,.int b]),.fz (.lst A),.fz (.lst B),.fz v,.no,.no,.no,.no,.no]=r)):fD 9 3 (d7 (m5 (B2 (u4 (bZ (g8 SS (aC (eB h9 (eV 0) (eC (.int 0))) aN)))) (B2 (u4 (bZ (g8 SS (aC (eB h9 (eV 0) (eC (.int 1))) aN)))) (bZ (eB G0 (C3 y3 1) (A9 (g1 GL) (aC (eC (.str "0123456789abcdefghijklmnopqrstuvwxyzABCDEFGHIJKLMNOPQRSTUVWXYZ")) aN)))))) (Z1 "NoSheet" (aC (eC (.str "the box or the wares are too many for a sheet")) aN)) m4) (d7 (K6 3 FA (aC (eV 0) (aC (eV 1) (aC (eV 2) aN)))) (d7 (m5 (bZ (eB (G1 true) (eV 3) (eC .non))) RZ m4) DR))) [.tup [.int a,.int b],.lst A,.lst B]=V3 r:=by
 subst hp hq
 generalize G1 true=GN at *
 rcases hv with⟨z,e,c,rfl⟩ | ⟨z,e⟩
 ·walk_at "eh"
 ·walk_at "eh"
theorem b0S(GM GP:D→D→Option D)(i p t m:Int)(h1:GP (.int 7919) (.int 11)=some (.int p))(h2:GP (.int 10) (.int 42)=some (.int t))(h3:GM (.int (i/5)) (.int p)=some (.int m))(ht:0<t+1):∃v,fD 2 1 (d7 (r9 1 (eB E8 (eV 0) (eC (.int 5)))) (d7 (m5 (bZ (eB (y9 false) (eB k8 (eV 0) (eC (.int 5))) (eC (.int 1)))) (i9 (eC (.int 60))) m4) (d7 (m5 (bZ (eB (y9 false) (eB k8 (eV 0) (eC (.int 5))) (eC (.int 2)))) (i9 (eB u9 (zN (eL (aC (eC (.int 61)) (aC (eC (.int 0)) aN)))) (eB k8 (eV 1) (eC (.int 2))))) m4) (d7 (m5 (U8 (bZ (eB (y9 false) (eB k8 (eV 0) (eC (.int 5))) (eC (.int 3)))) (bZ (eB (y9 false) (eB k8 (eV 1) (eC (.int 3))) (eC (.int 1))))) (i9 (eB k8 (eB GM (eV 1) (eB GP (eC (.int 7919)) (eC (.int 11)))) (eB A1 (eB GP (eC (.int 10)) (eC (.int 42))) (eC (.int 1))))) m4) (d7 (m5 (bZ (eB (y9 false) (eB k8 (eV 0) (eC (.int 5))) (eC (.int 3)))) (i9 (eB A1 (eC (.int 21)) (eB k8 (eV 1) (eC (.int 40))))) m4) (i9 (eB A1 (eC (.int 1)) (eB k8 (eV 1) (eC (.int 12)))))))))) [.int i]=some (.ret (.int v)):=by
 by_cases z1:i%5=1
 ·exact⟨60,by walk_at "eh"⟩
 ·by_cases z2:i%5=2
  ·rcases(show i/5%2=0∨i/5%2=1 by omega)with y | y
   ·exact⟨61,by walk_at "eh"⟩
   ·exact⟨0,by walk_at "eh"⟩
  ·by_cases z3:i%5=3
   ·by_cases z4:i/5%3=1
    ·exact⟨m%(t+1),by walk_at "eh"⟩
    ·exact⟨21+i/5%40,by walk_at "eh"⟩
   ·exact⟨1+i/5%12,by walk_at "eh"⟩
theorem a4L{i:Int}(h:Fits i):∃v,G7 [.int i]=some (.ret (.int v)):=by
 have hm:K9 (.int (i/5)) (.int (7919 ^ Int.toNat 11))=some (.int (i/5*7919 ^ Int.toNat 11)):=a5k (h.div.mul (a7S (by decide +kernel)))
 exact b0S K9 a0p i (7919 ^ Int.toNat 11) (10 ^ Int.toNat 42) _ (a1n (by decide +kernel)) (a1n (by decide +kernel)) hm (by decide)
abbrev caB:SF:=(d7 (r9 6 (eB (y9 false) (eB k8 (eV 5) (eC (.int 3))) (eC (.int 1)))) (d7 (S4 2 (eT (aC (eB A1 (eC (.int 1)) (eB k8 (eB E8 (eV 5) (eC (.int 3))) (eC (.int 3)))) (aC (eB A1 (eC (.int 1)) (eB k8 (eB E8 (eV 5) (eC (.int 9))) (eC (.int 3)))) (aC (eOr (eV 6) (eB (y9 false) (eB k8 (eB E8 (eV 5) (eC (.int 27))) (eC (.int 2))) (eC (.int 1)))) aN))))) (S4 3 (eT (aC (eB K9 (eB k8 (eV 4) (eC (.int 7))) (eC (.int 3))) (aC (eB K9 (eB E8 (eV 4) (eC (.int 7))) (eC (.int 3))) (aC (eV 6) aN)))))))
theorem b2U(s0 s1:D)(A B:List D)(k num:Int)(o6:Option D)(b1 b2:Bool)(e1:decide (num%3=1)=b1)(e2:decide (num/27%2=1)=b2)(hA:A.length<sizeLine)(hB:B.length<sizeLine):caB [.fz s0,.fz s1,.ow A,.ow B,.fz (.int k),.fz (.int num),un o6,.no,.no,.no,.no]=some (.nx [.fz s0,.fz s1,.ow (A++[t3 (1+num/3%3,1+num/9%3,b1 || b2)]),.ow (B++[t3 (k%7*3,k/7*3,b1)]),.fz (.int k),.fz (.int num),.fz (.bl b1),.no,.no,.no,.no]):=by
 unfold caB
 by_cases z1:num%3=1
 ·rw[decide_eq_true z1]at e1
  subst e1
  walk_at "eh"
 ·rw[decide_eq_false z1]at e1
  subst e1
  by_cases z2:num/27%2=1
  ·rw[decide_eq_true z2]at e2
   subst e2
   walk_at "eh"
   rfl
  ·rw[decide_eq_false z2]at e2
   subst e2
   walk_at "eh"
   rfl
abbrev caT(CE:List D→Option R1)(GP:D→D→Option D):SF:=(d7 (r9 7 (eB k8 (g8 CE (aC (eV 0) (aC (eC (.int 5)) aN))) (eB GP (eC (.int 10)) (eC (.int 9))))) (d7 (m5 (U8 (bZ (eB G0 (eV 1) (eC (.int 0)))) (bZ (eB G0 (eB k8 (eV 7) (eC (.int 4))) (eC (.int 0))))) (d7 (r9 8 (eB k8 (g8 CE (aC (eV 0) (aC (eC (.int 4)) aN))) (eV 1))) (d7 (X9 (A2 u9 3 (eV 8)) (w4 [(g0 9),(g0 10),(g0 6)])) (d7 (m5 (bZ (eB (y9 false) (eB k8 (eV 7) (eC (.int 4))) (eC (.int 1)))) (r9 9 (eB W6 (eB A1 (eV 9) (eB k8 (eB E8 (eV 7) (eC (.int 4))) (eC (.int 7)))) (eC (.int 3)))) m4) (d7 (m5 (bZ (eB (y9 false) (eB k8 (eV 7) (eC (.int 4))) (eC (.int 2)))) (r9 10 (eB W6 (eB A1 (eV 10) (eB k8 (eB E8 (eV 7) (eC (.int 4))) (eC (.int 7)))) (eC (.int 3)))) m4) (a55 3 (eV 8) (eT (aC (eV 9) (aC (eV 10) (aC (eOr (eV 6) (eB (y9 false) (eB k8 (eV 7) (eC (.int 4))) (eC (.int 3)))) aN))))))))) m4) (i9 (eT (aC (eV 2) (aC (eV 3) aN))))))
theorem b2r(CE:List D→Option R1)(GP:D→D→Option D)(ns:List Int)(n c5 t:Int)(A B:List D)(o4 o5 o6:Option D)(k5:CE [.scr ns,.int 5]=some (.ret (.int c5)))(gp:GP (.int 10) (.int 9)=some (.int t))(ht:0<t)(hc:¬n > 0∨(n > 0∧¬c5%t%4 > 0)):caT CE GP [.fz (.scr ns),.fz (.int n),.ow A,.ow B,un o4,un o5,un o6,.no,.no,.no,.no]=some (.rt (.tup [.lst A,.lst B])):=by
 unfold caT
 rcases hc with hc | ⟨hn,hc⟩<;>walk_at "eh"
theorem b2s(CE:List D→Option R1)(GP:D→D→Option D)(ns:List Int)(n c4 c5 t:Int)(A B:List D)(o4 o5 o6:Option D)(k5:CE [.scr ns,.int 5]=some (.ret (.int c5)))(k4:CE [.scr ns,.int 4]=some (.ret (.int c4)))(gp:GP (.int 10) (.int 9)=some (.int t))(ht:0<t)(mx:Int)(em:c5%t=mx)(hn:n > 0)(hc:mx%4 > 0)(x y:Int)(l:Bool)(m:Nat)(hat:atI B (c4%n)=some (.tup [.int x,.int y,.bl l]))(hix:N2 B.length (c4%n)=some m)
  (x' y':Int) (l':Bool) (hm:(mx%4=1∧x+mx/4%7-3=x'∧y=y'∧l=l')∨(mx%4=2∧x=x'∧y+mx/4%7-3=y'∧l=l')∨(mx%4=3∧x=x'∧y=y'∧true=l')):caT CE GP [.fz (.scr ns),.fz (.int n),.ow A,.ow B,un o4,un o5,un o6,.no,.no,.no,.no]=some (.rt (.tup [.lst A,.lst (B.set m (t3 (x',y',l')))])):=by
 unfold caT
 rcases hm with⟨z,rfl,rfl,rfl⟩ | ⟨z,rfl,rfl,rfl⟩ | ⟨z,rfl,rfl,rfl⟩<;>cases l<;>cases o6<;>simp only[un]<;>walk_at "eh" <;>rfl
theorem b19(CE:List D→Option R1)(LP TL:SF)(ns:List Int)(c2 n:Int)(A B:List D)(o4 o5 o6:Option D)(r:D)(k2:CE [.scr ns,.int 2]=some (.ret (.int c2)))(hn:(c2/71%2=1∧n=c2%71%8)∨(¬c2/71%2=1∧n=c2%71))(hl:LP [.fz (.scr ns),.fz (.int n),.ow [],.ow [],.no,.no,.no,.no,.no,.no,.no]=some (.nx [.fz (.scr ns),.fz (.int n),.ow A,.ow B,un o4,un o5,un o6,.no,.no,.no,.no]))(ht:TL [.fz (.scr ns),.fz (.int n),.ow A,.ow B,un o4,un o5,un o6,.no,.no,.no,.no]=some (.rt r)):fD 11 1 (d7 (r9 1 (eB k8 (g8 CE (aC (eV 0) (aC (eC (.int 2)) aN))) (eC (.int 71)))) (d7 (m5 (bZ (eB (y9 false) (eB k8 (eB E8 (g8 CE (aC (eV 0) (aC (eC (.int 2)) aN))) (eC (.int 71))) (eC (.int 2))) (eC (.int 1)))) (r9 1 (eB k8 (eV 1) (eC (.int 8)))) m4) (d7 (N8 2 (eL aN)) (d7 (N8 3 (eL aN)) (d7 LP TL))))) [.scr ns]=some (.ret r):=by
 rcases hn with⟨z,rfl⟩ | ⟨z,rfl⟩<;>walk_at "eh"
theorem b0T(CE ST:List D→Option R1)(ns:List Int)(c3 n:Int)(M:List D)(hc:CE [.scr ns,.int 3]=some (.ret (.int c3)))(hs:ST [.int c3,.int n]=some (.own M)):(g8 ST (aC (g8 CE (aC (eV 0) (aC (eC (.int 3)) aN))) (aC (eV 1) aN))) [.fz (.scr ns),.fz (.int n),.ow [],.ow [],.no,.no,.no,.no,.no,.no,.no]=some (.ok (.lst M) [.fz (.scr ns),.fz (.int n),.ow [],.ow [],.no,.no,.no,.no,.no,.no,.no]):=by
 walk_at "eh"
theorem a7h(ns:List Int)(n:Nat)(h70:n≤70):∃(L:List (T3×T3)) (o4 o5 o6:Option D),L.length=n∧(∀q∈L,P7 q.1)∧(a2l (g8 D7 (aC (g8 k7 (aC (eV 0) (aC (eC (.int 3)) aN))) (aC (eV 1) aN))) (w4 [(g0 4),(g0 5)]) caB) [.fz (.scr ns),.fz (.int (n:Int)),.ow [],.ow [],.no,.no,.no,.no,.no,.no,.no]=some (.nx [.fz (.scr ns),.fz (.int (n:Int)),.ow (L.map wD),.ow (L.map pD),un o4,un o5,un o6,.no,.no,.no,.no]):=by
 obtain⟨M,hM,hs⟩:=a7g (n4 ns 3) n (by omega)
 obtain⟨e',f,L,o4,o5,o6,hL,hp,rfl⟩:=b0v (b:=w4 [g0 4,g0 5]) (body:=caB) (fun k (x:Int)=>.tup [.int k,.int x]) (fun pre e=>∃(L:List (T3×T3)) (o4 o5 o6:Option D),L.length=pre.length∧(∀q∈L,P7 q.1)∧e=[.fz (.scr ns),.fz (.int (n:Int)),.ow (L.map wD),.ow (L.map pD),un o4,un o5,un o6,.no,.no,.no,.no]) M [.fz (.scr ns),.fz (.int (n:Int)),.ow [],.ow [],.no,.no,.no,.no,.no,.no,.no] ⟨[],none,none,none,rfl,fun _ h=>(by cases h),rfl⟩ (by
  rintro pre x post e hq ⟨L,o4,o5,o6,hL,hp,rfl⟩
  have hpl:pre.length<n:=by have:=congrArg List.length hq;rw[List.length_append,List.length_cons]at this;omega
  have hb:w4 [g0 4,g0 5] (.tup [.int (pre.length:Int),.int x]) [.fz (.scr ns),.fz (.int (n:Int)),.ow (L.map wD),.ow (L.map pD),un o4,un o5,un o6,.no,.no,.no,.no]=some [.fz (.scr ns),.fz (.int (n:Int)),.ow (L.map wD),.ow (L.map pD),.fz (.int (pre.length:Int)),.fz (.int x),un o6,.no,.no,.no,.no]:=by cases o4<;>cases o5<;>rfl
  rw[hb,M0]
  refine⟨_,(congrArg z8 (b2U (.scr ns) (.int (n:Int)) (L.map wD) (L.map pD) (pre.length:Int) x o6 _ _ rfl rfl (by rw[List.length_map];show _<2 ^ 24;omega) (by rw[List.length_map];show _<2 ^ 24;omega))).trans rfl,L++[((1+x/3%3,1+x/9%3,decide (x%3=1) || decide (x/27%2=1)),((pre.length:Int)%7*3,(pre.length:Int)/7*3,decide (x%3=1)))],some (.int (pre.length:Int)),some (.int x),some (.bl (decide (x%3=1))),by rw[List.length_append,List.length_append,hL];rfl,fun q m=>?_,?_⟩
  ·rcases List.mem_append.mp m with m | m
   ·exact hp q m
   ·rw[List.mem_singleton.mp m]
    refine⟨?_,?_⟩
    ·show 1≤1+x/3%3;omega
    ·show 1≤1+x/9%3;omega
  ·rw[List.map_append,List.map_append]
   rfl)
 refine⟨L,o4,o5,o6,by rw[hL,hM],hp,?_⟩
 have e0:=b0T k7 D7 ns (n4 ns 3) (n:Int) _ (M8 (by omega)) hs
 unfold a2l
 rw[e0,a4e]
 show t6 _ _ (K0 0 (M.map D.int)) _=_
 rw[a1q]
 exact f
theorem b0U(ns:List Int):∃L:List (T3×T3),L6 [.scr ns]=some (.ret (.tup [.lst (L.map wD),.lst (L.map pD)]))∧L.length≤70∧∀q∈L,P7 q.1:=by
 obtain⟨n,hn,h70⟩:∃n:Nat,((n4 ns 2/71%2=1∧(n:Int)=n4 ns 2%71%8)∨(¬n4 ns 2/71%2=1∧(n:Int)=n4 ns 2%71))∧n≤70:=by
  by_cases z:n4 ns 2/71%2=1
  ·exact⟨(n4 ns 2%71%8).toNat,.inl ⟨z,by omega⟩,by omega⟩
  ·exact⟨(n4 ns 2%71).toNat,.inr ⟨z,by omega⟩,by omega⟩
 obtain⟨L,o4,o5,o6,hL2,hp,hl⟩:=a7h ns n h70
 obtain⟨t,gp,ht0⟩:∃t:Int,a0p (.int 10) (.int 9)=some (.int t)∧0<t:=⟨_,a1n (by decide +kernel),by decide⟩
 by_cases hc:((n:Int) > 0∧n4 ns 5%t%4 > 0)
 ·obtain⟨hn0,hc⟩:=hc
  have h1:=Int.emod_nonneg (n4 ns 4) (b:=(n:Int)) (by omega)
  have h2:=Int.emod_lt_of_pos (n4 ns 4) (b:=(n:Int)) (by omega)
  obtain⟨m,em⟩:=Int.eq_ofNat_of_zero_le h1
  have hm:m<L.length:=by omega
  have hat:atI (L.map pD) (n4 ns 4%(n:Int))=some (.tup [.int (L[m]).2.1,.int (L[m]).2.2.1,.bl (L[m]).2.2.2]):=by
   rw[em]
   exact a1R (by rw[List.getElem?_map,List.getElem?_eq_getElem hm];rfl)
  have hix:N2 (L.map pD).length (n4 ns 4%(n:Int))=some m:=by
   rw[em,List.length_map]
   exact a1p hm
  obtain⟨x',y',l',hm'⟩:∃(x' y':Int) (l':Bool),(n4 ns 5%t%4=1∧(L[m]).2.1+n4 ns 5%t/4%7-3=x'∧(L[m]).2.2.1=y'∧(L[m]).2.2.2=l')∨(n4 ns 5%t%4=2∧(L[m]).2.1=x'∧(L[m]).2.2.1+n4 ns 5%t/4%7-3=y'∧(L[m]).2.2.2=l')∨(n4 ns 5%t%4=3∧(L[m]).2.1=x'∧(L[m]).2.2.1=y'∧true=l'):=by
   generalize n4 ns 5%t=mx at *
   rcases(show mx%4=1∨mx%4=2∨mx%4=3 by omega)with z | z | z
   ·exact⟨_,_,_,.inl ⟨z,rfl,rfl,rfl⟩⟩
   ·exact⟨_,_,_,.inr (.inl ⟨z,rfl,rfl,rfl⟩)⟩
   ·exact⟨_,_,_,.inr (.inr ⟨z,rfl,rfl,rfl⟩)⟩
  have ht:=b2s k7 a0p ns (n:Int) (n4 ns 4) (n4 ns 5) _ (L.map wD) (L.map pD) o4 o5 o6 (M8 (by omega)) (M8 (by omega)) gp ht0 _ rfl hn0 hc _ _ _ m hat hix x' y' l' hm'
  refine⟨L.set m ((L[m]).1,(x',y',l')),?_,by rw[List.length_set];omega,fun q mq=>?_⟩
  ·have e1:(L.set m ((L[m]).1,(x',y',l'))).map wD=L.map wD:=by
    rw[List.map_set]
    show(L.map wD).set m (wD L[m])=_
    apply List.ext_getElem?
    intro j
    rw[List.getElem?_set]
    split
    ·rename_i z;subst z
     rw[List.length_map,if_pos hm,List.getElem?_map,List.getElem?_eq_getElem hm]
     rfl
    ·rfl
   have e2:(L.set m ((L[m]).1,(x',y',l'))).map pD=(L.map pD).set m (t3 (x',y',l')):=by rw[List.map_set]
   rw[e1,e2]
   exact b19 k7 _ _ ns (n4 ns 2) (n:Int) (L.map wD) (L.map pD) o4 o5 o6 _ (M8 (by omega)) hn hl ht
  ·rcases List.mem_or_eq_of_mem_set mq with h | h
   ·exact hp q h
   ·rw[h]
    exact hp L[m] (List.getElem_mem hm)
 ·have ht:=b2r k7 a0p ns (n:Int) (n4 ns 5) _ (L.map wD) (L.map pD) o4 o5 o6 (M8 (by omega)) gp ht0 (by
   by_cases z:(n:Int) > 0
   ·exact .inr ⟨z,fun y=>hc ⟨z,y⟩⟩
   ·exact .inl z)
  refine⟨L,?_,by omega,hp⟩
  exact b19 k7 _ _ ns (n4 ns 2) (n:Int) (L.map wD) (L.map pD) o4 o5 o6 _ (M8 (by omega)) hn hl ht
theorem a8D:a0D.length=62:=by decide +kernel
theorem a8E:D3 (.str "0123456789abcdefghijklmnopqrstuvwxyzABCDEFGHIJKLMNOPQRSTUVWXYZ")=some (.int 62):=by
 show(if a0D.length≤sizeLine then some (D.int (a0D.length:Int))else none)=_
 rw[a8D,if_pos (by show _≤2 ^ 24;omega)]
 rfl
theorem b0V(L:List (T3×T3))(hl:L.length≤1000)(hb:∀q∈L,M7 q=false)(d0 d3:D):(S9 B1 (aC (eV 1) (aC (eV 2) aN))) [.fz d0,.fz (.lst (L.map wD)),.fz (.lst (L.map pD)),.fz d3,.no,.no,.no,.no,.no]=some (.ok (.lst ((L.map g6).map t4)) [.fz d0,.fz (.lst (L.map wD)),.fz (.lst (L.map pD)),.fz d3,.no,.no,.no,.no,.no]):=by
 have h:=a8s L hl hb
 have e:(L.map g6).map t4=L.map sD:=by rw[List.map_map];rfl
 rw[e]
 show toZ (B1 [.lst (L.map wD),.lst (L.map pD)]) _=_
 rw[h]
 rfl
def a1t(bx:Int×Int)(n:Nat):Prop:=((1≤bx.1∧bx.1≤60)∧(1≤bx.2∧bx.2≤60))∧n≤62
theorem a8F(bx:Int×Int)(L:List (T3×T3))(h:¬a1t bx L.length):E5 [t2 bx,.lst (L.map wD),.lst (L.map pD)]=some (.ex (.p "NoSheet")):=by
 refine a8C r8 C0 D3 _ _ bx.1 bx.2 _ _ (L.map wD) (L.map pD) a8E (Z7 _) (Z7 _) ?_
 unfold a1t at h
 rw[List.length_map]
 by_cases z1:1≤bx.1∧bx.1≤60
 ·by_cases z2:1≤bx.2∧bx.2≤60
  ·refine .inr (.inr ⟨?_,?_,by omega⟩)
   ·rw[decide_eq_true (show bx.1≥1 from z1.1),decide_eq_true z1.2];rfl
   ·rw[decide_eq_true (show bx.2≥1 from z2.1),decide_eq_true z2.2];rfl
  ·refine .inr (.inl ⟨?_,?_⟩)
   ·rw[decide_eq_true (show bx.1≥1 from z1.1),decide_eq_true z1.2];rfl
   ·by_cases y:bx.2≥1
    ·rw[decide_eq_false (show ¬bx.2≤60 from fun y2=>z2 ⟨y,y2⟩),Bool.and_false]
    ·rw[decide_eq_false y,Bool.false_and]
 ·refine .inl ?_
  by_cases y:bx.1≥1
  ·rw[decide_eq_false (show ¬bx.1≤60 from fun y2=>z1 ⟨y,y2⟩),Bool.and_false]
  ·rw[decide_eq_false y,Bool.false_and]
theorem a3S{a:Int}(h:1≤a∧a≤60):(decide (a≥1) && decide (a≤60))=true:=by
 rw[decide_eq_true (show a≥1 from h.1),decide_eq_true h.2];rfl
theorem a7i(bx:Int×Int)(L:List (T3×T3))(h:a1t bx L.length)(v:D)(hv:C0 [t2 bx,.lst (L.map wD),.lst (L.map pD)]=some (.ret v))(hn:G1 true v .non=some (.bl true)):E5 [t2 bx,.lst (L.map wD),.lst (L.map pD)]=some (.ex (.v "BadPacking" "why" v)):=by
 refine(a9f r8 C0 D3 _ (Z5 "BadPacking" "why" (aC (eV 3) aN)) bx.1 bx.2 _ _ (L.map wD) (L.map pD) a8E (Z7 _) (Z7 _) (a3S h.1.1) (a3S h.1.2) (by rw[List.length_map];have:=h.2;omega) v hv (some (.ex (.v "BadPacking" "why" v))) (.inl ⟨hn,?_,⟨_,rfl⟩⟩)).trans rfl
 rfl
theorem a8G(w h:Nat)(hs:a1t ((w:Int),(h:Int)) 0)(L:List (T3×T3))(hl:L.length≤62)(hp:∀q∈L,P7 q.1)(g:Good ((w:Int),(h:Int)) L):E5 [t2 ((w:Int),(h:Int)),.lst (L.map wD),.lst (L.map pD)]=some (.own ((Q6 w h (pnt a0D (fun _ _=>46) 0 (L.map g6))).reverse.map fun r=>.str ⟨r.toArray⟩)):=by
 have hw:w≤60:=by have:=hs.1.1.2;dsimp only at this;omega
 have hh:h≤60:=by have:=hs.1.2.2;dsimp only at this;omega
 have hb:∀q∈L,M7 q=false:=fun q m=>(g.1 q m).1
 have h1:=b17 a0D (S9 B1 (aC (eV 1) (aC (eV 2) aN))) (by rw[a8D];omega) w h hw hh (.lst (L.map wD)) (.lst (L.map pD)) .non (L.map g6) (by rw[List.length_map,a8D];exact hl) (fun s m=>by
  obtain⟨q,mq,rfl⟩:=List.mem_map.mp m
  have i1:=(a5w _ _).mp (g.1 q mq).2
  have i2:=a1r (hp q mq)
  dsimp only at i1
  unfold inB
  omega) (b0V L (by omega) hb _ _)
 exact(a9f r8 C0 D3 _ (Z5 "BadPacking" "why" (aC (eV 3) aN)) (w:Int) (h:Int) _ _ (L.map wD) (L.map pD) a8E (Z7 _) (Z7 _) (a3S hs.1.1) (a3S hs.1.2) (by rw[List.length_map];omega) .non (a6n _ L (by omega) g) _ (.inr ⟨rfl,h1⟩)).trans rfl
theorem b0W(DR:List D→Option R1)(b A B:D)(R:List D)(h:DR [b,A,B]=some (.own R)):fD 5 3 (d7 (Q2 5 (K6 3 DR (aC (eV 0) (aC (eV 1) (aC (eV 2) aN)))) (hAs 4 D6 (r9 3 (eT (aC (eC (.str "sheet")) (aC (g8 y4 (aC (eV 4) aN)) aN)))) (hAs 4 t9 (r9 3 (eT (aC (eC (.str "packing")) (aC (g8 v5 (aC (eV 4) aN)) (aC (eU (a06 W1 "why") (eV 4)) aN))))) hN))) (T1 3)) [b,A,B]=some (.own R):=by
 unfold Q2
 walk_at "eh"
theorem a7j(DR:List D→Option R1)(b A B:D)(h:DR [b,A,B]=some (.ex (.p "NoSheet"))):fD 5 3 (d7 (Q2 5 (K6 3 DR (aC (eV 0) (aC (eV 1) (aC (eV 2) aN)))) (hAs 4 D6 (r9 3 (eT (aC (eC (.str "sheet")) (aC (g8 y4 (aC (eV 4) aN)) aN)))) (hAs 4 t9 (r9 3 (eT (aC (eC (.str "packing")) (aC (g8 v5 (aC (eV 4) aN)) (aC (eU (a06 W1 "why") (eV 4)) aN))))) hN))) (T1 3)) [b,A,B]=some (.ret (.tup [.str "sheet",.lst [.bl true,.bl false]])):=by
 unfold Q2
 walk_at "eh"
 rfl
theorem a8H(DR:List D→Option R1)(b A B v:D)(h:DR [b,A,B]=some (.ex (.v "BadPacking" "why" v))):fD 5 3 (d7 (Q2 5 (K6 3 DR (aC (eV 0) (aC (eV 1) (aC (eV 2) aN)))) (hAs 4 D6 (r9 3 (eT (aC (eC (.str "sheet")) (aC (g8 y4 (aC (eV 4) aN)) aN)))) (hAs 4 t9 (r9 3 (eT (aC (eC (.str "packing")) (aC (g8 v5 (aC (eV 4) aN)) (aC (eU (a06 W1 "why") (eV 4)) aN))))) hN))) (T1 3)) [b,A,B]=some (.ret (.tup [.str "packing",.lst [.bl true,.bl false],v])):=by
 unfold Q2
 walk_at "eh"
 rfl
abbrev a0E(GL:D→Option D):SF:=(m5 (B2 (u4 (bZ (T7 5 "str"))) (bZ (eB (y9 true) (A9 (g1 GL) (aC (eV 5) aN)) (eB h9 (eV 0) (eC (.int 0)))))) (i9 (eC (.bl false))) m4)
theorem b1_(GL:D→Option D)(z:Str)(w h:Int)(s1 s2 s3 s4:Sl)(hg:GL (.str z)=some (.int w)):a0E GL [.fz (.tup [.int w,.int h]),s1,s2,s3,s4,.fz (.str z)]=some (.nx [.fz (.tup [.int w,.int h]),s1,s2,s3,s4,.fz (.str z)]):=by
 unfold a0E
 walk_at "eh"
theorem a8I(LD DU:List D→Option R1)(GI GA:D→Option D)(GE:D→D→Option D)(LP:SF)(a b m1 m2:Int)(A B:List D)(g1':GI (.tup [.int a,.int b])=some (.int m1))(g2':GA (.tup [.int a,.int b])=some (.int m2))(sh:D)(h:LD [.tup [.int a,.int b],.lst A,.lst B]=some (.ret sh))(ge:GE sh (.tup [.str "sheet",.lst [.bl true,.bl false]])=some (.bl true))(hc:m1<1∨(¬m1<1∧m2 > 60)∨(¬m1<1∧¬m2 > 60∧(A.length:Int) > 62)):fD 6 3 (d7 (E1 3 LD (aC (eV 0) (aC (eV 1) (aC (eV 2) aN)))) (d7 (m5 (B2 (bZ (eB gLt (A9 (g1 GI) (aC (eV 0) aN)) (eC (.int 1)))) (B2 (bZ (eB G0 (A9 (g1 GA) (aC (eV 0) aN)) (eC (.int 60)))) (bZ (eB G0 (C3 y3 1) (eC (.int 62)))))) (i9 (eB GE (eV 3) (eT (aC (eC (.str "sheet")) (aC (zN (eL (aC (eC (.bl true)) (aC (eC (.bl false)) aN)))) aN))))) m4) (d7 (E1 4 DU (aC (eV 0) (aC (eV 1) (aC (eV 2) aN)))) (d7 (m5 (bZ (eB (G1 true) (eV 4) (eC .non))) (i9 (O7 (eB GE (eV 3) (eT (aC (eC (.str "packing")) (aC (zN (eL (aC (eC (.bl true)) (aC (eC (.bl false)) aN)))) (aC (eV 4) aN))))) (A9 a00 (aC (eB h9 (eV 3) (eC (.int 2))) (aC (eC (.ty "tuple")) aN))))) m4) (d7 (m5 (B2 (u4 (bZ (T7 3 "list"))) (bZ (eB (y9 true) (C3 y3 3) (eB h9 (eV 0) (eC (.int 1)))))) (i9 (eC (.bl false))) m4) (d7 LP (i9 (eC (.bl true))))))))) [.tup [.int a,.int b],.lst A,.lst B]=some (.ret (.bl true)):=by
 rcases hc with hc | ⟨hc,hc2⟩ | ⟨hc,hc2,hc3⟩<;>walk_at "eh"
theorem b0X(LD DU:List D→Option R1)(GI GA:D→Option D)(GE:D→D→Option D)(LP:SF)(a b m1 m2:Int)(A B:List D)(g1':GI (.tup [.int a,.int b])=some (.int m1))(g2':GA (.tup [.int a,.int b])=some (.int m2))(v:D)(h:LD [.tup [.int a,.int b],.lst A,.lst B]=some (.ret (.tup [.str "packing",.lst [.bl true,.bl false],v])))(h2:DU [.tup [.int a,.int b],.lst A,.lst B]=some (.ret v))(hn:G1 true v .non=some (.bl true))(ge:GE (.tup [.str "packing",.lst [.bl true,.bl false],v]) (.tup [.str "packing",.lst [.bl true,.bl false],v])=some (.bl true))(hi:a00 [v,.ty "tuple"]=some (.bl true))(hc:¬m1<1)(hc2:¬m2 > 60)(hc3:¬(A.length:Int) > 62):fD 6 3 (d7 (E1 3 LD (aC (eV 0) (aC (eV 1) (aC (eV 2) aN)))) (d7 (m5 (B2 (bZ (eB gLt (A9 (g1 GI) (aC (eV 0) aN)) (eC (.int 1)))) (B2 (bZ (eB G0 (A9 (g1 GA) (aC (eV 0) aN)) (eC (.int 60)))) (bZ (eB G0 (C3 y3 1) (eC (.int 62)))))) (i9 (eB GE (eV 3) (eT (aC (eC (.str "sheet")) (aC (zN (eL (aC (eC (.bl true)) (aC (eC (.bl false)) aN)))) aN))))) m4) (d7 (E1 4 DU (aC (eV 0) (aC (eV 1) (aC (eV 2) aN)))) (d7 (m5 (bZ (eB (G1 true) (eV 4) (eC .non))) (i9 (O7 (eB GE (eV 3) (eT (aC (eC (.str "packing")) (aC (zN (eL (aC (eC (.bl true)) (aC (eC (.bl false)) aN)))) (aC (eV 4) aN))))) (A9 a00 (aC (eB h9 (eV 3) (eC (.int 2))) (aC (eC (.ty "tuple")) aN))))) m4) (d7 (m5 (B2 (u4 (bZ (T7 3 "list"))) (bZ (eB (y9 true) (C3 y3 3) (eB h9 (eV 0) (eC (.int 1)))))) (i9 (eC (.bl false))) m4) (d7 LP (i9 (eC (.bl true))))))))) [.tup [.int a,.int b],.lst A,.lst B]=some (.ret (.bl true)):=by
 generalize G1 true=GN at *
 walk_at "eh"
theorem b2a(LD DU:List D→Option R1)(GI GA:D→Option D)(GE:D→D→Option D)(LP:SF)(a b m1 m2:Int)(A B:List D)(g1':GI (.tup [.int a,.int b])=some (.int m1))(g2':GA (.tup [.int a,.int b])=some (.int m2))(R:List D)(o5:Option D)(h:LD [.tup [.int a,.int b],.lst A,.lst B]=some (.own R))(h2:DU [.tup [.int a,.int b],.lst A,.lst B]=some (.ret .non))(hR:(R.length:Int)=b)(hl:LP [.fz (.tup [.int a,.int b]),.fz (.lst A),.fz (.lst B),.ow R,.fz .non,.no]=some (.nx [.fz (.tup [.int a,.int b]),.fz (.lst A),.fz (.lst B),.ow R,.fz .non,un o5]))(hc:¬m1<1)(hc2:¬m2 > 60)(hc3:¬(A.length:Int) > 62):fD 6 3 (d7 (E1 3 LD (aC (eV 0) (aC (eV 1) (aC (eV 2) aN)))) (d7 (m5 (B2 (bZ (eB gLt (A9 (g1 GI) (aC (eV 0) aN)) (eC (.int 1)))) (B2 (bZ (eB G0 (A9 (g1 GA) (aC (eV 0) aN)) (eC (.int 60)))) (bZ (eB G0 (C3 y3 1) (eC (.int 62)))))) (i9 (eB GE (eV 3) (eT (aC (eC (.str "sheet")) (aC (zN (eL (aC (eC (.bl true)) (aC (eC (.bl false)) aN)))) aN))))) m4) (d7 (E1 4 DU (aC (eV 0) (aC (eV 1) (aC (eV 2) aN)))) (d7 (m5 (bZ (eB (G1 true) (eV 4) (eC .non))) (i9 (O7 (eB GE (eV 3) (eT (aC (eC (.str "packing")) (aC (zN (eL (aC (eC (.bl true)) (aC (eC (.bl false)) aN)))) (aC (eV 4) aN))))) (A9 a00 (aC (eB h9 (eV 3) (eC (.int 2))) (aC (eC (.ty "tuple")) aN))))) m4) (d7 (m5 (B2 (u4 (bZ (T7 3 "list"))) (bZ (eB (y9 true) (C3 y3 3) (eB h9 (eV 0) (eC (.int 1)))))) (i9 (eC (.bl false))) m4) (d7 LP (i9 (eC (.bl true))))))))) [.tup [.int a,.int b],.lst A,.lst B]=some (.ret (.bl true)):=by
 subst hR
 walk_at "eh"
theorem b0Y(r:List Nat)(w:Nat)(h:r.length=w)(hw:w≤1000):D3 (.str ⟨r.toArray⟩)=some (.int (w:Int)):=by
 have e:(Str.mk r.toArray).length=w:=by show r.toArray.size=w;rw[List.size_toArray];exact h
 show(if(Str.mk r.toArray).length≤sizeLine then some (D.int ((Str.mk r.toArray).length:Int))else none)=_
 rw[e,if_pos (by show _≤2 ^ 24;omega)]
theorem b0Z(w h:Nat)(hw:w≤1000)(A B:D)(R:List (List Nat))(hr:∀r∈R,r.length=w):∃o5:Option D,(a0u 3 (g0 5) (a0E D3)) [.fz (.tup [.int (w:Int),.int (h:Int)]),.fz A,.fz B,.ow (R.map fun r=>.str ⟨r.toArray⟩),.fz .non,.no]=some (.nx [.fz (.tup [.int (w:Int),.int (h:Int)]),.fz A,.fz B,.ow (R.map fun r=>.str ⟨r.toArray⟩),.fz .non,un o5]):=by
 obtain⟨e',f,o5,rfl⟩:=a5q (b:=g0 5) (body:=a0E D3) (fun(r:List Nat)=>D.str ⟨r.toArray⟩) (fun pre e=>∃(o5:Option D),e=[.fz (.tup [.int (w:Int),.int (h:Int)]),.fz A,.fz B,.hd (R.map fun r=>.str ⟨r.toArray⟩),.fz .non,un o5]) R [.fz (.tup [.int (w:Int),.int (h:Int)]),.fz A,.fz B,.hd (R.map fun r=>.str ⟨r.toArray⟩),.fz .non,.no] ⟨none,rfl⟩ (by
  rintro pre r post e hq ⟨o5,rfl⟩
  have hm:r∈R:=by rw[hq];exact List.mem_append_right _ List.mem_cons_self
  have hb:g0 5 (.str ⟨r.toArray⟩) [.fz (.tup [.int (w:Int),.int (h:Int)]),.fz A,.fz B,.hd (R.map fun r=>.str ⟨r.toArray⟩),.fz .non,un o5]=some [.fz (.tup [.int (w:Int),.int (h:Int)]),.fz A,.fz B,.hd (R.map fun r=>.str ⟨r.toArray⟩),.fz .non,.fz (.str ⟨r.toArray⟩)]:=by cases o5<;>rfl
  rw[hb,M0]
  exact⟨_,(congrArg z8 (b1_ D3 ⟨r.toArray⟩ (w:Int) (h:Int) _ _ _ _ (b0Y r w (hr r hm) hw))).trans rfl,some (.str ⟨r.toArray⟩),rfl⟩)
 refine⟨o5,?_⟩
 show unhide 3 (R.map fun r=>D.str ⟨r.toArray⟩) (t6 (g0 5) (a0E D3) (R.map fun r=>D.str ⟨r.toArray⟩) [.fz (.tup [.int (w:Int),.int (h:Int)]),.fz A,.fz B,.hd (R.map fun r=>.str ⟨r.toArray⟩),.fz .non,.no])=_
 rw[f]
 rfl
theorem b2V:L3 false (.tup [.str "sheet",.lst [.bl true,.bl false]]) (.tup [.str "sheet",.lst [.bl true,.bl false]])=some (.bl true):=W9 false rfl (by simp[G4,B0]) rfl
theorem b2W(v:D)(hv:(∃(s:Str) (a:Int),v=.tup [.str s,.int a])∨∃(s:Str) (a b:Int),v=.tup [.str s,.int a,.int b]):L3 false (.tup [.str "packing",.lst [.bl true,.bl false],v]) (.tup [.str "packing",.lst [.bl true,.bl false],v])=some (.bl true)∧a00 [v,.ty "tuple"]=some (.bl true)∧G1 true v .non=some (.bl true):=by
 rcases hv with⟨s,a,rfl⟩ | ⟨s,a,b,rfl⟩
 ·exact⟨W9 false rfl (by simp[G4,B0]) rfl,rfl,rfl⟩
 ·exact⟨W9 false rfl (by simp[G4,B0]) rfl,rfl,rfl⟩
theorem Z8(bx:Int×Int)(L:List (T3×T3))(hl:L.length≤1000)(hp:∀q∈L,P7 q.1):A8 [t2 bx,.lst (L.map wD),.lst (L.map pD)]=some (.ret (.bl true)):=by
 have m1:Q1 (.tup [.int bx.1,.int bx.2])=some (.int (min bx.1 bx.2)):=rfl
 have m2:a0A (.tup [.int bx.1,.int bx.2])=some (.int (max bx.1 bx.2)):=rfl
 by_cases hs:a1t bx L.length
 ·obtain⟨⟨s1,s2⟩,s3⟩:=id hs
  have c1:¬min bx.1 bx.2<1:=by omega
  have c2:¬max bx.1 bx.2 > 60:=by omega
  have c3:¬((L.map wD).length:Int) > 62:=by rw[List.length_map];omega
  obtain⟨v,f1,f2⟩:=a4D bx L hl
  obtain⟨u,d1,d2⟩:=b10 bx L hl hp
  have uv:u=v:=a68 d2 f2
  subst uv
  rcases f2 with⟨rfl,g⟩ | ⟨pre,q,post,hL,gp,hf⟩
  ·obtain⟨a,b⟩:=bx
   dsimp only at *
   obtain⟨w,rfl⟩:=Int.eq_ofNat_of_zero_le (show 0≤a by omega)
   obtain⟨h,rfl⟩:=Int.eq_ofNat_of_zero_le (show 0≤b by omega)
   have dr:=a8G w h ⟨⟨s1,s2⟩,by omega⟩ L s3 hp g
   have hlen:∀r∈(Q6 w h (pnt a0D (fun _ _=>46) 0 (L.map g6))).reverse,r.length=w:=fun r m=>by
    obtain⟨y,_,rfl⟩:=List.mem_map.mp (List.mem_reverse.mp m)
    rw[List.length_map,List.length_range]
   obtain⟨o5,lo⟩:=b0Z w h (by omega) (.lst (L.map wD)) (.lst (L.map pD)) (Q6 w h (pnt a0D (fun _ _=>46) 0 (L.map g6))).reverse hlen
   exact b2a G9 M6 Q1 a0A (L3 false) _ (w:Int) (h:Int) _ _ (L.map wD) (L.map pD) m1 m2 _ o5 (b0W E5 _ _ _ _ dr) d1 (by rw[List.length_map,List.length_reverse];unfold Q6;rw[List.length_map,List.length_range]) lo c1 c2 c3
  ·have hv:(∃(s:Str) (a:Int),u=.tup [.str s,.int a])∨∃(s:Str) (a b:Int),u=.tup [.str s,.int a,.int b]:=by
    unfold Flt at hf
    rcases hf with⟨_,e⟩ | ⟨_,_,e⟩ | ⟨_,_,_,_,_,_,_,_,e⟩<;>first
     | exact .inl ⟨_,_,e⟩
     | exact .inr ⟨_,_,_,e⟩
   obtain⟨e1,e2,e3⟩:=b2W u hv
   exact b0X G9 M6 Q1 a0A (L3 false) (a0u 3 (g0 5) (a0E D3)) bx.1 bx.2 _ _ (L.map wD) (L.map pD) m1 m2 u (a8H E5 _ _ _ u (a7i bx L hs u f1 e3)) d1 e3 e1 e2 c1 c2 c3
 ·refine a8I G9 M6 Q1 a0A (L3 false) (a0u 3 (g0 5) (a0E D3)) bx.1 bx.2 _ _ (L.map wD) (L.map pD) m1 m2 _ (a7j E5 _ _ _ (a8F bx L hs)) b2V ?_
  unfold a1t at hs
  rw[List.length_map]
  by_cases z1:min bx.1 bx.2<1
  ·exact .inl z1
  ·by_cases z2:max bx.1 bx.2 > 60
   ·exact .inr (.inl ⟨z1,z2⟩)
   ·exact .inr (.inr ⟨z1,z2,by omega⟩)
theorem b2t(SI CE CA GD:List D→Option R1)(GT:D→D→Option D)(ns:List Int)(c0 c1 a b:Int)(A B:List D)(k0:CE [.scr ns,.int 0]=some (.ret (.int c0)))(k1:CE [.scr ns,.int 1]=some (.ret (.int c1)))(s0:SI [.int c0]=some (.ret (.int a)))(s1:SI [.int c1]=some (.ret (.int b)))(hc:CA [.scr ns]=some (.ret (.tup [.lst A,.lst B])))
  (q1:GD [.tup [.int a,.int b],.lst A,.lst B]=some (.ret (.bl true))) (ge:GT (.lst [.lst A,.lst B]) (.lst [.lst A,.lst B])=some (.bl false)) (q2:GD [.tup [.int 60,.int 60],.lst A,.lst B]=some (.ret (.bl true))) (q3:GD [.tup [.int 21,.int 60],.lst (Y0 A none (some 62)),.lst (Y0 B none (some 62))]=some (.ret (.bl true))) (q4:GD [.tup [.int 2,.int 61],.lst (Y0 A none (some 1)),.lst (Y0 B none (some 1))]=some (.ret (.bl true))) (q5:GD [.tup [.int 61,.int 2],.lst [],.lst []]=some (.ret (.bl true))):fD 5 1 (d7 (r9 1 (eT (aC (g8 SI (aC (g8 CE (aC (eV 0) (aC (eC (.int 0)) aN))) aN)) (aC (g8 SI (aC (g8 CE (aC (eV 0) (aC (eC (.int 1)) aN))) aN)) aN)))) (d7 (X9 (g8 CA (aC (eV 0) aN)) (w4 [(g0 2),(g0 3)])) (d7 (N8 4 (eL (aC (zN (nCV a0r 2)) (aC (zN (nCV a0r 3)) aN)))) (d7 (m5 (B2 (u4 (bZ (g8 GD (aC (eV 1) (aC (A2 u9 4 (eC (.int 0))) (aC (A2 u9 4 (eC (.int 1))) aN)))))) (bZ (A2 GT 4 (zN (eL (aC (eV 2) (aC (eV 3) aN))))))) (i9 (eC (.bl false))) m4) (d7 (m5 (B2 (u4 (bZ (g8 GD (aC (eT (aC (eC (.int 60)) (aC (eC (.int 60)) aN))) (aC (eV 2) (aC (eV 3) aN)))))) (u4 (bZ (g8 GD (aC (eT (aC (eC (.int 21)) (aC (eC (.int 60)) aN))) (aC (zN (V6 2 oN (oS (eC (.int 62))))) (aC (zN (V6 3 oN (oS (eC (.int 62))))) aN))))))) (i9 (eC (.bl false))) m4) (d7 (m5 (B2 (u4 (bZ (g8 GD (aC (eT (aC (eC (.int 2)) (aC (eC (.int 61)) aN))) (aC (zN (V6 2 oN (oS (eC (.int 1))))) (aC (zN (V6 3 oN (oS (eC (.int 1))))) aN)))))) (u4 (bZ (g8 GD (aC (eT (aC (eC (.int 61)) (aC (eC (.int 2)) aN))) (aC (zN (eL aN)) (aC (zN (eL aN)) aN))))))) (i9 (eC (.bl false))) m4) (a2j GD (aC (eV 1) (aC (A2 u9 4 (eC (.int 0))) (aC (A2 u9 4 (eC (.int 1))) aN)))))))))) [.scr ns]=some (.ret (.bl true)):=by
 walk_at "eh"
theorem b2u(ws ps:List T3)(A B:List D)(e1:ws.map t3=A)(e2:ps.map t3=B):L3 true (.lst [.lst A,.lst B]) (.lst [.lst A,.lst B])=some (.bl false):=by
 subst e1 e2
 exact W9 true (by
  simp only[i6,y6,b11];rfl) (by
  have h1:=b12 ws
  have h2:=b12 ps
  simp only[G4,B0];omega) rfl
theorem a1u{α:Type}(f:α→D)(l:List α)(v:Int)(h:0≤v):Y0 (l.map f) none (some v)=(l.take v.toNat).map f:=by rw[a8b h,List.map_take]
theorem main(ns:List Int)(hl:ns.length≤63)(hb:∀m∈ns,Builtin.Int.intBits m≤2 ^ 20):a9d [.scr ns]=some (.ret (.bl true)):=by
 obtain⟨L,hc,h70,hp⟩:=b0U ns
 obtain⟨a,s0⟩:=a4L (a3m hb 0)
 obtain⟨b,s1⟩:=a4L (a3m hb 1)
 have ht:∀n,∀q∈L.take n,P7 q.1:=fun n q m=>hp q (List.mem_of_mem_take m)
 refine b2t G7 k7 L6 A8 (L3 true) ns _ _ a b (L.map wD) (L.map pD) (M8 (by omega)) (M8 (by omega)) s0 s1 hc (Z8 (a,b) L (by omega) hp) ?_ (Z8 (60,60) L (by omega) hp) ?_ ?_ (Z8 (61,2) [] (by decide) (fun _ h=>by cases h))
 ·exact b2u (L.map Prod.fst) (L.map Prod.snd) _ _ (by rw[List.map_map];rfl) (by rw[List.map_map];rfl)
 ·rw[a1u wD L 62 (by omega),a1u pD L 62 (by omega)]
  exact Z8 (21,60) (L.take 62) (by rw[List.length_take];omega) (ht _)
 ·rw[a1u wD L 1 (by omega),a1u pD L 1 (by omega)]
  exact Z8 (2,61) (L.take 1) (by rw[List.length_take];omega) (ht _)
def a2B(K:PySem.W.Frag)(c:Str→Addr):Sp:=fun vs H Q _=>∃a,∃ns:List Int,vs=[.ref a]∧Scr K H a (ns.map V.int)∧(∀m∈ns,Builtin.Int.intBits m≤2 ^ 20)∧ns.length≤63∧∀H',Q (.bl true) H'
theorem b2b{f:Addr}{fd:FuncData}(F:Fun K "law" "law" Q4 f fd)(T:Txt K mg c)(G_l_side:Own P w K mg base 3 "_law_side" ["_law_cell"] (k6 K c G7))(G_l_cell_at:Own P w K mg base 3 "_law_cell_at" ["_law_script","_law_k"] (k6 K c k7))(G_l_case:Own P w K mg base 5 "_law_case" ["_law_script"] (k6 K c L6))(G_l_good:Own P w K mg base 13 "_law_good" ["_law_box","_law_wares","_law_places"] (k6 K c A8)):FnOk P w K mg base (w9 P w) 15 f fd ["_law_script"] (a2B K c) :=
 (b0F F T G_l_side G_l_cell_at G_l_case G_l_good).imp fun vs H Q E ⟨a,ns,e,h,hb,hl,q⟩=>a9G e h q (main ns hl hb)
def cOf(l:List (Str×Addr))(x:Str):Addr:=(l.lookup x).getD 0
abbrev cL(c0 c1 c2 c3 c4 c5 c6 c7 c8 c9 c10 c11 c12 c13 c14 c15 c16 c17:Addr):=cOf [("BadPacking",c0),("BadPlan",c1),("BadSide",c2),("BadTurn",c3),("CrateError",c4),("Full",c5),("Hangs",c6),("NoDeed",c7),("NoDrawing",c8),("NoPicker",c9),("NoSheet",c10),("NoText",c11),("NoWare",c12),("NoWeighing",c13),("NothingDone",c14),("Ring",c15),("TooMany",c16),("TooWide",c17)]
theorem all_mk{w:World}{K:PySem.W.Frag}{h:Heap}{mg:Str→Option Value}{fa:Addr}(X:K.In h)(G:h.Ns mainGlobals mg)(hfa:mg "law" = some (.ref fa))
  {c0 c1 c2 c3 c4 c5 c6 c7 c8 c9 c10 c11 c12 c13 c14 c15 c16 c17:Addr} {f_1:Addr} {oc_1 kV_1 dc_1 pm_1 cd_1 ct_1:Value} {od_1 an_1:Option Addr} {sl_1:Array (Option Value)} {f_2:Addr} {oc_2 kV_2 dc_2 pm_2 cd_2 ct_2:Value} {od_2 an_2:Option Addr} {sl_2:Array (Option Value)} {f_3:Addr} {oc_3 kV_3 dc_3 pm_3 cd_3 ct_3:Value} {od_3 an_3:Option Addr} {sl_3:Array (Option Value)} {f_4:Addr} {oc_4 kV_4 dc_4 pm_4 cd_4 ct_4:Value} {od_4 an_4:Option Addr} {sl_4:Array (Option Value)} {f_5:Addr} {oc_5 kV_5 dc_5 pm_5 cd_5 ct_5:Value} {od_5 an_5:Option Addr} {sl_5:Array (Option Value)} {f_6:Addr} {oc_6 kV_6 dc_6 pm_6 cd_6 ct_6:Value} {od_6 an_6:Option Addr} {sl_6:Array (Option Value)} {f_7:Addr} {oc_7 kV_7 dc_7 pm_7 cd_7 ct_7:Value} {od_7 an_7:Option Addr} {sl_7:Array (Option Value)} {f_8:Addr} {oc_8 kV_8 dc_8 pm_8 cd_8 ct_8:Value} {od_8 an_8:Option Addr} {sl_8:Array (Option Value)} {f_9:Addr} {oc_9 kV_9 dc_9 pm_9 cd_9 ct_9:Value} {od_9 an_9:Option Addr} {sl_9:Array (Option Value)} {f_10:Addr} {oc_10 kV_10 dc_10 pm_10 cd_10 ct_10:Value} {od_10 an_10:Option Addr} {sl_10:Array (Option Value)} {f_11:Addr} {oc_11 kV_11 dc_11 pm_11 cd_11 ct_11:Value} {od_11 an_11:Option Addr} {sl_11:Array (Option Value)} {f_12:Addr} {oc_12 kV_12 dc_12 pm_12 cd_12 ct_12:Value} {od_12 an_12:Option Addr} {sl_12:Array (Option Value)} {f_13:Addr} {oc_13 kV_13 dc_13 pm_13 cd_13 ct_13:Value} {od_13 an_13:Option Addr} {sl_13:Array (Option Value)} {f_14:Addr} {oc_14 kV_14 dc_14 pm_14 cd_14 ct_14:Value} {od_14 an_14:Option Addr} {sl_14:Array (Option Value)} {f_15:Addr} {oc_15 kV_15 dc_15 pm_15 cd_15 ct_15:Value} {od_15 an_15:Option Addr} {sl_15:Array (Option Value)} {f_16:Addr} {oc_16 kV_16 dc_16 pm_16 cd_16 ct_16:Value} {od_16 an_16:Option Addr} {sl_16:Array (Option Value)} {f_17:Addr} {oc_17 kV_17 dc_17 pm_17 cd_17 ct_17:Value} {od_17 an_17:Option Addr} {sl_17:Array (Option Value)} {f_18:Addr} {oc_18 kV_18 dc_18 pm_18 cd_18 ct_18:Value} {od_18 an_18:Option Addr} {sl_18:Array (Option Value)} {f_19:Addr} {oc_19 kV_19 dc_19 pm_19 cd_19 ct_19:Value} {od_19 an_19:Option Addr} {sl_19:Array (Option Value)} {f_20:Addr} {oc_20 kV_20 dc_20 pm_20 cd_20 ct_20:Value} {od_20 an_20:Option Addr} {sl_20:Array (Option Value)} {f_0:Addr} {oc_0 kV_0 dc_0 pm_0 cd_0 ct_0:Value} {od_0 an_0:Option Addr} {sl_0:Array (Option Value)} {kt_MOST_SIDE:Tok} {kt_NOTHING:Tok} {kt_SIGNS:Tok}
  (a_1:PySem.W.nsIn K mainGlobals "sides_of" = some (some (.ref f_1)))
  (l_1:K.lookup f_1=some ⟨oc_1,od_1,.func (PySem.W.fnOf "sides_of" "sides_of" (m3 J2) (j9 J2) (b8 J2) .none kV_1 dc_1 pm_1 an_1 cd_1 ct_1),sl_1⟩)
  (c_1:PySem.W.codeIn K cd_1 "sides_of" = true)
  (k_1:PySem.W.keepIn K (.ref f_1)=true)
  (a_2:PySem.W.nsIn K mainGlobals "spot_of" = some (some (.ref f_2)))
  (l_2:K.lookup f_2=some ⟨oc_2,od_2,.func (PySem.W.fnOf "spot_of" "spot_of" (m3 M1) (j9 M1) (b8 M1) .none kV_2 dc_2 pm_2 an_2 cd_2 ct_2),sl_2⟩)
  (c_2:PySem.W.codeIn K cd_2 "spot_of" = true)
  (k_2:PySem.W.keepIn K (.ref f_2)=true)
  (a_3:PySem.W.nsIn K mainGlobals "spots_of" = some (some (.ref f_3)))
  (l_3:K.lookup f_3=some ⟨oc_3,od_3,.func (PySem.W.fnOf "spots_of" "spots_of" (m3 C4) (j9 C4) (b8 C4) .none kV_3 dc_3 pm_3 an_3 cd_3 ct_3),sl_3⟩)
  (c_3:PySem.W.codeIn K cd_3 "spots_of" = true)
  (k_3:PySem.W.keepIn K (.ref f_3)=true)
  (a_4:PySem.W.nsIn K mainGlobals "apart" = some (some (.ref f_4)))
  (l_4:K.lookup f_4=some ⟨oc_4,od_4,.func (PySem.W.fnOf "apart" "apart" (m3 U1) (j9 U1) (b8 U1) .none kV_4 dc_4 pm_4 an_4 cd_4 ct_4),sl_4⟩)
  (c_4:PySem.W.codeIn K cd_4 "apart" = true)
  (k_4:PySem.W.keepIn K (.ref f_4)=true)
  (a_5:PySem.W.nsIn K mainGlobals "lies_in" = some (some (.ref f_5)))
  (l_5:K.lookup f_5=some ⟨oc_5,od_5,.func (PySem.W.fnOf "lies_in" "lies_in" (m3 M3) (j9 M3) (b8 M3) .none kV_5 dc_5 pm_5 an_5 cd_5 ct_5),sl_5⟩)
  (c_5:PySem.W.codeIn K cd_5 "lies_in" = true)
  (k_5:PySem.W.keepIn K (.ref f_5)=true)
  (a_6:PySem.W.nsIn K mainGlobals "fault" = some (some (.ref f_6)))
  (l_6:K.lookup f_6=some ⟨oc_6,od_6,.func (PySem.W.fnOf "fault" "fault" (m3 U2) (j9 U2) (b8 U2) .none kV_6 dc_6 pm_6 an_6 cd_6 ct_6),sl_6⟩)
  (c_6:PySem.W.codeIn K cd_6 "fault" = true)
  (k_6:PySem.W.keepIn K (.ref f_6)=true)
  (a_7:PySem.W.nsIn K mainGlobals "is_sheet_side" = some (some (.ref f_7)))
  (l_7:K.lookup f_7=some ⟨oc_7,od_7,.func (PySem.W.fnOf "is_sheet_side" "is_sheet_side" (m3 A4) (j9 A4) (b8 A4) .none kV_7 dc_7 pm_7 an_7 cd_7 ct_7),sl_7⟩)
  (c_7:PySem.W.codeIn K cd_7 "is_sheet_side" = true)
  (k_7:PySem.W.keepIn K (.ref f_7)=true)
  (a_8:PySem.W.nsIn K mainGlobals "drawn" = some (some (.ref f_8)))
  (l_8:K.lookup f_8=some ⟨oc_8,od_8,.func (PySem.W.fnOf "drawn" "drawn" (m3 E3) (j9 E3) (b8 E3) .none kV_8 dc_8 pm_8 an_8 cd_8 ct_8),sl_8⟩)
  (c_8:PySem.W.codeIn K cd_8 "drawn" = true)
  (k_8:PySem.W.keepIn K (.ref f_8)=true)
  (a_9:PySem.W.nsIn K mainGlobals "_law_cell_at" = some (some (.ref f_9)))
  (l_9:K.lookup f_9=some ⟨oc_9,od_9,.func (PySem.W.fnOf "_law_cell_at" "_law_cell_at" (m3 E4) (j9 E4) (b8 E4) .none kV_9 dc_9 pm_9 an_9 cd_9 ct_9),sl_9⟩)
  (c_9:PySem.W.codeIn K cd_9 "_law_cell_at" = true)
  (k_9:PySem.W.keepIn K (.ref f_9)=true)
  (a_10:PySem.W.nsIn K mainGlobals "_law_stream" = some (some (.ref f_10)))
  (l_10:K.lookup f_10=some ⟨oc_10,od_10,.func (PySem.W.fnOf "_law_stream" "_law_stream" (m3 J3) (j9 J3) (b8 J3) .none kV_10 dc_10 pm_10 an_10 cd_10 ct_10),sl_10⟩)
  (c_10:PySem.W.codeIn K cd_10 "_law_stream" = true)
  (k_10:PySem.W.keepIn K (.ref f_10)=true)
  (a_11:PySem.W.nsIn K mainGlobals "_law_spot" = some (some (.ref f_11)))
  (l_11:K.lookup f_11=some ⟨oc_11,od_11,.func (PySem.W.fnOf "_law_spot" "_law_spot" (m3 P0) (j9 P0) (b8 P0) .none kV_11 dc_11 pm_11 an_11 cd_11 ct_11),sl_11⟩)
  (c_11:PySem.W.codeIn K cd_11 "_law_spot" = true)
  (k_11:PySem.W.keepIn K (.ref f_11)=true)
  (a_12:PySem.W.nsIn K mainGlobals "_law_share" = some (some (.ref f_12)))
  (l_12:K.lookup f_12=some ⟨oc_12,od_12,.func (PySem.W.fnOf "_law_share" "_law_share" (m3 M4) (j9 M4) (b8 M4) .none kV_12 dc_12 pm_12 an_12 cd_12 ct_12),sl_12⟩)
  (c_12:PySem.W.codeIn K cd_12 "_law_share" = true)
  (k_12:PySem.W.keepIn K (.ref f_12)=true)
  (a_13:PySem.W.nsIn K mainGlobals "_law_due" = some (some (.ref f_13)))
  (l_13:K.lookup f_13=some ⟨oc_13,od_13,.func (PySem.W.fnOf "_law_due" "_law_due" (m3 U3) (j9 U3) (b8 U3) .none kV_13 dc_13 pm_13 an_13 cd_13 ct_13),sl_13⟩)
  (c_13:PySem.W.codeIn K cd_13 "_law_due" = true)
  (k_13:PySem.W.keepIn K (.ref f_13)=true)
  (a_14:PySem.W.nsIn K mainGlobals "_law_side" = some (some (.ref f_14)))
  (l_14:K.lookup f_14=some ⟨oc_14,od_14,.func (PySem.W.fnOf "_law_side" "_law_side" (m3 P3) (j9 P3) (b8 P3) .none kV_14 dc_14 pm_14 an_14 cd_14 ct_14),sl_14⟩)
  (c_14:PySem.W.codeIn K cd_14 "_law_side" = true)
  (k_14:PySem.W.keepIn K (.ref f_14)=true)
  (a_15:PySem.W.nsIn K mainGlobals "_law_case" = some (some (.ref f_15)))
  (l_15:K.lookup f_15=some ⟨oc_15,od_15,.func (PySem.W.fnOf "_law_case" "_law_case" (m3 P4) (j9 P4) (b8 P4) .none kV_15 dc_15 pm_15 an_15 cd_15 ct_15),sl_15⟩)
  (c_15:PySem.W.codeIn K cd_15 "_law_case" = true)
  (k_15:PySem.W.keepIn K (.ref f_15)=true)
  (a_16:PySem.W.nsIn K mainGlobals "_law_sheet_kinds" = some (some (.ref f_16)))
  (l_16:K.lookup f_16=some ⟨oc_16,od_16,.func (PySem.W.fnOf "_law_sheet_kinds" "_law_sheet_kinds" (m3 A5) (j9 A5) (b8 A5) .none kV_16 dc_16 pm_16 an_16 cd_16 ct_16),sl_16⟩)
  (c_16:PySem.W.codeIn K cd_16 "_law_sheet_kinds" = true)
  (k_16:PySem.W.keepIn K (.ref f_16)=true)
  (a_17:PySem.W.nsIn K mainGlobals "_law_packing_kinds" = some (some (.ref f_17)))
  (l_17:K.lookup f_17=some ⟨oc_17,od_17,.func (PySem.W.fnOf "_law_packing_kinds" "_law_packing_kinds" (m3 y8) (j9 y8) (b8 y8) .none kV_17 dc_17 pm_17 an_17 cd_17 ct_17),sl_17⟩)
  (c_17:PySem.W.codeIn K cd_17 "_law_packing_kinds" = true)
  (k_17:PySem.W.keepIn K (.ref f_17)=true)
  (a_18:PySem.W.nsIn K mainGlobals "_law_drawn" = some (some (.ref f_18)))
  (l_18:K.lookup f_18=some ⟨oc_18,od_18,.func (PySem.W.fnOf "_law_drawn" "_law_drawn" (m3 M5) (j9 M5) (b8 M5) .none kV_18 dc_18 pm_18 an_18 cd_18 ct_18),sl_18⟩)
  (c_18:PySem.W.codeIn K cd_18 "_law_drawn" = true)
  (k_18:PySem.W.keepIn K (.ref f_18)=true)
  (a_19:PySem.W.nsIn K mainGlobals "_law_good" = some (some (.ref f_19)))
  (l_19:K.lookup f_19=some ⟨oc_19,od_19,.func (PySem.W.fnOf "_law_good" "_law_good" (m3 P5) (j9 P5) (b8 P5) .none kV_19 dc_19 pm_19 an_19 cd_19 ct_19),sl_19⟩)
  (c_19:PySem.W.codeIn K cd_19 "_law_good" = true)
  (k_19:PySem.W.keepIn K (.ref f_19)=true)
  (a_20:PySem.W.nsIn K mainGlobals "law" = some (some (.ref f_20)))
  (l_20:K.lookup f_20=some ⟨oc_20,od_20,.func (PySem.W.fnOf "law" "law" (m3 Q4) (j9 Q4) (b8 Q4) .none kV_20 dc_20 pm_20 an_20 cd_20 ct_20),sl_20⟩)
  (c_20:PySem.W.codeIn K cd_20 "law" = true)
  (k_20:PySem.W.keepIn K (.ref f_20)=true)
  (a_0:PySem.W.findIn K (.ref c0) "__init__" = some (some (.ref f_0)))
  (i_BadPacking___init__:PySem.W.isFn K (.ref f_0)=true)
  (l_0:K.lookup f_0=some ⟨oc_0,od_0,.func (PySem.W.fnOf "__init__" "BadPacking.__init__" (m3 u6) (j9 u6) (b8 u6) .none kV_0 dc_0 pm_0 an_0 cd_0 ct_0),sl_0⟩)
  (c_0:PySem.W.codeIn K cd_0 "BadPacking.__init__" = true)
  (k_0:PySem.W.keepIn K (.ref f_0)=true)
  (z_ValueError:PySem.W.nsIn K mainGlobals "ValueError" = some none)
  (z_enumerate:PySem.W.nsIn K mainGlobals "enumerate" = some none)
  (z_isinstance:PySem.W.nsIn K mainGlobals "isinstance" = some none)
  (z_len:PySem.W.nsIn K mainGlobals "len" = some none)
  (z_list:PySem.W.nsIn K mainGlobals "list" = some none)
  (z_max:PySem.W.nsIn K mainGlobals "max" = some none)
  (z_min:PySem.W.nsIn K mainGlobals "min" = some none)
  (z_range:PySem.W.nsIn K mainGlobals "range" = some none)
  (z_reversed:PySem.W.nsIn K mainGlobals "reversed" = some none)
  (z_str:PySem.W.nsIn K mainGlobals "str" = some none)
  (z_tuple:PySem.W.nsIn K mainGlobals "tuple" = some none)
  (z_zip:PySem.W.nsIn K mainGlobals "zip" = some none)
  (m_BadPacking:PySem.W.nsIn K mainGlobals "BadPacking" = some (some (.ref c0)))
  (m_BadPlan:PySem.W.nsIn K mainGlobals "BadPlan" = some (some (.ref c1)))
  (m_BadSide:PySem.W.nsIn K mainGlobals "BadSide" = some (some (.ref c2)))
  (m_BadTurn:PySem.W.nsIn K mainGlobals "BadTurn" = some (some (.ref c3)))
  (m_CrateError:PySem.W.nsIn K mainGlobals "CrateError" = some (some (.ref c4)))
  (m_Full:PySem.W.nsIn K mainGlobals "Full" = some (some (.ref c5)))
  (m_Hangs:PySem.W.nsIn K mainGlobals "Hangs" = some (some (.ref c6)))
  (m_NoDeed:PySem.W.nsIn K mainGlobals "NoDeed" = some (some (.ref c7)))
  (m_NoDrawing:PySem.W.nsIn K mainGlobals "NoDrawing" = some (some (.ref c8)))
  (m_NoPicker:PySem.W.nsIn K mainGlobals "NoPicker" = some (some (.ref c9)))
  (m_NoSheet:PySem.W.nsIn K mainGlobals "NoSheet" = some (some (.ref c10)))
  (m_NoText:PySem.W.nsIn K mainGlobals "NoText" = some (some (.ref c11)))
  (m_NoWare:PySem.W.nsIn K mainGlobals "NoWare" = some (some (.ref c12)))
  (m_NoWeighing:PySem.W.nsIn K mainGlobals "NoWeighing" = some (some (.ref c13)))
  (m_NothingDone:PySem.W.nsIn K mainGlobals "NothingDone" = some (some (.ref c14)))
  (m_Ring:PySem.W.nsIn K mainGlobals "Ring" = some (some (.ref c15)))
  (m_TooMany:PySem.W.nsIn K mainGlobals "TooMany" = some (some (.ref c16)))
  (m_TooWide:PySem.W.nsIn K mainGlobals "TooWide" = some (some (.ref c17)))
  (t9:a2a K c0=true)
  (xa_BadPacking:PySem.W.findIn K (.ref c0) "__setattr__" = some (some (.builtin "object.__setattr__")))
  (xm_BadPacking:((PySem.W.clsIn K c0).any fun cd=>PySem.W.onlyVE cd.mro)=true)
  (xq_BadPacking:PySem.W.mroIn K c0 (.type "object")=some true)
  (x_BadTurn:PySem.W.excIn K c3 vErr "ValueError.__new__" = true)
  (x_NoSheet:PySem.W.excIn K c10 vErr "ValueError.__new__" = true)
  (g_MOST_SIDE:PySem.W.nsIn K mainGlobals "MOST_SIDE" = some (some (.int 60 kt_MOST_SIDE)))
  (g_NOTHING:PySem.W.nsIn K mainGlobals "NOTHING" = some (some (.str "." kt_NOTHING)))
  (g_SIGNS:PySem.W.nsIn K mainGlobals "SIGNS" = some (some (.str "0123456789abcdefghijklmnopqrstuvwxyzABCDEFGHIJKLMNOPQRSTUVWXYZ" kt_SIGNS)))
  (t_exc_BadPacking1:PySem.W.findIn K (.ref c0) "__getattribute__" = some (some (.builtin "BaseException.__getattribute__")))
  (t_exc_BadPacking2:PySem.W.findIn K (.ref c0) "__getattr__" = some none)
  (t_exc_BadPacking3:PySem.W.findIn K (.ref c0) "__class__" = some (some (.builtin "object.__class__")))
  (t_exc_BadPacking4:PySem.W.mroIn K c0 (.type "object")=some true)
  (t_exc_BadPacking5:PySem.W.subIn K (.ref c0) (.type "BaseException")=some true)
  (t_exc_BadTurn1:PySem.W.findIn K (.ref c3) "__getattribute__" = some (some (.builtin "BaseException.__getattribute__")))
  (t_exc_BadTurn2:PySem.W.findIn K (.ref c3) "__getattr__" = some none)
  (t_exc_BadTurn3:PySem.W.findIn K (.ref c3) "__class__" = some (some (.builtin "object.__class__")))
  (t_exc_BadTurn4:PySem.W.mroIn K c3 (.type "object")=some true)
  (t_exc_BadTurn5:PySem.W.subIn K (.ref c3) (.type "BaseException")=some true)
  (t_exc_NoSheet1:PySem.W.findIn K (.ref c10) "__getattribute__" = some (some (.builtin "BaseException.__getattribute__")))
  (t_exc_NoSheet2:PySem.W.findIn K (.ref c10) "__getattr__" = some none)
  (t_exc_NoSheet3:PySem.W.findIn K (.ref c10) "__class__" = some (some (.builtin "object.__class__")))
  (t_exc_NoSheet4:PySem.W.mroIn K c10 (.type "object")=some true)
  (t_exc_NoSheet5:PySem.W.subIn K (.ref c10) (.type "BaseException")=some true)
  (hd_BadPacking:PySem.W.hasDictIn K c0=true)
  (xn_BadPacking:PySem.W.findIn K (.ref c0) "why" = some none)
  (t_any_BadPacking_0:PySem.W.kitAny K (.ref c0) [.ref c2,.ref c3,.ref c11,.ref c16,.ref c15,.ref c13,.ref c9,.ref c8]=some false)
  (t_any_BadPacking_1:PySem.W.kitAny K (.ref c0) [.ref c2,.ref c3,.ref c11,.ref c16,.ref c15,.ref c13,.ref c9,.ref c10]=some false)
  (t_any_BadPacking_2:PySem.W.kitAny K (.ref c0) [.ref c7,.ref c12,.ref c5,.ref c14,.ref c17,.ref c6,.ref c1,.ref c0]=some true)
  (t_any_BadPacking_3:PySem.W.kitAny K (.ref c0) [.ref c8,.ref c7,.ref c12,.ref c5,.ref c14,.ref c17,.ref c6,.ref c1]=some false)
  (t_one_BadPacking_CrateError:PySem.W.kitOne K (.ref c0) (.ref c4)=some true)
  (t_one_BadPacking_ValueError:PySem.W.kitOne K (.ref c0) (.type "ValueError")=some true)
  (t_exo_BadPacking_BadPacking:PySem.W.exmOne K (.ref c0) (.ref c0)=some true)
  (t_exo_BadPacking_NoSheet:PySem.W.exmOne K (.ref c0) (.ref c10)=some false)
  (t_any_BadTurn_0:PySem.W.kitAny K (.ref c3) [.ref c2,.ref c3,.ref c11,.ref c16,.ref c15,.ref c13,.ref c9,.ref c8]=some true)
  (t_any_BadTurn_1:PySem.W.kitAny K (.ref c3) [.ref c2,.ref c3,.ref c11,.ref c16,.ref c15,.ref c13,.ref c9,.ref c10]=some true)
  (t_any_BadTurn_2:PySem.W.kitAny K (.ref c3) [.ref c7,.ref c12,.ref c5,.ref c14,.ref c17,.ref c6,.ref c1,.ref c0]=some false)
  (t_any_BadTurn_3:PySem.W.kitAny K (.ref c3) [.ref c8,.ref c7,.ref c12,.ref c5,.ref c14,.ref c17,.ref c6,.ref c1]=some false)
  (t_one_BadTurn_CrateError:PySem.W.kitOne K (.ref c3) (.ref c4)=some true)
  (t_one_BadTurn_ValueError:PySem.W.kitOne K (.ref c3) (.type "ValueError")=some true)
  (t_exo_BadTurn_BadPacking:PySem.W.exmOne K (.ref c3) (.ref c0)=some false)
  (t_exo_BadTurn_NoSheet:PySem.W.exmOne K (.ref c3) (.ref c10)=some false)
  (t_any_NoSheet_0:PySem.W.kitAny K (.ref c10) [.ref c2,.ref c3,.ref c11,.ref c16,.ref c15,.ref c13,.ref c9,.ref c8]=some false)
  (t_any_NoSheet_1:PySem.W.kitAny K (.ref c10) [.ref c2,.ref c3,.ref c11,.ref c16,.ref c15,.ref c13,.ref c9,.ref c10]=some true)
  (t_any_NoSheet_2:PySem.W.kitAny K (.ref c10) [.ref c7,.ref c12,.ref c5,.ref c14,.ref c17,.ref c6,.ref c1,.ref c0]=some false)
  (t_any_NoSheet_3:PySem.W.kitAny K (.ref c10) [.ref c8,.ref c7,.ref c12,.ref c5,.ref c14,.ref c17,.ref c6,.ref c1]=some false)
  (t_one_NoSheet_CrateError:PySem.W.kitOne K (.ref c10) (.ref c4)=some true)
  (t_one_NoSheet_ValueError:PySem.W.kitOne K (.ref c10) (.type "ValueError")=some true)
  (t_exo_NoSheet_BadPacking:PySem.W.exmOne K (.ref c10) (.ref c0)=some false)
  (t_exo_NoSheet_NoSheet:PySem.W.exmOne K (.ref c10) (.ref c10)=some true)
  : ∃fd:FuncData,(∀(s:Shared) (v:Value),BindsTo s fd ⟨[v],[]⟩ [("_law_script",v)])∧∃c:Str→Addr,∀base:Heap,K.In base→base.Ns mainGlobals mg→FnOk (PySem.Challenge.rw_cratefit_k69_no_sheet).prog w K mg base (w9 (PySem.Challenge.rw_cratefit_k69_no_sheet).prog w) 15 fa fd ["_law_script"] (a2B K c):=by
 have e:=hfa.symm.trans (PySem.W.mg_of X G a_20)
 cases e
 have T:Txt K mg (cL c0 c1 c2 c3 c4 c5 c6 c7 c8 c9 c10 c11 c12 c13 c14 c15 c16 c17):=⟨PySem.W.mg_none_of X G z_ValueError,PySem.W.mg_none_of X G z_enumerate,PySem.W.mg_none_of X G z_isinstance,PySem.W.mg_none_of X G z_len,PySem.W.mg_none_of X G z_list,PySem.W.mg_none_of X G z_max,PySem.W.mg_none_of X G z_min,PySem.W.mg_none_of X G z_range,PySem.W.mg_none_of X G z_reversed,PySem.W.mg_none_of X G z_str,PySem.W.mg_none_of X G z_tuple,PySem.W.mg_none_of X G z_zip,PySem.W.mg_of X G m_BadPacking,PySem.W.mg_of X G m_BadPlan,PySem.W.mg_of X G m_BadSide,PySem.W.mg_of X G m_BadTurn,PySem.W.mg_of X G m_CrateError,PySem.W.mg_of X G m_Full,PySem.W.mg_of X G m_Hangs,PySem.W.mg_of X G m_NoDeed,PySem.W.mg_of X G m_NoDrawing,PySem.W.mg_of X G m_NoPicker,PySem.W.mg_of X G m_NoSheet,PySem.W.mg_of X G m_NoText,PySem.W.mg_of X G m_NoWare,PySem.W.mg_of X G m_NoWeighing,PySem.W.mg_of X G m_NothingDone,PySem.W.mg_of X G m_Ring,PySem.W.mg_of X G m_TooMany,PySem.W.mg_of X G m_TooWide,x_BadTurn,x_NoSheet,⟨_,PySem.W.mg_of X G g_MOST_SIDE,⟨_,rfl⟩⟩,⟨_,PySem.W.mg_of X G g_NOTHING,⟨_,rfl⟩⟩,⟨_,PySem.W.mg_of X G g_SIGNS,⟨_,rfl⟩⟩,⟨t_exc_BadPacking1,t_exc_BadPacking2,t_exc_BadPacking3,t_exc_BadPacking4,t_exc_BadPacking5⟩,⟨t_exc_BadTurn1,t_exc_BadTurn2,t_exc_BadTurn3,t_exc_BadTurn4,t_exc_BadTurn5⟩,⟨t_exc_NoSheet1,t_exc_NoSheet2,t_exc_NoSheet3,t_exc_NoSheet4,t_exc_NoSheet5⟩,hd_BadPacking,xn_BadPacking,t_any_BadPacking_0,t_any_BadPacking_1,t_any_BadPacking_2,t_any_BadPacking_3,t_one_BadPacking_CrateError,t_one_BadPacking_ValueError,t_exo_BadPacking_BadPacking,t_exo_BadPacking_NoSheet,t_any_BadTurn_0,t_any_BadTurn_1,t_any_BadTurn_2,t_any_BadTurn_3,t_one_BadTurn_CrateError,t_one_BadTurn_ValueError,t_exo_BadTurn_BadPacking,t_exo_BadTurn_NoSheet,t_any_NoSheet_0,t_any_NoSheet_1,t_any_NoSheet_2,t_any_NoSheet_3,t_one_NoSheet_CrateError,t_one_NoSheet_ValueError,t_exo_NoSheet_BadPacking,t_exo_NoSheet_NoSheet⟩
 refine⟨PySem.W.fnOf "law" "law" (m3 Q4) (j9 Q4) (b8 Q4) .none kV_20 dc_20 pm_20 an_20 cd_20 ct_20,fun s v=>.of_eq rfl,cOf [("BadPacking",c0),("BadPlan",c1),("BadSide",c2),("BadTurn",c3),("CrateError",c4),("Full",c5),("Hangs",c6),("NoDeed",c7),("NoDrawing",c8),("NoPicker",c9),("NoSheet",c10),("NoText",c11),("NoWare",c12),("NoWeighing",c13),("NothingDone",c14),("Ring",c15),("TooMany",c16),("TooWide",c17)],fun base _ _=>?_⟩
 have F_0:=v8 (st:=u6) l_0 c_0 k_0
 have B_0:=F_0.binds (ps:=["self","why"]) fun _ _ _ _ _ _ us hl=>match us,hl with | [_,_],_=>rfl
 have OI_BadPacking___init__:=Y4 (P:=(PySem.Challenge.rw_cratefit_k69_no_sheet).prog) (w:=w) (mg:=mg) (base:=base) (c:=cOf [("BadPacking",c0),("BadPlan",c1),("BadSide",c2),("BadTurn",c3),("CrateError",c4),("Full",c5),("Hangs",c6),("NoDeed",c7),("NoDrawing",c8),("NoPicker",c9),("NoSheet",c10),("NoText",c11),("NoWare",c12),("NoWeighing",c13),("NothingDone",c14),("Ring",c15),("TooMany",c16),("TooWide",c17)]) F_0 ⟨xa_BadPacking,xm_BadPacking,xq_BadPacking,hd_BadPacking,xn_BadPacking⟩
 have XI_BadPacking:a8d (PySem.Challenge.rw_cratefit_k69_no_sheet).prog w K mg base 3 "BadPacking" ((cL c0 c1 c2 c3 c4 c5 c6 c7 c8 c9 c10 c11 c12 c13 c14 c15 c16 c17) "BadPacking") ["self","why"] "why" := ⟨_,_,⟨t9,a_0,beq_iff_eq.mp i_BadPacking___init__⟩,OI_BadPacking___init__,B_0,PySem.W.mg_of X G m_BadPacking⟩
 have F_1:=v8 (st:=J2) l_1 c_1 k_1
 have B_1:=F_1.binds (ps:=["ware","lie"]) fun _ _ _ _ _ _ us hl=>match us,hl with | [_,_],_=>rfl
 have O_1:Own (PySem.Challenge.rw_cratefit_k69_no_sheet).prog w K mg base 3 "sides_of" ["ware","lie"] (k6 K (cL c0 c1 c2 c3 c4 c5 c6 c7 c8 c9 c10 c11 c12 c13 c14 c15 c16 c17) O1):=⟨_,_,a4S F_1 T ,B_1,k_1,PySem.W.mg_of X G a_1⟩
 have F_2:=v8 (st:=M1) l_2 c_2 k_2
 have B_2:=F_2.binds (ps:=["ware","place"]) fun _ _ _ _ _ _ us hl=>match us,hl with | [_,_],_=>rfl
 have O_2:Own (PySem.Challenge.rw_cratefit_k69_no_sheet).prog w K mg base 5 "spot_of" ["ware","place"] (k6 K (cL c0 c1 c2 c3 c4 c5 c6 c7 c8 c9 c10 c11 c12 c13 c14 c15 c16 c17) z0):=⟨_,_,a6i F_2 T O_1,B_2,k_2,PySem.W.mg_of X G a_2⟩
 have F_3:=v8 (st:=C4) l_3 c_3 k_3
 have B_3:=F_3.binds (ps:=["wares","places"]) fun _ _ _ _ _ _ us hl=>match us,hl with | [_,_],_=>rfl
 have O_3:Own (PySem.Challenge.rw_cratefit_k69_no_sheet).prog w K mg base 7 "spots_of" ["wares","places"] (k6 K (cL c0 c1 c2 c3 c4 c5 c6 c7 c8 c9 c10 c11 c12 c13 c14 c15 c16 c17) B1):=⟨_,_,a4U F_3 T O_2,B_3,k_3,PySem.W.mg_of X G a_3⟩
 have F_4:=v8 (st:=U1) l_4 c_4 k_4
 have B_4:=F_4.binds (ps:=["one","other"]) fun _ _ _ _ _ _ us hl=>match us,hl with | [_,_],_=>rfl
 have O_4:Own (PySem.Challenge.rw_cratefit_k69_no_sheet).prog w K mg base 3 "apart" ["one","other"] (k6 K (cL c0 c1 c2 c3 c4 c5 c6 c7 c8 c9 c10 c11 c12 c13 c14 c15 c16 c17) P6):=⟨_,_,a8j F_4 T ,B_4,k_4,PySem.W.mg_of X G a_4⟩
 have F_5:=v8 (st:=M3) l_5 c_5 k_5
 have B_5:=F_5.binds (ps:=["box","spot"]) fun _ _ _ _ _ _ us hl=>match us,hl with | [_,_],_=>rfl
 have O_5:Own (PySem.Challenge.rw_cratefit_k69_no_sheet).prog w K mg base 3 "lies_in" ["box","spot"] (k6 K (cL c0 c1 c2 c3 c4 c5 c6 c7 c8 c9 c10 c11 c12 c13 c14 c15 c16 c17) D2):=⟨_,_,a6j F_5 T ,B_5,k_5,PySem.W.mg_of X G a_5⟩
 have F_6:=v8 (st:=U2) l_6 c_6 k_6
 have B_6:=F_6.binds (ps:=["box","wares","places"]) fun _ _ _ _ _ _ us hl=>match us,hl with | [_,_,_],_=>rfl
 have O_6:Own (PySem.Challenge.rw_cratefit_k69_no_sheet).prog w K mg base 7 "fault" ["box","wares","places"] (k6 K (cL c0 c1 c2 c3 c4 c5 c6 c7 c8 c9 c10 c11 c12 c13 c14 c15 c16 c17) C0):=⟨_,_,a8k F_6 T O_2 O_5 O_4,B_6,k_6,PySem.W.mg_of X G a_6⟩
 have F_7:=v8 (st:=A4) l_7 c_7 k_7
 have B_7:=F_7.binds (ps:=["side"]) fun _ _ _ _ _ _ us hl=>match us,hl with | [_],_=>rfl
 have O_7:Own (PySem.Challenge.rw_cratefit_k69_no_sheet).prog w K mg base 3 "is_sheet_side" ["side"] (k6 K (cL c0 c1 c2 c3 c4 c5 c6 c7 c8 c9 c10 c11 c12 c13 c14 c15 c16 c17) r8):=⟨_,_,a1X F_7 T ,B_7,k_7,PySem.W.mg_of X G a_7⟩
 have F_8:=v8 (st:=E3) l_8 c_8 k_8
 have B_8:=F_8.binds (ps:=["box","wares","places"]) fun _ _ _ _ _ _ us hl=>match us,hl with | [_,_,_],_=>rfl
 have O_8:Own (PySem.Challenge.rw_cratefit_k69_no_sheet).prog w K mg base 9 "drawn" ["box","wares","places"] (k6 K (cL c0 c1 c2 c3 c4 c5 c6 c7 c8 c9 c10 c11 c12 c13 c14 c15 c16 c17) E5):=⟨_,_,a8l F_8 T O_7 O_6 O_3 XI_BadPacking,B_8,k_8,PySem.W.mg_of X G a_8⟩
 have F_9:=v8 (st:=E4) l_9 c_9 k_9
 have B_9:=F_9.binds (ps:=["_law_script","_law_k"]) fun _ _ _ _ _ _ us hl=>match us,hl with | [_,_],_=>rfl
 have O_9:Own (PySem.Challenge.rw_cratefit_k69_no_sheet).prog w K mg base 3 "_law_cell_at" ["_law_script","_law_k"] (k6 K (cL c0 c1 c2 c3 c4 c5 c6 c7 c8 c9 c10 c11 c12 c13 c14 c15 c16 c17) k7):=⟨_,_,a4B F_9 T ,B_9,k_9,PySem.W.mg_of X G a_9⟩
 have F_10:=v8 (st:=J3) l_10 c_10 k_10
 have B_10:=F_10.binds (ps:=["_law_cell","_law_many"]) fun _ _ _ _ _ _ us hl=>match us,hl with | [_,_],_=>rfl
 have O_10:Own (PySem.Challenge.rw_cratefit_k69_no_sheet).prog w K mg base 3 "_law_stream" ["_law_cell","_law_many"] (k6 K (cL c0 c1 c2 c3 c4 c5 c6 c7 c8 c9 c10 c11 c12 c13 c14 c15 c16 c17) D7):=⟨_,_,a4V F_10 T ,B_10,k_10,PySem.W.mg_of X G a_10⟩
 have F_11:=v8 (st:=P0) l_11 c_11 k_11
 have B_11:=F_11.binds (ps:=["_law_ware","_law_place"]) fun _ _ _ _ _ _ us hl=>match us,hl with | [_,_],_=>rfl
 have O_11:Own (PySem.Challenge.rw_cratefit_k69_no_sheet).prog w K mg base 3 "_law_spot" ["_law_ware","_law_place"] (k6 K (cL c0 c1 c2 c3 c4 c5 c6 c7 c8 c9 c10 c11 c12 c13 c14 c15 c16 c17) D8):=⟨_,_,a63 F_11 T ,B_11,k_11,PySem.W.mg_of X G a_11⟩
 have F_12:=v8 (st:=M4) l_12 c_12 k_12
 have B_12:=F_12.binds (ps:=["_law_one","_law_other"]) fun _ _ _ _ _ _ us hl=>match us,hl with | [_,_],_=>rfl
 have O_12:Own (PySem.Challenge.rw_cratefit_k69_no_sheet).prog w K mg base 3 "_law_share" ["_law_one","_law_other"] (k6 K (cL c0 c1 c2 c3 c4 c5 c6 c7 c8 c9 c10 c11 c12 c13 c14 c15 c16 c17) G6):=⟨_,_,a6l F_12 T ,B_12,k_12,PySem.W.mg_of X G a_12⟩
 have F_13:=v8 (st:=U3) l_13 c_13 k_13
 have B_13:=F_13.binds (ps:=["_law_box","_law_wares","_law_places"]) fun _ _ _ _ _ _ us hl=>match us,hl with | [_,_,_],_=>rfl
 have O_13:Own (PySem.Challenge.rw_cratefit_k69_no_sheet).prog w K mg base 5 "_law_due" ["_law_box","_law_wares","_law_places"] (k6 K (cL c0 c1 c2 c3 c4 c5 c6 c7 c8 c9 c10 c11 c12 c13 c14 c15 c16 c17) M6):=⟨_,_,a8m F_13 T O_11 O_12,B_13,k_13,PySem.W.mg_of X G a_13⟩
 have F_14:=v8 (st:=P3) l_14 c_14 k_14
 have B_14:=F_14.binds (ps:=["_law_cell"]) fun _ _ _ _ _ _ us hl=>match us,hl with | [_],_=>rfl
 have O_14:Own (PySem.Challenge.rw_cratefit_k69_no_sheet).prog w K mg base 3 "_law_side" ["_law_cell"] (k6 K (cL c0 c1 c2 c3 c4 c5 c6 c7 c8 c9 c10 c11 c12 c13 c14 c15 c16 c17) G7):=⟨_,_,a64 F_14 T ,B_14,k_14,PySem.W.mg_of X G a_14⟩
 have F_15:=v8 (st:=P4) l_15 c_15 k_15
 have B_15:=F_15.binds (ps:=["_law_script"]) fun _ _ _ _ _ _ us hl=>match us,hl with | [_],_=>rfl
 have O_15:Own (PySem.Challenge.rw_cratefit_k69_no_sheet).prog w K mg base 5 "_law_case" ["_law_script"] (k6 K (cL c0 c1 c2 c3 c4 c5 c6 c7 c8 c9 c10 c11 c12 c13 c14 c15 c16 c17) L6):=⟨_,_,a65 F_15 T O_9 O_10,B_15,k_15,PySem.W.mg_of X G a_15⟩
 have F_16:=v8 (st:=A5) l_16 c_16 k_16
 have B_16:=F_16.binds (ps:=["_law_e"]) fun _ _ _ _ _ _ us hl=>match us,hl with | [_],_=>rfl
 have O_16:OwnW (PySem.Challenge.rw_cratefit_k69_no_sheet).prog w K mg base 3 "_law_sheet_kinds" ["_law_e"] (k6 K (cL c0 c1 c2 c3 c4 c5 c6 c7 c8 c9 c10 c11 c12 c13 c14 c15 c16 c17) y4):=⟨_,_,a1Y F_16 T ,B_16,k_16,PySem.W.mg_of X G a_16⟩
 have F_17:=v8 (st:=y8) l_17 c_17 k_17
 have B_17:=F_17.binds (ps:=["_law_e"]) fun _ _ _ _ _ _ us hl=>match us,hl with | [_],_=>rfl
 have O_17:OwnW (PySem.Challenge.rw_cratefit_k69_no_sheet).prog w K mg base 3 "_law_packing_kinds" ["_law_e"] (k6 K (cL c0 c1 c2 c3 c4 c5 c6 c7 c8 c9 c10 c11 c12 c13 c14 c15 c16 c17) v5):=⟨_,_,a08 F_17 T ,B_17,k_17,PySem.W.mg_of X G a_17⟩
 have F_18:=v8 (st:=M5) l_18 c_18 k_18
 have B_18:=F_18.binds (ps:=["_law_box","_law_wares","_law_places"]) fun _ _ _ _ _ _ us hl=>match us,hl with | [_,_,_],_=>rfl
 have O_18:Own (PySem.Challenge.rw_cratefit_k69_no_sheet).prog w K mg base 11 "_law_drawn" ["_law_box","_law_wares","_law_places"] (k6 K (cL c0 c1 c2 c3 c4 c5 c6 c7 c8 c9 c10 c11 c12 c13 c14 c15 c16 c17) G9):=⟨_,_,a6m F_18 T O_17 O_16 O_8,B_18,k_18,PySem.W.mg_of X G a_18⟩
 have F_19:=v8 (st:=P5) l_19 c_19 k_19
 have B_19:=F_19.binds (ps:=["_law_box","_law_wares","_law_places"]) fun _ _ _ _ _ _ us hl=>match us,hl with | [_,_,_],_=>rfl
 have O_19:Own (PySem.Challenge.rw_cratefit_k69_no_sheet).prog w K mg base 13 "_law_good" ["_law_box","_law_wares","_law_places"] (k6 K (cL c0 c1 c2 c3 c4 c5 c6 c7 c8 c9 c10 c11 c12 c13 c14 c15 c16 c17) A8):=⟨_,_,a67 F_19 T O_18 O_13,B_19,k_19,PySem.W.mg_of X G a_19⟩
 have F_20:=v8 (st:=Q4) l_20 c_20 k_20
 exact b2b F_20 T O_14 O_9 O_15 O_19
end Law
namespace Law
open PySem L2 PyProof.Rows
theorem walk{q:Program}{loose:List Str}{XP:(Str→Option Value)→Heap→Prop}{YP:World→Heap→Prop}{d:DefRec}{K:Params→PySem.W.Frag}(hdf:d.params.defaults=[])(hY:∀(w:World) (h:Heap),YP w h→(K w.params).In h)
  (F:∀(w:World) (mg:Str→Option Value) (fa:Addr) (h:Heap),(K w.params).In h→h.Ns mainGlobals mg→mg d.name=some (.ref fa) →
   ∃fd:FuncData,(∀(s:Shared) (u:Value),BindsTo s fd ⟨[u],[]⟩ [("_law_script",u)])∧∃c:Str→Addr,∀base:Heap,(K w.params).In base→base.Ns mainGlobals mg→FnOk (PySem.Challenge.rw_cratefit_k69_no_sheet).prog w (K w.params) mg base (w9 (PySem.Challenge.rw_cratefit_k69_no_sheet).prog w) 15 fa fd ["_law_script"] (a2B (K w.params) c)) :
  PySem.W.WalkO q loose XP YP (PySem.Challenge.rw_cratefit_k69_no_sheet).row.toRowW d [] (fun f vs=>PySem.call f vs):=by
 refine L2.walk_ofB (l:=PySem.Challenge.rw_cratefit_k69_no_sheet) (n:=63) (k:=15) (x := "_law_script") (K:=K) (CX:=fun w=>w9 (PySem.Challenge.rw_cratefit_k69_no_sheet).prog w) (sp:=fun w vs H Q E=>∀c,a2B (K w.params) c vs H Q E) rfl (by decide) hdf ⟨rfl,by decide,by decide⟩ hY (fun w mg fa h KX G hm=>?_) (fun w H a ns h1 h2 h3 h4 c=>⟨a,ns,rfl,.of h4 h3,h2,h1,fun _=>rfl⟩) fun w H s e s' z=>b2f H s e s' z
 obtain⟨fd,hb,c,hF⟩:=F w mg fa h KX G hm
 exact⟨fd,hb,fun base kb nb=>(hF base kb nb).imp fun vs H Q E z=>z c⟩
end Law
local macro_rules|`(#check 0)=>do
 let g:=fun(n:Lean.Name)=>do
  let y:=Lean.mkIdent (.str `PySem.W.Fast s!"tw{n.hash}")
  `(theorem $y:ident : True:=trivial)
 let mut r:=#[←g `PySem.Challenge.pw_cratefit_k69_no_sheet]
 for x in ["heap_39","heap_46","heap_487","sts_49","sts_64","sts_79","sts_94","sts_109","sts_124","sts_139","sts_154","sts_169","sts_184","sts_199","sts_214","sts_229","sts_244","sts_259","sts_281","sts_303","sts_325","sts_373","sts_450","tree_47","tree_63","tree_78","tree_93","tree_108","tree_123","tree_138","tree_153","tree_168","tree_183","tree_198","tree_213","tree_228","tree_243","tree_258","tree_280","tree_302","tree_324","tree_372","tree_449","tree_486","view_39","env_41"]++(List.range 444).map (s!"o_{·+43}") do r:=r.push (←g (.str `PySem.Challenge.cw_cratefit_k69_no_sheet_holds x))
 return Lean.mkNullNode r
#check 0
open PySem.W
set_option maxRecDepth 100000 in
set_option maxHeartbeats 0 in
theorem PySem.Challenge.cw_cratefit_k69_no_sheet_holds : PySem.Challenge.rw_cratefit_k69_no_sheet.Holds := by
 w_on;o_law;k_head; (case hw=>w_witness2)
 k_fill
 refine Law.walk rfl (fun w h Y=>PySem.W.kIn_of Y) ?F
 case F =>
  intro w mg fa h KX G hmg
  refine' Law.all_mk KX G hmg ?a_sides_of ?l_sides_of ?c_sides_of ?k_sides_of ?a_spot_of ?l_spot_of ?c_spot_of ?k_spot_of ?a_spots_of ?l_spots_of ?c_spots_of ?k_spots_of ?a_apart ?l_apart ?c_apart ?k_apart ?a_lies_in ?l_lies_in ?c_lies_in ?k_lies_in ?a_fault ?l_fault ?c_fault ?k_fault ?a_is_sheet_side ?l_is_sheet_side ?c_is_sheet_side ?k_is_sheet_side ?a_drawn ?l_drawn ?c_drawn ?k_drawn ?a_l_cell_at ?l_l_cell_at ?c_l_cell_at ?k_l_cell_at ?a_l_stream ?l_l_stream ?c_l_stream ?k_l_stream ?a_l_spot ?l_l_spot ?c_l_spot ?k_l_spot ?a_l_share ?l_l_share ?c_l_share ?k_l_share ?a_l_due ?l_l_due ?c_l_due ?k_l_due ?a_l_side ?l_l_side ?c_l_side ?k_l_side ?a_l_case ?l_l_case ?c_l_case ?k_l_case ?a_l_sheet_kinds ?l_l_sheet_kinds ?c_l_sheet_kinds ?k_l_sheet_kinds ?a_l_packing_kinds ?l_l_packing_kinds ?c_l_packing_kinds ?k_l_packing_kinds ?a_l_drawn ?l_l_drawn ?c_l_drawn ?k_l_drawn ?a_l_good ?l_l_good ?c_l_good ?k_l_good ?a_law ?l_law ?c_law ?k_law ?a_BadPacking___init__ ?i_BadPacking___init__ ?l_BadPacking___init__ ?c_BadPacking___init__ ?k_BadPacking___init__ ?z_ValueError ?z_enumerate ?z_isinstance ?z_len ?z_list ?z_max ?z_min ?z_range ?z_reversed ?z_str ?z_tuple ?z_zip ?m_BadPacking ?m_BadPlan ?m_BadSide ?m_BadTurn ?m_CrateError ?m_Full ?m_Hangs ?m_NoDeed ?m_NoDrawing ?m_NoPicker ?m_NoSheet ?m_NoText ?m_NoWare ?m_NoWeighing ?m_NothingDone ?m_Ring ?m_TooMany ?m_TooWide ?t9 ?xa_BadPacking ?xm_BadPacking ?xq_BadPacking ?x_BadTurn ?x_NoSheet ?g_MOST_SIDE ?g_NOTHING ?g_SIGNS ?t_exc_BadPacking1 ?t_exc_BadPacking2 ?t_exc_BadPacking3 ?t_exc_BadPacking4 ?t_exc_BadPacking5 ?t_exc_BadTurn1 ?t_exc_BadTurn2 ?t_exc_BadTurn3 ?t_exc_BadTurn4 ?t_exc_BadTurn5 ?t_exc_NoSheet1 ?t_exc_NoSheet2 ?t_exc_NoSheet3 ?t_exc_NoSheet4 ?t_exc_NoSheet5 ?hd_BadPacking ?xn_BadPacking ?t_any_BadPacking_0 ?t_any_BadPacking_1 ?t_any_BadPacking_2 ?t_any_BadPacking_3 ?t_one_BadPacking_CrateError ?t_one_BadPacking_ValueError ?t_exo_BadPacking_BadPacking ?t_exo_BadPacking_NoSheet ?t_any_BadTurn_0 ?t_any_BadTurn_1 ?t_any_BadTurn_2 ?t_any_BadTurn_3 ?t_one_BadTurn_CrateError ?t_one_BadTurn_ValueError ?t_exo_BadTurn_BadPacking ?t_exo_BadTurn_NoSheet ?t_any_NoSheet_0 ?t_any_NoSheet_1 ?t_any_NoSheet_2 ?t_any_NoSheet_3 ?t_one_NoSheet_CrateError ?t_one_NoSheet_ValueError ?t_exo_NoSheet_BadPacking ?t_exo_NoSheet_NoSheet
  (case m_BadPacking=>k_is)
  (case a_sides_of=>k_is)
  (case l_sides_of=>k_is)
  (case c_sides_of=>k_is)
  (case k_sides_of=>k_is)
  (case a_spot_of=>k_is)
  (case l_spot_of=>k_is)
  (case c_spot_of=>k_is)
  (case k_spot_of=>k_is)
  (case a_spots_of=>k_is)
  (case l_spots_of=>k_is)
  (case c_spots_of=>k_is)
  (case k_spots_of=>k_is)
  (case a_apart=>k_is)
  (case l_apart=>k_is)
  (case c_apart=>k_is)
  (case k_apart=>k_is)
  (case a_lies_in=>k_is)
  (case l_lies_in=>k_is)
  (case c_lies_in=>k_is)
  (case k_lies_in=>k_is)
  (case a_fault=>k_is)
  (case l_fault=>k_is)
  (case c_fault=>k_is)
  (case k_fault=>k_is)
  (case a_is_sheet_side=>k_is)
  (case l_is_sheet_side=>k_is)
  (case c_is_sheet_side=>k_is)
  (case k_is_sheet_side=>k_is)
  (case a_drawn=>k_is)
  (case l_drawn=>k_is)
  (case c_drawn=>k_is)
  (case k_drawn=>k_is)
  (case a_l_cell_at=>k_is)
  (case l_l_cell_at=>k_is)
  (case c_l_cell_at=>k_is)
  (case k_l_cell_at=>k_is)
  (case a_l_stream=>k_is)
  (case l_l_stream=>k_is)
  (case c_l_stream=>k_is)
  (case k_l_stream=>k_is)
  (case a_l_spot=>k_is)
  (case l_l_spot=>k_is)
  (case c_l_spot=>k_is)
  (case k_l_spot=>k_is)
  (case a_l_share=>k_is)
  (case l_l_share=>k_is)
  (case c_l_share=>k_is)
  (case k_l_share=>k_is)
  (case a_l_due=>k_is)
  (case l_l_due=>k_is)
  (case c_l_due=>k_is)
  (case k_l_due=>k_is)
  (case a_l_side=>k_is)
  (case l_l_side=>k_is)
  (case c_l_side=>k_is)
  (case k_l_side=>k_is)
  (case a_l_case=>k_is)
  (case l_l_case=>k_is)
  (case c_l_case=>k_is)
  (case k_l_case=>k_is)
  (case a_l_sheet_kinds=>k_is)
  (case l_l_sheet_kinds=>k_is)
  (case c_l_sheet_kinds=>k_is)
  (case k_l_sheet_kinds=>k_is)
  (case a_l_packing_kinds=>k_is)
  (case l_l_packing_kinds=>k_is)
  (case c_l_packing_kinds=>k_is)
  (case k_l_packing_kinds=>k_is)
  (case a_l_drawn=>k_is)
  (case l_l_drawn=>k_is)
  (case c_l_drawn=>k_is)
  (case k_l_drawn=>k_is)
  (case a_l_good=>k_is)
  (case l_l_good=>k_is)
  (case c_l_good=>k_is)
  (case k_l_good=>k_is)
  (case a_law=>k_is)
  (case l_law=>k_is)
  (case c_law=>k_is)
  (case k_law=>k_is)
  (case a_BadPacking___init__=>k_is)
  (case i_BadPacking___init__=>k_is)
  (case l_BadPacking___init__=>k_is)
  (case c_BadPacking___init__=>k_is)
  (case k_BadPacking___init__=>k_is)
  (case z_ValueError=>k_is)
  (case z_enumerate=>k_is)
  (case z_isinstance=>k_is)
  (case z_len=>k_is)
  (case z_list=>k_is)
  (case z_max=>k_is)
  (case z_min=>k_is)
  (case z_range=>k_is)
  (case z_reversed=>k_is)
  (case z_str=>k_is)
  (case z_tuple=>k_is)
  (case z_zip=>k_is)
  (case m_BadPlan=>k_is)
  (case m_BadSide=>k_is)
  (case m_BadTurn=>k_is)
  (case m_CrateError=>k_is)
  (case m_Full=>k_is)
  (case m_Hangs=>k_is)
  (case m_NoDeed=>k_is)
  (case m_NoDrawing=>k_is)
  (case m_NoPicker=>k_is)
  (case m_NoSheet=>k_is)
  (case m_NoText=>k_is)
  (case m_NoWare=>k_is)
  (case m_NoWeighing=>k_is)
  (case m_NothingDone=>k_is)
  (case m_Ring=>k_is)
  (case m_TooMany=>k_is)
  (case m_TooWide=>k_is)
  (case t9=>kernel_rfl)
  (case xa_BadPacking=>k_is)
  (case xm_BadPacking=>kernel_rfl)
  (case xq_BadPacking=>k_is)
  (case x_BadTurn=>kernel_rfl)
  (case x_NoSheet=>kernel_rfl)
  (case g_MOST_SIDE=>k_is)
  (case g_NOTHING=>k_is)
  (case g_SIGNS=>k_is)
  (case t_exc_BadPacking1=>k_is)
  (case t_exc_BadPacking2=>k_is)
  (case t_exc_BadPacking3=>k_is)
  (case t_exc_BadPacking4=>k_is)
  (case t_exc_BadPacking5=>k_is)
  (case t_exc_BadTurn1=>k_is)
  (case t_exc_BadTurn2=>k_is)
  (case t_exc_BadTurn3=>k_is)
  (case t_exc_BadTurn4=>k_is)
  (case t_exc_BadTurn5=>k_is)
  (case t_exc_NoSheet1=>k_is)
  (case t_exc_NoSheet2=>k_is)
  (case t_exc_NoSheet3=>k_is)
  (case t_exc_NoSheet4=>k_is)
  (case t_exc_NoSheet5=>k_is)
  (case hd_BadPacking=>k_is)
  (case xn_BadPacking=>k_is)
  (case t_any_BadPacking_0=>kit_is)
  (case t_any_BadPacking_1=>kit_is)
  (case t_any_BadPacking_2=>kit_is)
  (case t_any_BadPacking_3=>kit_is)
  (case t_one_BadPacking_CrateError=>kit_is)
  (case t_one_BadPacking_ValueError=>kit_is)
  (case t_exo_BadPacking_BadPacking=>kts_exm)
  (case t_exo_BadPacking_NoSheet=>kts_exm)
  (case t_any_BadTurn_0=>kit_is)
  (case t_any_BadTurn_1=>kit_is)
  (case t_any_BadTurn_2=>kit_is)
  (case t_any_BadTurn_3=>kit_is)
  (case t_one_BadTurn_CrateError=>kit_is)
  (case t_one_BadTurn_ValueError=>kit_is)
  (case t_exo_BadTurn_BadPacking=>kts_exm)
  (case t_exo_BadTurn_NoSheet=>kts_exm)
  (case t_any_NoSheet_0=>kit_is)
  (case t_any_NoSheet_1=>kit_is)
  (case t_any_NoSheet_2=>kit_is)
  (case t_any_NoSheet_3=>kit_is)
  (case t_one_NoSheet_CrateError=>kit_is)
  (case t_one_NoSheet_ValueError=>kit_is)
  (case t_exo_NoSheet_BadPacking=>kts_exm)
  (case t_exo_NoSheet_NoSheet=>kts_exm)
