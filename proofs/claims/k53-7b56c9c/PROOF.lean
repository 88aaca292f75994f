import PyProof.Rows.All
import Wide.All
import OpenK.AllK
import Wide.FinOn
import Lean
import PyProof.EqAt
import PyProof.EqKinds
import PyProof.TupleCall
import KE.KLam
import KE.KSortKey
import PyProof.ListRange
import PyProof.CollectIter
import PyProof.Rows.RuleB_bool
import PySem.Challenge.RW_cratefit_k53_whole_shelves_are_low
set_option Elab.async false
set_option linter.all false
set_option maxRecDepth 100000
set_option hygiene false
namespace L2
open PySem PySem.Spec PyProof.Rows
abbrev M6:=Sum Int Str
def a8C:M6→Value→Bool
 | .inl k,v=>Value.isInt k v
 | .inr x,v=>Value.isStrOf x v
def b3n(w:World):M6→Int
 | .inl k=>hashInt k
 | .inr x=>hashStr w x
theorem u7:∀{k:M6} {v:Value},a8C k v=true→(∃i t,k=Sum.inl i∧v=Value.int i t)∨(∃x t,k=Sum.inr x∧v=Value.str x t)
 | .inl i,v,h=>by
  obtain⟨t,e⟩:=Value.isInt_shape (k:=i) (v:=v) h
  exact .inl ⟨i,t,rfl,e⟩
 | .inr x,v,h=>by
  obtain⟨t,e⟩:=Value.isStrOf_shape (x:=x) (v:=v) h
  exact .inr ⟨x,t,rfl,e⟩
theorem b0X(a b:Int):decide ((Sum.inl a:M6)=Sum.inl b)=(a == b):=by
 by_cases e:a=b
 ·subst e;simp
 ·have h:¬(Sum.inl a:M6)=Sum.inl b:=fun q=>e (Sum.inl.inj q)
  rw[decide_eq_false h]
  exact(beq_eq_false_iff_ne.mpr e).symm
theorem b0Y(a b:Str):decide ((Sum.inr a:M6)=Sum.inr b)=decide (a=b):=by
 by_cases e:a=b
 ·subst e;simp
 ·have h:¬(Sum.inr a:M6)=Sum.inr b:=fun q=>e (Sum.inr.inj q)
  rw[decide_eq_false h,decide_eq_false e]
theorem b0Z(a:Int)(b:Str):decide ((Sum.inl a:M6)=Sum.inr b)=false:=decide_eq_false (fun q=>nomatch q)
theorem b00(a:Str)(b:Int):decide ((Sum.inr a:M6)=Sum.inl b)=false:=decide_eq_false (fun q=>nomatch q)
def a4Q(prog:Program)(w:World):PySem.KeyKind prog w M6 where
 is:=a8C
 hash:=b3n w
 inj:=fun v a b ha hb=>by
  rcases u7 ha with⟨i,t,rfl,rfl⟩ | ⟨x,t,rfl,rfl⟩
  ·rcases u7 hb with⟨j,u,rfl,e⟩ | ⟨y,u,rfl,e⟩
   ·injection e with e1 _;rw[e1]
   ·exact nomatch e
  ·rcases u7 hb with⟨j,u,rfl,e⟩ | ⟨y,u,rfl,e⟩
   ·exact nomatch e
   ·injection e with e1 _;rw[e1]
 byValue:=fun k v h=>by
  rcases u7 h with⟨i,t,rfl,rfl⟩ | ⟨x,t,rfl,rfl⟩<;>rfl
 pyHash:=fun hv h=>by
  rcases u7 hv with⟨i,t,rfl,rfl⟩ | ⟨x,t,rfl,rfl⟩
  ·exact wpAny_pyHash_int h
  ·exact wpAny_pyHash_str h
 eqBool:=fun hu hv h=>by
  rcases u7 hu with⟨i,t,rfl,rfl⟩ | ⟨x,t,rfl,rfl⟩
  ·rcases u7 hv with⟨j,u,rfl,rfl⟩ | ⟨y,u,rfl,rfl⟩
   ·rw[b0X]at h;exact wpAny_eqBool_int h
   ·rw[b0Z]at h;exact SeqAt.EqAt.int_str i t y u _ _ _ _ h
  ·rcases u7 hv with⟨j,u,rfl,rfl⟩ | ⟨y,u,rfl,rfl⟩
   ·rw[b00]at h;exact SeqAt.EqAt.str_int x t j u _ _ _ _ h
   ·rw[b0Y]at h;exact wpAny_eqBool_str h
 «strs» := fun k x t v h=>by
  rcases u7 h with⟨i,u,rfl,e⟩ | ⟨y,u,rfl,e⟩
  ·exact nomatch e
  ·injection e with e1 _
   subst e1
   cases v<;>rfl
inductive V where
 | non | bl (b:Bool) | int (i:Int) | str (x:Str) | byt (b:Array UInt8) | flt (b:UInt64) | ref (a:Addr) | ty (n:String)
 deriving DecidableEq
def RelV:V→Value→Prop
 | .non,u=>u=Value.none
 | .bl b,u=>u=Value.bool b
 | .int i,u=>∃t,u=Value.int i t
 | .str x,u=>∃t,u=Value.str x t
 | .byt b,u=>∃t,u=Value.bytes b t
 | .flt b,u=>∃t,u=Value.float b t
 | .ref a,u=>u=Value.ref a
 | .ty n,u=>u=Value.type n
abbrev Vals:List V→List Value→Prop:=Paired RelV
theorem Vals.length{xs:List V}{us:List Value}(r:Vals xs us):xs.length=us.length:=Paired.length r
theorem Vals.get:∀{xs:List V} {us:List Value} {i:Nat} {x:V},Vals xs us→xs[i]? = some x→∃u,us[i]? = some u∧RelV x u
 | _,_,_,_,.nil,e=>by simp at e
 | _,_,0,_,.cons r _,e=>by simp at e;subst e;exact⟨_,rfl,r⟩
 | _,_,i+1,x,.cons _ t,e=>by
  obtain⟨u,h1,h2⟩:=Vals.get (i:=i) (x:=x) t (by simpa using e)
  exact⟨u,by simpa using h1,h2⟩
theorem Vals.set{x:V}{u:Value}(r:RelV x u):∀{xs:List V} {us:List Value} (i:Nat),Vals xs us→Vals (xs.set i x) (us.set i u)
 | _,_,_,.nil=>.nil
 | _,_,0,.cons _ t=>.cons r t
 | _,_,i+1,.cons q t=>.cons q (Vals.set r i t)
theorem Vals.append:∀{xs ys:List V} {us ws:List Value},Vals xs us→Vals ys ws→Vals (xs++ys) (us++ws)
 | _,_,_,_,.nil,s=>s
 | _,_,_,_,.cons r t,s=>.cons r (Vals.append t s)
theorem Vals.take:∀{xs:List V} {us:List Value} (n:Nat),Vals xs us→Vals (xs.take n) (us.take n)
 | _,_,0,_=>.nil
 | _,_,_+1,.nil=>.nil
 | _,_,n+1,.cons r t=>.cons r (Vals.take n t)
theorem Vals.drop:∀{xs:List V} {us:List Value} (n:Nat),Vals xs us→Vals (xs.drop n) (us.drop n)
 | _,_,0,r=>r
 | _,_,_+1,.nil=>.nil
 | _,_,n+1,.cons _ t=>Vals.drop n t
theorem Vals.none_of:∀{xs:List V} {us:List Value} {i:Nat},Vals xs us→xs[i]? = none→us[i]? = none:=fun{xs us i} r e=>by
 have h1:=r.length
 have h2:xs.length≤i:=List.getElem?_eq_none_iff.mp e
 exact List.getElem?_eq_none_iff.mpr (by omega)
def RelO:Option V→Option Value→Prop
 | some v,some u=>RelV v u
 | none,none=>True
 | _,_=>False
def KV{κ:Type}:List (κ×V)→List (κ×Value)→Prop:=Paired fun(p:κ×V) (q:κ×Value)=>p.1=q.1∧RelV p.2 q.2
def kV:M6→V
 | .inl i=>.int i
 | .inr x=>.str x
inductive HO where
 /-- a list -/
 | lst (xs:List V)
 /-- a tuple (never changes) -/
 | tup (xs:List V)
 /-- a dict whose keys are ints and texts; one whose keys are tuples of ints and texts (the empty one is both) -/
 | dK (kvs:List (M6×V)) | dT (kvs:List (List M6×V))
 /-- a set of ints: its members, its size -/
 | set (S:Int→Bool) (n:Nat)
 /-- an instance of the class at C, its dict at dx, its attributes -/
 | ins (C dx:Addr) (fs:List (Str×V))
 /-- the dict of the instance at x -/
 | own (x:Addr)
 /-- the dict of an exception -/
 | xd (fs:List (Str×V))
 /-- a bound method, f of x -/
 | met (f x:Addr)
 /-- a range object lo, lo + 1, .. below hi -/
 | rng (lo hi:Int)
 /-- a thing that is known to the object (the script; a dict while a loop walks it): read, never written while it is so -/
 | frz (o:Obj) (u:HO)
 /-- a code object's table -/
 | tbl (ps:Array Value)
 /-- any other thing, by what is true of its one object (a def of one's own: SetO a S n := HO.ext fun h => ..) -/
 | ext (φ:Heap→Prop)
abbrev Hp:=Addr→Option HO
def upd(H:Hp)(a:Addr)(o:HO):Hp:=fun b=>if b=a then some o else H b
theorem d5{H:Hp}{a:Addr}{o:HO}:upd H a o a=some o:=by unfold upd;rw[if_pos rfl]
theorem a7{H:Hp}{a b:Addr}{o:HO}(h:b≠a):upd H a o b=H b:=by unfold upd;rw[if_neg h]
theorem b2H{H:Hp}{a b:Addr}{o u:HO}(h:H a=some o)(h':H b=some u)(d:o≠u):a≠b:=by
 intro e;subst e;rw[h]at h';exact d (Option.some.inj h')
theorem g6{H:Hp}{a b:Addr}{o:HO}(h:H a=some o)(h':H b=none):a≠b:=by
 intro e;subst e;rw[h]at h';cases h'
section
variable (P:Program)(w:World)
def ObjOk(H:Hp)(h:Heap)(a:Addr):HO→Prop
 | .lst xs=>xs.length≤sizeLine∧∃(its:List Value) (n:Nat),Vals xs its∧h.get? a=some { cls:=.type "list",data:=.seq its.toArray n }
 | .tup xs=>xs.length≤sizeLine∧∃its:List Value,Vals xs its∧IsTup h a its.toArray
 | .dK kvs=>kvs.length≤sizeLine∧(a == sysModules)=false∧∃vs,KV kvs vs∧h.DictOf (a4Q P w) a vs
 | .dT kvs=>kvs.length≤sizeLine∧(a == sysModules)=false∧∃xs:List (List M6×Addr×Value),
   Paired (fun(p:List M6×V) (q:List M6×Addr×Value)=>p.1=q.1∧H q.2.1=some (.tup (p.1.map kV))∧RelV p.2 q.2.2) kvs xs ∧
   ∃o es ep,h.get? a=some o∧o.ExactDict∧o.data=.dict es ep∧es.toList=xs.map (entryOfKey (tupleKind (a4Q P w)))∧(xs.map (·.1)).Nodup
 | .set S n=>h.SetOf (intKind P w) a S n
 | .ins C dx fs=>H dx=some (.own a)∧fs.length≤1000∧dx≠a∧h.get? a=some (W.instObj C dx) ∧
   ∃mA,h.Ns1 dx mA∧(∀f,RelO (fs.lookup f) (mA f))∧PySem.Within mA (fs.map (·.1))
 | .own _=>∃o,h.get? a=some o
 | .xd fs=>∃mA,h.Ns1 a mA∧∀f,RelO (fs.lookup f) (mA f)
 | .rng lo hi=>∃t u v,h.get? a=some { cls:=.type "range",data:=.fields #[.int lo t,.int hi u,.int 1 v] }
 | .frz o u=>h.get? a=some o∧ObjOk H h a u
 | .tbl qs=>∃ps:Array Value,h.get? a=some { cls:=.none,data:=.fields ps }∧TriplesOk ps.toList∧∀pos cv,codeAmong pos ps.toList=some cv→∃c oc u,cv=Value.ref c∧H c=some (.frz oc u)∧∃vs q t t2,oc.data=.fields vs∧vs[1]? = some (Value.str q t2)∧qs[0]? = some (Value.str q t)
 | .met f x=>h.get? a=some (W.methodObj (.ref f) (.ref x))
 | .ext φ=>φ h∧(∃o,h.get? a=some o)∧∀h1 h2:Heap,φ h1→(∀o,h1.get? a=some o→h2.get? a=some o)→φ h2
def HOk(H:Hp)(h:Heap):Prop:=∀a o,H a=some o→ObjOk P w H h a o
end
section
variable {P:Program}{w:World}{H H':Hp}{h h':Heap}{a:Addr}{o:HO}
theorem ObjOk.lt(x:ObjOk P w H h a o):a<h.objs.size:=by
 cases o with
 | lst xs=>obtain⟨_,_,_,_,e⟩:=x;exact Heap.lt_size e
 | tup xs=>obtain⟨_,_,_,p⟩:=x;exact p.lt
 | dK kvs=>obtain⟨_,_,_,_,o,_,_,e,_⟩:=x;exact Heap.lt_size e
 | dT kvs=>obtain⟨_,_,_,_,o,_,_,e,_⟩:=x;exact Heap.lt_size e
 | set S n=>obtain⟨o,_,_,_,e,_⟩:=x;exact Heap.lt_size e
 | ins C dx fs=>obtain⟨_,_,_,e,_⟩:=x;exact Heap.lt_size e
 | own y=>obtain⟨_,e⟩:=x;exact Heap.lt_size e
 | xd fs=>obtain⟨_,⟨_,_,_,e,_⟩,_⟩:=x;exact Heap.lt_size e
 | rng lo hi=>obtain⟨_,_,_,e⟩:=x;exact Heap.lt_size e
 | frz ob u=>obtain⟨e,_⟩:=x;exact Heap.lt_size e
 | tbl ps=>obtain⟨_,e,_⟩:=x;exact Heap.lt_size e
 | met f y=>exact Heap.lt_size (show h.get? a=some _ from x)
 | ext φ=>obtain⟨_,⟨_,e⟩,_⟩:=x;exact Heap.lt_size e
theorem Paired.mapP{α β:Type}{F G:α→β→Prop}:∀{l₁:List α} {l₂:List β},Paired F l₁ l₂→(∀a b,F a b→G a b)→Paired G l₁ l₂
 | _,_,.nil,_=>.nil
 | _,_,.cons r t,f=>.cons (f _ _ r) (Paired.mapP t f)
theorem ObjOk.stay(x:ObjOk P w H h a o)(k:∀b u,(b=a∨H b=some (.own a))→h.get? b=some u→h'.get? b=some u)
  (ho:∀b,H b=some (.own a)→H' b=some (.own a)) (ht:∀b xs,H b=some (.tup xs)→H' b=some (.tup xs)) (hz:∀b ob u,H b=some (.frz ob u)→H' b=some (.frz ob u)):ObjOk P w H' h' a o:=by
 induction o with
 | lst xs=>obtain⟨z,its,n,r,e⟩:=x;exact⟨z,its,n,r,k _ _ (.inl rfl) e⟩
 | tup xs=>obtain⟨z,its,r,ob,e,c⟩:=x;exact⟨z,its,r,ob,k _ _ (.inl rfl) e,c⟩
 | dK kvs=>obtain⟨z,y,vs,r,ob,es,ep,e,c⟩:=x;exact⟨z,y,vs,r,ob,es,ep,k _ _ (.inl rfl) e,c⟩
 | dT kvs =>
  obtain⟨z,y,xs,r,ob,es,ep,e,c⟩:=x
  exact⟨z,y,xs,Paired.mapP r fun p q z=>⟨z.1,ht _ _ z.2.1,z.2.2⟩,ob,es,ep,k _ _ (.inl rfl) e,c⟩
 | set S n=>obtain⟨ob,es,ep,t,e,c⟩:=x;exact⟨ob,es,ep,t,k _ _ (.inl rfl) e,c⟩
 | ins C dx fs =>
  obtain⟨d,z,ne,e,mA,⟨od,es,ep,e2,c⟩,r⟩:=x
  exact⟨ho _ d,z,ne,k _ _ (.inl rfl) e,mA,⟨od,es,ep,k _ _ (.inr d) e2,c⟩,r⟩
 | own y=>obtain⟨ob,e⟩:=x;exact⟨ob,k _ _ (.inl rfl) e⟩
 | xd fs=>obtain⟨mA,⟨od,es,ep,e,c⟩,r⟩:=x;exact⟨mA,⟨od,es,ep,k _ _ (.inl rfl) e,c⟩,r⟩
 | rng lo hi=>obtain⟨t,u,v,e⟩:=x;exact⟨t,u,v,k _ _ (.inl rfl) e⟩
 | frz ob u ih=>obtain⟨e,q⟩:=x;exact⟨k _ _ (.inl rfl) e,ih q⟩
 | tbl qs =>
  obtain⟨ps,e,tr,al⟩:=x
  refine⟨ps,k a _ (.inl rfl) e,tr,fun pos cv q=>?_⟩
  obtain⟨c,oc,u,e1,e3,r⟩:=al pos cv q
  exact⟨c,oc,u,e1,hz _ _ _ e3,r⟩
 | met f y =>
  have e:h.get? a=some (W.methodObj (.ref f) (.ref y)):=x
  show h'.get? a=some (W.methodObj (.ref f) (.ref y))
  exact k a _ (.inl rfl) e
 | ext φ=>obtain⟨p,⟨o,e⟩,st⟩:=x;exact⟨st _ _ p fun o q=>k _ _ (.inl rfl) q,⟨o,k _ _ (.inl rfl) e⟩,st⟩
theorem HOk.lt(x:HOk P w H h)(e:H a=some o):a<h.objs.size:=(x a o e).lt
theorem HOk.fresh(x:HOk P w H h)(e:h.objs.size≤a):H a=none:=by
 cases q:H a with
 | none=>rfl
 | some u=>exact absurd (Nat.lt_of_lt_of_le (x.lt q) e) (Nat.lt_irrefl _)
theorem HOk.kept(x:HOk P w H h)(k:∀b u,h.get? b=some u→h'.get? b=some u):HOk P w H h':=fun a o e =>
 (x a o e).stay (fun b u _ q=>k b u q) (fun _ q=>q) (fun _ _ q=>q) fun _ _ _ q=>q
theorem HOk.laid(x:HOk P w H h)(k:∀b u,h.get? b=some u→h'.get? b=some u)(hp:h.objs.size≤a)(new:ObjOk P w (upd H a o) h' a o):HOk P w (upd H a o) h':=fun b u e=>by
 have hn:=x.fresh hp
 by_cases hb:b=a
 ·subst hb;rw[d5]at e;cases e;exact new
 ·rw[a7 hb]at e
  exact(x b u e).stay (fun c v _ q=>k c v q) (fun c q=>by rw[a7 (g6 q hn)];exact q) (fun c xs q=>by rw[a7 (g6 q hn)];exact q) fun c ob u q=>by rw[a7 (g6 q hn)];exact q
end
def Rd(H:Hp)(a:Addr)(u:HO):Prop:=H a=some u∨∃o,H a=some (.frz o u)
theorem Rd.of{H:Hp}{a:Addr}{u:HO}(h:H a=some u):Rd H a u:=.inl h
theorem Rd.ok{P:Program}{w:World}{H:Hp}{h:Heap}{a:Addr}{u:HO}(r:Rd H a u)(x:HOk P w H h):ObjOk P w H h a u:=by
 rcases r with r | ⟨o,r⟩
 ·exact x a u r
 ·obtain⟨_,q⟩:=x a _ r
  exact q
def Mut:Option HO→Prop
 | some (.lst _)=>True
 | some (.dK _)=>True
 | some (.dT _)=>True
 | some (.set _ _)=>True
 | some (.ins _ _ _)=>True
 | some (.ext _)=>True
 | _=>False
section
variable {P:Program}{w:World}{H:Hp}{h h':Heap}{x e:Addr}{o':HO}
theorem HOk.write(ok:HOk P w H h)(mu:Mut (H x))(he:e=x∨H e=some (.own x))(k:∀b u,b≠e→h.get? b=some u→h'.get? b=some u)(heo:∃u,h'.get? e=some u)
  (new:ObjOk P w (upd H x o') h' x o'):HOk P w (upd H x o') h':=fun b u q=>by
 have nown:∀c y,H c=some (.own y)→c≠x:=fun c y r z=>by subst z;rw[r]at mu;exact mu
 have ntup:∀c xs,H c=some (.tup xs)→c≠x:=fun c xs r z=>by subst z;rw[r]at mu;exact mu
 by_cases hb:b=x
 ·subst hb;rw[d5]at q;cases q;exact new
 ·rw[a7 hb]at q
  by_cases hbe:b=e
  ·have q':H b=some (.own x):=by
    rcases he with z | z
    ·exact absurd (hbe.trans z) hb
    ·rw[hbe];exact z
   rw[q]at q';cases q'
   obtain⟨v,hv⟩:=heo
   exact⟨v,by rw[hbe];exact hv⟩
  ·refine(ok b u q).stay (fun c v hc r=>k c v ?_ r) (fun c r=>by rw[a7 (nown c b r)];exact r) (fun c xs r=>by rw[a7 (ntup c xs r)];exact r) fun c ob u r=>by rw[a7 (fun z=>by subst z;rw[r]at mu;exact mu)];exact r
   rcases hc with rfl | hc
   ·exact hbe
   ·rintro rfl
    rcases he with z | z
    ·exact nown c b hc z
    ·rw[hc]at z;cases z;exact hb rfl
end
structure Un(fs ex:List Addr)(H H':Hp)(h h':Heap):Prop where
 keep:∀b o,h.get? b=some o→H b=none→b ∉ fs→b ∉ ex→h'.get? b=some o
 slot:∀b o,h.get? b=some o→H b=none→b∈fs→b ∉ ex→∃sl,h'.get? b=some { o with slots:=sl }
 free:∀b o,h.get? b=some o→H b=none→b ∉ ex→H' b=none
 there:∀b o,h.get? b=some o→b ∉ ex→∃o',h'.get? b=some o'
 tups:∀b xs,H b=some (.tup xs)→H' b=some (.tup xs)
 frzs:∀b o u,H b=some (.frz o u)→H' b=some (.frz o u)
 tbls:∀b ps,H b=some (.tbl ps)→∃more,H' b=some (.tbl (ps++more))
section
variable {fs fs' ex ex':List Addr}{H H1 H2:Hp}{h h1 h2 h':Heap}{a x e:Addr}{o:HO}
theorem Un.any(u:Un fs ex H H1 h h1){b:Addr}{ob:Obj}(q:h.get? b=some ob)(n:H b=none)(hx:b ∉ ex):∃sl,h1.get? b=some { ob with slots:=sl }:=by
 by_cases hb:b∈fs
 ·exact u.slot b ob q n hb hx
 ·exact⟨ob.slots,u.keep b ob q n hb hx⟩
theorem Un.trans(a:Un fs ex H H1 h h1)(b:Un fs ex H1 H2 h1 h2):Un fs ex H H2 h h2 where
 keep:=fun c ob q n hc hx=>b.keep c ob (a.keep c ob q n hc hx) (a.free c ob q n hx) hc hx
 slot:=fun c ob q n hc hx=>by
  obtain⟨sl,e1⟩:=a.slot c ob q n hc hx
  obtain⟨sl',e2⟩:=b.slot c _ e1 (a.free c ob q n hx) hc hx
  exact⟨sl',e2⟩
 free:=fun c ob q n hx=>by
  obtain⟨o',e1⟩:=a.there c ob q hx
  exact b.free c o' e1 (a.free c ob q n hx) hx
 there:=fun c ob q hx=>by
  obtain⟨o',e1⟩:=a.there c ob q hx
  exact b.there c o' e1 hx
 tups:=fun c xs q=>b.tups c xs (a.tups c xs q)
 frzs:=fun c ob xs q=>b.frzs c ob xs (a.frzs c ob xs q)
 tbls:=fun c ps q=>by
  obtain⟨m1,e1⟩:=a.tbls c ps q
  obtain⟨m2,e2⟩:=b.tbls c _ e1
  exact⟨m1++m2,by rw[e2,Array.append_assoc]⟩
theorem Un.kept(k:∀b u,h.get? b=some u→h'.get? b=some u):Un fs ex H H h h' :=
 ⟨fun b ob q _ _ _=>k b ob q,fun b ob q _ _ _=>⟨ob.slots,k b ob q⟩,fun _ _ _ n _=>n,fun b ob q _=>⟨ob,k b ob q⟩,fun _ _ q=>q,fun _ _ _ q=>q,fun _ ps q=>⟨#[],by rw[q];simp⟩⟩
theorem Un.refl:Un fs ex H H h h:=Un.kept fun _ _ q=>q
theorem Un.laid(k:∀b u,h.get? b=some u→h'.get? b=some u)(hp:h.objs.size≤a)(hn:H a=none):Un fs ex H (upd H a o) h h' where
 keep:=fun b u q _ _ _=>k b u q
 slot:=fun b u q _ _ _=>⟨u.slots,k b u q⟩
 free:=fun b u q n _=>by rw[a7 (Nat.ne_of_lt (Nat.lt_of_lt_of_le (Heap.lt_size q) hp))];exact n
 there:=fun b u q _=>⟨u,k b u q⟩
 tups:=fun b xs q=>by rw[a7 (g6 q hn)];exact q
 frzs:=fun b u xs q=>by rw[a7 (g6 q hn)];exact q
 tbls:=fun b ps q=>⟨#[],by rw[a7 (g6 q hn),q];simp⟩
theorem Un.write(mu:Mut (H x))(he:e=x∨H e=some (.own x))(k:∀b u,b≠e→h.get? b=some u→h'.get? b=some u)(heo:∃u,h'.get? e=some u):Un fs ex H (upd H x o) h h':=by
 have hx:∀b,H b=none→b≠x:=fun b n z=>by subst z;rw[n]at mu;exact mu
 have hb:∀b,H b=none→b≠e:=fun b n z=>by
  subst z
  rcases he with r | r
  ·exact hx b n r
  ·rw[n]at r;cases r
 have hm:∀b u,H b=some u→¬Mut (some u)→b≠x:=fun b u q nm z=>by subst z;rw[q]at mu;exact nm mu
 refine⟨fun b u q n _ _=>k b u (hb b n) q,fun b u q n _ _=>⟨u.slots,k b u (hb b n) q⟩,fun b u q n _=>by rw[a7 (hx b n)];exact n,fun b u q _=>?_,
  fun b xs q=>by rw[a7 (hm b _ q fun z=>z)];exact q,fun b u xs q=>by rw[a7 (hm b _ q fun z=>z)];exact q,fun b ps q=>⟨#[],by rw[a7 (hm b _ q fun z=>z),q];simp⟩⟩
 by_cases hbe:b=e
 ·subst hbe;exact heo
 ·exact⟨u,k b u hbe q⟩
theorem Un.mono(u:Un fs ex H H1 h h1)(hs:∀b∈fs,b∈fs')(hx:∀b∈ex,b∈ex'):Un fs' ex' H H1 h h1 :=
 ⟨fun b ob q n hb he=>u.keep b ob q n (fun z=>hb (hs b z)) fun z=>he (hx b z),fun _ _ q n _ he=>u.any q n fun z=>he (hx _ z),fun b ob q n he=>u.free b ob q n fun z=>he (hx b z),fun b ob q he=>u.there b ob q fun z=>he (hx b z),u.tups,u.frzs,u.tbls⟩
end
def trk(h:Heap)(H:Hp):List Addr:=(List.range h.objs.size).filter fun a=>(H a).isSome
def W8(h:Heap)(H:Hp):Heap:=W.hideAll h (trk h H)
theorem a52(h:Heap)(H:Hp):(W8 h H).objs.size=h.objs.size:=W.hideAll_size _ _
theorem a7p{h:Heap}{H:Hp}{b:Addr}{o:Obj}(e:h.get? b=some o)(n:H b=none):(W8 h H).get? b=some o :=
 W.hideAll_get _ e fun hm=>by
  have q:(H b).isSome=true:=(List.mem_filter.mp hm).2
  rw[n]at q;simp at q
theorem a9b{h:Heap}{H:Hp}{b:Addr}{o:Obj}(e:(W8 h H).get? b=some o):h.get? b=some o∧H b=none:=by
 have e':h.get? b=some o:=W.of_hideAll (trk h H) e
 refine⟨e',?_⟩
 cases q:H b with
 | none=>rfl
 | some x =>
  have hm:b∈trk h H:=List.mem_filter.mpr ⟨List.mem_range.mpr (Heap.lt_size e'),by simp[q]⟩
  have z:(W8 h H).get? b=none:=W.hideAll_none (trk h H) hm
  rw[z]at e;cases e
def a9c(g h:Heap)(L:Addr):List (Addr×Obj):=(List.range h.objs.size).filterMap fun a=>if a=L∨(g.get? a).isSome=true then none else(h.get? a).map fun o=>(a,o)
def g9(g h:Heap)(L d:Addr):List (Addr×Obj):=(a9c g h L).filter fun p=>decide (p.1≠d)
structure Mod(K:W.Frag)(mg:Str→Option Value)(base:Heap):Prop where
 kin:K.In base
 glob:base.Ns mainGlobals mg
 blt:∃mb,base.Ns builtinsNs mb∧∀x:Str,x≠"__name__"→mb x=bootBuiltins x
 nolimit:base.NoLimit
structure Cx where
 prog:Program
 w:World
 K:W.Frag
 mg:Str→Option Value
 base:Heap
 A:Around
 N:List Str
 s₀:Shared
 H₀:Hp
 env:Env
 outer:List Env
 stack:List Env
 ex:List Addr
 fn:Str→Bool
 calm:Bool
 pn:List (Addr×Obj)
 xe:Value→Shared→Prop
def B6(l:List Env):List Addr:=l.filterMap (·.frame)
abbrev Cx.fs(X:Cx):List Addr:=B6 X.outer
def Vis(sc:Scope)(x:Str):Prop:=sc.names.lookup x=some .local∨sc.names.lookup x=some .cell∨sc.names.lookup x=some .free
def Loc(sc:Scope)(x:Str):Prop:=sc.names.lookup x=some .local∨sc.names.lookup x=some .cell
def b3o(env:Env)(h:Heap)(m:Str→Option Value)(x:Str)(u:Value):Prop :=
 (env.kindOf x=some .local∧m x=some u)∨((env.kindOf x=some .cell∨env.kindOf x=some .free)∧∃c,env.cells.lookup x=some c∧h.IsCell c (some u))
structure Cx.Ok(X:Cx):Prop where
 mod:Mod X.K X.mg X.base
 kind:X.env.scope.kind=.function
 glob:X.env.globals=mainGlobals
 blt:X.env.builtins=builtinsNs
 above:X.s₀.heap.objs.size≤X.env.locals
 inj:∀x y c,X.env.cells.lookup x=some c→X.env.cells.lookup y=some c→x=y
 has:∀x,(X.env.kindOf x=some .cell∨X.env.kindOf x=some .free)→∃c,X.env.cells.lookup x=some c
 cab:∀x c,X.fn x=true→X.env.cells.lookup x=some c→X.s₀.heap.objs.size≤c
 hd:X.calm=true→X.A.handled=none
 frames:X.A.frames=some X.stack
 stk:X.stack=X.outer∨(X.stack=X.env::X.outer∧X.env.frame=some X.env.locals)
 exf:∀b∈X.ex,b≠X.env.locals∧∀x c,X.env.cells.lookup x=some c→c≠b
 bs:∀b o,X.base.get? b=some o→X.s₀.heap.get? b=some o∧X.H₀ b=none
 bsz:X.base.objs.size≤X.s₀.heap.objs.size
 noex:∀b o,X.base.get? b=some o→b ∉ X.ex
 exfs:∀b∈X.ex,b ∉ X.fs
 funs:X.s₀.heap.FunFrames X.base X.outer
 frf:∀b∈X.fs,X.H₀ b=none
structure Inv(X:Cx)(pins:List (Addr×Obj))(σ:List (Option V))(H:Hp)(s:Shared):Prop where
 ok:X.Ok
 os:s.os=X.s₀.os
 bare:AllBare s.gens
 base:Un X.fs X.ex X.H₀ H X.s₀.heap s.heap
 loc:∃m,s.heap.Ns X.env.locals m∧∀(i:Nat) (x:Str) (v:V),X.N[i]? = some x→σ[i]? = some (some v)→Vis X.env.scope x→∃u,RelV v u∧b3o X.env s.heap m x u
 cell:∀x c,X.env.cells.lookup x=some c→∃v,s.heap.IsCell c v
 free:H X.env.locals=none
 freeC:∀x c,X.env.cells.lookup x=some c→H c=none
 pin:∀p∈X.pn++pins,s.heap.get? p.1=some p.2∧H p.1=none∧p.1≠X.env.locals∧p.1 ∉ X.fs∧∀v,p.2.data≠.cell v
 hok:HOk X.prog X.w H s.heap
 len:σ.length=X.N.length
section
variable {X:Cx}{pins:List (Addr×Obj)}{σ:List (Option V)}{H H':Hp}{s:Shared}{h':Heap}
theorem Cx.Ok.nofr(ok:X.Ok){b:Addr}{o:Obj}(e:X.base.get? b=some o):b ∉ X.fs:=fun hb=>by
 have:=(ok.funs.mem hb).1
 rw[e]at this;cases this
theorem Inv.bs(I:Inv X pins σ H s):∀b o,X.base.get? b=some o→s.heap.get? b=some o∧H b=none:=fun b o e =>
 ⟨I.base.keep b o (I.ok.bs b o e).1 (I.ok.bs b o e).2 (I.ok.nofr e) (I.ok.noex b o e),I.base.free b o (I.ok.bs b o e).1 (I.ok.bs b o e).2 (I.ok.noex b o e)⟩
theorem Inv.bk(I:Inv X pins σ H s):∀b o,X.base.get? b=some o→s.heap.get? b=some o:=fun b o e=>(I.bs b o e).1
theorem Inv.mod(I:Inv X pins σ H s):Mod X.K X.mg X.base:=I.ok.mod
theorem Inv.kIn(I:Inv X pins σ H s):X.K.In s.heap:=I.ok.mod.kin.keeps I.bk
theorem Inv.nolimit(I:Inv X pins σ H s):s.heap.NoLimit:=I.ok.mod.nolimit.keeps I.bk
theorem Inv.fr(I:Inv X pins σ H s):∃m,Fr X.base X.env.locals s.heap m :=
 let ⟨m,hn,_⟩:=I.loc
 ⟨m,hn,I.bk,Nat.le_trans I.ok.bsz I.ok.above⟩
theorem Inv.lt(I:Inv X pins σ H s):X.env.locals<s.heap.objs.size:=let ⟨_,hn,_⟩:=I.loc;hn.lt
theorem Inv.sz(I:Inv X pins σ H s):X.s₀.heap.objs.size≤s.heap.objs.size:=Nat.le_trans I.ok.above (Nat.le_of_lt I.lt)
theorem Inv.nofs(I:Inv X pins σ H s){a:Addr}(h:s.heap.objs.size≤a):a ∉ X.fs:=fun hb=>by
 obtain⟨_,o,ho,_⟩:=I.ok.funs.mem hb
 exact absurd (Nat.lt_of_lt_of_le (Heap.lt_size ho) (Nat.le_trans I.sz h)) (Nat.lt_irrefl _)
theorem Inv.cne(I:Inv X pins σ H s):∀x c,X.env.cells.lookup x=some c→c≠X.env.locals:=fun x c e z=>by
 obtain⟨v,o,ho,hd⟩:=I.cell x c e
 obtain⟨m,⟨o',es,ep,ho',hd',_⟩,_⟩:=I.loc
 rw[z,ho']at ho;cases ho;rw[hd']at hd;cases hd
theorem Inv.funs(I:Inv X pins σ H s):s.heap.FunFrames X.base X.outer:=by
 have all:∀(l:List Env),(∀b∈B6 l,b∈X.fs)→X.s₀.heap.FunFrames X.base l→s.heap.FunFrames X.base l:=by
  intro l
  induction l with
  | nil=>intro _ _;trivial
  | cons env r ih =>
   intro hs hl
   obtain⟨hk,⟨L,o,hf,hn,ho,hd⟩,hr⟩:=hl
   have hL:L∈X.fs:=hs L (by unfold B6;rw[List.filterMap_cons,hf];exact List.mem_cons_self)
   obtain⟨sl,e⟩:=I.base.slot L o ho (I.ok.frf L hL) hL fun z=>I.ok.exfs L z hL
   exact⟨hk,⟨L,_,hf,hn,e,hd⟩,ih (fun b hb=>hs b (by unfold B6;rw[List.filterMap_cons,hf];exact List.mem_cons_of_mem _ hb)) hr⟩
 exact all X.outer (fun _ hb=>hb) I.ok.funs
theorem Inv.stack(I:Inv X pins σ H s):s.heap.FunFrames X.base X.stack:=by
 rcases I.ok.stk with e | ⟨e,hf⟩
 ·rw[e];exact I.funs
 ·rw[e]
  obtain⟨m,hn,_⟩:=I.loc
  refine .cons (by rw[I.ok.kind];decide) hf hn ?_ I.funs
  exact Heap.get?_none_of_le (Nat.le_trans I.ok.bsz I.ok.above)
theorem Inv.stkSub(I:Inv X pins σ H s):∀b∈B6 X.stack,b∈X.env.locals::X.fs:=fun b hb=>by
 rcases I.ok.stk with e | ⟨e,hf⟩
 ·rw[e]at hb;exact List.mem_cons_of_mem _ hb
 ·rw[e]at hb
  unfold B6 at hb
  rw[List.filterMap_cons,hf]at hb
  exact hb
theorem Inv.stkFree(I:Inv X pins σ H s):∀b∈B6 X.stack,H b=none:=fun b hb=>by
 rcases List.mem_cons.mp (I.stkSub b hb)with e | hb
 ·rw[e];exact I.free
 ·obtain⟨_,o,ho,_⟩:=I.ok.funs.mem hb
  exact I.base.free b o ho (I.ok.frf b hb) fun z=>I.ok.exfs b z hb
theorem Inv.step{g':Array GenState}{t':Nat}{d':Drawn}{ch:List Addr}(I:Inv X pins σ H s)
  (hch:∀b∈ch,(b∈X.ex∨X.s₀.heap.objs.size≤b)∧b≠X.env.locals∧(∀x c,X.env.cells.lookup x=some c→c≠b)∧∀p∈X.pn++pins,p.1≠b)
  (keep:∀b o,b≠X.env.locals→b ∉ X.fs→b ∉ ch→s.heap.get? b=some o→H b=none→h'.get? b=some o)
  (slot:∀b o,b≠X.env.locals→b∈X.fs→b ∉ ch→s.heap.get? b=some o→H b=none→∃sl,h'.get? b=some { o with slots:=sl }) (free:∀b o,b ∉ ch→s.heap.get? b=some o→H b=none→H' b=none)
  (there:∀b o,b ∉ ch→s.heap.get? b=some o→∃o',h'.get? b=some o')
  (tups:∀b xs,H b=some (.tup xs)→H' b=some (.tup xs)) (frzs:∀b o u,H b=some (.frz o u)→H' b=some (.frz o u)) (tbls:∀b ps,H b=some (.tbl ps)→∃more,H' b=some (.tbl (ps++more)))
  (ns:∀m,s.heap.Ns X.env.locals m→h'.Ns X.env.locals m) (hok:HOk X.prog X.w H' h') (hg:AllBare g') :
  Inv X pins σ H' { s with heap:=h',gens:=g',drawn:=d',toks:=t' }:=by
 have neL:∀b o,X.s₀.heap.get? b=some o→b≠X.env.locals:=fun b o e=>Nat.ne_of_lt (Nat.lt_of_lt_of_le (Heap.lt_size e) I.ok.above)
 have neC:∀b o,X.s₀.heap.get? b=some o→b ∉ X.ex→b ∉ ch:=fun b o e hx hb=>by
  rcases(hch b hb).1 with z | z
  ·exact hx z
  ·exact absurd (Nat.lt_of_lt_of_le (Heap.lt_size e) z) (Nat.lt_irrefl _)
 have cellK:∀x c,X.env.cells.lookup x=some c→∀v,s.heap.IsCell c v→h'.IsCell c v:=fun x c e v ⟨o,ho,hd⟩=>by
  have nch:c ∉ ch:=fun z=>(hch c z).2.2.1 x c e rfl
  by_cases hc:c∈X.fs
  ·obtain⟨sl,q⟩:=slot c o (I.cne x c e) hc nch ho (I.freeC x c e)
   exact⟨_,q,hd⟩
  ·exact⟨o,keep c o (I.cne x c e) hc nch ho (I.freeC x c e),hd⟩
 refine⟨I.ok,I.os,hg,⟨fun b o e n hb hx=>?_,fun b o e n hb hx=>?_,fun b o e n hx=>?_,fun b o e hx=>?_,fun b xs e=>tups b xs (I.base.tups b xs e),fun b o xs e=>frzs b o xs (I.base.frzs b o xs e),fun b ps e=>?_⟩,?_,fun x c e=>?_,?_,fun x c e=>?_,fun p hp=>?_,hok,I.len⟩
 ·exact keep b o (neL b o e) hb (neC b o e hx) (I.base.keep b o e n hb hx) (I.base.free b o e n hx)
 ·obtain⟨sl,e1⟩:=I.base.slot b o e n hb hx
  obtain⟨sl',e2⟩:=slot b _ (neL b o e) hb (neC b o e hx) e1 (I.base.free b o e n hx)
  exact⟨sl',e2⟩
 ·obtain⟨o',e1⟩:=I.base.there b o e hx
  exact free b o' (neC b o e hx) e1 (I.base.free b o e n hx)
 ·obtain⟨o',e1⟩:=I.base.there b o e hx
  exact there b o' (neC b o e hx) e1
 ·obtain⟨m1,e1⟩:=I.base.tbls b ps e
  obtain⟨m2,e2⟩:=tbls b _ e1
  exact⟨m1++m2,by rw[e2,Array.append_assoc]⟩
 ·obtain⟨m,hn,hl⟩:=I.loc
  refine⟨m,ns m hn,fun i x v e1 e2 e3=>?_⟩
  obtain⟨u,r,l⟩:=hl i x v e1 e2 e3
  refine⟨u,r,?_⟩
  rcases l with l | ⟨k,c,e,z⟩
  ·exact .inl l
  ·exact .inr ⟨k,c,e,cellK x c e _ z⟩
 ·obtain⟨v,z⟩:=I.cell x c e
  exact⟨v,cellK x c e v z⟩
 ·obtain⟨m,⟨o,_,_,ho,_⟩,_⟩:=I.loc
  exact free _ o (fun z=>(hch _ z).2.1 rfl) ho I.free
 ·obtain⟨v,o,ho,hd⟩:=I.cell x c e
  exact free c o (fun z=>(hch c z).2.2.1 x c e rfl) ho (I.freeC x c e)
 ·obtain⟨e,n,ne,nf,d⟩:=I.pin p hp
  have nch:p.1 ∉ ch:=fun z=>(hch p.1 z).2.2.2 p hp rfl
  exact⟨keep p.1 p.2 ne nf nch e n,free p.1 p.2 nch e n,ne,nf,d⟩
theorem Inv.un{t':Nat}(I:Inv X pins σ H s)(u:Un X.fs [] H H' s.heap h')(hok:HOk X.prog X.w H' h'):Inv X pins σ H' { s with heap:=h',toks:=t' }:=by
 obtain⟨m,⟨o,es,ep,ho,r⟩,_⟩:=id I.loc
 obtain⟨sl,hL⟩:=u.any ho I.free (by simp)
 exact I.step (g':=s.gens) (d':=s.drawn) (ch:=[]) (fun _ z=>nomatch z) (fun b o _ hb _ e n=>u.keep b o e n hb (by simp)) (fun b o _ hb _ e n=>u.slot b o e n hb (by simp)) (fun b o _ e n=>u.free b o e n (by simp)) (fun b o _ e=>u.there b o e (by simp)) u.tups u.frzs u.tbls (fun m' hm=>by
  obtain⟨o',es',ep',ho',r'⟩:=hm
  rw[ho]at ho';cases ho'
  exact⟨_,es',ep',hL,r'⟩) hok I.bare
theorem Inv.call{g':Array GenState}{t':Nat}{d':Drawn}{ch:List Addr}(I:Inv X pins σ H s)(u:Un (B6 X.stack) ch H H' s.heap h')(hok:HOk X.prog X.w H' h')(hg:AllBare g')
  (hch:∀b∈ch,(b∈X.ex∨X.s₀.heap.objs.size≤b)∧b≠X.env.locals∧(∀x c,X.env.cells.lookup x=some c→c≠b)∧∀p∈X.pn++pins,p.1≠b) :
  Inv X pins σ H' { s with heap:=h',gens:=g',drawn:=d',toks:=t' }:=by
 obtain⟨m,⟨o,es,ep,ho,r⟩,_⟩:=id I.loc
 obtain⟨sl,hL⟩:=u.any ho I.free fun z=>(hch _ z).2.1 rfl
 exact I.step (ch:=ch) hch (fun b o hL hb hc e n=>u.keep b o e n (fun z=>(List.mem_cons.mp (I.stkSub b z)).elim hL hb) hc) (fun b o _ _ hc e n=>u.any e n hc) (fun b o hc e n=>u.free b o e n hc) (fun b o hc e=>u.there b o e hc) u.tups u.frzs u.tbls (fun m' hm=>by
  obtain⟨o',es',ep',ho',r'⟩:=hm
  rw[ho]at ho';cases ho'
  exact⟨_,es',ep',hL,r'⟩) hok hg
theorem Inv.turned{t':Nat}{it:Addr}(I:Inv X pins σ H s)(k:∀b o,b≠it→s.heap.get? b=some o→h'.get? b=some o)(hn:H it=none)(hL:it≠X.env.locals)
  (h1:it∈X.ex∨X.s₀.heap.objs.size≤it) (h2:∀x c,X.env.cells.lookup x=some c→c≠it) (h3:∀p∈X.pn++pins,p.1≠it):Inv X pins σ H { s with heap:=h',toks:=t' }:=by
 have nit:∀b u,H b=some u→b≠it:=fun b u e z=>by rw[z,hn]at e;cases e
 refine I.step (g':=s.gens) (d':=s.drawn) (ch:=[it]) (fun b hb=>?_) (fun b o _ _ hc e _=>k b o (fun z=>hc (by simp[z])) e) (fun b o _ _ hc e _=>⟨o.slots,k b o (fun z=>hc (by simp[z])) e⟩) (fun _ _ _ _ n=>n)
  (fun b o hc e=>⟨o,k b o (fun z=>hc (by simp[z])) e⟩) (fun _ _ e=>e) (fun _ _ _ e=>e) (fun b ps e=>⟨#[],by rw[e];simp⟩) (fun m hm=>?_) (fun b u e=>?_) I.bare
 ·have e:b=it:=by simpa using hb
  subst e
  exact⟨h1,hL,h2,h3⟩
 ·obtain⟨o,es,ep,ho,r⟩:=hm
  exact⟨o,es,ep,k _ o (Ne.symm hL) ho,r⟩
 ·refine(I.hok b u e).stay (fun c v hc q=>k c v ?_ q) (fun _ q=>q) (fun _ _ q=>q) fun _ _ _ q=>q
  rcases hc with z | z
  ·rw[z];exact nit b u e
  ·exact nit c _ z
theorem Inv.tok(I:Inv X pins σ H s)(t:Nat):Inv X pins σ H { s with toks:=t }:=I.un (h':=s.heap) (t':=t) Un.refl I.hok
theorem Inv.kept{t':Nat}(I:Inv X pins σ H s)(k:∀b u,s.heap.get? b=some u→h'.get? b=some u):Inv X pins σ H { s with heap:=h',toks:=t' }:=I.un (Un.kept k) (I.hok.kept k)
theorem Inv.laid{a:Addr}{o:HO}{t':Nat}(I:Inv X pins σ H s)(k:∀b u,s.heap.get? b=some u→h'.get? b=some u)(hp:s.heap.objs.size≤a)(new:ObjOk X.prog X.w (upd H a o) h' a o) :
  Inv X pins σ (upd H a o) { s with heap:=h',toks:=t' }:=I.un (Un.laid k hp (I.hok.fresh hp)) (I.hok.laid k hp new)
theorem Inv.write{x e:Addr}{o:HO}{t':Nat}(I:Inv X pins σ H s)(mu:Mut (H x))(he:e=x∨H e=some (.own x))(k:∀b u,b≠e→s.heap.get? b=some u→h'.get? b=some u)(heo:∃u,h'.get? e=some u)
  (new:ObjOk X.prog X.w (upd H x o) h' x o):Inv X pins σ (upd H x o) { s with heap:=h',toks:=t' }:=I.un (Un.write mu he k heo) (I.hok.write mu he k heo new)
theorem Inv.weak{σ':List (Option V)}(I:Inv X pins σ H s)(hl:σ'.length=σ.length)(w:∀(i:Nat) v,σ'[i]? = some (some v)→σ[i]? = some (some v)):Inv X pins σ' H s :=
 ⟨I.ok,I.os,I.bare,I.base,let ⟨m,hn,hl'⟩:=I.loc; ⟨m,hn,fun i x v e1 e2 e3=>hl' i x v e1 (w i v e2) e3⟩,I.cell,I.free,I.freeC,I.pin,I.hok,hl.trans I.len⟩
theorem Inv.pins_of{pins':List (Addr×Obj)}(I:Inv X pins σ H s)(h:∀p∈pins',s.heap.get? p.1=some p.2∧H p.1=none∧p.1≠X.env.locals∧p.1 ∉ X.fs∧∀v,p.2.data≠.cell v):Inv X pins' σ H s :=
 ⟨I.ok,I.os,I.bare,I.base,I.loc,I.cell,I.free,I.freeC,fun p hp=>(List.mem_append.mp hp).elim (fun z=>I.pin p (List.mem_append_left _ z)) (h p),I.hok,I.len⟩
theorem a3C{N:List Str}(hN:N.Nodup){i j:Nat}{x:Str}(a:N[i]? = some x)(b:N[j]? = some x):i=j:=by
 obtain⟨h1,e1⟩:=List.getElem?_eq_some_iff.mp a
 obtain⟨h2,e2⟩:=List.getElem?_eq_some_iff.mp b
 exact(List.getElem_inj hN).mp (e1.trans e2.symm)
theorem a2S{M:Model}{A:Around}{E:Value→Shared→Prop}{i:Nat}{x:Str}{v:V}{u:Value}{Q:Unit→Shared→Prop}(I:Inv X pins σ H s)(hN:X.N.Nodup)(hi:X.N[i]? = some x)(hx:Loc X.env.scope x)(r:RelV v u)
  (h:∀s',Inv X pins (σ.set i (some v)) H s'→(∃a,Heap.SameBut a s.heap s'.heap∧(a=X.env.locals∨X.env.cells.lookup x=some a))→Q () s') (hf:X.fn x=true∨X.env.scope.names.lookup x=some .local:=by first | exact .inl rfl | exact .inr rfl | assumption):wpAny M A (storeName X.env x u) Q E s:=by
 obtain⟨m,hn,hl⟩:=id I.loc
 have hcls:(X.env.scope.kind == .class || (X.env.scope.kind == .module && X.env.locals != X.env.globals))=false:=by rw[I.ok.kind];rfl
 have hiσ:i<σ.length:=by rw[I.len];exact(List.getElem?_eq_some_iff.mp hi).1
 have cne:=I.cne
 have tracked:∀{a:Addr} {h':Heap},(∃o,s.heap.get? a=some o∧H a=none)→Heap.SameBut a s.heap h'→HOk X.prog X.w H h':=fun{a h'} ha hs b ob e=>by
  obtain⟨_,_,hfree⟩:=ha
  refine(I.hok b ob e).stay (fun c w' hc q=>(hs.2 c ?_).trans q) (fun _ q=>q) (fun _ _ q=>q) fun _ _ _ q=>q
  rintro rfl
  rcases hc with rfl | hc
  ·rw[hfree]at e;cases e
  ·rw[hfree]at hc;cases hc
 rcases hx with hk | hk
 ·refine wpAny_storeName_local hk hn (fun h' hn' hs=>?_) hcls
  obtain⟨oL,_,_,hoL,_⟩:=id hn
  refine h _ ⟨I.ok,I.os,I.bare,⟨fun b o e n hb hx=>?_,fun b o e n hb hx=>?_,I.base.free,fun b o e hx=>?_,I.base.tups,I.base.frzs,I.base.tbls⟩,⟨_,hn',fun j y v' e1 e2 e3=>?_⟩,fun y c e=>?_,I.free,I.freeC,fun p hp=>?_,tracked ⟨oL,hoL,I.free⟩ hs,by simpa using I.len⟩ ⟨_,hs,.inl rfl⟩
  ·exact(hs.2 b (Nat.ne_of_lt (Nat.lt_of_lt_of_le (Heap.lt_size e) I.ok.above))).trans (I.base.keep b o e n hb hx)
  ·obtain⟨sl,e1⟩:=I.base.slot b o e n hb hx
   exact⟨sl,(hs.2 b (Nat.ne_of_lt (Nat.lt_of_lt_of_le (Heap.lt_size e) I.ok.above))).trans e1⟩
  ·obtain⟨o',e1⟩:=I.base.there b o e hx
   exact⟨o',(hs.2 b (Nat.ne_of_lt (Nat.lt_of_lt_of_le (Heap.lt_size e) I.ok.above))).trans e1⟩
  ·by_cases hj:j=i
   ·subst hj
    rw[hi]at e1;cases e1
    rw[List.getElem?_set_self hiσ]at e2
    cases e2
    exact⟨u,r,.inl ⟨hk,by simp⟩⟩
   ·rw[List.getElem?_set_ne (Ne.symm hj)]at e2
    obtain⟨u',r',q⟩:=hl j y v' e1 e2 e3
    refine⟨u',r',?_⟩
    rcases q with⟨k,e⟩ | ⟨k,c,e,z⟩
    ·refine .inl ⟨k,?_⟩
     have:y≠x:=fun e=>hj (a3C hN e1 (e▸hi))
     simp[this,e]
    ·exact .inr ⟨k,c,e,z.sameBut hs (cne y c e)⟩
  ·obtain⟨w',z⟩:=I.cell y c e
   exact⟨w',z.sameBut hs (cne y c e)⟩
  ·obtain⟨e,n,ne,nf,d⟩:=I.pin p hp
   exact⟨(hs.2 p.1 ne).trans e,n,ne,nf,d⟩
 ·have hfn:X.fn x=true:=by
   rcases hf with z | z
   ·exact z
   ·rw[z]at hk;cases hk
  obtain⟨c,hc⟩:=I.ok.has x (.inl hk)
  obtain⟨w',z⟩:=I.cell x c hc
  refine wpAny_storeName_cell I.ok.kind hk hc z (fun h' hc' hs=>?_)
  obtain⟨oc,hoc,hocd⟩:=id z
  refine h { s with heap:=h' } ⟨I.ok,I.os,I.bare,⟨fun b o e n hb hx=>?_,fun b o e n hb hx=>?_,I.base.free,fun b o e hx=>?_,I.base.tups,I.base.frzs,I.base.tbls⟩,⟨m,hn.sameBut hs (Ne.symm (cne x c hc)),fun j y v' e1 e2 e3=>?_⟩,fun y c' e=>?_,I.free,I.freeC,fun p hp=>?_,tracked ⟨oc,hoc,I.freeC x c hc⟩ hs,by simpa using I.len⟩ ⟨c,hs,.inr hc⟩
  ·exact(hs.2 b (Nat.ne_of_lt (Nat.lt_of_lt_of_le (Heap.lt_size e) (I.ok.cab x c hfn hc)))).trans (I.base.keep b o e n hb hx)
  ·obtain⟨sl,e1⟩:=I.base.slot b o e n hb hx
   exact⟨sl,(hs.2 b (Nat.ne_of_lt (Nat.lt_of_lt_of_le (Heap.lt_size e) (I.ok.cab x c hfn hc)))).trans e1⟩
  ·obtain⟨o',e1⟩:=I.base.there b o e hx
   exact⟨o',(hs.2 b (Nat.ne_of_lt (Nat.lt_of_lt_of_le (Heap.lt_size e) (I.ok.cab x c hfn hc)))).trans e1⟩
  ·by_cases hj:j=i
   ·subst hj
    rw[hi]at e1;cases e1
    rw[List.getElem?_set_self hiσ]at e2
    cases e2
    exact⟨u,r,.inr ⟨.inl hk,c,hc,hc'⟩⟩
   ·rw[List.getElem?_set_ne (Ne.symm hj)]at e2
    obtain⟨u',r',q⟩:=hl j y v' e1 e2 e3
    refine⟨u',r',?_⟩
    rcases q with q | ⟨k,c',e,z'⟩
    ·exact .inl q
    ·refine .inr ⟨k,c',e,z'.sameBut hs ?_⟩
     rintro rfl
     exact hj (a3C hN e1 (I.ok.inj _ _ _ e hc▸hi))
  ·by_cases hcc:c'=c
   ·subst hcc;exact⟨_,hc'⟩
   ·obtain⟨w2,z2⟩:=I.cell y c' e
    exact⟨w2,z2.sameBut hs hcc⟩
  ·obtain⟨e,n,ne,nf,d⟩:=I.pin p hp
   refine⟨(hs.2 p.1 ?_).trans e,n,ne,nf,d⟩
   intro q
   rw[q,hoc]at e
   have q':oc=p.2:=Option.some.inj e
   exact d w' (by rw[← q'];exact hocd)
theorem a1o{M:Model}{A:Around}{E:Value→Shared→Prop}{i:Nat}{x:Str}{v:V}{u:Value}{Q:Unit→Shared→Prop}(I:Inv X pins σ H s)(hN:X.N.Nodup)(hi:X.N[i]? = some x)(hx:Loc X.env.scope x)(r:RelV v u)
  (h:∀s',Inv X pins (σ.set i (some v)) H s'→Q () s') (hf:X.fn x=true∨X.env.scope.names.lookup x=some .local:=by first | exact .inl rfl | exact .inr rfl | assumption):wpAny M A (storeName X.env x u) Q E s :=
 a2S I hN hi hx r (fun s' I' _=>h s' I') hf
theorem Inv.call'{s':Shared}{ch:List Addr}(I:Inv X pins σ H s)(ho:s'.os=s.os)(u:Un (B6 X.stack) ch H H' s.heap s'.heap)(hok:HOk X.prog X.w H' s'.heap)(hg:AllBare s'.gens)
  (hch:∀b∈ch,(b∈X.ex∨X.s₀.heap.objs.size≤b)∧b≠X.env.locals∧(∀x c,X.env.cells.lookup x=some c→c≠b)∧∀p∈X.pn++pins,p.1≠b):Inv X pins σ H' s':=by
 obtain⟨h',g',d',t',o'⟩:=s'
 have e:o'=s.os:=ho
 subst e
 exact I.call (g':=g') (t':=t') (d':=d') u hok hg hch
end
abbrev XK:=Value→Option Addr→Hp→Prop
abbrev St:=List (Option V)
abbrev VK:=V→Hp→Prop
abbrev TE:=St→Hp→VK→Prop
abbrev TT:=St→Hp→(Bool→Hp→Prop)→Prop
abbrev TA:=St→Hp→(List V→Hp→Prop)→Prop
structure Ends where
 nx:St→Hp→Prop
 rt:VK
 bk:St→Hp→Prop:=fun _ _=>False
 ct:St→Hp→Prop:=fun _ _=>False
abbrev TS:=Ends→St→Hp→Prop
def EP(X:Cx)(pins:List (Addr×Obj))(σ:St)(Q:VK)(u:Value)(s':Shared):Prop:=∃v H',Inv X pins σ H' s'∧RelV v u∧Q v H'
def TP(X:Cx)(pins:List (Addr×Obj))(σ:St)(Q:Bool→Hp→Prop)(b:Bool)(s':Shared):Prop:=∃H',Inv X pins σ H' s'∧Q b H'
def AP(X:Cx)(pins:List (Addr×Obj))(σ:St)(Q:List V→Hp→Prop)(us:List Value)(s':Shared):Prop:=∃vs H',Inv X pins σ H' s'∧Vals vs us∧Q vs H'
def SP(X:Cx)(pins:List (Addr×Obj))(D:Ends)(f:Flow)(s':Shared):Prop :=
 match f with
 | .next=>∃σ' H',Inv X pins σ' H' s'∧D.nx σ' H'
 | .brk=>∃σ' H',Inv X pins σ' H' s'∧D.bk σ' H'
 | .cont=>∃σ' H',Inv X pins σ' H' s'∧D.ct σ' H'
 | .ret u=>∃v σ' H',Inv X pins σ' H' s'∧RelV v u∧D.rt v H'
def PE(X:Cx)(e:Expr)(t:TE):Prop :=
 ∀(pins:List (Addr×Obj)) (s:Shared) (σ:St) (H:Hp) (Q:VK),Inv X pins σ H s→t σ H Q→wpAny (model X.prog X.w) X.A (eval e X.env) (EP X pins σ Q) X.xe s
def PT(X:Cx)(e:Expr)(t:TT):Prop :=
 ∀(pins:List (Addr×Obj)) (s:Shared) (σ:St) (H:Hp) (Q:Bool→Hp→Prop),Inv X pins σ H s→t σ H Q→wpAny (model X.prog X.w) X.A (isTrue e X.env (eval e X.env)) (TP X pins σ Q) X.xe s
def PW(X:Cx)(e:Expr)(t:TT):Prop :=
 ∀(whole:Sem Value) (pins:List (Addr×Obj)) (s:Shared) (σ:St) (H:Hp) (Q:Bool→Hp→Prop),Inv X pins σ H s→t σ H Q→wpAny (model X.prog X.w) X.A (isTrue e X.env whole) (TP X pins σ Q) X.xe s
theorem PW.pt{X:Cx}{e:Expr}{t:TT}(h:PW X e t):PT X e t:=h _
def PA(X:Cx)(es:List Expr)(t:TA):Prop :=
 ∀(pos:Pos) (pins:List (Addr×Obj)) (s:Shared) (σ:St) (H:Hp) (Q:List V→Hp→Prop),Inv X pins σ H s→t σ H Q→wpAny (model X.prog X.w) X.A (spliced (backTo pos (starEach es X.env))) (AP X pins σ Q) X.xe s
def PS(X:Cx)(st:Stmt)(t:TS):Prop :=
 ∀(pins:List (Addr×Obj)) (s:Shared) (σ:St) (H:Hp) (D:Ends),Inv X pins σ H s→t D σ H→wpAny (model X.prog X.w) X.A (exec st X.env) (SP X pins D) X.xe s
def PSs(X:Cx)(st:List Stmt)(t:TS):Prop :=
 ∀(pins:List (Addr×Obj)) (s:Shared) (σ:St) (H:Hp) (D:Ends),Inv X pins σ H s→t D σ H→wpAny (model X.prog X.w) X.A (execs st X.env) (SP X pins D) X.xe s
theorem i2{α:Type}{t:Sem α}{Q Q':α→Shared→Prop}{M:Model}{A:Around}{E:Value→Shared→Prop}{s:Shared}(h:wpAny M A t Q E s)(hQ:∀a s,Q a s→Q' a s):wpAny M A t Q' E s:=wpAny_mono h hQ fun _ _ x=>x
section
variable {X:Cx}
def y9(i:Nat):TE:=fun σ H Q=>∃v,σ[i]? = some (some v)∧Q v H
def tC(v:V):TE:=fun _ H Q=>Q v H
theorem b01{i:Nat}{x:Str}{pos:Pos}(hN:X.N[i]? = some x)(hv:Vis X.env.scope x)(hd:(x == ("__debug__" : Str))=false:=by decide)(hcd:(x == ("__classdict__" : Str))=false:=by decide):PE X (.Name x pos) (y9 i):=by
 intro pins s σ H Q I h
 obtain⟨v,e,h⟩:=h
 obtain⟨m,hn,hl⟩:=I.loc
 obtain⟨u,r,l⟩:=hl i x v hN e hv
 have fin:EP X pins σ Q u s:=⟨v,H,I,r,h⟩
 rcases l with⟨hk,hm⟩ | ⟨hk,c,hc,hcell⟩
 ·exact wpAny_Name (wpAny_loadName_local I.ok.kind hk hn hm fin) hd
 ·rcases hk with hk | hk
  ·exact wpAny_Name (wpAny_loadName_cell I.ok.kind hk hc hcell fin) hd
  ·exact wpAny_Name (wpAny_loadName_free I.ok.kind hk hc hcell fin hcd) hd
theorem a9{i j pos}:PE X (.Constant (.int i) j pos) (tC (.int i)):=fun _ _ _ H _ I h=>wpAny_Constant_int ⟨.int i,H,I.tok _,⟨_,rfl⟩,h⟩
theorem V6{b j pos}:PE X (.Constant (.bool b) j pos) (tC (.bl b)):=fun _ _ _ H _ I h=>Constant_bool ⟨.bl b,H,I,rfl,h⟩
theorem L3{j pos}:PE X (.Constant .none j pos) (tC .non):=fun _ _ _ H _ I h=>Constant_none ⟨.non,H,I,rfl,h⟩
theorem a0n{x j pos}:PE X (.Constant (.str x) j pos) (tC (.str x)):=fun _ _ _ H _ I h=>Calls.Constant_str ⟨.str x,H,I.tok _,⟨_,rfl⟩,h⟩
def Gl(X:Cx)(x:Str):Prop:=X.env.kindOf x=some .globalImplicit
theorem a2k{E:Value→Shared→Prop}{pins:List (Addr×Obj)}{s:Shared}{σ:St}{H:Hp}{x:Str}{u:Value}{pos:Pos}{Q:Value→Shared→Prop}(I:Inv X pins σ H s)(hg:Gl X x)(hm:X.mg x=some u)(h:Q u s)
  (hd:(x == ("__debug__" : Str))=false:=by decide):wpAny (model X.prog X.w) X.A (eval (.Name x pos) X.env) Q E s :=
 Calls.Name_function_global I.ok.kind hg (Calls.loadGlobal_global (by rw[I.ok.glob];exact I.mod.glob.keeps I.bk) hm h) hd
theorem T7{E:Value→Shared→Prop}{pins:List (Addr×Obj)}{s:Shared}{σ:St}{H:Hp}{x:Str}{u:Value}{pos:Pos}{Q:Value→Shared→Prop}(I:Inv X pins σ H s)(hg:Gl X x)(hm:X.mg x=none)(hv:bootBuiltins x=some u)(h:Q u s)
  (hn:x≠"__name__" := by decide) (hd:(x == ("__debug__" : Str))=false:=by decide):wpAny (model X.prog X.w) X.A (eval (.Name x pos) X.env) Q E s:=by
 obtain⟨mb,h1,h2⟩:=I.mod.blt
 exact Calls.Name_function_global I.ok.kind hg (Calls.loadGlobal_builtin (by rw[I.ok.glob];exact I.mod.glob.keeps I.bk) hm (by rw[I.ok.blt];exact h1.keeps I.bk) ((h2 x hn).trans hv) h) hd
theorem X3{x:Str}{v:V}{u:Value}{pos:Pos}(hg:Gl X x)(hm:X.mg x=none)(hv:bootBuiltins x=some u)(r:RelV v u)(hn:x≠"__name__" := by decide)(hd:(x == ("__debug__" : Str))=false:=by decide):PE X (.Name x pos) (tC v) :=
 fun _ _ _ H _ I h=>T7 I hg hm hv ⟨v,H,I,r,h⟩ hn hd
variable {a b:Expr}{ta tb:TE}{pos:Pos}
def tB(t:TE):TT:=fun σ H Q=>t σ H fun x H1=>∃c,x=.bl c∧Q c H1
theorem P3{e:Expr}{t:TE}(h:PE X e t)(he:∀whole,isTrue e X.env whole=(do let v ← whole;standAt e.pos;holding [v] (truthy v)):=by intro _;rfl):PT X e (tB t):=by
 intro pins s σ H Q I hw
 refine isTrue_plain (i2 (h pins s σ H _ I hw) fun v s1 ⟨x,H1,I1,r1,q1⟩=>?_) (he _)
 obtain⟨d,rfl,q⟩:=q1
 cases r1
 exact wpAny_truthy_bool ⟨H1,I1,q⟩
variable {tA tB':TT}{g9:List Expr}
def b02(t u:TT):TT:=fun σ H Q=>t σ H fun c H1=>if c=true then u σ H1 Q else Q false H1
def tOr(t u:TT):TT:=fun σ H Q=>t σ H fun c H1=>if c=true then Q true H1 else u σ H1 Q
def b03(t:TT):TT:=fun σ H Q=>t σ H fun c H1=>Q (!c) H1
theorem a9d(ha:PT X a tA):PW X (.BoolOp .And [a] pos) tA:=by
 intro wh pins s σ H Q I h
 refine isTrue_and (i2 (ha pins s σ H Q I h) fun c s1 e=>?_)
 cases c with
 | true=>exact isTrue_and_nil e
 | false=>exact e
theorem a0o(ha:PT X a tA):PW X (.BoolOp .Or [a] pos) tA:=by
 intro wh pins s σ H Q I h
 refine isTrue_or (i2 (ha pins s σ H Q I h) fun c s1 e=>?_)
 cases c with
 | false=>exact isTrue_or_nil e
 | true=>exact e
theorem b04(ha:PT X a tA)(hb:PW X (.BoolOp .And (b::g9) pos) tB'):PW X (.BoolOp .And (a::b::g9) pos) (b02 tA tB'):=by
 intro wh pins s σ H Q I h
 refine isTrue_and (i2 (ha pins s σ H _ I h) fun c s1 ⟨H1,I1,q1⟩=>?_)
 cases c with
 | true=>exact hb wh pins s1 σ H1 Q I1 q1
 | false=>exact⟨H1,I1,q1⟩
theorem L4(ha:PT X a tA)(hb:PW X (.BoolOp .Or (b::g9) pos) tB'):PW X (.BoolOp .Or (a::b::g9) pos) (tOr tA tB'):=by
 intro wh pins s σ H Q I h
 refine isTrue_or (i2 (ha pins s σ H _ I h) fun c s1 ⟨H1,I1,q1⟩=>?_)
 cases c with
 | true=>exact⟨H1,I1,q1⟩
 | false=>exact hb wh pins s1 σ H1 Q I1 q1
theorem T8(ha:PT X a tA):PT X (.UnaryOp .Not a pos) (b03 tA):=by
 intro pins s σ H Q I h
 exact isTrue_not (ha pins s σ H (fun c H1=>Q (!c) H1) I h)
def a8G(ta tb:TE):TE:=fun σ H Q=>ta σ H fun x H1=>∃c,x=.bl c∧if c=true then tb σ H1 Q else Q (.bl false) H1
def a8H(ta:TE):TE:=fun σ H Q=>ta σ H fun x H1=>∃c,x=.bl c∧Q (.bl (!c)) H1
theorem a3D{op}{t:TE}(h:PE X a t):PE X (.BoolOp op [a] pos) t:=fun pins s σ H Q I hw=>BoolOp_one (h pins s σ H Q I hw)
theorem a1G(ha:PE X a ta)(hb:PE X (.BoolOp .And (b::g9) pos) tb):PE X (.BoolOp .And (a::b::g9) pos) (a8G ta tb):=by
 intro pins s σ H Q I h
 refine BoolOp_and (i2 (ha pins s σ H _ I h) fun v s1 ⟨x,H1,I1,r1,q1⟩=>?_)
 obtain⟨c,rfl,q1⟩:=q1
 cases r1
 refine wpAny_truthy_bool ?_
 cases c with
 | true=>exact hb pins s1 σ H1 Q I1 q1
 | false=>exact⟨.bl false,H1,I1,rfl,q1⟩
theorem b05(ha:PE X a ta):PE X (.UnaryOp .Not a pos) (a8H ta):=by
 intro pins s σ H Q I h
 refine UnaryOp_ (i2 (ha pins s σ H _ I h) fun v s1 ⟨x,H1,I1,r1,q1⟩=>?_)
 obtain⟨c,rfl,q1⟩:=q1
 cases r1
 exact not_of (wpAny_truthy_bool ⟨.bl (!c),H1,I1,rfl,q1⟩)
def tIf(t:TT)(ta tb:TE):TE:=fun σ H Q=>t σ H fun c H1=>if c=true then ta σ H1 Q else tb σ H1 Q
theorem a3E{c:Expr}(hc:PT X c tA)(ha:PE X a ta)(hb:PE X b tb):PE X (.IfExp c a b pos) (tIf tA ta tb):=by
 intro pins s σ H Q I h
 refine wpAny_IfExp (i2 (hc pins s σ H _ I h) fun d s1 ⟨H1,I1,q1⟩=>?_)
 cases d with
 | true=>exact ha pins s1 σ H1 Q I1 q1
 | false=>exact hb pins s1 σ H1 Q I1 q1
end
def SqL(K:W.Frag)(H:Hp)(a:Addr)(xs:List V):Prop :=
 Rd H a (.lst xs) ∨
  ∃(o:Obj) (its:Array Value) (n:Nat),K.lookup a=some o∧o.cls=.type "list"∧o.dict=none∧o.data=.seq its n∧its.size≤sizeLine∧Vals xs its.toList
def SqT(K:W.Frag)(H:Hp)(a:Addr)(xs:List V):Prop :=
 Rd H a (.tup xs) ∨
  ∃(o:Obj) (its:Array Value) (n:Nat),K.lookup a=some o∧o.cls=.type "tuple"∧o.data=.seq its n∧its.size≤sizeLine∧Vals xs its.toList
def b3p:Value→Option V
 | .none=>some .non
 | .bool b=>some (.bl b)
 | .int i _=>some (.int i)
 | .str x _=>some (.str x)
 | .bytes b _=>some (.byt b)
 | .float b _=>some (.flt b)
 | .ref a=>some (.ref a)
 | .type n=>some (.ty n)
 | _=>none
theorem RelV.abs{x:V}{u:Value}(r:RelV x u):b3p u=some x:=by
 cases x with
 | non=>cases r;rfl
 | bl _=>cases r;rfl
 | int _=>obtain⟨t,rfl⟩:=r;rfl
 | str _=>obtain⟨t,rfl⟩:=r;rfl
 | byt _=>obtain⟨t,rfl⟩:=r;rfl
 | flt _=>obtain⟨t,rfl⟩:=r;rfl
 | ref _=>cases r;rfl
 | ty _=>cases r;rfl
theorem RelV.inj{x y:V}{u:Value}(r:RelV x u)(q:RelV y u):x=y:=Option.some.inj (r.abs.symm.trans q.abs)
theorem Vals.inj:∀{xs ys:List V} {us:List Value},Vals xs us→Vals ys us→xs=ys
 | _,_,_,.nil,.nil=>rfl
 | _,_,_,.cons r t,.cons r' t'=>by rw[r.inj r',Vals.inj t t']
section
variable {X:Cx}{pins:List (Addr×Obj)}{σ:St}{H:Hp}{s:Shared}{a:Addr}{xs ys:List V}
theorem SqL.of{K:W.Frag}(h:H a=some (.lst xs)):SqL K H a xs:=.inl (.inl h)
theorem SqT.of{K:W.Frag}(h:H a=some (.tup xs)):SqT K H a xs:=.inl (.inl h)
theorem Inv.list(I:Inv X pins σ H s)(h:SqL X.K H a xs):∃its:List Value,Vals xs its∧PlainL s.heap a its.toArray∧xs.length≤sizeLine:=by
 rcases h with h | ⟨o,its,n,hk,hc,hd,hs,hz,r⟩
 ·obtain⟨z,its,n,r,e⟩:=h.ok I.hok
  exact⟨its,r,⟨_,n,e,rfl,rfl,rfl⟩,z⟩
 ·refine⟨its.toList,r,⟨o,n,I.kIn a o hk,hc,hd,by simpa using hs⟩,?_⟩
  have e:=r.length
  simp only[Array.length_toList]at e
  omega
theorem Inv.tuple(I:Inv X pins σ H s)(h:SqT X.K H a xs):∃its:List Value,Vals xs its∧IsTup s.heap a its.toArray∧xs.length≤sizeLine:=by
 rcases h with h | ⟨o,its,n,hk,hc,hs,hz,r⟩
 ·obtain⟨z,its,r,p⟩:=h.ok I.hok
  exact⟨its,r,p,z⟩
 ·refine⟨its.toList,r,⟨o,I.kIn a o hk,hc,n,by simpa using hs⟩,?_⟩
  have e:=r.length
  simp only[Array.length_toList]at e
  omega
theorem Inv.list_inj(I:Inv X pins σ H s)(h:SqL X.K H a xs)(h':SqL X.K H a ys):xs=ys:=by
 obtain⟨its,r,⟨o,n,e,_,_,d⟩,_⟩:=I.list h
 obtain⟨its',r',⟨o',n',e',_,_,d'⟩,_⟩:=I.list h'
 rw[e]at e';cases e'
 rw[d]at d'
 injection d' with d1 _
 have:its=its':=by simpa using congrArg Array.toList d1
 subst this
 exact r.inj r'
end
abbrev Cx.wish(X:Cx)(E:Value→Shared→Prop):Cx:={ X with xe:=E }
abbrev Cx.nox(X:Cx):Cx:=X.wish fun _ _=>False
theorem Cx.Ok.wish{X:Cx}(ok:X.Ok)(E:Value→Shared→Prop):(X.wish E).Ok :=
 ⟨ok.mod,ok.kind,ok.glob,ok.blt,ok.above,ok.inj,ok.has,ok.cab,ok.hd,ok.frames,ok.stk,ok.exf,ok.bs,ok.bsz,ok.noex,ok.exfs,ok.funs,ok.frf⟩
theorem Cx.Ok.unwish{X:Cx}{E:Value→Shared→Prop}(ok:(X.wish E).Ok):X.Ok :=
 ⟨ok.mod,ok.kind,ok.glob,ok.blt,ok.above,ok.inj,ok.has,ok.cab,ok.hd,ok.frames,ok.stk,ok.exf,ok.bs,ok.bsz,ok.noex,ok.exfs,ok.funs,ok.frf⟩
section
variable {X:Cx}{pins:List (Addr×Obj)}{σ:St}{H:Hp}{s:Shared}{E:Value→Shared→Prop}
theorem Inv.wish(I:Inv X pins σ H s)(E:Value→Shared→Prop):Inv (X.wish E) pins σ H s:=⟨I.ok.wish E,I.os,I.bare,I.base,I.loc,I.cell,I.free,I.freeC,I.pin,I.hok,I.len⟩
theorem Inv.unwish(I:Inv (X.wish E) pins σ H s):Inv X pins σ H s:=⟨I.ok.unwish,I.os,I.bare,I.base,I.loc,I.cell,I.free,I.freeC,I.pin,I.hok,I.len⟩
theorem SP.unwish{D:Ends}{f:Flow}{s':Shared}(h:SP (X.wish E) pins D f s'):SP X pins D f s':=by
 cases f with
 | next=>obtain⟨σ',H',I,q⟩:=h;exact⟨σ',H',I.unwish,q⟩
 | brk=>obtain⟨σ',H',I,q⟩:=h;exact⟨σ',H',I.unwish,q⟩
 | cont=>obtain⟨σ',H',I,q⟩:=h;exact⟨σ',H',I.unwish,q⟩
 | ret u=>obtain⟨v,σ',H',I,r,q⟩:=h;exact⟨v,σ',H',I.unwish,r,q⟩
theorem PE.nox{e:Expr}{t:TE}(h:PE X.nox e t):PE X e t:=fun pins s σ H Q I hw =>
 wpAny_mono (h pins s σ H Q (I.wish _) hw) (fun _ _ ⟨v,H',I',r,q⟩=>⟨v,H',I'.unwish,r,q⟩) fun _ _ z=>False.elim z
theorem PT.nox{e:Expr}{t:TT}(h:PT X.nox e t):PT X e t:=fun pins s σ H Q I hw =>
 wpAny_mono (h pins s σ H Q (I.wish _) hw) (fun _ _ ⟨H',I',q⟩=>⟨H',I'.unwish,q⟩) fun _ _ z=>False.elim z
theorem PSs.nox{st:List Stmt}{t:TS}(h:PSs X.nox st t):PSs X st t:=fun pins s σ H D I hw =>
 wpAny_mono (h pins s σ H D (I.wish _) hw) (fun _ _ q=>q.unwish) fun _ _ z=>False.elim z
end
section
variable {X:Cx}{st:Stmt}{g9:List Stmt}{t u:TS}{e:Expr}{te:TE}{pos:Pos}
def V7:TS:=fun D σ H=>D.nx σ H
def B9(t u:TS):TS:=fun D σ H=>t { D with nx:=u D } σ H
theorem p8:PSs X [] V7:=fun _ _ σ H _ I h=>wpAny_execs_nil ⟨σ,H,I,h⟩
theorem c9(h1:PS X st t)(h2:PSs X g9 u):PSs X (st::g9) (B9 t u):=by
 intro pins s σ H D I h
 refine wpAny_execs_cons (i2 (h1 pins s σ H { D with nx:=u D } I h) fun f s1 q=>?_)
 cases f with
 | next =>
  obtain⟨σ',H',I',q⟩:=q
  exact h2 pins s1 σ' H' D I' q
 | ret v=>exact q
 | brk=>exact q
 | cont=>exact q
theorem g7(h1:PS X st t):PSs X [st] t:=by
 intro pins s σ H D I h
 refine wpAny_execs_cons (i2 (h1 pins s σ H D I h) fun f s1 q=>?_)
 cases f with
 | next=>exact wpAny_execs_nil q
 | ret v=>exact q
 | brk=>exact q
 | cont=>exact q
theorem Inv.quiet{pins:List (Addr×Obj)}{σ:St}{H:Hp}{s:Shared}(I:Inv X pins σ H s):interactive X.env=false:=by simp[interactive,I.ok.kind]
def a3o(te:TE):TS:=fun D σ H=>te σ H fun _ H1=>D.nx σ H1
theorem N0(he:PE X e te)(hs:swapsWith e none pos.line X.env=pure false:=by rfl):PS X (.Expr e pos) (a3o te):=by
 intro pins s σ H D I h
 exact wpAny_Expr_any (i2 (he pins s σ H _ I h) fun v s1 ⟨x,H1,I1,r1,q1⟩=>⟨σ,H1,I1,q1⟩) I.quiet hs
def T9(te:TE):TS:=fun D σ H=>te σ H D.rt
theorem j6(he:PE X e te):PS X (.Return (some e) pos) (T9 te):=by
 intro pins s σ H D I h
 exact wpAny_Return_some (i2 (he pins s σ H _ I h) fun v s1 ⟨x,H1,I1,r1,q1⟩=>⟨x,σ,H1,I1,r1,q1⟩)
def a0p(c:TT)(t u:TS):TS:=fun D σ H=>c σ H fun b H1=>if b=true then t D σ H1 else u D σ H1
theorem A2{c:Expr}{a b:List Stmt}{tc:TT}(hc:PT X c tc)(ha:PSs X a t)(hb:PSs X b u):PS X (.If c a b pos) (a0p tc t u):=by
 intro pins s σ H D I h
 refine wpAny_If (i2 (hc pins s σ H _ I h) fun d s1 ⟨H1,I1,q1⟩=>?_)
 cases d with
 | true=>exact ha pins s1 σ H1 D I1 q1
 | false=>exact hb pins s1 σ H1 D I1 q1
end
abbrev TG:=V→St→Hp→(St→Hp→Prop)→Prop
abbrev TGs:=List V→St→Hp→(St→Hp→Prop)→Prop
def PG(X:Cx)(target:Expr)(t:TG):Prop :=
 ∀(pins:List (Addr×Obj)) (s:Shared) (σ:St) (H:Hp) (v:V) (u:Value) (Q:St→Hp→Prop),Inv X pins σ H s→RelV v u→t v σ H Q →
  wpAny (model X.prog X.w) X.A (assign target X.env u) (fun _ s'=>∃σ' H',Inv X pins σ' H' s'∧Q σ' H') X.xe s
def PGs(X:Cx)(ts:List Expr)(t:TGs):Prop :=
 ∀(pins:List (Addr×Obj)) (s:Shared) (σ:St) (H:Hp) (vs:List V) (us:List Value) (Q:St→Hp→Prop),Inv X pins σ H s→Vals vs us→t vs σ H Q →
  wpAny (model X.prog X.w) X.A (assignInOrder ((assignEach ts X.env).map (·.2)) us) (fun _ s'=>∃σ' H',Inv X pins σ' H' s'∧Q σ' H') X.xe s
abbrev a3F:=V→V→V→Hp→(Hp→Prop)→Prop
def a7q(X:Cx)(t:a3F):Prop :=
 ∀(pins:List (Addr×Obj)) (s:Shared) (σ:St) (H:Hp) (o i v:V) (ov iv u:Value) (Q:Hp→Prop),Inv X pins σ H s→RelV o ov→RelV i iv→RelV v u→t o i v H Q →
  wpAny (model X.prog X.w) X.A (setItem ov iv u) (fun _ s'=>∃H',Inv X pins σ H' s'∧Q H') X.xe s
abbrev TIp:=V→V→Hp→VK→Prop
def PIp(X:Cx)(op:Operator)(t:TIp):Prop :=
 ∀(pins:List (Addr×Obj)) (s:Shared) (σ:St) (H:Hp) (x y:V) (v u:Value) (Q:VK),Inv X pins σ H s→RelV x v→RelV y u→t x y H Q →
  wpAny (model X.prog X.w) X.A (inplaceOp op v u) (EP X pins σ Q) X.xe s
section
variable {X:Cx}{pos:Pos}
def Q9(i:Nat):TG:=fun v σ H Q=>Q (σ.set i (some v)) H
theorem m5{i:Nat}{x:Str}(hN:X.N.Nodup)(hi:X.N[i]? = some x)(hx:Loc X.env.scope x)(hf:X.fn x=true∨X.env.scope.names.lookup x=some .local:=by first | exact .inl rfl | exact .inr rfl | assumption):PG X (.Name x pos) (Q9 i):=by
 intro pins s σ H v u Q I r h
 exact wpAny_assign_Name (a1o I hN hi hx r (fun s' I'=>⟨_,H,I',h⟩) hf)
def b06:TGs:=fun vs σ H Q=>vs=[]∧Q σ H
def a8J(t:TG)(u:TGs):TGs:=fun vs σ H Q=>∃v r,vs=v::r∧t v σ H fun σ' H'=>u r σ' H' Q
theorem a0T:PGs X [] b06:=by
 intro pins s σ H vs us Q I r h
 obtain⟨e,h⟩:=h
 subst e
 cases r
 exact assignInOrder_nil ⟨σ,H,I,h⟩
theorem C8{e:Expr}{es:List Expr}{t:TG}{u:TGs}(h1:PG X e t)(h2:PGs X es u)
  (hs:(assignEach (e::es) X.env).map (·.2)=assign e X.env::(assignEach es X.env).map (·.2):=by rfl):PGs X (e::es) (a8J t u):=by
 intro pins s σ H vs us Q I r h
 obtain⟨v,vr,e1,h⟩:=h
 subst e1
 cases r with
 | cons r rr =>
  rw[hs]
  refine assignInOrder_cons (i2 (h1 pins s σ H _ _ _ I r h) fun _ s1 ⟨σ1,H1,I1,q1⟩=>?_)
  exact h2 pins s1 σ1 H1 _ _ Q I1 rr q1
def a7r(K:W.Frag)(n:Nat)(t:TGs):TG:=fun v σ H Q=>∃a xs,v=.ref a∧SqT K H a xs∧xs.length=n∧t xs σ H Q
theorem b07{es:List Expr}{k:Nat}{t:TGs}{n:Nat}(hc:X.calm=true)(h:PGs X es t)
  (hn:(assignEach es X.env).length=n:=by rfl) (hst:(assignEach es X.env).findIdx? (·.1)=none:=by rfl):PG X (.Tuple es k pos) (a7r X.K n t):=by
 intro pins s σ H v u Q I r hw
 obtain⟨a,xs,e1,hq,hl,hw⟩:=hw
 subst e1
 cases r
 obtain⟨its,rv,ht,hz⟩:=I.tuple hq
 refine assign_Tuple_tuple (I.ok.hd hc) ht (by simp[hn,← hl,rv.length]) hst fun h' hx=>?_
 have I1:Inv X pins σ H { s with heap:=h' }:=I.kept (t':=s.toks) fun b o e=>hx b o (Nat.ne_of_lt (Heap.lt_size e)) e
 exact h pins _ σ H xs _ Q I1 (by simpa using rv) hw
def b08(to ti:TE)(t:a3F):TG:=fun v σ H Q=>to σ H fun o H1=>ti σ H1 fun i H2=>t o i v H2 fun H3=>Q σ H3
theorem b09{o i:Expr}{to ti:TE}{t:a3F}(ho:PE X o to)(hi:PE X i ti)(hs:a7q X t)
  (ha:∀v,assign (.Subscript o i pos) X.env v=(do
   let ov ← holding [v] (eval o X.env)
   let iv ← holding [v,ov] (eval i X.env)
   standAt pos
   holding [v,ov,iv] (setItem ov iv v)
   release [v,ov,iv] []):=by intro _;rfl):PG X (.Subscript o i pos) (b08 to ti t):=by
 intro pins s σ H v u Q I r h
 rw[ha]
 refine wpAny_bind (wpAny_holding (i2 (ho pins s σ H _ I h) fun ov s1 ⟨x,H1,I1,r1,q1⟩=>?_))
 refine wpAny_bind (wpAny_holding (i2 (hi pins s1 σ H1 _ I1 q1) fun iv s2 ⟨y,H2,I2,r2,q2⟩=>?_))
 refine wpAny_bind (wpAny_standAt (wpAny_bind (wpAny_holding (i2 (hs pins s2 σ H2 x y v ov iv u _ I2 r1 r2 r q2) fun _ s3 ⟨H3,I3,q3⟩=>?_))))
 exact wpAny_release ⟨σ,H3,I3,q3⟩
def W9(te:TE)(g:TG):TS:=fun D σ H=>te σ H fun x H1=>g x σ H1 D.nx
theorem a55{tg e:Expr}{te:TE}{g:TG}(he:PE X e te)(hg:PG X tg g)(hs:swapsWithSole [tg] e pos.line X.env=pure false:=by rfl)(hw:swappedStores [tg] e X.env=pure none:=by rfl)
  (h1:(assignEach [tg] X.env).map (·.2)=[assign tg X.env]:=by rfl):PS X (.Assign [tg] e pos) (W9 te g):=by
 intro pins s σ H D I h
 refine wpAny_Assign_stores (i2 (he pins s σ H _ I h) fun v s1 ⟨x,H1,I1,r1,q1⟩=>?_) hs hw
 rw[h1]
 exact i2 (hg pins s1 σ H1 x v _ I1 r1 q1) fun _ s2 q=>q
theorem m8{i:Nat}{x:Str}{e:Expr}{te:TE}{pos':Pos}(hN:X.N.Nodup)(hi:X.N[i]? = some x)(hx:Loc X.env.scope x)(he:PE X e te)(hs:swapsWith e (some (.Name x pos')) pos.line X.env=pure false:=by rfl)(hf:X.fn x=true∨X.env.scope.names.lookup x=some .local:=by first | exact .inl rfl | exact .inr rfl | assumption) :
  PS X (.Assign [.Name x pos'] e pos) (W9 te (Q9 i)):=by
 intro pins s σ H D I h
 refine wpAny_Assign_Name (i2 (he pins s σ H _ I h) fun v s1 ⟨y,H1,I1,r1,q1⟩=>?_) hs
 exact a1o I1 hN hi hx r1 (fun s2 I2=>⟨_,H1,I2,q1⟩) hf
def b0_(i:Nat)(te:TE)(ti:TIp):TS:=fun D σ H=>∃x,σ[i]? = some (some x)∧te σ H fun y H1=>ti x y H1 fun z H2=>D.nx (σ.set i (some z)) H2
theorem b1a{i:Nat}{x:Str}{e:Expr}{te:TE}{op:Operator}{ti:TIp}{pos':Pos}(hN:X.N.Nodup)(hi:X.N[i]? = some x)(hx:Loc X.env.scope x)(he:PE X e te)(ho:PIp X op ti)(hf:X.fn x=true∨X.env.scope.names.lookup x=some .local:=by first | exact .inl rfl | exact .inr rfl | assumption) :
  PS X (.AugAssign (.Name x pos') op e pos) (b0_ i te ti):=by
 intro pins s σ H D I h
 obtain⟨v,e1,h⟩:=h
 obtain⟨m,hn,hl⟩:=I.loc
 have vis:Vis X.env.scope x:=by rcases hx with k | k;exact .inl k;exact .inr (.inl k)
 obtain⟨u,r,l⟩:=hl i x v hi e1 vis
 refine wpAny_AugAssign_Name ?_
 have go:wpAny (model X.prog X.w) X.A (eval e X.env) (fun w s₂=>wpAny (model X.prog X.w) X.A (inplaceOp op u w) (fun r s₃=>wpAny (model X.prog X.w) X.A (storeName X.env x r) (fun _=>SP X pins D .next) X.xe s₃) X.xe s₂) X.xe s:=by
  refine i2 (he pins s σ H _ I h) fun w s1 ⟨y,H1,I1,r1,q1⟩=>?_
  refine i2 (ho pins s1 σ H1 v y u w _ I1 r r1 q1) fun z s2 ⟨zv,H2,I2,r2,q2⟩=>?_
  exact a1o I2 hN hi hx r2 (fun s3 I3=>⟨_,H2,I3,q2⟩) hf
 rcases l with⟨hk,hm⟩ | ⟨hk,c,hc,hcell⟩
 ·exact wpAny_loadName_local I.ok.kind hk hn hm go
 ·rcases hk with hk | hk
  ·exact wpAny_loadName_cell I.ok.kind hk hc hcell go
  ·rcases hx with k | k
   ·have:X.env.scope.names.lookup x=some .free:=hk
    rw[k]at this;cases this
   ·have:X.env.scope.names.lookup x=some .free:=hk
    rw[k]at this;cases this
def a8K(to ti te:TE)(tget:V→V→Hp→VK→Prop)(tip:TIp)(tset:a3F):TS:=fun D σ H=>to σ H fun o H1=>ti σ H1 fun i H2=>tget o i H2 fun x H3=>te σ H3 fun y H4=>tip x y H4 fun z H5=>tset o i z H5 fun H6=>D.nx σ H6
def b1b(X:Cx)(t:V→V→Hp→VK→Prop):Prop :=
 ∀(pins:List (Addr×Obj)) (s:Shared) (σ:St) (H:Hp) (o i:V) (ov iv:Value) (Q:VK),Inv X pins σ H s→RelV o ov→RelV i iv→t o i H Q →
  wpAny (model X.prog X.w) X.A (getItem ov iv) (EP X pins σ Q) X.xe s
theorem a9e{o i e:Expr}{to ti te:TE}{tget:V→V→Hp→VK→Prop}{tip:TIp}{tset:a3F}{op:Operator}{tpos:Pos}(ho:PE X o to)(hi:PE X i ti)(hg:b1b X tget)(he:PE X e te)(hp:PIp X op tip)(hs:a7q X tset)
  (ha:∀ov iv new,augStore i ov iv new=(do holding [new,ov,iv] (setItem ov iv new);release [new,ov,iv] [];pure .next):=by intros;rfl):PS X (.AugAssign (.Subscript o i tpos) op e pos) (a8K to ti te tget tip tset):=by
 intro pins s σ H D I h
 refine wpAny_AugAssign_SubscriptAny (i2 (ho pins s σ H _ I h) fun ov s1 ⟨x1,H1,I1,r1,q1⟩=>?_) ha
 refine i2 (hi pins s1 σ H1 _ I1 q1) fun iv s2 ⟨x2,H2,I2,r2,q2⟩=>?_
 refine i2 (hg pins s2 σ H2 x1 x2 ov iv _ I2 r1 r2 q2) fun old s3 ⟨x3,H3,I3,r3,q3⟩=>?_
 refine i2 (he pins s3 σ H3 _ I3 q3) fun v s4 ⟨x4,H4,I4,r4,q4⟩=>?_
 refine i2 (hp pins s4 σ H4 x3 x4 old v _ I4 r3 r4 q4) fun new s5 ⟨x5,H5,I5,r5,q5⟩=>?_
 exact i2 (hs pins s5 σ H5 x1 x2 x5 ov iv new _ I5 r1 r2 r5 q5) fun _ s6 ⟨H6,I6,q6⟩=>⟨σ,H6,I6,q6⟩
def ipI(f:Int→Int→Int):TIp:=fun x y H Q=>∃i j,x=.int i∧y=.int j∧Q (.int (f i j)) H
theorem b1c:PIp X .Add (ipI fun i j=>i+j):=by
 intro pins s σ H x y v u Q I r1 r2 h
 obtain⟨i,j,e1,e2,q⟩:=h
 subst e1;subst e2
 obtain⟨t,rfl⟩:=r1
 obtain⟨t',rfl⟩:=r2
 exact iadd_int ⟨.int _,H,I.tok _,⟨_,rfl⟩,q⟩
theorem b1d:PIp X .Sub (ipI fun i j=>i-j):=by
 intro pins s σ H x y v u Q I r1 r2 h
 obtain⟨i,j,e1,e2,q⟩:=h
 subst e1;subst e2
 obtain⟨t,rfl⟩:=r1
 obtain⟨t',rfl⟩:=r2
 exact isub_int ⟨.int _,H,I.tok _,⟨_,rfl⟩,q⟩
end
structure It where
 go:Nat→Hp→Prop
 yld:Nat→Hp→V→Hp→Prop
 stop:Nat→Hp→Prop
def FpOk(X:Cx)(pins:List (Addr×Obj))(H:Hp)(b:Addr):Prop :=
 H b=none∧b≠X.env.locals∧b ∉ X.fs∧(b∈X.ex∨X.s₀.heap.objs.size≤b)∧(∀x c,X.env.cells.lookup x=some c→c≠b)∧∀p∈X.pn++pins,p.1≠b
theorem Inv.fpOk{X:Cx}{pins:List (Addr×Obj)}{σ:St}{H H':Hp}{s:Shared}{b:Addr}(I:Inv X pins σ H s)(hb:s.heap.objs.size≤b)(hn:H' b=none):FpOk X pins H' b:=by
 refine⟨hn,Nat.ne_of_gt (Nat.lt_of_lt_of_le I.lt hb),I.nofs hb,.inr (Nat.le_trans I.sz hb),fun x c e z=>?_,fun p hp z=>?_⟩
 ·obtain⟨v,q⟩:=I.cell x c e
  exact absurd (Nat.lt_of_lt_of_le q.lt (by rw[z];exact hb)) (Nat.lt_irrefl _)
 ·exact absurd (Nat.lt_of_lt_of_le (Heap.lt_size (I.pin p hp).1) (by rw[z];exact hb)) (Nat.lt_irrefl _)
structure Turn(P:Program)(w:World)(K:W.Frag)(tg:Expr)(J:It)(fp:List Addr)(it:Addr)(tn:Nat→Heap→Prop):Prop where
 mem:it∈fp
 obj:∀i h,tn i h→∀b∈fp,∃o,h.get? b=some o∧∀v,o.data≠.cell v
 keep:∀i h h',tn i h→(∀b∈fp,∀o,h.get? b=some o→h'.get? b=some o)→tn i h'
 item:∀(X:Cx),X.prog=P→X.w=w→X.K=K→X.calm=true→∀(i:Nat) (pins:List (Addr×Obj)) (s:Shared) (σ:St) (H:Hp) (E:Value→Shared→Prop),Inv X pins σ H s→(∀b∈fp,FpOk X pins H b)→tn i s.heap→J.go i H →
  wpAny (model P w) X.A (pyNext (.ref it)) (fun r s1=>∃u,r=some u ∧
   wpAny (model P w) X.A (letOwnedTupleGo tg (.ref it) u) (fun _ s2=>∃x H',Inv X pins σ H' s2∧RelV x u∧J.yld i H x H'∧tn (i+1) s2.heap∧∀b∈fp,H' b=none) E s1) E s
 done:∀(X:Cx),X.prog=P→X.w=w→X.K=K→X.calm=true→∀(i:Nat) (pins:List (Addr×Obj)) (s:Shared) (σ:St) (H:Hp) (E:Value→Shared→Prop),Inv X pins σ H s→(∀b∈fp,FpOk X pins H b)→tn i s.heap→J.stop i H →
  wpAny (model P w) X.A (pyNext (.ref it)) (fun r s1=>r=none∧Inv X pins σ H s1) E s
 self:∀(A:Around) (i:Nat) (s:Shared) (Q:Value→Shared→Prop) (E:Value→Shared→Prop),tn i s.heap→Q (.ref it) s→wpAny (model P w) A (pyIter (.ref it)) Q E s
abbrev TI:=St→Hp→(It→Hp→Prop)→Prop
def PIE(X:Cx)(pins:List (Addr×Obj))(σ:St)(tg:Expr)(R:It→Hp→Prop)(itv:Value)(s2:Shared):Prop :=
 ∃(it:Addr) (fp:List Addr) (tn:Nat→Heap→Prop) (J:It) (H':Hp),itv=.ref it∧Inv X pins σ H' s2∧Turn X.prog X.w X.K tg J fp it tn∧tn 0 s2.heap∧(∀b∈fp,FpOk X pins H' b)∧R J H'
def PI(X:Cx)(tg iter:Expr)(wi:TI):Prop :=
 ∀(pins:List (Addr×Obj)) (s:Shared) (σ:St) (H:Hp) (R:It→Hp→Prop),Inv X pins σ H s→wi σ H R →
  wpAny (model X.prog X.w) X.A (eval iter X.env) (fun v s1=>wpAny (model X.prog X.w) X.A (pyIter v) (PIE X pins σ tg R) X.xe s1) X.xe s
theorem a8M{M:Model}{A:Around}{E:Value→Shared→Prop}{s:Shared}{tg:Expr}{it:Addr}{u:Value}{o:Obj}{n:String}{vs:Array Value}{Q:Unit→Shared→Prop}(ho:s.heap.get? it=some o)(hc:o.cls=.type n)(hd:o.data=.fields vs)
  (hn:["enumerate","zip","dict_itemiterator","dict_reverseitemiterator","odict_iterator","itertools.zip_longest","itertools.pairwise"].contains n=false) (hQ:Q () s):wpAny M A (letOwnedTupleGo tg (.ref it) u) Q E s:=by
 unfold letOwnedTupleGo
 cases tg<;>first
  | exact wpAny_pure hQ
  | (cases u<;>first
    | exact wpAny_pure hQ
    | (refine wpAny_bind (wpAny_load ho ?_)
       rw[hc,hd]
       show wpAny M A (if(["enumerate","zip","dict_itemiterator","dict_reverseitemiterator","odict_iterator","itertools.zip_longest","itertools.pairwise"].contains n && vs[0]? == some (rawInt _))=true then _ else _) Q E s
       rw[if_neg (by intro h;rw[hn,Bool.false_and]at h;cases h)]
       exact wpAny_pure hQ))
def Itl(K:W.Frag)(a:Addr):It :=
 ⟨fun i H=>∃xs x,SqL K H a xs∧xs[i]? = some x,fun i H x H'=>H'=H∧∀xs,SqL K H a xs→xs[i]? = some x,fun i H=>∃xs,SqL K H a xs∧xs.length≤i⟩
def Itr(lo:Int)(n:Nat):It:=⟨fun i _=>i<n,fun i H x H'=>H'=H∧x=.int (lo+i),fun i _=>n≤i⟩
theorem a56{P:Program}{w:World}{K:W.Frag}{tg:Expr}(a it:Addr):Turn P w K tg (Itl K a) [it] it (fun i h=>h.IsListIter it a i) where
 mem:=by simp
 obj:=fun i h st b hb=>by
  have e:b=it:=by simpa using hb
  subst e
  obtain⟨o,e,c,d⟩:=st
  exact⟨o,e,fun v z=>by rw[d]at z;cases z⟩
 keep:=fun i h h' st k=>st.at fun o e=>k it (by simp) o e
 item:=by
  intro X hP hw hK hc i pins s σ H E I hf st hg
  subst hP hw hK
  obtain⟨xs,x,hq,hx⟩:=hg
  obtain⟨its,rv,p,hz⟩:=I.list hq
  obtain⟨u,hu,ru⟩:=rv.get hx
  obtain⟨f0,f1,f2,f3,f4,f5⟩:=hf it (by simp)
  refine wpAny_pyNext_list_item st p.isList (x:=u) (by simpa using hu) fun h' st' sb=>?_
  have I1:Inv X pins σ H { s with heap:=h' }:=I.turned (t':=s.toks) (fun b o hb e=>(sb.2 b hb).trans e) f0 f1 f3 f4 f5
  obtain⟨o,e,c,d⟩:=id st'
  exact⟨u,rfl,a8M (s:={ s with heap:=h' }) e c d (by decide) ⟨x,H,I1,ru,⟨rfl,fun ys hy=>by rw[I.list_inj hy hq];exact hx⟩,st',fun b hb=>(hf b hb).1⟩⟩
 done:=by
  intro X hP hw hK hc i pins s σ H E I hf st hg
  subst hP hw hK
  obtain⟨xs,hq,hx⟩:=hg
  obtain⟨its,rv,p,hz⟩:=I.list hq
  obtain⟨f0,f1,f2,f3,f4,f5⟩:=hf it (by simp)
  have hl:=rv.length
  exact wpAny_pyNext_list_end (I.ok.hd hc) st p.isList (by simp;omega) fun h' eb=>⟨rfl,I.turned (t':=s.toks) (fun b o hb e=>eb b o hb e) f0 f1 f3 f4 f5⟩
 self:=fun _ _ _ _ _ st h=>wpAny_pyIter_listiter st h
theorem a5n{P:Program}{w:World}{K:PySem.W.Frag}{tg:Expr}(it:Addr)(lo:Int)(n:Nat):Turn P w K tg (Itr lo n) [it] it (fun i h=>IsRangeIter h it (lo+(i:Nat)*1) ((n:Int)-(i:Nat)) 1) where
 mem:=by simp
 obj:=fun i h st b hb=>by
  have e:b=it:=by simpa using hb
  subst e
  exact⟨_,st,fun v z=>by
   have z':Data.fields _=Data.cell v:=z
   cases z'⟩
 keep:=fun i h h' st k=>k it (by simp) _ st
 item:=by
  intro X hP hw hK hc i pins s σ H E I hf st hg
  subst hP hw hK
  obtain⟨f0,f1,f2,f3,f4,f5⟩:=hf it (by simp)
  have W:=Walks.range (prog:=X.prog) (w:=X.w) (I.ok.hd hc) it lo 1 n
  refine W.item i s _ _ hg st fun v h' tk hv st' kk=>?_
  obtain⟨t,rfl⟩:=hv
  have I1:Inv X pins σ H { s with heap:=h',toks:=tk }:=I.turned (fun b o hb e=>kk b o (by simpa using hb) e) f0 f1 f3 f4 f5
  refine⟨_,rfl,a8M (s:={ s with heap:=h',toks:=tk }) (n := "range_iterator") st' rfl rfl (by decide) ⟨.int (lo+i),H,I1,⟨t,?_⟩,⟨rfl,rfl⟩,st',fun b hb=>(hf b hb).1⟩⟩
  rw[Int.mul_one]
 done:=by
  intro X hP hw hK hc i pins s σ H E I hf st hg
  subst hP hw hK
  obtain⟨f0,f1,f2,f3,f4,f5⟩:=hf it (by simp)
  exact wpAny_pyNext_range_end (I.ok.hd hc) st (by have:n≤i:=hg;omega) fun h' eb=>⟨rfl,I.turned (t':=s.toks) (fun b o hb e=>eb b o hb e) f0 f1 f3 f4 f5⟩
 self:=fun _ _ _ _ _ st h=>wpAny_pyIter_rangeiter st h
section
variable {X:Cx}{tg:Expr}
def a1I(K:W.Frag)(tl:TE):TI:=fun σ H R=>tl σ H fun x H1=>∃a,x=.ref a∧(∃xs,SqL K H1 a xs)∧R (Itl K a) H1
theorem E9{l:Expr}{tl:TE}(hl:PE X l tl):PI X tg l (a1I X.K tl):=by
 intro pins s σ H R I h
 refine i2 (hl pins s σ H _ I h) fun v s1 ⟨x,H1,I1,r1,q1⟩=>?_
 obtain⟨a,e,⟨xs,hq⟩,q⟩:=q1
 subst e
 cases r1
 obtain⟨its,rv,p,hz⟩:=I1.list hq
 refine wpAny_pyIter_list p.isList ?_
 refine⟨s1.heap.objs.size,[s1.heap.objs.size],_,_,H1,rfl,I1.kept (t':=s1.toks) fun b o e=>Heap.get?_push_of_some _ e,a56 a _,⟨_,Heap.get?_push_size _ rfl,rfl,rfl⟩,fun b hb=>?_,q⟩
 have e:b=s1.heap.objs.size:=by simpa using hb
 subst e
 exact I1.fpOk (Nat.le_refl _) (I1.hok.fresh (Nat.le_refl _))
theorem a7s{pins:List (Addr×Obj)}{σ:St}{H:Hp}{s:Shared}{R:It→Hp→Prop}{E:Value→Shared→Prop}{lo hi:Int}{t u v:Tok}{tk:Nat}(I:Inv X pins σ H s)(h1 : -(2 ^ 62)≤lo)(h2:lo<2 ^ 62)(h3 : -(2 ^ 62)≤hi)(h4:hi<2 ^ 62)
  (q:R (Itr lo (hi-lo).toNat) H):wpAny (model X.prog X.w) X.A (pyIter (.ref s.heap.objs.size)) (PIE X pins σ tg R) E { s with heap:=s.heap.push { cls:=.type "range",data:=.fields #[.int lo t,.int hi u,.int 1 v] },toks:=tk }:=by
 refine wpAny_pyIter_range (IsRange.new ..) (small_one h1 h2 h3 h4) ?_
 have I1:Inv X pins σ H { s with heap:=s.heap.push { cls:=.type "range",data:=.fields #[.int lo t,.int hi u,.int 1 v] },toks:=tk }:=I.kept fun b o e=>Heap.get?_push_of_some _ e
 refine⟨(s.heap.push { cls:=.type "range",data:=.fields #[.int lo t,.int hi u,.int 1 v] }).objs.size,[(s.heap.push { cls:=.type "range",data:=.fields #[.int lo t,.int hi u,.int 1 v] }).objs.size],_,_,H,rfl,
  I1.kept (t':=tk) fun b o e=>Heap.get?_push_of_some _ e,a5n _ lo (hi-lo).toNat,?_,fun b hb=>?_,q⟩
 ·have e1:lo+((0:Nat):Int)*1=lo:=by simp
  have e2:(((hi-lo).toNat:Nat):Int)-((0:Nat):Int)=Builtin.Range.rangeSize lo hi 1:=by rw[rangeSize_one];split<;>omega
  show IsRangeIter _ _ (lo+((0:Nat):Int)*1) ((((hi-lo).toNat:Nat):Int)-((0:Nat):Int)) 1
  rw[e1,e2]
  exact Heap.get?_push_size _ rfl
 ·have e:b=(s.heap.push { cls:=.type "range",data:=.fields #[.int lo t,.int hi u,.int 1 v] }).objs.size:=by simpa using hb
  subst e
  exact I1.fpOk (Nat.le_refl _) (I1.hok.fresh (Nat.le_refl _))
def a8N(ta:TA):TI:=fun σ H R=>ta σ H fun vs H1=>∃j:Int,vs=[.int j]∧-(2 ^ 62)≤j∧j<2 ^ 62∧R (Itr 0 j.toNat) H1
theorem a57{a:Expr}{ta:TA}{p pos:Pos}(hg:Gl X "range")(hm:X.mg "range" = none)(ha:PA X [a] ta)(hs:starEach [a] X.env=[(false,eval a X.env)]:=by rfl):PI X tg (.Call (.Name "range" p) [a] [] pos) (a8N ta):=by
 intro pins s σ H R I h
 refine Call_ (T7 I hg hm boot_range (PyProof.Rows.callWith_type1 (i2 (ha pos pins s σ H _ I h) fun us s1 ⟨vs,H1,I1,r1,q1⟩=>?_) hs rfl))
 obtain⟨j,e,q1,q2,q⟩:=q1
 subst e
 cases r1 with
 | cons r rr =>
  cases rr
  obtain⟨t,rfl⟩:=r
  exact call_range_1 (a7s I1 (by omega) (by omega) q1 q2 (by simpa using q))
def a3G(wi:TI)(g:TG)(tb:TS):TS:=fun D σ H=>wi σ H fun J H1=>∃W:Nat→Nat→St→Hp→Prop,(∃m,W 0 m σ H1)∧∀i m σ H,W i m σ H →
 (J.stop i H∧D.nx σ H)∨(J.go i H∧∃N:St→Hp→Prop,(∀σ' H',N σ' H'→∃m',m'<m∧W (i+1) m' σ' H')∧∀x H',J.yld i H x H'→g x σ H' fun σ2 H2=>tb { D with nx:=N,ct:=N,bk:=D.nx } σ2 H2)
def a0r(fp:List Addr)(h:Heap):List (Addr×Obj):=fp.filterMap fun b=>(h.get? b).map fun o=>(b,o)
theorem R0{fp:List Addr}{h:Heap}{b:Addr}{o:Obj}(hb:b∈fp)(e:h.get? b=some o):(b,o)∈a0r fp h:=List.mem_filterMap.mpr ⟨b,hb,by rw[e];rfl⟩
theorem a58{fp:List Addr}{h:Heap}{p:Addr×Obj}(hp:p∈a0r fp h):p.1∈fp∧h.get? p.1=some p.2:=by
 obtain⟨b,hb,e⟩:=List.mem_filterMap.mp hp
 cases q:h.get? b with
 | none=>rw[q]at e;cases e
 | some o =>
  rw[q]at e
  have e':(b,o)=p:=Option.some.inj e
  subst e'
  exact⟨hb,q⟩
theorem Inv.pinned{pins:List (Addr×Obj)}{σ:St}{H:Hp}{s:Shared}{fp:List Addr}(I:Inv X pins σ H s)(hf:∀b∈fp,FpOk X pins H b)(ho:∀b∈fp,∃o,s.heap.get? b=some o∧∀v,o.data≠.cell v):Inv X (pins++a0r fp s.heap) σ H s :=
 I.pins_of fun p hp=>(List.mem_append.mp hp).elim (fun z=>I.pin p (List.mem_append_right _ z)) fun z=>by
  obtain⟨hb,e⟩:=a58 z
  obtain⟨f0,f1,f2,_⟩:=hf p.1 hb
  obtain⟨o,e',d⟩:=ho p.1 hb
  rw[e]at e';cases e'
  exact⟨e,f0,f1,f2,d⟩
theorem Inv.unpinned{pins pl:List (Addr×Obj)}{σ:St}{H:Hp}{s:Shared}(I:Inv X (pins++pl) σ H s):Inv X pins σ H s:=I.pins_of fun p hp=>I.pin p (List.mem_append_right _ (List.mem_append_left _ hp))
theorem X4{iter:Expr}{body:List Stmt}{wi:TI}{g:TG}{tb:TS}{pos:Pos}(hp:PassesOwn (model X.prog X.w) X.A X.env X.xe)(hc:X.calm=true)(hi:PI X tg iter wi)(hg:PG X tg g)(hb:PSs X body tb)
  (hs:∀x,foldedSetIterable iter X.env x=pure x:=by intro _;rfl):PS X (.For tg iter body [] pos) (a3G wi g tb):=by
 intro pins s σ H D I h
 refine wpAny_For (i2 (hi pins s σ H _ I h) fun v s1 h1=>i2 h1 fun itv s2 h2=>?_) hs
 obtain⟨it,fp,tn,J,H2,e,I2,T,st2,f2,W,⟨m0,w0⟩,turn⟩:=h2
 subst e
 -- what stays true of the iterator's objects through the loop
 have stat:∀{H':Hp},(∀b∈fp,H' b=none)→∀b∈fp,FpOk X pins H' b:=fun hn b hb=>⟨hn b hb,(f2 b hb).2⟩
 refine codeAny_forLoop_any (fun n s'=>∃i σ' H',Inv X pins σ' H' s'∧tn i s'.heap∧(∀b∈fp,H' b=none)∧W i n σ' H') ?_ m0 ⟨0,σ,H2,I2,st2,fun b hb=>(f2 b hb).1,w0⟩
 rintro n s3 ⟨i,σ3,H3,I3,st3,fr3,w3⟩
 rcases turn i n σ3 H3 w3 with⟨stop,qn⟩ | ⟨go,N,hN,step⟩
 ·refine wpAny_passesOwn hp (i2 (T.done X rfl rfl rfl hc i pins s3 σ3 H3 X.xe I3 (stat fr3) st3 stop) fun r s4 ⟨hr,I4⟩=>?_)
  subst hr
  exact wpAny_execs_nil ⟨σ3,H3,I4,qn⟩
 ·refine wpAny_passesOwn hp (i2 (T.item X rfl rfl rfl hc i pins s3 σ3 H3 X.xe I3 (stat fr3) st3 go) fun r s4 ⟨u,hr,h4⟩=>?_)
  subst hr
  refine wpAny_passesOwn hp (i2 h4 fun _ s5 ⟨x,H5,I5,r5,y5,st5,fr5⟩=>?_)
  have I5':=I5.pinned (stat fr5) (T.obj _ _ st5)
  refine wpAny_passesOwn hp (i2 (hg _ s5 σ3 H5 x u _ I5' r5 (step x H5 y5)) fun _ s6 ⟨σ6,H6,I6,q6⟩=>?_)
  refine wpAny_passesOwn hp (i2 (hb _ s6 σ6 H6 _ I6 q6) fun f s7 q7=>?_)
  have again:∀{σ7:St} {H7:Hp},Inv X (pins++a0r fp s5.heap) σ7 H7 s7→N σ7 H7→∃m,m<n∧∃i σ' H',Inv X pins σ' H' s7∧tn i s7.heap∧(∀b∈fp,H' b=none)∧W i m σ' H':=fun{σ7 H7} I7 n7=>by
   obtain⟨m',hm,w7⟩:=hN σ7 H7 n7
   refine⟨m',hm,i+1,σ7,H7,I7.unpinned,T.keep _ _ _ st5 fun b hb o e=>(I7.pin (b,o) (List.mem_append_right _ (List.mem_append_right _ (R0 hb e)))).1,fun b hb=>?_,w7⟩
   obtain⟨o,e,d⟩:=T.obj _ _ st5 b hb
   exact(I7.pin (b,o) (List.mem_append_right _ (List.mem_append_right _ (R0 hb e)))).2.1
  cases f with
  | next=>obtain⟨σ7,H7,I7,n7⟩:=q7;exact again I7 n7
  | cont=>obtain⟨σ7,H7,I7,n7⟩:=q7;exact again I7 n7
  | brk=>obtain⟨σ7,H7,I7,q7⟩:=q7;exact⟨σ7,H7,I7.unpinned,q7⟩
  | ret v=>obtain⟨x7,σ7,H7,I7,r7,q7⟩:=q7;exact⟨x7,σ7,H7,I7.unpinned,r7,q7⟩
end
theorem a7t{K:PySem.W.Frag}{a:Addr}{xs:List V}{g:TG}{tb:TS}{D:Ends}{σ:St}{H:Hp}(Pv:Nat→St→Hp→Prop)(h0:Pv 0 σ H)(hl:∀i σ H,i≤xs.length→Pv i σ H→SqL K H a xs)
  (hs:∀i x σ H,xs[i]? = some x→Pv i σ H→g x σ H fun σ2 H2=>tb { D with nx:=Pv (i+1),ct:=Pv (i+1),bk:=D.nx } σ2 H2) (hd:∀σ H,Pv xs.length σ H→D.nx σ H) :
  ∃W:Nat→Nat→St→Hp→Prop,(∃m,W 0 m σ H)∧∀i m σ H,W i m σ H →
   ((Itl K a).stop i H∧D.nx σ H)∨((Itl K a).go i H∧∃N:St→Hp→Prop,(∀σ' H',N σ' H'→∃m',m'<m∧W (i+1) m' σ' H')∧∀x H',(Itl K a).yld i H x H'→g x σ H' fun σ2 H2=>tb { D with nx:=N,ct:=N,bk:=D.nx } σ2 H2):=by
 refine⟨fun i m σ H=>m=xs.length-i∧i≤xs.length∧Pv i σ H,⟨xs.length,by simp,Nat.zero_le _,h0⟩,?_⟩
 rintro i m σ H ⟨rfl,hi,p⟩
 have q:=hl i σ H hi p
 by_cases hlt:i<xs.length
 ·refine .inr ⟨⟨xs,xs[i],q,by simp[hlt]⟩,Pv (i+1),fun σ' H' p'=>⟨xs.length-(i+1),by omega,rfl,hlt,p'⟩,fun x H' y=>?_⟩
  obtain⟨e,y⟩:=y
  subst e
  exact hs i x σ _ (y xs q) p
 ·have e:i=xs.length:=by omega
  subst e
  exact .inl ⟨⟨xs,q,Nat.le_refl _⟩,hd σ H p⟩
theorem a59{lo:Int}{n:Nat}{g:TG}{tb:TS}{D:Ends}{σ:St}{H:Hp}(Pv:Nat→St→Hp→Prop)(h0:Pv 0 σ H)
  (hs:∀i σ H,i<n→Pv i σ H→g (.int (lo+i)) σ H fun σ2 H2=>tb { D with nx:=Pv (i+1),ct:=Pv (i+1),bk:=D.nx } σ2 H2) (hd:∀σ H,Pv n σ H→D.nx σ H) :
  ∃W:Nat→Nat→St→Hp→Prop,(∃m,W 0 m σ H)∧∀i m σ H,W i m σ H →
   ((Itr lo n).stop i H∧D.nx σ H)∨((Itr lo n).go i H∧∃N:St→Hp→Prop,(∀σ' H',N σ' H'→∃m',m'<m∧W (i+1) m' σ' H')∧∀x H',(Itr lo n).yld i H x H'→g x σ H' fun σ2 H2=>tb { D with nx:=N,ct:=N,bk:=D.nx } σ2 H2):=by
 refine⟨fun i m σ H=>m=n-i∧i≤n∧Pv i σ H,⟨n,by simp,Nat.zero_le _,h0⟩,?_⟩
 rintro i m σ H ⟨rfl,hi,p⟩
 by_cases hlt:i<n
 ·refine .inr ⟨hlt,Pv (i+1),fun σ' H' p'=>⟨n-(i+1),by omega,rfl,hlt,p'⟩,fun x H' y=>?_⟩
  obtain⟨e,y⟩:=y
  subst e y
  exact hs i σ _ hlt p
 ·have e:i=n:=by omega
  subst e
  exact .inl ⟨Nat.le_refl _,hd σ H p⟩
abbrev R2:=V→V→Hp→VK→Prop
def OpR(X:Cx)(f:Value→Value→Sem Value)(r:R2):Prop :=
 ∀(pins:List (Addr×Obj)) (s:Shared) (σ:St) (H:Hp) (x y:V) (v u:Value) (Q:VK),Inv X pins σ H s→RelV x v→RelV y u→r x y H Q →
  wpAny (model X.prog X.w) X.A (f v u) (EP X pins σ Q) X.xe s
def UnR(X:Cx)(f:Value→Sem Value)(r:V→Hp→VK→Prop):Prop :=
 ∀(pins:List (Addr×Obj)) (s:Shared) (σ:St) (H:Hp) (x:V) (v:Value) (Q:VK),Inv X pins σ H s→RelV x v→r x H Q →
  wpAny (model X.prog X.w) X.A (f v) (EP X pins σ Q) X.xe s
def CallR(X:Cx)(f:Value)(r:List V→Hp→VK→Prop):Prop :=
 ∀(pins:List (Addr×Obj)) (s:Shared) (σ:St) (H:Hp) (xs:List V) (us:List Value) (Q:VK),Inv X pins σ H s→Vals xs us→r xs H Q →
  wpAny (model X.prog X.w) X.A (call f us) (EP X pins σ Q) X.xe s
def tOp(r:R2)(ta tb:TE):TE:=fun σ H Q=>ta σ H fun x H1=>tb σ H1 fun y H2=>r x y H2 Q
def tUn(r:V→Hp→VK→Prop)(ta:TE):TE:=fun σ H Q=>ta σ H fun x H1=>r x H1 Q
def rI(C:Int→Int→Prop)(g:Int→Int→V):R2:=fun x y H Q=>∃i j,x=.int i∧y=.int j∧C i j∧Q (g i j) H
def U0(g:Int→Int→V):R2:=fun x y H Q=>∃i j,x=.int i∧y=.int j∧Q (g i j) H
def rU(g:Int→V):V→Hp→VK→Prop:=fun x H Q=>∃i,x=.int i∧Q (g i) H
section
variable {X:Cx}{a b c:Expr}{ta tb tc:TE}{pos:Pos}
theorem a7u(ha:PE X a ta)(hb:PE X b tb){pins:List (Addr×Obj)}{s:Shared}{σ:St}{H:Hp}{R:V→V→Hp→Prop}(I:Inv X pins σ H s)
  (h:ta σ H fun x H1=>tb σ H1 fun y H2=>R x y H2) {Q:Value→Shared→Prop} {f:Value→Value→Sem Value}
  (hf:∀v u s2 x y H2,Inv X pins σ H2 s2→RelV x v→RelV y u→R x y H2→wpAny (model X.prog X.w) X.A (f v u) Q X.xe s2) :
  wpAny (model X.prog X.w) X.A (eval a X.env) (fun v s₁=>wpAny (model X.prog X.w) X.A (eval b X.env) (fun u s₂=>wpAny (model X.prog X.w) X.A (f v u) Q X.xe s₂) X.xe s₁) X.xe s:=by
 refine i2 (ha pins s σ H _ I h) fun v s1 ⟨x,H1,I1,r1,q1⟩=>?_
 refine i2 (hb pins s1 σ H1 _ I1 q1) fun u s2 ⟨y,H2,I2,r2,q2⟩=>?_
 exact hf v u s2 x y H2 I2 r1 r2 q2
theorem i0{op:Operator}{r:R2}(ho:OpR X (binaryOp op) r)(ha:PE X a ta)(hb:PE X b tb):PE X (.BinOp a op b pos) (tOp r ta tb):=by
 intro pins s σ H Q I h
 exact wpAny_BinOp (a7u ha hb I h fun v u s2 x y H2 I2 rx ry q=>ho pins s2 σ H2 x y v u Q I2 rx ry q)
theorem a5o{op:UnaryOp}{r:V→Hp→VK→Prop}(ho:UnR X (unaryOp op) r)(ha:PE X a ta):PE X (.UnaryOp op a pos) (tUn r ta):=by
 intro pins s σ H Q I h
 exact UnaryOp_ (i2 (ha pins s σ H _ I h) fun v s1 ⟨x,H1,I1,r1,q1⟩=>ho pins s1 σ H1 x v Q I1 r1 q1)
theorem opI{f:Value→Value→Sem Value}{C:Int→Int→Prop}{g:Int→Int→Int}
  (rule:∀(i j:Int) (t u:Tok) (s:Shared) (Q:Value→Shared→Prop) (E:Value→Shared→Prop),C i j→Q (.int (g i j) s.toks) { s with toks:=s.toks+1 }→wpAny (model X.prog X.w) X.A (f (.int i t) (.int j u)) Q E s) :
  OpR X f (rI C fun i j=>.int (g i j)):=by
 intro pins s σ H x y v u Q I rx ry h
 obtain⟨i,j,rfl,rfl,hc,q⟩:=h
 obtain⟨t,rfl⟩:=rx
 obtain⟨t',rfl⟩:=ry
 exact rule i j t t' s _ _ hc ⟨.int (g i j),H,I.tok _,⟨_,rfl⟩,q⟩
theorem b1f{f:Value→Value→Sem Value}{g:Int→Int→Int}
  (rule:∀(i j:Int) (t u:Tok) (s:Shared) (Q:Value→Shared→Prop) (E:Value→Shared→Prop),Q (.int (g i j) s.toks) { s with toks:=s.toks+1 }→wpAny (model X.prog X.w) X.A (f (.int i t) (.int j u)) Q E s) :
  OpR X f (U0 fun i j=>.int (g i j)):=by
 intro pins s σ H x y v u Q I rx ry h
 obtain⟨i,j,rfl,rfl,q⟩:=h
 obtain⟨t,rfl⟩:=rx
 obtain⟨t',rfl⟩:=ry
 exact rule i j t t' s _ _ ⟨.int (g i j),H,I.tok _,⟨_,rfl⟩,q⟩
theorem a5p{f:Value→Value→Sem Value}{g:Int→Int→Bool}
  (rule:∀(i j:Int) (t u:Tok) (s:Shared) (Q:Value→Shared→Prop) (E:Value→Shared→Prop),Q (.bool (g i j)) s→wpAny (model X.prog X.w) X.A (f (.int i t) (.int j u)) Q E s) :
  OpR X f (U0 fun i j=>.bl (g i j)):=by
 intro pins s σ H x y v u Q I rx ry h
 obtain⟨i,j,rfl,rfl,q⟩:=h
 obtain⟨t,rfl⟩:=rx
 obtain⟨t',rfl⟩:=ry
 exact rule i j t t' s _ _ ⟨.bl (g i j),H,I,rfl,q⟩
def a2l(i j:Int):Prop:=0≤j∧j≤1000000∧i.natAbs<2 ^ 64
def CMul(i j:Int):Prop:=(-(2 ^ 64)<i∧i<2 ^ 64)∨(-(2 ^ 64)<j∧j<2 ^ 64)
theorem CMul.ok{i j:Int}(h:CMul i j):IntMulOk i j:=by
 rcases h with⟨h1,h2⟩ | ⟨h1,h2⟩
 ·exact .of_left (intBits_le_64 h1 h2)
 ·exact .of_right (intBits_le_64 h1 h2)
theorem J9:OpR X (binaryOp .Add) (U0 fun i j=>.int (i+j)):=b1f fun _ _ _ _ _ _ _ q=>add_int q
theorem a1J:OpR X (binaryOp .Sub) (U0 fun i j=>.int (i-j)):=b1f fun _ _ _ _ _ _ _ q=>sub_int q
theorem G4:OpR X (binaryOp .Mod) (rI (fun _ j=>0<j) fun i j=>.int (i%j)):=opI fun i j _ _ _ _ _ hc q=>by
 have h1:(0:Int)<j:=hc
 exact mod_int' (by omega) (by rw[Int.fmod_eq_emod_of_nonneg i (by omega)];exact q)
theorem P4:OpR X (binaryOp .Pow) (rI a2l fun i j=>.int (i ^ j.toNat)):=opI fun _ _ _ _ _ _ _ hc q=>pow_int_small hc.1 hc.2.1 hc.2.2 q
theorem unI{f:Value→Sem Value}{g:Int→Int}
  (rule:∀(i:Int) (t:Tok) (s:Shared) (Q:Value→Shared→Prop) (E:Value→Shared→Prop),Q (.int (g i) s.toks) { s with toks:=s.toks+1 }→wpAny (model X.prog X.w) X.A (f (.int i t)) Q E s) :
  UnR X f (rU fun i=>.int (g i)):=by
 intro pins s σ H x v Q I rx h
 obtain⟨i,rfl,q⟩:=h
 obtain⟨t,rfl⟩:=rx
 exact rule i t s _ _ ⟨.int (g i),H,I.tok _,⟨_,rfl⟩,q⟩
theorem a3H:UnR X (unaryOp .USub) (rU fun i=>.int (-i)):=unI fun _ _ _ _ _ q=>neg_int q
end
def a5q:V→V→Bool
 | .non,.non=>true | .non,.int _=>true | .int _,.non=>true | .non,.bl _=>true | .bl _,.non=>true | .non,.str _=>true | .str _,.non=>true
 | .int _,.int _=>true | .bl _,.bl _=>true | .str _,.str _=>true | .byt _,.byt _=>true
 | .int _,.str _=>true | .str _,.int _=>true | .bl _,.str _=>true | .str _,.bl _=>true
 | _,_=>false
def rEq:R2:=fun x y H Q=>a5q x y=true∧Q (.bl (decide (x=y))) H
def rNe:R2:=fun x y H Q=>a5q x y=true∧Q (.bl (!decide (x=y))) H
theorem a4S{i j:Int}:decide (V.int i=V.int j)=(i == j):=by
 rw[Bool.eq_iff_iff]
 simp
theorem a5_{i j:Bool}:decide (V.bl i=V.bl j)=(i == j):=by
 rw[Bool.eq_iff_iff]
 simp
theorem a4T{i j:Str}:decide (V.str i=V.str j)=(i == j):=by
 rw[Bool.eq_iff_iff]
 simp
theorem a4U{i j:Array UInt8}:decide (V.byt i=V.byt j)=(i.toList == j.toList):=by
 rw[Bool.eq_iff_iff]
 cases i
 cases j
 simp
section
variable {X:Cx}{a b c:Expr}{ta tb tc:TE}{pos:Pos}
theorem i3{pins:List (Addr×Obj)}{σ:St}{H:Hp}{s:Shared}{Q:VK}{k k':Bool}(I:Inv X pins σ H s)(q:Q (.bl k) H)(e:k=k'):EP X pins σ Q (.bool k') s:=by
 subst e
 exact⟨.bl k,H,I,rfl,q⟩
theorem R7:OpR X (compareOp .Eq) rEq:=by
 intro pins s σ H x y v u Q I rx ry h
 obtain⟨hs,q⟩:=h
 cases x with
 | non =>
  cases rx
  cases y with
  | non=>cases ry;exact PySem.EqNone.eq_none_none (i3 I q (by simp))
  | bl j=>cases ry;exact PySem.EqNone.eq_none_bool (i3 I q (by simp))
  | int j=>obtain⟨t',rfl⟩:=ry;exact PySem.EqNone.eq_none_int (i3 I q (by simp))
  | str j=>obtain⟨t',rfl⟩:=ry;exact PySem.EqNone.eq_none_str (i3 I q (by simp))
  | _=>exact absurd (show false=true from hs) Bool.false_ne_true
 | bl i =>
  cases rx
  cases y with
  | non=>cases ry;exact PySem.EqNone.eq_bool_none (i3 I q (by simp))
  | bl j=>cases ry;exact eq_bool (i3 I q a5_)
  | str j=>obtain⟨t',rfl⟩:=ry;exact PySem.EqMixed.eq_bool_str (i3 I q (by simp))
  | _=>exact absurd (show false=true from hs) Bool.false_ne_true
 | int i =>
  obtain⟨t,rfl⟩:=rx
  cases y with
  | non=>cases ry;exact PySem.EqNone.eq_int_none (i3 I q (by simp))
  | int j=>obtain⟨t',rfl⟩:=ry;exact eq_int (i3 I q a4S)
  | str j=>obtain⟨t',rfl⟩:=ry;exact PySem.EqMixed.eq_int_str (i3 I q (by simp))
  | _=>exact absurd (show false=true from hs) Bool.false_ne_true
 | str i =>
  obtain⟨t,rfl⟩:=rx
  cases y with
  | non=>cases ry;exact PySem.EqNone.eq_str_none (i3 I q (by simp))
  | bl j=>cases ry;exact PySem.EqMixed.eq_str_bool (i3 I q (by simp))
  | int j=>obtain⟨t',rfl⟩:=ry;exact PySem.EqMixed.eq_str_int (i3 I q (by simp))
  | str j=>obtain⟨t',rfl⟩:=ry;exact eq_str (i3 I q a4T)
  | _=>exact absurd (show false=true from hs) Bool.false_ne_true
 | byt i =>
  obtain⟨t,rfl⟩:=rx
  cases y with
  | byt j=>obtain⟨t',rfl⟩:=ry;exact W.eq_bytes (i3 I q a4U)
  | _=>exact absurd (show false=true from hs) Bool.false_ne_true
 | _=>cases y<;>exact absurd (show false=true from hs) Bool.false_ne_true
theorem a5r:OpR X (compareOp .NotEq) rNe:=by
 intro pins s σ H x y v u Q I rx ry h
 obtain⟨hs,q⟩:=h
 cases x with
 | non =>
  cases rx
  cases y with
  | non=>cases ry;exact PySem.EqNone.ne_none_none (i3 I q (by simp))
  | bl j=>cases ry;exact PySem.EqNone.ne_none_bool (i3 I q (by simp))
  | int j=>obtain⟨t',rfl⟩:=ry;exact PySem.EqNone.ne_none_int (i3 I q (by simp))
  | str j=>obtain⟨t',rfl⟩:=ry;exact PySem.EqNone.ne_none_str (i3 I q (by simp))
  | _=>exact absurd (show false=true from hs) Bool.false_ne_true
 | bl i =>
  cases rx
  cases y with
  | non=>cases ry;exact PySem.EqNone.ne_bool_none (i3 I q (by simp))
  | bl j=>cases ry;exact ne_bool (i3 I q (congrArg not a5_))
  | str j=>obtain⟨t',rfl⟩:=ry;exact PySem.EqMixed.ne_bool_str (i3 I q (by simp))
  | _=>exact absurd (show false=true from hs) Bool.false_ne_true
 | int i =>
  obtain⟨t,rfl⟩:=rx
  cases y with
  | non=>cases ry;exact PySem.EqNone.ne_int_none (i3 I q (by simp))
  | int j=>obtain⟨t',rfl⟩:=ry;exact ne_int (i3 I q (congrArg not a4S))
  | str j=>obtain⟨t',rfl⟩:=ry;exact PySem.EqMixed.ne_int_str (i3 I q (by simp))
  | _=>exact absurd (show false=true from hs) Bool.false_ne_true
 | str i =>
  obtain⟨t,rfl⟩:=rx
  cases y with
  | non=>cases ry;exact PySem.EqNone.ne_str_none (i3 I q (by simp))
  | bl j=>cases ry;exact PySem.EqMixed.ne_str_bool (i3 I q (by simp))
  | int j=>obtain⟨t',rfl⟩:=ry;exact PySem.EqMixed.ne_str_int (i3 I q (by simp))
  | str j=>obtain⟨t',rfl⟩:=ry;exact ne_str (i3 I q (congrArg not a4T))
  | _=>exact absurd (show false=true from hs) Bool.false_ne_true
 | byt i =>
  obtain⟨t,rfl⟩:=rx
  cases y with
  | byt j=>obtain⟨t',rfl⟩:=ry;exact W.ne_bytes (i3 I q (congrArg not a4U))
  | _=>exact absurd (show false=true from hs) Bool.false_ne_true
 | _=>cases y<;>exact absurd (show false=true from hs) Bool.false_ne_true
theorem Y4:OpR X (compareOp .Lt) (U0 fun i j=>.bl (decide (i<j))):=a5p fun _ _ _ _ _ _ _ q=>lt_int q
theorem b2I:OpR X (compareOp .LtE) (U0 fun i j=>.bl (decide (i≤j))):=a5p fun _ _ _ _ _ _ _ q=>le_int q
theorem a1K:OpR X (compareOp .Gt) (U0 fun i j=>.bl (decide (j<i))):=a5p fun _ _ _ _ _ _ _ q=>gt_int q
theorem a5s:OpR X (compareOp .GtE) (U0 fun i j=>.bl (decide (j≤i))):=a5p fun _ _ _ _ _ _ _ q=>ge_int q
theorem a6a:OpR X (compareOp .Is) (fun x y H Q=>y=.non∧Q (.bl (decide (x=.non))) H):=by
 intro pins s σ H x y v u Q I rx ry h
 obtain⟨rfl,q⟩:=h
 cases ry
 refine is_none_gen (i3 I q ?_)
 cases x<;>first
  | (cases rx;rfl)
  | (obtain⟨t,rfl⟩:=rx;rfl)
theorem OpR.or{f:Value→Value→Sem Value}{r r':R2}(h:OpR X f r)(h':OpR X f r'):OpR X f (fun x y H Q=>r x y H Q∨r' x y H Q):=by
 intro pins s σ H x y v u Q I rx ry q
 rcases q with q | q
 ·exact h pins s σ H x y v u Q I rx ry q
 ·exact h' pins s σ H x y v u Q I rx ry q
theorem i7(b:Expr){op:CmpOp}(h:op≠.In:=by decide)(h2:op≠.NotIn:=by decide):behindInMarks op b=false:=by
 have e1:(op == CmpOp.In)=false:=by cases op<;>first | rfl | exact absurd rfl h
 have e2:(op == CmpOp.NotIn)=false:=by cases op<;>first | rfl | exact absurd rfl h2
 cases b<;>simp[behindInMarks,e1,e2]
theorem K5{op:CmpOp}{r:R2}(ho:OpR X (compareOp op) r)(ha:PE X a ta)(hb:PE X b tb)(hm:behindInMarks op b=false):PE X (.Compare a [op] [b] pos) (tOp r ta tb):=by
 intro pins s σ H Q I h
 exact wpAny_Compare1 (a7u ha hb I h fun v u s2 x y H2 I2 rx ry q=>ho pins s2 σ H2 x y v u Q I2 rx ry q) hm
def a8P(t:TE):TT:=fun σ H Q=>t σ H fun x H'=>∃k,x=.bl k∧Q k H'
theorem j5{op:CmpOp}{r:R2}(ho:OpR X (compareOp op) r)(ha:PE X a ta)(hb:PE X b tb)(hm:behindInMarks op b=false):PT X (.Compare a [op] [b] pos) (a8P (tOp r ta tb)):=by
 intro pins s σ H Q I h
 refine wpAny_isTrue_Compare1 (i2 (ha pins s σ H _ I h) fun v s1 ⟨x,H1,I1,r1,q1⟩=>i2 (hb pins s1 σ H1 _ I1 q1) fun u s2 ⟨y,H2,I2,r2,q2⟩ =>
  i2 (ho pins s2 σ H2 x y v u _ I2 r1 r2 q2) fun c s3 ⟨z,H3,I3,r3,k,e,q3⟩=>?_) hm
 subst e
 cases r3
 exact wpAny_truthy_bool ⟨H3,I3,q3⟩
theorem a0t:(sizeLine:Nat)<2 ^ 63:=by rw[sizeLine_eq];decide
theorem a8Q{x:V}{us:List Value}(r:Vals [x] us):∃u,us=[u]∧RelV x u:=by
 cases r with
 | cons r1 r2=>cases r2;exact⟨_,rfl,r1⟩
theorem b2J{x y:V}{us:List Value}(r:Vals [x,y] us):∃u w',us=[u,w']∧RelV x u∧RelV y w':=by
 cases r with
 | cons r1 r2 =>
  cases r2 with
  | cons r3 r4=>cases r4;exact⟨_,_,rfl,r1,r3⟩
end
structure ObjM(h:Heap)(x dx C:Addr)(mA:Str→Option Value):Prop where
 obj:h.get? x=some (W.instObj C dx)
 ns:h.Ns1 dx mA
 ne:dx≠x
theorem a6b{h:Heap}{dx:Addr}{mA:Str→Option Value}(n:h.Ns1 dx mA):∃od,h.get? dx=some od∧∀name,W.lookIn name od=some (mA name):=by
 obtain⟨o,es,ep,ho,hd,hk,_,hm⟩:=n
 refine⟨o,ho,fun name=>?_⟩
 have e:=hm name
 unfold nsFind findBy at e
 rw[← Array.find?_toList]at e
 unfold W.lookIn
 rw[hd]
 dsimp only
 split
 ·rename_i y q
  rw[q]at e
  exact congrArg some e
 ·rename_i q
  rw[q]at e
  have a:es.toList.any (·.refKey)=false:=by
   rw[List.any_eq_false]
   intro y hy
   obtain⟨z,t,hkey⟩:=hk y (Array.mem_toList_iff.mp hy)
   simp[DictEntry.refKey,hkey]
  have a':¬es.toList.any (·.refKey)=true:=by rw[a];exact Bool.false_ne_true
  rw[if_neg a']
  exact congrArg some e
theorem ObjM.look{h:Heap}{x dx C:Addr}{mA:Str→Option Value}(I:ObjM h x dx C mA):∃od,W.InstAt h x (W.instObj C dx) C (some od)∧∀name,W.lookIn name od=some (mA name) :=
 let ⟨od,ho,hl⟩:=a6b I.ns
 ⟨od,⟨I.obj,rfl,rfl,ho⟩,hl⟩
section
variable {prog:Program}{w:World}{A:Around}{E:Value→Shared→Prop}{s:Shared}{K:W.Frag}{x dx C f:Addr}{mA:Str→Option Value}{name:Str}{v:Value}
theorem a7v{pl:Sem Bool}{Q:Value×List Value→Shared→Prop}(X:K.In s.heap)(I:ObjM s.heap x dx C mA)(hg:W.plainGet K C name=true)
  (hf:W.findIn K (.ref C) name=some (some (.ref f))) (ht:W.isFn K (.ref f)=true) (hv:mA name=none) (h:Q (.ref f,[.ref x]) s) :
  wpAny (model prog w) A (getMethod (.ref x) name pl) Q E s:=by
 obtain⟨od,J,hl⟩:=I.look
 exact W.method_fn X J (W.plainGet_of hg).1 (W.plainGet_of hg).2 hf (beq_iff_eq.mp ht) (by show(W.lookIn name od).map (·.isSome)=some false;rw[hl,hv];rfl) h
theorem a6c{R:Result→Shared→Prop}(X:K.In s.heap)(hm:W.makesIn K C=true)
  (hi:W.findIn K (.ref C) "__init__" = some (some (.builtin "object.__init__")))
  (hb:∀self,W.Looks (model prog w) s.heap (bindSpecial (.builtin "object.__init__") self) (.builtin "object.__init__",[self]))
  (h:codeAny (model prog w) (A.under (.builtin "type.__call__" ⟨[.ref C],[]⟩)) (.call (.builtin "object.__init__") ⟨[.ref (s.heap.objs.size+1)],[]⟩) (W.InitBack (s.heap.objs.size+1) R)
   { s with heap:=(s.heap.push W.emptyDict).push (W.instObj C s.heap.objs.size) }) :
  codeAny (model prog w) A (.call (.ref C) ⟨[],[]⟩) R s:=by
 obtain⟨hh,g,d,t,os⟩:=s
 exact W.make_core (W.makes_of X hm) (W.looks_findIn X hi) hb (.inr ⟨rfl,rfl⟩) h
end
theorem RelO.none_of{o:Option Value}(r:RelO none o):o=none:=by
 cases o with
 | none=>rfl
 | some u=>exact(show False from r).elim
section
variable {P:Program}{w:World}{H H':Hp}{h h':Heap}{a C dx:Addr}{fs fs':List (Str×V)}
theorem a4V(hok:HOk P w H h)(e:H a=some (.ins C dx fs)):∃mA,ObjM h a dx C mA∧(∀f,RelO (fs.lookup f) (mA f))∧PySem.Within mA (fs.map (·.1))∧fs.length≤1000∧H dx=some (.own a):=by
 obtain⟨d,z,ne,ob,mA,n,r,q⟩:=(show ObjOk P w H h a (.ins C dx fs)from hok a _ e)
 exact⟨mA,⟨ob,n,ne⟩,r,q,z,d⟩
end
structure Cls(K:W.Frag)(C:Addr):Prop where
 pg:W.plainGet K C Str.empty=true
 hd:W.hasDictIn K C=true
 po:W.plainOver K C=true
 sa:W.findIn K (.ref C) "__setattr__" = some (some (.builtin "object.__setattr__"))
theorem Cls.get{K:W.Frag}{C:Addr}(c:Cls K C)(f:Str):W.plainGet K C f=true:=c.pg
structure Meth(K:W.Frag)(C:Addr)(m:Str)(f:Addr):Prop where
 at_:W.findIn K (.ref C) m=some (some (.ref f))
 fn:W.isFn K (.ref f)=true
 kp:W.keepIn K (.ref f)=true
section
variable {X:Cx}{pins:List (Addr×Obj)}{σ:St}{H:Hp}{s:Shared}{a C dx:Addr}{fs:List (Str×V)}{f:Str}{v:V}{A:Around}{E:Value→Shared→Prop}
theorem a5t{m:Str}{g:Addr}{pl:Sem Bool}{Q:Value×List Value→Shared→Prop}(I:Inv X pins σ H s)(e:H a=some (.ins C dx fs))(c:Cls X.K C)(k:Meth X.K C m g)(l:fs.lookup m=none)
  (h:Q (.ref g,[.ref a]) s):wpAny (model X.prog X.w) A (getMethod (.ref a) m pl) Q E s:=by
 obtain⟨mA,O,r,_,_,_⟩:=a4V I.hok e
 have hn:mA m=none:=RelO.none_of (by rw[← l];exact r m)
 exact a7v I.kIn O (c.get m) k.at_ k.fn hn h
theorem Inv.made(I:Inv X pins σ H s):Inv X pins σ (upd (upd H s.heap.objs.size (.own (s.heap.objs.size+1))) (s.heap.objs.size+1) (.ins C s.heap.objs.size []))
  { s with heap:=(s.heap.push W.emptyDict).push (W.instObj C s.heap.objs.size) }:=by
 have e1:(s.heap.push W.emptyDict).get? s.heap.objs.size=some W.emptyDict:=Heap.get?_push_size s.heap rfl
 have e2:((s.heap.push W.emptyDict).push (W.instObj C s.heap.objs.size)).get? (s.heap.objs.size+1)=some (W.instObj C s.heap.objs.size):=by
  have:=Heap.get?_push_size (s.heap.push W.emptyDict) (o:=W.instObj C s.heap.objs.size) rfl
  rwa [Heap.size_push]at this
 have e3:(s.heap.push W.emptyDict).Ns s.heap.objs.size (fun _=>none):=⟨W.emptyDict,#[],_,e1,rfl,(fun e he=>absurd he (by simp)),fun _=>rfl⟩
 have I1:=I.laid (a:=s.heap.objs.size) (o:=.own (s.heap.objs.size+1)) (h':=s.heap.push W.emptyDict) (t':=s.toks) (fun b u q=>Heap.get?_push_of_some _ q) (Nat.le_refl _) ⟨_,e1⟩
 refine I1.laid (a:=s.heap.objs.size+1) (o:=.ins C s.heap.objs.size []) (t':=s.toks) (fun b u q=>Heap.get?_push_of_some _ q) (Nat.le_of_eq (Heap.size_push _ _)) ?_
 have ne:s.heap.objs.size≠s.heap.objs.size+1:=Nat.ne_of_lt (Nat.lt_succ_self _)
 refine⟨by rw[a7 ne,d5],Nat.zero_le _,ne,e2,fun _=>none,(Heap.Ns1.of_empty e3).at fun o q=>Heap.get?_push_of_some _ q,fun _=>True.intro,fun y hy=>absurd rfl hy⟩
end
section
variable {X:Cx}{pins:List (Addr×Obj)}{σ:St}{H:Hp}{s:Shared}{A:Around}{E:Value→Shared→Prop}{Q:Value→Shared→Prop}{c:Value}{b:Bool}
inductive TyOf(K:W.Frag)(H:Hp):V→Value→Prop where
 | non:TyOf K H .non (.type "NoneType")
 | bl (x:Bool):TyOf K H (.bl x) (.type "bool")
 | int (i:Int):TyOf K H (.int i) (.type "int")
 | str (x:Str):TyOf K H (.str x) (.type "str")
 | flt (x:UInt64):TyOf K H (.flt x) (.type "float")
 | lst {a:Addr} {xs:List V} (e:H a=some (.lst xs)):TyOf K H (.ref a) (.type "list")
 | frz {a:Addr} {o:Obj} {xs:List V} (e:H a=some (.frz o (.lst xs))):TyOf K H (.ref a) (.type "list")
 | tup {a:Addr} {xs:List V} (e:H a=some (.tup xs)):TyOf K H (.ref a) (.type "tuple")
 | dK {a:Addr} {kvs:List (M6×V)} (e:H a=some (.dK kvs)):TyOf K H (.ref a) (.type "dict")
 | dT {a:Addr} {kvs:List (List M6×V)} (e:H a=some (.dT kvs)):TyOf K H (.ref a) (.type "dict")
 | ins {a C dx:Addr} {fs:List (Str×V)} (e:H a=some (.ins C dx fs)) (cl:Cls K C) (ha:W.findIn K (.ref C) "__class__" = some (some (.builtin "object.__class__")))
   (hn:W.specialIn K (.builtin "object.__class__") "__get__" = some (some (.builtin "getset_descriptor.__get__"))) (htk:W.takesIn K (.builtin "object.__class__")=some true)
   (hm:W.mroIn K C (.type "object")=some true):TyOf K H (.ref a) (.ref C)
end
structure Room(k:Nat)(A:Around):Prop where
 hd:A.handled=none
 dp:A.depth+3*k+5<recursionLimit
 un:A.units+16*k+200<cLine
theorem Room.mono{j k:Nat}{A:Around}(r:Room k A)(h:j≤k):Room j A:=⟨r.hd,by have:=r.dp;omega,by have:=r.un;omega⟩
theorem Room.deeper{k:Nat}{A:Around}(r:Room (k+1) A)(env:Env):Room k (A.deeper env) :=
 ⟨r.hd,by have:=r.dp;show A.depth+1+3*k+5<_;omega,by have:=r.un;show A.units+3+16*k+200<_;omega⟩
theorem Room.in1{k:Nat}{A:Around}(r:Room (k+1) A):Room k A.in1 :=
 ⟨r.hd,by have:=r.dp;show A.depth+3*k+5<_;omega,by have:=r.un;show A.units+1+16*k+200<_;omega⟩
theorem Room.depth{k:Nat}{A:Around}(r:Room k A):A.depth<recursionLimit:=by have:=r.dp;omega
theorem Room.units{k:Nat}{A:Around}(r:Room k A):A.units+64<cLine:=by have:=r.un;omega
def L5:TA:=fun _ H Q=>Q [] H
def A3(ta:TE)(tr:TA):TA:=fun σ H Q=>ta σ H fun x H1=>tr σ H1 fun xs H2=>Q (x::xs) H2
section
variable {X:Cx}{e:Expr}{es:List Expr}{te:TE}{t:TA}{pos:Pos}
theorem c6:PA X [] L5:=fun _ _ _ _ H Q I h=>Calls.spliced_nil ⟨[],H,I,.nil,h⟩
theorem a6(ha:PE X e te)(hr:PA X es t)(hs:starEach (e::es) X.env=(false,eval e X.env)::starEach es X.env:=by rfl):PA X (e::es) (A3 te t):=by
 intro pos pins s σ H Q I h
 rw[hs]
 show wpAny _ _ (spliced ((false,eval e X.env)::backTo pos (starEach es X.env))) _ _ s
 refine Calls.spliced_cons (i2 (ha pins s σ H _ I h) fun u s1 ⟨x,H1,I1,r1,q1⟩=>?_)
 exact i2 (hr pos pins s1 σ H1 _ I1 q1) fun us s2 ⟨xs,H2,I2,r2,q2⟩=>⟨x::xs,H2,I2,.cons r1 r2,q2⟩
def a5u(t:TA):TE:=fun σ H Q=>t σ H fun xs H1=>xs.length≤sizeLine∧∀p,H1 p=none→Q (.ref p) (upd H1 p (.tup xs))
def b1g(t:TA):TE:=fun σ H Q=>t σ H fun xs H1=>xs.length≤sizeLine∧∀p,H1 p=none→Q (.ref p) (upd H1 p (.lst xs))
theorem L6{x1}(h:PA X es t):PE X (.Tuple es x1 pos) (a5u t):=by
 intro pins s σ H Q I hq
 refine wpAny_Tuple_spliced (i2 (h pos pins s σ H _ I hq) fun us s1 ⟨xs,H1,I1,r,z,q⟩=>⟨by rw[← r.length];exact z,?_⟩)
 have hf:H1 s1.heap.objs.size=none:=I1.hok.fresh (Nat.le_refl _)
 refine⟨.ref s1.heap.objs.size,upd H1 s1.heap.objs.size (.tup xs),I1.laid (t':=s1.toks) (fun b u e=>Heap.get?_push_of_some _ e) (Nat.le_refl _) ?_,rfl,q _ hf⟩
 exact⟨z,us,r,⟨_,Heap.get?_push_size _ rfl,rfl,_,rfl⟩⟩
theorem a0u(h:PA X es t):PE X (.List es pos) (b1g t):=by
 intro pins s σ H Q I hq
 refine wpAny_List_spliced (i2 (h pos pins s σ H _ I hq) fun us s1 ⟨xs,H1,I1,r,z,q⟩=>⟨by rw[← r.length];exact z,?_⟩)
 have hf:H1 s1.heap.objs.size=none:=I1.hok.fresh (Nat.le_refl _)
 refine⟨.ref s1.heap.objs.size,upd H1 s1.heap.objs.size (.lst xs),I1.laid (t':=s1.toks) (fun b u e=>Heap.get?_push_of_some _ e) (Nat.le_refl _) ?_,rfl,q _ hf⟩
 exact⟨z,us,0,r,Heap.get?_push_size _ rfl⟩
end
abbrev Sp:=List V→Hp→VK→XK→Prop
abbrev Q7:=List Env→Hp→Shared→XK→Value→Shared→Prop
structure Env0(P:Program)(w:World)(K:W.Frag)(mg:Str→Option Value)(base:Heap)(A:Around)(outer:List Env)(s:Shared)(H:Hp):Prop where
 frames:A.frames=some outer
 mod:Mod K mg base
 bs:∀b o,base.get? b=some o→s.heap.get? b=some o∧H b=none
 bsz:base.objs.size≤s.heap.objs.size
 funs:s.heap.FunFrames base outer
 frf:∀b∈B6 outer,H b=none
 hok:HOk P w H s.heap
 bare:AllBare s.gens
def CE(outer:List Env)(P:Program)(w:World)(H:Hp)(s:Shared)(Q:VK)(u:Value)(s':Shared):Prop :=
 ∃v H',s'.os=s.os∧AllBare s'.gens∧Un (B6 outer) [] H H' s.heap s'.heap∧HOk P w H' s'.heap∧RelV v u∧Q v H'
def CR(CX:Q7)(outer:List Env)(P:Program)(w:World)(H:Hp)(s:Shared)(Q:VK)(E:XK)(r:Result)(s':Shared):Prop :=
 match r with
 | .ok (.ret u)=>CE outer P w H s Q u s'
 | .ok _=>False
 | .error e=>CX outer H s E e s'
structure FnOk(P:Program)(w:World)(K:W.Frag)(mg:Str→Option Value)(base:Heap)(CX:Q7)(k:Nat)(f:Addr)(fd:FuncData)(ps:List Str)(sp:Sp):Prop where
 len:∀vs H Q E,sp vs H Q E→vs.length=ps.length
 run:∀(A:Around) (outer:List Env) (s:Shared) (H:Hp) (args:Args) (us:List Value) (vs:List V) (Q:VK) (E:XK),Room k A→Env0 P w K mg base A outer s H→BindsTo s fd args (ps.zip us)→Vals vs us→sp vs H Q E →
  codeAny (model P w) A (.call (.ref f) args) (CR CX outer P w H s Q E) s
theorem FnOk.mono{P:Program}{w:World}{K:W.Frag}{mg:Str→Option Value}{base:Heap}{CX:Q7}{j k:Nat}{f:Addr}{fd:FuncData}{ps:List Str}{sp:Sp}(F:FnOk P w K mg base CX j f fd ps sp)(h:j≤k) :
  FnOk P w K mg base CX k f fd ps sp:=⟨F.len,fun A outer s H args us vs Q E hr=>F.run A outer s H args us vs Q E (hr.mono h)⟩
theorem FnOk.imp{P:Program}{w:World}{K:W.Frag}{mg:Str→Option Value}{base:Heap}{CX:Q7}{k:Nat}{f:Addr}{fd:FuncData}{ps:List Str}{sp sp':Sp}(F:FnOk P w K mg base CX k f fd ps sp)
  (h:∀vs H Q E,sp' vs H Q E→sp vs H Q E):FnOk P w K mg base CX k f fd ps sp' :=
 ⟨fun vs H Q E q=>F.len vs H Q E (h _ _ _ _ q),fun A outer s H args us vs Q E hr he hb hv hs=>F.run A outer s H args us vs Q E hr he hb hv (h _ _ _ _ hs)⟩
theorem Env0.in1{P:Program}{w:World}{K:W.Frag}{mg:Str→Option Value}{base:Heap}{A:Around}{outer:List Env}{s:Shared}{H:Hp}(e:Env0 P w K mg base A outer s H) :
  Env0 P w K mg base A.in1 outer s H:=⟨e.frames,e.mod,e.bs,e.bsz,e.funs,e.frf,e.hok,e.bare⟩
section
variable {X:Cx}{pins:List (Addr×Obj)}{σ:St}{H:Hp}{s s':Shared}
theorem Inv.env0(I:Inv X pins σ H s):Env0 X.prog X.w X.K X.mg X.base X.A X.stack s H :=
 ⟨I.ok.frames,I.ok.mod,I.bs,Nat.le_trans I.ok.bsz I.sz,I.stack,I.stkFree,I.hok,I.bare⟩
theorem Inv.after{Q:VK}{u:Value}(I:Inv X pins σ H s)(h:CE X.stack X.prog X.w H s Q u s'):EP X pins σ Q u s':=by
 obtain⟨v,H',os,bare,un,hok,r,q⟩:=h
 obtain⟨hh,g,d,t,os'⟩:=s'
 obtain rfl:os'=s.os:=os
 exact⟨v,H',I.call (h':=hh) (g':=g) (d':=d) (t':=t) (ch:=[]) un hok bare (fun b z=>absurd z (by simp)),r,q⟩
end
def R8(sp:Sp)(dvs:List V)(E:XK)(t:TA):TE:=fun σ H Q=>t σ H fun vs H1=>sp (vs++dvs) H1 Q E
def Binds(K:W.Frag)(fd:FuncData)(ps:List Str)(ds:List Value):Prop :=
 ∀(s:Shared) (us:List Value),K.In s.heap→(us++ds).length=ps.length→BindsTo s fd ⟨us,[]⟩ (ps.zip (us++ds))
theorem Binds.all{K:W.Frag}{fd:FuncData}{ps:List Str}(h:∀us:List Value,us.length=ps.length→bindArgs fd ⟨us,[]⟩=pure (ps.zip us)):Binds K fd ps []:=fun s us _ hl=>by
 rw[List.append_nil]at hl ⊢
 exact .of_eq (h us hl)
def L7(CX:Q7)(X:Cx)(E:XK):Prop:=∀(pins:List (Addr×Obj)) (σ:St) (H:Hp) (s:Shared) (e:Value) (s':Shared),Inv X pins σ H s→CX X.stack H s E e s'→X.xe e s'
section
variable {X:Cx}{CX:Q7}{k:Nat}{f C:Addr}{fd:FuncData}{ps:List Str}{sp:Sp}{dvs:List V}{ds:List Value}{E:XK}{x m:Str}{p pos apos:Pos}{e o:Expr}{es:List Expr}{ta:TE}{t:TA}
theorem a6d{pins:List (Addr×Obj)}{σ:St}{H:Hp}{s:Shared}{Q:VK}{us:List Value}{vs:List V}(F:FnOk X.prog X.w X.K X.mg X.base CX k f fd ps sp)(hr:Room k X.A)(hb:Binds X.K fd ps ds)(hd:Vals dvs ds)(hx:L7 CX X E)
  (I:Inv X pins σ H s) (r:Vals vs us) (h:sp (vs++dvs) H Q E):wpAny (model X.prog X.w) X.A (call (.ref f) us) (EP X pins σ Q) X.xe s:=by
 have r2:Vals (vs++dvs) (us++ds):=r.append hd
 have hl:(us++ds).length=ps.length:=by rw[← r2.length];exact F.len _ _ _ _ h
 refine wpAny_call (codeAny_mono (F.run X.A X.stack s H ⟨us,[]⟩ (us++ds) (vs++dvs) Q E hr I.env0 (hb s us I.kIn hl) r2 h) fun r s' hq=>?_)
 cases r with
 | error e=>exact hx pins σ H s e s' I hq
 | ok fl =>
  cases fl with
  | ret u=>exact I.after hq
  | next=>exact False.elim hq
  | brk=>exact False.elim hq
  | cont=>exact False.elim hq
theorem a9f(F:FnOk X.prog X.w X.K X.mg X.base CX k f fd ps sp)(hr:Room k X.A)(hg:Gl X x)(hm:X.mg x=some (.ref f))(hk:W.keepIn X.K (.ref f)=true)(hb:Binds X.K fd ps ds)(hd:Vals dvs ds)(hx:L7 CX X E)
  (ha:PA X (e::es) t) (hdb:(x == ("__debug__" : Str))=false:=by decide) (he:starEach (e::es) X.env=(false,eval e X.env)::starEach es X.env:=by rfl) (hpl:(backTo pos (starEach es X.env)).any (·.1)=false:=by rfl) :
  PE X (.Call (.Name x p) (e::es) [] pos) (R8 sp dvs E t):=by
 intro pins s σ H Q I h
 refine wpAny_Call_Name_kw (a2k I hg hm ?_ hdb)
 refine W.callWith_K (h₀:=X.base) I.ok.mod.kin hk (i2 (ha pos pins s σ H _ I h) fun us s1 ⟨vs,H1,I1,r,q⟩=>⟨I1.kIn,?_⟩) he hpl
 exact a6d F hr hb hd hx I1 r q
end
def PK(X:Cx)(kws:List Keyword)(t:TA):Prop :=
 ∀(pos:Pos) (pins:List (Addr×Obj)) (s:Shared) (σ:St) (H:Hp) (Q:List V→Hp→Prop),Inv X pins σ H s→t σ H Q→wpAny (model X.prog X.w) X.A (evalAll ((backToKw pos (keywordEach kws X.env)).map (·.2))) (AP X pins σ Q) X.xe s
section
variable {X:Cx}{CX:Q7}{k:Nat}{f C:Addr}{fd:FuncData}{ps ks:List Str}{sp:Sp}{E:XK}{x m:Str}{p pos apos kpos:Pos}{e o:Expr}{es:List Expr}{kws:List Keyword}{te ta:TE}{t tk:TA}{nm:Option Str}
theorem a0v:PK X [] L5:=fun _ _ _ _ H Q I h=>wpAny_evalAll_nil ⟨[],H,I,.nil,h⟩
theorem X5(ha:PE X e te)(hr:PK X kws t):PK X (⟨nm,e,kpos⟩ :: kws) (A3 te t):=by
 intro pos pins s σ H Q I h
 show wpAny _ _ (evalAll ((do let v ← eval e X.env;standAt pos;pure v)::(backToKw pos (keywordEach kws X.env)).map (·.2))) _ _ s
 refine wpAny_evalAll_cons (wpAny_bind (i2 (ha pins s σ H _ I h) fun u s1 ⟨x,H1,I1,r1,q1⟩=>wpAny_bind (wpAny_standAt (wpAny_pure ?_))))
 exact i2 (hr pos pins s1 σ H1 _ I1 q1) fun us s2 ⟨xs,H2,I2,r2,q2⟩=>⟨x::xs,H2,I2,.cons r1 r2,q2⟩
variable {g:List Value→List Value→List Value}{gV:List V→List V→List V}
end
structure FnScope(N P:List Str)(sc:Scope):Prop where
 kind:sc.kind=.function
 co:sc.isCoroutine=false
 gen:sc.isGenerator=false
 nd:N.Nodup
 pre:N.take P.length=P
 par:∀x∈P,sc.names.lookup x=some .local∨sc.names.lookup x=some .cell
 nofree:∀y∈sc.names,y.2≠.free
theorem a2T{kindOf:Str→Option NameKind}{x:Str}:∀{binds:List (Str×Value)} {m:Str→Option Value},(∀v,(x,v) ∉ binds)→bindL kindOf binds m x=m x
 | [],_,_=>rfl
 | (n,v)::r,m,h=>by
  unfold bindL
  rw[a2T fun w hw=>h w (List.mem_cons_of_mem _ hw)]
  split
  ·have:x≠n:=by rintro rfl;exact h v List.mem_cons_self
   simp[this]
  ·rfl
theorem a2U{kindOf:Str→Option NameKind}{x:Str}:∀{binds:List (Str×Value)} {m:Str→Option Value},(∀v,(x,v) ∉ binds)→bindC kindOf binds m x=m x
 | [],_,_=>rfl
 | (n,v)::r,m,h=>by
  unfold bindC
  rw[a2U fun w hw=>h w (List.mem_cons_of_mem _ hw)]
  split
  ·rfl
  ·have:x≠n:=by rintro rfl;exact h v List.mem_cons_self
   simp[this]
theorem a2V{kindOf:Str→Option NameKind}{x:Str}{v:Value}:∀{P:List Str} {vs:List Value} {i:Nat} {m:Str→Option Value},P.Nodup→P[i]? = some x→vs[i]? = some v→kindOf x=some .local →
  bindL kindOf (P.zip vs) m x=some v
 | [],_,_,_,_,h,_,_=>by simp at h
 | _::_,[],_,_,_,_,h,_=>by simp at h
 | p::P,w::vs,0,m,nd,h1,h2,hk=>by
  simp at h1 h2;subst h1;subst h2
  show bindL kindOf ((p,w)::P.zip vs) m p=_
  unfold bindL
  rw[a2T fun v hv=>(List.nodup_cons.mp nd).1 (List.of_mem_zip hv).1,if_pos hk]
  simp
 | p::P,w::vs,i+1,m,nd,h1,h2,hk=>by
  show bindL kindOf ((p,w)::P.zip vs) m x=_
  unfold bindL
  exact a2V (i:=i) (List.nodup_cons.mp nd).2 (by simpa using h1) (by simpa using h2) hk
theorem a2W{kindOf:Str→Option NameKind}{x:Str}{v:Value}:∀{P:List Str} {vs:List Value} {i:Nat} {m:Str→Option Value},P.Nodup→P[i]? = some x→vs[i]? = some v→kindOf x≠some .local →
  bindC kindOf (P.zip vs) m x=some v
 | [],_,_,_,_,h,_,_=>by simp at h
 | _::_,[],_,_,_,_,h,_=>by simp at h
 | p::P,w::vs,0,m,nd,h1,h2,hk=>by
  simp at h1 h2;subst h1;subst h2
  show bindC kindOf ((p,w)::P.zip vs) m p=_
  unfold bindC
  rw[a2U fun v hv=>(List.nodup_cons.mp nd).1 (List.of_mem_zip hv).1,if_neg hk]
  simp
 | p::P,w::vs,i+1,m,nd,h1,h2,hk=>by
  show bindC kindOf ((p,w)::P.zip vs) m x=_
  unfold bindC
  exact a2W (i:=i) (List.nodup_cons.mp nd).2 (by simpa using h1) (by simpa using h2) hk
def start(N:List Str)(vs:List V):St:=vs.map some++List.replicate (N.length-vs.length) none
def L8(CX:Q7)(P:Program)(w:World)(K:W.Frag)(mg:Str→Option Value)(base:Heap)(N:List Str)(qual:Str)(scope:Scope)(f:Addr)(cd:Value)(A:Around)(outer:List Env)(s:Shared)(H:Hp)(E:XK):Cx where
 prog:=P
 w:=w
 K:=K
 mg:=mg
 base:=base
 A:=A.deeper (envOfC qual scope s.heap.objs.size f cd)
 N:=N
 s₀:=s
 H₀:=H
 env:=envOfC qual scope s.heap.objs.size f cd
 outer:=outer
 stack:=envOfC qual scope s.heap.objs.size f cd::outer
 ex:=[]
 calm:=true
 fn:=fun _=>true
 pn:=[]
 xe:=fun e s'=>wpAny (model P w) (A.deeper (envOfC qual scope s.heap.objs.size f cd)) (leaving (envOfC qual scope s.heap.objs.size f cd) e) (fun _ s''=>CX outer H s E e s'') (fun e' s''=>CX outer H s E e' s'') s'
theorem a3I{sc:Scope}{n:Nat}{x:Str}(h:sc.names.lookup x=some .cell):∃c,(cellsFrom n sc.names []).lookup x=some c:=by
 have q:=W.cellsFrom_some sc.names n [] (.inl h)
 exact Option.isSome_iff_exists.mp q
theorem a6e{CX:Q7}{P:Program}{w:World}{K:W.Frag}{mg:Str→Option Value}{base:Heap}{N ps:List Str}{qual:Str}{scope:Scope}{f:Addr}{cd:Value}{A:Around}{outer:List Env}{s s1:Shared}{H:Hp}{E:XK}{us:List Value}{vs:List V}
  (S:FnScope N ps scope) (hd:A.handled=none) (e0:Env0 P w K mg base A outer s H) (hl:vs.length=ps.length) (r:Vals vs us)
  (x:InCallC s s.heap.objs.size (bindL (envOfC qual scope s.heap.objs.size f cd).kindOf (ps.zip us) fun _=>none) (cellsFrom (s.heap.objs.size+1) scope.names []) (bindC (envOfC qual scope s.heap.objs.size f cd).kindOf (ps.zip us) fun _=>none) s1) :
  Inv (L8 CX P w K mg base N qual scope f cd A outer s H E) [] (start N vs) H s1:=by
 have hpl:ps.length≤N.length:=by have:=congrArg List.length S.pre;rw[List.length_take]at this;omega
 obtain⟨h1,tk,rfl,hk⟩:=x.done
 have noA:∀b:Addr,b ∉ (L8 CX P w K mg base N qual scope f cd A outer s H E).ex:=fun b z=>absurd (show b∈([]:List Addr)from z) (by simp)
 refine⟨⟨e0.mod,S.kind,rfl,rfl,Nat.le_refl _,fun y z c h1 h2=>?_,fun y hy=>?_,fun y c _ h=>?_,fun _=>hd,Around.frames_deeper e0.frames,.inr ⟨rfl,rfl⟩,fun b z=>absurd z (noA b),e0.bs,e0.bsz,fun b _ _=>noA b,fun b z=>absurd z (noA b),e0.funs,e0.frf⟩,
  rfl,e0.bare,Un.kept hk,⟨_,x.toInCall.ns,fun i y v h1 h2 h3=>?_⟩,fun y c h=>⟨_,x.cell y c h⟩,e0.hok.fresh (Nat.le_refl _),fun y c h=>?_,fun p hp=>absurd (show p∈([]:List (Addr×Obj))from hp) (by simp),e0.hok.kept hk,?_⟩
 ·exact name_of_addr x.apart (PySem.mem_of_lookup h1) (PySem.mem_of_lookup h2)
 ·have hy:scope.names.lookup y=some .cell∨scope.names.lookup y=some .free:=hy
  rcases hy with hy | hy
  ·exact a3I hy
  ·exact absurd rfl (S.nofree _ (PySem.mem_of_lookup hy))
 ·exact Nat.le_of_lt (x.above y c (PySem.mem_of_lookup h))
 ·have hi:i<vs.length:=by
   unfold start at h2
   by_cases hi:i<vs.length
   ·exact hi
   ·rw[List.getElem?_append_right (by simpa using hi)]at h2
    rw[List.getElem?_replicate]at h2
    split at h2<;>cases h2
  have ha:vs[i]? = some v:=by
   unfold start at h2
   rw[List.getElem?_append_left (by simpa using hi),List.getElem?_map]at h2
   cases e:vs[i]? with
   | none=>rw[e]at h2;cases h2
   | some a=>rw[e]at h2;cases h2;rfl
  obtain⟨u,hu,rv⟩:=r.get ha
  have hp:ps[i]? = some y:=by
   rw[← S.pre,List.getElem?_take_of_lt (by omega)];exact h1
  have ndP:ps.Nodup:=by rw[← S.pre];exact S.nd.sublist (List.take_sublist _ _)
  refine⟨u,rv,?_⟩
  rcases S.par y (List.mem_of_getElem? hp)with k | k
  ·exact .inl ⟨k,a2V ndP hp hu k⟩
  ·obtain⟨c,e⟩:=a3I (n:=s.heap.objs.size+1) k
   refine .inr ⟨.inl k,c,e,?_⟩
   have q:=x.cell y c e
   rw[a2W ndP hp hu (by show scope.names.lookup y≠_;rw[k];decide)]at q
   exact q
 ·exact e0.hok.fresh (Nat.le_of_lt (x.above y c (PySem.mem_of_lookup h)))
 ·unfold start
  show _=N.length
  rw[List.length_append,List.length_map,List.length_replicate]
  omega
theorem a1L{CX:Q7}{P:Program}{w:World}{K:W.Frag}{mg:Str→Option Value}{base:Heap}{k:Nat}{f:Addr}{name qual:Str}{params:Arguments}{body:List Stmt}{scope:Scope}{dV kV doc pm cdv ct oc:Value}{an od:Option Addr}
  {osl:Array (Option Value)} {N ps:List Str} {sp:Sp} (lk:K.lookup f=some ⟨oc,od,.func (W.fnOf name qual params body scope dV kV doc pm an cdv ct),osl⟩) (hcd:W.codeIn K cdv qual=true) (S:FnScope N ps scope)
  (len:∀vs H Q E,sp vs H Q E→vs.length=ps.length)
  (hbody:∀(A:Around) (outer:List Env) (s:Shared) (H:Hp) (vs:List V) (Q:VK) (E:XK),Room k (A.deeper (envOfC qual scope s.heap.objs.size f cdv))→sp vs H Q E →
   ∃t,PSs (L8 CX P w K mg base N qual scope f cdv A outer s H E) body t∧t { nx:=fun _ H'=>Q .non H',rt:=Q } (start N vs) H) :
  FnOk P w K mg base CX (k+1) f (W.fnOf name qual params body scope dV kV doc pm an cdv ct) ps sp:=by
 refine⟨len,fun A outer s H args us vs Q E hr e0 hb r hsp=>?_⟩
 have hl:=len _ _ _ _ hsp
 have KX:K.In s.heap:=e0.mod.kin.keeps fun b o e=>(e0.bs b o e).1
 have lim:s.heap.NoLimit:=e0.mod.nolimit.keeps fun b o e=>(e0.bs b o e).1
 have hkind:∀y∈ps.zip us,scope.names.lookup y.1=some .local∨(scope.names.lookup y.1=some .cell∧((cellsFrom (s.heap.objs.size+1) scope.names []).lookup y.1).isSome=true):=fun⟨n,v⟩ hy=>by
  rcases S.par n (List.of_mem_zip hy).1 with q | q
  ·exact .inl q
  ·exact .inr ⟨q,W.cellsFrom_some _ _ _ (.inl q)⟩
 refine codeAny_call_function hr.depth (KX _ _ lk) rfl S.co S.gen rfl (W.codeRec_of KX hcd) (hb _ _ _ _ ?_)
 refine wpAny_newFunctionEnv_cells S.kind hkind fun env he s1 x=>?_
 subst he
 refine⟨lim.keeps x.toInCall.keep,codeAny_func ?_⟩
 obtain⟨t,ht,hq⟩:=hbody A outer s H vs Q E (hr.deeper _) hsp
 have I:Inv (L8 CX P w K mg base N qual scope f cdv A outer s H E) [] (start N vs) H s1:=a6e S hr.hd e0 hl r x
 refine wpAny_mono (ht [] s1 (start N vs) H _ I hq) (fun fl s' hs=>?_) fun e s' hs=>hs
 have fin:∀{σ':St} {H':Hp} {v:V} {u:Value},Inv (L8 CX P w K mg base N qual scope f cdv A outer s H E) [] σ' H' s'→RelV v u→Q v H'→CE outer P w H s Q u s' :=
  fun{σ' H' v u} J rv q=>⟨v,H',J.os,J.bare,J.base,J.hok,rv,q⟩
 cases fl with
 | ret u =>
  obtain⟨v,σ',H',J,rv,q⟩:=hs
  exact fin J rv q
 | next =>
  obtain⟨σ',H',J,q⟩:=hs
  exact fin (v:=V.non) (u:=Value.none) J rfl q
 | brk =>
  obtain⟨_,_,_,q⟩:=hs
  exact False.elim q
 | cont =>
  obtain⟨_,_,_,q⟩:=hs
  exact False.elim q
section
variable {X:Cx}{x:Str}{p pos:Pos}{e:Expr}{es:List Expr}{t:TA}{id T:String}{r:List V→Hp→VK→Prop}
def tCB(r:List V→Hp→VK→Prop)(t:TA):TE:=fun σ H Q=>t σ H fun vs H1=>r vs H1 Q
theorem k6(hc:CallR X (.builtin id) r)(hg:Gl X x)(hm:X.mg x=none)(hv:bootBuiltins x=some (.builtin id))(ha:PA X (e::es) t)(hn:x≠"__name__" := by decide)(hdb:(x == ("__debug__" : Str))=false:=by decide)
  (he:starEach (e::es) X.env=(false,eval e X.env)::starEach es X.env:=by rfl) (hpl:(backTo pos (starEach es X.env)).any (·.1)=false:=by rfl):PE X (.Call (.Name x p) (e::es) [] pos) (tCB r t):=by
 intro pins s σ H Q I h
 refine wpAny_Call_Name_kw (T7 I hg hm hv ?_ hn hdb)
 exact PyProof.Rows.callWith_builtin1 (i2 (ha pos pins s σ H _ I h) fun us s1 ⟨vs,H1,I1,r1,q1⟩=>hc pins s1 σ H1 vs us Q I1 r1 q1) he hpl
theorem V8(hc:CallR X (.type T) r)(hg:Gl X x)(hm:X.mg x=none)(hv:bootBuiltins x=some (.type T))(ha:PA X (e::es) t)(hn:x≠"__name__" := by decide)(hdb:(x == ("__debug__" : Str))=false:=by decide)
  (he:starEach (e::es) X.env=(false,eval e X.env)::starEach es X.env:=by rfl) (hpl:(backTo pos (starEach es X.env)).any (·.1)=false:=by rfl):PE X (.Call (.Name x p) (e::es) [] pos) (tCB r t):=by
 intro pins s σ H Q I h
 refine wpAny_Call_Name_kw (T7 I hg hm hv ?_ hn hdb)
 exact PyProof.Rows.callWith_type1 (i2 (ha pos pins s σ H _ I h) fun us s1 ⟨vs,H1,I1,r1,q1⟩=>hc pins s1 σ H1 vs us Q I1 r1 q1) he hpl
end
end L2
namespace HT
open PySem PyProof.Rows
def lexLt:List Int→List Int→Bool
 | [],[]=>false
 | [],_::_=>true
 | _::_,[]=>false
 | x::xs,y::ys=>if x=y then lexLt xs ys else decide (x<y)
theorem lexLt_cons(x y:Int)(xs ys:List Int):lexLt (x::xs) (y::ys)=if x=y then lexLt xs ys else decide (x<y):=rfl
theorem a3e:lexLt [] []=false:=rfl
theorem a2m(y:Int)(ys:List Int):lexLt [] (y::ys)=true:=rfl
theorem a2n(x:Int)(xs:List Int):lexLt (x::xs) []=false:=rfl
theorem a7w(A:Around)(s:Shared)(a:Int)(t:Tok)(c:Int)(u:Tok):∃e,SeqAt.EqAt A s (.int a t) (.int c u) e∧(e=true↔a=c) :=
 ⟨(a == c),SeqAt.EqAt.int_int a t c u,by simp⟩
theorem a7x(A:Around)(s:Shared)(a:Int)(t:Tok)(c:Int)(u:Tok)(prog:Program)(w:World)(E:Value→Shared→Prop)(Q:Value→Shared→Prop)(h:Q (.bool (decide (a<c))) s) :
  wpAny (model prog w) A (richCompare .Lt (.int a t) (.int c u)) Q E s :=
 (PyProof.Rows.lt_int h:wpAny (model prog w) A (compareOp .Lt (.int a t) (.int c u)) Q E s)
section
open PySem.SeqAt
open PySem.AutoSeq1 (wpAny_loadPart')
open PySem.MeetsSeq PySem.MeetsSeq2 PySem.MeetsSeq3
theorem a3f(l b:Addr)(items items2:Array Value)(n n2:Nat)(dd dd2:Option Addr)(sl sl2:Array (Option Value))(ns ms:List Int)(hi:IntsAre items.toList ns)(hj:IntsAre items2.toList ms) :
  Meets (Builtin.«tuple.__lt__» ⟨[.ref l,.ref b],[]⟩)
   (fun _ R s=>s.heap.get? l=some { cls:=.type "tuple",dict:=dd,data:=.seq items n,slots:=sl }∧s.heap.get? b=some { cls:=.type "tuple",dict:=dd2,data:=.seq items2 n2,slots:=sl2 } ∧
    R (.ok (.ret (.bool (lexLt ns ms)))) s) :=
 .of_wp fun prog w A R s h=>by
  obtain⟨hp,g,d,tk,os⟩:=s;obtain⟨hl,hb,h⟩:=h
  have f2:=AutoSeq1.sub_tuple_tuple
  have z1:items.size=ns.length:=by rw[← hi.length];simp
  have z2:items2.size=ms.length:=by rw[← hj.length];simp
  wp_walk using wpAny_loadPart' hl,wpAny_loadPart' hb,wpAny_forIn_list _ (fun g9 b s'=>b.1=none∧s'=⟨hp,g,d,tk,os⟩∧∃(vs ws:List Value) (ns' ms':List Int),g9=vs.zip ws ∧
   IntsAre vs ns'∧IntsAre ws ms'∧ns'.length+items2.size=ms'.length+items.size∧R (.ok (.ret (.bool (lexLt ns' ms')))) ⟨hp,g,d,tk,os⟩) _
  case turn =>
   rintro⟨y,x⟩ g9 b s' ⟨hb',rfl,vs,ws,ns',ms',hz,hvi,hwi,hlen,hR⟩
   cases hvi with
   | nil=>rw[List.zip_nil_left]at hz;cases hz
   | cons a t hvi' =>
    cases hwi with
    | nil=>rw[List.zip_nil_right]at hz;cases hz
    | cons c u hwi' =>
     rw[List.zip_cons_cons]at hz
     injection hz with hyx hrest
     injection hyx with hy hx
     subst hy hx
     rw[lexLt_cons]at hR
     simp only[List.length_cons]at hlen
     obtain⟨e,he,hiff⟩:=a7w A.in1 ⟨hp,g,d,tk,os⟩ a t c u
     refine wpAny_bind (he prog w _ _ ?_)
     cases e with
     | true =>
      rw[if_pos (hiff.mp rfl)]at hR
      wp_walk
      exact⟨rfl,rfl,_,_,_,_,hrest,hvi',hwi',by omega,hR⟩
     | false =>
      rw[if_neg (fun q=>absurd (hiff.mpr q) Bool.false_ne_true)]at hR
      have hri:=a7x A.in1 ⟨hp,g,d,tk,os⟩ a t c u prog w
      wp_walk using hri
      exact⟨_,rfl,by simpa using hR⟩
  case fin =>
   rintro⟨b1,b2⟩ s' ⟨hb',rfl,vs,ws,ns',ms',hz,hvi,hwi,hlen,hR⟩
   simp only at hb'
   subst hb'
   have hv:lexLt ns' ms'=decide (items.size<items2.size):=by
    cases hvi with
    | nil =>
     cases hwi with
     | nil =>
      simp only[List.length_nil]at hlen
      rw[a3e]
      exact(decide_eq_false (by omega)).symm
     | cons c u hw =>
      simp only[List.length_nil,List.length_cons]at hlen
      rw[a2m]
      exact(decide_eq_true (by omega)).symm
    | cons a t hv =>
     cases hwi with
     | nil =>
      simp only[List.length_nil,List.length_cons]at hlen
      rw[a2n]
      exact(decide_eq_false (by omega)).symm
     | cons c u hw =>
      rw[List.zip_cons_cons]at hz
      cases hz
   rw[hv]at hR
   wp_walk
   exact⟨_,rfl,by simpa [Builtin.Tuple.tupleCompareSizes]using hR⟩
  case h =>
   exact⟨rfl,rfl,items.toList,items2.toList,ns,ms,rfl,hi,hj,by omega,h⟩
end
section
variable {prog:Program}{w:World}{A:Around}{E:Value→Shared→Prop}{s:Shared}
theorem lt_tupInts{l b:Addr}{items items2:Array Value}{ns ms:List Int}{Q:Value→Shared→Prop}(hl:IsTup s.heap l items)(hb:IsTup s.heap b items2)(hi:IntsAre items.toList ns)(hj:IntsAre items2.toList ms)
  (hu:A.units<cLine) (h:Q (.bool (lexLt ns ms)) s):wpAny (model prog w) A (compareOp .Lt (.ref l) (.ref b)) Q E s:=by
 obtain⟨⟨cls,dd,data,sl⟩,ho,hc,n,hd⟩:=id hl
 obtain⟨⟨cls2,dd2,data2,sl2⟩,ho2,hc2,n2,hd2⟩:=id hb
 simp only at hc hd hc2 hd2
 subst hc hd hc2 hd2
 exact richCompare_meets_room (op:=.Lt) ⟨_,ho,rfl⟩ ⟨_,ho2,rfl⟩ PySem.F.slot_tuple_lt PySem.F.entry_tuple_lt (PySem.F.args_tuple_lt_2 _ _) (a3f l b items items2 n n2 dd dd2 sl sl2 ns ms hi hj)
  ⟨ho,ho2,show Value.bool (lexLt ns ms)≠Value.notImplemented∧Q (.bool (lexLt ns ms)) s from⟨(fun x=>nomatch x),h⟩⟩ hu
def sIx(n d:Nat):Option Int→Nat
 | none=>d
 | some v=>if v<0 then(v+(n:Int)).toNat else min v.toNat n
theorem sIx_nat(n d k:Nat):sIx n d (some (k:Int))=min k n:=by
 show(if(k:Int)<0 then((k:Int)+(n:Int)).toNat else min (k:Int).toNat n)=min k n
 rw[if_neg (by omega),Int.toNat_natCast]
end
end HT
namespace L2
open PySem PySem.Spec PyProof.Rows
abbrev TO:=St→Hp→(Option Int→Hp→Prop)→Prop
def PO(X:Cx)(e:Option Expr)(t:TO):Prop :=
 ∀(pins:List (Addr×Obj)) (s:Shared) (σ:St) (H:Hp) (Q:Option Int→Hp→Prop),Inv X pins σ H s→t σ H Q →
  wpAny (model X.prog X.w) X.A (evalPart e X.env) (fun u s'=>∃o H',Inv X pins σ H' s'∧IsPart u o∧Q o H') X.xe s
def a8R(t:TE):TO:=fun σ H Q=>t σ H fun x H1=>∃i,x=.int i∧Q (some i) H1
theorem a5v{ns:List Int}:∀{us:List Value},Vals (ns.map V.int) us→IntsAre us ns:=by
 induction ns with
 | nil=>intro us r;rw[List.map_nil]at r;cases r;exact .nil
 | cons n ns ih =>
  intro us r
  rw[List.map_cons]at r
  cases r with
  | cons r1 r2 =>
   obtain⟨t,e⟩:=r1
   subst e
   exact .cons n t (ih r2)
section
variable {X:Cx}{e:Expr}{te:TE}{lo hi:Option Expr}{tl th:TO}{pos p2:Pos}
theorem a0U(h:PE X e te):PO X (some e) (a8R te):=by
 intro pins s σ H Q I hw
 rw[evalPart_some]
 refine i2 (h pins s σ H _ I hw) fun u s1 ⟨x,H1,I1,r1,q1⟩=>?_
 obtain⟨i,rfl,q⟩:=q1
 obtain⟨t,rfl⟩:=r1
 exact⟨some i,H1,I1,.int i t,q⟩
def SlR(X:Cx)(r:V→Option Int→Option Int→Hp→VK→Prop):Prop :=
 ∀(pins:List (Addr×Obj)) (s:Shared) (σ:St) (H:Hp) (x:V) (v vl vu:Value) (lo hi:Option Int) (sl:Addr) (Q:VK),Inv X pins σ H s→RelV x v→s.heap.IsSliceOf sl vl vu .none→IsPart vl lo→IsPart vu hi→r x lo hi H Q →
  ∃T id,typeLookup (.type T) "__getitem__" = pure (some (.builtin id))∧s.TypeIs v T∧wpAny (model X.prog X.w) X.A (getItem v (.ref sl)) (EP X pins σ Q) X.xe s
theorem SlR.or{r r':V→Option Int→Option Int→Hp→VK→Prop}(h:SlR X r)(h':SlR X r'):SlR X (fun x lo hi H Q=>r x lo hi H Q∨r' x lo hi H Q):=by
 intro pins s σ H x v vl vu lo hi sl Q I rx hs pl pu q
 rcases q with q | q
 ·exact h pins s σ H x v vl vu lo hi sl Q I rx hs pl pu q
 ·exact h' pins s σ H x v vl vu lo hi sl Q I rx hs pl pu q
def tSl(r:V→Option Int→Option Int→Hp→VK→Prop)(te:TE)(tl th:TO):TE:=fun σ H Q=>te σ H fun x H1=>tl σ H1 fun l H2=>th σ H2 fun u H3=>r x l u H3 Q
theorem a3J{r:V→Option Int→Option Int→Hp→VK→Prop}(hr:SlR X r)(he:PE X e te)(hl:PO X lo tl)(hu:PO X hi th):PE X (.Subscript e (.Slice lo hi none p2) pos) (tSl r te tl th):=by
 intro pins s σ H Q I h
 refine Subscript_ (i2 (he pins s σ H _ I h) fun v s1 ⟨x,H1,I1,r1,q1⟩=>?_)
 refine wpAny_Slice (i2 (hl pins s1 σ H1 _ I1 q1) fun vl s2 ⟨l,H2,I2,pl,q2⟩=>i2 (hu pins s2 σ H2 _ I2 q2) fun vu s3 ⟨u,H3,I3,pu,q3⟩=>?_)
 rw[evalPart_none]
 refine wpAny_pure ?_
 have I4:Inv X pins σ H3 { s3 with heap:=s3.heap.push { cls:=.type "slice",data:=.fields #[vl,vu,.none] } }:=I3.kept (t':=s3.toks) fun b ob q=>Heap.get?_push_of_some _ q
 obtain⟨T,id,hT,ht,hg⟩:=hr pins { s3 with heap:=s3.heap.push { cls:=.type "slice",data:=.fields #[vl,vu,.none] } } σ H3 x v vl vu l u s3.heap.objs.size Q I4 r1 (Heap.IsSliceOf.new ..) pl pu q3
 show wpAny (model X.prog X.w) X.A (subscriptTail e (.Slice lo hi none p2) v (.ref s3.heap.objs.size)) (EP X pins σ Q) X.xe { s3 with heap:=s3.heap.push { cls:=.type "slice",data:=.fields #[vl,vu,.none] } }
 exact tail_any (ops:=[.ref s3.heap.objs.size,v]) ht hT hg (by with_unfolding_all rfl)
def a2o(xs:List V)(lo hi:Option Int):List V:=(xs.drop (HT.sIx xs.length 0 lo)).take (HT.sIx xs.length xs.length hi-HT.sIx xs.length 0 lo)
theorem a4y(xs:List V)(lo hi:Option Int):(a2o xs lo hi).length≤xs.length:=by
 unfold a2o
 rw[List.length_take,List.length_drop]
 omega
end
def G1(n:Nat)(i:Int):Option Nat:=if 0≤i then(if i<n then some i.toNat else none)else if -(n:Int)≤i then some (i+n).toNat else none
def atI{α:Type}(xs:List α)(i:Int):Option α:=(G1 xs.length i).bind fun j=>xs[j]?
theorem a4W{n:Nat}{i:Int}{j:Nat}(h:G1 n i=some j):seqIndex? i n=some j∧j<n∧-(n:Int)≤i∧i<n:=by
 unfold G1 at h
 by_cases h0:0≤i
 ·rw[if_pos h0]at h
  by_cases h1:i<n
  ·rw[if_pos h1]at h
   have e:i.toNat=j:=Option.some.inj h
   exact⟨by rw[seqIndex_of h0 h1,e],by omega,by omega,h1⟩
  ·rw[if_neg h1]at h;cases h
 ·rw[if_neg h0]at h
  by_cases h1 : -(n:Int)≤i
  ·rw[if_pos h1]at h
   have e:(i+n).toNat=j:=Option.some.inj h
   exact⟨by rw[seqIndex_neg (by omega) h1,e],by omega,h1,by omega⟩
  ·rw[if_neg h1]at h;cases h
theorem a2p{α:Type}{xs:List α}{i:Int}{v:α}(h:atI xs i=some v):∃j,seqIndex? i xs.length=some j∧xs[j]? = some v∧j<xs.length∧-(xs.length:Int)≤i∧i<xs.length:=by
 unfold atI at h
 cases e:G1 xs.length i with
 | none=>rw[e]at h;cases h
 | some j =>
  rw[e]at h
  obtain⟨h1,h2,h3,h4⟩:=a4W e
  exact⟨j,h1,h,h2,h3,h4⟩
theorem a0V{α:Type}{xs:List α}{j:Nat}{v:α}(h:xs[j]? = some v):atI xs (j:Int)=some v:=by
 have hj:j<xs.length:=(List.getElem?_eq_some_iff.mp h).1
 have e:G1 xs.length (j:Int)=some j:=by
  unfold G1
  rw[if_pos (by omega),if_pos (by omega)];simp
 unfold atI;rw[e];exact h
def a9g(b:Expr):Prop:=∀o i,subscripted b false o i=operate [o,i] (getItem o i)
def IxR(X:Cx)(r:R2):Prop :=
 ∀(value slice:Expr) (pins:List (Addr×Obj)) (s:Shared) (σ:St) (H:Hp) (x y:V) (v u:Value) (Q:VK),Inv X pins σ H s→RelV x v→RelV y u→r x y H Q →
  subscripted slice false v u=operate [v,u] (getItem v u)→wpAny (model X.prog X.w) X.A (subscriptTail value slice v u) (EP X pins σ Q) X.xe s
def MtR(X:Cx)(id:String)(r:V→List V→Hp→VK→Prop):Prop :=
 ∀(pins:List (Addr×Obj)) (s:Shared) (σ:St) (H:Hp) (x:V) (xs:List V) (v:Value) (us:List Value) (Q:VK),Inv X pins σ H s→RelV x v→Vals xs us→r x xs H Q →
  wpAny (model X.prog X.w) X.A (call (.builtin id) (v::us)) (EP X pins σ Q) X.xe s
section
variable {X:Cx}{a b:Expr}{ta tb:TE}{pos:Pos}
theorem IxR.or{r r':R2}(h:IxR X r)(h':IxR X r'):IxR X (fun x y H Q=>r x y H Q∨r' x y H Q):=by
 intro value slice pins s σ H x y v u Q I rx ry q hs
 rcases q with q | q
 ·exact h value slice pins s σ H x y v u Q I rx ry q hs
 ·exact h' value slice pins s σ H x y v u Q I rx ry q hs
theorem MtR.or{id:String}{r r':V→List V→Hp→VK→Prop}(h:MtR X id r)(h':MtR X id r'):MtR X id (fun x xs H Q=>r x xs H Q∨r' x xs H Q):=by
 intro pins s σ H x xs v us Q I rx rs q
 rcases q with q | q
 ·exact h pins s σ H x xs v us Q I rx rs q
 ·exact h' pins s σ H x xs v us Q I rx rs q
theorem h9{r:R2}(hr:IxR X r)(ha:PE X a ta)(hb:PE X b tb)(hs:a9g b):PE X (.Subscript a b pos) (tOp r ta tb):=by
 intro pins s σ H Q I h
 exact Subscript_ (a7u ha hb I h fun v u s2 x y H2 I2 rx ry q=>hr a b pins s2 σ H2 x y v u Q I2 rx ry q (hs _ _))
def a3K(K:W.Frag):R2:=fun x y H Q=>∃p xs i v,x=.ref p∧y=.int i∧SqL K H p xs∧atI xs i=some v∧Q v H
def a2q(K:W.Frag):R2:=fun x y H Q=>∃p xs i v,x=.ref p∧y=.int i∧SqT K H p xs∧atI xs i=some v∧Q v H
theorem a9h:IxR X (a3K X.K):=by
 intro value slice pins s σ H x y v u Q I rx ry h hs
 obtain⟨p,xs,i,z,rfl,rfl,hq,he,q⟩:=h
 cases rx
 obtain⟨t,rfl⟩:=ry
 obtain⟨its,r,pl,hz⟩:=I.list hq
 obtain⟨j,h1,h2,h3,h4,h5⟩:=a2p he
 obtain⟨w,ew,rw'⟩:=r.get h2
 have hl:=r.length
 have hn:=a0t
 have fin:EP X pins σ Q w s:=⟨z,H,I,rw',q⟩
 by_cases h0:0≤i
 ·have hj:i.toNat=j:=by
   rw[seqIndex_of h0 h5]at h1
   exact Option.some.inj h1
  exact item_listR pl.isList h0 (by omega) (by rw[hj];simpa using ew) fin hs
 ·have hj:(i+(its.toArray.size:Int)).toNat=j:=by
   rw[seqIndex_neg (by omega) h4]at h1
   rw[List.size_toArray,← hl]
   exact Option.some.inj h1
  exact subscriptTail_builtinR (x:=w) pl.isList.typeIs slot_list_getitem.lookup
   (wpAny_getItem_list_neg (Q:=fun r s'=>r=w∧EP X pins σ Q r s') pl.isList (by omega) (by rw[List.size_toArray]<;>omega) (by omega) (by rw[hj];simpa using ew) ⟨rfl,fin⟩) hs
theorem b1h:IxR X (a2q X.K):=by
 intro value slice pins s σ H x y v u Q I rx ry h hs
 obtain⟨p,xs,i,z,rfl,rfl,hq,he,q⟩:=h
 cases rx
 obtain⟨t,rfl⟩:=ry
 obtain⟨its,r,pl,hz⟩:=I.tuple hq
 obtain⟨j,h1,h2,h3,h4,h5⟩:=a2p he
 obtain⟨w,ew,rw'⟩:=r.get h2
 have hl:=r.length
 have hn:=a0t
 have fin:EP X pins σ Q w s:=⟨z,H,I,rw',q⟩
 exact subscriptTail_builtinR (x:=w) pl.typeIs slot_tuple_getitem.lookup
  (getItem_tuple (j:=j) (Q:=fun r s'=>r=w∧EP X pins σ Q r s') pl (by omega) (by omega) (by rw[List.size_toArray,← hl];exact h1) (by simpa using ew) ⟨rfl,fin⟩) hs
theorem a5w(its:List Value)(n j:Nat)(u:Value):Obj.mapSeq (·.setIfInBounds j u) { cls:=.type "list",data:=.seq its.toArray n }={ cls:=.type "list",data:=.seq (its.set j u).toArray n }:=by
 simp[Obj.mapSeq]
theorem Inv.lst{pins:List (Addr×Obj)}{σ:St}{H:Hp}{s:Shared}{p:Addr}{xs:List V}(I:Inv X pins σ H s)(h:H p=some (.lst xs)) :
  ∃(its:List Value) (n:Nat),Vals xs its∧s.heap.get? p=some { cls:=.type "list",data:=.seq its.toArray n }∧xs.length≤sizeLine:=by
 obtain⟨z,its,n,r,e⟩:=I.hok p _ h
 exact⟨its,n,r,e,z⟩
theorem Inv.lstUpd{pins:List (Addr×Obj)}{σ:St}{H:Hp}{s:Shared}{p:Addr}{xs ys:List V}{its its':List Value}{n n':Nat}{f:Obj→Obj}(I:Inv X pins σ H s)(h:H p=some (.lst xs))
  (ho:s.heap.get? p=some { cls:=.type "list",data:=.seq its.toArray n }) (hf:f { cls:=.type "list",data:=.seq its.toArray n }={ cls:=.type "list",data:=.seq its'.toArray n' }) (r:Vals ys its') (hz:ys.length≤sizeLine) (t:Nat) :
  Inv X pins σ (upd H p (.lst ys)) { s with heap:=s.heap.update p f,toks:=t }:=by
 have e:(s.heap.update p f).get? p=some { cls:=.type "list",data:=.seq its'.toArray n' }:=by
  rw[Heap.get?_update_self f ho (by rw[hf]<;>rfl),hf]
 refine I.write (x:=p) (e:=p) (by rw[h];trivial) (.inl rfl) (fun b u hb q=>(Heap.get?_update_other _ _ (Ne.symm hb)).trans q) ⟨_,e⟩ ?_
 exact⟨hz,its',n',r,e⟩
def a5x:V→V→V→Hp→(Hp→Prop)→Prop:=fun o i v H Q=>∃p xs k j,o=.ref p∧i=.int k∧H p=some (.lst xs)∧G1 xs.length k=some j∧Q (upd H p (.lst (xs.set j v)))
theorem a3L:a7q X a5x:=by
 intro pins s σ H o i v ov iv u Q I ro ri rv h
 obtain⟨p,xs,k,j,rfl,rfl,hp,hj,q⟩:=h
 cases ro
 obtain⟨t,rfl⟩:=ri
 obtain⟨its,n,r,ho,hz⟩:=I.lst hp
 obtain⟨h1,h2,h3,h4⟩:=a4W hj
 have hl:=r.length
 have hn:=a0t
 have I':Inv X pins σ (upd H p (.lst (xs.set j v))) { s with heap:=s.heap.update p (Obj.mapSeq (·.setIfInBounds j u)) } :=
  I.lstUpd hp ho (a5w its n j u) (r.set rv j) (by rw[List.length_set];exact hz) s.toks
 by_cases h0:0≤k
 ·have hk:k.toNat=j:=by
   rw[seqIndex_of h0 h4]at h1
   exact Option.some.inj h1
  exact W.ki_setAt ho h0 (by omega) (by rw[List.size_toArray,← hl];exact h4) (by rw[hk];exact⟨_,I',q⟩)
 ·have hk:(k+(its.toArray.size:Int)).toNat=j:=by
   rw[seqIndex_neg (by omega) h3]at h1
   rw[List.size_toArray,← hl]
   exact Option.some.inj h1
  exact W.ki_setBack ho (by omega) (by rw[List.size_toArray,← hl];exact h3) (by omega) (by rw[hk];exact⟨_,I',q⟩)
theorem a3M(lo hi:Option Int)(n:Nat):(sliceBounds lo hi none n).1=((HT.sIx n 0 lo:Nat):Int)∧(sliceBounds lo hi none n).2.1=((HT.sIx n n hi:Nat):Int)∧(sliceBounds lo hi none n).2.2=1:=by
 refine⟨?_,?_,rfl⟩
 ·cases lo with
  | none=>simp[sliceBounds,HT.sIx]
  | some i =>
   simp only[sliceBounds,HT.sIx,Option.getD_none,show(1:Int) > 0 by decide,if_true]
   by_cases h:i<0
   ·simp only[h,if_true]<;>omega
   ·simp only[h,if_false]<;>omega
 ·cases hi with
  | none=>simp[sliceBounds,HT.sIx]
  | some i =>
   simp only[sliceBounds,HT.sIx,Option.getD_none,show(1:Int) > 0 by decide,if_true]
   by_cases h:i<0
   ·simp only[h,if_true]<;>omega
   ·simp only[h,if_false]<;>omega
theorem a3g(its:List Value)(lo hi:Option Int):slicePick its.toArray lo hi none=((its.drop (HT.sIx its.length 0 lo)).take (HT.sIx its.length its.length hi-HT.sIx its.length 0 lo)).toArray:=by
 obtain⟨h1,h2,h3⟩:=a3M lo hi its.toArray.size
 unfold slicePick
 rw[h1,h2,h3]
 simp only[sliceRange_one,pick_run,List.size_toArray]<;>rfl
def a7y(K:W.Frag):V→Option Int→Option Int→Hp→VK→Prop:=fun x lo hi H Q=>∃a xs,x=.ref a∧SqL K H a xs∧∀p,H p=none→Q (.ref p) (upd H p (.lst (a2o xs lo hi)))
theorem a9i:SlR X (a7y X.K):=by
 intro pins s σ H x v vl vu lo hi sl Q I rx hs pl pu h
 obtain⟨a,xs,rfl,hx,q⟩:=h
 cases rx
 obtain⟨its,r,ht,hz⟩:=I.list hx
 have hlen:=r.length
 refine⟨"list",_,slot_list_getitem.lookup,ht.isList.typeIs,?_⟩
 refine wpAny_getItem_list_slice ht.isList hs pl pu .none (by simp) ?_ (by rw[List.size_toArray]<;>omega)
 rw[a3g,← hlen]
 refine⟨.ref s.heap.objs.size,_,I.laid (t':=s.toks) (o:=.lst (a2o xs lo hi)) (fun b ob q=>Heap.get?_push_of_some _ q) (Nat.le_refl _) ?_,rfl,q _ (I.hok.fresh (Nat.le_refl _))⟩
 exact⟨Nat.le_trans (a4y xs lo hi) hz,_,0,(r.drop (HT.sIx xs.length 0 lo)).take (HT.sIx xs.length xs.length hi-HT.sIx xs.length 0 lo),Heap.get?_push_size _ rfl⟩
def a3p:V→Bool
 | .non=>true
 | .bl _=>true
 | .int _=>true
 | .str _=>true
 | _=>false
def eqV:V→V→Bool
 | .non,.non=>true
 | .bl a,.bl b=>a == b
 | .bl a,.int b=>(if a then 1 else 0) == b
 | .int a,.bl b=>a == (if b then 1 else 0)
 | .int a,.int b=>a == b
 | .str a,.str b=>a == b
 | _,_=>false
theorem b1j{A:Around}{s:Shared}{y x:V}{u v:Value}(ry:RelV y u)(rx:RelV x v)(fy:a3p y=true)(fx:a3p x=true):SeqAt.EqAt A s u v (eqV y x):=by
 cases y with
 | non =>
  cases ry
  cases x with
  | non=>cases rx;exact SeqAt.EqAt.same _
  | bl b=>cases rx;exact SeqAt.EqAt.none_bool b
  | int b=>obtain⟨t,rfl⟩:=rx;exact SeqAt.EqAt.none_int b t
  | str b=>obtain⟨t,rfl⟩:=rx;exact SeqAt.EqAt.none_str b t
  | _=>exact absurd (show false=true from fx) Bool.false_ne_true
 | bl a =>
  cases ry
  cases x with
  | non=>cases rx;exact SeqAt.EqAt.bool_none a
  | bl b=>cases rx;exact SeqAt.EqAt.bool_bool a b
  | int b=>obtain⟨t,rfl⟩:=rx;exact SeqAt.EqAt.bool_int a b t
  | str b=>obtain⟨t,rfl⟩:=rx;exact SeqAt.EqAt.bool_str a b t
  | _=>exact absurd (show false=true from fx) Bool.false_ne_true
 | int a =>
  obtain⟨t',rfl⟩:=ry
  cases x with
  | non=>cases rx;exact SeqAt.EqAt.int_none a t'
  | bl b=>cases rx;exact SeqAt.EqAt.int_bool a t' b
  | int b=>obtain⟨t,rfl⟩:=rx;exact SeqAt.EqAt.int_int a t' b t
  | str b=>obtain⟨t,rfl⟩:=rx;exact SeqAt.EqAt.int_str a t' b t
  | _=>exact absurd (show false=true from fx) Bool.false_ne_true
 | str a =>
  obtain⟨t',rfl⟩:=ry
  cases x with
  | non=>cases rx;exact SeqAt.EqAt.str_none a t'
  | bl b=>cases rx;exact SeqAt.EqAt.str_bool a t' b
  | int b=>obtain⟨t,rfl⟩:=rx;exact SeqAt.EqAt.str_int a t' b t
  | str b=>obtain⟨t,rfl⟩:=rx;exact SeqAt.EqAt.str_str a t' b t
  | _=>exact absurd (show false=true from fx) Bool.false_ne_true
 | _=>exact absurd (show false=true from fy) Bool.false_ne_true
theorem a3N:CallR X (.builtin "len") (fun xs H Q=>∃p ys,xs=[.ref p]∧(SqL X.K H p ys∨SqT X.K H p ys)∧Q (.int ys.length) H):=by
 intro pins s σ H xs us Q I r h
 obtain⟨p,ys,rfl,hq,q⟩:=h
 obtain⟨u,rfl,rx⟩:=a8Q r
 cases rx
 have hn:=a0t
 rcases hq with hq | hq
 ·obtain⟨its,r',pl,hz⟩:=I.list hq
  have hlen:=r'.length
  exact Calls.call_len_list pl.isList (by simp only[List.size_toArray]<;>omega) ⟨.int ys.length,H,I.tok _,⟨s.toks+1,by rw[List.size_toArray,hlen]⟩,q⟩
 ·obtain⟨its,r',pl,hz⟩:=I.tuple hq
  have hlen:=r'.length
  exact len_tuple pl (by simp only[List.size_toArray]<;>omega) ⟨.int ys.length,H,I.tok _,⟨s.toks+1,by rw[List.size_toArray,hlen]⟩,q⟩
theorem CallR.or{f:Value}{r r':List V→Hp→VK→Prop}(h:CallR X f r)(h':CallR X f r'):CallR X f (fun xs H Q=>r xs H Q∨r' xs H Q):=by
 intro pins s σ H xs us Q I rs q
 rcases q with q | q
 ·exact h pins s σ H xs us Q I rs q
 ·exact h' pins s σ H xs us Q I rs q
theorem a3O:CallR X (.type "list") (fun xs H Q=>∃p ys,xs=[.ref p]∧(SqL X.K H p ys∨SqT X.K H p ys)∧∀l,H l=none→Q (.ref l) (upd H l (.lst ys))):=by
 intro pins s σ H xs us Q I r h
 obtain⟨p,ys,rfl,hq,q⟩:=h
 obtain⟨u,rfl,rx⟩:=a8Q r
 cases rx
 have fin:∀(its:List Value),Vals ys its→ys.length≤sizeLine→∀(h':Heap) (c':Nat),(∀b o',s.heap.get? b=some o'→h'.get? b=some o') →
   h'.get? s.heap.objs.size=some { cls:=.type "list",dict:=none,data:=.seq its.toArray c',slots := #[] }→EP X pins σ Q (.ref s.heap.objs.size) { s with heap:=h' }:=fun its r' hz h' c' kp e =>
  ⟨.ref s.heap.objs.size,_,I.laid (t':=s.toks) kp (Nat.le_refl _) (show ObjOk X.prog X.w _ h' _ (.lst ys)from⟨hz,its,c',r',e⟩),rfl,q _ (I.hok.fresh (Nat.le_refl _))⟩
 rcases hq with hq | hq
 ·obtain⟨its,r',pl,hz⟩:=I.list hq
  have hlen:=r'.length
  obtain⟨o,ho,hc,n,hd⟩:=pl.isList
  exact call_list_seq p (.inl rfl) ho hc hd (fun h' c' kp e=>fin its r' hz h' c' kp e) (by simp only[List.size_toArray]<;>omega)
 ·obtain⟨its,r',pl,hz⟩:=I.tuple hq
  have hlen:=r'.length
  obtain⟨o,ho,hc,n,hd⟩:=pl
  exact call_list_seq p (.inr rfl) ho hc hd (fun h' c' kp e=>fin its r' hz h' c' kp e) (by simp only[List.size_toArray]<;>omega)
def tyV(K:W.Frag)(T:String)(x:V)(H:Hp):Prop:=match x with
 | .str _=>T = "str"
 | .int _=>T = "int"
 | .ref p=>(T = "list"∧∃xs,SqL K H p xs)∨(T = "tuple"∧∃o,K.lookup p=some o∧o.cls=.type "tuple"∧o.dict=none) ∨
   (T = "dict"∧((∃kvs,H p=some (.dK kvs))∨∃kvs,H p=some (.dT kvs)))∨(T = "set"∧∃S n,H p=some (.set S n))
 | _=>False
theorem b1l{pins:List (Addr×Obj)}{σ:St}{H:Hp}{s:Shared}{T:String}{x:V}{v:Value}(I:Inv X pins σ H s)(r:RelV x v)(ty:tyV X.K T x H) :
  s.TypeIs v T∧∀a,v=.ref a→∃ob,s.heap.get? a=some ob∧ob.dict=none:=by
 cases x with
 | str z =>
  obtain⟨t,rfl⟩:=r
  cases (show T = "str" from ty)
  exact⟨typeIs_str s z t,fun _ e=>nomatch e⟩
 | int i =>
  obtain⟨t,rfl⟩:=r
  cases (show T = "int" from ty)
  exact⟨typeIs_int s i t,fun _ e=>nomatch e⟩
 | ref p =>
  cases r
  rcases ty with⟨rfl,xs,hq⟩ | ⟨rfl,o,hk,hc,hd⟩ | ⟨rfl,hk⟩ | ⟨rfl,S,n,hk⟩
  ·obtain⟨its,_,pl,_⟩:=I.list hq
   refine⟨pl.isList.typeIs,fun a e=>?_⟩
   cases e
   obtain⟨o,n,e,c,hd,_⟩:=pl
   exact⟨o,e,hd⟩
  ·refine⟨⟨o,I.kIn p o hk,hc⟩,fun a e=>?_⟩
   cases e
   exact⟨o,I.kIn _ o hk,hd⟩
  ·have z:∃o,s.heap.get? p=some o∧o.ExactDict:=by
    rcases hk with⟨kvs,hk⟩ | ⟨kvs,hk⟩
    ·obtain⟨_,_,_,_,o,_,_,e,ex,_⟩:=I.hok p _ hk
     exact⟨o,e,ex⟩
    ·obtain⟨_,_,_,_,o,_,_,e,ex,_⟩:=I.hok p _ hk
     exact⟨o,e,ex⟩
   obtain⟨o,e,ex⟩:=z
   refine⟨⟨o,e,ex.1⟩,fun a e2=>?_⟩
   cases e2
   exact⟨o,e,ex.2.1⟩
  ·obtain⟨o,_,_,_,e,ex,_⟩:=I.hok p _ hk
   refine⟨⟨o,e,ex.1⟩,fun a e2=>?_⟩
   cases e2
   exact⟨o,e,ex.2.1⟩
 | _=>exact False.elim ty
def tBM(K:W.Frag)(T:String)(r:V→List V→Hp→VK→Prop)(to:TE)(t:TA):TE:=fun σ H Q=>to σ H fun x H1=>tyV K T x H1∧t σ H1 fun xs H2=>r x xs H2 Q
variable {o e:Expr}{es:List Expr}{to:TE}{t:TA}{name:Str}{apos cpos:Pos}{T id:String}{r:V→List V→Hp→VK→Prop}
theorem b2K(pa:PlainAttrs T)(slot:Slot T name id)(hty:typeOf (.builtin id)=pure (.type "method_descriptor"))(hm:MtR X id r)(ho:PE X o to)(ha:PA X (e::es) t)
  (hbase:attributeBase o name X.env (eval o X.env)=eval o X.env:=by rfl)
  (hfew:((backTo cpos (starEach (e::es) X.env)).all (fun x=>!x.1) && (backToKw cpos (keywordEach [] X.env)).all (fun x=>x.1.isSome)
   && decide ((e::es).length+([]:List Keyword).length+(if([]:List Keyword).isEmpty then 0 else 1)<30))=true:=by rfl)
  (hline:(apos.endLine == cpos.line)=true:=by rfl) (hs:starEach (e::es) X.env=(false,eval e X.env)::starEach es X.env:=by rfl) (hplain:(backTo cpos (starEach es X.env)).any (·.1)=false:=by rfl) :
  PE X (.Call (.Attribute o name apos) (e::es) [] cpos) (tBM X.K T r to t):=by
 intro pins s σ H Q I h
 refine wpAny_Call_method_late hbase hfew hline rfl (i2 (ho pins s σ H _ I h) fun v s1 ⟨x,H1,I1,r1,ty,q1⟩=>?_)
 obtain⟨h1,h2⟩:=b1l I1 r1 ty
 refine⟨T,id,pa,slot,hty,h1,h2,?_⟩
 have hA:=ha cpos pins s1 σ H1 _ I1 q1
 rw[hs]at hA ⊢
 refine Calls.callWith_builtin (by show(false || (backTo cpos (starEach es X.env)).any (·.1))=false;rw[hplain]<;>rfl) (Calls.evalArgs_plain ?_)
 exact i2 hA fun us s2 ⟨vs,H2,I2,r2,q2⟩=>hm pins s2 σ H2 x vs v us Q I2 r1 r2 q2
end
def MtM(X:Cx)(id:String)(r:V→List V→Hp→VK→Prop):Prop :=
 ∀(pins:List (Addr×Obj)) (s:Shared) (σ:St) (H:Hp) (x:V) (xs:List V) (v:Value) (us:List Value) (Q:VK),Inv X pins σ H s→RelV x v→Vals xs us→r x xs H Q →
  wpAny (model X.prog X.w) X.A (call (.builtin id) (v::us)) (EP X pins σ Q) X.xe s
theorem Vals.one:∀{x:V} {us:List Value},Vals [x] us→∃u,us=[u]∧RelV x u
 | _,_,.cons r .nil=>⟨_,rfl,r⟩
theorem Vals.zero:∀{us:List Value},Vals [] us→us=[]
 | _,.nil=>rfl
theorem Vals.reverse{xs:List V}{us:List Value}(h:Vals xs us):Vals xs.reverse us.reverse:=by
 induction h with
 | nil=>exact .nil
 | cons r t ih=>rw[List.reverse_cons,List.reverse_cons];exact Vals.append ih (.cons r .nil)
theorem Vals.rep{xs:List V}{us:List Value}(h:Vals xs us):∀k:Nat,Vals (List.replicate k xs).flatten (List.replicate k us).flatten
 | 0=>.nil
 | k+1=>by
  rw[List.replicate_succ,List.replicate_succ,List.flatten_cons,List.flatten_cons]
  exact Vals.append h (Vals.rep h k)
theorem a2X(its:List Value):∀(k:Nat) (acc:List Value),
  List.foldl (fun x1 x2=>x1++x2) acc.toArray (List.replicate k its.toArray)=(acc++(List.replicate k its).flatten).toArray
 | 0,acc=>by simp
 | k+1,acc=>by
  have e:acc.toArray++its.toArray=(acc++its).toArray:=by simp
  have e2:(acc++its)++(List.replicate k its).flatten=acc++(List.replicate (k+1) its).flatten:=by
   rw[List.replicate_succ,List.flatten_cons,List.append_assoc]
  rw[← e2,← a2X its k (acc++its),← e,List.replicate_succ,List.foldl_cons]
section
variable {X:Cx}{pins:List (Addr×Obj)}{σ:St}{H:Hp}{s:Shared}{l b:Addr}{xs ys zs:List V}
theorem Inv.lset{its its':List Value}{n:Nat}{f:Array Value→Array Value}{t':Nat}(I:Inv X pins σ H s)(hH:H l=some (.lst xs))
  (e:s.heap.get? l=some { cls:=.type "list",data:=.seq its.toArray n }) (hf:f its.toArray=its'.toArray) (hv:Vals ys its') (hz:ys.length≤sizeLine) :
  Inv X pins σ (upd H l (.lst ys)) { s with heap:=s.heap.update l (Obj.mapSeq f),toks:=t' }:=by
 have q:=PySem.IsL.update e f
 rw[hf]at q
 refine I.write (x:=l) (e:=l) (by rw[hH];exact trivial) (.inl rfl) (fun b' u hb hu=>(Heap.get?_update_other s.heap (Obj.mapSeq f) (Ne.symm hb)).trans hu) ⟨_,q⟩ ?_
 exact⟨hz,its',_,hv,q⟩
theorem Inv.lnew{its:List Value}{t':Nat}(I:Inv X pins σ H s)(hv:Vals ys its)(hz:ys.length≤sizeLine) :
  Inv X pins σ (upd H s.heap.objs.size (.lst ys)) { s with heap:=s.heap.push { cls:=.type "list",data:=.seq its.toArray },toks:=t' } :=
 I.laid (fun _ _ q=>Heap.get?_push_of_some _ q) (Nat.le_refl _) ⟨hz,its,0,hv,Heap.get?_push_size _ rfl⟩
theorem Inv.fresh(I:Inv X pins σ H s):H s.heap.objs.size=none:=I.hok.fresh (Nat.le_refl _)
theorem Inv.lstM(I:Inv X pins σ H s)(hH:H l=some (.lst xs)):xs.length≤sizeLine∧∃(its:List Value) (n:Nat),Vals xs its∧xs.length=its.length∧s.heap.get? l=some { cls:=.type "list",data:=.seq its.toArray n }:=by
 obtain⟨z,its,n,r,e⟩:=I.hok l _ hH
 exact⟨z,its,n,r,r.length,e⟩
theorem a7z{n:Nat}(h:n≤sizeLine):Builtin.List.listTooLong n=false:=by
 unfold Builtin.List.listTooLong
 exact decide_eq_false (by omega)
end
section
variable {X:Cx}
def a2r:V→List V→Hp→VK→Prop:=fun x vs H Q=>∃l xs y,x=.ref l∧vs=[y]∧H l=some (.lst xs)∧xs.length<sizeLine∧Q .non (upd H l (.lst (xs++[y])))
theorem G5:MtM X "list.append" a2r:=by
 intro pins s σ H x vs v us Q I rx rv h
 obtain⟨l,xs,y,rfl,rfl,hH,hz,q⟩:=h
 cases rx
 obtain⟨u,rfl,ru⟩:=rv.one
 obtain⟨z,its,n,r,hl,e⟩:=I.lstM hH
 refine call_meets F.slot_list_append ⟨_,e,rfl⟩ F.entry_list_append (F.args_list_append_2 _ _) (PySem.list_append l its.toArray n u (by rw[List.size_toArray];omega)) ⟨e,?_⟩
 refine⟨.non,_,I.lset (its':=its++[u]) hH e (by simp) (r.append (.cons ru .nil)) ?_,rfl,q⟩
 rw[List.length_append,List.length_singleton]
 omega
def b1m:R2:=fun x y H Q=>∃l k xs,x=.ref l∧y=.int k∧H l=some (.lst xs)∧-(2 ^ 63)≤k∧k<2 ^ 63∧xs.length*k.toNat≤sizeLine ∧
 ∀p,H p=none→Q (.ref p) (upd H p (.lst (List.replicate k.toNat xs).flatten))
theorem a9j{α:Type}(xs:List α)(k:Nat):(List.replicate k xs).flatten.length=k*xs.length:=by
 induction k with
 | zero=>simp
 | succ k ih=>rw[List.replicate_succ,List.flatten_cons,List.length_append,ih,Nat.succ_mul,Nat.add_comm]
theorem b1n:OpR X (binaryOp .Mult) b1m:=by
 intro pins s σ H x y v u Q I rx ry h
 obtain⟨l,k,xs,rfl,rfl,hH,h1,h2,hz,q⟩:=h
 cases rx
 obtain⟨t,rfl⟩:=ry
 obtain⟨z,its,n,r,hl,e⟩:=I.lstM hH
 have hlen:its.toArray.size*k.toNat≤sizeLine:=by rw[List.size_toArray,← hl];exact hz
 have hcap:¬its.toArray.size*k.toNat > (2 ^ 63-1)/8:=by
  have:(sizeLine:Nat)≤(2 ^ 63-1)/8:=by decide
  omega
 have hfit:¬(!Builtin.List.listFitsIndex k)=true:=by
  rw[fitsIndex_both h1 h2]
  exact Bool.false_ne_true
 have hlong:¬Builtin.List.listTooLong (its.toArray.size*k.toNat)=true:=by
  rw[a7z hlen]
  exact Bool.false_ne_true
 have hnew:List.foldl (fun x1 x2=>x1++x2) #[] (List.replicate (if its.toArray.isEmpty=true then 0 else k.toNat) its.toArray)=(List.replicate k.toNat its).flatten.toArray:=by
  have f0:∀m:Nat,List.foldl (fun x1 x2=>x1++x2) #[] (List.replicate m its.toArray)=(List.replicate m its).flatten.toArray:=fun m=>by
   have:=a2X its m []
   rw[List.nil_append]at this
   exact this
  rw[f0]
  cases its with
  | nil=>simp
  | cons a r'=>rw[if_neg (by simp)]
 refine wpAny_binaryOp_repeat_ref (T := "list") (U := "int") (by decide) ⟨_,e,rfl⟩ (fun s'=>typeIs_int s' k t) noFill_list_mul F.fills_int_mul F.slot_int_rmul repeat_list F.slot_int_index.lookup
  (call_meets F.slot_int_rmul (typeIs_int s k t) F.entry_int_rmul (F.args_int_rmul_2 _ _) (int___rmul___int_list k t l its.toArray n)
   ⟨e,rfl,⟨_,e,rfl⟩,call_meets F.slot_list_mul ⟨_,e,rfl⟩ F.entry_list_mul (F.args_list_mul_2 _ _) (AutoListH.list___mul___list_int_3 l its.toArray n k t hfit hcap hlong) ⟨e,?_⟩⟩)
 rw[hnew]
 exact⟨.ref _,_,I.lnew (t':=s.toks) (r.rep k.toNat) (by rw[a9j,Nat.mul_comm];exact hz),rfl,q _ I.fresh⟩
end
end L2
namespace Att
open PySem PySem.W PySem.Calls PyProof.Rows
theorem a1N{P:Params}{h:Heap}:∀(ns:List Int) (vs:List Value),WellAll P h vs (ns.map WData.int)→IntsAre vs ns:=by
 intro ns
 induction ns with
 | nil =>
  intro vs w
  rw[List.map_nil]at w
  cases w
  exact .nil
 | cons n ns ih =>
  intro vs w
  rw[List.map_cons]at w
  cases w with
  | cons a b =>
   cases a
   exact .cons _ _ (ih _ b)
theorem script_of{l:OpenLaw}{n:Nat}(hn:l.most=some n){P:Params}{h:Heap}{args:List WData}{vals:List Value}
  (hpre:l.row.toRowW.claim.pre args=true) (hwl:WellAll P h vals args) :
  ∃a vs ns,vals=[Value.ref a]∧args=[WData.list (ns.map WData.int)]∧h.get? a=some { cls:=.type "list",data:=.seq vs.toArray }∧IntsAre vs ns∧ns.length≤n:=by
 have hsh:WShape.hasAll [] args [.list .int]=true:=(pre_splitW hpre).1
 have hc:l.pre.holds [] { args:=args }=true:=(pre_splitW hpre).2
 obtain⟨d,r,rfl,h1,h2⟩:=hasAllW_cons hsh
 obtain rfl:=hasAllW_nil h2
 obtain⟨xs,rfl,h3⟩:=hasW_list h1
 obtain⟨ns,rfl⟩:=items_int h3
 have hlen:ns.length≤n:=by
  unfold OpenLaw.pre at hc
  have h4:(WTm.not (.lt (.lit (.int (n:Int))) (.len (.arg 0)))).holds [] { args:=[.list (ns.map .int)] }=true:=by
   have h4:=(holds_andW hc).1
   rw[hn]at h4
   exact h4
  have h5:=condW_of h4 (w_not (w_lt w_lit (w_len_list (w_arg rfl))))
  rw[List.length_map]at h5
  refine Nat.le_of_not_lt fun q=>?_
  have q':(n:Int)<((ns.length:Nat):Int):=by omega
  first
   | (rw[decide_eq_true q']at h5;exact absurd h5 (by decide))
   | (simp at h5;omega)
 cases hwl with
 | cons w1 w2 =>
  cases w2
  cases w1 with
  | list ho hall=>exact⟨_,_,ns,rfl,rfl,ho,a1N ns _ hall,hlen⟩
theorem post_true(l:OpenLaw)(args:List WData):l.row.toRowW.claim.post args (.bool true) args=true :=
 postW_of (r:=l.row.toRowW) (X:=(true == true))
  (show WShape.has [] (.bool true) .bool=true by first | rfl | decide | simp[WShape.has,WShape.arms,WShape.armsAll])
  (show(WTm.eq .res (.lit (.bool true))).value [] { args:=args,res:=some (.bool true),after:=args }=some (.bool (true == true))from w_eq_bool (w_res rfl) w_lit) rfl
end Att
namespace L2
open PySem PySem.Spec PyProof.Rows
theorem a2Y:∀{vs:List Value} {ns:List Int},IntsAre vs ns→Vals (ns.map V.int) vs
 | _,_,.nil=>.nil
 | _,_,.cons n t h=>.cons ⟨t,rfl⟩ (a2Y h)
def b3q(H:Hp):Prop:=∀b,H b=none∨∃o xs,H b=some (.frz o (.lst xs))
def a2s(s:Stmt)(j:Nat):Stmt:=match s with
 | .ClassDef _ _ _ body _ _ _ _ _ _ _=>body.getD j (.Pass ⟨0,0,0,0⟩)
 | _=>.Pass ⟨0,0,0,0⟩
def i9(s:Stmt):Arguments:=match s with
 | .FunctionDef _ a _ _ _ _ _ _ _ _=>a
 | _=>{ posonlyargs:=[],args:=[],vararg:=none,kwonlyargs:=[],kw_defaults:=[],kwarg:=none,defaults:=[] }
def i5(s:Stmt):List Stmt:=match s with
 | .FunctionDef _ _ b _ _ _ _ _ _ _=>b
 | _=>[]
def a8(s:Stmt):Scope:=match s with
 | .FunctionDef _ _ _ _ _ _ sc _ _ _=>sc
 | _=>{ kind:=.function,names:=[],isGenerator:=false,isCoroutine:=false }
abbrev CX0:Q7:=fun _ _ _ _ _ _=>False
abbrev E0:XK:=fun _ _ _=>False
structure Fun(K:W.Frag)(x qual:Str)(st:Stmt)(f:Addr)(fd:FuncData):Prop where
 ex:∃(oc:Value) (od:Option Addr) (kV doc pm:Value) (an:Option Addr) (cdv ct:Value) (osl:Array (Option Value)),
  fd=W.fnOf x qual (i9 st) (i5 st) (a8 st) .none kV doc pm an cdv ct∧K.lookup f=some ⟨oc,od,.func fd,osl⟩∧W.codeIn K cdv qual=true
 kp:W.keepIn K (.ref f)=true
section
variable {P:Program}{w:World}{K:W.Frag}{mg:Str→Option Value}{base:Heap}
theorem Fun.ok{x qual:Str}{st:Stmt}{f:Addr}{fd:FuncData}{N ps:List Str}{k:Nat}{sp:Sp}(F:Fun K x qual st f fd)(S:FnScope N ps (a8 st))(len:∀vs H Q E,sp vs H Q E→vs.length=ps.length)
  (hbody:∀(cdv:Value) (A:Around) (outer:List Env) (s:Shared) (H:Hp) (vs:List V) (Q:VK) (E:XK),Room k (A.deeper (envOfC qual (a8 st) s.heap.objs.size f cdv))→sp vs H Q E →
   ∃t,PSs (L8 CX0 P w K mg base N qual (a8 st) f cdv A outer s H E).nox (i5 st) t∧t { nx:=fun _ H'=>Q .non H',rt:=Q } (start N vs) H):FnOk P w K mg base CX0 (k+1) f fd ps sp:=by
 obtain⟨oc,od,kV,doc,pm,an,cdv,ct,osl,rfl,lk,hcd⟩:=F.ex
 refine a1L lk hcd S len fun A outer s H vs Q E hr hsp=>?_
 obtain⟨t,h,q⟩:=hbody cdv A outer s H vs Q E hr hsp
 exact⟨t,h.nox,q⟩
theorem Fun.binds{x qual:Str}{st:Stmt}{f:Addr}{fd:FuncData}{ps:List Str}(F:Fun K x qual st f fd)
  (h:∀(kV doc pm:Value) (an:Option Addr) (cdv ct:Value) (us:List Value),us.length=ps.length→bindArgs (W.fnOf x qual (i9 st) (i5 st) (a8 st) .none kV doc pm an cdv ct) ⟨us,[]⟩=pure (ps.zip us)):Binds K fd ps []:=by
 obtain⟨oc,od,kV,doc,pm,an,cdv,ct,osl,rfl,lk,hcd⟩:=F.ex
 exact .all (h kV doc pm an cdv ct)
theorem w9{x qual:Str}{st:Stmt}{f:Addr}{oc:Value}{od an:Option Addr}{osl:Array (Option Value)}{kV doc pm cdv ct:Value}(l:K.lookup f=some ⟨oc,od,.func (W.fnOf x qual (i9 st) (i5 st) (a8 st) .none kV doc pm an cdv ct),osl⟩)
  (c:W.codeIn K cdv qual=true) (k:W.keepIn K (.ref f)=true):Fun K x qual st f (W.fnOf x qual (i9 st) (i5 st) (a8 st) .none kV doc pm an cdv ct):=⟨⟨oc,od,kV,doc,pm,an,cdv,ct,osl,rfl,l,c⟩,k⟩
end
theorem a6f{n:Nat}(h:n≤1000):n<sizeLine:=Nat.lt_of_le_of_lt h (by decide)
section
variable {X:Cx}
theorem pv(i:Nat){x:Str}{pos:Pos}(hN:X.N[i]? = some x:=by rfl)(hv:Vis X.env.scope x:=by first | exact Or.inl rfl | exact Or.inr (Or.inl rfl) | exact Or.inr (Or.inr rfl))(hd:(x == ("__debug__" : Str))=false:=by decide)
  (hcd:(x == ("__classdict__" : Str))=false:=by decide):PE X (.Name x pos) (y9 i):=b01 hN hv hd hcd
end
def Same(H H':Hp):Prop:=∀b o,H b=some o→H' b=some o
theorem Same.refl(H:Hp):Same H H:=fun _ _ h=>h
theorem Same.trans{H H1 H2:Hp}(a:Same H H1)(b:Same H1 H2):Same H H2:=fun c o h=>b c o (a c o h)
theorem Same.free{H H':Hp}(e:Same H H'){l:Addr}(h:H' l=Option.none):H l=Option.none:=by
 cases q:H l with
 | none=>rfl
 | some o =>
  rw[e l o q]at h
  cases h
theorem Same.seq{K:W.Frag}{H H':Hp}{a:Addr}{xs:List V}(e:Same H H')(h:SqL K H a xs):SqL K H' a xs:=by
 rcases h with(h | ⟨o,h⟩) | h
 ·exact .inl (.inl (e _ _ h))
 ·exact .inl (.inr ⟨o,e _ _ h⟩)
 ·exact .inr h
end L2
set_option maxHeartbeats 4000000
namespace L2
open PySem PySem.Spec PyProof.Rows
theorem ObjOk.there{P:Program}{w:World}{H:Hp}{h:Heap}{a:Addr}{o:HO}(x:ObjOk P w H h a o):∃ob,h.get? a=some ob:=by
 cases o with
 | lst xs=>obtain⟨_,_,_,_,e⟩:=x;exact⟨_,e⟩
 | tup xs=>obtain⟨_,_,_,p⟩:=x;obtain⟨o,e,_⟩:=p;exact⟨_,e⟩
 | dK kvs=>obtain⟨_,_,_,_,o,_,_,e,_⟩:=x;exact⟨_,e⟩
 | dT kvs=>obtain⟨_,_,_,_,o,_,_,e,_⟩:=x;exact⟨_,e⟩
 | set S n=>obtain⟨o,_,_,_,e,_⟩:=x;exact⟨_,e⟩
 | ins C dx fs=>obtain⟨_,_,_,e,_⟩:=x;exact⟨_,e⟩
 | own y=>obtain⟨_,e⟩:=x;exact⟨_,e⟩
 | xd fs=>obtain⟨_,⟨_,_,_,e,_⟩,_⟩:=x;exact⟨_,e⟩
 | rng lo hi=>obtain⟨_,_,_,e⟩:=x;exact⟨_,e⟩
 | frz ob u=>obtain⟨e,_⟩:=x;exact⟨_,e⟩
 | tbl ps=>obtain⟨_,e,_⟩:=x;exact⟨_,e⟩
 | met f y=>exact⟨_,(show h.get? a=some _ from x)⟩
 | ext φ=>obtain⟨_,⟨_,e⟩,_⟩:=x;exact⟨_,e⟩
def Imp(X:Cx)(pins:List (Addr×Obj))(H:Hp)(b:Addr):Prop:=H b≠none∨(b ∉ X.ex∧∃o,X.s₀.heap.get? b=some o)∨∃p∈X.pn++pins,p.1=b
def a1p:Option Addr→Value
 | none=>.none
 | some a=>.ref a
def TrX(h B:Heap)(e:Addr)(cls:Value)(cx:Option Addr)(fl:Value):Prop :=
 ∃oe vs T oT ts,(h.get? e=some oe∧oe.cls=cls∧oe.data=.fields vs)∧(vs[1]? = some (.ref T)∧vs[2]? = some (a1p cx))∧(B.get? T=none∧T≠e)∧h.get? T=some oT∧oT.data=.fields ts∧ts[3]? = some fl
theorem U1(T:Addr):(Value.ref T != Value.none)=true:=by simp
inductive Ph where | new | fly | any
def XTr(B h:Heap)(a:Addr)(cls:Value)(cx:Option Addr):Ph→Prop
 | .new=>∃oe vs,h.get? a=some oe∧oe.cls=cls∧oe.data=.fields vs∧vs[1]? = some .none∧vs[2]? = some (a1p cx)
 | .fly=>TrX h B a cls cx .none
 | .any=>∃fl,TrX h B a cls cx fl
theorem XTr.there{B h:Heap}{a:Addr}{cls:Value}{cx:Option Addr}{ph:Ph}(x:XTr B h a cls cx ph):∃oe vs,h.get? a=some oe∧oe.cls=cls∧oe.data=.fields vs∧vs[2]? = some (a1p cx):=by
 cases ph with
 | new=>obtain⟨oe,vs,h1,h2,h3,_,h4⟩:=x;exact⟨oe,vs,h1,h2,h3,h4⟩
 | fly=>obtain⟨oe,vs,_,_,_,⟨h1,h2,h3⟩,⟨_,h4⟩,_⟩:=x;exact⟨oe,vs,h1,h2,h3,h4⟩
 | any=>obtain⟨_,oe,vs,_,_,_,⟨h1,h2,h3⟩,⟨_,h4⟩,_⟩:=x;exact⟨oe,vs,h1,h2,h3,h4⟩
section
variable {M:Model}{A:Around}{E:Value→Shared→Prop}{s:Shared}
def a1P(B:Heap)(l:List Env)(e:Addr)(cls:Value)(cx:Option Addr)(fl:Value)(h h':Heap):Prop:=B.StaysIn h'∧h'.FunFrames B l∧TrX h' B e cls cx fl∧h.UpToSlots h'
theorem a4X{B:Heap}{env:Env}{outer:List Env}{L e:Addr}{oe:Obj}{vs:Array Value}{head:Value}{cx:Option Addr}{nx:Bool}{Q:Unit→Shared→Prop}(fr:A.frames=some (env::outer))(ff:s.heap.FunFrames B (env::outer))(hf:env.frame=some L)
  (ge:s.heap.get? e=some oe) (st:B.StaysIn s.heap) (be:B.get? e=none) (de:oe.data=.fields vs) (z1:1<vs.size) (z2:vs[2]? = some (a1p cx)) (q:∀h',a1P B (env::outer) e oe.cls cx (rawInt L) s.heap h'→Q () { s with heap:=h' }) :
  wpAny M A (do let a ← frameOf env;let pl ← entryPlaceOf L nx;let b ← EntryCells.newEntry head a .none (rawInt L) .none pl;setField (.ref e) 1 b) Q E s:=by
 have nf:∀b o,s.heap.get? b=some o→(∀ws,o.data≠.fields ws)→b≠e:=fun b o gb nb zb=>by subst zb;rw[ge]at gb;cases gb;exact nb vs de
 have out:e ∉ (env::outer).filterMap (·.frame):=fun m=>by obtain⟨_,o,go,no⟩:=ff.mem m;exact nf e o go no rfl
 refine wpAny_bind (wpAny_frameOf_fun fr ff hf fun h1 only=>wpAny_bind (wpAny_entryPlaceOf fun pl place=>?_))
 unfold EntryCells.newEntry newFields
 refine wpAny_bind (wpAny_newObj_type ?_ (place.sizeOk5 _ _ _ _ _))
 have ge1:h1.get? e=some oe:=(only.2.1 e out).trans ge
 have st1:B.StaysIn h1:=fun b o gb=>(only.2.1 b fun m=>by have:=(ff.mem m).1;rw[this]at gb;cases gb).trans (st b o gb)
 have ne1:h1.objs.size≠e:=fun z=>absurd (Heap.lt_size ge1) (by rw[z];exact Nat.lt_irrefl _)
 refine wpAny_setField (Heap.get?_push_of_some _ ge1) de z1 (q _ ?_)
 have far:∀{ob:Obj} {g:Obj→Obj} {b:Addr} {o:Obj},b≠e→h1.get? b=some o→((h1.push ob).update e g).get? b=some o:=fun ne gb=>(Heap.get?_update_other _ _ (Ne.symm ne)).trans (Heap.get?_push_of_some _ gb)
 refine⟨fun b o gb=>far (fun z=>by rw[z,be]at gb;cases gb) (st1 b o gb),ff.of_keeps fun b o gb nb=>?_,?_,fun b o gb nb=>?_⟩
 ·obtain⟨sl,g⟩:=only.2.2 b o gb;exact⟨_,far (nf b o gb nb) g,rfl⟩
 ·have dd:=Obj.data_mapFields de (·.setIfInBounds 1 (Value.ref h1.objs.size))
  refine⟨_,_,h1.objs.size,_,_,⟨Heap.get?_update_self _ (Heap.get?_push_of_some _ ge1) (Obj.isFreed_of_fields dd),Obj.cls_mapFields _ _,dd⟩,⟨by simp[z1],by rw[Array.getElem?_setIfInBounds_ne (by decide)];exact z2⟩,⟨st1.fresh,ne1⟩,(Heap.get?_update_other _ _ (Ne.symm ne1)).trans (Heap.get?_push_size h1 rfl),rfl,?_⟩
  first | (simp;done) | (rcases place with rfl | ⟨_,_,_,_,_,_,_,rfl⟩<;>simp)
 ·obtain⟨sl,g⟩:=only.2.2 b o gb;exact⟨sl,far (nf b o gb nb) g⟩
theorem a5y{B:Heap}{env:Env}{outer:List Env}{L e:Addr}{oe:Obj}{vs:Array Value}{cx:Option Addr}{Q:Unit→Shared→Prop}(fr:A.frames=some (env::outer))(ff:s.heap.FunFrames B (env::outer))(hf:env.frame=some L)
  (ge:s.heap.get? e=some oe) (st:B.StaysIn s.heap) (be:B.get? e=none) (de:oe.data=.fields vs) (z1:vs[1]? = some .none) (z2:vs[2]? = some (a1p cx)) (q:∀h',a1P B (env::outer) e oe.cls cx (rawInt L) s.heap h'→Q () { s with heap:=h' }):wpAny M A (noteFrame (.ref e) env) Q E s:=by
 unfold noteFrame
 simp only[hf]
 refine wpAny_bind (wpAny_field ge de z1 ?_)
 rw[if_neg (by decide)]
 exact a4X fr ff hf ge st be de (Array.getElem?_eq_some_iff.mp z1).1 z2 q
theorem a9k{B:Heap}{env:Env}{outer:List Env}{L e:Addr}{cls:Value}{cx:Option Addr}{Q:Unit→Shared→Prop}(fr:A.frames=some (env::outer))(ff:s.heap.FunFrames B (env::outer))(hf:env.frame=some L)
  {fl:Value} (t:TrX s.heap B e cls cx fl) (nl:¬(fl == rawInt L)=true) (st:B.StaysIn s.heap) (be:B.get? e=none) (q:∀h',a1P B (env::outer) e cls cx (rawInt L) s.heap h'→Q () { s with heap:=h' }):wpAny M A (noteFrame (.ref e) env) Q E s:=by
 obtain⟨oe,vs,T,oT,ts,⟨ge,rfl,de⟩,⟨z1,z2⟩,⟨bT,nT⟩,gT,dT,z3⟩:=t
 unfold noteFrame
 simp only[hf]
 refine wpAny_bind (wpAny_field ge de z1 ?_)
 rw[if_pos (U1 T)]
 refine wpAny_bind (wpAny_field gT dT z3 ?_)
 rw[if_neg nl]
 refine wpAny_bind (wpAny_setField gT dT (Array.getElem?_eq_some_iff.mp z3).1 ?_)
 have far:∀{g:Obj→Obj} b,b≠T→(s.heap.update T g).get? b=s.heap.get? b:=fun b ne=>Heap.get?_update_other _ _ (Ne.symm ne)
 have nf:∀b o,s.heap.get? b=some o→(∀ws,o.data≠.fields ws)→b≠T:=fun b o gb nb zb=>by subst zb;rw[gT]at gb;cases gb;exact nb ts dT
 refine a4X fr (ff.of_keeps fun b o gb nb=>⟨o,(far b (nf b o gb nb)).trans gb,rfl⟩) hf ((far e (Ne.symm nT)).trans ge) (fun b o gb=>(far b fun z=>by rw[z,bT]at gb;cases gb).trans (st b o gb)) be de (Array.getElem?_eq_some_iff.mp z1).1 z2 fun h' x=>q h' ⟨x.1,x.2.1,x.2.2.1,fun b o gb nb=>?_⟩
 exact x.2.2.2 b o ((far b (nf b o gb nb)).trans gb) nb
theorem a5z{B:Heap}{env:Env}{L e:Addr}{cls:Value}{cx:Option Addr}{fl:Value}{Q:Unit→Shared→Prop}(hf:env.frame=some L)(t:TrX s.heap B e cls cx fl)(el:(fl == rawInt L)=true)(q:Q () s):wpAny M A (noteFrame (.ref e) env) Q E s:=by
 obtain⟨oe,vs,T,oT,ts,⟨ge,rfl,de⟩,⟨z1,z2⟩,⟨bT,nT⟩,gT,dT,z3⟩:=t
 unfold noteFrame
 simp only[hf]
 refine wpAny_bind (wpAny_field ge de z1 ?_)
 rw[if_pos (U1 T)]
 refine wpAny_bind (wpAny_field gT dT z3 ?_)
 rw[if_pos el]
 exact wpAny_pure q
theorem a7A{B:Heap}{l:List Env}{e:Addr}{cls fl:Value}{cx fr:Option Addr}{Q:Unit→Shared→Prop}(st:B.StaysIn s.heap)(ff:s.heap.FunFrames B l)(t:TrX s.heap B e cls cx fl)
  (q:∀h',a1P B l e cls cx (fr.elim Value.none fun f=>rawInt f) s.heap h'→Q () { s with heap:=h' }):wpAny M A (setFlight (.ref e) fr) Q E s:=by
 obtain⟨oe,vs,T,oT,ts,⟨ge,rfl,de⟩,⟨z1,z2⟩,⟨bT,nT⟩,gT,dT,z3⟩:=t
 have z4:3<ts.size:=(Array.getElem?_eq_some_iff.mp z3).1
 have far:∀{g:Obj→Obj} b,b≠T→(s.heap.update T g).get? b=s.heap.get? b:=fun b ne=>Heap.get?_update_other _ _ (Ne.symm ne)
 have nf:∀b o,s.heap.get? b=some o→(∀ws,o.data≠.fields ws)→b≠T:=fun b o gb nb zb=>by subst zb;rw[gT]at gb;cases gb;exact nb ts dT
 unfold setFlight
 refine wpAny_bind (wpAny_field ge de z1 ?_)
 rw[if_pos (U1 T)]
 refine wpAny_setField gT dT z4 (q _ ⟨fun b o gb=>(far b fun z=>by rw[z,bT]at gb;cases gb).trans (st b o gb),ff.of_keeps fun b o gb nb=>⟨o,(far b (nf b o gb nb)).trans gb,rfl⟩,?_,fun b o gb nb=>⟨o.slots,(far b (nf b o gb nb)).trans gb⟩⟩)
 have dd:=Obj.data_mapFields dT (·.setIfInBounds 3 (fr.elim Value.none fun f=>rawInt f))
 exact⟨oe,vs,T,_,_,⟨(far e (Ne.symm nT)).trans ge,rfl,de⟩,⟨z1,z2⟩,⟨bT,nT⟩,Heap.get?_update_self _ gT (Obj.isFreed_of_fields dd),dd,by simp[z4]⟩
end
structure XAt(X:Cx)(pins:List (Addr×Obj))(H:Hp)(s:Shared)(a:Addr)(cls:Value)(cx:Option Addr)(B:Heap)(ph:Ph):Prop where
 free:H a=none
 stays:B.StaysIn s.heap
 fresh:B.get? a=none
 frames:s.heap.FunFrames B X.stack
 cov:∀b o,s.heap.get? b=some o→Imp X pins H b→b ∉ B6 X.stack→B.get? b=some o
 tr:XTr B s.heap a cls cx ph
section
variable {X:Cx}{pins:List (Addr×Obj)}{σ:St}{H:Hp}{s:Shared}{a:Addr}{cls:Value}{cx:Option Addr}{B h':Heap}{ph:Ph}
theorem Imp.there(I:Inv X pins σ H s){b:Addr}(i:Imp X pins H b):∃o,s.heap.get? b=some o:=by
 rcases i with i | ⟨hx,o,i⟩ | ⟨p,hp,e⟩
 ·cases q:H b with
  | none=>exact absurd q i
  | some u=>exact(I.hok b u q).there
 ·exact I.base.there b o i hx
 ·exact⟨p.2,by rw[← e];exact(I.pin p hp).1⟩
theorem Inv.exc(I:Inv X pins σ H s)(cov:∀b o,s.heap.get? b=some o→Imp X pins H b→b ∉ B6 X.stack→B.get? b=some o)(st:B.StaysIn h')(ups:s.heap.UpToSlots h') :
  Inv X pins σ H { s with heap:=h' }:=by
 have fr:∀b,b∈B6 X.stack→∀o,s.heap.get? b=some o→∃sl,h'.get? b=some { o with slots:=sl }:=fun b hb o e=>by
  obtain⟨_,o',e',d⟩:=I.stack.mem hb
  rw[e]at e';cases e'
  exact ups b o e d
 have nfr:∀b,b ∉ X.fs→b≠X.env.locals→b ∉ B6 X.stack:=fun b h1 h2 z=>(List.mem_cons.mp (I.stkSub b z)).elim h2 h1
 have neL:∀b o,X.s₀.heap.get? b=some o→b≠X.env.locals:=fun b o e=>Nat.ne_of_lt (Nat.lt_of_lt_of_le (Heap.lt_size e) I.ok.above)
 have cellK:∀c v,s.heap.IsCell c v→h'.IsCell c v:=fun c v ⟨o,ho,hd⟩=>by
  obtain⟨sl,q⟩:=ups c o ho (fun vs z=>by rw[hd]at z;cases z)
  exact⟨_,q,hd⟩
 refine⟨I.ok,I.os,I.bare,⟨fun b o e n hb hx=>?_,fun b o e n hb hx=>?_,I.base.free,fun b o e hx=>?_,I.base.tups,I.base.frzs,I.base.tbls⟩,?_,fun x c e=>?_,I.free,I.freeC,fun p hp=>?_,?_,I.len⟩
 ·exact st _ _ (cov b o (I.base.keep b o e n hb hx) (.inr (.inl ⟨hx,o,e⟩)) (nfr b hb (neL b o e)))
 ·obtain⟨sl,e1⟩:=I.base.slot b o e n hb hx
  have hb':b∈B6 X.stack:=by
   rcases I.ok.stk with q | ⟨q,hf⟩
   ·rw[q];exact hb
   ·rw[q];unfold B6;rw[List.filterMap_cons,hf];exact List.mem_cons_of_mem _ hb
  obtain⟨sl',e2⟩:=fr b hb' _ e1
  exact⟨sl',e2⟩
 ·obtain⟨o',e1⟩:=I.base.there b o e hx
  by_cases hb:b∈B6 X.stack
  ·obtain⟨sl,q⟩:=fr b hb _ e1
   exact⟨_,q⟩
  ·exact⟨o',st _ _ (cov b o' e1 (.inr (.inl ⟨hx,o,e⟩)) hb)⟩
 ·obtain⟨m,hn,hl⟩:=I.loc
  refine⟨m,ups.ns hn,fun i x v e1 e2 e3=>?_⟩
  obtain⟨u,r,l⟩:=hl i x v e1 e2 e3
  refine⟨u,r,?_⟩
  rcases l with l | ⟨k,c,e,z⟩
  ·exact .inl l
  ·exact .inr ⟨k,c,e,cellK c _ z⟩
 ·obtain⟨v,z⟩:=I.cell x c e
  exact⟨v,cellK c v z⟩
 ·obtain⟨e,n,ne,nf,d⟩:=I.pin p hp
  exact⟨st _ _ (cov p.1 p.2 e (.inr (.inr ⟨p,hp,rfl⟩)) (nfr p.1 nf ne)),n,ne,nf,d⟩
 ·intro b u e
  refine(I.hok b u e).stay (fun c v hc q=>?_) (fun _ q=>q) (fun _ _ q=>q) fun _ _ _ q=>q
  have hc':H c≠none:=by
   rcases hc with z | z
   ·rw[z,e];exact fun q=>nomatch q
   ·rw[z];exact fun q=>nomatch q
  exact st _ _ (cov c v q (.inl hc') fun z=>hc' (I.stkFree c z))
theorem XAt.cov'(x:XAt X pins H s a cls cx B ph)(I:Inv X pins σ H s)(st:B.StaysIn h'):∀b o,h'.get? b=some o→Imp X pins H b→b ∉ B6 X.stack→B.get? b=some o:=fun b o e i n=>by
 obtain⟨o1,e1⟩:=i.there I
 have q:=x.cov b o1 e1 i n
 have q2:=st _ _ q
 rw[e]at q2;cases q2
 exact q
variable {M:Model}{A:Around}{E:Value→Shared→Prop}{Q:Unit→Shared→Prop}
theorem a7B{e:Value}{env env0:Env}(h:env0.frame=env.frame):noteFrame e env=noteFrame e env0:=by
 unfold noteFrame PySem.frameOf
 rw[h]
theorem a9l{env0:Env}{out0:List Env}{F:Addr}(hA:A.frames=some X.stack)(hs:X.stack=env0::out0)(h0:env0.frame=X.env.frame)(hf:X.env.frame=some F)(I:Inv X pins σ H s)(x:XAt X pins H s a cls cx B ph)
  (hQ:∀h',Inv X pins σ H { s with heap:=h' }→XAt X pins H { s with heap:=h' } a cls cx B .any→Q () { s with heap:=h' }):wpAny M A (noteFrame (.ref a) X.env) Q E s:=by
 have hfr:A.frames=some (env0::out0):=by rw[hA,hs]
 have hl:s.heap.FunFrames B (env0::out0):=by rw[← hs];exact x.frames
 rw[a7B h0]
 have hf:env0.frame=some F:=h0.trans hf
 have fin:∀{fl:Value} h',a1P B (env0::out0) a cls cx fl s.heap h'→Q () { s with heap:=h' }:=fun h' ⟨k1,k2,k3,k4⟩ =>
  hQ h' (I.exc x.cov k1 k4) ⟨x.free,k1,x.fresh,by rw[hs];exact k2,x.cov' I k1,_,k3⟩
 have on:∀fl,TrX s.heap B a cls cx fl→wpAny M A (noteFrame (.ref a) env0) Q E s:=fun fl t=>by
  by_cases z:(fl == rawInt F)=true
  ·exact a5z hf t z (hQ s.heap I ⟨x.free,x.stays,x.fresh,x.frames,x.cov,fl,t⟩)
  ·exact a9k hfr hl hf t z x.stays x.fresh fin
 cases ph with
 | new =>
  obtain⟨oe,vs,he,hc,hd,h1,h2⟩:=x.tr
  refine a5y hfr hl hf he x.stays x.fresh hd h1 h2 fun h' hN=>?_
  rw[hc]at hN
  exact fin h' hN
 | fly=>exact on _ x.tr
 | any=>obtain⟨fl,t⟩:=x.tr;exact on fl t
theorem a9m(I:Inv X pins σ H s)(x:XAt X pins H s a cls cx B ph)(hn:ph≠.new)
  (hQ:∀h',Inv X pins σ H { s with heap:=h' }→XAt X pins H { s with heap:=h' } a cls cx B .fly→Q () { s with heap:=h' }):wpAny M A (setFlight (.ref a) none) Q E s:=by
 have go:∀fl,TrX s.heap B a cls cx fl→wpAny M A (setFlight (.ref a) none) Q E s:=fun fl ht =>
  a7A x.stays x.frames ht fun h' ⟨k1,k2,k3,k4⟩=>hQ h' (I.exc x.cov k1 k4) ⟨x.free,k1,x.fresh,k2,x.cov' I k1,k3⟩
 cases ph with
 | new=>exact absurd rfl hn
 | fly=>exact go _ x.tr
 | any=>obtain⟨fl,t⟩:=x.tr;exact go fl t
end
def n4(P:Program)(w:World):Q7:=fun outer H s E e s' =>
 ∃(a:Addr) (cls:Value) (cx:Option Addr) (H':Hp) (B:Heap),e=.ref a∧s'.os=s.os∧AllBare s'.gens∧Un (B6 outer) [] H H' s.heap s'.heap∧HOk P w H' s'.heap∧B.StaysIn s'.heap∧B.get? a=none∧s'.heap.FunFrames B outer ∧
  TrX s'.heap B a cls cx .none∧H' a=none∧(∀b o,s'.heap.get? b=some o→(H' b≠none∨∃o',s.heap.get? b=some o')→b ∉ B6 outer→B.get? b=some o)∧E cls cx H'
def XAcc(X:Cx)(E:XK):Prop:=∀(pins:List (Addr×Obj)) (σ:St) (H:Hp) (s:Shared) (a:Addr) (cls:Value) (cx:Option Addr) (B:Heap) (ph:Ph),Inv X pins σ H s→XAt X pins H s a cls cx B ph→E cls cx H→X.xe (.ref a) s
theorem T3{P:Program}{w:World}{K:W.Frag}{mg:Str→Option Value}{base:Heap}{N:List Str}{qual:Str}{scope:Scope}{f:Addr}{cd:Value}{A:Around}{outer:List Env}{s:Shared}{H:Hp}{E:XK} :
  XAcc (L8 (n4 P w) P w K mg base N qual scope f cd A outer s H E) E:=by
 intro pins σ H1 s1 a cls cx B ph I x e
 show wpAny (model P w) (A.deeper (envOfC qual scope s.heap.objs.size f cd)) (leaving (envOfC qual scope s.heap.objs.size f cd) (.ref a)) _ _ s1
 unfold leaving
 refine wpAny_bind (a9l (X:=L8 (n4 P w) P w K mg base N qual scope f cd A outer s H E) I.ok.frames rfl rfl rfl I x fun h1 I1 x1=>?_)
 refine a9m I1 x1 (fun z=>nomatch z) fun h2 I2 x2=>?_
 refine⟨a,cls,cx,H1,B,rfl,I2.os,I2.bare,I2.base,I2.hok,x2.stays,x2.fresh,x2.frames.2.2,x2.tr,x2.free,fun b o e1 i n=>?_,e⟩
 have nl:b≠(envOfC qual scope s.heap.objs.size f cd).locals:=fun z=>by
  rcases i with i | ⟨o',i⟩
  ·exact i (by rw[z];exact I2.free)
  ·have:=Heap.lt_size i
   rw[z]at this
   exact absurd this (Nat.lt_irrefl _)
 refine x2.cov b o e1 (i.elim .inl fun z=>.inr (.inl ⟨List.not_mem_nil,z⟩)) fun z=>?_
 rcases List.mem_cons.mp (I2.stkSub b z)with q | q
 ·exact nl q
 ·exact n q
theorem XAcc.passes{X:Cx}{E:XK}(acc:XAcc X E):L7 (n4 X.prog X.w) X E:=by
 intro pins σ H s e s' I h
 obtain⟨a,cls,cx,H',B,rfl,os,bare,un,hok,st,fr,ff,tr,free,cov,hE⟩:=h
 have I':Inv X pins σ H' s':=I.call' (ch:=[]) os un hok bare (fun b z=>absurd z (by simp))
 refine acc pins σ H' s' a cls cx B .fly I' ⟨free,st,fr,ff,fun b o e i n=>cov b o e ?_ n,tr⟩ hE
 rcases i with i | ⟨hx,o',i⟩ | ⟨p,hp,q⟩
 ·exact .inl i
 ·exact .inr (I.base.there b o' i hx)
 ·exact .inr ⟨p.2,by rw[← q];exact(I.pin p hp).1⟩
end L2
namespace PySem.W
open PySem PySem.Spec PySem.Calls PyProof.Rows
structure ExcT(K:Frag)(C:Addr):Prop where
 ga:findIn K (.ref C) "__getattribute__" = some (some (.builtin "BaseException.__getattribute__"))
 gt:findIn K (.ref C) "__getattr__" = some none
 cl:findIn K (.ref C) "__class__" = some (some (.builtin "object.__class__"))
 mo:mroIn K C (.type "object")=some true
 sb:subIn K (.ref C) (.type "BaseException")=some true
section
variable {prog:Program}{w:World}{A:Around}{E:Value→Shared→Prop}{h:Heap}{g:Array GenState}{d:Drawn}{t:Nat}{os:OsState}{K:Frag}{x C:Addr}{o:Obj}{R:Result→Shared→Prop}
theorem a3h{tp:Value}(X:K.In h)(hx:h.get? x=some o)(hc:o.cls=.ref C)(hm:mroIn K C (.type "object")=some true)
  (q:R (.ok (.ret (.ref C))) ⟨h,g,d,t,os⟩):codeAny (model prog w) A (.call (.builtin "getset_descriptor.__get__") ⟨[.builtin "object.__class__",.ref x,tp],[]⟩) R ⟨h,g,d,t,os⟩:=by
 have L0:Looks (model prog w) h (typeOf (.ref x)) (.ref C):=hc▸(Looks.ld hx).andThen .now
 have L1:=looks_mroIn (M:=model prog w) X hm
 refine codeAny_call_builtin KF.slot_gs.plain KF.entry_gs (KF.slot_gs.check _ _ _ _ _ _ _ _ KF.type_class (KF.args_gs _ _ _) ?_)
 unfold Builtin.«getset_descriptor.__get__» Builtin.Getset_descriptor.descrGet
 rw[dga_obj]
 refine wpAny_bind (wpAny_pure ?_)
 unfold Builtin.Getset_descriptor.descrGetter Builtin.Getset_descriptor.descrCheckInstance Builtin.Getset_descriptor.descrNameAndClass isInstance
 simp only[KF.owner_class]
 repeat lk
 refine⟨Code.quiet_builtin _ (by decide +kernel),codeAny_builtin KF.entry_class ?_⟩
 unfold Builtin.«object.__class__» shownTypeOf
 repeat lk
 exact q
theorem a1Q{tk:Tok}{Q:Fin→Shared→Prop}(X:K.In h)(T:ExcT K C)(hx:h.get? x=some o)(hc:o.cls=.ref C)(q:Q (.done (.ret (.ref C))) ⟨h,g,d,t,os⟩) :
  wpAny (model prog w) A (Builtin.«object.__getattribute__» ⟨[.ref x,.str "__class__" tk],[]⟩) Q E ⟨h,g,d,t,os⟩:=by
 have L0:Looks (model prog w) h (typeOf (.ref x)) (.ref C):=hc▸(Looks.ld hx).andThen .now
 have L1:=looks_findIn (M:=model prog w) X T.cl
 have hT5:(⟨h,g,d,t,os⟩:Shared).TypeIs (.builtin "object.__class__") "getset_descriptor" := F.typeOf_object_class
 have f5:=F.typeOf_object_class
 have f6:=F.slot_gs_get.lookup
 have f7:=F.slot_gs_set.lookup
 repeat (any_goals (first | assumption | (with_reducible refine L0.at ?_) | (with_reducible refine wpAny_bind (L0.at ?_)) | (with_reducible refine L1.at ?_) | (with_reducible refine wpAny_bind (L1.at ?_)) | wp_step))
 refine a3h X hx hc T.mo ?_
 repeat (any_goals (first | assumption | wp_step))
theorem a3P{M:Model}{nameV:Value}{Q:Unit→Shared→Prop}(X:K.In h)(T:ExcT K C)(hx:h.get? x=some o)(hc:o.cls=.ref C)(hq:Q () ⟨h,g,d,t,os⟩):wpAny M A (checkBuiltinCall "BaseException.__getattribute__" ⟨[.ref x,nameV],[]⟩) Q E ⟨h,g,d,t,os⟩:=by
 have hk:builtinKind "BaseException.__getattribute__" = some .slot:=by decide +kernel
 have hsplit:splitId "BaseException.__getattribute__" = some ("BaseException","__getattribute__"):=by decide +kernel
 have L0:Looks M h (typeOf (.ref x)) (.ref C):=hc▸(Looks.ld hx).andThen .now
 have L1:=looks_subIn (M:=M) X T.sb
 have L2:Looks M h (isInstance (.ref x) (.type "BaseException")) true:=L0.andThen L1
 have ha:=F.args_bexc_ga (.ref x) nameV
 simp only[checkBuiltinCall,hk,hsplit]
 refine wpAny_bind (L2.at ?_)
 repeat (first | assumption | wp_step)
theorem a3Q{tk:Tok}{Q:Value→Shared→Prop}(X:K.In h)(T:ExcT K C)(hx:h.get? x=some o)(hc:o.cls=.ref C)(hq:Q (.ref C) ⟨h,g,d,t,os⟩):wpAny (model prog w) A (getAttrBy (.ref x) (.str "__class__" tk) false) Q E ⟨h,g,d,t,os⟩:=by
 have L0:Looks (model prog w) h (typeOf (.ref x)) (.ref C):=hc▸(Looks.ld hx).andThen .now
 have L1:=looks_findIn (M:=model prog w) X T.ga
 have L2:=looks_findIn (M:=model prog w) X T.gt
 have f3:=F.attr_ValueError.ga.bind (.ref x)
 have hx2:(Value.builtin "BaseException.__getattribute__" == Value.builtin "object.__getattribute__")=false:=by decide +kernel
 have hx1:(onTheHeap (Value.ref C) && Value.builtin "BaseException.__getattribute__" == Value.builtin "object.__getattribute__")=false:=by rw[hx2];rfl
 repeat (any_goals (first | assumption | (with_reducible refine L0.at ?_) | (with_reducible refine wpAny_bind (L0.at ?_)) | (with_reducible refine L1.at ?_) | (with_reducible refine wpAny_bind (L1.at ?_)) | (with_reducible refine L2.at ?_) | (with_reducible refine wpAny_bind (L2.at ?_)) | wp_step))
 refine codeAny_call_builtin F.attr_ValueError.ga.plain F.entry_bexc_ga (a3P X T hx hc (a1Q X T hx hc ?_))
 repeat (any_goals (first | assumption | wp_step))
theorem a2t{Q:Option Value→Shared→Prop}(X:K.In h)(T:ExcT K C)(hx:h.get? x=some o)(hc:o.cls=.ref C)(hq:Q (some (.ref C)) ⟨h,g,d,t+1,os⟩):wpAny (model prog w) A (getAttr? (.ref x) "__class__") Q E ⟨h,g,d,t,os⟩:=by
 unfold getAttr? getAttrBy?
 repeat (any_goals (first | assumption | with_reducible apply a3Q X T hx hc | wp_step))
end
def b1o(x C:Addr)(h:Heap):Prop:=∃o vs,h.get? x=some o∧o.cls=.ref C∧o.data=.fields vs
theorem kitx_exc{K:Frag}{x C:Addr}(T:ExcT K C):KitX K (.ref x) (.ref C) (b1o x C) where
 ty:=fun _ _ _ ⟨_,_,hx,hc,_⟩=>hc▸(Looks.ld hx).andThen .now
 it:=fun M h X _=>by
  have hm:=T.mo
  unfold mroIn at hm
  obtain⟨cd,hcd⟩:∃cd,clsIn K C=some cd:=by
   cases q:clsIn K C with
   | none=>rw[q]at hm;cases hm
   | some cd=>exact⟨cd,rfl⟩
  unfold clsIn at hcd
  split at hcd
  ·rename_i c' d' cd' sl' ho
   intro A' Q' E' s' k q
   unfold isType loadHead
   exact wpAny_bind (wpAny_loadPart (k _ _ (X _ _ ho)) (wpAny_pure q))
  ·cases hcd
 ne:=fun h tp dd its n sl X htp=>by
  have hm:=T.mo
  unfold mroIn at hm
  obtain⟨cd,hcd⟩:∃cd,clsIn K C=some cd:=by
   cases q:clsIn K C with
   | none=>rw[q]at hm;cases hm
   | some cd=>exact⟨cd,rfl⟩
  refine Bool.eq_false_iff.mpr fun q=>?_
  have e:C=tp:=Value.ref.inj (beq_iff_eq.mp q)
  subst e
  unfold clsIn at hcd
  split at hcd
  ·rename_i c' d' cd' sl' ho
   have z:=(X _ _ ho).symm.trans htp
   cases z
  ·cases hcd
 ca:=fun{_ _ _ _ _ s} X ⟨_,_,hx,hc,_⟩ k=>by
  obtain⟨h,g,d,t,os⟩:=s
  exact a2t X T hx hc k
end PySem.W
namespace L2
open PySem PySem.Spec PyProof.Rows
abbrev TJ:=St→Hp→Str→(Str→Hp→Prop)→Prop
def a3R:List Value:=[.type "ValueError",.type "Exception",.type "BaseException",.type "object"]
theorem a9n{K:W.Frag}{h₀:Heap}{C:Addr}(KX:K.In h₀)(q:W.excIn K C a3R "ValueError.__new__" = true) :
  ∃bm N nm q bs hdct sn sub ab col dd k0 k1 k2 k3 k5 mN,h₀.get? C=some (excClassObj nm q C N bs bm hdct sn sub ab col dd k0 k1 k2 k3 k5 "ValueError.__new__")∧h₀.Ns N mN∧mN "__init__" = none∧OwnTail h₀ a3R bm:=by
 unfold W.excIn at q
 split at q
 ·rename_i dd cd sl ho
  split at q
  ·rename_i C' bm k0 k1 k2 k3 n k5 hm hs
   simp only[Bool.and_eq_true,beq_iff_eq,Bool.not_eq_true']at q
   obtain⟨⟨⟨⟨⟨rfl,rfl⟩,hdel⟩,ht⟩,hok⟩,hni⟩:=q
   obtain⟨nm,bs,mro,ns,qn,hd,sn,sub,ab,col,del⟩:=cd
   dsimp only at hm hdel hok hni
   subst hm hdel
   have hsl:sl = #[k0,k1,k2,k3,some (.builtin "ValueError.__new__"),k5]:=by
    obtain⟨l⟩:=sl
    simp only at hs
    rw[hs]
   subst hsl
   exact⟨bm,ns,nm,qn,bs,hd,sn,sub,ab,col,dd,k0,k1,k2,k3,k5,_,KX _ _ ho,.of_isNs (W.isNs_of_in KX hok),W.nsMap_none_of_in KX hok hni,W.tail_of_in KX ht⟩
  ·cases q
 ·cases q
section
variable {X:Cx}{E:XK}
theorem XAt.first{pins:List (Addr×Obj)}{σ:St}{H:Hp}{s:Shared}{h':Heap}{a:Addr}{cls:Value}{cx:Option Addr}{oe:Obj}{vs:Array Value}(I:Inv X pins σ H s)(k:∀b o,s.heap.get? b=some o→h'.get? b=some o)
  (n:s.heap.get? a=none) (g:h'.get? a=some oe) (hc:oe.cls=cls) (hd:oe.data=.fields vs) (z1:vs[1]? = some .none) (z2:vs[2]? = some (a1p cx)) :
  Inv X pins σ H { s with heap:=h' }∧XAt X pins H { s with heap:=h' } a cls cx (W.hideAll s.heap (B6 X.stack)) .new:=by
 have I':Inv X pins σ H { s with heap:=h' }:=I.kept (t':=s.toks) k
 have fr:H a=none:=by
  cases q:H a with
  | none=>rfl
  | some u=>obtain⟨o,e⟩:=(I.hok a u q).there;rw[n]at e;cases e
 refine⟨I',fr,fun b o e=>k b o (W.of_hideAll _ e),?_,(W.funFrames_hide I.stack fun env he b hb=>List.mem_filterMap.mpr ⟨env,he,hb⟩).of_keeps fun b o e _=>⟨o,k b o e,rfl⟩,fun b o e i n=>?_,⟨oe,vs,g,hc,hd,z1,z2⟩⟩
 ·cases q:(W.hideAll s.heap (B6 X.stack)).get? a with
  | none=>rfl
  | some o=>have:=W.of_hideAll _ q;rw[n]at this;cases this
 ·obtain⟨o1,e1⟩:=i.there I
  have e2:=k _ _ e1
  rw[e]at e2;cases e2
  exact W.hideAll_get _ e1 n
theorem XAt.made{pins:List (Addr×Obj)}{σ:St}{H:Hp}{s:Shared}{h':Heap}{a:Addr}{cls:Value}{vs:List Value}(I:Inv X pins σ H s)(m:Heap.MadeExcOf s.heap h' a cls vs) :
  Inv X pins σ H { s with heap:=h' }∧XAt X pins H { s with heap:=h' } a cls none (W.hideAll s.heap (B6 X.stack)) .new:=by
 obtain⟨t,he,_,_⟩:=m.there
 exact XAt.first I m.keeps m.new he rfl rfl rfl rfl
def a6g(C:Addr)(E:XK)(ta:TA):TS:=fun _ σ H=>ta σ H fun vs H1=>vs.length≤sizeLine∧E (.ref C) none H1
theorem a7C{x:Str}{C:Addr}{e₀:Expr}{g9:List Expr}{np cpos pos:Pos}{ta:TA}(acc:XAcc X E)(q:W.excIn X.K C a3R "ValueError.__new__" = true)(hg:Gl X x)(hm:X.mg x=some (.ref C))(ha:PA X (e₀::g9) ta)
  (hc:X.calm=true:=by rfl) (hex:X.ex=[]:=by rfl)
  (he:starEach (e₀::g9) X.env=(false,eval e₀ X.env)::starEach g9 X.env:=by rfl) (hplain:(backTo cpos (starEach g9 X.env)).any (·.1)=false:=by rfl) (hd:(x == ("__debug__" : Str))=false:=by decide) :
  PS X (.Raise (some (.Call (.Name x np) (e₀::g9) [] cpos)) none pos) (a6g C E ta):=by
 intro pins s σ H D I h
 obtain⟨tl,N,nm,qn,bs,hdct,sn,sub,ab,col,dd,k0,k1,k2,k3,k5,mN,hC,hN,hni,T⟩:=a9n I.mod.kin q
 have hp:=ha cpos pins s σ H _ I h
 rw[he]at hp
 refine wpAny_Raise_call_subT (C:=C) (nm:=nm) (q:=qn) (N:=N) (bs:=bs) (bm:=tl) (hdct:=hdct) (sn:=sn) (sub:=sub) (ab:=ab) (col:=col) (dd:=dd) (k0:=k0) (k1:=k1) (k2:=k2) (k3:=k3) (k5:=k5)
  PySem.F.excBase_ValueError (mN:=mN) (T.hasType PySem.F.excBase_ValueError.hasBase) (I.ok.hd hc) (by rw[he];show(false || (backTo cpos (starEach g9 X.env)).any (·.1))=false;rw[hplain];rfl) hni (a2k I hg hm ⟨rfl,?_⟩ hd)
 rw[he]
 refine Calls.evalArgs_plain (i2 hp fun us s2 ⟨vs,H2,I2,rv,z,hE⟩=>⟨rfl,by rw[← rv.length];exact z,I2.bk _ _ hC,hN.keeps I2.bk,T.keeps I2.bk,fun h' e m=>?_⟩)
 obtain⟨I3,x3⟩:=XAt.made I2 m
 exact acc pins σ H2 _ e _ none _ .new I3 x3 hE
end
def a5A(a:Addr)(cls:Value)(cx:Option Addr):HO:=.ext fun h=>∃o vs,h.get? a=some o∧o.cls=cls∧o.data=.fields vs∧vs[2]? = some (a1p cx)
section
variable {X:Cx}{pins:List (Addr×Obj)}{σ:St}{H:Hp}{s:Shared}{a:Addr}{cls:Value}{cx:Option Addr}{B:Heap}{ph:Ph}
theorem XAt.nofr(x:XAt X pins H s a cls cx B ph):a ∉ B6 X.stack:=fun z=>by
 obtain⟨oe,vs,e,_,d,_⟩:=x.tr.there
 obtain⟨_,o,e',d'⟩:=x.frames.mem z
 rw[e]at e';cases e'
 exact d' vs d
end
theorem x6{X:Cx}{P:Program}{w:World}:L7 (n4 P w) X E0:=fun _ _ _ _ _ _ _ h=>by
 obtain⟨_,_,_,_,_,_,_,_,_,_,_,_,_,_,_,_,hE⟩:=h
 exact hE.elim
section
variable {P:Program}{w:World}{K:W.Frag}{mg:Str→Option Value}{base:Heap}
theorem Fun.okE{x qual:Str}{st:Stmt}{f:Addr}{fd:FuncData}{N ps:List Str}{k:Nat}{sp:Sp}(F:Fun K x qual st f fd)(S:FnScope N ps (a8 st))(len:∀vs H Q E,sp vs H Q E→vs.length=ps.length)
  (hbody:∀(cdv:Value) (A:Around) (outer:List Env) (s:Shared) (H:Hp) (vs:List V) (Q:VK) (E:XK),Room k (A.deeper (envOfC qual (a8 st) s.heap.objs.size f cdv))→sp vs H Q E →
   ∃t,PSs (L8 (n4 P w) P w K mg base N qual (a8 st) f cdv A outer s H E) (i5 st) t∧t { nx:=fun _ H'=>Q .non H',rt:=Q } (start N vs) H):FnOk P w K mg base (n4 P w) (k+1) f fd ps sp:=by
 obtain⟨oc,od,kV,doc,pm,an,cdv,ct,osl,rfl,lk,hcd⟩:=F.ex
 exact a1L lk hcd S len fun A outer s H vs Q E hr hsp=>hbody cdv A outer s H vs Q E hr hsp
structure FunD(K:W.Frag)(x qual:Str)(st:Stmt)(dT:Addr)(f:Addr)(fd:FuncData):Prop where
 ex:∃(oc:Value) (od:Option Addr) (kV doc pm:Value) (an:Option Addr) (cdv ct:Value) (osl:Array (Option Value)),
  fd=W.fnOf x qual (i9 st) (i5 st) (a8 st) (.ref dT) kV doc pm an cdv ct∧K.lookup f=some ⟨oc,od,.func fd,osl⟩∧W.codeIn K cdv qual=true
 kp:W.keepIn K (.ref f)=true
theorem a9o{x qual:Str}{st:Stmt}{dT f:Addr}{oc:Value}{od an:Option Addr}{osl:Array (Option Value)}{kV doc pm cdv ct:Value}(l:K.lookup f=some ⟨oc,od,.func (W.fnOf x qual (i9 st) (i5 st) (a8 st) (.ref dT) kV doc pm an cdv ct),osl⟩)
  (c:W.codeIn K cdv qual=true) (k:W.keepIn K (.ref f)=true):FunD K x qual st dT f (W.fnOf x qual (i9 st) (i5 st) (a8 st) (.ref dT) kV doc pm an cdv ct):=⟨⟨oc,od,kV,doc,pm,an,cdv,ct,osl,rfl,l,c⟩,k⟩
theorem FunD.okE{x qual:Str}{st:Stmt}{dT f:Addr}{fd:FuncData}{N ps:List Str}{k:Nat}{sp:Sp}(F:FunD K x qual st dT f fd)(S:FnScope N ps (a8 st))(len:∀vs H Q E,sp vs H Q E→vs.length=ps.length)
  (hbody:∀(cdv:Value) (A:Around) (outer:List Env) (s:Shared) (H:Hp) (vs:List V) (Q:VK) (E:XK),Room k (A.deeper (envOfC qual (a8 st) s.heap.objs.size f cdv))→sp vs H Q E →
   ∃t,PSs (L8 (n4 P w) P w K mg base N qual (a8 st) f cdv A outer s H E) (i5 st) t∧t { nx:=fun _ H'=>Q .non H',rt:=Q } (start N vs) H):FnOk P w K mg base (n4 P w) (k+1) f fd ps sp:=by
 obtain⟨oc,od,kV,doc,pm,an,cdv,ct,osl,rfl,lk,hcd⟩:=F.ex
 exact a1L lk hcd S len fun A outer s H vs Q E hr hsp=>hbody cdv A outer s H vs Q E hr hsp
theorem FunD.binds{x qual:Str}{st:Stmt}{dT f:Addr}{fd:FuncData}{ps:List Str}{ds:List Value}{items:List Value}{o:Obj}{nn:Nat}(F:FunD K x qual st dT f fd)(ho:K.lookup dT=some o)(hs:o.data=.seq items.toArray nn)
  (h:∀(kV doc pm:Value) (an:Option Addr) (cdv ct:Value) (us:List Value),(us++ds).length=ps.length→∃k:Option (Array Value)→Sem (List (Str×Value)),
   bindArgs (W.fnOf x qual (i9 st) (i5 st) (a8 st) (.ref dT) kV doc pm an cdv ct) ⟨us,[]⟩=seqItems? (.ref dT) >>= k∧k (some items.toArray)=pure (ps.zip (us++ds))):Binds K fd ps ds:=by
 obtain⟨oc,od,kV,doc,pm,an,cdv,ct,osl,rfl,lk,hcd⟩:=F.ex
 intro s us KX hl
 obtain⟨k,h1,h2⟩:=h kV doc pm an cdv ct us hl
 exact W.binds_K KX rfl ho hs h1 h2
end
structure RoomW(k:Nat)(A:Around):Prop where
 dp:A.depth+3*k+5<recursionLimit
 un:A.units+16*k+200<cLine
theorem Room.w{k:Nat}{A:Around}(r:Room k A)(h:Option Value):RoomW k (A.mark h):=⟨r.dp,r.un⟩
theorem RoomW.deeper{k:Nat}{A:Around}(r:RoomW (k+1) A)(env:Env):RoomW k (A.deeper env) :=
 ⟨by have:=r.dp;show A.depth+1+3*k+5<_;omega,by have:=r.un;show A.units+3+16*k+200<_;omega⟩
def b1p:V→Option Value
 | .ty n=>some (.type n)
 | .ref a=>some (.ref a)
 | _=>none
theorem a9p{y:V}{c u:Value}(e:b1p y=some c)(r:RelV y u):u=c:=by
 cases y with
 | ty n=>cases e;exact r
 | ref a=>cases e;exact r
 | _=>cases e
inductive TyX(K:W.Frag)(H:Hp):V→Value→Prop where
 | of {x:V} {t:Value} (h:TyOf K H x t):TyX K H x t
 | exc {a C:Addr} {cx:Option Addr} (h:H a=some (a5A a (.ref C) cx)) (T:W.ExcT K C):TyX K H (.ref a) (.ref C)
section
variable {X:Cx}{pins:List (Addr×Obj)}{σ:St}{H:Hp}{s:Shared}{A:Around}{E:Value→Shared→Prop}{Q:Value→Shared→Prop}
theorem TyX.kit{x:V}{u t:Value}(I:Inv X pins σ H s)(rx:RelV x u)(ty:TyX X.K H x t):∃Φ:Heap→Prop,W.KitX X.K u t Φ∧Φ s.heap∧u≠.builtin "__main__.__loader__#opaque" := by
 cases ty with
 | @exc a C cx h T =>
  cases (show u=Value.ref a from rx)
  obtain⟨⟨o,vs,h1,h2,h3,_⟩,_⟩:=(show ObjOk X.prog X.w H s.heap a (a5A a (.ref C) cx)from I.hok a _ h)
  exact⟨_,W.kitx_exc T,⟨o,vs,h1,h2,h3⟩,fun z=>nomatch z⟩
 | of h =>
 cases h with
 | non=>cases (show u=Value.none from rx);exact⟨_,W.kitx_none,True.intro,fun z=>nomatch z⟩
 | bl y=>cases (show u=Value.bool y from rx);exact⟨_,W.kitx_bool,True.intro,fun z=>nomatch z⟩
 | int i=>obtain⟨t,q⟩:=(show ∃t,u=Value.int i t from rx);cases q;exact⟨_,W.kitx_int,True.intro,fun z=>nomatch z⟩
 | str y=>obtain⟨t,q⟩:=(show ∃t,u=Value.str y t from rx);cases q;exact⟨_,W.kitx_str,True.intro,fun z=>nomatch z⟩
 | flt y=>obtain⟨t,q⟩:=(show ∃t,u=Value.float y t from rx);cases q;exact⟨_,W.kitx_float,True.intro,fun z=>nomatch z⟩
 | @lst a xs ea =>
  cases (show u=Value.ref a from rx)
  obtain⟨_,_,n,_,h1⟩:=(show ObjOk X.prog X.w H s.heap a (.lst xs)from I.hok a _ ea)
  exact⟨_,W.kitx_list,⟨_,h1,rfl⟩,fun z=>nomatch z⟩
 | @frz a ob xs ea =>
  cases (show u=Value.ref a from rx)
  obtain⟨_,_,_,n,_,h1⟩:=(show ObjOk X.prog X.w H s.heap a (.frz ob (.lst xs))from I.hok a _ ea)
  exact⟨_,W.kitx_list,⟨_,h1,rfl⟩,fun z=>nomatch z⟩
 | @tup a xs ea =>
  cases (show u=Value.ref a from rx)
  obtain⟨_,_,_,p⟩:=(show ObjOk X.prog X.w H s.heap a (.tup xs)from I.hok a _ ea)
  obtain⟨o,h1,h2,_⟩:=p
  exact⟨_,W.kitx_tuple,⟨o,h1,h2⟩,fun z=>nomatch z⟩
 | @dK a kvs ea =>
  cases (show u=Value.ref a from rx)
  obtain⟨_,_,vs,_,p⟩:=(show ObjOk X.prog X.w H s.heap a (.dK kvs)from I.hok a _ ea)
  obtain⟨o,es,ep,h1,h2,_⟩:=p
  exact⟨_,W.kitx_dict,⟨o,h1,h2.1⟩,fun z=>nomatch z⟩
 | @dT a kvs ea =>
  cases (show u=Value.ref a from rx)
  obtain⟨_,_,xs,_,o,es,ep,h1,h2,_⟩:=(show ObjOk X.prog X.w H s.heap a (.dT kvs)from I.hok a _ ea)
  exact⟨_,W.kitx_dict,⟨o,h1,h2.1⟩,fun z=>nomatch z⟩
 | @ins a C dx fs ea cl ha hn htk hm =>
  cases (show u=Value.ref a from rx)
  obtain⟨mA,O,_⟩:=a4V I.hok ea
  obtain⟨od,J,_⟩:=O.look
  exact⟨_,W.kitx_own (cl.get _) cl.hd ha hn htk hm,J,fun z=>nomatch z⟩
def a5B(K:W.Frag):List V→Hp→VK→Prop:=fun xs H Q=>∃x y t c b,xs=[x,y]∧b1p y=some c∧TyX K H x t∧W.kitOne K t c=some b∧Q (.bl b) H
theorem a7D:CallR X (.builtin "isinstance") (a5B X.K):=by
 intro pins s σ H xs us Q I r h
 obtain⟨x,y,t,c,b,rfl,e1,e2,e3,q⟩:=h
 obtain⟨u,v,rfl,r1,r2⟩:=b2J r
 obtain rfl:=a9p e1 r2
 obtain⟨Φ,Z,p,n⟩:=e2.kit I r1
 exact W.kia_one Z I.kIn p e3 n fun tk=>⟨.bl b,H,I.tok _,rfl,q⟩
end
def a7E:List V→List V→Bool
 | [],[]=>true
 | x::xs,y::ys=>eqV x y && a7E xs ys
 | _,_=>false
section
variable {X:Cx}{pins:List (Addr×Obj)}{σ:St}{H:Hp}{s:Shared}
theorem a2u:OpR X (binaryOp .Mult) (rI IntMulOk fun i j=>.int (i*j)):=opI fun _ _ _ _ _ _ _ hc q=>mul_int q hc
theorem z0:OpR X (binaryOp .FloorDiv) (rI (fun _ j=>0<j∧j.natAbs.log2<9000) fun i j=>.int (i/j)):=opI fun i j _ _ _ _ _ hc q=>by
 have h0:j≠0:=by have:=hc.1;omega
 refine floordiv_int h0 ?_ (.inl (PyProof.noPylong_of_log2 hc.2))
 rw[Int.fdiv_eq_ediv_of_nonneg _ (Int.le_of_lt hc.1)]
 exact q
end
open PySem.W PySem.Calls
theorem a4z{ns:List Int}(h:WData.layableAll [WData.list (ns.map WData.int)]=true):∀n∈ns,Builtin.Int.intBits n≤2 ^ 20:=fun n hn=>by
 have h1:(WData.list (ns.map WData.int)).layable=true:=layableW_arg h _ (List.mem_singleton.mpr rfl)
 have h2:=layableW_item h1 (WData.int n) (List.mem_map.mpr ⟨n,hn,rfl⟩)
 have h3:=(layableW_iff.mp h2).2.2
 simpa only[WData.weight,Builtin.Int.intBits]using h3
theorem b2L{P:Program}{w:World}{outer:List Env}(H:Hp)(s:Shared)(e:Value)(s':Shared)(h:n4 P w outer H s (fun _ _ _=>False) e s'):False:=by
 obtain⟨_,_,_,_,_,_,_,_,_,_,_,_,_,_,_,_,hE⟩:=h
 exact hE
structure Own(P:Program)(w:World)(K:W.Frag)(mg:Str→Option Value)(base:Heap)(k:Nat)(x:Str)(ps:List Str)(sp:Sp):Prop where
 ex:∃f fd,FnOk P w K mg base (n4 P w) k f fd ps sp∧Binds K fd ps []∧W.keepIn K (.ref f)=true∧mg x=some (.ref f)
structure OwnD(P:Program)(w:World)(K:W.Frag)(mg:Str→Option Value)(base:Heap)(k:Nat)(x:Str)(ps:List Str)(sp:Sp)(d:V):Prop where
 ex:∃f fd du,FnOk P w K mg base (n4 P w) k f fd ps sp∧Binds K fd ps []∧Binds K fd ps [du]∧RelV d du∧W.keepIn K (.ref f)=true∧mg x=some (.ref f)
section
variable {X:Cx}{k k':Nat}{ps:List Str}{sp:Sp}{x:Str}{p pos:Pos}{e:Expr}{es:List Expr}{t:TA}{E:XK}{d:V}
theorem t9(G:Own X.prog X.w X.K X.mg X.base k x ps sp)(hr:Room k' X.A)(hk:k≤k')(hx:L7 (n4 X.prog X.w) X E)(ha:PA X (e::es) t)(hg:Gl X x:=by rfl)
  (hdb:(x == ("__debug__" : Str))=false:=by decide) (he:starEach (e::es) X.env=(false,eval e X.env)::starEach es X.env:=by rfl) (hpl:(backTo pos (starEach es X.env)).any (·.1)=false:=by rfl) :
  PE X (.Call (.Name x p) (e::es) [] pos) (R8 sp [] E t):=by
 obtain⟨f,fd,F,b,kp,m⟩:=G.ex
 exact a9f F (hr.mono hk) hg m kp b .nil hx ha hdb he hpl
end
theorem b1q:bootBuiltins "int" = some (.type "int"):=by decide +kernel
theorem a9q:bootBuiltins "bool" = some (.type "bool"):=by decide +kernel
theorem a0W:bootBuiltins "list" = some (.type "list"):=by decide +kernel
theorem a3S:bootBuiltins "tuple" = some (.type "tuple"):=by decide +kernel
theorem E2:bootBuiltins "isinstance" = some (.builtin "isinstance"):=by decide +kernel
theorem E3:bootBuiltins "len" = some (.builtin "len"):=by decide +kernel
theorem U2{H:Hp}{p:Addr}(h:H p=none)(o:HO):Same H (upd H p o):=fun b u q=>by rw[a7 (g6 q h)];exact q
def Scr(K:W.Frag)(H:Hp)(a:Addr)(xs:List V):Prop:=(∃o,H a=some (.frz o (.lst xs))) ∨
  ∃(o:Obj) (its:Array Value) (n:Nat),K.lookup a=some o∧o.cls=.type "list"∧o.dict=none∧o.data=.seq its n∧its.size≤sizeLine∧Vals xs its.toList
theorem Scr.seq{K:W.Frag}{H:Hp}{a:Addr}{xs:List V}(h:Scr K H a xs):SqL K H a xs:=h.elim (fun z=>.inl (.inr z)) .inr
theorem Scr.of{K:W.Frag}{H:Hp}{a:Addr}{xs:List V}(h:SqL K H a xs)(o:b3q H):Scr K H a xs:=by
 rcases h with(h | h) | h
 ·rcases o a with z | ⟨o,ys,z⟩
  ·rw[h]at z;cases z
  ·rw[h]at z;cases z
 ·exact .inl h
 ·exact .inr h
theorem Scr.same{K:W.Frag}{H H':Hp}{a:Addr}{xs:List V}(g:Same H H')(h:Scr K H a xs):Scr K H' a xs:=h.elim (fun⟨o,z⟩=>.inl ⟨o,g _ _ z⟩) .inr
theorem Scr.upd{K:W.Frag}{H:Hp}{a l:Addr}{xs ys:List V}{o:HO}(hl:H l=some (.lst ys))(h:Scr K H a xs):Scr K (L2.upd H l o) a xs:=h.elim (fun⟨ob,z⟩=>.inl ⟨ob,by rw[a7 (b2H z hl (by intro q;cases q))];exact z⟩) .inr
theorem small{n:Nat}(h:n≤1000):n≤sizeLine:=Nat.le_of_lt (a6f h)
section
variable {prog:Program}{w:World}{A:Around}{R:Result→Shared→Prop}{s:Shared}
theorem a4A{elt target iter:Expr}{ifs:List Expr}{scope:Scope}{pos:Pos}{it acc:Value}{env:Env}{N:Value→Shared→Prop}(hN:N=notedBy (model prog w) A env fun e s'=>R (.error e) s')(I:Nat→Shared→Prop)
  (turn:∀n s,I n s→wpAny (model prog w) A (pyNext it) (fun r s₁=>match r with
   | none=>R (.ok .next) s₁
   | some v=>wpAny (model prog w) A (letOwnedTupleGo target it v) (fun _ s₁'=>wpAny (model prog w) A (assign target env v) (fun _ s₂ =>
     wpAny (model prog w) A (forIn ifs true fun c r=>if r=true then do let ok ← isTrue c env (eval c env);pure (ForInStep.yield ok)else pure (ForInStep.yield r)) (fun ok s₃ =>
      if ok=true then wpAny (model prog w) A (eval elt env) (fun x s₄ =>
       wpAny (model prog w) A (call (.builtin "list.append") [acc,x]) (fun _ s₅=>∃m,m<n∧I m s₅) N s₄) N s₃
      else ∃m,m<n∧I m s₃) N s₂) N s₁') N s₁) N s)
  (n:Nat) (h:I n s) :
  codeAny (model prog w) A (.compLoop (.ListComp elt [⟨target,iter,ifs,0⟩] scope pos) 0 it acc env) R s:=by
 subst hN
 refine codeAny_loop rfl I (fun k z q=>?_) n h
 show wpAny _ A ((compTurn (.ListComp elt [⟨target,iter,ifs,0⟩] scope pos) 0 it acc env).onRaise (fun ex=>do noteFrame ex env;theTreesLotGoes ex)) _ _ z
 refine wpAny_noted ?_
 rw[compTurn_list]
 refine wpAny_bind (wpAny_standAt (wpAny_bind (i2 (turn k z q) fun r z1 q1=>?_)))
 cases r with
 | none=>exact wpAny_pure q1
 | some v =>
  refine wpAny_bind (i2 q1 fun _ z2 q2=>?_)
  refine wpAny_bind (i2 q2 fun _ z3 q3=>?_)
  refine wpAny_bind (i2 q3 fun ok z4 q4=>?_)
  cases ok with
  | false=>exact wpAny_pure ⟨rfl,q4⟩
  | true=>exact wpAny_bind (wpAny_bind (i2 q4 fun x z5 q5=>wpAny_bind (i2 q5 fun _ z6 q6=>wpAny_pure (wpAny_pure ⟨rfl,q6⟩))))
end
def v7(cells:List (Str×Addr)):List (Str×NameKind)→List (Str×Addr)→List (Str×Addr)
 | [],acc=>acc
 | (n,k)::r,acc=>if k == .free then(match cells.lookup n with
   | some c=>v7 cells r ((n,c)::acc)
   | none=>v7 cells r acc)else v7 cells r acc
theorem V9{cells:List (Str×Addr)}{x:Str}{c:Addr}:∀{names:List (Str×NameKind)} {acc:List (Str×Addr)},(∀d,acc.lookup x=some d→cells.lookup x=some d)→(v7 cells names acc).lookup x=some c→cells.lookup x=some c
 | [],acc,h,e=>h c e
 | (n,k)::r,acc,h,e=>by
  unfold v7 at e
  split at e
  ·split at e
   ·rename_i c' hc'
    refine V9 (fun d q=>?_) e
    rw[List.lookup_cons]at q
    split at q
    ·rename_i hx
     have hx':x=n:=by simpa using hx
     cases q
     rw[hx'];exact hc'
    ·exact h d q
   ·exact V9 h e
  ·exact V9 h e
theorem O5{cells:List (Str×Addr)}{x:Str}:∀{names:List (Str×NameKind)} {acc:List (Str×Addr)},(∃d,acc.lookup x=some d)→∃d,(v7 cells names acc).lookup x=some d
 | [],acc,h=>h
 | (n,k)::r,acc,h=>by
  unfold v7
  split
  ·split
   ·refine O5 ?_
    rw[List.lookup_cons]
    split
    ·exact⟨_,rfl⟩
    ·exact h
   ·exact O5 h
  ·exact O5 h
theorem G6{cells:List (Str×Addr)}{x:Str}:∀{names:List (Str×NameKind)} {acc:List (Str×Addr)},(x,NameKind.free)∈names→(∃c,cells.lookup x=some c)→∃d,(v7 cells names acc).lookup x=some d
 | [],acc,h,_=>by simp at h
 | (n,k)::r,acc,h,hc=>by
  unfold v7
  rcases List.mem_cons.mp h with e | h
  ·cases e
   obtain⟨c,hc⟩:=hc
   rw[if_pos (by rfl),hc]
   exact O5 ⟨c,by simp[List.lookup_cons]⟩
  ·split
   ·split
    ·exact G6 h hc
    ·exact G6 h hc
   ·exact G6 h hc
theorem Y5{env:Env}:∀(names:List (Str×NameKind)) (acc:List (Str×Addr)),(∀y∈names,y.2=.free→∃c,env.cells.lookup y.1=some c) →
  (forIn names acc fun(x:Str×NameKind) (cs:List (Str×Addr))=>if(x.2 == NameKind.free)=true then do let a ← cellOf env x.1;pure (ForInStep.yield ((x.1,a)::cs))else pure (ForInStep.yield cs):Sem (List (Str×Addr)))=pure (v7 env.cells names acc)
 | [],acc,_=>rfl
 | (n,k)::r,acc,h=>by
  rw[List.forIn_cons]
  unfold v7
  by_cases hk:(k == NameKind.free)=true
  ·obtain⟨c,hc⟩:=h (n,k) List.mem_cons_self (by simpa using hk)
   have e:cellOf env n=pure c:=by unfold cellOf;rw[hc]
   rw[if_pos hk,if_pos hk,hc,e]
   exact Y5 r _ fun y hy=>h y (List.mem_cons_of_mem _ hy)
  ·rw[if_neg hk,if_neg hk]
   exact Y5 r acc fun y hy=>h y (List.mem_cons_of_mem _ hy)
theorem X0{scope:Scope}{env:Env}(h:∀y∈scope.names,y.2=.free→∃c,env.cells.lookup y.1=some c):closureFor scope env=pure (v7 env.cells scope.names []):=by
 have:=Y5 (env:=env) scope.names [] h
 unfold closureFor
 exact(congrArg (· >>= pure) this).trans (by first | rfl | simp)
theorem J3{env:Env}:∀{names:List (Str×NameKind)} {x:Str} {k':NameKind},
  (names.map fun(n,k)=>if(k == NameKind.free && env.scope.kind == .function && env.kindOf n == some .cell)then(n,NameKind.cell)else(n,k)).lookup x=some k' →
  ∃k,names.lookup x=some k∧(k'=k∨(k=.free∧k'=.cell))
 | [],_,_,h=>by simp at h
 | (n,k)::r,x,k',h=>by
  rw[List.map_cons]at h
  dsimp only at h
  by_cases hc:(k == NameKind.free && env.scope.kind == .function && env.kindOf n == some .cell)=true
  ·rw[if_pos hc,List.lookup_cons]at h
   rw[List.lookup_cons]
   split at h
   ·rename_i hx
    cases h
    have hk:k=.free:=by
     have:=(Bool.and_eq_true _ _▸(Bool.and_eq_true _ _▸hc).1).1
     simpa using this
    exact⟨k,rfl,.inr ⟨hk,rfl⟩⟩
   ·rename_i hx
    obtain⟨k2,q1,q2⟩:=J3 h
    exact⟨k2,q1,q2⟩
  ·rw[if_neg hc,List.lookup_cons]at h
   rw[List.lookup_cons]
   split at h
   ·rename_i hx
    cases h
    exact⟨k,rfl,.inl rfl⟩
   ·rename_i hx
    obtain⟨k2,q1,q2⟩:=J3 h
    exact⟨k2,q1,q2⟩
theorem F7{env:Env}:∀{names:List (Str×NameKind)} {x:Str},names.lookup x=some .free →
  (names.map fun(n,k)=>if(k == NameKind.free && env.scope.kind == .function && env.kindOf n == some .cell)then(n,NameKind.cell)else(n,k)).lookup x=some .cell ∨
  (names.map fun(n,k)=>if(k == NameKind.free && env.scope.kind == .function && env.kindOf n == some .cell)then(n,NameKind.cell)else(n,k)).lookup x=some .free
 | [],_,h=>by simp at h
 | (n,k)::r,x,h=>by
  rw[List.map_cons]
  dsimp only
  rw[List.lookup_cons]at h
  by_cases hc:(k == NameKind.free && env.scope.kind == .function && env.kindOf n == some .cell)=true
  ·rw[if_pos hc,List.lookup_cons]
   split at h
   ·rename_i hx
    left;rfl
   ·rename_i hx
    exact F7 (env:=env) h
  ·rw[if_neg hc,List.lookup_cons]
   split at h
   ·rename_i hx
    right;exact h
   ·rename_i hx
    exact F7 (env:=env) h
structure CompSc(Sc scope:Scope)(N Nc:List Str)(k:Nat)(js:List Nat):Prop where
 cell:∀y∈scope.names,y.2≠.cell
 kind:scope.kind=.function
 names:∀y∈scope.names,y.2=.local→scope.names.lookup y.1=some .local
 free:∀y∈scope.names,y.2=.free→Sc.names.lookup y.1=some .cell∨Sc.names.lookup y.1=some .free
 nd:Nc.Nodup
 len:Nc.length=k+js.length
 cap:(Nc.drop k).map some=js.map fun j=>N[j]?
 caps:∀x∈Nc.drop k,scope.names.lookup x=some .free
def k7(k:Nat)(js:List Nat)(σ:St):St:=List.replicate k none++js.map fun j=>(σ[j]?).getD none
theorem B3{names:List (Str×NameKind)}{x:Str}{k:NameKind}(h:names.lookup x=some k):(x,k)∈names:=PySem.mem_of_lookup h
abbrev u0(X:Cx)(scope:Scope)(Nc:List Str)(C:Addr)(s3:Shared)(H3:Hp)(fp:List Addr)(xe:Value→Shared→Prop):Cx :=
 { X with N:=Nc,s₀:=s3,H₀:=H3,env:=compEnvC scope (v7 X.env.cells scope.names []) C X.env,outer:=X.stack,ex:=fp,fn:=fun _=>false,pn:=[],xe:=xe }
section
variable {X:Cx}{pins:List (Addr×Obj)}{σ:St}{H3:Hp}{s3:Shared}{scope:Scope}{Nc:List Str}{k:Nat}{js:List Nat}{fp:List Addr}{xe:Value→Shared→Prop}{h₁:Heap}{m₀:Str→Option Value}{tk:Nat}
theorem a1R(I:Inv X pins σ H3 s3)(S:CompSc X.env.scope scope X.N Nc k js):∀y∈scope.names,y.2=.free→∃c,X.env.cells.lookup y.1=some c:=fun y hy hk=>I.ok.has y.1 (S.free y hy hk)
theorem v9{x:Str}{c:Addr}(e:(v7 X.env.cells scope.names []).lookup x=some c):X.env.cells.lookup x=some c:=V9 (fun d q=>by simp at q) e
theorem a7F(I:Inv X pins σ H3 s3)(S:CompSc X.env.scope scope X.N Nc k js)(hf:∀b∈fp,FpOk X pins H3 b)(hfo:∀b∈fp,b<s3.heap.objs.size)(hns:h₁.Ns s3.heap.objs.size m₀)(old:∀b o,s3.heap.get? b=some o→h₁.get? b=some o) :
  Inv (u0 X scope Nc s3.heap.objs.size s3 H3 fp xe) [] (k7 k js σ) H3 { s3 with heap:=h₁,toks:=tk }:=by
 have ok:=I.ok
 have hb0:∀b o,X.base.get? b=some o→b<X.s₀.heap.objs.size:=fun b o e=>Nat.lt_of_lt_of_le (Heap.lt_size e) ok.bsz
 refine⟨⟨ok.mod,S.kind,ok.glob,ok.blt,Nat.le_refl _,fun x y c h1 h2=>ok.inj x y c (v9 h1) (v9 h2),fun x hx=>?_,(fun x c z=>nomatch z),ok.hd,ok.frames,.inl rfl,fun b hb=>⟨Nat.ne_of_lt (hfo b hb),fun x c e=>(hf b hb).2.2.2.2.1 x c (v9 e)⟩,I.bs,Nat.le_trans ok.bsz I.sz,fun b o e hb=>?_,fun b hb z=>?_,I.stack,I.stkFree⟩,
  rfl,I.bare,Un.kept old,⟨m₀,hns,fun i x v e1 e2 e3=>?_⟩,fun x c e=>?_,I.hok.fresh (Nat.le_refl _),fun x c e=>I.freeC x c (v9 e),fun p hp=>absurd (show p∈([]:List (Addr×Obj))from hp) (by simp),I.hok.kept old,?_⟩
 ·have hx:(relabel scope X.env).names.lookup x=some .cell∨(relabel scope X.env).names.lookup x=some .free:=hx
  have hfree:scope.names.lookup x=some .free:=by
   rcases hx with hx | hx
   ·obtain⟨k2,q1,q2⟩:=J3 (env:=X.env) hx
    rcases q2 with q2 | ⟨q2,_⟩
    ·subst q2;exact absurd rfl (S.cell _ (B3 q1))
    ·rw[q2]at q1;exact q1
   ·obtain⟨k2,q1,q2⟩:=J3 (env:=X.env) hx
    rcases q2 with q2 | ⟨q2,q3⟩
    ·subst q2;exact q1
    ·cases q3
  exact G6 (B3 hfree) (ok.has x (S.free _ (B3 hfree) rfl))
 ·rcases(hf b hb).2.2.2.1 with z | z
  ·exact ok.noex b o e z
  ·exact absurd (Nat.lt_of_lt_of_le (hb0 b o e) z) (Nat.lt_irrefl _)
 ·rcases List.mem_cons.mp (I.stkSub b z)with q | q
  ·exact(hf b hb).2.1 q
  ·exact(hf b hb).2.2.1 q
 ·have hlen:(List.replicate k (none:Option V)).length=k:=List.length_replicate
  by_cases hi:i<k
  ·unfold k7 at e2
   rw[List.getElem?_append_left (by omega),List.getElem?_replicate]at e2
   split at e2<;>cases e2
  ·unfold k7 at e2
   rw[List.getElem?_append_right (by omega),hlen,List.getElem?_map]at e2
   cases hj:js[i-k]? with
   | none=>rw[hj]at e2;cases e2
   | some j =>
    rw[hj]at e2
    have e2':(σ[j]?).getD none=some v:=Option.some.inj e2
    have hσ:σ[j]? = some (some v):=by
     cases q:σ[j]? with
     | none=>rw[q]at e2';cases e2'
     | some y=>rw[q]at e2';simp at e2';rw[e2']
    have hx:(Nc.drop k)[i-k]? = some x:=by rw[List.getElem?_drop];rw[show k+(i-k)=i by omega];exact e1
    have hNj:X.N[j]? = some x:=by
     have:=congrArg (fun l=>l[i-k]?) S.cap
     simp only[List.getElem?_map,hx,hj,Option.map_some]at this
     exact(Option.some.inj this).symm
    have hfr:scope.names.lookup x=some .free:=S.caps x (List.mem_of_getElem? hx)
    have hk:=S.free _ (B3 hfr) rfl
    obtain⟨m,hn,hl⟩:=I.loc
    obtain⟨u,r,l⟩:=hl j x v hNj hσ (.inr hk)
    refine⟨u,r,.inr ⟨F7 hfr,?_⟩⟩
    rcases l with⟨l1,_⟩ | ⟨_,c,hc,hcell⟩
    ·have l1:X.env.scope.names.lookup x=some .local:=l1
     rcases hk with hk | hk
     ·rw[l1]at hk;cases hk
     ·rw[l1]at hk;cases hk
    ·obtain⟨d,hd⟩:=G6 (cells:=X.env.cells) (acc:=[]) (B3 hfr) ⟨c,hc⟩
     have:=v9 hd
     rw[hc]at this;cases this
     obtain⟨o,ho,hdd⟩:=hcell
     exact⟨c,hd,⟨o,old _ _ ho,hdd⟩⟩
 ·obtain⟨v,o,ho,hd⟩:=I.cell x c (v9 e)
  exact⟨v,o,old _ _ ho,hd⟩
 ·unfold k7
  rw[List.length_append,List.length_replicate,List.length_map]
  exact S.len.symm
end
def PF(X:Cx)(ifs:List Expr)(t:TT):Prop :=
 ∀(pins:List (Addr×Obj)) (s:Shared) (σ:St) (H:Hp) (Q:Bool→Hp→Prop),Inv X pins σ H s→t σ H Q →
  wpAny (model X.prog X.w) X.A (forIn ifs true fun c r=>if r=true then do let ok ← isTrue c X.env (eval c X.env);pure (ForInStep.yield ok)else pure (ForInStep.yield r)) (TP X pins σ Q) X.xe s
def a8T:TT:=fun _ H Q=>Q true H
theorem U3{X:Cx}:PF X [] a8T:=fun pins s σ H Q I h=>wpAny_tests_nil ⟨H,I,h⟩
theorem b1r{X:Cx}{c:Expr}{t:TT}(h:PT X c t):PF X [c] t:=fun pins s σ H Q I q=>wpAny_tests_one (h pins s σ H Q I q)
def U4(J:It)(g:TG)(tf:TT)(te:TE)(k:Nat)(σ0:St)(D:Addr)(Fin:Hp→Prop)(H1:Hp):Prop :=
 ∃W:Nat→Nat→List V→Hp→Prop,(∃m,W 0 m [] (upd H1 D (.lst [])))∧∀i m ys H,W i m ys H →
  (J.stop i H∧Fin H)∨(J.go i H∧∃N:List V→Hp→Prop,(∀ys' H',N ys' H'→∃m',m'<m∧W (i+1) m' ys' H')∧∀x H',J.yld i H x H'→g x σ0 H' fun σ2 H2=>(σ2.drop k=σ0.drop k∧σ2.length=σ0.length)∧tf σ2 H2 fun b H3 =>
   if b=true then te σ2 H3 fun y H4=>H4 D=some (.lst ys)∧ys.length<sizeLine∧N (ys++[y]) (upd H4 D (.lst (ys++[y])))else N ys H3)
section
variable {X:Cx}{pins:List (Addr×Obj)}{σ:St}{H:Hp}{s:Shared}{elt tg iter:Expr}{ifs:List Expr}{scope:Scope}{pos:Pos}{Nc:List Str}{k:Nat}{js:List Nat}{g:TG}{tf:TT}{te:TE}
theorem a1S{J:It}{fp:List Addr}{it:Addr}{tn:Nat→Heap→Prop}{E:Value→Shared→Prop}{RR:Value→Addr→Result→Shared→Prop}{Fin:Addr→Hp→Prop}(hc:X.calm=true)(S:CompSc X.env.scope scope X.N Nc k js)
  (hg:∀C s3 H3 fp xe,PG (u0 X scope Nc C s3 H3 fp xe) tg g) (hf:∀C s3 H3 fp xe,PF (u0 X scope Nc C s3 H3 fp xe) ifs tf)
  (he:∀C D H3,∃xe:Value→Shared→Prop,(∀e s',xe e s'→notedBy (model X.prog X.w) X.A (compEnvC scope (v7 X.env.cells scope.names []) C X.env) (fun e s'=>RR (.ref D) C (.error e) s') e s') ∧
   ∀s3,Inv X pins σ H3 s3→C=s3.heap.objs.size→(∀b∈fp,FpOk X pins H3 b)→PE (u0 X scope Nc C s3 H3 fp xe) elt te)
  (I2:Inv X pins σ H s) (T:Turn X.prog X.w X.K tg J fp it tn) (st2:tn 0 s.heap) (f2:∀b∈fp,FpOk X pins H b) (hR:∀D,H D=none→U4 J g tf te k (k7 k js σ) D (Fin D) H)
  (hRR:∀D C H' s' m',Inv X pins σ H' s'→s'.heap.Ns C m'→H' C=none→C≠X.env.locals→X.s₀.heap.objs.size≤C→(∀x c,X.env.cells.lookup x=some c→c≠C)→(∀p∈X.pn++pins,p.1≠C)→Fin D H'→RR (.ref D) C (.ok .next) s') :
  wpAny (model X.prog X.w) X.A (newList []) (fun acc s₃=>wpAny (model X.prog X.w) X.A (newFunctionEnv scope X.env.globals (v7 X.env.cells scope.names []) [] X.env.qual none .none (some X.env)) (fun cenv s₄ =>
   codeAny (model X.prog X.w) X.A (.compStart (.ListComp elt [⟨tg,iter,ifs,0⟩] scope pos) 0 (.ref it) acc { cenv with scope:=relabel scope X.env }) (RR acc cenv.locals) s₄) E s₃) E s:=by
 refine wpAny_newObj_type (wpAny_newFunctionEnv S.cell (by intro y hy;simp at hy) (fun h₁ hns₁ hsb₁=>?_) S.kind)
 dsimp only at hns₁ hsb₁ ⊢
 have I3:Inv X pins σ (upd H s.heap.objs.size (.lst [])) { s with heap:=s.heap.push { cls:=.type "list",data:=.seq ([]:List Value).toArray },toks:=s.toks }:=I2.lnew (its:=[]) .nil (Nat.zero_le _)
 have hDn:H s.heap.objs.size=none:=I2.fresh
 obtain⟨W,⟨m0,w0⟩,turn⟩:=hR _ hDn
 generalize hs3:({ s with heap:=s.heap.push { cls:=.type "list",data:=.seq ([]:List Value).toArray },toks:=s.toks }:Shared)=s3 at I3
 have e3:s3.heap=s.heap.push { cls:=.type "list",dict:=none,data:=.seq ([]:List Value).toArray }:=by rw[← hs3]
 rw[← e3]at hns₁ hsb₁ ⊢
 have fpo:∀b∈fp,b<s.heap.objs.size:=fun b hb=>by obtain⟨o,e,_⟩:=T.obj _ _ st2 b hb;exact Heap.lt_size e
 have sz3:s3.heap.objs.size=s.heap.objs.size+1:=by rw[e3,Heap.size_push]
 have fpo3:∀b∈fp,b<s3.heap.objs.size:=fun b hb=>by rw[sz3];exact Nat.lt_succ_of_lt (fpo b hb)
 have f3:∀b∈fp,FpOk X pins (upd H s.heap.objs.size (.lst [])) b:=fun b hb=>⟨by rw[a7 (Nat.ne_of_lt (fpo b hb))];exact(f2 b hb).1,(f2 b hb).2⟩
 have old:∀b o,s3.heap.get? b=some o→h₁.get? b=some o:=fun b o e=>hsb₁.extBut b o (Nat.ne_of_lt (Heap.lt_size e)) (Heap.get?_push_of_some _ e)
 have oldS:∀b o,s.heap.get? b=some o→h₁.get? b=some o:=fun b o e=>old b o (by rw[e3];exact Heap.get?_push_of_some _ e)
 obtain⟨xe,hxe,hel⟩:=he s3.heap.objs.size s.heap.objs.size (upd H s.heap.objs.size (.lst []))
 have hel:=hel s3 I3 rfl f3
 have I4:Inv (u0 X scope Nc s3.heap.objs.size s3 (upd H s.heap.objs.size (.lst [])) fp xe) [] (k7 k js σ) (upd H s.heap.objs.size (.lst [])) { s3 with heap:=h₁,toks:=s.toks+([]:List (Str×Value)).length } :=
  a7F I3 S f3 fpo3 hns₁ old
 have st4:tn 0 h₁:=T.keep _ _ _ st2 fun b hb o e=>oldS b o e
 have es3:({ s3 with heap:=h₁,toks:=s.toks+([]:List (Str×Value)).length }:Shared)={ s with heap:=h₁,toks:=s.toks+([]:List (Str×Value)).length }:=by rw[← hs3]
 rw[es3]at I4
 have ok:=I2.ok
 have lk:=I3.lt
 have hCL:s3.heap.objs.size≠X.env.locals:=Nat.ne_of_gt lk
 have stat:∀{H':Hp},(∀b∈fp,H' b=none)→∀b∈fp,FpOk (u0 X scope Nc s3.heap.objs.size s3 (upd H s.heap.objs.size (.lst [])) fp xe) [] H' b:=fun hn b hb =>
  ⟨hn b hb,Nat.ne_of_lt (fpo3 b hb),fun z=>(List.mem_cons.mp (I3.stkSub b z)).elim (fun q=>(f3 b hb).2.1 q) fun q=>(f3 b hb).2.2.1 q,.inl hb,fun x c e=>(f3 b hb).2.2.2.2.1 x c (v9 e),fun p hp=>absurd (show p∈([]:List (Addr×Obj))from hp) (by simp)⟩
 have loop:codeAny (model X.prog X.w) X.A (.compLoop (.ListComp elt [⟨tg,iter,ifs,0⟩] scope pos) 0 (.ref it) (.ref s.heap.objs.size) (compEnvC scope (v7 X.env.cells scope.names []) s3.heap.objs.size X.env))
    (RR (.ref s.heap.objs.size) s3.heap.objs.size) { s with heap:=h₁,toks:=s.toks+([]:List (Str×Value)).length }:=by
  refine a4A rfl (fun n s'=>∃i ys H',Inv (u0 X scope Nc s3.heap.objs.size s3 (upd H s.heap.objs.size (.lst [])) fp xe) [] (k7 k js σ) H' s'∧tn i s'.heap∧(∀b∈fp,H' b=none)∧W i n ys H') ?_ m0 ⟨0,[],_,I4,st4,fun b hb=>(f3 b hb).1,w0⟩
  rintro n s5 ⟨i,ys,H5,I5,st5,fr5,w5⟩
  rcases turn i n ys H5 w5 with⟨stop,fin⟩ | ⟨go,Nx,hNx,step⟩
  ·refine i2 (T.done (u0 X scope Nc s3.heap.objs.size s3 (upd H s.heap.objs.size (.lst [])) fp xe) rfl rfl rfl hc i [] s5 (k7 k js σ) H5 _ I5 (stat fr5) st5 stop) fun r s6 ⟨hr,I6⟩=>?_
   subst hr
   obtain⟨m6,hn6,_⟩:=I6.loc
   have J:Inv X pins σ H5 s6:=I3.call' (ch:=fp) (I6.os.trans rfl) I6.base I6.hok I6.bare fun b hb=>⟨(f3 b hb).2.2.2.1,(f3 b hb).2.1,(f3 b hb).2.2.2.2.1,(f3 b hb).2.2.2.2.2⟩
   refine hRR _ _ H5 s6 m6 J hn6 I6.free hCL (I3.sz) (fun x c e z=>?_) (fun p hp z=>?_) fin
   ·obtain⟨v,q⟩:=I3.cell x c e
    exact absurd q.lt (by rw[z];exact Nat.lt_irrefl _)
   ·exact absurd (Heap.lt_size (I3.pin p hp).1) (by rw[z];exact Nat.lt_irrefl _)
  ·refine i2 (T.item (u0 X scope Nc s3.heap.objs.size s3 (upd H s.heap.objs.size (.lst [])) fp xe) rfl rfl rfl hc i [] s5 (k7 k js σ) H5 _ I5 (stat fr5) st5 go) fun r s6 ⟨u,hr,h6⟩=>?_
   subst hr
   refine i2 h6 fun _ s7 ⟨x,H7,I7,r7,y7,st7,fr7⟩=>?_
   have I7':=I7.pinned (stat fr7) (T.obj _ _ st7)
   refine wpAny_mono (hg _ _ _ _ _ _ s7 _ H7 x u _ I7' r7 (step x H7 y7)) (fun _ s8 ⟨σ8,H8,I8,⟨d8,l8⟩,q8⟩=>?_) fun e s' z=>hxe e s' z
   refine wpAny_mono (hf _ _ _ _ _ _ s8 σ8 H8 _ I8 q8) (fun b s9 ⟨H9,I9,q9⟩=>?_) fun e s' z=>hxe e s' z
   have again:∀{H':Hp} {s':Shared} {ys':List V},Inv (u0 X scope Nc s3.heap.objs.size s3 (upd H s.heap.objs.size (.lst [])) fp xe) ([]++a0r fp s7.heap) σ8 H' s'→Nx ys' H' →
     ∃m,m<n∧∃i ys H',Inv (u0 X scope Nc s3.heap.objs.size s3 (upd H s.heap.objs.size (.lst [])) fp xe) [] (k7 k js σ) H' s'∧tn i s'.heap∧(∀b∈fp,H' b=none)∧W i m ys H':=fun{H' s' ys'} I' hw=>by
    obtain⟨m',hm,w'⟩:=hNx _ _ hw
    refine⟨m',hm,i+1,ys',H',(I'.unpinned).weak l8.symm fun j v e=>?_,T.keep _ _ _ st7 fun b hb o e=>(I'.pin (b,o) (List.mem_append_right _ (List.mem_append_right _ (R0 hb e)))).1,fun b hb=>?_,w'⟩
    ·by_cases hj:j<k
     ·unfold k7 at e
      rw[List.getElem?_append_left (by rw[List.length_replicate];exact hj),List.getElem?_replicate]at e
      split at e<;>cases e
     ·have e':((k7 k js σ).drop k)[j-k]? = some (some v):=by rw[List.getElem?_drop,show k+(j-k)=j by omega];exact e
      rw[← d8,List.getElem?_drop,show k+(j-k)=j by omega]at e'
      exact e'
    ·obtain⟨o,e,d⟩:=T.obj _ _ st7 b hb
     exact(I'.pin (b,o) (List.mem_append_right _ (List.mem_append_right _ (R0 hb e)))).2.1
   cases b with
   | false =>
    rw[if_neg Bool.false_ne_true]at q9 ⊢
    exact again I9 q9
   | true =>
    rw[if_pos rfl]at q9 ⊢
    refine wpAny_mono (hel _ s9 σ8 H9 _ I9 q9) (fun v s10 ⟨y,H10,I10,r10,hD,hz,w'⟩=>?_) fun e s' z=>hxe e s' z
    refine wpAny_mono (G5 (X:=u0 X scope Nc s3.heap.objs.size s3 (upd H s.heap.objs.size (.lst [])) fp xe) _ s10 σ8 H10 (.ref s.heap.objs.size) [y] (.ref s.heap.objs.size) [v] (fun _ H'=>H'=upd H10 s.heap.objs.size (.lst (ys++[y]))) I10 rfl (.cons r10 .nil)
     ⟨_,ys,y,rfl,rfl,hD,hz,rfl⟩) (fun _ s11 ⟨_,H11,I11,_,q11⟩=>?_) fun e s' z=>hxe e s' z
    subst q11
    exact again I11 w'
 exact codeAny_compStart_list loop (T.self _ 0 _ _ _ st4 loop)
end
def a1T(wi:TI)(g:TG)(tf:TT)(te:TE)(k:Nat)(js:List Nat):TE:=fun σ H Q=>wi σ H fun J H1=>∀D,H1 D=none→U4 J g tf te k (k7 k js σ) D (fun H'=>Q (.ref D) H') H1
def a3T(i:Nat)(wi:TI)(g:TG)(tf:TT)(te:TE)(k:Nat)(js:List Nat):TS:=fun N σ H=>wi σ H fun J H1=>∀D,H1 D=none→U4 J g tf te k (k7 k js σ) D (fun H'=>N.nx (σ.set i (some (.ref D))) H') H1
section
variable {X:Cx}{elt tg iter:Expr}{ifs:List Expr}{scope:Scope}{pos:Pos}{Nc:List Str}{k:Nat}{js:List Nat}{wi:TI}{g:TG}{tf:TT}{te:TE}
theorem T4(hc:X.calm=true)(S:CompSc X.env.scope scope X.N Nc k js)(hi:PI X tg iter wi)(hg:∀C s3 H3 fp xe,PG (u0 X scope Nc C s3 H3 fp xe) tg g)(hf:∀C s3 H3 fp xe,PF (u0 X scope Nc C s3 H3 fp xe) ifs tf)
  (he:∀C s3 H3 fp xe,PE (u0 X scope Nc C s3 H3 fp xe) elt te) (hs:∀x,foldedSetIterable iter X.env x=pure x:=by intro _;rfl):PE X (.ListComp elt [⟨tg,iter,ifs,0⟩] scope pos) (a1T wi g tf te k js):=by
 intro pins s σ H Q I h
 rw[eval_ListComp]
 refine wpAny_comprehension_free (use:=none) rfl hs (X0 (a1R I S)) S.kind S.names (i2 (hi pins s σ H _ I h) fun v s1 h1=>i2 h1 fun itv s2 h2=>?_)
 obtain⟨it,fp,tn,J,H2,rfl,I2,T,st2,f2,hR⟩:=h2
 refine a1S (RR:=fun acc C=>compPost (model X.prog X.w) X.A X.xe none (EP X pins σ Q) acc C) (Fin:=fun D H'=>Q (.ref D) H') hc S hg hf (fun C D H3=>⟨fun _ _=>False,fun _ _ z=>z.elim,fun s3 _ _ _=>he _ _ _ _ _⟩) I2 T st2 f2 hR ?_
 intro D C H' s' m' I' hn hC hCL hsz hcl hpn q
 exact⟨m',hn,fun h' hs'=>⟨.ref D,H',I'.turned (t':=s'.toks) (fun b o hb e=>(hs'.2 b hb).trans e) hC hCL (.inr hsz) hcl hpn,rfl,q⟩⟩
theorem a1U{i:Nat}{y:Str}{py spos:Pos}(hc:X.calm=true)(S:CompSc X.env.scope scope X.N Nc k js)(hN:X.N.Nodup)(hy:X.N[i]? = some y)(hi:PI X tg iter wi)(hg:∀C s3 H3 fp xe,PG (u0 X scope Nc C s3 H3 fp xe) tg g)(hf:∀C s3 H3 fp xe,PF (u0 X scope Nc C s3 H3 fp xe) ifs tf)
  (he:∀C s3 H3 fp xe,PE (u0 X scope Nc C s3 H3 fp xe) elt te) (hl:X.env.scope.names.lookup y=some .local:=by rfl) (hs:∀x,foldedSetIterable iter X.env x=pure x:=by intro _;rfl)
  (hsw:swapsWith (.ListComp elt [⟨tg,iter,ifs,0⟩] scope pos) (some (.Name y py)) spos.line X.env=pure true:=by rfl):PS X (.Assign [.Name y py] (.ListComp elt [⟨tg,iter,ifs,0⟩] scope pos) spos) (a3T i wi g tf te k js):=by
 intro pins s σ H N I h
 rw[exec_Assign_Name_used _ _ _ _ hsw]
 refine wpAny_bind (wpAny_standAt (wpAny_bind ?_))
 show wpAny _ X.A (do let _ ← comprehension (.ListComp elt [⟨tg,iter,ifs,0⟩] scope pos) scope X.env _ (newList []) false (eval iter X.env) (some (assign (.Name y py) X.env))) _ _ s
 refine wpAny_bind (i2 (wpAny_comprehension_free (use:=some (assign (.Name y py) X.env)) (Q:=fun _ z=>SP X pins N .next z) rfl hs (X0 (a1R I S)) S.kind S.names
  (i2 (hi pins s σ H _ I h) fun v s1 h1=>i2 h1 fun itv s2 h2=>?_)) fun _ z hq=>wpAny_pure (wpAny_pure hq))
 obtain⟨it,fp,tn,J,H2,rfl,I2,T,st2,f2,hR⟩:=h2
 refine a1S (RR:=fun acc C=>compPost (model X.prog X.w) X.A X.xe (some (assign (.Name y py) X.env)) (fun _ z=>SP X pins N .next z) acc C) (Fin:=fun D H'=>N.nx (σ.set i (some (.ref D))) H') hc S hg hf
  (fun C D H3=>⟨fun _ _=>False,fun _ _ z=>z.elim,fun s3 _ _ _=>he _ _ _ _ _⟩) I2 T st2 f2 hR ?_
 intro D C H' s' m' I' hn hC hCL hsz hcl hpn q
 show wpAny _ X.A (assign (.Name y py) X.env (.ref D)) _ _ s'
 refine wpAny_assign_Name (a2S (v:=.ref D) I' hN hy (.inl hl) rfl (fun s'' I'' ⟨a,hsb,ha⟩=>?_) (.inr hl))
 have hCa:C≠a:=by
  rcases ha with ha | ha
  ·rw[ha];exact hCL
  ·exact fun z=>hcl y a ha z.symm
 exact⟨m',hn.sameBut hsb hCa,fun h' hs'=>⟨_,H',I''.turned (t':=s''.toks) (fun b o hb e=>(hs'.2 b hb).trans e) hC hCL (.inr hsz) hcl hpn,q⟩⟩
end
theorem a6h{K:W.Frag}{a:Addr}{xs:List V}{g:TG}{tf:TT}{te:TE}{k:Nat}{σ0:St}{D:Addr}{Fin:Hp→Prop}{H1:Hp}(Pv:Nat→List V→Hp→Prop)(h0:Pv 0 [] (upd H1 D (.lst [])))(hl:∀i ys H,i≤xs.length→Pv i ys H→SqL K H a xs)
  (hs:∀i x ys H,xs[i]? = some x→Pv i ys H→g x σ0 H fun σ2 H2=>(σ2.drop k=σ0.drop k∧σ2.length=σ0.length)∧tf σ2 H2 fun b H3 =>
   if b=true then te σ2 H3 fun y H4=>H4 D=some (.lst ys)∧ys.length<sizeLine∧Pv (i+1) (ys++[y]) (upd H4 D (.lst (ys++[y])))else Pv (i+1) ys H3)
  (hd:∀ys H,Pv xs.length ys H→Fin H):U4 (Itl K a) g tf te k σ0 D Fin H1:=by
 refine⟨fun i m ys H=>m=xs.length-i∧i≤xs.length∧Pv i ys H,⟨xs.length,by simp,Nat.zero_le _,h0⟩,?_⟩
 rintro i m ys H ⟨rfl,hi,p⟩
 have q:=hl i ys H hi p
 by_cases hlt:i<xs.length
 ·refine .inr ⟨⟨xs,xs[i],q,by simp[hlt]⟩,Pv (i+1),fun ys' H' z=>⟨xs.length-(i+1),by omega,rfl,hlt,z⟩,fun x H' y=>?_⟩
  obtain⟨e,y⟩:=y
  subst e
  exact hs i x ys _ (y xs q) p
 ·have e:i=xs.length:=by omega
  subst e
  exact .inl ⟨⟨xs,q,Nat.le_refl _⟩,hd ys H p⟩
section
variable {X:Cx}{pins:List (Addr×Obj)}{σ:St}{H:Hp}{s:Shared}
theorem Inv.turnedL{h':Heap}{t':Nat}{ch:List Addr}{p:Addr}{o:HO}(I:Inv X pins σ H s)(k:∀b u,b ∉ ch→s.heap.get? b=some u→h'.get? b=some u)(hf:∀b∈ch,FpOk X pins H b)(hp:s.heap.objs.size≤p)(new:ObjOk X.prog X.w (upd H p o) h' p o) :
  Inv X pins σ (upd H p o) { s with heap:=h',toks:=t' }:=by
 have hn:=I.hok.fresh hp
 have nch:∀b u,H b=some u→b ∉ ch:=fun b u q z=>by rw[(hf b z).1]at q;cases q
 refine I.call (g':=s.gens) (d':=s.drawn) (ch:=ch) ⟨fun b u q _ _ hx=>k b u hx q,fun b u q _ _ hx=>⟨u.slots,k b u hx q⟩,fun b u q n _=>?_,fun b u q hx=>⟨u,k b u hx q⟩,fun b xs q=>?_,fun b u xs q=>?_,fun b ps q=>⟨#[],?_⟩⟩ (fun b u q=>?_) I.bare
  fun b hb=>⟨(hf b hb).2.2.2.1,(hf b hb).2.1,(hf b hb).2.2.2.2.1,(hf b hb).2.2.2.2.2⟩
 ·rw[a7 (Nat.ne_of_lt (Nat.lt_of_lt_of_le (Heap.lt_size q) hp))];exact n
 ·rw[a7 (g6 q hn)];exact q
 ·rw[a7 (g6 q hn)];exact q
 ·rw[a7 (g6 q hn),q];simp
 ·by_cases hb:b=p
  ·subst hb;rw[d5]at q;cases q;exact new
  ·rw[a7 hb]at q
   refine(I.hok b u q).stay (fun c v hc r=>k c v ?_ r) (fun c z=>?_) (fun c xs z=>?_) fun c ob u z=>?_
   ·rcases hc with hc | hc
    ·rw[hc];exact nch b u q
    ·exact nch c _ hc
   ·rw[a7 (g6 z hn)];exact z
   ·rw[a7 (g6 z hn)];exact z
   ·rw[a7 (g6 z hn)];exact z
theorem Inv.turnedN{h':Heap}{t':Nat}{ch:List Addr}(I:Inv X pins σ H s)(k:∀b u,b ∉ ch→s.heap.get? b=some u→h'.get? b=some u)(hf:∀b∈ch,FpOk X pins H b):Inv X pins σ H { s with heap:=h',toks:=t' }:=by
 have nch:∀b u,H b=some u→b ∉ ch:=fun b u q z=>by rw[(hf b z).1]at q;cases q
 refine I.call (g':=s.gens) (d':=s.drawn) (ch:=ch) ⟨fun b u q _ _ hx=>k b u hx q,fun b u q _ _ hx=>⟨u.slots,k b u hx q⟩,fun b u q n _=>n,fun b u q hx=>⟨u,k b u hx q⟩,fun b xs q=>q,fun b u xs q=>q,fun b ps q=>⟨#[],by rw[q];simp⟩⟩ (fun b u q=>?_) I.bare
  fun b hb=>⟨(hf b hb).2.2.2.1,(hf b hb).2.1,(hf b hb).2.2.2.2.1,(hf b hb).2.2.2.2.2⟩
 refine(I.hok b u q).stay (fun c v hc r=>k c v ?_ r) (fun c z=>z) (fun c xs z=>z) fun c ob u z=>z
 rcases hc with hc | hc
 ·rw[hc];exact nch b u q
 ·exact nch c _ hc
end
def Ite(K:W.Frag)(a:Addr):It :=
 ⟨fun i H=>∃xs x,SqL K H a xs∧xs[i]? = some x,fun i H v H'=>∃p x,v=.ref p∧H p=none∧H'=upd H p (.tup [.int i,x])∧∀xs,SqL K H a xs→xs[i]? = some x,fun i H=>∃xs,SqL K H a xs∧xs.length≤i⟩
theorem a6i{P:Program}{w:World}{K:W.Frag}{elts:List Expr}{x1}{tpos:Pos}(a it e:Addr)(hne:e≠it):Turn P w K (.Tuple elts x1 tpos) (Ite K a) [e,it] e (fun i h=>(∃old,IsEnum h e it i old)∧h.IsListIter it a i) where
 mem:=by simp
 obj:=fun i h ⟨⟨old,st⟩,it1⟩ b hb=>by
  rcases List.mem_cons.mp hb with q | hb
  ·subst q
   exact⟨_,st,fun v z=>nomatch (show Data.fields _=Data.cell v from z)⟩
  ·have q:b=it:=by simpa using hb
   subst q
   obtain⟨o,e1,c,d⟩:=it1
   exact⟨o,e1,fun v z=>by rw[d]at z;cases z⟩
 keep:=fun i h h' ⟨⟨old,st⟩,it1⟩ k=>⟨⟨old,k e (by simp) _ st⟩,it1.at fun o q=>k it (by simp) o q⟩
 item:=by
  intro X hP hw hK hc i pins s σ H E I hf st hg
  subst hP hw hK
  obtain⟨⟨old,st⟩,it1⟩:=st
  obtain⟨xs,x,hq,hx⟩:=hg
  obtain⟨its,rv,p,hz⟩:=I.list hq
  obtain⟨u,hu,ru⟩:=rv.get hx
  refine wpAny_pyNext_enum_item st it1 p.isList (x:=u) (by simpa using hu) hne fun h' q1 q2 q3 q4 q5=>⟨_,rfl,?_⟩
  refine wpAny_letOwnedTupleGo_enum (s:={ s with heap:=h',toks:=s.toks+1 }) q1 fun h2 r1 r2=>?_
  have ne1:s.heap.objs.size≠e:=Nat.ne_of_gt (Heap.lt_size st)
  have k2:∀b o,b ∉ [e,it]→s.heap.get? b=some o→h2.get? b=some o:=fun b o hb q=>by
   have hb1:b≠e:=fun z=>hb (by simp[z])
   have hb2:b≠it:=fun z=>hb (by simp[z])
   exact(r2.2 b hb1).trans (q5 b o hb1 hb2 q)
  have I1:Inv X pins σ (upd H s.heap.objs.size (.tup [.int i,x])) { s with heap:=h2,toks:=s.toks+1 }:=I.turnedL k2 hf (Nat.le_refl _)
   ⟨by show 2≤sizeLine;decide,[.int i s.toks,u],.cons ⟨_,rfl⟩ (.cons ru .nil),⟨_,(r2.2 _ ne1).trans q3,rfl,_,rfl⟩⟩
  refine⟨.ref s.heap.objs.size,_,I1,rfl,⟨_,x,rfl,I.fresh,rfl,fun ys hy=>by rw[I.list_inj hy hq];exact hx⟩,⟨⟨_,by rw[show((i+1:Nat):Int)=(i:Int)+1 by omega];exact r1⟩,?_⟩,fun b hb=>?_⟩
  ·exact q2.extBut r2.extBut (Ne.symm hne)
  ·obtain⟨o,e1,_⟩:∃o,s.heap.get? b=some o∧True:=by
    rcases List.mem_cons.mp hb with q | hb
    ·exact⟨_,by rw[q];exact st,trivial⟩
    ·have q:b=it:=by simpa using hb
     obtain⟨o,e1,_⟩:=it1
     exact⟨o,by rw[q];exact e1,trivial⟩
   rw[a7 (Nat.ne_of_lt (Heap.lt_size e1))]
   exact(hf b hb).1
 done:=by
  intro X hP hw hK hc i pins s σ H E I hf st hg
  subst hP hw hK
  obtain⟨⟨old,st⟩,it1⟩:=st
  obtain⟨xs,hq,hx⟩:=hg
  obtain⟨its,rv,p,hz⟩:=I.list hq
  have hl:=rv.length
  exact wpAny_pyNext_enum_end (I.ok.hd hc) st it1 p.isList (by simp;omega) fun h' eb=>⟨rfl,I.turnedN (t':=s.toks) (fun b o hb q=>eb b o (fun z=>hb (by simp[z])) q) hf⟩
 self:=fun _ _ _ _ _ st h=>wpAny_pyIter_enum st.1.choose_spec h
theorem a6j{K:W.Frag}{a:Addr}{xs:List V}{g:TG}{tf:TT}{te:TE}{k:Nat}{σ0:St}{D:Addr}{Fin:Hp→Prop}{H1:Hp}(Pv:Nat→List V→Hp→Prop)(h0:Pv 0 [] (upd H1 D (.lst [])))(hl:∀i ys H,i≤xs.length→Pv i ys H→SqL K H a xs)
  (hs:∀i x ys H p,xs[i]? = some x→Pv i ys H→H p=none→g (.ref p) σ0 (upd H p (.tup [.int i,x])) fun σ2 H2=>(σ2.drop k=σ0.drop k∧σ2.length=σ0.length)∧tf σ2 H2 fun b H3 =>
   if b=true then te σ2 H3 fun y H4=>H4 D=some (.lst ys)∧ys.length<sizeLine∧Pv (i+1) (ys++[y]) (upd H4 D (.lst (ys++[y])))else Pv (i+1) ys H3)
  (hd:∀ys H,Pv xs.length ys H→Fin H):U4 (Ite K a) g tf te k σ0 D Fin H1:=by
 refine⟨fun i m ys H=>m=xs.length-i∧i≤xs.length∧Pv i ys H,⟨xs.length,by simp,Nat.zero_le _,h0⟩,?_⟩
 rintro i m ys H ⟨rfl,hi,p⟩
 have q:=hl i ys H hi p
 by_cases hlt:i<xs.length
 ·refine .inr ⟨⟨xs,xs[i],q,by simp[hlt]⟩,Pv (i+1),fun ys' H' z=>⟨xs.length-(i+1),by omega,rfl,hlt,z⟩,fun v H' y=>?_⟩
  obtain⟨c,x,rfl,hc,rfl,y⟩:=y
  exact hs i x ys _ c (y xs q) p hc
 ·have e:i=xs.length:=by omega
  subst e
  exact .inl ⟨⟨xs,q,Nat.le_refl _⟩,hd ys H p⟩
theorem a7G{K:PySem.W.Frag}{a:Addr}{xs:List V}{g:TG}{tb:TS}{D:Ends}{σ:St}{H:Hp}(Pv:Nat→St→Hp→Prop)(h0:Pv 0 σ H)(hl:∀i σ H,i≤xs.length→Pv i σ H→SqL K H a xs)
  (hs:∀i x σ H p,xs[i]? = some x→Pv i σ H→H p=none→g (.ref p) σ (upd H p (.tup [.int i,x])) fun σ2 H2=>tb { D with nx:=Pv (i+1),ct:=Pv (i+1),bk:=D.nx } σ2 H2) (hd:∀σ H,Pv xs.length σ H→D.nx σ H) :
  ∃W:Nat→Nat→St→Hp→Prop,(∃m,W 0 m σ H)∧∀i m σ H,W i m σ H →
   ((Ite K a).stop i H∧D.nx σ H)∨((Ite K a).go i H∧∃N:St→Hp→Prop,(∀σ' H',N σ' H'→∃m',m'<m∧W (i+1) m' σ' H')∧∀x H',(Ite K a).yld i H x H'→g x σ H' fun σ2 H2=>tb { D with nx:=N,ct:=N,bk:=D.nx } σ2 H2):=by
 refine⟨fun i m σ H=>m=xs.length-i∧i≤xs.length∧Pv i σ H,⟨xs.length,by simp,Nat.zero_le _,h0⟩,?_⟩
 rintro i m σ H ⟨rfl,hi,p⟩
 have q:=hl i σ H hi p
 by_cases hlt:i<xs.length
 ·refine .inr ⟨⟨xs,xs[i],q,by simp[hlt]⟩,Pv (i+1),fun σ' H' z=>⟨xs.length-(i+1),by omega,rfl,hlt,z⟩,fun v H' y=>?_⟩
  obtain⟨c,x,rfl,hc,rfl,y⟩:=y
  exact hs i x σ _ c (y xs q) p hc
 ·have e:i=xs.length:=by omega
  subst e
  exact .inl ⟨⟨xs,q,Nat.le_refl _⟩,hd σ H p⟩
theorem a3U:bootBuiltins "enumerate" = some (.type "enumerate"):=by decide +kernel
def a5C(K:W.Frag)(ta:TA):TI:=fun σ H R=>ta σ H fun vs H1=>∃a,vs=[.ref a]∧(∃xs,SqL K H1 a xs)∧R (Ite K a) H1
section
variable {X:Cx}
theorem a2v{elts:List Expr}{x1}{tpos:Pos}{l:Expr}{ta:TA}{p pos:Pos}(hg:Gl X "enumerate")(hm:X.mg "enumerate" = none)(ha:PA X [l] ta)(hs:starEach [l] X.env=[(false,eval l X.env)]:=by rfl) :
  PI X (.Tuple elts x1 tpos) (.Call (.Name "enumerate" p) [l] [] pos) (a5C X.K ta):=by
 intro pins s σ H R I h
 refine Call_ (T7 I hg hm a3U (PyProof.Rows.callWith_type1 (i2 (ha pos pins s σ H _ I h) fun us s1 ⟨vs,H1,I1,r1,q1⟩=>?_) hs rfl))
 obtain⟨a,e,⟨xs,hq⟩,q⟩:=q1
 subst e
 obtain⟨u,rfl,ru⟩:=r1.one
 cases (show u=Value.ref a from ru)
 obtain⟨its,rv,pl,hz⟩:=I1.list hq
 refine call_enumerate_list pl.isList fun h' q1 q2 q3 q4=>?_
 have I2:Inv X pins σ H1 { s1 with heap:=h' }:=I1.kept (t':=s1.toks) q4
 refine wpAny_pyIter_enum (s:={ s1 with heap:=h' }) q1 ?_
 refine⟨s1.heap.objs.size+1,[s1.heap.objs.size+1,s1.heap.objs.size],_,_,H1,rfl,I2,a6i a s1.heap.objs.size _ (Nat.succ_ne_self _),⟨⟨_,q1⟩,q2⟩,fun b hb=>?_,q⟩
 have hb':s1.heap.objs.size≤b:=by
  rcases List.mem_cons.mp hb with z | z
  ·rw[z];exact Nat.le_succ _
  ·have z:b=s1.heap.objs.size:=by simpa using z
   rw[z];exact Nat.le_refl _
 exact I1.fpOk hb' (I1.hok.fresh hb')
end
def a3q(ns:List Int)(d M:Int):Prop:=(ns=[]∧M=d)∨(M∈ns∧∀a∈ns,a≤M)
def b1s(ns:List Int)(j:Nat)(best:Array Value):Prop:=(j=0∧best = #[])∨∃M t,best = #[.int M t,.int M t]∧M∈ns.take j∧∀a∈ns.take j,a≤M
theorem a6k(a d:Value):argsOk "max" ⟨[a],[(Str.ofString "default",d)]⟩:=by unfold argsOk;kernel_rfl
theorem K6{ns:List Int}{j:Nat}{n:Int}(h:ns[j]? = some n):ns.take (j+1)=ns.take j++[n]:=by rw[List.take_add_one,h];rfl
theorem a1g:∀{us:List Value} {ns:List Int},IntsAre us ns→us.length=ns.length
 | _,_,.nil=>rfl
 | _,_,.cons _ _ r=>by simp[a1g r]
theorem a1V:∀{us:List Value} {ns:List Int} {j:Nat} {v:Value},IntsAre us ns→us[j]? = some v→∃n t,v=.int n t∧ns[j]? = some n
 | _,_,_,_,.nil,h=>by simp at h
 | _,_,0,_,.cons n t r,h=>by simp at h;exact⟨n,t,h.symm,rfl⟩
 | _,_,j+1,_,.cons n t r,h=>by
  obtain⟨m,u,e1,e2⟩:=a1V (j:=j) r (by simpa using h)
  exact⟨m,u,e1,by simpa using e2⟩
section
variable {prog:Program}{w:World}{A:Around}{R:Result→Shared→Prop}
theorem a6l(hh:A.in1.handled=none){I S l:Addr}{us:List Value}{ns:List Int}(hI:IntsAre us ns)(d:Int)(td:Tok)(hIS:I≠S)(hlS:l≠S)(hlI:l≠I):∀(k j:Nat) (z:Shared) (best:Array Value) (c:Nat),us.length-j=k→j≤us.length →
  z.heap.IsListIter I l j→z.heap.IsList l us.toArray→z.heap.get? S=some { cls:=.type "list",dict:=none,data:=.seq best c,slots := #[] }→b1s ns j best →
  (∀M t h' tk,a3q ns d M→(∀b o,b≠I→b≠S→z.heap.get? b=some o→h'.get? b=some o)→R (.ok (.ret (.int M t))) { z with heap:=h',toks:=tk }) →
  codeAny (model prog w) A (.builtin "max.loop" ⟨[.ref I,.none,.ref S],[(Str.ofString "default",.int d td)]⟩) R z:=by
 have hname:(toString "max" ++ toString ".loop" : String) = "max.loop" := by decide
 have W:=Walks.list (prog:=prog) (w:=w) (A:=A.in1) hh I l hlI us.toArray
 have hln:us.length=ns.length:=a1g hI
 intro k
 induction k with
 | zero =>
  intro j z best c hk hj hit hl hS hB hR
  have hjn:j=us.toArray.size:=by rw[List.size_toArray];omega
  refine codeAny_builtin F.entry_max_loop ?_
  rw[Around.under_plainId F.plain_max_loop _]
  show wpAny _ A.in1 (seqItems? (.ref S) >>= _) _ _ z
  refine wpAny_bind (wpAny_seqItems hS rfl ?_)
  show wpAny _ A.in1 (tryCatch (pyNext (.ref I)) _ >>= _) _ _ z
  refine wpAny_bind (wpAny_tryCatch (W.done z _ _ (hjn▸⟨hit,hl⟩) fun h' tk hk'=>?_))
  have hS':=hk' S _ (by simpa using Ne.symm hIS) hS
  rcases hB with⟨rfl,rfl⟩ | ⟨M,t,rfl,hM,hM2⟩
  ·have e:ns=[]:=List.eq_nil_of_length_eq_zero (by rw[← hln];rw[List.size_toArray]at hjn;omega)
   refine wpAny_bind (wpAny_rule (wpAny_pure ?_))
   exact hR d td h' tk (.inl ⟨e,rfl⟩) fun b o hb _ q=>hk' b o (by simpa using hb) q
  ·show wpAny _ A.in1 (updateSeq S (fun _ => #[]) >>= _) _ _ _
   refine wpAny_bind ?_
   refine wpAny_updateSeq hS' rfl (wpAny_bind (wpAny_letGo (wpAny_pure ?_)))
   have e:ns.take j=ns:=List.take_of_length_le (by rw[List.size_toArray]at hjn;omega)
   rw[e]at hM hM2
   exact hR M t _ tk (.inr ⟨hM,hM2⟩) fun b o hb hbS q=>(Heap.get?_update_other _ _ (Ne.symm hbS)).trans (hk' b o (by simpa using hb) q)
 | succ k ih =>
  intro j z best c hk hj hit hl hS hB hR
  have hjn:j<us.toArray.size:=by rw[List.size_toArray];omega
  refine codeAny_builtin F.entry_max_loop ?_
  rw[Around.under_plainId F.plain_max_loop _]
  show wpAny _ A.in1 (seqItems? (.ref S) >>= _) _ _ z
  refine wpAny_bind (wpAny_seqItems hS rfl ?_)
  show wpAny _ A.in1 (tryCatch (pyNext (.ref I)) _ >>= _) _ _ z
  refine wpAny_bind (wpAny_tryCatch (W.item j z _ _ hjn ⟨hit,hl⟩ fun v h' tk hP hst' hk'=>?_))
  have hS':=hk' S _ (by simpa using Ne.symm hIS) hS
  have hPv:us[j]? = some v:=by simpa using hP
  obtain⟨n,t,rfl,hn⟩:=a1V hI hPv
  have kept:∀b o,b≠I→z.heap.get? b=some o→h'.get? b=some o:=fun b o hb q=>hk' b o (by simpa using hb) q
  rcases hB with⟨rfl,rfl⟩ | ⟨M,t2,rfl,hM,hM2⟩
  ·show wpAny _ A.in1 (updateSeq S (fun _ => #[.int n t,.int n t]) >>= _) _ _ _
   refine wpAny_bind ?_
   refine wpAny_updateSeq hS' rfl ?_
   rw[hname]
   refine wpAny_pure ⟨plainId_quiet F.plain_max_loop _,ih 1 _ #[.int n t,.int n t] _ (by omega) (by omega) ?_ ?_ (Heap.get?_update_self _ hS' rfl) (.inr ⟨n,t,rfl,?_,?_⟩) fun M t' h2 tk2 hT hk2=>?_⟩
   ·exact hst'.1.at fun o q=>(Heap.get?_update_other _ _ (Ne.symm hIS)).trans q
   ·exact hst'.2.at fun o q=>(Heap.get?_update_other _ _ (Ne.symm hlS)).trans q
   ·rw[K6 hn];simp
   ·rw[K6 hn];intro a ha;simp at ha;omega
   ·exact hR M t' h2 tk2 hT fun b o hb hbS q=>hk2 b o hb hbS ((Heap.get?_update_other _ _ (Ne.symm hbS)).trans (kept b o hb q))
  ·show wpAny _ A.in1 (tryCatch (holding [.int n t,.int n t] (richCompare .Gt (.int n t) (.int M t2) >>= _)) _ >>= _) _ _ _
   refine wpAny_bind (wpAny_tryCatch (wpAny_holding (wpAny_bind (CmpOf.ints_gt (P:=fun i v=>∃t,v=.int ([n,M].getD i 0) t) (fun i=>[n,M].getD i 0) (fun _ _ q=>q) 0 1 (.int n t) (.int M t2) _ _ _ ⟨t,rfl⟩ ⟨t2,rfl⟩ ?_))))
   refine wpAny_bind (wpAny_holding (wpAny_truthy_bool ?_))
   refine wpAny_bind (wpAny_letGo (wpAny_pure ?_))
   cases hb:decide ([n,M].getD 0 0 > [n,M].getD 1 0)with
   | true =>
    have hc:n > M:=of_decide_eq_true hb
    rw[if_pos hb]
    refine wpAny_bind ?_
    refine wpAny_updateSeq hS' rfl (wpAny_bind (wpAny_letGo ?_))
    rw[hname]
    refine wpAny_pure ⟨plainId_quiet F.plain_max_loop _,ih (j+1) _ #[.int n t,.int n t] _ (by omega) (by omega) ?_ ?_ (Heap.get?_update_self _ hS' rfl) (.inr ⟨n,t,rfl,?_,?_⟩) fun M' t' h2 tk2 hT hk2=>?_⟩
    ·exact hst'.1.at fun o q=>(Heap.get?_update_other _ _ (Ne.symm hIS)).trans q
    ·exact hst'.2.at fun o q=>(Heap.get?_update_other _ _ (Ne.symm hlS)).trans q
    ·rw[K6 hn];simp
    ·rw[K6 hn];intro a ha
     rcases List.mem_append.mp ha with ha | ha
     ·have:=hM2 a ha;omega
     ·simp at ha;omega
    ·exact hR M' t' h2 tk2 hT fun b o hb hbS q=>hk2 b o hb hbS ((Heap.get?_update_other _ _ (Ne.symm hbS)).trans (kept b o hb q))
   | false =>
    have hc:¬n > M:=of_decide_eq_false hb
    rw[if_neg (Bool.eq_false_iff.mp hb)]
    refine wpAny_bind (wpAny_letGo ?_)
    rw[hname]
    refine wpAny_pure ⟨plainId_quiet F.plain_max_loop _,ih (j+1) _ #[.int M t2,.int M t2] c (by omega) (by omega) hst'.1 hst'.2 hS' (.inr ⟨M,t2,rfl,?_,?_⟩) fun M' t' h2 tk2 hT hk2=>?_⟩
    ·rw[K6 hn];simp[hM]
    ·rw[K6 hn];intro a ha
     rcases List.mem_append.mp ha with ha | ha
     ·exact hM2 a ha
     ·simp at ha;omega
    ·exact hR M' t' h2 tk2 hT fun b o hb hbS q=>hk2 b o hb hbS (kept b o hb q)
end
section
variable {X:Cx}
theorem a6m{pins:List (Addr×Obj)}{σ:St}{H:Hp}{s:Shared}{Q:VK}{a:Addr}{ns:List Int}{d:Int}{td:Tok}(hc:X.calm=true)(I:Inv X pins σ H s)(hq:SqL X.K H a (ns.map V.int))(q:∀M,a3q ns d M→Q (.int M) H) :
  wpAny (model X.prog X.w) X.A (call (.builtin "max") [.ref a] [(Str.ofString "default",.int d td)]) (EP X pins σ Q) X.xe s:=by
 obtain⟨its,r,pl,hz⟩:=I.list hq
 have hI:=a5v r
 have hlt:a<s.heap.objs.size:=by obtain⟨_,e,_⟩:=pl.isList;exact Heap.lt_size e
 have hname:(toString "max" ++ toString ".loop" : String) = "max.loop" := by decide
 refine kmk_tree F.kind_max F.plain_max F.entry_max (a6k _ _) ?_
 show wpAny _ X.A.in1 (Builtin.Builtins.bindParams "max" ["key","default"] 0 ⟨[],[(Str.ofString "default",.int d td)]⟩ >>= _) _ _ s
 refine wpAny_bind (wpAny_of_eq (show Builtin.Builtins.bindParams "max" ["key","default"] 0 ⟨[],[(Str.ofString "default",.int d td)]⟩=pure [none,some (.int d td)]from rfl) ?_)
 refine wpAny_bind (wpAny_pure ?_)
 refine wpAny_bind (wpAny_pyIter_list pl.isList ?_)
 refine wpAny_bind (wpAny_newList ?_ (Nat.zero_le _))
 rw[hname]
 have e1:(s.heap.push { cls:=.type "list_iterator",data:=.fields #[.ref a,.int 0 0] }).objs.size=s.heap.objs.size+1:=Heap.size_push ..
 refine wpAny_pure ⟨plainId_quiet F.plain_max_loop _,a6l (I.ok.hd hc) hI d td (I:=s.heap.objs.size) (l:=a) (by rw[e1];exact Nat.ne_of_lt (Nat.lt_succ_self _)) (by rw[e1];exact Nat.ne_of_lt (Nat.lt_succ_of_lt hlt)) (Nat.ne_of_lt hlt) its.length 0 _ #[] _ (by omega) (Nat.zero_le _)
  ⟨_,Heap.get?_push_of_some _ (Heap.get?_push_size _ rfl),rfl,rfl⟩ ((pl.isList.push _).push _) (Heap.get?_push_size _ rfl) (.inl ⟨rfl,rfl⟩) fun M t h' tk hT hk=>?_⟩
 have I':Inv X pins σ H { s with heap:=h',toks:=tk }:=I.kept fun b o e=>hk b o (Nat.ne_of_lt (Heap.lt_size e)) (by rw[e1];exact Nat.ne_of_lt (Nat.lt_succ_of_lt (Heap.lt_size e))) (Heap.get?_push_of_some _ (Heap.get?_push_of_some _ e))
 exact⟨.int M,H,I',⟨t,rfl⟩,q M hT⟩
theorem b1t:bootBuiltins "max" = some (.builtin "max"):=by decide +kernel
def a8U(K:W.Frag)(t tk:TA):TE:=fun σ H Q=>t σ H fun vs H1=>tk σ H1 fun zs H2=>∃a ns d,vs=[.ref a]∧zs=[.int d]∧SqL K H2 a (ns.map V.int)∧∀M,a3q ns d M→Q (.int M) H2
theorem a0X{e d:Expr}{p pos kpos:Pos}{t tk:TA}(hc:X.calm=true)(hg:Gl X "max")(hm:X.mg "max" = none)(ha:PA X [e] t)(hk:PK X [⟨some "default",d,kpos⟩] tk)
  (he:backTo pos (starEach [e] X.env)=(false,eval e X.env)::backTo pos (starEach [] X.env):=by rfl) (hplain:(backTo pos (starEach [e] X.env)).any (·.1)=false:=by rfl) :
  PE X (.Call (.Name "max" p) [e] [⟨some "default",d,kpos⟩] pos) (a8U X.K t tk):=by
 intro pins s σ H Q I h
 refine wpAny_Call_Name_kw (T7 I hg hm b1t ?_)
 refine callWith_kw (i2 (ha pos pins s σ H _ I h) fun us s1 ⟨vs,H1,I1,r1,q1⟩=>i2 (hk pos pins s1 σ H1 _ I1 q1) fun ws s2 ⟨zs,H2,I2,r2,q2⟩=>?_) he hplain
 obtain⟨a,ns,n,rfl,rfl,hq,q⟩:=q2
 obtain⟨u,rfl,ru⟩:=r1.one
 obtain⟨z,rfl,rz⟩:=r2.one
 cases (show u=Value.ref a from ru)
 obtain⟨tz,rfl⟩:=rz
 exact a6m hc I2 hq q
end
section
variable {X:Cx}{K:W.Frag}
theorem C9(hK:X.K=K:=by rfl):IxR X (a3K K):=hK▸a9h
theorem g5(hK:X.K=K:=by rfl):IxR X (a2q K):=hK▸b1h
theorem a3V(hK:X.K=K:=by rfl):SlR X (a7y K):=hK▸a9i
def a4Y(K:W.Frag):List V→Hp→VK→Prop:=fun xs H Q=>∃p ys,xs=[.ref p]∧(SqL K H p ys∨SqT K H p ys)∧Q (.int ys.length) H
theorem j9(hK:X.K=K:=by rfl):CallR X (.builtin "len") (a4Y K):=hK▸a3N
def a2w(K:W.Frag):List V→Hp→VK→Prop:=fun xs H Q=>∃p ys,xs=[.ref p]∧(SqL K H p ys∨SqT K H p ys)∧∀l,H l=none→Q (.ref l) (upd H l (.lst ys))
theorem Q1(hK:X.K=K:=by rfl):CallR X (.type "list") (a2w K):=hK▸a3O
theorem P5(hK:X.K=K:=by rfl):CallR X (.builtin "isinstance") (a5B K):=hK▸a7D
theorem a0Y{es:List Expr}{k:Nat}{t:TGs}{n:Nat}{pos:Pos}(hc:X.calm=true)(h:PGs X es t)(hK:X.K=K:=by rfl)(hn:(assignEach es X.env).length=n:=by rfl)(hst:(assignEach es X.env).findIdx? (·.1)=none:=by rfl) :
  PG X (.Tuple es k pos) (a7r K n t):=hK▸b07 hc h hn hst
variable {o e:Expr}{es:List Expr}{to:TE}{t:TA}{name:Str}{apos cpos:Pos}{T id:String}{r:V→List V→Hp→VK→Prop}
theorem X6(pa:PlainAttrs T)(slot:Slot T name id)(hty:typeOf (.builtin id)=pure (.type "method_descriptor"))(hm:MtR X id r)(ho:PE X o to)(ha:PA X (e::es) t)(hK:X.K=K:=by rfl)
  (hbase:attributeBase o name X.env (eval o X.env)=eval o X.env:=by rfl)
  (hfew:((backTo cpos (starEach (e::es) X.env)).all (fun x=>!x.1) && (backToKw cpos (keywordEach [] X.env)).all (fun x=>x.1.isSome)
   && decide ((e::es).length+([]:List Keyword).length+(if([]:List Keyword).isEmpty then 0 else 1)<30))=true:=by rfl)
  (hline:(apos.endLine == cpos.line)=true:=by rfl) (hs:starEach (e::es) X.env=(false,eval e X.env)::starEach es X.env:=by rfl) (hplain:(backTo cpos (starEach es X.env)).any (·.1)=false:=by rfl) :
  PE X (.Call (.Attribute o name apos) (e::es) [] cpos) (tBM K T r to t):=hK▸b2K pa slot hty hm ho ha hbase hfew hline hs hplain
end
theorem a3W{X:Cx}{x:Str}{j:Nat}{pos:Pos}{es:List Expr}{t:TA}(hr:PA X es t):PA X (.Constant (.str x) j pos::es) (A3 (tC (.str x)) t):=a6 a0n hr
def b1u(K:W.Frag):List V→Hp→VK→Prop:=fun xs H Q=>∃(a:Addr) (ns:List Int),xs=[.ref a]∧SqL K H a (ns.map V.int)∧Q (.int ns.sum) H
theorem Y6:∀{ns:List Int} {us:List Value},Vals (ns.map V.int) us→∃ps:List (Int×Tok),us=ps.map (fun p=>Value.int p.1 p.2)∧ps.map (·.1)=ns
 | [],_,.nil=>⟨[],rfl,rfl⟩
 | n::ns,_,.cons r t=>by
  obtain⟨tk,rfl⟩:=r
  obtain⟨ps,rfl,e⟩:=Y6 t
  exact⟨(n,tk)::ps,rfl,by rw[List.map_cons,e]⟩
section
variable {X:Cx}
theorem a2Z{K:W.Frag}(hc:X.calm=true:=by rfl)(hK:X.K=K:=by rfl):CallR X (.builtin "sum") (b1u K):=by
 subst hK
 intro pins s σ H xs us Q I r h
 obtain⟨a,ns,rfl,hq,q⟩:=h
 obtain⟨u,rfl,ru⟩:=r.one
 cases (show u=Value.ref a from ru)
 obtain⟨its,rv,pl,hz⟩:=I.list hq
 obtain⟨ps,rfl,e⟩:=Y6 rv
 have el:(ps.map fun p=>Value.int p.1 p.2).toArray=intItems ps.toArray:=by unfold intItems;simp
 have hl:=pl.isList
 rw[el]at hl
 refine sum_intListG (I.ok.hd hc) hl fun h' tk t' hk=>⟨.int ns.sum,H,I.kept (t':=tk) hk,?_,q⟩
 refine⟨t',?_⟩
 rw[preSum_eq,List.take_of_length_le (by simp),e]
end
theorem a6n:bootBuiltins "sum" = some (.builtin "sum"):=by decide +kernel
section
variable {X:Cx}
theorem a9r:OpR X (compareOp .IsNot) (fun x y H Q=>∃k,y=.bl k∧Q (.bl (!decide (x=.bl k))) H):=by
 intro pins s σ H x y v u Q I rx ry h
 obtain⟨k,rfl,q⟩:=h
 cases ry
 cases x with
 | non=>cases rx;exact wpAny_pure (i3 I q (by rw[decide_eq_false (fun z=>nomatch z)];rfl))
 | bl b=>cases rx;cases k<;>cases b<;>exact wpAny_pure (i3 I q (by decide))
 | int i=>obtain⟨t,rfl⟩:=rx;exact wpAny_pure (i3 I q (by rw[decide_eq_false (fun z=>nomatch z)];rfl))
 | str i=>obtain⟨t,rfl⟩:=rx;exact wpAny_pure (i3 I q (by rw[decide_eq_false (fun z=>nomatch z)];rfl))
 | byt i=>obtain⟨t,rfl⟩:=rx;exact wpAny_pure (i3 I q (by rw[decide_eq_false (fun z=>nomatch z)];rfl))
 | flt i=>obtain⟨t,rfl⟩:=rx;exact wpAny_pure (i3 I q (by rw[decide_eq_false (fun z=>nomatch z)];rfl))
 | ref i=>cases rx;exact wpAny_pure (i3 I q (by rw[decide_eq_false (fun z=>nomatch z)];rfl))
 | ty i=>cases rx;exact wpAny_pure (i3 I q (by rw[decide_eq_false (fun z=>nomatch z)];rfl))
end
section
variable {X:Cx}
theorem a6o{K:W.Frag}(hK:X.K=K:=by rfl):b1b X (a3K K):=by
 subst hK
 intro pins s σ H x y v u Q I rx ry h
 obtain⟨p,xs,i,z,rfl,rfl,hq,he,q⟩:=h
 cases rx
 obtain⟨t,rfl⟩:=ry
 obtain⟨its,r,pl,hz⟩:=I.list hq
 obtain⟨j,h1,h2,h3,h4,h5⟩:=a2p he
 obtain⟨w,ew,rw'⟩:=r.get h2
 have hl:=r.length
 have hn:=a0t
 have fin:EP X pins σ Q w s:=⟨z,H,I,rw',q⟩
 by_cases h0:0≤i
 ·have hj:i.toNat=j:=by
   rw[seqIndex_of h0 h5]at h1
   exact Option.some.inj h1
  exact wpAny_getItem_list pl.isList h0 (by omega) (by rw[hj];simpa using ew) fin
 ·have hj:(i+(its.toArray.size:Int)).toNat=j:=by
   rw[seqIndex_neg (by omega) h4]at h1
   rw[List.size_toArray,← hl]
   exact Option.some.inj h1
  exact wpAny_getItem_list_neg pl.isList (by omega) (by rw[List.size_toArray]<;>omega) (by omega) (by rw[hj];simpa using ew) fin
end
def Gd(n:Nat)(lt:Nat→Nat→Bool){α:Type}:KasT α→(α→Prop)→Prop
 | .ret a,P=>P a
 | .ask i j k,P=>i<n∧j<n∧Gd n lt (k (lt i j)) P
theorem Gd.mono{n:Nat}{lt:Nat→Nat→Bool}{α:Type}{P P':α→Prop}(h:∀a,P a→P' a):∀{t:KasT α},Gd n lt t P→Gd n lt t P'
 | .ret a,g=>h a g
 | .ask i j k,g=>⟨g.1,g.2.1,Gd.mono h g.2.2⟩
theorem Gd.bind{n:Nat}{lt:Nat→Nat→Bool}{α β:Type}{P:β→Prop}{f:α→KasT β}:∀{t:KasT α},Gd n lt t (fun a=>Gd n lt (f a) P)→Gd n lt (t.bind f) P
 | .ret a,g=>g
 | .ask i j k,g=>⟨g.1,g.2.1,Gd.bind (t:=k (lt i j)) g.2.2⟩
def ga(p:Array Nat)(k:Nat):Nat:=p.getD k 0
theorem a8V(p:Array Nat)(k:Nat):ga p k=(p[k]?).getD 0:=by
 unfold ga;simp[Array.getD_eq_getD_getElem?]
structure TPre(lt:Nat→Nat→Bool):Prop where
 irr:∀i,lt i i=false
 tr:∀i j k,lt j i=false→lt k j=false→lt k i=false
 asy:∀i j,lt i j=true→lt j i=false
section
variable {n:Nat}{lt:Nat→Nat→Bool}
def Pmn(n:Nat)(p:Array Nat):Prop:=p.toList.Perm (List.range n)
theorem Pmn.size{p:Array Nat}(h:Pmn n p):p.size=n:=by have:=h.length_eq;simpa using this
theorem Pmn.bd{p:Array Nat}(h:Pmn n p){k:Nat}(hk:k<n):ga p k<n:=by
 have hs:=h.size
 have:ga p k∈p.toList:=by
  have e:ga p k=p[k]'(by omega):=by unfold ga;simp[Array.getD,hs,hk]
  rw[e];exact Array.getElem_mem_toList _
 exact List.mem_range.mp (h.mem_iff.mp this)
theorem Pmn.rev{p:Array Nat}(h:Pmn n p)(i j:Nat):Pmn n (kas_rev p i j):=((Array.perm_iff_toList_perm.mp (mirror_perm p i j _)).trans h)
theorem Pmn.bub{p:Array Nat}(h:Pmn n p)(i j:Nat):Pmn n (bubble p i j):=((Array.perm_iff_toList_perm.mp (bubble_perm p i j)).trans h)
theorem b1v{p:Array Nat}{i j:Nat}(hj:j≤p.size)(k:Nat):ga (kas_rev p i j) k=if i≤k∧k<j then ga p (i+j-1-k)else ga p k:=by
 rw[a8V,kas_rev,getElem?_mirror_all hj]
 split<;>rw[a8V]
end
theorem T5:∀a:List Int,HT.lexLt a a=false
 | []=>rfl
 | x::xs=>by rw[HT.lexLt_cons,if_pos rfl];exact T5 xs
theorem a2x:∀a b:List Int,HT.lexLt a b=true→HT.lexLt b a=false
 | [],[],h=>by cases h
 | [],_::_,_=>rfl
 | _::_,[],h=>by cases h
 | x::xs,y::ys,h=>by
  rw[HT.lexLt_cons]at h ⊢
  by_cases e:x=y
  ·rw[if_pos e]at h;rw[if_pos e.symm];exact a2x xs ys h
  ·rw[if_neg e]at h;rw[if_neg (Ne.symm e)]
   have:=of_decide_eq_true h
   exact decide_eq_false (by omega)
theorem a3X:∀a b c:List Int,HT.lexLt b a=false→HT.lexLt c b=false→HT.lexLt c a=false
 | [],[],_,_,h=>h
 | [],y::ys,[],_,h=>rfl
 | [],y::ys,z::zs,_,_=>rfl
 | x::xs,[],_,h,_=>by cases h
 | x::xs,y::ys,[],_,h=>by cases h
 | x::xs,y::ys,z::zs,h1,h2=>by
  rw[HT.lexLt_cons]at h1 h2 ⊢
  by_cases e1:y=x
  ·rw[if_pos e1]at h1
   by_cases e2:z=y
   ·rw[if_pos e2]at h2;rw[if_pos (e2.trans e1)];exact a3X xs ys zs h1 h2
   ·rw[if_neg e2]at h2;rw[if_neg (fun q=>e2 (q.trans e1.symm))];rw[← e1];exact h2
  ·rw[if_neg e1]at h1
   have:=of_decide_eq_false h1
   by_cases e2:z=y
   ·rw[if_neg (fun q=>e1 (e2.symm.trans q)),e2];exact h1
   ·rw[if_neg e2]at h2
    have:=of_decide_eq_false h2
    rw[if_neg (by omega)]
    exact decide_eq_false (by omega)
section
variable {prog:Program}{w:World}{A:Around}{E:Value→Shared→Prop}{s:Shared}{b fin:Bool}{Q:Bool→Shared→Prop}
theorem a1h:∀{vs ws:List Value} {ns ms:List Int} (i:Nat),IntsAre vs ns→IntsAre ws ms→fin=decide (ns.length<ms.length)→Q (HT.lexLt ns ms) s→KatLex prog w A true fin Q (vs.zip ws) i s
 | _,_,_,_,i,.nil,.nil,hf,h=>by rw[List.zip_nil_left];refine kat_nil ?_;rw[hf];exact h
 | _,_,_,_,i,.nil,.cons c u t,hf,h=>by
  rw[List.zip_nil_left];refine kat_nil ?_;rw[hf,decide_eq_true (by simp)];exact h
 | _,_,_,_,i,.cons a t r,.nil,hf,h=>by
  rw[List.zip_nil_right];refine kat_nil ?_;rw[hf,decide_eq_false (by simp)];exact h
 | _,_,_,_,i,.cons (ns:=ns) a t r,.cons (ns:=ms) c u r',hf,h=>by
  rw[List.zip_cons_cons]
  rw[HT.lexLt_cons]at h
  refine kat_cons (wpAny_eqBool_int (kat_go (fun e=>?_) fun e=>?_))
  ·rw[if_pos (by simpa using e)]at h
   exact kat_yes (a1h (i+1) r r' (by rw[hf];simp) h)
  ·rw[if_neg (by simpa using e)]at h
   refine kat_no ?_
   by_cases hi:i=0
   ·subst hi
    show wpAny _ _ (oneLt' true _ _) _ _ _
    exact oneLt_int h
   ·have e0:(true && i == 0)=false:=by simpa using hi
    rw[e0]
    exact kat_one _ _ (PyProof.Rows.lt_int h)
def TupKey(h:Heap)(v:Value)(k:List Int):Prop:=∃a o xs m,v=.ref a∧h.get? a=some o∧o.cls=.type "tuple"∧o.data=.seq xs m∧IntsAre xs.toList k∧k≠[]
theorem TupKey.keeps{h h':Heap}{v:Value}{k:List Int}(t:TupKey h v k)(kp:∀a o,h.get? a=some o→h'.get? a=some o):TupKey h' v k:=by
 obtain⟨a,o,xs,m,e,ho,r⟩:=t
 exact⟨a,o,xs,m,e,kp _ _ ho,r⟩
theorem TupKey.lt{v u:Value}{k l:List Int}{C:Bool→Shared→Prop}{E:Value→Shared→Prop}(t:TupKey s.heap v k)(t':TupKey s.heap u l)(h:C (HT.lexLt k l) s):wpAny (model prog w) A (keyLt' (tuples' true) v u) C E s:=by
 obtain⟨a,o,xs,m,rfl,ho,_,hd,hi,_⟩:=t
 obtain⟨a',o',xs',m',rfl,ho',_,hd',hi',_⟩:=t'
 have z1:xs.size=k.length:=by rw[← hi.length];simp
 have z2:xs'.size=l.length:=by rw[← hi'.length];simp
 exact kat_lt ho hd ho' hd' (a1h 0 hi hi' (by rw[z1,z2]) h)
def TKs(h:Heap):List Value→List (List Int)→Prop
 | [],[]=>True
 | v::vs,k::ks=>TupKey h v k∧TKs h vs ks
 | _,_=>False
theorem TKs.keeps{h h':Heap}(kp:∀a o,h.get? a=some o→h'.get? a=some o):∀{vs:List Value} {ks:List (List Int)},TKs h vs ks→TKs h' vs ks
 | [],[],_=>trivial
 | [],_::_,t=>t.elim
 | _::_,[],t=>t.elim
 | v::vs,k::ks,t=>⟨t.1.keeps kp,TKs.keeps kp t.2⟩
theorem TKs.len{h:Heap}:∀{vs:List Value} {ks:List (List Int)},TKs h vs ks→vs.length=ks.length
 | [],[],_=>rfl
 | [],_::_,t=>t.elim
 | _::_,[],t=>t.elim
 | v::vs,k::ks,t=>by simp[t.2.len]
theorem TKs.at{h:Heap}:∀{vs:List Value} {ks:List (List Int)} (i:Nat),TKs h vs ks→i<vs.length→TupKey h (vs.getD i Value.none) (ks.getD i [])
 | [],_,i,_,hi=>absurd hi (Nat.not_lt_zero _)
 | _::_,[],_,t,_=>t.elim
 | v::vs,k::ks,0,t,_=>t.1
 | v::vs,k::ks,i+1,t,hi=>TKs.at (vs:=vs) (ks:=ks) i t.2 (by simpa using hi)
end
def VKs(K:W.Frag)(H:Hp):List V→List (List Int)→Prop
 | [],[]=>True
 | v::vs,k::ks=>(∃a,v=.ref a∧SqT K H a (k.map V.int)∧k≠[])∧VKs K H vs ks
 | _,_=>False
theorem a0w:∀ps:List (Int×Tok),IntsAre (ps.map fun p=>Value.int p.1 p.2) (ps.map (·.1))
 | []=>.nil
 | p::ps=>.cons p.1 p.2 (a0w ps)
theorem a20:∀{ys:List V} {us:List Value} (p:List Nat),Vals ys us→(∀i∈p,i<ys.length)→Vals (p.map fun i=>ys.getD i .non) (p.map fun i=>us.getD i Value.none)
 | _,_,[],_,_=>.nil
 | ys,us,i::p,r,h=>by
  have hi:=h i (by simp)
  obtain⟨u,e,ru⟩:=r.get (List.getElem?_eq_getElem hi)
  refine .cons ?_ (a20 p r fun j hj=>h j (by simp[hj]))
  have e1:ys.getD i .non=ys[i]:=by simp[hi]
  have e2:us.getD i Value.none=u:=by simp[e]
  show RelV (ys.getD i .non) (us.getD i Value.none)
  rw[e1,e2];exact ru
section
variable {X:Cx}
theorem a4Z{pins:List (Addr×Obj)}{σ:St}{H:Hp}{s:Shared}(I:Inv X pins σ H s):∀{ys:List V} {us:List Value} {ks:List (List Int)},Vals ys us→VKs X.K H ys ks→TKs s.heap us ks
 | [],_,[],.nil,_=>trivial
 | [],_,_::_,_,h=>h.elim
 | _::_,_,[],_,h=>h.elim
 | v::ys,_,k::ks,.cons r rs,⟨⟨a,e,hq,hn⟩,h⟩=>by
  refine⟨?_,a4Z I rs h⟩
  subst e
  obtain⟨its,rv,⟨o,ho,hc,n,hd⟩,_⟩:=I.tuple hq
  obtain⟨ps,rfl,ep⟩:=Y6 rv
  refine⟨a,o,_,n,r,ho,hc,hd,?_,hn⟩
  rw[← ep]
  exact a0w ps
end
namespace F'
end F'
open PySem PySem.Spec PyProof.Rows PySem.W
section
variable {X:Cx}{pins:List (Addr×Obj)}{σ:St}{H:Hp}{s:Shared}{a:Addr}
theorem Inv.trackO{oe:Obj}{vs:Array Value}{k:Nat}{u:HO}(I:Inv X pins σ H s)(ni:¬Imp X pins H a)(e:s.heap.get? a=some oe)(d:oe.data=.seq vs k)(new:ObjOk X.prog X.w (upd H a u) s.heap a u):Inv X pins σ (upd H a u) s:=by
 have fr:H a=none:=by
  cases q:H a with
  | none=>rfl
  | some v=>exact absurd (.inl (by rw[q];exact nofun)) ni
 refine⟨I.ok,I.os,I.bare,⟨I.base.keep,I.base.slot,fun b o e1 n hx=>?_,I.base.there,fun b xs q=>?_,fun b o u q=>?_,fun b ps q=>?_⟩,I.loc,I.cell,?_,fun y c q=>?_,fun p hp=>?_,fun b u q=>?_,I.len⟩
 ·rw[a7 (fun z=>ni (.inr (.inl ⟨by rw[← z];exact hx,o,by rw[← z];exact e1⟩)))]
  exact I.base.free b o e1 n hx
 ·have q1:=I.base.tups b xs q
  rw[a7 (g6 q1 fr)];exact q1
 ·have q1:=I.base.frzs b o u q
  rw[a7 (g6 q1 fr)];exact q1
 ·obtain⟨more,q1⟩:=I.base.tbls b ps q
  exact⟨more,by rw[a7 (g6 q1 fr)];exact q1⟩
 ·rw[a7 fun z=>?_]
  ·exact I.free
  ·obtain⟨m,⟨o,es,ep,ho,hd,_⟩,_⟩:=I.loc
   rw[z,e]at ho;cases ho
   rw[d]at hd;cases hd
 ·rw[a7 fun z=>?_]
  ·exact I.freeC y c q
  ·obtain⟨v,o,ho,hd⟩:=I.cell y c q
   rw[z,e]at ho;cases ho
   rw[d]at hd;cases hd
 ·obtain⟨h1,h2,h3,h4,h5⟩:=I.pin p hp
  exact⟨h1,by rw[a7 (fun z=>ni (.inr (.inr ⟨p,hp,z⟩)))];exact h2,h3,h4,h5⟩
 ·by_cases hb:b=a
  ·subst hb
   rw[d5]at q;cases q
   exact new
  ·rw[a7 hb]at q
   refine(I.hok b u q).stay (fun _ _ _ z=>z) (fun c z=>?_) (fun c xs z=>?_) fun c ob u z=>?_
   ·rw[a7 (g6 z fr)];exact z
   ·rw[a7 (g6 z fr)];exact z
   ·rw[a7 (g6 z fr)];exact z
end
section
variable {X:Cx}
def XAccAt(X:Cx)(σ:St)(E:XK):Prop:=∀(pins:List (Addr×Obj)) (H:Hp) (s:Shared) (a:Addr) (cls:Value) (cx:Option Addr) (B:Heap) (ph:Ph),Inv X pins σ H s→XAt X pins H s a cls cx B ph→E cls cx H→X.xe (.ref a) s
theorem XAccAt.passes{σ:St}{E:XK}(acc:XAccAt X σ E):∀(pins:List (Addr×Obj)) (H:Hp) (s:Shared) (e:Value) (s':Shared),Inv X pins σ H s→n4 X.prog X.w X.stack H s E e s'→X.xe e s':=by
 intro pins H s e s' I h
 obtain⟨a,cls,cx,H',B,rfl,os,bare,un,hok,st,fr,ff,tr,free,cov,hE⟩:=h
 have I':Inv X pins σ H' s':=I.call' (ch:=[]) os un hok bare (fun b z=>absurd z (by simp))
 refine acc pins H' s' a cls cx B .fly I' ⟨free,st,fr,ff,fun b o e i n=>cov b o e ?_ n,tr⟩ hE
 rcases i with i | ⟨hx,o',i⟩ | ⟨p,hp,q⟩
 ·exact .inl i
 ·exact .inr (I.base.there b o' i hx)
 ·exact .inr ⟨p.2,by rw[← q];exact(I.pin p hp).1⟩
end
section
variable {X:Cx}{CX:Q7}{k:Nat}{f C:Addr}{fd:FuncData}{ps:List Str}{sp:Sp}{dvs:List V}{ds:List Value}{E:XK}{x m:Str}{p pos apos:Pos}{e o:Expr}{es:List Expr}{ta:TE}{t:TA}
def a6p(T:Addr→Sp→Prop)(m:Str)(E:XK)(ta:TE)(t:TA):TE:=fun σ H Q=>ta σ H fun x H1=>∃a C dx fs sp,x=.ref a∧H1 a=some (.ins C dx fs)∧fs.lookup m=none∧T C sp∧t σ H1 fun vs H2=>sp (x::vs) H2 Q E
def a3Y(X:Cx)(T:Addr→Sp→Prop)(m:Str)(E:XK):Prop:=∀C sp,T C sp→Cls X.K C∧∃(CX:Q7) (k:Nat) (f:Addr) (fd:FuncData) (ps:List Str),Meth X.K C m f∧FnOk X.prog X.w X.K X.mg X.base CX k f fd ps sp∧Room k X.A∧Binds X.K fd ps []∧L7 CX X E
theorem a7H{T:Addr→Sp→Prop}{pl:Sem Bool}(he:PE X o ta)(hT:a3Y X T m E)(ha:PA X (e::es) t)
  (hst:starEach (e::es) X.env=(false,eval e X.env)::starEach es X.env:=by rfl) (hpl:(backTo pos (starEach es X.env)).any (·.1)=false:=by rfl)
  (ht:eval (.Call (.Attribute o m apos) (e::es) [] pos) X.env=(do
   let ov ← eval o X.env
   standAt apos.atName
   let (f,first) ← holding [ov] (getMethod ov m pl)
   callWith pos f first (backTo pos (starEach (e::es) X.env)) (backToKw pos (keywordEach [] X.env))):=by rfl) :
  PE X (.Call (.Attribute o m apos) (e::es) [] pos) (a6p T m E ta t):=by
 intro pins s σ H Q I h
 refine W.methodCall_KW (pl:=pl) (i2 (he pins s σ H _ I h) fun u s1 ⟨x,H1,I1,rx,a,C,dx,fs,sp,ex,ea,l,hC,q⟩=>?_) ht
 subst ex
 obtain rfl:u=Value.ref a:=rx
 obtain⟨c,CX,k,f,fd,ps,hm,F,hr,hb,hx⟩:=hT C sp hC
 refine a5t I1 ea c hm l ?_
 refine W.callWith_K (first:=[.ref a]) (h₀:=X.base) I.ok.mod.kin hm.kp (i2 (ha pos pins s1 σ H1 _ I1 q) fun us s2 ⟨vs,H2,I2,r,q2⟩=>⟨I2.kIn,?_⟩) hst hpl
 exact a6d (us:=.ref a::us) (vs:=.ref a::vs) (dvs:=[]) F hr hb .nil hx I2 (.cons rfl r) (by rw[List.append_nil];exact q2)
structure OwnM(P:Program)(w:World)(K:W.Frag)(mg:Str→Option Value)(base:Heap)(k:Nat)(C:Addr)(m:Str)(ps:List Str)(sp:Sp):Prop where
 ex:∃f fd,FnOk P w K mg base (n4 P w) k f fd ps sp∧Binds K fd ps []∧Meth K C m f
 cls:Cls K C
theorem a6q{k:Nat}{T:Addr→Sp→Prop}(hr:Room k X.A)(hx:L7 (n4 X.prog X.w) X E)(h:∀C sp,T C sp→∃k' ps,k'≤k∧OwnM X.prog X.w X.K X.mg X.base k' C m ps sp):a3Y X T m E:=fun C sp hC=>by
 obtain⟨k',ps,hk,G⟩:=h C sp hC
 obtain⟨f,fd,F,b,M⟩:=G.ex
 exact⟨G.cls,_,k',f,fd,ps,M,F,hr.mono hk,b,hx⟩
end
def a6r(C:Addr):TE:=fun σ H Q=>∀x dx,H x=none→H dx=none→dx≠x→Q (.ref x) (upd (upd H dx (.own x)) x (.ins C dx []))
section
variable {X:Cx}{C:Addr}{x:Str}{p pos:Pos}
theorem a1q(mk:makesIn X.K C=true)(hi:findIn X.K (.ref C) "__init__" = some (some (.builtin "object.__init__")))(kp:keepIn X.K (.ref C)=true)(hm:X.mg x=some (.ref C))(hg:Gl X x:=by rfl)(hdb:(x == ("__debug__" : Str))=false:=by decide) :
  PE X (.Call (.Name x p) [] [] pos) (a6r C):=by
 intro pins s σ H Q I h
 refine wpAny_Call_Name_kw (a2k I hg hm ?_ hdb)
 refine callWith_K0 I.kIn kp ?_
 have I2:=Inv.made (C:=C) I
 have hq:=h (s.heap.objs.size+1) s.heap.objs.size (I.hok.fresh (Nat.le_succ _)) (I.hok.fresh (Nat.le_refl _)) (Nat.ne_of_lt (Nat.lt_succ_self _))
 refine wpAny_call (a6c I.kIn mk hi (fun self=>Looks.of_pure (oi_bind self)) ?_)
 have Y:=makes_of (M:=model X.prog X.w) I.kIn mk
 have e2:((s.heap.push emptyDict).push (instObj C s.heap.objs.size)).get? (s.heap.objs.size+1)=some (instObj C s.heap.objs.size):=by
  have:=Heap.get?_push_size (s.heap.push emptyDict) (o:=instObj C s.heap.objs.size) rfl
  rwa [Heap.size_push]at this
 have t1:Looks (model X.prog X.w) ((s.heap.push emptyDict).push (instObj C s.heap.objs.size)) (typeOf (.ref (s.heap.objs.size+1))) (.ref C):=(Looks.ld e2).andThen .now
 have t2:Looks (model X.prog X.w) ((s.heap.push emptyDict).push (instObj C s.heap.objs.size)) (isInstance (.ref (s.heap.objs.size+1)) (.type "object")) true:=t1.andThen (Y.top.keeps fun b o e=>Heap.get?_push_of_some _ (Heap.get?_push_of_some _ e))
 refine codeAny_call_builtin oi_plain entry_oi (@check_slot (model X.prog X.w) _ _ _ "object.__init__" "object" "__init__" (.ref (s.heap.objs.size+1)) [] [] _ oi_kind oi_split t2 (oi_args (.ref (s.heap.objs.size+1))) ?_)
 rw[oi_run]
 exact wpAny_pure (And.intro rfl ⟨V.ref (s.heap.objs.size+1),_,I2,rfl,hq⟩)
end
section
variable {prog:Program}{w:World}{A:Around}{E:Value→Shared→Prop}{s:Shared}{fin:Bool}{Q:Bool→Shared→Prop}
theorem a9s{v:Value}(hv:(v == v)=true){E:Value→Shared→Prop}(h:Q true s):wpAny (model prog w) A (eqBool v v) Q E s:=by
 unfold eqBool
 refine wpAny_holding ?_
 rw[if_pos hv]
 exact wpAny_bind (wpAny_rule (wpAny_pure h))
theorem a1i:∀{vs:List Value} (i:Nat),(∀v∈vs,(v == v)=true)→Q fin s→KatLex prog w A true fin Q (vs.zip vs) i s
 | [],i,_,h=>by rw[List.zip_nil_left];exact kat_nil h
 | v::vs,i,hv,h=>by
  rw[List.zip_cons_cons]
  exact kat_cons (a9s (hv v (by simp)) (kat_yes (a1i (i+1) (fun u hu=>hv u (by simp[hu])) h)))
theorem a1W{rs rs':List Value}:∀{vs ws:List Value} {ns ms:List Int} (i:Nat),IntsAre vs ns→IntsAre ws ms→ns.length=ms.length→ns≠ms→Q (HT.lexLt ns ms) s→KatLex prog w A true fin Q ((vs++rs).zip (ws++rs')) i s
 | _,_,_,_,i,.nil,.nil,_,hn,_=>absurd rfl hn
 | _,_,_,_,i,.nil,.cons c u t,hf,_,_=>by simp at hf
 | _,_,_,_,i,.cons a t r,.nil,hf,_,_=>by simp at hf
 | _,_,_,_,i,.cons (ns:=ns) a t r,.cons (ns:=ms) c u r',hf,hn,h=>by
  rw[List.cons_append,List.cons_append,List.zip_cons_cons]
  rw[HT.lexLt_cons]at h
  refine kat_cons (wpAny_eqBool_int (kat_go (fun e=>?_) fun e=>?_))
  ·have e':a=c:=by simpa using e
   rw[if_pos e']at h
   exact kat_yes (a1W (i+1) r r' (by simpa using hf) (fun z=>hn (by rw[e',z])) h)
  ·rw[if_neg (by simpa using e)]at h
   refine kat_no ?_
   by_cases hi:i=0
   ·subst hi
    show wpAny _ _ (oneLt' true _ _) _ _ _
    exact oneLt_int h
   ·have e0:(true && i == 0)=false:=by simpa using hi
    rw[e0]
    exact kat_one _ _ (PyProof.Rows.lt_int h)
def TupPre(h:Heap)(v:Value)(k:List Int):Prop:=∃a o xs m vs rs,v=.ref a∧h.get? a=some o∧o.cls=.type "tuple"∧o.data=.seq xs m∧xs.toList=vs++rs∧IntsAre vs k∧k≠[]∧∀u∈xs.toList,(u == u)=true
theorem TupPre.keeps{h h':Heap}{v:Value}{k:List Int}(t:TupPre h v k)(kp:∀a o,h.get? a=some o→h'.get? a=some o):TupPre h' v k:=by
 obtain⟨a,o,xs,m,vs,rs,e,ho,r⟩:=t
 exact⟨a,o,xs,m,vs,rs,e,kp _ _ ho,r⟩
theorem TupPre.lt{v u:Value}{k l:List Int}{C:Bool→Shared→Prop}(t:TupPre s.heap v k)(t':TupPre s.heap u l)(hl:k.length=l.length)(hn:k≠l)(h:C (HT.lexLt k l) s):wpAny (model prog w) A (keyLt' (tuples' true) v u) C E s:=by
 obtain⟨a,o,xs,m,vs,rs,rfl,ho,_,hd,hx,hi,_⟩:=t
 obtain⟨a',o',xs',m',vs',rs',rfl,ho',_,hd',hx',hi',_⟩:=t'
 refine kat_lt ho hd ho' hd' ?_
 rw[hx,hx']
 exact a1W 0 hi hi' hl hn h
theorem TupPre.lt_self{v:Value}{k:List Int}{C:Bool→Shared→Prop}(t:TupPre s.heap v k)(h:C false s):wpAny (model prog w) A (keyLt' (tuples' true) v v) C E s:=by
 obtain⟨a,o,xs,m,vs,rs,rfl,ho,_,hd,hx,hi,_,hv⟩:=t
 refine kat_lt ho hd ho hd (a1i 0 hv ?_)
 rw[decide_eq_false (Nat.lt_irrefl _)]
 exact h
def TPs(h:Heap):List Value→List (List Int)→Prop
 | [],[]=>True
 | v::vs,k::ks=>TupPre h v k∧TPs h vs ks
 | _,_=>False
theorem TPs.keeps{h h':Heap}(kp:∀a o,h.get? a=some o→h'.get? a=some o):∀{vs:List Value} {ks:List (List Int)},TPs h vs ks→TPs h' vs ks
 | [],[],_=>trivial
 | [],_::_,t=>t.elim
 | _::_,[],t=>t.elim
 | v::vs,k::ks,t=>⟨t.1.keeps kp,TPs.keeps kp t.2⟩
theorem TPs.at{h:Heap}:∀{vs:List Value} {ks:List (List Int)} (i:Nat),TPs h vs ks→i<vs.length→TupPre h (vs.getD i Value.none) (ks.getD i [])
 | [],_,i,_,hi=>absurd hi (Nat.not_lt_zero _)
 | _::_,[],_,t,_=>t.elim
 | v::vs,k::ks,0,t,_=>t.1
 | v::vs,k::ks,i+1,t,hi=>TPs.at (vs:=vs) (ks:=ks) i t.2 (by simpa using hi)
theorem a40:∀{h:Heap} {vs:List Value} {ks:List (List Int)},TPs h vs ks→∃fs,KatTups h vs fs∧fs.length=vs.length∧∀v∈fs,∃i t,v=Value.int i t
 | _,[],[],_=>⟨[],.nil,rfl,fun v h=>by cases h⟩
 | _,[],_::_,t=>t.elim
 | _,_::_,[],t=>t.elim
 | h,v::vs,k::ks,⟨t,r⟩=>by
  obtain⟨fs,h1,h2,h3⟩:=a40 r
  obtain⟨a,o,xs,m,us,rs,rfl,ho,hc,hd,hx,hi,hn,_⟩:=t
  obtain⟨xl⟩:=xs
  cases hi with
  | nil=>exact absurd rfl hn
  | cons n tk hr =>
   simp only at hx
   subst hx
   exact⟨.int n tk::fs,.cons ho hc hd (by simp) h1,by simp[h2],fun v hv=>by
    rcases List.mem_cons.mp hv with rfl | hv
    ·exact⟨n,tk,rfl⟩
    ·exact h3 v hv⟩
end
def VPs(K:W.Frag)(H:Hp):List V→List (List Int)→Prop
 | [],[]=>True
 | v::vs,k::ks=>(∃a rs,v=.ref a∧SqT K H a (k.map V.int++rs)∧k≠[]∧∀r∈rs,∃b,r=.ref b)∧VPs K H vs ks
 | _,_=>False
theorem a1X:∀{k:List Int} {rs:List V} {us:List Value},Vals (k.map V.int++rs) us→∃vs ws,us=vs++ws∧IntsAre vs k∧Vals rs ws
 | [],rs,us,r=>⟨[],us,rfl,.nil,r⟩
 | n::k,rs,_,.cons r t=>by
  obtain⟨vs,ws,e,h1,h2⟩:=a1X (k:=k) t
  obtain⟨tk,e2⟩:=r
  exact⟨.int n tk::vs,ws,by rw[e,e2];rfl,.cons n tk h1,h2⟩
theorem a1j:∀{vs:List Value} {ns:List Int},IntsAre vs ns→∀u∈vs,∃m t,u=Value.int m t
 | _,_,.nil,u,hu=>by cases hu
 | _,_,.cons m t r,u,hu=>by
  rcases List.mem_cons.mp hu with rfl | hu
  ·exact⟨m,t,rfl⟩
  ·exact a1j r u hu
theorem a7I(n:Int)(t:Tok):(Value.int n t == Value.int n t)=true:=by simp
theorem a7J(a:Addr):(Value.ref a == Value.ref a)=true:=by simp
section
variable {X:Cx}
theorem a42{pins:List (Addr×Obj)}{σ:St}{H:Hp}{s:Shared}(I:Inv X pins σ H s):∀{ys:List V} {us:List Value} {ks:List (List Int)},Vals ys us→VPs X.K H ys ks→TPs s.heap us ks
 | [],_,[],.nil,_=>trivial
 | [],_,_::_,_,h=>h.elim
 | _::_,_,[],_,h=>h.elim
 | v::ys,_,k::ks,.cons r rs,⟨⟨a,zs,e,hq,hn,hz⟩,h⟩=>by
  refine⟨?_,a42 I rs h⟩
  subst e
  obtain⟨its,rv,⟨o,ho,hc,n,hd⟩,_⟩:=I.tuple hq
  obtain⟨vs,ws,e,hi,hw⟩:=a1X rv
  refine⟨a,o,_,n,vs,ws,r,ho,hc,hd,by simpa using e,hi,hn,?_⟩
  intro u hu
  have hu:u∈its:=by simpa using hu
  rw[e]at hu
  rcases List.mem_append.mp hu with hu | hu
  ·obtain⟨m,t,rfl⟩:=a1j hi u hu
   exact a7I m t
  ·obtain⟨j,hj,e2⟩:=List.mem_iff_getElem.mp hu
   have hl:=hw.length
   have hj2:j<zs.length:=by omega
   obtain⟨w',q1,q2⟩:=hw.get (List.getElem?_eq_getElem hj2)
   obtain⟨b,eb⟩:=hz zs[j] (List.getElem_mem hj2)
   rw[eb]at q2
   rw[List.getElem?_eq_getElem hj,e2]at q1
   cases q1
   cases q2
   exact a7J b
end
theorem a3i{pos:Pos}{a b:Int}{c cv:Value}(l:List Value)(h:TriplesOk l)(e:codeAmong pos (l++[rawInt a,rawInt b,c])=some cv):codeAmong pos l=some cv∨cv=c:=by
 fun_induction TriplesOk l with
 | case1 =>
  simp only[List.nil_append,codeAmong,rawInt]at e
  split at e
  ·exact .inr (Option.some.inj e).symm
  ·cases e
 | case2 a t b u x g9 ih =>
  simp only[List.cons_append,codeAmong]at e ⊢
  split at e
  ·exact .inl (by rename_i z;rw[if_pos z];exact e)
  ·rename_i z;rw[if_neg z];exact ih h e
 | case3=>exact h.elim
def a0Z(oc:Obj)(q:Str):Prop:=∃vs t,oc.data=.fields vs∧vs[1]? = some (.str q t)
section
variable {X:Cx}{pins:List (Addr×Obj)}{σ:St}{H:Hp}{s:Shared}{params:Arguments}{body:Expr}{scope:Scope}{lpos:Pos}{c P:Addr}{q:Str}{tq:Tok}{qs:Array Value}{Q:Value→Shared→Prop}{E:Value→Shared→Prop}
abbrev X1(X:Cx)(params:Arguments)(body:Expr)(scope:Scope)(q:Str)(c':Addr)(pm ctv:Value):Obj:=kla_obj "<lambda>" q params body scope (v7 X.env.cells scope.names []) pm c' ctv
theorem Inv.grown{h':Heap}{tk:Nat}{c':Addr}{oc:Obj}{ps:Array Value}{a b:Int}(I:Inv X pins σ H s)(hT:H P=some (.tbl qs))(hqs:qs[0]? = some (Value.str q tq))(eP:s.heap.get? P=some (tabObj ps))(tr:TriplesOk ps.toList)
  (al:∀pos cv,codeAmong pos ps.toList=some cv→∃c oc u,cv=Value.ref c∧H c=some (.frz oc u)∧∃vs q' t t2,oc.data=.fields vs∧vs[1]? = some (Value.str q' t2)∧qs[0]? = some (Value.str q' t))
  (hx:Heap.ExtBut P s.heap h') (hge:s.heap.objs.size≤c') (hoc:h'.get? c'=some oc) (hq:a0Z oc q) (htb:h'.get? P=some (tabObj (ps ++ #[rawInt a,rawInt b,.ref c']))) :
  Inv X pins σ (upd H c' (.frz oc (.own c'))) { s with heap:=h',toks:=tk }:=by
 have hn:H c'=none:=I.hok.fresh hge
 have neP:∀b',H b'=none→b'≠P:=fun b' n z=>by rw[z,hT]at n;cases n
 refine I.un (t':=tk) ⟨fun b o e n _ _=>hx b o (neP b n) e,fun b o e n _ _=>⟨o.slots,hx b o (neP b n) e⟩,fun b o e n _=>by rw[a7 (Nat.ne_of_lt (Nat.lt_of_lt_of_le (Heap.lt_size e) hge))];exact n,fun b o e _=>?_,fun b xs e=>by rw[a7 (g6 e hn)];exact e,fun b o u e=>by rw[a7 (g6 e hn)];exact e,fun b qs e=>⟨#[],by rw[a7 (g6 e hn),e];simp⟩⟩ fun b u e=>?_
 ·by_cases z:b=P
  ·rw[z];exact⟨_,htb⟩
  ·exact⟨o,hx b o z e⟩
 ·by_cases z:b=c'
  ·subst z
   rw[d5]at e;cases e
   exact⟨hoc,oc,hoc⟩
  ·rw[a7 z]at e
   by_cases y:b=P
   ·subst y
    rw[hT]at e;cases e
    refine⟨_,htb,by rw[Array.toList_append];exact TriplesOk_snoc _ _ _ _ tr,fun pos cv e=>?_⟩
    rw[Array.toList_append]at e
    rcases a3i _ tr e with e | rfl
    ·obtain⟨c,o,u,e1,e2,r⟩:=al pos cv e
     exact⟨c,o,u,e1,by rw[a7 (g6 e2 hn)];exact e2,r⟩
    ·obtain⟨vs,t,d1,d2⟩:=hq
     exact⟨c',oc,.own c',rfl,d5,vs,q,tq,t,d1,d2,hqs⟩
   ·refine(I.hok b u e).stay (fun d v hd r=>hx d v ?_ r) (fun d r=>by rw[a7 (g6 r hn)];exact r) (fun d xs r=>by rw[a7 (g6 r hn)];exact r) fun d o u r=>by rw[a7 (g6 r hn)];exact r
    rcases hd with rfl | hd
    ·exact y
    ·intro z;rw[z,hT]at hd;cases hd
theorem a7K(I:Inv X pins σ H s)(hd:defaultsOf params X.env=([],[]))(hcode:X.env.code=.ref c)(C:CodeHd X.base c P)(hbl:X.base.BuiltinsAt X.mg P)(hT:H P=some (.tbl qs))(hqs:qs[0]? = some (Value.str q tq))(hq:q=X.env.qual ++ "<lambda>")
  (hfree:∀y∈scope.names,y.2=.free→X.env.scope.names.lookup y.1=some .cell∨X.env.scope.names.lookup y.1=some .free)
  (h:∀f c' oc u pm ctv H' s',Inv X pins σ H' s'→(∀a o,H a=some o→H' a=some o)→H' f=some (.frz (X1 X params body scope q c' pm ctv) (.own f))→H' c'=some (.frz oc u)→a0Z oc q→Q (.ref f) s') :
  wpAny (model X.prog X.w) X.A (eval (.Lambda params body scope lpos) X.env) Q E s:=by
 refine kla_eval hd ?_
 subst hq
 obtain⟨ps,eP,tr,al⟩:=I.hok P _ hT
 have hcl:=X0 (scope:=scope) (env:=X.env) fun y hy hk=>I.ok.has y.1 (hfree y hy hk)
 have hg:s.heap.Ns mainGlobals X.mg:=I.mod.glob.keeps I.bk
 obtain⟨bm,ob,b1,b2,b3,b4,b5,b6,b7,b8⟩:=hbl
 have hb:s.heap.BuiltinsAt X.mg P:=⟨bm,ob,b1,b2,b3,b4,I.bk _ _ b5,b6,b7,b8⟩
 have lay:∀(H1:Hp) (h1:Heap) (tk:Nat) (c':Addr) (oc:Obj) (u:HO) (pm ctv:Value),Inv X pins σ H1 { s with heap:=h1,toks:=tk }→(∀a o,H a=some o→H1 a=some o)→H1 c'=some (.frz oc u)→a0Z oc (X.env.qual ++ "<lambda>")→Q (.ref h1.objs.size) { s with heap:=h1.push (X1 X params body scope (X.env.qual ++ "<lambda>") c' pm ctv),toks:=tk }:=by
  intro H1 h1 tk c' oc u pm ctv I1 ex e3 e4
  have hf:H1 h1.objs.size=none:=I1.hok.fresh (Nat.le_refl _)
  have hgt:(h1.push (X1 X params body scope (X.env.qual ++ "<lambda>") c' pm ctv)).get? h1.objs.size=some (X1 X params body scope (X.env.qual ++ "<lambda>") c' pm ctv):=Heap.get?_push_size _ rfl
  have I2:=I1.laid (a:=h1.objs.size) (o:=.frz (X1 X params body scope (X.env.qual ++ "<lambda>") c' pm ctv) (.own h1.objs.size)) (t':=tk) (fun b o e=>Heap.get?_push_of_some (X1 X params body scope (X.env.qual ++ "<lambda>") c' pm ctv) e) (Nat.le_refl _) ⟨hgt,_,hgt⟩
  refine h _ c' oc u pm ctv _ _ I2 (fun a o e=>?_) d5 ?_ e4
  ·rw[a7 (g6 (ex a o e) hf)];exact ex a o e
  ·rw[a7 (g6 e3 hf)];exact e3
 cases e:codeAmong lpos ps.toList with
 | some cv =>
  obtain⟨c',oc,u,rfl,hc',vs,q',t,t2,d1,d2,d3⟩:=al lpos cv e
  have hq:q'=X.env.qual ++ "<lambda>" := by
   rw[hqs]at d3
   injection d3 with d3
   injection d3 with d3
   exact d3.symm
  subst hq
  refine kla_makeFunctionHit (mg:=X.mg) hcl I.ok.glob hg hcode (C.keeps I.bk) eP tr e hb fun ctv h' tk hk hsz=>?_
  exact lay H h' tk c' oc u _ ctv (I.kept hk) (fun _ _ e=>e) hc' ⟨vs,t2,d1,d2⟩
 | none =>
  have hgP:mainGlobals≠P:=fun z=>by
   obtain⟨o,es,ep,e1,hd,_⟩:=hg
   rw[z,eP]at e1;cases e1;cases hd
  refine kla_makeFunction (mg:=X.mg) hcl I.ok.glob hg hcode (C.keeps I.bk) eP tr e hgP hb fun c' ctv h' tk hx hge hlt hrec htb=>?_
  obtain⟨c2,oc,vs,t,e2,hoc,hd,hv⟩:=hrec
  cases e2
  exact lay _ h' tk c' oc (.own c') _ ctv (I.grown (tk:=tk) hT hqs eP tr al hx hge hoc ⟨vs,t,hd,hv⟩ htb) (fun a o e=>by rw[a7 (g6 e (I.hok.fresh hge))];exact e) d5 ⟨vs,t,hd,hv⟩
end
abbrev a3Z(X:Cx)(scope:Scope)(q:Str)(L f c':Addr):Env:=envX q scope L f (.ref c') (v7 X.env.cells scope.names [])
abbrev a5D(X:Cx)(A':Around)(scope:Scope)(q:Str)(Nc:List Str)(f c':Addr)(s:Shared)(H:Hp):Cx :=
 { X with A:=A'.deeper (a3Z X scope q s.heap.objs.size f c'),N:=Nc,s₀:=s,H₀:=H,env:=a3Z X scope q s.heap.objs.size f c',outer:=X.stack,stack:=a3Z X scope q s.heap.objs.size f c'::X.stack,ex:=[],fn:=fun _=>false,calm:=true,pn:=[],xe:=fun _ _=>False }
def a3r(js:List Nat)(σ:St)(x:V):St:=some x::js.map fun j=>(σ[j]?).getD none
section
variable {X:Cx}{pins:List (Addr×Obj)}{σ:St}{H:Hp}{s:Shared}{A':Around}{params:Arguments}{body:Expr}{scope:Scope}{q kn:Str}{f c':Addr}{Nc:List Str}{js:List Nat}{h₁:Heap}{tk:Nat}{v:Value}{x:V}
theorem a9t(I:Inv X pins σ H s)(hA:A'.frames=some X.stack)(hh:A'.handled=none)(S:CompSc X.env.scope scope X.N Nc 1 js)(hk0:Nc[0]? = some kn)(hloc:scope.names.lookup kn=some .local)
  (hns:h₁.Ns s.heap.objs.size (fun y=>([(kn,v)]:List (Str×Value)).reverse.lookup y)) (old:∀b o,s.heap.get? b=some o→h₁.get? b=some o) (rv:RelV x v) :
  Inv (a5D X A' scope q Nc f c' s H) [] (a3r js σ x) H { s with heap:=h₁,toks:=tk }:=by
 have ok:=I.ok
 refine⟨⟨ok.mod,S.kind,rfl,rfl,Nat.le_refl _,fun x y c h1 h2=>ok.inj x y c (v9 h1) (v9 h2),fun y hy=>?_,(fun x c z=>nomatch z),fun _=>hh,Around.frames_deeper hA,.inr ⟨rfl,rfl⟩,fun b hb=>absurd (show b∈([]:List Addr)from hb) (by simp),I.bs,Nat.le_trans ok.bsz I.sz,fun b o e hb=>absurd (show b∈([]:List Addr)from hb) (by simp),fun b hb=>absurd (show b∈([]:List Addr)from hb) (by simp),I.stack,I.stkFree⟩,
  rfl,I.bare,Un.kept old,⟨_,hns,fun i y w e1 e2 e3=>?_⟩,fun y c e=>?_,I.hok.fresh (Nat.le_refl _),fun y c e=>I.freeC y c (v9 e),fun p hp=>absurd (show p∈([]:List (Addr×Obj))from hp) (by simp),I.hok.kept old,?_⟩
 ·have hy:scope.names.lookup y=some .cell∨scope.names.lookup y=some .free:=hy
  rcases hy with hy | hy
  ·exact absurd rfl (S.cell _ (B3 hy))
  ·exact G6 (B3 hy) (ok.has y (S.free _ (B3 hy) rfl))
 ·cases i with
  | zero =>
   have e1:Nc[0]? = some y:=e1
   rw[hk0]at e1;cases e1
   have e2:some (some x)=some (some w):=e2
   cases e2
   refine⟨v,rv,.inl ⟨hloc,?_⟩⟩
   show([(kn,v)]:List (Str×Value)).reverse.lookup kn=some v
   simp
  | succ i =>
   have e2:(js.map fun j=>(σ[j]?).getD none)[i]? = some (some w):=e2
   rw[List.getElem?_map]at e2
   cases hj:js[i]? with
   | none=>rw[hj]at e2;cases e2
   | some j =>
    rw[hj]at e2
    have e2':(σ[j]?).getD none=some w:=Option.some.inj e2
    have hσ:σ[j]? = some (some w):=by
     cases z:σ[j]? with
     | none=>rw[z]at e2';cases e2'
     | some y=>rw[z]at e2';simp at e2';rw[e2']
    have e1:Nc[i+1]? = some y:=e1
    have hx:(Nc.drop 1)[i]? = some y:=by rw[List.getElem?_drop,show 1+i=i+1 by omega];exact e1
    have hNj:X.N[j]? = some y:=by
     have:=congrArg (fun l=>l[i]?) S.cap
     simp only[List.getElem?_map,hx,hj,Option.map_some]at this
     exact(Option.some.inj this).symm
    have hfr:scope.names.lookup y=some .free:=S.caps y (List.mem_of_getElem? hx)
    have hk:=S.free _ (B3 hfr) rfl
    obtain⟨m,hn,hl⟩:=I.loc
    obtain⟨u,r,l⟩:=hl j y w hNj hσ (.inr hk)
    refine⟨u,r,.inr ⟨.inr hfr,?_⟩⟩
    rcases l with⟨l1,_⟩ | ⟨_,c,hc,hcell⟩
    ·have l1:X.env.scope.names.lookup y=some .local:=l1
     rcases hk with hk | hk
     ·rw[l1]at hk;cases hk
     ·rw[l1]at hk;cases hk
    ·obtain⟨d,hd⟩:=G6 (cells:=X.env.cells) (acc:=[]) (B3 hfr) ⟨c,hc⟩
     have:=v9 hd
     rw[hc]at this;cases this
     obtain⟨o,ho,hdd⟩:=hcell
     exact⟨c,hd,⟨o,old _ _ ho,hdd⟩⟩
 ·obtain⟨w,o,ho,hd⟩:=I.cell y c (v9 e)
  exact⟨w,o,old _ _ ho,hd⟩
 ·unfold a3r
  rw[List.length_cons,List.length_map]
  have:=S.len
  show _=Nc.length
  omega
theorem a7L{oc:Obj}{u u':HO}{pm ctv:Value}{te:TE}{Qk:VK}(I:Inv X pins σ H s)(hA:A'.frames=some X.stack)(hh:A'.handled=none)(hdp:A'.depth<recursionLimit)(S:CompSc X.env.scope scope X.N Nc 1 js)(hk0:Nc[0]? = some kn)(hloc:scope.names.lookup kn=some .local)
  (hf:H f=some (.frz (X1 X params body scope q c' pm ctv) u')) (hc:H c'=some (.frz oc u)) (hq:a0Z oc q) (hbind:bindArgs (kla_fn "<lambda>" q params body scope (v7 X.env.cells scope.names []) pm (.ref c') ctv) ⟨[v],[]⟩=pure [(kn,v)])
  (hco:scope.isCoroutine=false) (hgen:scope.isGenerator=false) (hbody:PE (a5D X A' scope q Nc f c' s H) body te) (rv:RelV x v) (ht:te (a3r js σ x) H Qk) :
  wpAny (model X.prog X.w) A' (call (.ref f) [v]) (fun w s'=>∃y H2,Inv X pins σ H2 s'∧RelV y w∧Qk y H2∧Un (B6 X.stack) [] H H2 s.heap s'.heap) (fun _ _=>False) s:=by
 have ef:s.heap.get? f=some (X1 X params body scope q c' pm ctv):=(I.hok f _ hf).1
 have ec:s.heap.get? c'=some oc:=(I.hok c' _ hc).1
 obtain⟨vs,t,d1,d2⟩:=hq
 refine wpAny_call (kla_callFunE hdp ef rfl hco hgen rfl ⟨c',oc,vs,t,rfl,ec,d1,d2⟩ ?_)
 rw[hbind]
 refine wpAny_pure (wpAny_newFunctionEnv S.cell (by
  intro y hy
  rw[List.mem_singleton.mp hy]
  exact hloc) (fun h₁ hns hsb=>⟨I.nolimit.fresh _ hsb,?_⟩) S.kind)
 have old:∀b o,s.heap.get? b=some o→h₁.get? b=some o:=fun b o e=>hsb.extBut b o (Nat.ne_of_lt (Heap.lt_size e)) (Heap.get?_push_of_some _ e)
 have J:=a9t (q:=q) (f:=f) (c':=c') (tk:=s.toks+([(kn,v)]:List (Str×Value)).length) I hA hh S hk0 hloc hns old rv
 refine kla_codeExpr (wpAny_mono (hbody [] _ _ H _ J ht) (fun w s' hw=>?_) fun _ _ z=>z.elim)
 obtain⟨y,H2,I2,ry,q2⟩:=hw
 exact⟨y,H2,I.call' (ch:=[]) (I2.os.trans rfl) I2.base I2.hok I2.bare (fun b hb=>absurd hb (by simp)),ry,q2,I2.base⟩
end
section
variable {prog:Program}{w:World}{A:Around}{E:Value→Shared→Prop}{s:Shared}
theorem a4B{r:Addr}{a b c:Int}{t u v:Tok}{n:Nat}{Q:List Value→Shared→Prop}(hh:A.handled=none)(hr:IsRange s.heap r a b c t u v)(hsmall:Builtin.Range.small a b c=true)(hn:Builtin.Range.rangeSize a b c=n)(hlen:n≤2 ^ 24)
  (h:∀h' tk acc,(∀b o,s.heap.get? b=some o→h'.get? b=some o)→ItemsOf (fun i v=>∃t,v=.int (a+i*c) t) acc n→Q acc.toList { s with heap:=h',toks:=tk }) :
  wpAny (model prog w) A (collect (.ref r)) Q E s:=by
 unfold collect
 refine wpAny_bind (wpAny_runValue (codeAny_builtin F.entry_proto_collect ?_))
 rw[Around.under_plainId F.plain_proto_collect _]
 show wpAny _ A.in1 (newList [] >>= fun l=>again (.builtin "list.__iadd__" ⟨[l,.ref r],[]⟩)) _ _ s
 refine wpAny_bind (wpAny_newObj_type ?_)
 refine wpAny_pure ⟨plainId_quiet F.plain_list_iadd _,codeAny_builtin F.entry_list_iadd ?_⟩
 rw[Around.under_plainId F.plain_list_iadd _]
 have hS:(s.heap.push { cls:=.type "list",data:=.seq ([]:List Value).toArray }).get? s.heap.objs.size=some { cls:=.type "list",data:=.seq ([]:List Value).toArray }:=Heap.get?_push_size _ rfl
 show wpAny _ A.in1 (Builtin.List.listExtendWith (.ref s.heap.objs.size) (.ref r) (.ref s.heap.objs.size)) _ _ _
 refine wpAny_extend_range (A:=A) (R:=fun r' s'=>match r' with
  | .ok (.ret v)=>wpAny (model prog w) A (match v with
   | .ref a=>do
    let o ← load a
    match o.data with
     | .seq xs _=>pure xs.toList
     | _=>unsupported "internal:collect"
   | _=>unsupported "internal:collect") Q E s'
  | .ok _=>False
  | .error e=>E e s') (s:={ s with heap:=s.heap.push { cls:=.type "list",data:=.seq ([]:List Value).toArray } }) hh (Heap.get?_push_of_some _ hr) hsmall hn hlen s.heap.objs.size (.ref s.heap.objs.size) 0 hS fun h' tk acc c' hk hS' hi=>?_
 show wpAny _ A (load s.heap.objs.size >>= _) _ _ _
 refine wpAny_bind (wpAny_load hS' ?_)
 exact wpAny_pure (h h' tk acc (fun b o e=>hk b o (Nat.ne_of_lt (Heap.lt_size e)) (Heap.get?_push_of_some _ e)) hi)
end
section
variable {X:Cx}{pins:List (Addr×Obj)}{σ:St}{H:Hp}{s:Shared}{A':Around}{E:Value→Shared→Prop}
theorem FpOk.nstk{H':Hp}{b:Addr}(I:Inv X pins σ H s)(f:FpOk X pins H' b):b ∉ B6 X.stack:=fun z=>by
 rcases List.mem_cons.mp (I.stkSub b z)with q | q
 ·exact f.2.1 q
 ·exact f.2.2.1 q
theorem FpOk.to{H':Hp}{b:Addr}(f:FpOk X pins H b)(n:H' b=none):FpOk X pins H' b:=⟨n,f.2⟩
theorem a9u{xs:List V}{vs:List Value}(r:Vals xs vs){j:Nat}{u:Value}(h:vs[j]? = some u):∃x,xs[j]? = some x∧RelV x u:=by
 have hj:=(List.getElem?_eq_some_iff.mp h).1
 have hl:=r.length
 obtain⟨u',e,q⟩:=r.get (List.getElem?_eq_getElem (l:=xs) (i:=j) (by omega))
 rw[h]at e;cases e
 exact⟨_,List.getElem?_eq_getElem (by omega),q⟩
end
def TbAt(P:Addr)(q:Str)(H:Hp):Prop:=∃(qs:Array Value) (t:Tok),H P=some (.tbl qs)∧qs[0]? = some (Value.str q t)
theorem TbAt.now{P:Addr}{q:Str}{fs ex:List Addr}{H H':Hp}{h h':Heap}(t:TbAt P q H)(u:Un fs ex H H' h h'):TbAt P q H':=by
 obtain⟨qs,t,e,e2⟩:=t
 obtain⟨more,e3⟩:=u.tbls _ _ e
 refine⟨_,t,e3,?_⟩
 have h0:0<qs.size:=by
  by_cases z:0<qs.size
  ·exact z
  ·rw[Array.getElem?_eq_none (by omega)]at e2;cases e2
 rw[Array.getElem?_append_left h0];exact e2
def a3s:List V→Hp→VK→Prop:=fun xs H Q=>∃j:Int,xs=[.int j]∧∀r,H r=none→Q (.ref r) (upd H r (.rng 0 j))
section
variable {X:Cx}
theorem a4C:CallR X (.type "range") a3s:=by
 intro pins s σ H xs us Q I r h
 obtain⟨j,rfl,q⟩:=h
 obtain⟨u,rfl,ru⟩:=r.one
 obtain⟨t,rfl⟩:=ru
 refine call_range_1 ?_
 have hg:(s.heap.push { cls:=.type "range",data:=.fields #[.int 0 s.toks,.int j t,.int 1 (s.toks+1)] }).get? s.heap.objs.size=some { cls:=.type "range",data:=.fields #[.int 0 s.toks,.int j t,.int 1 (s.toks+1)] }:=Heap.get?_push_size _ rfl
 exact⟨.ref _,_,I.laid (t':=s.toks+1+1) (o:=.rng 0 j) (fun b o e=>Heap.get?_push_of_some _ e) (Nat.le_refl _) ⟨_,_,_,hg⟩,rfl,q _ I.fresh⟩
theorem a4D:∀{n:Nat} {acc:Array Value},ItemsOf (fun i v=>∃t,v=.int (0+(i:Int)*1) t) acc n→Vals ((List.range n).map fun(i:Nat)=>V.int (i:Int)) acc.toList:=by
 intro n acc ⟨hs,hv⟩
 have key:∀(l:List Value) (k:Nat),(∀j v,l[j]? = some v→∃t,v=Value.int ((k+j:Nat):Int) t)→Vals ((List.range' k l.length).map fun(i:Nat)=>V.int (i:Int)) l:=by
  intro l
  induction l with
  | nil=>intro k _;exact .nil
  | cons u l ih =>
   intro k h
   rw[List.length_cons,List.range'_succ,List.map_cons]
   refine .cons ?_ (ih (k+1) fun j v e=>?_)
   ·obtain⟨t,rfl⟩:=h 0 u rfl
    exact⟨t,rfl⟩
   ·obtain⟨t,rfl⟩:=h (j+1) v (by simpa using e)
    exact⟨t,by rw[show k+(j+1)=k+1+j by omega]⟩
 have hl:acc.toList.length=n:=by simpa using hs
 have:=key acc.toList 0 fun j v e=>by
  obtain⟨t,rfl⟩:=hv j v (by simpa using e)
  exact⟨t,by congr 1;omega⟩
 rw[hl,← List.range_eq_range']at this
 exact this
theorem a4E:bootBuiltins "sorted" = some (.builtin "sorted"):=by decide +kernel
theorem a4F:bootBuiltins "range" = some (.type "range"):=by decide +kernel
end
def C5(TB:List (Addr×Str))(H:Hp):Hp:=fun b=>match TB.lookup b with
 | some q=>some (.tbl #[.str q 0])
 | none=>H b
def TbAll(TB:List (Addr×Str))(H:Hp):Prop:=∀P q,TB.lookup P=some q→TbAt P q H
theorem TbAll.now{TB:List (Addr×Str)}{fs ex:List Addr}{H H':Hp}{h h':Heap}(t:TbAll TB H)(u:Un fs ex H H' h h'):TbAll TB H':=fun P q e=>(t P q e).now u
theorem a9v(TB:List (Addr×Str))(H:Hp):TbAll TB (C5 TB H):=fun P q e=>⟨#[.str q 0],0,by unfold C5;rw[e],rfl⟩
theorem a6s{P:Program}{w:World}{K:W.Frag}{mg mb:Str→Option Value}{CX:Q7}{k:Nat}{fa a:Addr}{fd:FuncData}{x:Str}{sp:Sp}{s₁:Shared}{vs:List Value}{ns:List Int}{TB:List (Addr×Str)}
  (KX:K.In s₁.heap) (hns:s₁.heap.Ns mainGlobals mg) (hb:s₁.heap.Ns builtinsNs mb) (hbb:∀x:Str,x≠"__name__"→mb x=bootBuiltins x) (hlim:s₁.heap.NoLimit) (hg:s₁.gens = #[])
  (ha:s₁.heap.get? a=some { cls:=.type "list",data:=.seq vs.toArray }) (hi:IntsAre vs ns) (hl:ns.length≤sizeLine) (hr:Room k callerA)
  (hT:∀Pa q,TB.lookup Pa=some q→(∃c,s₁.heap.TableAt c Pa #[])∧K.lookup Pa=none)
  (F:∀base:Heap,K.In base→base.Ns mainGlobals mg→(∀b o,s₁.heap.get? b=some o→TB.lookup b=none→b≠a→base.get? b=some o)→FnOk P w K mg base CX k fa fd [x] sp) (hbind:∀(s:Shared) (u:Value),BindsTo s fd ⟨[u],[]⟩ [(x,u)])
  (hsp:∀H:Hp,TbAll TB H→Scr K H a (ns.map V.int)→sp [.ref a] H (fun v _=>v=.bl true) fun _ _ _=>False)
  (hCX:∀H e s',CX [] H s₁ (fun _ _ _=>False) e s'→False) :
  codeAny (model P w) callerA (.call (.ref fa) ⟨[.ref a],[]⟩) (fun r s'=>r=.ok (.ret (.bool true))∧OldK s₁.heap s'.heap∧s'.os=s₁.os∧AllBare s'.gens) s₁:=by
 have rv:=a2Y hi
 have lenV:=hi.length
 have tabA:∀{Pa q},TB.lookup Pa=some q→s₁.heap.get? Pa=some (tabObj #[]):=fun{Pa q} e=>by
  obtain⟨⟨c,_,e2⟩,_⟩:=hT Pa q e
  exact e2
 have neA:TB.lookup a=none:=by
  cases e:TB.lookup a with
  | none=>rfl
  | some q=>have:=tabA e;rw[ha]at this;cases this
 have core:∀H0:Hp,Scr K (C5 TB H0) a (ns.map V.int)→HOk P w (C5 TB H0) s₁.heap→(∀b,H0 b=none∨∃o xs,H0 b=some (.frz o (.lst xs)))→(∀b,H0 b≠none→b=a)→(H0 a≠none→K.lookup a=none) →
   codeAny (model P w) callerA (.call (.ref fa) ⟨[.ref a],[]⟩) (fun r s'=>r=.ok (.ret (.bool true))∧OldK s₁.heap s'.heap∧s'.os=s₁.os∧AllBare s'.gens) s₁:=by
  intro H0 hS hok hO hA hK
  have cs:∀b,(∃q,TB.lookup b=some q∧C5 TB H0 b=some (.tbl #[.str q 0]))∨(TB.lookup b=none∧C5 TB H0 b=H0 b):=fun b=>by
   unfold C5
   cases e:TB.lookup b with
   | none=>exact .inr ⟨rfl,rfl⟩
   | some q=>exact .inl ⟨q,rfl,rfl⟩
  have base_of:∀{b:Addr} {o:Obj},s₁.heap.get? b=some o→C5 TB H0 b=none→(W8 s₁.heap (C5 TB H0)).get? b=some o:=fun e n=>a7p e n
  have noA:∀{b:Addr} {o:Obj} {es:Array DictEntry} {ep:Nat},s₁.heap.get? b=some o→o.data=.dict es ep→C5 TB H0 b=none:=fun{b o es ep} e d=>by
   rcases cs b with⟨q,e1,_⟩ | ⟨e1,e2⟩
   ·have:=tabA e1;rw[e]at this;cases this;cases d
   ·rw[e2]
    cases q:H0 b with
    | none=>rfl
    | some u =>
     have e':b=a:=hA b (by rw[q];simp)
     subst e'
     rw[ha]at e;cases e
     cases d
  have nsK:∀{b:Addr} {m:Str→Option Value},s₁.heap.Ns b m→(W8 s₁.heap (C5 TB H0)).Ns b m:=fun{b m} ⟨o,es,ep,e,d,r⟩=>⟨o,es,ep,base_of e (noA e d),d,r⟩
  have hKb:K.In (W8 s₁.heap (C5 TB H0)):=fun b o e=>base_of (KX b o e) (by
   rcases cs b with⟨q,e1,_⟩ | ⟨e1,e2⟩
   ·rw[(hT b q e1).2]at e;cases e
   ·rw[e2]
    cases q:H0 b with
    | none=>rfl
    | some u =>
     have e':b=a:=hA b (by rw[q];simp)
     subst e'
     rw[hK (by rw[q];simp)]at e;cases e)
  have hM:Mod K mg (W8 s₁.heap (C5 TB H0)):=⟨hKb,nsK hns,⟨mb,nsK hb,hbb⟩,let ⟨mc,h1,h2⟩:=hlim; ⟨mc,nsK h1,h2⟩⟩
  have e0:Env0 P w K mg (W8 s₁.heap (C5 TB H0)) callerA [] s₁ (C5 TB H0):=⟨rfl,hM,fun b o e=>a9b e,Nat.le_of_eq (a52 _ _),trivial,fun b hb=>absurd (show b∈([]:List Addr)from hb) (by simp),hok,.of_eq hg⟩
  have bk:∀b o,s₁.heap.get? b=some o→TB.lookup b=none→b≠a→(W8 s₁.heap (C5 TB H0)).get? b=some o:=fun b o e n na=>base_of e (by
   rcases cs b with⟨q,e1,_⟩ | ⟨e1,e2⟩
   ·rw[n]at e1;cases e1
   ·rw[e2]
    cases q:H0 b with
    | none=>rfl
    | some u=>exact absurd (hA b (by rw[q];simp)) na)
  refine codeAny_mono ((F _ hKb (nsK hns) bk).run callerA [] s₁ (C5 TB H0) ⟨[.ref a],[]⟩ [.ref a] [.ref a] _ _ hr e0 (hbind s₁ (.ref a)) (.cons rfl .nil) (hsp _ (a9v TB H0) hS)) fun r s' h=>?_
  cases r with
  | error e=>exact(hCX _ e s' h).elim
  | ok fl =>
   cases fl with
   | next=>exact False.elim h
   | brk=>exact False.elim h
   | cont=>exact False.elim h
   | ret u =>
    obtain⟨v,H',os,bare,un,hok',r',q⟩:=h
    have q':v=.bl true:=q
    subst q'
    obtain rfl:u=Value.bool true:=r'
    refine⟨rfl,?_,os,bare⟩
    have kpt:∀b o,s₁.heap.get? b=some o→TB.lookup b=none→s'.heap.get? b=some o:=fun b o e n=>by
     rcases cs b with⟨q,e1,_⟩ | ⟨_,e2⟩
     ·rw[n]at e1;cases e1
     ·cases q:H0 b with
      | none=>exact un.keep b o e (by rw[e2,q]) (by intro z;exact absurd (show b∈([]:List Addr)from z) (by simp)) (by simp)
      | some u =>
       rcases hO b with z | ⟨ob,xs,z⟩
       ·rw[q]at z;cases z
       ·rw[← e2]at z
        have z2:=un.frzs b ob _ z
        obtain⟨e1,_⟩:=hok b _ z
        obtain⟨e2,_⟩:=hok' b _ z2
        rw[e]at e1;cases e1
        exact e2
    have tbt:∀b q,TB.lookup b=some q→∃ps,s'.heap.get? b=some (tabObj ps):=fun b q e=>by
     rcases cs b with⟨q',e1,e2⟩ | ⟨e1,_⟩
     ·obtain⟨more,e3⟩:=un.tbls b _ e2
      obtain⟨ps,e4,_⟩:=hok' b _ e3
      exact⟨ps,e4⟩
     ·rw[e]at e1;cases e1
    refine⟨fun b o e=>?_,fun b o e=>?_⟩
    ·cases n:TB.lookup b with
     | none=>exact .inl (kpt b o e n)
     | some q =>
      obtain⟨ps,e4⟩:=tbt b q n
      have e5:=tabA n
      rw[e]at e5;cases e5
      obtain⟨⟨c,ht⟩,_⟩:=hT b q n
      exact .inr (.inl ⟨ht.isCodeTable,rfl,#[],ps,rfl,by rw[e4];simp⟩)
    ·cases n:TB.lookup b with
     | none=>exact⟨o,kpt b o e n⟩
     | some q=>obtain⟨ps,e4⟩:=tbt b q n;exact⟨_,e4⟩
 have tabOk:∀H0 b u,TB.lookup b≠none→C5 TB H0 b=some u→ObjOk P w (C5 TB H0) s₁.heap b u:=fun H0 b u n e=>by
  cases q:TB.lookup b with
  | none=>exact absurd q n
  | some q' =>
   have e':C5 TB H0 b=some (.tbl #[.str q' 0]):=by unfold C5;rw[q]
   rw[e']at e;cases e
   exact⟨#[],tabA q,trivial,fun pos cv z=>by cases z⟩
 cases hk:K.lookup a with
 | some o =>
  have e:=KX a o hk
  rw[ha]at e
  cases e
  refine core (fun _=>none) (.inr ⟨_,vs.toArray,_,hk,rfl,rfl,rfl,by rw[List.size_toArray,lenV];exact hl,by simpa using rv⟩) (fun b u z=>?_) (fun _=>.inl rfl) (fun b z=>absurd rfl z) fun z=>absurd rfl z
  cases n:TB.lookup b with
  | none =>
   have z':C5 TB (fun _=>none) b=none:=by unfold C5;rw[n]
   rw[z']at z;cases z
  | some q=>exact tabOk _ b u (by rw[n];simp) z
 | none =>
  refine core (fun b=>if b=a then some (.frz { cls:=.type "list",data:=.seq vs.toArray } (.lst (ns.map V.int)))else none) (.inl ⟨{ cls:=.type "list",data:=.seq vs.toArray },by unfold C5;rw[neA];exact if_pos rfl⟩) (fun b u z=>?_) (fun b=>?_) (fun b z=>?_) fun _=>hk
  ·cases n:TB.lookup b with
   | some q=>exact tabOk _ b u (by rw[n];simp) z
   | none =>
    have z':C5 TB (fun b=>if b=a then some (.frz { cls:=.type "list",data:=.seq vs.toArray } (.lst (ns.map V.int)))else none) b=(if b=a then some (.frz { cls:=.type "list",data:=.seq vs.toArray } (.lst (ns.map V.int)))else none):=by unfold C5;rw[n]
    rw[z']at z
    by_cases hb:b=a
    ·rw[if_pos hb]at z
     cases z
     subst hb
     exact⟨ha,by rw[List.length_map];exact hl,vs,_,rv,ha⟩
    ·rw[if_neg hb]at z;cases z
  ·by_cases hb:b=a
   ·exact .inr ⟨_,_,if_pos hb⟩
   ·exact .inl (if_neg hb)
  ·by_cases hb:b=a
   ·exact hb
   ·exact absurd (if_neg hb) z
def U5(TB:List (Addr×Str))(sp:Sp):Sp:=fun vs H Q E=>TbAll TB H∧sp vs H Q E
theorem walk_ofT{l:OpenLaw}{n k:Nat}{q:Program}{loose:List Str}{XP:(Str→Option Value)→Heap→Prop}{YP:World→Heap→Prop}{d:DefRec}{K:Params→Frag}{CX:World→Q7}{sp:World→Sp}{x:Str}
  (hn:l.most=some n) (hn2:n≤sizeLine) (hdf:d.params.defaults=[]) (hr:Room k callerA)
  (hY:∀(w:World) (h:Heap),YP w h→(K w.params).In h)
  (F:∀(w:World) (mg mb:Str→Option Value) (fa:Addr) (h:Heap) (mean:ExcName→Option Value),(K w.params).In h→h.Ns mainGlobals mg→mg d.name=some (.ref fa)→Top q (looseW q loose) mean mg mb h →
   ∃(fd:FuncData) (TB:List (Addr×Str)),(∀(s:Shared) (u:Value),BindsTo s fd ⟨[u],[]⟩ [(x,u)])∧(∀Pa qq,TB.lookup Pa=some qq→(∃c,h.TableAt c Pa #[])∧(K w.params).lookup Pa=none) ∧
    ∀base:Heap,(K w.params).In base→base.Ns mainGlobals mg→(∀b o,h.get? b=some o→o.cls≠.none→o.cls≠.type "list"→base.get? b=some o)→FnOk l.prog w (K w.params) mg base (CX w) k fa fd [x] (U5 TB (sp w)))
  (hsp:∀(w:World) (H:Hp) (a:Addr) (ns:List Int),ns.length≤n→(∀m∈ns,Builtin.Int.intBits m≤2 ^ 20)→Scr (K w.params) H a (ns.map V.int)→sp w [.ref a] H (fun v _=>v=.bl true) fun _ _ _=>False)
  (hCX:∀(w:World) (H:Hp) (s:Shared) (e:Value) (s':Shared),CX w [] H s (fun _ _ _=>False) e s'→False) :
  WalkO q loose XP YP l.row.toRowW d [] (fun f vs=>PySem.call f vs):=by
 intro w s₀ s₁ mg mb G Y fa o pm cd doc dV kV ho hd hcd hD hmg hg args vals as hpre hlay hrd hwl hlo
 obtain rfl:dV=.none:=Dflts.none hD hdf
 obtain rfl:kV=.none:=Dflts.noKw hD
 obtain⟨a,vs,ns,rfl,rfl,hobj,hints,hlen⟩:=Att.script_of hn hpre hwl
 have KX:=hY w _ Y
 obtain⟨fd,TB,hb,hT,hF⟩:=F w mg mb fa _ _ KX G.T.g hmg G.T
 refine enter_call (codeAny_mono (a6s (TB:=TB) KX G.T.g G.T.b G.T.builtins G.T.nolimit hg hobj hints (Nat.le_trans hlen hn2) hr hT (fun base k1 k2 k3=>hF base k1 k2 fun b o e c1 c2=>k3 b o e (by
  cases z:TB.lookup b with
  | none=>rfl
  | some q' =>
   obtain⟨⟨c,_,e2⟩,_⟩:=hT b q' z
   rw[e]at e2;cases e2;exact absurd rfl c1) (fun z=>by rw[z,hobj]at e;cases e;exact absurd rfl c2)) hb (fun H hO hS=>⟨hO,hsp w H a ns hlen (a4z hlay) hS⟩) fun H e s'=>hCX w H s₁ e s') fun r s' hq=>?_)
 obtain⟨rfl,h2,h3,h4⟩:=hq
 exact⟨.inl ⟨.bool true,.bool true,[],rfl,fun _=>rfl,.bool true,Att.post_true l _,fun _=>⟨List.Pairwise.nil,fun _ hm=>(nomatch hm)⟩⟩,h2,h3,h4⟩
theorem b1w{q:Program}{loose:List Str}{mean:ExcName→Option Value}{mg mb:Str→Option Value}{h:Heap}{K:Frag}{x:Str}{f c:Addr}{oc oc':Value}{od od':Option Addr}{fd:FuncData}{osl osl':Array (Option Value)}{vs:Array Value}{P:Addr}(T:Top q loose mean mg mb h)(KX:K.In h)(hrec:(recsOf q).any (fun d=>d.name == x)=true)(hm:mg x=some (.ref f))(lk:K.lookup f=some ⟨oc,od,.func fd,osl⟩)(hc:fd.code=.ref c)(lc:K.lookup c=some ⟨oc',od',.fields vs,osl'⟩)(hP:vs.getD 11 .none=.ref P) :
  h.TableAt c P #[]∧∀base:Heap,(∀b o,h.get? b=some o→o.cls≠.none→o.cls≠.type "list"→base.get? b=some o)→CodeHd base c P∧base.BuiltinsAt mg P:=by
 obtain⟨d,hd,e⟩:=List.any_eq_true.mp hrec
 have e:d.name=x:=by simpa using e
 subst e
 obtain⟨a,o,fd',c',P',h1,h2,h3,h4,h5,h6⟩:=T.tab d hd
 rw[hm]at h1;cases h1
 rw[KX _ _ lk]at h2;cases h2
 have h3:Data.func fd=Data.func fd':=h3
 cases h3
 rw[hc]at h4;cases h4
 have C:=CodeHd.of h5 h6
 obtain⟨o,vs',file,tf,flags,tg,inF,text,tt,c1,c2,c3,c4,c5,cr⟩:=C
 have hPP:P'=P:=by
  rw[KX _ _ lc]at c1;cases c1
  have c3:Data.fields vs=Data.fields vs':=c3
  cases c3
  rw[hP]at c5;cases c5;rfl
 subst hPP
 refine⟨h6,fun base kp=>⟨⟨o,vs',file,tf,flags,tg,inF,text,tt,kp _ _ c1 (by rw[c2];decide) (by rw[c2];decide),c2,c3,c4,c5,cr⟩,?_⟩⟩
 obtain⟨bm,ob,b1,b2,b3,b4,b5,b6⟩:=T.bmain
 refine⟨bm,ob,b1,b2,fun z=>?_,fun z=>?_,kp _ _ b3 (by rw[b4];decide) (by rw[b4];decide),b4,b5,b6⟩
 ·obtain⟨o',es,ep,e,hd,_⟩:=T.g
  rw[z,e]at b3;cases b3;rw[hd]at b6;cases b6
 ·rw[z,h6.2]at b3;cases b3;cases b4
end L2
namespace HT
open PySem PyProof.Rows
end HT
namespace L2
open PySem PySem.Spec PyProof.Rows
open PySem.W
def Rise(a:Array Nat):Prop:=a.toList.Pairwise (· < ·)
theorem Rise.lt{a:Array Nat}(h:Rise a){i j:Nat}(hij:i<j)(hj:j<a.size):a.getD i 0<a.getD j 0:=by
 have hi:i<a.size:=Nat.lt_trans hij hj
 have:=List.pairwise_iff_getElem.mp h i j (by simpa using hi) (by simpa using hj) hij
 simpa [Array.getD,hi,hj]using this
structure TbR(led:Bool)(t:SetTable):Prop where
 rise:Rise t.place
 dum:t.dummies = #[]
 led:t.led=led
def b1x(e:Int×Value):Int:=match e.2 with
 | .int k _=>k
 | _=>0
def IsI(e:Int×Value):Prop:=∃k t,e=(hashInt k,Value.int k t)
structure SetR(w:World)(h:Heap)(a:Addr)(L:List Int):Prop where
 ex:∃o es ep t,h.get? a=some o∧o.ExactSet∧o.data=.set es ep t∧(∀e∈es.toList,IsI e)∧(es.toList.map b1x).Nodup∧(∀k,k∈es.toList.map b1x↔k∈L)∧es.size<scanBound∧t.fits es.size=true∧TbR (!w.params.followText "set-order") t
section
variable {prog:Program}{w:World}{A:Around}{E:Value→Shared→Prop}{s:Shared}
theorem SetR.frame{h h':Heap}{a:Addr}{L:List Int}(S:SetR w h a L)(e:∀o,h.get? a=some o→h'.get? a=some o):SetR w h' a L:=by
 obtain⟨o,es,ep,t,ho,r⟩:=S.ex
 exact⟨o,es,ep,t,e o ho,r⟩
end
end L2
namespace HT
open PySem PyProof.Rows
inductive IB:List Value→List Value→List Int→List Int→Prop
 | nil:IB [] [] [] []
 | int (a:Int) (t:Tok) (c:Int) (u:Tok) {vs ws:List Value} {ns ms:List Int} (h:IB vs ws ns ms):IB (.int a t::vs) (.int c u::ws) (a::ns) (c::ms)
 | bl (p q:Bool) {vs ws:List Value} {ns ms:List Int} (h:IB vs ws ns ms):IB (.bool p::vs) (.bool q::ws) (b2i p::ns) (b2i q::ms)
theorem IB.len{vs ws:List Value}{ns ms:List Int}(h:IB vs ws ns ms):vs.length=ws.length:=by
 induction h with
 | nil=>rfl
 | int _ _ _ _ _ ih=>simp[ih]
 | bl _ _ _ ih=>simp[ih]
end HT
namespace L2
open PySem PySem.Spec PyProof.Rows
open PySem.W
section
variable {n:Nat}{lt:Nat→Nat→Bool}
def Prx(n:Nat)(p:Array Nat)(m:Nat):Prop:=(∀i,i<m→ga p i<m)∧∀i,m≤i→i<n→ga p i=i
theorem Prx.up{p:Array Nat}{m k:Nat}(h:Prx n p m)(hk:m≤k)(hn:k≤n):Prx n p k:=by
 refine⟨fun i hi=>?_,fun i h1 h2=>h.2 i (by omega) h2⟩
 by_cases z:i<m
 ·have:=h.1 i z;omega
 ·rw[h.2 i (by omega) (by omega)];exact hi
structure DR(n:Nat)(lt:Nat→Nat→Bool)(p:Array Nat)(k:Nat):Prop where
 pre:Prx n p k
 d1:∀i j,i<j→j<k→lt (ga p i) (ga p j)=false
 d2:∀i j,i<j→j<k→lt (ga p j) (ga p i)=false→ga p j<ga p i
structure DG(n:Nat)(lt:Nat→Nat→Bool)(p:Array Nat)(k q:Nat):Prop where
 pre:Prx n p (k-(q+1))
 d1:∀i j,i<j→j<k→lt (ga p i) (ga p j)=false
 d2:∀i j,i<j→j<k-(q+1)→lt (ga p j) (ga p i)=false→ga p j<ga p i
 d3:∀i,i<k-(q+1)→lt (ga p (k-1)) (ga p i)=true
 d4:∀i,k-(q+1)≤i→i<k→lt (ga p (k-1)) (ga p i)=false
theorem DR.snoc{p:Array Nat}{k:Nat}(T:TPre lt)(d:DR n lt p k)(h:∀i,i<k→lt (ga p k) (ga p i)=true)(hk:k<n):DG n lt p (k+1) 0:=by
 have e:k+1-(0+1)=k:=by omega
 refine⟨by rw[e];exact d.pre,fun i j hij hj=>?_,fun i j hij hj=>by rw[e]at hj;exact d.d2 i j hij hj,fun i hi=>by rw[e]at hi;rw[Nat.add_sub_cancel];exact h i hi,fun i h1 h2=>?_⟩
 ·by_cases z:j<k
  ·exact d.d1 i j hij z
  ·have e:j=k:=by omega
   subst e
   exact T.asy _ _ (h i hij)
 ·have e:i=k:=by omega
  subst e
  rw[Nat.add_sub_cancel];exact T.irr _
theorem DG.alike{p:Array Nat}{k q:Nat}(T:TPre lt)(d:DG n lt p k q)(hq:q+1≤k){i j:Nat}(h1:k-(q+1)≤i)(h2:i<k)(h3:k-(q+1)≤j)(h4:j<k):lt (ga p i) (ga p j)=false:=by
 have a:lt (ga p i) (ga p (k-1))=false:=by
  by_cases z:i=k-1
  ·rw[z];exact T.irr _
  ·exact d.d1 i (k-1) (by omega) (by omega)
 exact T.tr _ _ _ (d.d4 j h3 h4) a
theorem DG.rev{p:Array Nat}{k q:Nat}(T:TPre lt)(hp:Pmn n p)(d:DG n lt p k q)(hq:q+1≤k)(hk:k≤n):DR n lt (kas_rev p (k-(q+1)) k) k:=by
 have hps:=hp.size
 have gr:=b1v (p:=p) (i:=k-(q+1)) (j:=k) (by omega)
 have pi:∀i,k-(q+1)≤i→i<n→ga p i=i:=d.pre.2
 refine⟨⟨fun i hi=>?_,fun i h1 h2=>?_⟩,fun i j hij hj=>?_,fun i j hij hj=>?_⟩
 ·rw[gr]
  split
  ·rw[pi _ (by omega) (by omega)];omega
  ·have:=d.pre.1 i (by omega);omega
 ·rw[gr,if_neg (by omega)];exact pi i (by omega) h2
 ·rw[gr,gr]
  by_cases zj:k-(q+1)≤j
  ·rw[if_pos (show k-(q+1)≤j∧j<k by omega)]
   by_cases zi:k-(q+1)≤i
   ·rw[if_pos (by omega)]
    exact d.alike T hq (by omega) (by omega) (by omega) (by omega)
   ·rw[if_neg (by omega)]
    exact d.d1 _ _ (by omega) (by omega)
  ·rw[if_neg (show ¬(k-(q+1)≤j∧j<k) by omega),if_neg (by omega)]
   exact d.d1 _ _ hij hj
 ·rw[gr,gr]
  by_cases zj:k-(q+1)≤j
  ·rw[if_pos (show k-(q+1)≤j∧j<k by omega)]
   by_cases zi:k-(q+1)≤i
   ·rw[if_pos (by omega)]
    intro _
    rw[pi _ (by omega) (by omega),pi _ (by omega) (by omega)]
    omega
   ·rw[if_neg (by omega)]
    intro z
    have a:=d.alike T hq (i:=k-1) (j:=k-(q+1)+k-1-j) (by omega) (by omega) (by omega) (by omega)
    have b:=T.tr _ _ _ z a
    rw[d.d3 i (by omega)]at b
    cases b
  ·rw[if_neg (show ¬(k-(q+1)≤j∧j<k) by omega),if_neg (by omega)]
   exact d.d2 _ _ hij (by omega)
theorem DG.one{p:Array Nat}{k:Nat}(T:TPre lt)(d:DG n lt p k 0)(hk1:1≤k)(hk:k≤n):DR n lt p k:=by
 refine⟨d.pre.up (by omega) hk,d.d1,fun i j hij hj z=>?_⟩
 by_cases e:j=k-1
 ·subst e
  rw[d.d3 i (by omega)]at z
  cases z
 ·exact d.d2 i j hij (by omega) z
end
theorem SqL.ext{K:W.Frag}{H1 H2:Hp}{a:Addr}{xs:List V}(h:SqL K H1 a xs)(ex:∀a o,H1 a=some o→H2 a=some o):SqL K H2 a xs:=by
 rcases h with(h | ⟨o,h⟩) | h
 ·exact .inl (.inl (ex _ _ h))
 ·exact .inl (.inr ⟨o,ex _ _ h⟩)
 ·exact .inr h
def A6:Bool→Keyed→Array Keyed→Nat→Nat→Nat→StateT SortSt Sem (Option Nat):=sortPriv% PySem.Builtin.gallop
abbrev T6(left:Bool)(key:Keyed)(arr:Array Keyed)(base i:Nat):StateT SortSt Sem (Option Bool):=do
 let x ← elem' arr (base+i)
 if left then lt' x key else return (← lt' key x).map (!·)
theorem a5E(left:Bool)(key:Keyed)(arr:Array Keyed)(base n hint:Nat):A6 left key arr base n hint=(do
 let mut lastofs:=0
 let mut ofs:=1
 let mut lo:=0
 let mut hi:=0
 let some right ← T6 left key arr base hint | return none
 if right then
  let maxofs:=n-hint
  for _ in [0:n]do
   if ofs≥maxofs then break
   let some more ← T6 left key arr base (hint+ofs) | return none
   if !more then break
   lastofs:=ofs
   ofs:=2*ofs+1
  lo:=hint+lastofs+1
  hi:=hint+min ofs maxofs
 else
  let maxofs:=hint+1
  for _ in [0:n]do
   if ofs≥maxofs then break
   let some found ← T6 left key arr base (hint-ofs) | return none
   if found then break
   lastofs:=ofs
   ofs:=2*ofs+1
  lo:=hint+1-min ofs maxofs
  hi:=hint-lastofs
 for _ in [0:n]do
  if lo≥hi then break
  let m:=lo+(hi-lo)/2
  let some more ← T6 left key arr base m | return none
  if more then lo:=m+1 else hi:=m
 return some hi):=rfl
structure TPK(lt:Keyed→Keyed→Bool)(Dm:Keyed→Prop):Prop where
 irr:∀x,Dm x→lt x x=false
 tr:∀x y z,Dm x→Dm y→Dm z→lt y x=false→lt z y=false→lt z x=false
 asy:∀x y,Dm x→Dm y→lt x y=true→lt y x=false
section
variable {prog:Program}{w:World}{A:Around}{E:Value→Shared→Prop}{s:Shared}{κ:SortKind}{lt:Keyed→Keyed→Bool}{Dm:Keyed→Prop}
def x8(prog:Program)(w:World)(A:Around)(s:Shared)(κ:SortKind)(lt:Keyed→Keyed→Bool)(Dm:Keyed→Prop):Prop:=∀x y,Dm x→Dm y→∀Q:Bool→Shared→Prop,Q (lt x y) s→wpAny (model prog w) A (keyLt' κ x.1 y.1) Q (fun _ _=>False) s
theorem a0x{x y:Keyed}{st:SortSt}{Q:Option Bool→SortSt→Prop}(C:x8 prog w A s κ lt Dm)(hk:kindOf st=κ)(hx:Dm x)(hy:Dm y)(h:Q (some (lt x y)) st):wpS (model prog w) A E s (lt' x y) Q st:=by
 rw[lt'_eq]
 refine wpS_bind (wpS_get ?_)
 rw[hk]
 refine wpS_bind (wpS_lift (wpAny_attempt (wpAny_mono (C x y hx hy (fun b s'=>s'=s∧b=lt x y) ⟨rfl,rfl⟩) (fun b s' hb=>?_) fun _ _ z=>z.elim)))
 obtain⟨rfl,rfl⟩:=hb
 exact⟨rfl,wpS_pure h⟩
theorem m9{arr:Array Keyed}{i:Nat}{x:Keyed}{st:SortSt}{Q:Keyed→SortSt→Prop}(hx:arr[i]? = some x)(h:Q x st):wpS (model prog w) A E s (elem' arr i) Q st:=by
 rw[elem'_eq,hx]
 exact wpS_pure h
def bey(lt:Keyed→Keyed→Bool)(left:Bool)(key x:Keyed):Bool:=if left=true then lt x key else !lt key x
theorem a9w{left:Bool}{key x:Keyed}{arr:Array Keyed}{base i:Nat}{st:SortSt}{Q:Option Bool→SortSt→Prop}(C:x8 prog w A s κ lt Dm)(hk:kindOf st=κ)(hkey:Dm key)(hx:arr[base+i]? = some x)(dx:Dm x)(h:Q (some (bey lt left key x)) st):wpS (model prog w) A E s (T6 left key arr base i) Q st:=by
 refine wpS_bind (m9 hx ?_)
 cases left with
 | true=>exact a0x C hk dx hkey h
 | false=>exact wpS_bind (a0x C hk hkey dx (wpS_pure h))
theorem Q2{β:Type}{n:Nat}{f:Nat→β→StateT SortSt Sem (ForInStep β)}(I:Nat→β→SortSt→Prop)(Q':β→SortSt→Prop){Q:β→SortSt→Prop}{c:β}{st:SortSt}
  (hstep:∀i c st,i<n→I i c st→wpS (model prog w) A E s (f i c) (fun r st'=>match r with | .done c'=>Q' c' st' | .yield c'=>I (i+1) c' st') st)
  (hend:∀c st,I n c st→Q' c st) (h:I 0 c st) (hq:∀c st',Q' c st'→Q c st'):wpS (model prog w) A E s (forIn [:n] c f) Q st :=
 wpS_mono (wpS_forRange I (Q:=Q') (fun i c st _ hi hI=>hstep i c st hi hI) (fun c st hI=>hend c st (by rw[show max 0 n=n by omega]at hI;exact hI)) h) hq
theorem a43{n lo hi:Nat}{st:SortSt}{B:Nat→StateT SortSt Sem (Option Bool)}{Q:Option (Option Nat)×Nat×Nat→SortSt→Prop}(b:Nat→Bool)(ask:∀i (Q':Option Bool→SortSt→Prop),i<n→Q' (some (b i)) st→wpS (model prog w) A E s (B i) Q' st)
  (mono:∀i j,i≤j→j<n→b j=true→b i=true) (h1:lo≤hi) (h2:hi≤n) (h3:∀i,i<lo→b i=true) (h4:∀i,hi≤i→i<n→b i=false) (h:∀k,k≤n→(∀i,i<k→b i=true)→(∀i,k≤i→i<n→b i=false)→∀l,Q (none,l,k) st) :
  wpS (model prog w) A E s (forIn [:n] ((none,lo,hi):Option (Option Nat)×Nat×Nat) fun x __s =>
        if __s.snd.fst≥__s.snd.snd then pure (ForInStep.done (none,__s.snd.fst,__s.snd.snd))
        else do
         let __x ← B (__s.snd.fst+(__s.snd.snd-__s.snd.fst)/2)
         match __x with
          | some more =>
           if more=true then
            pure (ForInStep.yield (none,__s.snd.fst+(__s.snd.snd-__s.snd.fst)/2+1,__s.snd.snd))
           else pure (ForInStep.yield (none,__s.snd.fst,__s.snd.fst+(__s.snd.snd-__s.snd.fst)/2))
          | x=>pure (ForInStep.done (some none,__s.snd.fst,__s.snd.snd))) Q st:=by
 refine wpS_forRange (fun i c st'=>c.1=none∧st'=st∧c.2.1≤c.2.2∧c.2.2≤n∧(∀i,i<c.2.1→b i=true)∧(∀i,c.2.2≤i→i<n→b i=false)∧c.2.2-c.2.1≤n-i) ?_ ?_ ⟨rfl,rfl,h1,h2,h3,h4,by simp;omega⟩
 ·rintro i ⟨c0,lo,hi⟩ st' _ hi2 ⟨e0,rfl,a1,a2,a3,a4,a5⟩
  dsimp only at *
  by_cases z:lo≥hi
  ·rw[if_pos z]
   refine wpS_pure ?_
   have:lo=hi:=by omega
   subst this
   exact h lo a2 a3 a4 lo
  ·rw[if_neg z]
   refine wpS_bind (ask _ _ (by omega) ?_)
   dsimp only
   cases c:b (lo+(hi-lo)/2)with
   | true =>
    rw[if_pos rfl]
    exact wpS_pure ⟨rfl,rfl,by show lo+(hi-lo)/2+1≤hi;omega,a2,fun j hj=>mono j _ (by have:j<lo+(hi-lo)/2+1:=hj;omega) (by omega) c,a4,by show hi-(lo+(hi-lo)/2+1)≤n-(i+1);omega⟩
   | false =>
    rw[if_neg (by simp)]
    refine wpS_pure ⟨rfl,rfl,by show lo≤lo+(hi-lo)/2;omega,by show lo+(hi-lo)/2≤n;omega,a3,fun j hj hn=>?_,by show lo+(hi-lo)/2-lo≤n-(i+1);omega⟩
    have hj:lo+(hi-lo)/2≤j:=hj
    cases d:b j with
    | false=>rfl
    | true=>rw[mono _ j hj hn d]at c;cases c
 ·rintro⟨c0,lo,hi⟩ st' ⟨e0,rfl,a1,a2,a3,a4,a5⟩
  dsimp only at *
  subst e0
  have:lo=hi:=by
   have:max 0 n=n:=by omega
   omega
  subst this
  exact h lo a2 a3 a4 lo
theorem J4{left:Bool}{key:Keyed}{arr:Array Keyed}{base n hint:Nat}{st:SortSt}{Q:Option Nat→SortSt→Prop}(C:x8 prog w A s κ lt Dm)(hk:kindOf st=κ)(hkey:Dm key)(hh:hint<n)(b:Nat→Bool)(hb:∀i,i<n→∃x,arr[base+i]? = some x∧Dm x∧bey lt left key x=b i)(mono:∀i j,i≤j→j<n→b j=true→b i=true)
  (h:∀k,k≤n→(∀i,i<k→b i=true)→(∀i,k≤i→i<n→b i=false)→Q (some k) st):wpS (model prog w) A E s (A6 left key arr base n hint) Q st:=by
 have ask:∀i (Q':Option Bool→SortSt→Prop),i<n→Q' (some (b i)) st→wpS (model prog w) A E s (T6 left key arr base i) Q' st:=fun i Q' hi hq=>by
  obtain⟨x,hx,dx,e⟩:=hb i hi
  exact a9w C hk hkey hx dx (by rw[e];exact hq)
 rw[a5E]
 refine wpS_bind (ask hint _ hh ?_)
 dsimp only
 have neg:∀i j,i≤j→j<n→b i=false→b j=false:=fun i j h1 h2 h3=>by
  cases d:b j with
  | false=>rfl
  | true=>rw[mono i j h1 h2 d]at h3;cases h3
 cases c:b hint with
 | true =>
  rw[if_pos rfl]
  refine wpS_bind (Q2 (fun(i:Nat) (c:Option (Option Nat)×Nat×Nat) st'=>c.1=none∧st'=st∧c.2.1<c.2.2∧i+1≤c.2.2∧hint+c.2.1<n∧b (hint+c.2.1)=true) (fun(c:Option (Option Nat)×Nat×Nat) st'=>c.1=none∧st'=st∧c.2.1<c.2.2∧hint+c.2.1<n∧b (hint+c.2.1)=true∧(hint+c.2.2<n→b (hint+c.2.2)=false)) ?_ ?_ ⟨rfl,rfl,by show 0<1;omega,by show 0+1≤1;omega,by show hint+0<n;omega,c⟩ ?_)
  ·rintro i ⟨c0,l,o⟩ st' hi2 ⟨e0,rfl,a1,a2,a3,a4⟩
   dsimp only at *
   by_cases z:o≥n-hint
   ·rw[if_pos z]
    exact wpS_pure ⟨rfl,rfl,a1,a3,a4,fun y=>absurd y (by show ¬hint+o<n;omega)⟩
   ·rw[if_neg z]
    refine wpS_bind (ask _ _ (by omega) ?_)
    dsimp only
    cases d:b (hint+o)with
    | true =>
     rw[if_neg (by simp)]
     exact wpS_pure ⟨rfl,rfl,by show o<2*o+1;omega,by show i+1+1≤2*o+1;omega,by show hint+o<n;omega,d⟩
    | false =>
     rw[if_pos (by simp)]
     exact wpS_pure ⟨rfl,rfl,a1,a3,a4,fun _=>d⟩
  ·rintro⟨c0,l,o⟩ st' ⟨e0,rfl,a1,a2,a3,a4⟩
   dsimp only at *
   refine⟨e0,rfl,a1,a3,a4,fun y=>absurd y ?_⟩
   omega
  ·rintro⟨c0,l,o⟩ st' ⟨e0,rfl,a1,a3,a4,a5⟩
   dsimp only at *
   subst e0
   dsimp only
   refine wpS_bind (a43 b ask mono (by omega) (by omega) (fun j hj=>mono j (hint+l) (by omega) a3 a4) (fun j hj hn=>neg (hint+o) j (by omega) hn (a5 (by omega))) fun k k1 k2 k3 l=>wpS_pure (h k k1 k2 k3))
 | false =>
  rw[if_neg (by simp)]
  refine wpS_bind (Q2 (fun(i:Nat) (c:Option (Option Nat)×Nat×Nat) st'=>c.1=none∧st'=st∧c.2.1<c.2.2∧i+1≤c.2.2∧c.2.1≤hint∧b (hint-c.2.1)=false) (fun(c:Option (Option Nat)×Nat×Nat) st'=>c.1=none∧st'=st∧c.2.1<c.2.2∧c.2.1≤hint∧b (hint-c.2.1)=false∧(c.2.2≤hint→b (hint-c.2.2)=true)) ?_ ?_ ⟨rfl,rfl,by show 0<1;omega,by show 0+1≤1;omega,by show 0≤hint;omega,c⟩ ?_)
  ·rintro i ⟨c0,l,o⟩ st' hi2 ⟨e0,rfl,a1,a2,a3,a4⟩
   dsimp only at *
   by_cases z:o≥hint+1
   ·rw[if_pos z]
    exact wpS_pure ⟨rfl,rfl,a1,a3,a4,fun y=>absurd y (by show ¬o≤hint;omega)⟩
   ·rw[if_neg z]
    refine wpS_bind (ask _ _ (by omega) ?_)
    dsimp only
    cases d:b (hint-o)with
    | true =>
     rw[if_pos rfl]
     exact wpS_pure ⟨rfl,rfl,a1,a3,a4,fun _=>d⟩
    | false =>
     rw[if_neg (by simp)]
     exact wpS_pure ⟨rfl,rfl,by show o<2*o+1;omega,by show i+1+1≤2*o+1;omega,by show o≤hint;omega,d⟩
  ·rintro⟨c0,l,o⟩ st' ⟨e0,rfl,a1,a2,a3,a4⟩
   dsimp only at *
   refine⟨e0,rfl,a1,a3,a4,fun y=>absurd y ?_⟩
   omega
  ·rintro⟨c0,l,o⟩ st' ⟨e0,rfl,a1,a3,a4,a5⟩
   dsimp only at *
   subst e0
   dsimp only
   refine wpS_bind (a43 b ask mono (by omega) (by omega) (fun j hj=>?_) (fun j hj hn=>neg (hint-l) j hj hn a4) fun k k1 k2 k3 l=>wpS_pure (h k k1 k2 k3))
   by_cases y:o≤hint
   ·exact mono j (hint-o) (by omega) (by omega) (a5 y)
   ·omega
end
def A7:Nat→StateT SortSt Sem Unit:=sortPriv% PySem.Builtin.setMinGallop
theorem a1r(g:Nat):A7 g=modify fun s=>SortSt.mk' (kindOf s) (arrOf s) (pendingOf s) g (failedOf s):=rfl
def a1s:Array Keyed→Array Keyed→StateT SortSt Sem (Array Keyed):=sortPriv% PySem.Builtin.mergeLo
abbrev D0(a b out:Array Keyed)(ia ib:Nat):Array Keyed:=out++a.extract ia a.size++b.extract ib b.size
abbrev Y7(a b out:Array Keyed)(ia ib:Nat):Array Keyed:=out++b.extract ib b.size++a.extract ia a.size
theorem a4G(a b:Array Keyed):a1s a b=(do
 rule "list.sort.merge-lo"
 let total:=a.size+b.size
 let mut out:Array Keyed := #[← elem' b 0]
 let mut ia:=0
 let mut ib:=1
 if ib == b.size then return D0 a b out ia ib
 if ia+1 == a.size then return Y7 a b out ia ib
 let mut minGallop:=gallopOf (← get)
 for _ in [0:total]do
  let mut acount:=0
  let mut bcount:=0
  for _ in [0:total]do
   let some bWins ← lt' (← elem' b ib) (← elem' a ia) | return D0 a b out ia ib
   if bWins then
    out:=out.push (← elem' b ib);ib:=ib+1;bcount:=bcount+1;acount:=0
    if ib == b.size then return D0 a b out ia ib
    if bcount≥minGallop then break
   else
    out:=out.push (← elem' a ia);ia:=ia+1;acount:=acount+1;bcount:=0
    if ia+1 == a.size then return Y7 a b out ia ib
    if acount≥minGallop then break
  rule "list.sort.gallop"
  minGallop:=minGallop+1
  for _ in [0:total]do
   if minGallop > 1 then minGallop:=minGallop-1
   A7 minGallop
   let some k ← A6 false (← elem' b ib) a ia (a.size-ia) 0 | return D0 a b out ia ib
   acount:=k
   if k > 0 then
    out:=out++a.extract ia (ia+k);ia:=ia+k
    if ia+1 == a.size then return Y7 a b out ia ib
    if ia == a.size then return D0 a b out ia ib
   out:=out.push (← elem' b ib);ib:=ib+1
   if ib == b.size then return D0 a b out ia ib
   let some k ← A6 true (← elem' a ia) b ib (b.size-ib) 0 | return D0 a b out ia ib
   bcount:=k
   if k > 0 then
    out:=out++b.extract ib (ib+k);ib:=ib+k
    if ib == b.size then return D0 a b out ia ib
   out:=out.push (← elem' a ia);ia:=ia+1
   if ia+1 == a.size then return Y7 a b out ia ib
   if acount<7 && bcount<7 then break
  minGallop:=minGallop+1
  A7 minGallop
 unsupported "internal:list.sort.merge-bound"):=rfl
def Srt(lt:Keyed→Keyed→Bool)(l:List Keyed):Prop:=l.Pairwise fun x y=>lt y x=false
structure ML(lt:Keyed→Keyed→Bool)(aL bL o ra rb:List Keyed):Prop where
 ex:∃pa pb,aL=pa++ra∧bL=pb++rb∧o.Perm (pa++pb)
 so:Srt lt o
 oa:∀x∈o,∀y∈ra,lt y x=false
 ob:∀x∈o,∀y∈rb,lt y x=false
def l9(lt:Keyed→Keyed→Bool)(aL bL r:List Keyed):Prop:=r.Perm (aL++bL)∧Srt lt r
section
variable {lt:Keyed→Keyed→Bool}{aL bL o ra rb u:List Keyed}{x y:Keyed}
theorem Srt.app{l m:List Keyed}(h1:Srt lt l)(h2:Srt lt m)(h3:∀x∈l,∀y∈m,lt y x=false):Srt lt (l++m):=List.pairwise_append.mpr ⟨h1,h2,h3⟩
theorem Srt.drop{l:List Keyed}(h:Srt lt l)(n:Nat):Srt lt (l.drop n):=List.Pairwise.sublist (List.drop_sublist n l) h
theorem ML.addB(m:ML lt aL bL o ra (y::rb))(hs:Srt lt (y::rb))(h:∀x∈ra,lt x y=false):ML lt aL bL (o++[y]) ra rb:=by
 obtain⟨pa,pb,e1,e2,p⟩:=m.ex
 have hy:=List.pairwise_cons.mp hs
 refine⟨⟨pa,pb++[y],e1,by rw[e2];simp,?_⟩,m.so.app (List.pairwise_singleton _ _) (fun x hx z hz=>?_),fun x hx z hz=>?_,fun x hx z hz=>?_⟩
 ·rw[← List.append_assoc];exact p.append_right [y]
 ·rw[List.mem_singleton.mp hz];exact m.ob x hx y List.mem_cons_self
 ·rcases List.mem_append.mp hx with hx | hx
  ·exact m.oa x hx z hz
  ·rw[List.mem_singleton.mp hx];exact h z hz
 ·rcases List.mem_append.mp hx with hx | hx
  ·exact m.ob x hx z (List.mem_cons_of_mem _ hz)
  ·rw[List.mem_singleton.mp hx];exact hy.1 z hz
theorem ML.addA(m:ML lt aL bL o (x::ra) rb)(hs:Srt lt (x::ra))(h:∀y∈rb,lt y x=false):ML lt aL bL (o++[x]) ra rb:=by
 obtain⟨pa,pb,e1,e2,p⟩:=m.ex
 have hx':=List.pairwise_cons.mp hs
 refine⟨⟨pa++[x],pb,by rw[e1];simp,e2,?_⟩,m.so.app (List.pairwise_singleton _ _) (fun w hw z hz=>?_),fun w hw z hz=>?_,fun w hw z hz=>?_⟩
 ·refine(p.append_right [x]).trans ?_
  rw[List.append_assoc,List.append_assoc]
  exact List.Perm.append_left pa List.perm_append_comm
 ·rw[List.mem_singleton.mp hz];exact m.oa w hw x List.mem_cons_self
 ·rcases List.mem_append.mp hw with hw | hw
  ·exact m.oa w hw z (List.mem_cons_of_mem _ hz)
  ·rw[List.mem_singleton.mp hw];exact hx'.1 z hz
 ·rcases List.mem_append.mp hw with hw | hw
  ·exact m.ob w hw z hz
  ·rw[List.mem_singleton.mp hw];exact h z hz
theorem ML.addAs:∀{u o:List Keyed},ML lt aL bL o (u++ra) rb→Srt lt (u++ra)→(∀x∈u,∀y∈rb,lt y x=false)→ML lt aL bL (o++u) ra rb
 | [],o,m,_,_=>by rw[List.append_nil];exact m
 | x::u,o,m,hs,h=>by
  have:=ML.addAs (u:=u) (ML.addA m hs (h x List.mem_cons_self)) (List.pairwise_cons.mp hs).2 fun z hz=>h z (List.mem_cons_of_mem _ hz)
  rw[List.append_assoc]at this
  exact this
theorem ML.addBs:∀{u o:List Keyed},ML lt aL bL o ra (u++rb)→Srt lt (u++rb)→(∀y∈u,∀x∈ra,lt x y=false)→ML lt aL bL (o++u) ra rb
 | [],o,m,_,_=>by rw[List.append_nil];exact m
 | x::u,o,m,hs,h=>by
  have:=ML.addBs (u:=u) (ML.addB m hs (h x List.mem_cons_self)) (List.pairwise_cons.mp hs).2 fun z hz=>h z (List.mem_cons_of_mem _ hz)
  rw[List.append_assoc]at this
  exact this
theorem ML.finA(m:ML lt aL bL o ra [])(hs:Srt lt ra):l9 lt aL bL (o++ra):=by
 obtain⟨pa,pb,e1,e2,p⟩:=m.ex
 refine⟨?_,m.so.app hs m.oa⟩
 rw[e1,e2,List.append_nil]
 refine(p.append_right ra).trans ?_
 rw[List.append_assoc,List.append_assoc]
 exact List.Perm.append_left pa List.perm_append_comm
theorem ML.finB(m:ML lt aL bL o [] rb)(hs:Srt lt rb):l9 lt aL bL (o++rb):=by
 obtain⟨pa,pb,e1,e2,p⟩:=m.ex
 refine⟨?_,m.so.app hs m.ob⟩
 rw[e1,e2,List.append_nil,← List.append_assoc]
 exact p.append_right rb
theorem ML.finL(m:ML lt aL bL o [x] rb)(hs:Srt lt rb)(h:∀y∈rb,lt x y=false):l9 lt aL bL (o++rb++[x]):=by
 obtain⟨pa,pb,e1,e2,p⟩:=m.ex
 refine⟨?_,(m.so.app hs m.ob).app (List.pairwise_singleton _ _) fun w hw z hz=>?_⟩
 ·rw[e1,e2]
  refine((p.append_right rb).append_right [x]).trans ?_
  simp only[List.append_assoc]
  refine List.Perm.append_left pa ?_
  rw[← List.append_assoc]
  exact List.perm_append_comm
 ·rw[List.mem_singleton.mp hz]
  rcases List.mem_append.mp hw with hw | hw
  ·exact m.oa w hw x List.mem_cons_self
  ·exact h w hw
end
theorem N2(a:Array Keyed)(i:Nat):(a.extract i a.size).toList=a.toList.drop i:=by
 rw[Array.toList_extract,List.extract_eq_take_drop,List.take_of_length_le (by rw[List.length_drop,Array.length_toList];exact Nat.le_refl _)]
theorem a44(a:Array Keyed)(i k:Nat):(a.extract i (i+k)).toList=(a.toList.drop i).take k:=by
 rw[Array.toList_extract,List.extract_eq_take_drop]
 congr 1
 omega
def SameG(st st':SortSt):Prop:=kindOf st'=kindOf st∧arrOf st'=arrOf st∧pendingOf st'=pendingOf st∧failedOf st'=failedOf st
theorem SameG.refl(st:SortSt):SameG st st:=⟨rfl,rfl,rfl,rfl⟩
theorem SameG.trans{a b c:SortSt}(h:SameG a b)(g:SameG b c):SameG a c:=⟨g.1.trans h.1,g.2.1.trans h.2.1,g.2.2.1.trans h.2.2.1,g.2.2.2.trans h.2.2.2⟩
structure MI(lt:Keyed→Keyed→Bool)(a b out:Array Keyed)(ia ib:Nat):Prop where
 la:ia+1<a.size
 lb:ib<b.size
 ml:ML lt a.toList b.toList out.toList (a.toList.drop ia) (b.toList.drop ib)
structure MP(lt:Keyed→Keyed→Bool)(Dm:Keyed→Prop)(a b:Array Keyed):Prop where
 T:TPK lt Dm
 da:∀x∈a.toList,Dm x
 db:∀x∈b.toList,Dm x
 sa:Srt lt a.toList
 sb:Srt lt b.toList
 la:∀y∈b.toList,∀x,a.toList[a.size-1]? = some x→lt x y=false
section
variable {lt:Keyed→Keyed→Bool}{Dm:Keyed→Prop}{a b out:Array Keyed}{ia ib:Nat}{x y:Keyed}
theorem X7{l:List Keyed}{i:Nat}(h:l[i]? = some x):l.drop i=x::l.drop (i+1):=by
 obtain⟨hi,e⟩:=List.getElem?_eq_some_iff.mp h
 rw[List.drop_eq_getElem_cons hi,e]
theorem t7{a:Array Keyed}{i:Nat}(h:i<a.size):∃x,a[i]? = some x∧a.toList[i]? = some x∧x∈a.toList:=by
 refine⟨a[i],by simp[h],?_,Array.getElem_mem_toList h⟩
 rw[List.getElem?_eq_getElem (by simpa using h)]
 simp
theorem z7{l:List Keyed}{i:Nat}{z:Keyed}(h:z∈l.drop i):∃j,i≤j∧l[j]? = some z:=by
 obtain⟨j,hj⟩:=List.mem_iff_getElem?.mp h
 rw[List.getElem?_drop]at hj
 exact⟨i+j,by omega,hj⟩
theorem r8{l:List Keyed}(T:TPK lt Dm)(hD:∀x∈l,Dm x)(hs:Srt lt l){i j:Nat}(hij:i≤j)(hx:l[i]? = some x)(hy:l[j]? = some y):lt y x=false:=by
 obtain⟨hi,e1⟩:=List.getElem?_eq_some_iff.mp hx
 obtain⟨hj,e2⟩:=List.getElem?_eq_some_iff.mp hy
 by_cases z:i=j
 ·subst z
  rw[hx]at hy;cases hy
  exact T.irr _ (hD _ (List.mem_of_getElem? hx))
 ·rw[← e1,← e2]
  exact List.pairwise_iff_getElem.mp hs i j hi hj (by omega)
theorem MI.good_last{ia ib:Nat}(P:MP lt Dm a b)(m:ML lt a.toList b.toList out.toList (a.toList.drop ia) (b.toList.drop ib))(h:ia+1=a.size):l9 lt a.toList b.toList (Y7 a b out ia ib).toList:=by
 obtain⟨x,_,hx,_⟩:=t7 (a:=a) (i:=ia) (by omega)
 have e1:a.toList.drop ia=[x]:=by
  rw[X7 hx,List.drop_eq_nil_of_le (by rw[Array.length_toList];omega)]
 show l9 _ _ _ (out++b.extract ib b.size++a.extract ia a.size).toList
 rw[Array.toList_append,Array.toList_append,N2,N2,e1]
 rw[e1]at m
 refine m.finL (P.sb.drop ib) fun y hy=>P.la y (List.mem_of_mem_drop hy) x ?_
 rw[show a.size-1=ia by omega]
 exact hx
theorem MI.good_doneB{ia ib:Nat}(P:MP lt Dm a b)(m:ML lt a.toList b.toList out.toList (a.toList.drop ia) (b.toList.drop ib))(h:ib=b.size):l9 lt a.toList b.toList (D0 a b out ia ib).toList:=by
 have e1:b.toList.drop ib=[]:=List.drop_eq_nil_of_le (by rw[Array.length_toList];omega)
 show l9 _ _ _ (out++a.extract ia a.size++b.extract ib b.size).toList
 rw[Array.toList_append,Array.toList_append,N2,N2,e1,List.append_nil]
 rw[e1]at m
 exact m.finA (P.sa.drop ia)
theorem MI.good_doneA{ia ib:Nat}(P:MP lt Dm a b)(m:ML lt a.toList b.toList out.toList (a.toList.drop ia) (b.toList.drop ib))(h:ia=a.size):l9 lt a.toList b.toList (D0 a b out ia ib).toList:=by
 have e1:a.toList.drop ia=[]:=List.drop_eq_nil_of_le (by rw[Array.length_toList];omega)
 show l9 _ _ _ (out++a.extract ia a.size++b.extract ib b.size).toList
 rw[Array.toList_append,Array.toList_append,N2,N2,e1,List.append_nil]
 rw[e1]at m
 exact m.finB (P.sb.drop ib)
theorem a7M(P:MP lt Dm a b)(m:ML lt a.toList b.toList out.toList (a.toList.drop ia) (b.toList.drop ib))(hy:b.toList[ib]? = some y)(h:∀x,a.toList[ia]? = some x→lt x y=false):ML lt a.toList b.toList (out.push y).toList (a.toList.drop ia) (b.toList.drop (ib+1)):=by
 rw[X7 hy]at m
 rw[Array.toList_push]
 refine m.addB (by rw[← X7 hy];exact P.sb.drop ib) fun z hz=>?_
 obtain⟨j,hj,e⟩:=z7 hz
 obtain⟨hjl,_⟩:=List.getElem?_eq_some_iff.mp e
 have ei:a.toList[ia]? = some a.toList[ia]:=List.getElem?_eq_getElem (by omega)
 exact P.T.tr _ _ _ (P.db y (List.mem_of_getElem? hy)) (P.da _ (List.mem_of_getElem? ei)) (P.da z (List.mem_of_getElem? e)) (h _ ei) (r8 P.T P.da P.sa hj ei e)
theorem b1y(P:MP lt Dm a b)(m:ML lt a.toList b.toList out.toList (a.toList.drop ia) (b.toList.drop ib))(hx:a.toList[ia]? = some x)(h:∀y,b.toList[ib]? = some y→lt y x=false):ML lt a.toList b.toList (out.push x).toList (a.toList.drop (ia+1)) (b.toList.drop ib):=by
 rw[X7 hx]at m
 rw[Array.toList_push]
 refine m.addA (by rw[← X7 hx];exact P.sa.drop ia) fun z hz=>?_
 obtain⟨j,hj,e⟩:=z7 hz
 obtain⟨hjl,_⟩:=List.getElem?_eq_some_iff.mp e
 have ei:b.toList[ib]? = some b.toList[ib]:=List.getElem?_eq_getElem (by omega)
 exact P.T.tr _ _ _ (P.da x (List.mem_of_getElem? hx)) (P.db _ (List.mem_of_getElem? ei)) (P.db z (List.mem_of_getElem? e)) (h _ ei) (r8 P.T P.db P.sb hj ei e)
theorem Y8{l:List Keyed}{i k:Nat}{z:Keyed}(h:z∈(l.drop i).take k):∃j,j<k∧l[i+j]? = some z:=by
 obtain⟨j,hj⟩:=List.mem_iff_getElem?.mp h
 by_cases hk:j<k
 ·rw[List.getElem?_take_of_lt hk,List.getElem?_drop]at hj
  exact⟨j,hk,hj⟩
 ·rw[List.getElem?_eq_none (by rw[List.length_take];omega)]at hj
  cases hj
theorem b2M(P:MP lt Dm a b)(m:ML lt a.toList b.toList out.toList (a.toList.drop ia) (b.toList.drop ib))(hy:b.toList[ib]? = some y)(k:Nat)(h:∀j x,j<k→a.toList[ia+j]? = some x→lt y x=false):ML lt a.toList b.toList (out++a.extract ia (ia+k)).toList (a.toList.drop (ia+k)) (b.toList.drop ib):=by
 have e0:a.toList.drop ia=(a.toList.drop ia).take k++a.toList.drop (ia+k):=by
  rw[show a.toList.drop (ia+k)=(a.toList.drop ia).drop k by rw[List.drop_drop],List.take_append_drop]
 rw[Array.toList_append,a44]
 refine ML.addAs (by rw[← e0];exact m) (by rw[← e0];exact P.sa.drop ia) fun z hz v hv=>?_
 obtain⟨j,hj,e⟩:=Y8 hz
 obtain⟨i,hi,e2⟩:=z7 hv
 exact P.T.tr _ _ _ (P.da z (List.mem_of_getElem? e)) (P.db y (List.mem_of_getElem? hy)) (P.db v (List.mem_of_getElem? e2)) (h j z hj e) (r8 P.T P.db P.sb hi hy e2)
theorem b2N(P:MP lt Dm a b)(m:ML lt a.toList b.toList out.toList (a.toList.drop ia) (b.toList.drop ib))(hx:a.toList[ia]? = some x)(k:Nat)(h:∀j y,j<k→b.toList[ib+j]? = some y→lt x y=false):ML lt a.toList b.toList (out++b.extract ib (ib+k)).toList (a.toList.drop ia) (b.toList.drop (ib+k)):=by
 have e0:b.toList.drop ib=(b.toList.drop ib).take k++b.toList.drop (ib+k):=by
  rw[show b.toList.drop (ib+k)=(b.toList.drop ib).drop k by rw[List.drop_drop],List.take_append_drop]
 rw[Array.toList_append,a44]
 refine ML.addBs (by rw[← e0];exact m) (by rw[← e0];exact P.sb.drop ib) fun z hz v hv=>?_
 obtain⟨j,hj,e⟩:=Y8 hz
 obtain⟨i,hi,e2⟩:=z7 hv
 exact P.T.tr _ _ _ (P.db z (List.mem_of_getElem? e)) (P.da x (List.mem_of_getElem? hx)) (P.da v (List.mem_of_getElem? e2)) (h j z hj e) (r8 P.T P.da P.sa hi hx e2)
end
abbrev GS:=Option (Array Keyed)×Array Keyed×Nat×Nat×Nat×Nat×Nat
abbrev loC(a b out:Array Keyed)(ia ib mg ac bc:Nat):StateT SortSt Sem (ForInStep GS):=do
 let x ← elem' a ia
 if(ia+1+1 == a.size)=true then pure (.done (some (Y7 a b (out.push x) (ia+1) ib),out.push x,ia+1,ib,mg,ac,bc))
 else if(decide (ac<7) && decide (bc<7))=true then pure (.done (none,out.push x,ia+1,ib,mg,ac,bc))
 else pure (.yield (none,out.push x,ia+1,ib,mg,ac,bc))
abbrev loB(a b out:Array Keyed)(ia ib mg ac bc:Nat):StateT SortSt Sem (ForInStep GS):=do
 let y ← elem' b ib
 if(ib+1 == b.size)=true then pure (.done (some (D0 a b (out.push y) ia (ib+1)),out.push y,ia,ib+1,mg,ac,bc))
 else do
  let x ← elem' a ia
  let r ← A6 true x b (ib+1) (b.size-(ib+1)) 0
  match r with
  | some k =>
   if k > 0 then
    (if(ib+1+k == b.size)=true then pure (.done (some (D0 a b (out.push y++b.extract (ib+1) (ib+1+k)) ia (ib+1+k)),out.push y++b.extract (ib+1) (ib+1+k),ia,ib+1+k,mg,ac,k))
    else loC a b (out.push y++b.extract (ib+1) (ib+1+k)) ia (ib+1+k) mg ac k)
   else loC a b (out.push y) ia (ib+1) mg ac k
  | _=>pure (.done (some (D0 a b (out.push y) ia (ib+1)),out.push y,ia,ib+1,mg,ac,bc))
abbrev loA(a b out:Array Keyed)(ia ib mg ac bc:Nat):StateT SortSt Sem (ForInStep GS):=do
 let y ← elem' b ib
 let r ← A6 false y a ia (a.size-ia) 0
 match r with
 | some k =>
  if k > 0 then
   (if(ia+k+1 == a.size)=true then pure (.done (some (Y7 a b (out++a.extract ia (ia+k)) (ia+k) ib),out++a.extract ia (ia+k),ia+k,ib,mg,k,bc))
   else if(ia+k == a.size)=true then pure (.done (some (D0 a b (out++a.extract ia (ia+k)) (ia+k) ib),out++a.extract ia (ia+k),ia+k,ib,mg,k,bc))
   else loB a b (out++a.extract ia (ia+k)) (ia+k) ib mg k bc)
  else loB a b out ia ib mg k bc
 | _=>pure (.done (some (D0 a b out ia ib),out,ia,ib,mg,ac,bc))
section
variable {prog:Program}{w:World}{A:Around}{E:Value→Shared→Prop}{s:Shared}{κ:SortKind}{lt:Keyed→Keyed→Bool}{Dm:Keyed→Prop}{a b out:Array Keyed}{ia ib mg ac bc p0:Nat}{st0 st:SortSt}
def PQ(lt:Keyed→Keyed→Bool)(a b:Array Keyed)(p0:Nat)(st0:SortSt):ForInStep GS→SortSt→Prop
 | .done c,st'=>SameG st0 st'∧((∃r,c.1=some r∧l9 lt a.toList b.toList r.toList)∨(c.1=none∧MI lt a b c.2.1 c.2.2.1 c.2.2.2.1∧p0≤c.2.2.1+c.2.2.2.1))
 | .yield c,st'=>SameG st0 st'∧c.1=none∧MI lt a b c.2.1 c.2.2.1 c.2.2.2.1∧p0≤c.2.2.1+c.2.2.2.1
theorem b1B(P:MP lt Dm a b)(hg:SameG st0 st)(m:MI lt a b out ia ib)(hp:p0≤ia+ib)(hle:∀x y,a.toList[ia]? = some x→b.toList[ib]? = some y→lt y x=false):wpS (model prog w) A E s (loC a b out ia ib mg ac bc) (PQ lt a b p0 st0) st:=by
 obtain⟨x,hx,hxl,_⟩:=t7 (a:=a) (i:=ia) (by have:=m.la;omega)
 have ml:=b1y P m.ml hxl (fun y hy=>hle x y hxl hy)
 refine wpS_bind (m9 hx ?_)
 by_cases z:(ia+1+1 == a.size)=true
 ·rw[if_pos z]
  exact wpS_pure ⟨hg,.inl ⟨_,rfl,MI.good_last P ml (by simpa using z)⟩⟩
 ·rw[if_neg z]
  have z':ia+1+1≠a.size:=by simpa using z
  have m':MI lt a b (out.push x) (ia+1) ib:=⟨by have:=m.la;omega,m.lb,ml⟩
  split
  ·exact wpS_pure ⟨hg,.inr ⟨rfl,m',by show p0≤ia+1+ib;omega⟩⟩
  ·exact wpS_pure ⟨hg,rfl,m',by show p0≤ia+1+ib;omega⟩
theorem b1C(C:x8 prog w A s κ lt Dm)(P:MP lt Dm a b)(hk:kindOf st=κ)(hg:SameG st0 st)(m:MI lt a b out ia ib)(hp:p0≤ia+ib)(hle:∀x y,a.toList[ia]? = some x→b.toList[ib]? = some y→lt x y=false):wpS (model prog w) A E s (loB a b out ia ib mg ac bc) (PQ lt a b p0 st0) st:=by
 obtain⟨y,hy,hyl,_⟩:=t7 (a:=b) (i:=ib) m.lb
 obtain⟨x,hx,hxl,mx⟩:=t7 (a:=a) (i:=ia) (by have:=m.la;omega)
 have ml:=a7M P m.ml hyl (fun x hx=>hle x y hx hyl)
 have dx:=P.da x mx
 refine wpS_bind (m9 hy ?_)
 by_cases z:(ib+1 == b.size)=true
 ·rw[if_pos z]
  exact wpS_pure ⟨hg,.inl ⟨_,rfl,MI.good_doneB P ml (by simpa using z)⟩⟩
 ·rw[if_neg z]
  have z':ib+1≠b.size:=by simpa using z
  have hlb:ib+1<b.size:=by have:=m.lb;omega
  refine wpS_bind (m9 hx (wpS_bind ?_))
  have at_:∀i,i<b.size-(ib+1)→∃v,b[ib+1+i]? = some v∧b.toList[ib+1+i]? = some v∧v∈b.toList:=fun i hi=>t7 (by omega)
  refine J4 C hk dx (by omega) (fun i=>lt ((b.toList[ib+1+i]?).getD x) x) (fun i hi=>?_) (fun i j hij hj hb=>?_) fun k hk1 hk2 hk3=>?_
  ·obtain⟨v,h1,h2,h3⟩:=at_ i hi
   exact⟨v,h1,P.db v h3,by rw[h2];rfl⟩
  ·obtain⟨v,h1,h2,h3⟩:=at_ i (by omega)
   obtain⟨u,u1,u2,u3⟩:=at_ j hj
   rw[u2]at hb
   rw[h2]
   show lt v x=true
   cases q:lt v x with
   | true=>rfl
   | false =>
    have:=P.T.tr x v u dx (P.db v h3) (P.db u u3) q (r8 P.T P.db P.sb (by omega) h2 u2)
    have hb:lt u x=true:=hb
    rw[this]at hb;cases hb
  ·dsimp only
   have low:∀j v,j<k→b.toList[ib+1+j]? = some v→lt x v=false:=fun j v hj hv=>by
    have:=hk2 j hj
    rw[hv]at this
    exact P.T.asy _ _ (P.db v (List.mem_of_getElem? hv)) dx this
   have high:∀v,b.toList[ib+1+k]? = some v→lt v x=false:=fun v hv=>by
    obtain⟨hl,_⟩:=List.getElem?_eq_some_iff.mp hv
    rw[Array.length_toList]at hl
    have:=hk3 k (Nat.le_refl _) (by omega)
    rw[hv]at this
    exact this
   by_cases k0:k > 0
   ·rw[if_pos k0]
    have ml2:=b2N P ml hxl k low
    by_cases y1:(ib+1+k == b.size)=true
    ·rw[if_pos y1]
     exact wpS_pure ⟨hg,.inl ⟨_,rfl,MI.good_doneB P ml2 (by simpa using y1)⟩⟩
    ·rw[if_neg y1]
     have y1':ib+1+k≠b.size:=by simpa using y1
     exact b1B P hg ⟨m.la,by omega,ml2⟩ (by omega) fun x' y' e1 e2=>by
      rw[hxl]at e1;cases e1
      exact high y' e2
   ·rw[if_neg k0]
    have e0:k=0:=by omega
    subst e0
    exact b1B P hg ⟨m.la,hlb,ml⟩ (by omega) fun x' y' e1 e2=>by
     rw[hxl]at e1;cases e1
     exact high y' e2
theorem b1D(C:x8 prog w A s κ lt Dm)(P:MP lt Dm a b)(hk:kindOf st=κ)(hg:SameG st0 st)(m:MI lt a b out ia ib)(hp:p0≤ia+ib):wpS (model prog w) A E s (loA a b out ia ib mg ac bc) (PQ lt a b p0 st0) st:=by
 obtain⟨y,hy,hyl,my⟩:=t7 (a:=b) (i:=ib) m.lb
 have dy:=P.db y my
 have hla:=m.la
 refine wpS_bind (m9 hy (wpS_bind ?_))
 have at_:∀i,i<a.size-ia→∃v,a[ia+i]? = some v∧a.toList[ia+i]? = some v∧v∈a.toList:=fun i hi=>t7 (by omega)
 refine J4 C hk dy (by omega) (fun i=>!lt y ((a.toList[ia+i]?).getD y)) (fun i hi=>?_) (fun i j hij hj hb=>?_) fun k hk1 hk2 hk3=>?_
 ·obtain⟨v,h1,h2,h3⟩:=at_ i hi
  exact⟨v,h1,P.da v h3,by rw[h2];rfl⟩
 ·obtain⟨v,h1,h2,h3⟩:=at_ i (by omega)
  obtain⟨u,u1,u2,u3⟩:=at_ j hj
  rw[u2]at hb
  rw[h2]
  have hb:(!lt y u)=true:=hb
  have hb':lt y u=false:=by simpa using hb
  show(!lt y v)=true
  rw[P.T.tr v u y (P.da v h3) (P.da u u3) dy (r8 P.T P.da P.sa (by omega) h2 u2) hb']
  rfl
 ·dsimp only
  have low:∀j v,j<k→a.toList[ia+j]? = some v→lt y v=false:=fun j v hj hv=>by
   have:=hk2 j hj
   rw[hv]at this
   have this:(!lt y v)=true:=this
   simpa using this
  have high:∀v,a.toList[ia+k]? = some v→lt v y=false:=fun v hv=>by
   obtain⟨hl,_⟩:=List.getElem?_eq_some_iff.mp hv
   rw[Array.length_toList]at hl
   have:=hk3 k (Nat.le_refl _) (by omega)
   rw[hv]at this
   have this:(!lt y v)=false:=this
   exact P.T.asy _ _ dy (P.da v (List.mem_of_getElem? hv)) (by simpa using this)
  by_cases k0:k > 0
  ·rw[if_pos k0]
   have ml2:=b2M P m.ml hyl k low
   by_cases y1:(ia+k+1 == a.size)=true
   ·rw[if_pos y1]
    exact wpS_pure ⟨hg,.inl ⟨_,rfl,MI.good_last P ml2 (by simpa using y1)⟩⟩
   ·rw[if_neg y1]
    have y1':ia+k+1≠a.size:=by simpa using y1
    by_cases y2:(ia+k == a.size)=true
    ·rw[if_pos y2]
     exact wpS_pure ⟨hg,.inl ⟨_,rfl,MI.good_doneA P ml2 (by simpa using y2)⟩⟩
    ·rw[if_neg y2]
     have y2':ia+k≠a.size:=by simpa using y2
     exact b1C C P hk hg ⟨by omega,m.lb,ml2⟩ (by omega) fun x' y' e1 e2=>by
      rw[hyl]at e2;cases e2
      exact high x' e1
  ·rw[if_neg k0]
   have e0:k=0:=by omega
   subst e0
   exact b1C C P hk hg m (by omega) fun x' y' e1 e2=>by
    rw[hyl]at e2;cases e2
    exact high x' e1
theorem smg{g:Nat}{Q:Unit→SortSt→Prop}(h:∀st',SameG st st'→Q () st'):wpS (model prog w) A E s (A7 g) Q st:=by
 rw[a1r]
 exact wpS_modify (h _ ⟨rfl,rfl,rfl,rfl⟩)
theorem a30{α:Type}{c:Prop} [Decidable c] {m1 m2:StateT SortSt Sem α} {Q:α→SortSt→Prop} (h1:c→wpS (model prog w) A E s m1 Q st) (h2:¬c→wpS (model prog w) A E s m2 Q st):wpS (model prog w) A E s (if c then m1 else m2) Q st:=by
 by_cases z:c
 ·rw[if_pos z];exact h1 z
 ·rw[if_neg z];exact h2 z
abbrev S1:=Option (Array Keyed)×Array Keyed×Nat×Nat×Nat×Nat
theorem a4H{Q:Array Keyed→SortSt→Prop}(C:x8 prog w A s κ lt Dm)(P:MP lt Dm a b)(hk:kindOf st=κ)(ha:1≤a.size)(hb:1≤b.size)(h0:∀x y,a.toList[0]? = some x→b.toList[0]? = some y→lt x y=false)
  (h:∀r st',SameG st st'→l9 lt a.toList b.toList r.toList→Q r st'):wpS (model prog w) A E s (a1s a b) Q st:=by
 rw[a4G]
 refine wpS_bind (wpS_lift (wpAny_rule ⟨rfl,?_⟩))
 obtain⟨y,hy,hyl,my⟩:=t7 (a:=b) (i:=0) hb
 refine wpS_bind (m9 hy ?_)
 dsimp only
 have m0:ML lt a.toList b.toList [] (a.toList.drop 0) (b.toList.drop 0):=⟨⟨[],[],rfl,rfl,.refl _⟩,.nil,fun x hx=>absurd hx List.not_mem_nil,fun x hx=>absurd hx List.not_mem_nil⟩
 have m1:ML lt a.toList b.toList (#[y]:Array Keyed).toList (a.toList.drop 0) (b.toList.drop 1):=a7M (out := #[]) P m0 hyl fun x hx=>h0 x y hx hyl
 by_cases z:(1 == b.size)=true
 ·rw[if_pos z]
  exact wpS_pure (h _ _ (.refl _) (MI.good_doneB P m1 (by simpa using z)))
 rw[if_neg z]
 have z':1≠b.size:=by simpa using z
 by_cases z2:(0+1 == a.size)=true
 ·rw[if_pos z2]
  exact wpS_pure (h _ _ (.refl _) (MI.good_last P m1 (by simpa using z2)))
 rw[if_neg z2]
 have z2':0+1≠a.size:=by simpa using z2
 refine wpS_bind (wpS_get ?_)
 refine wpS_bind (Q2 (fun(i:Nat) (c:Option (Array Keyed)×Array Keyed×Nat×Nat×Nat) st'=>c.1=none∧SameG st st'∧MI lt a b c.2.1 c.2.2.1 c.2.2.2.1∧i+1≤c.2.2.1+c.2.2.2.1)
  (fun(c:Option (Array Keyed)×Array Keyed×Nat×Nat×Nat) st'=>∃r,c.1=some r∧SameG st st'∧l9 lt a.toList b.toList r.toList) ?_ ?_ ⟨rfl,.refl _,⟨by show 0+1<a.size;omega,by show 1<b.size;omega,m1⟩,by show 0+1≤0+1;omega⟩ ?_)
 ·rintro i ⟨c0,out,ia,ib,mg⟩ st1 hi ⟨e0,hg,m,hp⟩
  dsimp only at *
  refine wpS_bind (Q2 (fun(j:Nat) (c:S1) st'=>c.1=none∧SameG st st'∧MI lt a b c.2.1 c.2.2.1 c.2.2.2.1∧ia+ib+j≤c.2.2.1+c.2.2.2.1)
   (fun(c:S1) st'=>SameG st st'∧((∃r,c.1=some r∧l9 lt a.toList b.toList r.toList)∨(c.1=none∧MI lt a b c.2.1 c.2.2.1 c.2.2.2.1∧ia+ib+1≤c.2.2.1+c.2.2.2.1))) ?_ ?_ ⟨rfl,hg,m,Nat.le_refl _⟩ ?_)
  ·rintro j ⟨d0,out',ja,jb,ac,bc⟩ st2 hj ⟨f0,hg2,m2,hp2⟩
   dsimp only at *
   obtain⟨y2,hy2,hyl2,my2⟩:=t7 (a:=b) (i:=jb) m2.lb
   obtain⟨x2,hx2,hxl2,mx2⟩:=t7 (a:=a) (i:=ja) (by have:=m2.la;omega)
   refine wpS_bind (m9 hy2 (wpS_bind (m9 hx2 (wpS_bind (a0x C (hg2.1.trans hk) (P.db _ my2) (P.da _ mx2) ?_)))))
   dsimp only
   have hla:=m2.la
   have hlb:=m2.lb
   cases bw:lt y2 x2 with
   | true =>
    rw[if_pos rfl]
    have ml:=a7M P m2.ml hyl2 (fun x hx=>by rw[hxl2]at hx;cases hx;exact P.T.asy _ _ (P.db _ my2) (P.da _ mx2) bw)
    refine wpS_bind (m9 hy2 ?_)
    by_cases q:(jb+1 == b.size)=true
    ·rw[if_pos q]
     exact wpS_pure ⟨hg2,.inl ⟨_,rfl,MI.good_doneB P ml (by simpa using q)⟩⟩
    ·rw[if_neg q]
     have q':jb+1≠b.size:=by simpa using q
     have m3:MI lt a b (out'.push y2) ja (jb+1):=⟨hla,by omega,ml⟩
     split
     ·exact wpS_pure ⟨hg2,.inr ⟨rfl,m3,by show ia+ib+1≤ja+(jb+1);omega⟩⟩
     ·exact wpS_pure ⟨rfl,hg2,m3,by show ia+ib+(j+1)≤ja+(jb+1);omega⟩
   | false =>
    rw[if_neg (by simp)]
    have ml:=b1y P m2.ml hxl2 (fun y hy=>by rw[hyl2]at hy;cases hy;exact bw)
    refine wpS_bind (m9 hx2 ?_)
    by_cases q:(ja+1+1 == a.size)=true
    ·rw[if_pos q]
     exact wpS_pure ⟨hg2,.inl ⟨_,rfl,MI.good_last P ml (by simpa using q)⟩⟩
    ·rw[if_neg q]
     have q':ja+1+1≠a.size:=by simpa using q
     have m3:MI lt a b (out'.push x2) (ja+1) jb:=⟨by omega,hlb,ml⟩
     split
     ·exact wpS_pure ⟨hg2,.inr ⟨rfl,m3,by show ia+ib+1≤ja+1+jb;omega⟩⟩
     ·exact wpS_pure ⟨rfl,hg2,m3,by show ia+ib+(j+1)≤ja+1+jb;omega⟩
  ·rintro⟨d0,out',ja,jb,ac,bc⟩ st2 ⟨f0,hg2,m2,hp2⟩
   dsimp only at *
   exact⟨hg2,.inr ⟨f0,m2,by show ia+ib+1≤ja+jb;omega⟩⟩
  ·rintro⟨d0,out',ja,jb,ac,bc⟩ st2 ⟨hg2,⟨r,f0,gr⟩ | ⟨f0,m2,hp2⟩⟩
   ·dsimp only at *
    subst f0
    exact wpS_pure ⟨r,rfl,hg2,gr⟩
   ·dsimp only at *
    subst f0
    dsimp only
    refine wpS_bind (wpS_lift (wpAny_rule ⟨rfl,?_⟩))
    refine wpS_bind (Q2 (fun(j:Nat) (c:GS) st'=>SameG st st'∧c.1=none∧MI lt a b c.2.1 c.2.2.1 c.2.2.2.1∧ja+jb≤c.2.2.1+c.2.2.2.1)
     (fun(c:GS) st'=>SameG st st'∧((∃r,c.1=some r∧l9 lt a.toList b.toList r.toList)∨(c.1=none∧MI lt a b c.2.1 c.2.2.1 c.2.2.2.1∧ja+jb≤c.2.2.1+c.2.2.2.1))) ?_ ?_ ⟨hg2,rfl,m2,Nat.le_refl _⟩ ?_)
    ·rintro j ⟨g0,out2,ka,kb,mg2,ac2,bc2⟩ st3 hj ⟨hg3,f0,m3,hp3⟩
     refine a30 (fun _=>?_) (fun _=>?_)
     ·refine wpS_bind (smg fun st4 g4=>?_)
      exact wpS_mono (b1D (mg:=mg2-1) (ac:=ac2) (bc:=bc2) C P ((hg3.trans g4).1.trans hk) (hg3.trans g4) m3 hp3) (fun r st' q=>by cases r<;>exact q)
     ·refine wpS_bind (smg fun st4 g4=>?_)
      exact wpS_mono (b1D (mg:=mg2) (ac:=ac2) (bc:=bc2) C P ((hg3.trans g4).1.trans hk) (hg3.trans g4) m3 hp3) (fun r st' q=>by cases r<;>exact q)
    ·rintro⟨g0,out2,ka,kb,mg2,ac2,bc2⟩ st3 ⟨hg3,f0,m3,hp3⟩
     exact⟨hg3,.inr ⟨f0,m3,hp3⟩⟩
    ·rintro⟨g0,out2,ka,kb,mg2,ac2,bc2⟩ st3 ⟨hg3,⟨r,f0,gr⟩ | ⟨f0,m3,hp3⟩⟩
     ·have f0:g0=some r:=f0
      subst f0
      exact wpS_pure ⟨r,rfl,hg3,gr⟩
     ·have f0:g0=none:=f0
      have hp3:ja+jb≤ka+kb:=hp3
      subst f0
      refine wpS_bind (smg fun st4 g4=>?_)
      exact wpS_pure ⟨rfl,hg3.trans g4,m3,by show i+1+1≤ka+kb;omega⟩
 ·rintro⟨c0,out,ia,ib,mg⟩ st1 ⟨e0,hg,m,hp⟩
  exfalso
  have h1:=m.la
  have h2:=m.lb
  dsimp only at *
  omega
 ·rintro⟨c0,out,ia,ib,mg⟩ st1 ⟨r,e0,hg,gr⟩
  dsimp only at *
  subst e0
  exact wpS_pure (h r st1 hg gr)
end
def a1t:Array Keyed→Array Keyed→StateT SortSt Sem (Array Keyed):=sortPriv% PySem.Builtin.mergeHi
abbrev D1(a b out:Array Keyed)(na nb:Nat):Array Keyed:=a.extract 0 na++b.extract 0 nb++out.reverse
abbrev U6(a b out:Array Keyed)(na nb:Nat):Array Keyed:=b.extract 0 nb++a.extract 0 na++out.reverse
theorem a4I(a b:Array Keyed):a1t a b=(do
 rule "list.sort.merge-hi"
 let total:=a.size+b.size
 let mut na:=a.size-1
 let mut nb:=b.size
 let mut out:Array Keyed := #[← elem' a na]
 if na == 0 then return D1 a b out na nb
 if nb == 1 then return U6 a b out na nb
 let mut minGallop:=gallopOf (← get)
 for _ in [0:total]do
  let mut acount:=0
  let mut bcount:=0
  for _ in [0:total]do
   let some aWins ← lt' (← elem' b (nb-1)) (← elem' a (na-1)) | return D1 a b out na nb
   if aWins then
    na:=na-1;out:=out.push (← elem' a na);acount:=acount+1;bcount:=0
    if na == 0 then return D1 a b out na nb
    if acount≥minGallop then break
   else
    nb:=nb-1;out:=out.push (← elem' b nb);bcount:=bcount+1;acount:=0
    if nb == 1 then return U6 a b out na nb
    if bcount≥minGallop then break
  rule "list.sort.gallop"
  minGallop:=minGallop+1
  for _ in [0:total]do
   if minGallop > 1 then minGallop:=minGallop-1
   A7 minGallop
   let some at_ ← A6 false (← elem' b (nb-1)) a 0 na (na-1) | return D1 a b out na nb
   let k:=na-at_
   acount:=k
   if k > 0 then
    out:=out++(a.extract at_ na).reverse;na:=at_
    if na == 0 then return D1 a b out na nb
   nb:=nb-1;out:=out.push (← elem' b nb)
   if nb == 1 then return U6 a b out na nb
   let some at_ ← A6 true (← elem' a (na-1)) b 0 nb (nb-1) | return D1 a b out na nb
   let k:=nb-at_
   bcount:=k
   if k > 0 then
    out:=out++(b.extract at_ nb).reverse;nb:=at_
    if nb == 1 then return U6 a b out na nb
    if nb == 0 then return D1 a b out na nb
   na:=na-1;out:=out.push (← elem' a na)
   if na == 0 then return D1 a b out na nb
   if acount<7 && bcount<7 then break
  minGallop:=minGallop+1
  A7 minGallop
 unsupported "internal:list.sort.merge-bound"):=rfl
structure MR(lt:Keyed→Keyed→Bool)(aL bL o ra rb:List Keyed):Prop where
 ex:∃pa pb,aL=ra++pa∧bL=rb++pb∧o.Perm (pa++pb)
 so:Srt lt o
 oa:∀x∈o,∀y∈ra,lt x y=false
 ob:∀x∈o,∀y∈rb,lt x y=false
section
variable {lt:Keyed→Keyed→Bool}{aL bL o ra rb u:List Keyed}{x y:Keyed}
theorem Srt.left{l m:List Keyed}(h:Srt lt (l++m)):Srt lt l:=(List.pairwise_append.mp h).1
theorem MR.addA(m:MR lt aL bL o (ra++[x]) rb)(hs:Srt lt (ra++[x]))(h:∀y∈rb,lt x y=false):MR lt aL bL (x::o) ra rb:=by
 obtain⟨pa,pb,e1,e2,p⟩:=m.ex
 have hx:=(List.pairwise_append.mp hs).2.2
 refine⟨⟨x::pa,pb,by rw[e1];simp,e2,p.cons x⟩,List.pairwise_cons.mpr ⟨fun z hz=>m.oa z hz x (by simp),m.so⟩,fun w hw z hz=>?_,fun w hw z hz=>?_⟩
 ·rcases List.mem_cons.mp hw with rfl | hw
  ·exact hx z hz w List.mem_cons_self
  ·exact m.oa w hw z (List.mem_append_left _ hz)
 ·rcases List.mem_cons.mp hw with rfl | hw
  ·exact h z hz
  ·exact m.ob w hw z hz
theorem MR.addB(m:MR lt aL bL o ra (rb++[y]))(hs:Srt lt (rb++[y]))(h:∀x∈ra,lt y x=false):MR lt aL bL (y::o) ra rb:=by
 obtain⟨pa,pb,e1,e2,p⟩:=m.ex
 have hy:=(List.pairwise_append.mp hs).2.2
 refine⟨⟨pa,y::pb,e1,by rw[e2];simp,(p.cons y).trans List.perm_middle.symm⟩,List.pairwise_cons.mpr ⟨fun z hz=>m.ob z hz y (by simp),m.so⟩,fun w hw z hz=>?_,fun w hw z hz=>?_⟩
 ·rcases List.mem_cons.mp hw with rfl | hw
  ·exact h z hz
  ·exact m.oa w hw z hz
 ·rcases List.mem_cons.mp hw with rfl | hw
  ·exact hy z hz w List.mem_cons_self
  ·exact m.ob w hw z (List.mem_append_left _ hz)
theorem MR.addAs:∀{u ra:List Keyed},MR lt aL bL o (ra++u) rb→Srt lt (ra++u)→(∀x∈u,∀y∈rb,lt x y=false)→MR lt aL bL (u++o) ra rb
 | [],ra,m,_,_=>by rw[List.append_nil]at m;exact m
 | x::u,ra,m,hs,h=>by
  have e:ra++x::u=(ra++[x])++u:=by simp
  rw[e]at m hs
  exact MR.addA (MR.addAs m hs fun z hz=>h z (List.mem_cons_of_mem _ hz)) hs.left (h x List.mem_cons_self)
theorem MR.addBs:∀{u rb:List Keyed},MR lt aL bL o ra (rb++u)→Srt lt (rb++u)→(∀y∈u,∀x∈ra,lt y x=false)→MR lt aL bL (u++o) ra rb
 | [],rb,m,_,_=>by rw[List.append_nil]at m;exact m
 | x::u,rb,m,hs,h=>by
  have e:rb++x::u=(rb++[x])++u:=by simp
  rw[e]at m hs
  exact MR.addB (MR.addBs m hs fun z hz=>h z (List.mem_cons_of_mem _ hz)) hs.left (h x List.mem_cons_self)
theorem MR.finB(m:MR lt aL bL o [] rb)(hs:Srt lt rb):l9 lt aL bL (rb++o):=by
 obtain⟨pa,pb,e1,e2,p⟩:=m.ex
 refine⟨?_,hs.app m.so fun x hx y hy=>m.ob y hy x hx⟩
 rw[e1,e2,List.nil_append]
 refine(p.append_left rb).trans ?_
 rw[← List.append_assoc,← List.append_assoc]
 exact List.Perm.append_right pb List.perm_append_comm
theorem MR.finA(m:MR lt aL bL o ra [])(hs:Srt lt ra):l9 lt aL bL (ra++o):=by
 obtain⟨pa,pb,e1,e2,p⟩:=m.ex
 refine⟨?_,hs.app m.so fun x hx y hy=>m.oa y hy x hx⟩
 rw[e1,e2,List.nil_append,List.append_assoc]
 exact p.append_left ra
theorem MR.finF(m:MR lt aL bL o ra [y])(hs:Srt lt ra)(h:∀x∈ra,lt x y=false):l9 lt aL bL ([y]++ra++o):=by
 obtain⟨pa,pb,e1,e2,p⟩:=m.ex
 refine⟨?_,?_⟩
 ·rw[e1,e2]
  refine(p.append_left ([y]++ra)).trans ?_
  refine List.Perm.trans ?_ (List.perm_append_comm (l₁:=ra++pa) (l₂:=[y]++pb)).symm
  simp only[List.append_assoc]
  refine List.Perm.append_left [y] ?_
  rw[← List.append_assoc]
  exact List.perm_append_comm
 ·refine Srt.app (List.pairwise_cons.mpr ⟨fun x hx=>h x hx,hs⟩:Srt lt ([y]++ra)) m.so fun x hx z hz=>?_
  rcases List.mem_append.mp hx with hx | hx
  ·rw[List.mem_singleton.mp hx];exact m.ob z hz y List.mem_cons_self
  ·exact m.oa z hz x hx
end
theorem N3(a:Array Keyed)(i:Nat):(a.extract 0 i).toList=a.toList.take i:=by
 rw[Array.toList_extract,List.extract_eq_take_drop,List.drop_zero,Nat.sub_zero]
theorem a1u(a:Array Keyed)(i j:Nat):(a.extract i j).toList=(a.toList.drop i).take (j-i):=by
 rw[Array.toList_extract,List.extract_eq_take_drop]
structure MH(lt:Keyed→Keyed→Bool)(a b out:Array Keyed)(na nb:Nat):Prop where
 la:0<na∧na≤a.size
 lb:1<nb∧nb≤b.size
 mr:MR lt a.toList b.toList out.toList.reverse (a.toList.take na) (b.toList.take nb)
structure MPh(lt:Keyed→Keyed→Bool)(Dm:Keyed→Prop)(a b:Array Keyed):Prop where
 T:TPK lt Dm
 da:∀x∈a.toList,Dm x
 db:∀x∈b.toList,Dm x
 sa:Srt lt a.toList
 sb:Srt lt b.toList
 fb:∀x∈a.toList,∀y,b.toList[0]? = some y→lt x y=false
section
variable {lt:Keyed→Keyed→Bool}{Dm:Keyed→Prop}{a b out:Array Keyed}{na nb:Nat}{x y:Keyed}
theorem Srt.take{l:List Keyed}(h:Srt lt l)(n:Nat):Srt lt (l.take n):=List.Pairwise.sublist (List.take_sublist n l) h
theorem a46{l:List Keyed}{i:Nat}(h:l[i]? = some x):l.take (i+1)=l.take i++[x]:=by
 rw[List.take_add_one,h]
 rfl
theorem u9{l:List Keyed}{n:Nat}{z:Keyed}(h:z∈l.take n):∃j,j<n∧l[j]? = some z:=by
 obtain⟨j,hj⟩:=List.mem_iff_getElem?.mp h
 by_cases hk:j<n
 ·rw[List.getElem?_take_of_lt hk]at hj
  exact⟨j,hk,hj⟩
 ·rw[List.getElem?_eq_none (by rw[List.length_take];omega)]at hj
  cases hj
theorem MH.good_doneA(P:MPh lt Dm a b)(m:MR lt a.toList b.toList out.toList.reverse (a.toList.take na) (b.toList.take nb))(h:na=0):l9 lt a.toList b.toList (D1 a b out na nb).toList:=by
 subst h
 show l9 _ _ _ (a.extract 0 0++b.extract 0 nb++out.reverse).toList
 rw[Array.toList_append,Array.toList_append,N3,N3,Array.toList_reverse,List.take_zero,List.nil_append]
 rw[List.take_zero]at m
 exact m.finB (P.sb.take nb)
theorem MH.good_doneB(P:MPh lt Dm a b)(m:MR lt a.toList b.toList out.toList.reverse (a.toList.take na) (b.toList.take nb))(h:nb=0):l9 lt a.toList b.toList (D1 a b out na nb).toList:=by
 subst h
 show l9 _ _ _ (a.extract 0 na++b.extract 0 0++out.reverse).toList
 rw[Array.toList_append,Array.toList_append,N3,N3,Array.toList_reverse,List.take_zero,List.append_nil]
 rw[List.take_zero]at m
 exact m.finA (P.sa.take na)
theorem MH.good_first(P:MPh lt Dm a b)(hb:1≤b.size)(m:MR lt a.toList b.toList out.toList.reverse (a.toList.take na) (b.toList.take nb))(h:nb=1):l9 lt a.toList b.toList (U6 a b out na nb).toList:=by
 subst h
 obtain⟨y,_,hy,_⟩:=t7 (a:=b) (i:=0) hb
 have e1:b.toList.take 1=[y]:=by rw[a46 hy,List.take_zero];rfl
 show l9 _ _ _ (b.extract 0 1++a.extract 0 na++out.reverse).toList
 rw[Array.toList_append,Array.toList_append,N3,N3,Array.toList_reverse,e1]
 rw[e1]at m
 exact m.finF (P.sa.take na) fun x hx=>P.fb x (List.mem_of_mem_take hx) y hy
theorem W0{l:List Keyed}{n:Nat}(h0:0<n)(h:l[n-1]? = some x):l.take n=l.take (n-1)++[x]:=by
 have:=a46 h
 rw[show n-1+1=n by omega]at this
 exact this
theorem a7N(P:MPh lt Dm a b)(ha:0<na)(hb:nb≤b.size)(h0:0<nb)(m:MR lt a.toList b.toList out.toList.reverse (a.toList.take na) (b.toList.take nb))(hx:a.toList[na-1]? = some x)(h:∀y,b.toList[nb-1]? = some y→lt x y=false):MR lt a.toList b.toList (out.push x).toList.reverse (a.toList.take (na-1)) (b.toList.take nb):=by
 rw[W0 ha hx]at m
 rw[Array.toList_push,List.reverse_append]
 refine m.addA (by rw[← W0 ha hx];exact P.sa.take _) fun z hz=>?_
 obtain⟨j,hj,e⟩:=u9 hz
 obtain⟨v0,_,ei,_⟩:=t7 (a:=b) (i:=nb-1) (by omega)
 exact P.T.tr _ _ _ (P.db z (List.mem_of_getElem? e)) (P.db _ (List.mem_of_getElem? ei)) (P.da x (List.mem_of_getElem? hx)) (r8 P.T P.db P.sb (by omega) e ei) (h _ ei)
theorem b1E(P:MPh lt Dm a b)(hb:0<nb)(ha:na≤a.size)(h0:0<na)(m:MR lt a.toList b.toList out.toList.reverse (a.toList.take na) (b.toList.take nb))(hy:b.toList[nb-1]? = some y)(h:∀x,a.toList[na-1]? = some x→lt y x=false):MR lt a.toList b.toList (out.push y).toList.reverse (a.toList.take na) (b.toList.take (nb-1)):=by
 rw[W0 hb hy]at m
 rw[Array.toList_push,List.reverse_append]
 refine m.addB (by rw[← W0 hb hy];exact P.sb.take _) fun z hz=>?_
 obtain⟨j,hj,e⟩:=u9 hz
 obtain⟨v0,_,ei,_⟩:=t7 (a:=a) (i:=na-1) (by omega)
 exact P.T.tr _ _ _ (P.da z (List.mem_of_getElem? e)) (P.da _ (List.mem_of_getElem? ei)) (P.db y (List.mem_of_getElem? hy)) (r8 P.T P.da P.sa (by omega) e ei) (h _ ei)
theorem R9{l:List Keyed}{i n:Nat}(h:i≤n):l.take n=l.take i++(l.drop i).take (n-i):=by
 have e1:=(List.take_append_drop i (l.take n)).symm
 rw[List.take_take,Nat.min_eq_left h,List.drop_take]at e1
 exact e1
theorem b2O(P:MPh lt Dm a b){i:Nat}(hi:i≤na)(m:MR lt a.toList b.toList out.toList.reverse (a.toList.take na) (b.toList.take nb))(hy:b.toList[nb-1]? = some y)(h0:0<nb)(h:∀j x,i≤j→j<na→a.toList[j]? = some x→lt x y=false):MR lt a.toList b.toList (out++(a.extract i na).reverse).toList.reverse (a.toList.take i) (b.toList.take nb):=by
 rw[R9 hi]at m
 rw[Array.toList_append,Array.toList_reverse,List.reverse_append,List.reverse_reverse,a1u]
 refine MR.addAs m (by rw[← R9 hi];exact P.sa.take _) fun z hz v hv=>?_
 obtain⟨j,hj,e⟩:=Y8 hz
 obtain⟨k,hk,e2⟩:=u9 hv
 exact P.T.tr _ _ _ (P.db v (List.mem_of_getElem? e2)) (P.db y (List.mem_of_getElem? hy)) (P.da z (List.mem_of_getElem? e)) (r8 P.T P.db P.sb (by omega) e2 hy) (h (i+j) z (by omega) (by omega) e)
theorem b2P(P:MPh lt Dm a b){i:Nat}(hi:i≤nb)(m:MR lt a.toList b.toList out.toList.reverse (a.toList.take na) (b.toList.take nb))(hx:a.toList[na-1]? = some x)(h0:0<na)(h:∀j y,i≤j→j<nb→b.toList[j]? = some y→lt y x=false):MR lt a.toList b.toList (out++(b.extract i nb).reverse).toList.reverse (a.toList.take na) (b.toList.take i):=by
 rw[R9 (l:=b.toList) hi]at m
 rw[Array.toList_append,Array.toList_reverse,List.reverse_append,List.reverse_reverse,a1u]
 refine MR.addBs m (by rw[← R9 hi];exact P.sb.take _) fun z hz v hv=>?_
 obtain⟨j,hj,e⟩:=Y8 hz
 obtain⟨k,hk,e2⟩:=u9 hv
 exact P.T.tr _ _ _ (P.da v (List.mem_of_getElem? e2)) (P.da x (List.mem_of_getElem? hx)) (P.db z (List.mem_of_getElem? e)) (r8 P.T P.da P.sa (by omega) e2 hx) (h (i+j) z (by omega) (by omega) e)
end
abbrev GH:=Option (Array Keyed)×Nat×Nat×Array Keyed×Nat×Nat×Nat
abbrev hiC(a b out:Array Keyed)(na nb mg ac bc:Nat):StateT SortSt Sem (ForInStep GH):=do
 let x ← elem' a (na-1)
 if(na-1 == 0)=true then pure (.done (some (D1 a b (out.push x) (na-1) nb),na-1,nb,out.push x,mg,ac,bc))
 else if(decide (ac<7) && decide (bc<7))=true then pure (.done (none,na-1,nb,out.push x,mg,ac,bc))
 else pure (.yield (none,na-1,nb,out.push x,mg,ac,bc))
abbrev hiB(a b out:Array Keyed)(na nb mg ac bc:Nat):StateT SortSt Sem (ForInStep GH):=do
 let y ← elem' b (nb-1)
 if(nb-1 == 1)=true then pure (.done (some (U6 a b (out.push y) na (nb-1)),na,nb-1,out.push y,mg,ac,bc))
 else do
  let x ← elem' a (na-1)
  let r ← A6 true x b 0 (nb-1) (nb-1-1)
  match r with
  | some i =>
   if nb-1-i > 0 then
    (if(i == 1)=true then pure (.done (some (U6 a b (out.push y++(b.extract i (nb-1)).reverse) na i),na,i,out.push y++(b.extract i (nb-1)).reverse,mg,ac,nb-1-i))
    else if(i == 0)=true then pure (.done (some (D1 a b (out.push y++(b.extract i (nb-1)).reverse) na i),na,i,out.push y++(b.extract i (nb-1)).reverse,mg,ac,nb-1-i))
    else hiC a b (out.push y++(b.extract i (nb-1)).reverse) na i mg ac (nb-1-i))
   else hiC a b (out.push y) na (nb-1) mg ac (nb-1-i)
  | _=>pure (.done (some (D1 a b (out.push y) na (nb-1)),na,nb-1,out.push y,mg,ac,bc))
abbrev hiA(a b out:Array Keyed)(na nb mg ac bc:Nat):StateT SortSt Sem (ForInStep GH):=do
 let y ← elem' b (nb-1)
 let r ← A6 false y a 0 na (na-1)
 match r with
 | some i =>
  if na-i > 0 then
   (if(i == 0)=true then pure (.done (some (D1 a b (out++(a.extract i na).reverse) i nb),i,nb,out++(a.extract i na).reverse,mg,na-i,bc))
   else hiB a b (out++(a.extract i na).reverse) i nb mg (na-i) bc)
  else hiB a b out na nb mg (na-i) bc
 | _=>pure (.done (some (D1 a b out na nb),na,nb,out,mg,ac,bc))
section
variable {prog:Program}{w:World}{A:Around}{E:Value→Shared→Prop}{s:Shared}{κ:SortKind}{lt:Keyed→Keyed→Bool}{Dm:Keyed→Prop}{a b out:Array Keyed}{na nb mg ac bc p0:Nat}{st0 st:SortSt}
def PHi(lt:Keyed→Keyed→Bool)(a b:Array Keyed)(p0:Nat)(st0:SortSt):ForInStep GH→SortSt→Prop
 | .done c,st'=>SameG st0 st'∧((∃r,c.1=some r∧l9 lt a.toList b.toList r.toList)∨(c.1=none∧MH lt a b c.2.2.2.1 c.2.1 c.2.2.1∧c.2.1+c.2.2.1≤p0))
 | .yield c,st'=>SameG st0 st'∧c.1=none∧MH lt a b c.2.2.2.1 c.2.1 c.2.2.1∧c.2.1+c.2.2.1≤p0
theorem b1I(P:MPh lt Dm a b)(hg:SameG st0 st)(m:MH lt a b out na nb)(hp:na+nb≤p0)(hle:∀x y,a.toList[na-1]? = some x→b.toList[nb-1]? = some y→lt x y=false):wpS (model prog w) A E s (hiC a b out na nb mg ac bc) (PHi lt a b p0 st0) st:=by
 have la:=m.la
 have lb:=m.lb
 obtain⟨x,hx,hxl,_⟩:=t7 (a:=a) (i:=na-1) (by omega)
 have mr:=a7N P la.1 lb.2 (by omega) m.mr hxl (fun y hy=>hle x y hxl hy)
 refine wpS_bind (m9 hx ?_)
 by_cases z:(na-1 == 0)=true
 ·rw[if_pos z]
  exact wpS_pure ⟨hg,.inl ⟨_,rfl,MH.good_doneA P mr (by simpa using z)⟩⟩
 ·rw[if_neg z]
  have z':na-1≠0:=by simpa using z
  have m':MH lt a b (out.push x) (na-1) nb:=⟨⟨by omega,by omega⟩,lb,mr⟩
  split
  ·exact wpS_pure ⟨hg,.inr ⟨rfl,m',by show na-1+nb≤p0;omega⟩⟩
  ·exact wpS_pure ⟨hg,rfl,m',by show na-1+nb≤p0;omega⟩
theorem b1J(C:x8 prog w A s κ lt Dm)(P:MPh lt Dm a b)(hk:kindOf st=κ)(hg:SameG st0 st)(m:MH lt a b out na nb)(hp:na+nb≤p0)(hle:∀x y,a.toList[na-1]? = some x→b.toList[nb-1]? = some y→lt y x=false):wpS (model prog w) A E s (hiB a b out na nb mg ac bc) (PHi lt a b p0 st0) st:=by
 have la:=m.la
 have lb:=m.lb
 obtain⟨y,hy,hyl,_⟩:=t7 (a:=b) (i:=nb-1) (by omega)
 obtain⟨x,hx,hxl,mx⟩:=t7 (a:=a) (i:=na-1) (by omega)
 have mr:=b1E P (by omega) la.2 la.1 m.mr hyl (fun x hx=>hle x y hx hyl)
 have dx:=P.da x mx
 refine wpS_bind (m9 hy ?_)
 by_cases z:(nb-1 == 1)=true
 ·rw[if_pos z]
  exact wpS_pure ⟨hg,.inl ⟨_,rfl,MH.good_first P (by omega) mr (by simpa using z)⟩⟩
 ·rw[if_neg z]
  have z':nb-1≠1:=by simpa using z
  refine wpS_bind (m9 hx (wpS_bind ?_))
  have at_:∀i,i<nb-1→∃v,b[0+i]? = some v∧b.toList[i]? = some v∧v∈b.toList:=fun i hi=>by
   rw[Nat.zero_add];exact t7 (by omega)
  refine J4 C hk dx (by omega) (fun i=>lt ((b.toList[i]?).getD x) x) (fun i hi=>?_) (fun i j hij hj hb=>?_) fun k hk1 hk2 hk3=>?_
  ·obtain⟨v,h1,h2,h3⟩:=at_ i hi
   exact⟨v,h1,P.db v h3,by rw[h2];rfl⟩
  ·obtain⟨v,h1,h2,h3⟩:=at_ i (by omega)
   obtain⟨u,u1,u2,u3⟩:=at_ j hj
   rw[u2]at hb
   rw[h2]
   show lt v x=true
   cases q:lt v x with
   | true=>rfl
   | false =>
    have:=P.T.tr x v u dx (P.db v h3) (P.db u u3) q (r8 P.T P.db P.sb (by omega) h2 u2)
    have hb:lt u x=true:=hb
    rw[this]at hb;cases hb
  ·dsimp only
   have low:∀j v,j<k→b.toList[j]? = some v→lt x v=false:=fun j v hj hv=>by
    have:=hk2 j hj
    rw[hv]at this
    exact P.T.asy _ _ (P.db v (List.mem_of_getElem? hv)) dx this
   have high:∀j v,k≤j→j<nb-1→b.toList[j]? = some v→lt v x=false:=fun j v h1 h2 hv=>by
    have:=hk3 j h1 h2
    rw[hv]at this
    exact this
   by_cases k0:nb-1-k > 0
   ·rw[if_pos k0]
    have mr2:=b2P P hk1 mr hxl la.1 high
    by_cases y1:(k == 1)=true
    ·rw[if_pos y1]
     exact wpS_pure ⟨hg,.inl ⟨_,rfl,MH.good_first P (by omega) mr2 (by simpa using y1)⟩⟩
    ·rw[if_neg y1]
     have y1':k≠1:=by simpa using y1
     by_cases y2:(k == 0)=true
     ·rw[if_pos y2]
      exact wpS_pure ⟨hg,.inl ⟨_,rfl,MH.good_doneB P mr2 (by simpa using y2)⟩⟩
     ·rw[if_neg y2]
      have y2':k≠0:=by simpa using y2
      exact b1I P hg ⟨la,⟨by omega,by omega⟩,mr2⟩ (by omega) fun x' y' e1 e2=>by
       rw[hxl]at e1;cases e1
       exact low _ y' (by omega) e2
   ·rw[if_neg k0]
    have e0:k=nb-1:=by omega
    subst e0
    exact b1I P hg ⟨la,⟨by omega,by omega⟩,mr⟩ (by omega) fun x' y' e1 e2=>by
     rw[hxl]at e1;cases e1
     exact low _ y' (by omega) e2
theorem b1K(C:x8 prog w A s κ lt Dm)(P:MPh lt Dm a b)(hk:kindOf st=κ)(hg:SameG st0 st)(m:MH lt a b out na nb)(hp:na+nb≤p0):wpS (model prog w) A E s (hiA a b out na nb mg ac bc) (PHi lt a b p0 st0) st:=by
 have la:=m.la
 have lb:=m.lb
 obtain⟨y,hy,hyl,my⟩:=t7 (a:=b) (i:=nb-1) (by omega)
 have dy:=P.db y my
 refine wpS_bind (m9 hy (wpS_bind ?_))
 have at_:∀i,i<na→∃v,a[0+i]? = some v∧a.toList[i]? = some v∧v∈a.toList:=fun i hi=>by
  rw[Nat.zero_add];exact t7 (by omega)
 refine J4 C hk dy (by omega) (fun i=>!lt y ((a.toList[i]?).getD y)) (fun i hi=>?_) (fun i j hij hj hb=>?_) fun k hk1 hk2 hk3=>?_
 ·obtain⟨v,h1,h2,h3⟩:=at_ i hi
  exact⟨v,h1,P.da v h3,by rw[h2];rfl⟩
 ·obtain⟨v,h1,h2,h3⟩:=at_ i (by omega)
  obtain⟨u,u1,u2,u3⟩:=at_ j hj
  rw[u2]at hb
  rw[h2]
  have hb:(!lt y u)=true:=hb
  have hb':lt y u=false:=by simpa using hb
  show(!lt y v)=true
  rw[P.T.tr v u y (P.da v h3) (P.da u u3) dy (r8 P.T P.da P.sa (by omega) h2 u2) hb']
  rfl
 ·dsimp only
  have low:∀j v,j<k→a.toList[j]? = some v→lt y v=false:=fun j v hj hv=>by
   have:=hk2 j hj
   rw[hv]at this
   have this:(!lt y v)=true:=this
   simpa using this
  have high:∀j v,k≤j→j<na→a.toList[j]? = some v→lt v y=false:=fun j v h1 h2 hv=>by
   have:=hk3 j h1 h2
   rw[hv]at this
   have this:(!lt y v)=false:=this
   exact P.T.asy _ _ dy (P.da v (List.mem_of_getElem? hv)) (by simpa using this)
  by_cases k0:na-k > 0
  ·rw[if_pos k0]
   have mr2:=b2O P hk1 m.mr hyl (by omega) high
   by_cases y2:(k == 0)=true
   ·rw[if_pos y2]
    exact wpS_pure ⟨hg,.inl ⟨_,rfl,MH.good_doneA P mr2 (by simpa using y2)⟩⟩
   ·rw[if_neg y2]
    have y2':k≠0:=by simpa using y2
    exact b1J C P hk hg ⟨⟨by omega,by omega⟩,lb,mr2⟩ (by omega) fun x' y' e1 e2=>by
     rw[hyl]at e2;cases e2
     exact low _ x' (by omega) e1
  ·rw[if_neg k0]
   have e0:k=na:=by omega
   subst e0
   exact b1J C P hk hg m (by omega) fun x' y' e1 e2=>by
    rw[hyl]at e2;cases e2
    exact low _ x' (by omega) e1
abbrev S2:=Option (Array Keyed)×Nat×Nat×Array Keyed×Nat×Nat
theorem a4J{Q:Array Keyed→SortSt→Prop}(C:x8 prog w A s κ lt Dm)(P:MPh lt Dm a b)(hk:kindOf st=κ)(ha:1≤a.size)(hb:1≤b.size)(h0:∀x y,a.toList[a.size-1]? = some x→b.toList[b.size-1]? = some y→lt x y=false)
  (h:∀r st',SameG st st'→l9 lt a.toList b.toList r.toList→Q r st'):wpS (model prog w) A E s (a1t a b) Q st:=by
 rw[a4I]
 refine wpS_bind (wpS_lift (wpAny_rule ⟨rfl,?_⟩))
 obtain⟨x,hx,hxl,mx⟩:=t7 (a:=a) (i:=a.size-1) (by omega)
 refine wpS_bind (m9 hx ?_)
 dsimp only
 have m0:MR lt a.toList b.toList (#[]:Array Keyed).toList.reverse (a.toList.take a.size) (b.toList.take b.size):=⟨⟨[],[],by rw[List.take_of_length_le (by rw[Array.length_toList];exact Nat.le_refl _),List.append_nil],by rw[List.take_of_length_le (by rw[Array.length_toList];exact Nat.le_refl _),List.append_nil],.refl _⟩,.nil,fun x hx=>absurd hx List.not_mem_nil,fun x hx=>absurd hx List.not_mem_nil⟩
 have m1:MR lt a.toList b.toList (#[x]:Array Keyed).toList.reverse (a.toList.take (a.size-1)) (b.toList.take b.size):=a7N (out := #[]) P (by omega) (Nat.le_refl _) (by omega) m0 hxl fun y hy=>h0 x y hxl hy
 by_cases z:(a.size-1 == 0)=true
 ·rw[if_pos z]
  exact wpS_pure (h _ _ (.refl _) (MH.good_doneA P m1 (by simpa using z)))
 rw[if_neg z]
 have z':a.size-1≠0:=by simpa using z
 by_cases z2:(b.size == 1)=true
 ·rw[if_pos z2]
  exact wpS_pure (h _ _ (.refl _) (MH.good_first P (by omega) m1 (by simpa using z2)))
 rw[if_neg z2]
 have z2':b.size≠1:=by simpa using z2
 refine wpS_bind (wpS_get ?_)
 refine wpS_bind (Q2 (fun(i:Nat) (c:Option (Array Keyed)×Nat×Nat×Array Keyed×Nat) st'=>c.1=none∧SameG st st'∧MH lt a b c.2.2.2.1 c.2.1 c.2.2.1∧c.2.1+c.2.2.1+i+1≤a.size+b.size)
  (fun(c:Option (Array Keyed)×Nat×Nat×Array Keyed×Nat) st'=>∃r,c.1=some r∧SameG st st'∧l9 lt a.toList b.toList r.toList) ?_ ?_ ⟨rfl,.refl _,⟨⟨by show 0<a.size-1;omega,by show a.size-1≤a.size;omega⟩,⟨by show 1<b.size;omega,Nat.le_refl _⟩,m1⟩,by show a.size-1+b.size+0+1≤a.size+b.size;omega⟩ ?_)
 ·rintro i ⟨c0,na,nb,out,mg⟩ st1 hi ⟨e0,hg,m,hp⟩
  dsimp only at *
  refine wpS_bind (Q2 (fun(j:Nat) (c:S2) st'=>c.1=none∧SameG st st'∧MH lt a b c.2.2.2.1 c.2.1 c.2.2.1∧c.2.1+c.2.2.1+j≤na+nb)
   (fun(c:S2) st'=>SameG st st'∧((∃r,c.1=some r∧l9 lt a.toList b.toList r.toList)∨(c.1=none∧MH lt a b c.2.2.2.1 c.2.1 c.2.2.1∧c.2.1+c.2.2.1+1≤na+nb))) ?_ ?_ ⟨rfl,hg,m,Nat.le_refl _⟩ ?_)
  ·rintro j ⟨d0,ja,jb,out',ac,bc⟩ st2 hj ⟨f0,hg2,m2,hp2⟩
   dsimp only at *
   have hla:=m2.la
   have hlb:=m2.lb
   obtain⟨y2,hy2,hyl2,my2⟩:=t7 (a:=b) (i:=jb-1) (by omega)
   obtain⟨x2,hx2,hxl2,mx2⟩:=t7 (a:=a) (i:=ja-1) (by omega)
   refine wpS_bind (m9 hy2 (wpS_bind (m9 hx2 (wpS_bind (a0x C (hg2.1.trans hk) (P.db _ my2) (P.da _ mx2) ?_)))))
   dsimp only
   cases bw:lt y2 x2 with
   | true =>
    rw[if_pos rfl]
    have mr:=a7N P hla.1 hlb.2 (by omega) m2.mr hxl2 (fun y hy=>by rw[hyl2]at hy;cases hy;exact P.T.asy _ _ (P.db _ my2) (P.da _ mx2) bw)
    refine wpS_bind (m9 hx2 ?_)
    by_cases q:(ja-1 == 0)=true
    ·rw[if_pos q]
     exact wpS_pure ⟨hg2,.inl ⟨_,rfl,MH.good_doneA P mr (by simpa using q)⟩⟩
    ·rw[if_neg q]
     have q':ja-1≠0:=by simpa using q
     have m3:MH lt a b (out'.push x2) (ja-1) jb:=⟨⟨by omega,by omega⟩,hlb,mr⟩
     split
     ·exact wpS_pure ⟨hg2,.inr ⟨rfl,m3,by show ja-1+jb+1≤na+nb;omega⟩⟩
     ·exact wpS_pure ⟨rfl,hg2,m3,by show ja-1+jb+(j+1)≤na+nb;omega⟩
   | false =>
    rw[if_neg (by simp)]
    have mr:=b1E P (by omega) hla.2 hla.1 m2.mr hyl2 (fun x hx=>by rw[hxl2]at hx;cases hx;exact bw)
    refine wpS_bind (m9 hy2 ?_)
    by_cases q:(jb-1 == 1)=true
    ·rw[if_pos q]
     exact wpS_pure ⟨hg2,.inl ⟨_,rfl,MH.good_first P (by omega) mr (by simpa using q)⟩⟩
    ·rw[if_neg q]
     have q':jb-1≠1:=by simpa using q
     have m3:MH lt a b (out'.push y2) ja (jb-1):=⟨hla,⟨by omega,by omega⟩,mr⟩
     split
     ·exact wpS_pure ⟨hg2,.inr ⟨rfl,m3,by show ja+(jb-1)+1≤na+nb;omega⟩⟩
     ·exact wpS_pure ⟨rfl,hg2,m3,by show ja+(jb-1)+(j+1)≤na+nb;omega⟩
  ·rintro⟨d0,ja,jb,out',ac,bc⟩ st2 ⟨f0,hg2,m2,hp2⟩
   dsimp only at *
   exact⟨hg2,.inr ⟨f0,m2,by show ja+jb+1≤na+nb;omega⟩⟩
  ·rintro⟨d0,ja,jb,out',ac,bc⟩ st2 ⟨hg2,⟨r,f0,gr⟩ | ⟨f0,m2,hp2⟩⟩
   ·have f0:d0=some r:=f0
    subst f0
    exact wpS_pure ⟨r,rfl,hg2,gr⟩
   ·have f0:d0=none:=f0
    have hp2:ja+jb+1≤na+nb:=hp2
    subst f0
    refine wpS_bind (wpS_lift (wpAny_rule ⟨rfl,?_⟩))
    refine wpS_bind (Q2 (fun(j:Nat) (c:GH) st'=>SameG st st'∧c.1=none∧MH lt a b c.2.2.2.1 c.2.1 c.2.2.1∧c.2.1+c.2.2.1≤ja+jb)
     (fun(c:GH) st'=>SameG st st'∧((∃r,c.1=some r∧l9 lt a.toList b.toList r.toList)∨(c.1=none∧MH lt a b c.2.2.2.1 c.2.1 c.2.2.1∧c.2.1+c.2.2.1≤ja+jb))) ?_ ?_ ⟨hg2,rfl,m2,Nat.le_refl _⟩ ?_)
    ·rintro j ⟨g0,ka,kb,out2,mg2,ac2,bc2⟩ st3 hj ⟨hg3,f0,m3,hp3⟩
     refine a30 (fun _=>?_) (fun _=>?_)
     ·refine wpS_bind (smg fun st4 g4=>?_)
      exact wpS_mono (b1K (mg:=mg2-1) (ac:=ac2) (bc:=bc2) C P ((hg3.trans g4).1.trans hk) (hg3.trans g4) m3 hp3) (fun r st' q=>by cases r<;>exact q)
     ·refine wpS_bind (smg fun st4 g4=>?_)
      exact wpS_mono (b1K (mg:=mg2) (ac:=ac2) (bc:=bc2) C P ((hg3.trans g4).1.trans hk) (hg3.trans g4) m3 hp3) (fun r st' q=>by cases r<;>exact q)
    ·rintro⟨g0,ka,kb,out2,mg2,ac2,bc2⟩ st3 ⟨hg3,f0,m3,hp3⟩
     exact⟨hg3,.inr ⟨f0,m3,hp3⟩⟩
    ·rintro⟨g0,ka,kb,out2,mg2,ac2,bc2⟩ st3 ⟨hg3,⟨r,f0,gr⟩ | ⟨f0,m3,hp3⟩⟩
     ·have f0:g0=some r:=f0
      subst f0
      exact wpS_pure ⟨r,rfl,hg3,gr⟩
     ·have f0:g0=none:=f0
      have hp3:ka+kb≤ja+jb:=hp3
      subst f0
      refine wpS_bind (smg fun st4 g4=>?_)
      exact wpS_pure ⟨rfl,hg3.trans g4,m3,by show ka+kb+(i+1)+1≤a.size+b.size;omega⟩
 ·rintro⟨c0,na,nb,out,mg⟩ st1 ⟨e0,hg,m,hp⟩
  exfalso
  have h1:=m.la
  have h2:=m.lb
  dsimp only at *
  omega
 ·rintro⟨c0,na,nb,out,mg⟩ st1 ⟨r,e0,hg,gr⟩
  dsimp only at *
  subst e0
  exact wpS_pure (h r st1 hg gr)
end
theorem a4K(i:Nat):mergeAt' i=(do
 let s ← get
 let (some (sa,na,power),some (sb,nb,_)):=((pendingOf s)[i]?,(pendingOf s)[i+1]?) | unsupported "internal:list.sort.pending"
 set (setPending s (((pendingOf s).setIfInBounds i (sa,na+nb,power)).eraseIdxIfInBounds (i+1)))
 let some k ← A6 false (← elem' (arrOf s) sb) (arrOf s) sa na 0 | return false
 let (sa,na):=(sa+k,na-k)
 if na == 0 then return true
 let some nb ← A6 true (← elem' (arrOf s) (sa+na-1)) (arrOf s) sb nb (nb-1) | return false
 if nb == 0 then return true
 let x:=(arrOf s).extract sa sb
 let y:=(arrOf s).extract sb (sb+nb)
 let merged ← if na≤nb then a1s x y else a1t x y
 modify fun s=>setArr s (merged.toList.zipIdx.foldl (fun a (p,j)=>a.setIfInBounds (sa+j) p) (arrOf s))
 return (failedOf (← get)).isNone):=rfl
theorem a31(o:Nat):∀(m:List Keyed) (n:Nat) (arr:Array Keyed),o+n+m.length≤arr.size→((m.zipIdx n).foldl (fun a (q:Keyed×Nat)=>a.setIfInBounds (o+q.2) q.1) arr).toList=arr.toList.take (o+n)++m++arr.toList.drop (o+n+m.length)
 | [],n,arr,h=>by simp
 | p::m,n,arr,h=>by
  rw[List.length_cons]at h
  rw[List.zipIdx_cons,List.foldl_cons]
  have ih:=a31 o m (n+1) (arr.setIfInBounds (o+n) p) (by rw[Array.size_setIfInBounds];omega)
  rw[ih,Array.toList_setIfInBounds]
  have hl:o+n<arr.toList.length:=by rw[Array.length_toList];omega
  have e1:(arr.toList.set (o+n) p).take (o+(n+1))=arr.toList.take (o+n)++[p]:=by
   rw[show o+(n+1)=(o+n)+1 by omega]
   exact(List.take_add_one).trans (by rw[List.getElem?_set_self hl,List.take_set_of_le (Nat.le_refl _)];rfl)
  have e2:(arr.toList.set (o+n) p).drop (o+(n+1)+m.length)=arr.toList.drop (o+n+(m.length+1)):=by
   rw[List.drop_set_of_lt (by omega),show o+(n+1)+m.length=o+n+(m.length+1) by omega]
  rw[e1,e2,List.length_cons]
  simp
section
variable {prog:Program}{w:World}{A:Around}{E:Value→Shared→Prop}{s:Shared}{κ:SortKind}{lt:Keyed→Keyed→Bool}{Dm:Keyed→Prop}{st:SortSt}
theorem a32{arr:Array Keyed}{p u q:List Keyed}{i j:Nat}(e:arr.toList=p++u++q)(hi:p.length=i)(hj:i+u.length=j):(arr.extract i j).toList=u:=by
 rw[a1u,e,List.append_assoc,← hi,List.drop_left',← hj]
 ·rw[show i+u.length-p.length=u.length by omega,List.take_left']
  rfl
 ·rfl
theorem Srt.right{l m:List Keyed}(h:Srt lt (l++m)):Srt lt m:=(List.pairwise_append.mp h).2.1
theorem a6t{arr:Array Keyed}{p u q:List Keyed}{i j:Nat}(e:arr.toList=p++u++q)(hi:p.length=i)(hj:j<u.length):arr[i+j]? = some u[j]:=by
 have h1:arr.toList[i+j]? = some u[j]:=by
  rw[e,List.append_assoc,List.getElem?_append_right (by omega),show i+j-p.length=j by omega,List.getElem?_append_left hj,List.getElem?_eq_getElem hj]
 rw[← Array.getElem?_toList]
 exact h1
theorem a4L{Q:Bool→SortSt→Prop}{i sa na sb nb pw pw':Nat}{pre U V post:List Keyed}(C:x8 prog w A s κ lt Dm)(T:TPK lt Dm)(hk:kindOf st=κ)(hf:failedOf st=none)
  (hp1:(pendingOf st)[i]? = some (sa,na,pw)) (hp2:(pendingOf st)[i+1]? = some (sb,nb,pw')) (e:(arrOf st).toList=pre++U++(V++post)) (l0:pre.length=sa) (l1:U.length=na) (l2:V.length=nb) (hsb:sa+na=sb) (ha:1≤na) (hb:1≤nb)
  (dU:∀x∈U,Dm x) (dV:∀x∈V,Dm x) (sU:Srt lt U) (sV:Srt lt V)
  (h:∀(arr':Array Keyed) (g:Nat) (W:List Keyed),W.Perm (U++V)→Srt lt W→arr'.toList=pre++W++post→Q true (SortSt.mk' κ arr' (((pendingOf st).setIfInBounds i (sa,na+nb,pw)).eraseIdxIfInBounds (i+1)) g none)) :
  wpS (model prog w) A E s (mergeAt' i) Q st:=by
 rw[a4K]
 refine wpS_bind (wpS_get ?_)
 rw[hp1,hp2]
 dsimp only
 refine wpS_bind (wpS_modify (f:=fun _=>setPending st (((pendingOf st).setIfInBounds i (sa,na+nb,pw)).eraseIdxIfInBounds (i+1))) ?_)
 have e':(arrOf st).toList=(pre++U)++V++post:=by rw[e];simp
 have lU:(pre++U).length=sb:=by rw[List.length_append];omega
 have aU:∀j (hj:j<U.length),(arrOf st)[sa+j]? = some U[j]:=fun j hj=>a6t e l0 hj
 have aV:∀j (hj:j<V.length),(arrOf st)[sb+j]? = some V[j]:=fun j hj=>a6t e' lU hj
 have hV0:0<V.length:=by omega
 have hUl:U.length-1<U.length:=by omega
 have dy:Dm V[0]:=dV _ (List.getElem_mem hV0)
 have dl:Dm U[U.length-1]:=dU _ (List.getElem_mem hUl)
 have done:∀st',SameG (setPending st (((pendingOf st).setIfInBounds i (sa,na+nb,pw)).eraseIdxIfInBounds (i+1))) st'→Srt lt (U++V)→Q true st':=fun st' g hs=>by
  have:=h (arrOf st) (gallopOf st') (U++V) (.refl _) hs (by rw[e];simp)
  obtain⟨g1,g2,g3,g4⟩:=g
  have e5:st'=SortSt.mk' κ (arrOf st) (((pendingOf st).setIfInBounds i (sa,na+nb,pw)).eraseIdxIfInBounds (i+1)) (gallopOf st') none:=by
   have a1:kindOf st'=κ:=g1.trans hk
   have a2:arrOf st'=arrOf st:=g2
   have a3:pendingOf st'=(((pendingOf st).setIfInBounds i (sa,na+nb,pw)).eraseIdxIfInBounds (i+1)):=g3
   have a4:failedOf st'=none:=g4.trans hf
   rw[← a1,← a2,← a3,← a4]
  rw[e5]
  exact this
 have x0:=aV 0 hV0
 rw[Nat.add_zero]at x0
 refine wpS_bind (m9 x0 (wpS_bind ?_))
 refine J4 C hk dy (by omega) (fun j=>!lt V[0] (U[j]?.getD V[0])) (fun j hj=>?_) (fun j k hjk hkn hb=>?_) fun k hk1 hk2 hk3=>?_
 ·have hj':j<U.length:=by omega
  exact⟨U[j],aU j hj',dU _ (List.getElem_mem hj'),by rw[List.getElem?_eq_getElem hj'];rfl⟩
 ·have hk':k<U.length:=by omega
  have hj':j<U.length:=by omega
  rw[List.getElem?_eq_getElem hk']at hb
  rw[List.getElem?_eq_getElem hj']
  have hb:(!lt V[0] U[k])=true:=hb
  have hb':lt V[0] U[k]=false:=by simpa using hb
  show(!lt V[0] U[j])=true
  rw[T.tr U[j] U[k] V[0] (dU _ (List.getElem_mem hj')) (dU _ (List.getElem_mem hk')) dy (r8 T dU sU hjk (List.getElem?_eq_getElem hj') (List.getElem?_eq_getElem hk')) hb']
  rfl
 dsimp only
 have low:∀j x,j<k→U[j]? = some x→lt V[0] x=false:=fun j x hj hx=>by
  have:=hk2 j hj
  rw[hx]at this
  have this:(!lt V[0] x)=true:=this
  simpa using this
 have high:∀j x,k≤j→U[j]? = some x→lt V[0] x=true:=fun j x hj hx=>by
  have hjl:=(List.getElem?_eq_some_iff.mp hx).1
  have:=hk3 j hj (by omega)
  rw[hx]at this
  have this:(!lt V[0] x)=false:=this
  simpa using this
 have v0:V[0]? = some V[0]:=List.getElem?_eq_getElem hV0
 by_cases z1:(na-k == 0)=true
 ·rw[if_pos z1]
  have z1':na-k=0:=by simpa using z1
  refine wpS_pure (done _ (.refl _) (sU.app sV fun x hx y hy=>?_))
  obtain⟨j,hj⟩:=List.mem_iff_getElem?.mp hx
  obtain⟨j2,hj2⟩:=List.mem_iff_getElem?.mp hy
  have hjl:=(List.getElem?_eq_some_iff.mp hj).1
  exact T.tr _ _ _ (dU x hx) dy (dV y hy) (low j x (by omega) hj) (r8 T dV sV (Nat.zero_le _) v0 hj2)
 rw[if_neg z1]
 have z1':na-k≠0:=by simpa using z1
 have ul:U[U.length-1]? = some U[U.length-1]:=List.getElem?_eq_getElem hUl
 have xl:=aU (U.length-1) hUl
 rw[show sa+(U.length-1)=sa+k+(na-k)-1 by omega]at xl
 refine wpS_bind (m9 xl (wpS_bind ?_))
 refine J4 C hk dl (by omega) (fun j=>lt (V[j]?.getD U[U.length-1]) U[U.length-1]) (fun j hj=>?_) (fun j k hjk hkn hb=>?_) fun n hn1 hn2 hn3=>?_
 ·have hj':j<V.length:=by omega
  exact⟨V[j],aV j hj',dV _ (List.getElem_mem hj'),by rw[List.getElem?_eq_getElem hj'];rfl⟩
 ·have hk':k<V.length:=by omega
  have hj':j<V.length:=by omega
  rw[List.getElem?_eq_getElem hk']at hb
  rw[List.getElem?_eq_getElem hj']
  have hb:lt V[k] U[U.length-1]=true:=hb
  show lt V[j] U[U.length-1]=true
  cases q:lt V[j] U[U.length-1]with
  | true=>rfl
  | false =>
   have:=T.tr _ V[j] V[k] dl (dV _ (List.getElem_mem hj')) (dV _ (List.getElem_mem hk')) q (r8 T dV sV hjk (List.getElem?_eq_getElem hj') (List.getElem?_eq_getElem hk'))
   rw[this]at hb;cases hb
 dsimp only
 have vlow:∀j y,j<n→V[j]? = some y→lt y U[U.length-1]=true:=fun j y hj hy=>by
  have:=hn2 j hj
  rw[hy]at this
  exact this
 have vhigh:∀j y,n≤j→V[j]? = some y→lt y U[U.length-1]=false:=fun j y hj hy=>by
  have hjl:=(List.getElem?_eq_some_iff.mp hy).1
  have:=hn3 j hj (by omega)
  rw[hy]at this
  exact this
 have ulast:∀x∈U,lt U[U.length-1] x=false:=fun x hx=>by
  obtain⟨j,hj⟩:=List.mem_iff_getElem?.mp hx
  have hjl:=(List.getElem?_eq_some_iff.mp hj).1
  exact r8 T dU sU (by omega) hj ul
 by_cases z2:(n == 0)=true
 ·rw[if_pos z2]
  have z2':n=0:=by simpa using z2
  refine wpS_pure (done _ (.refl _) (sU.app sV fun x hx y hy=>?_))
  obtain⟨j2,hj2⟩:=List.mem_iff_getElem?.mp hy
  exact T.tr _ _ _ (dU x hx) dl (dV y hy) (ulast x hx) (vhigh j2 y (by omega) hj2)
 rw[if_neg z2]
 have z2':n≠0:=by simpa using z2
 -- the parts
 have eU:U=U.take k++U.drop k:=(List.take_append_drop k U).symm
 have eV:V=V.take n++V.drop n:=(List.take_append_drop n V).symm
 have lk:(U.take k).length=k:=by rw[List.length_take];omega
 have ld:(U.drop k).length=na-k:=by rw[List.length_drop];omega
 have ln:(V.take n).length=n:=by rw[List.length_take];omega
 have exl:(arrOf st).toList=(pre++U.take k)++U.drop k++(V++post):=by
  rw[List.append_assoc pre (U.take k) (U.drop k),List.take_append_drop]
  exact e
 have eyl:(arrOf st).toList=(pre++U)++V.take n++(V.drop n++post):=by
  rw[List.append_assoc (pre++U) (V.take n),← List.append_assoc (V.take n),List.take_append_drop]
  exact e
 have ex:((arrOf st).extract (sa+k) sb).toList=U.drop k:=a32 exl (by rw[List.length_append,l0,lk]) (by rw[ld];omega)
 have ey:((arrOf st).extract sb (sb+n)).toList=V.take n:=a32 eyl lU (by rw[ln])
 have d2U:∀x∈U.drop k,Dm x:=fun x hx=>dU x (List.mem_of_mem_drop hx)
 have d2V:∀x∈V.take n,Dm x:=fun x hx=>dV x (List.mem_of_mem_take hx)
 have gtU:∀x∈U.drop k,lt V[0] x=true:=fun x hx=>by
  obtain⟨j,hj,e⟩:=z7 hx
  exact high j x hj e
 have ltV:∀y∈V.take n,lt y U[U.length-1]=true:=fun y hy=>by
  obtain⟨j,hj,e⟩:=u9 hy
  exact vlow j y hj e
 have xlast:(U.drop k)[(U.drop k).length-1]? = some U[U.length-1]:=by
  rw[List.getElem?_drop,ld,show k+(na-k-1)=U.length-1 by omega];exact ul
 have yfst:(V.take n)[0]? = some V[0]:=by rw[List.getElem?_take_of_lt (by omega)];exact v0
 have sx:((arrOf st).extract (sa+k) sb).size=(U.drop k).length:=by rw[← Array.length_toList,ex]
 have sy:((arrOf st).extract sb (sb+n)).size=(V.take n).length:=by rw[← Array.length_toList,ey]
 have fin:∀(r:Array Keyed) (st':SortSt),SameG (setPending st (((pendingOf st).setIfInBounds i (sa,na+nb,pw)).eraseIdxIfInBounds (i+1))) st'→l9 lt ((arrOf st).extract (sa+k) sb).toList ((arrOf st).extract sb (sb+n)).toList r.toList →
   wpS (model prog w) A E s (do
    modify fun s=>setArr s (r.toList.zipIdx.foldl (fun a (p,j)=>a.setIfInBounds (sa+k+j) p) (arrOf s))
    let __do_lift ← get
    pure (failedOf __do_lift).isNone) Q st':=fun r st' g ⟨gp,gs⟩=>by
  rw[ex,ey]at gp
  obtain⟨g1,g2,g3,g4⟩:=g
  refine wpS_bind (wpS_modify ?_)
  refine wpS_bind (wpS_get (wpS_pure ?_))
  have hrl:r.toList.length=(na-k)+n:=by rw[gp.length_eq,List.length_append,ld,ln]
  have hsz:(arrOf st).size=sa+na+(nb+post.length):=by
   rw[← Array.length_toList,e];simp only[List.length_append];omega
  have fs:=a31 (sa+k) r.toList 0 (arrOf st) (by rw[hrl];omega)
  have e1:(arrOf st).toList.take (sa+k+0)=pre++U.take k:=by
   rw[Nat.add_zero,e,List.append_assoc,List.take_append,l0,show sa+k-sa=k by omega,List.take_of_length_le (by omega),List.take_append,show k-U.length=0 by omega,List.take_zero,List.append_nil]
  have e2:(arrOf st).toList.drop (sa+k+0+r.toList.length)=V.drop n++post:=by
   rw[hrl,show sa+k+0+(na-k+n)=sb+n by omega,e',List.append_assoc,List.drop_append,lU,show sb+n-sb=n by omega,List.drop_eq_nil_of_le (by omega),List.nil_append,List.drop_append,show n-V.length=0 by omega,List.drop_zero]
  rw[e1,e2]at fs
  have hW:=h ((r.toList.zipIdx.foldl (fun a (q:Keyed×Nat)=>a.setIfInBounds (sa+k+q.2) q.1) (arrOf st))) (gallopOf st') (U.take k++r.toList++V.drop n) ?_ ?_ ?_
  ·have e5:setArr st' (r.toList.zipIdx.foldl (fun a (q:Keyed×Nat)=>a.setIfInBounds (sa+k+q.2) q.1) (arrOf st'))=SortSt.mk' κ (r.toList.zipIdx.foldl (fun a (q:Keyed×Nat)=>a.setIfInBounds (sa+k+q.2) q.1) (arrOf st)) (((pendingOf st).setIfInBounds i (sa,na+nb,pw)).eraseIdxIfInBounds (i+1)) (gallopOf st') none:=by
    have a1:kindOf st'=κ:=g1.trans hk
    have a2:arrOf st'=arrOf st:=g2
    have a3:pendingOf st'=_:=g3
    have a4:failedOf st'=none:=g4.trans hf
    show SortSt.mk' (kindOf st') _ (pendingOf st') (gallopOf st') (failedOf st')=_
    rw[a1,a2,a3,a4]
   have e6:(failedOf (setArr st' (r.toList.zipIdx.foldl (fun a (q:Keyed×Nat)=>a.setIfInBounds (sa+k+q.2) q.1) (arrOf st')))).isNone=true:=by
    show(failedOf st').isNone=true
    rw[show failedOf st'=none from g4.trans hf];rfl
   show Q (failedOf (setArr st' (r.toList.zipIdx.foldl (fun a (q:Keyed×Nat)=>a.setIfInBounds (sa+k+q.2) q.1) (arrOf st')))).isNone (setArr st' (r.toList.zipIdx.foldl (fun a (q:Keyed×Nat)=>a.setIfInBounds (sa+k+q.2) q.1) (arrOf st')))
   rw[e6,e5]
   exact hW
  ·refine((gp.append_left (U.take k)).append_right (V.drop n)).trans ?_
   have e7:U.take k++(U.drop k++V.take n)++V.drop n=U++V:=by
    rw[← List.append_assoc (U.take k),List.take_append_drop,List.append_assoc,List.take_append_drop]
   rw[e7]
  ·have inR:∀x∈r.toList,x∈U.drop k∨x∈V.take n:=fun x hx=>List.mem_append.mp (gp.mem_iff.mp hx)
   refine Srt.app (Srt.app (sU.take k) gs fun x hx y hy=>?_) (sV.drop n) fun x hx y hy=>?_
   ·obtain⟨j,hj,ej⟩:=u9 hx
    have dx:=dU x (List.mem_of_mem_take hx)
    rcases inR y hy with q | q
    ·obtain⟨j2,hj2,ej2⟩:=z7 q
     exact r8 T dU sU (by omega) ej ej2
    ·obtain⟨j2,hj2,ej2⟩:=u9 q
     exact T.tr _ _ _ dx dy (d2V y q) (low j x hj ej) (r8 T dV sV (Nat.zero_le _) v0 ej2)
   ·obtain⟨j2,hj2,ej2⟩:=z7 hy
    have dY:=dV y (List.mem_of_mem_drop hy)
    rcases List.mem_append.mp hx with hx | hx
    ·have dx:=dU x (List.mem_of_mem_take hx)
     exact T.tr _ _ _ dx dl dY (ulast x (List.mem_of_mem_take hx)) (vhigh j2 y hj2 ej2)
    ·rcases inR x hx with q | q
     ·exact T.tr _ _ _ (d2U x q) dl dY (ulast x (List.mem_of_mem_drop q)) (vhigh j2 y hj2 ej2)
     ·obtain⟨j3,hj3,ej3⟩:=u9 q
      exact r8 T dV sV (by omega) ej3 ej2
  ·show(List.foldl _ (arrOf st) r.toList.zipIdx).toList=_
   refine Eq.trans fs ?_
   simp
 by_cases z3:na-k≤n
 ·rw[if_pos z3]
  refine wpS_bind (a4H C ⟨T,by rw[ex];exact d2U,by rw[ey];exact d2V,by rw[ex];exact sU.drop k,by rw[ey];exact sV.take n,fun y hy x hx=>?_⟩ hk (by rw[sx,ld];omega) (by rw[sy,ln];omega) (fun x y hx hy=>?_) fin)
  ·rw[ey]at hy
   rw[ex,sx,xlast]at hx
   cases hx
   exact T.asy _ _ (d2V y hy) dl (ltV y hy)
  ·rw[ex]at hx
   rw[ey,yfst]at hy
   cases hy
   exact T.asy _ _ dy (d2U x (List.mem_of_getElem? hx)) (gtU x (List.mem_of_getElem? hx))
 ·rw[if_neg z3]
  refine wpS_bind (a4J C ⟨T,by rw[ex];exact d2U,by rw[ey];exact d2V,by rw[ex];exact sU.drop k,by rw[ey];exact sV.take n,fun x hx y hy=>?_⟩ hk (by rw[sx,ld];omega) (by rw[sy,ln];omega) (fun x y hx hy=>?_) fin)
  ·rw[ex]at hx
   rw[ey,yfst]at hy
   cases hy
   exact T.asy _ _ dy (d2U x hx) (gtU x hx)
  ·rw[ex,sx,xlast]at hx
   cases hx
   rw[ey]at hy
   exact T.asy _ _ (d2V y (List.mem_of_getElem? hy)) dl (ltV y (List.mem_of_getElem? hy))
end
theorem a3j(lo nrem:Nat):countRun' lo nrem=(do
 let mut n:=1
 for _ in [1:nrem]do
  let some smaller ← ltAt' (lo+n) (lo+n-1) | return none
  if smaller then break
  n:=n+1
 if n == nrem then return some n
 if n > 1 then
  let some rose ← ltAt' lo (lo+n-1) | return none
  if rose then return some n
  reverseSlice' lo (lo+n)
 rule "list.sort.descending-run"
 n:=n+1
 let mut neq:=0
 for _ in [n:nrem]do
  let some smaller ← ltAt' (lo+n) (lo+n-1) | return none
  if smaller then
   if neq > 0 then reverseSlice' (lo+n-(neq+1)) (lo+n)
   neq:=0
  else
   let some larger ← ltAt' (lo+n-1) (lo+n) | return none
   if larger then break
   neq:=neq+1
  n:=n+1
 if neq > 0 then reverseSlice' (lo+n-(neq+1)) (lo+n)
 reverseSlice' lo (lo+n)
 for _ in [n:nrem]do
  let some smaller ← ltAt' (lo+n) (lo+n-1) | return none
  if smaller then break
  n:=n+1
 return some n):=rfl
theorem a1Y(lo n ok:Nat):binarySort' lo n ok=(do
 for k in [max ok 1:n]do
  let mut l:=0
  let mut r:=k
  for _ in [0:k]do
   if l≥r then break
   let m:=(l+r)/2
   let some less ← ltAt' (lo+k) (lo+m) | return false
   if less then r:=m else l:=m+1
  moveDown' (lo+k) (lo+l)
 return true):=rfl
def gk(p:Array Keyed)(k:Nat):Keyed:=p.getD k (Value.none,Value.none)
theorem a00{p:Array Keyed}{k:Nat}(h:k<p.size):p[k]? = some (gk p k):=by unfold gk;simp[Array.getD,h]
theorem a1Z(p:Array Keyed)(k:Nat):gk p k=(p[k]?).getD (Value.none,Value.none):=by unfold gk;simp[Array.getD_eq_getD_getElem?]
abbrev D2(p:Array Keyed)(i j:Nat):Array Keyed:=mirror p i j ((j-i)/2)
theorem a0y{p:Array Keyed}{i j:Nat}(hj:j≤p.size)(k:Nat):gk (D2 p i j) k=if i≤k∧k<j then gk p (i+j-1-k)else gk p k:=by
 rw[a1Z,D2,getElem?_mirror_all hj]
 split<;>rw[a1Z]
theorem a6u{p:Array Keyed}{src d:Nat}(hs:src<p.size)(hd:d≤src)(k:Nat):gk (bubble p src d) k=if k=src-d then gk p src else if src-d<k∧k≤src then gk p (k-1)else gk p k:=by
 rw[a1Z,getElem?_bubble hs d hd]
 split
 ·rw[a1Z]
 ·split<;>rw[a1Z]
structure Rst(a0:Array Keyed)(lo hi:Nat)(a:Array Keyed):Prop where
 pm:a.Perm a0
 out:∀x,(x<lo∨hi≤x)→gk a x=gk a0 x
theorem Rst.refl(a:Array Keyed)(lo hi:Nat):Rst a lo hi a:=⟨.refl _,fun _ _=>rfl⟩
theorem Rst.size{a0 a:Array Keyed}{lo hi:Nat}(h:Rst a0 lo hi a):a.size=a0.size:=h.pm.size_eq
theorem Rst.rev{a0 a:Array Keyed}{lo hi i j:Nat}(h:Rst a0 lo hi a)(hi':lo≤i)(hj:j≤hi)(hs:hi≤a0.size):Rst a0 lo hi (D2 a i j) :=
 ⟨(mirror_perm _ _ _ _).trans h.pm,fun x hx=>by rw[a0y (by rw[h.size];omega),if_neg (by omega)];exact h.out x hx⟩
theorem Rst.bub{a0 a:Array Keyed}{lo hi src d:Nat}(h:Rst a0 lo hi a)(h1:lo≤src-d)(hd:d≤src)(h2:src<hi)(hs:hi≤a0.size):Rst a0 lo hi (bubble a src d) :=
 ⟨(bubble_perm _ _ _).trans h.pm,fun x hx=>by rw[a6u (by rw[h.size];omega) hd,if_neg (by omega),if_neg (by omega)];exact h.out x hx⟩
structure StR(st0:SortSt)(lo hi:Nat)(st:SortSt):Prop where
 k:kindOf st=kindOf st0
 p:pendingOf st=pendingOf st0
 f:failedOf st=failedOf st0
 r:Rst (arrOf st0) lo hi (arrOf st)
def UpK(lt:Keyed→Keyed→Bool)(p:Array Keyed)(lo m:Nat):Prop:=∀i j,i≤j→j<m→lt (gk p (lo+j)) (gk p (lo+i))=false
def DnK(lt:Keyed→Keyed→Bool)(p:Array Keyed)(lo m:Nat):Prop:=∀i j,i≤j→j<m→lt (gk p (lo+i)) (gk p (lo+j))=false
abbrev b3r(lo:Nat):Nat→(Option (Option Nat)×Nat)→StateT SortSt Sem (ForInStep (Option (Option Nat)×Nat)):=fun x __s=>do
 let __x ← ltAt' (lo+__s.snd) (lo+__s.snd-1)
 match __x with
  | some smaller =>
   if smaller=true then pure (ForInStep.done (none,__s.snd))
   else pure (ForInStep.yield (none,__s.snd+1))
  | x=>pure (ForInStep.done (some none,__s.snd))
abbrev b3s(lo:Nat):Nat→(Option (Option Nat)×Nat×Nat)→StateT SortSt Sem (ForInStep (Option (Option Nat)×Nat×Nat)):=fun x __s=>do
 let __x ← ltAt' (lo+__s.snd.fst) (lo+__s.snd.fst-1)
 match __x with
  | some smaller =>
   if smaller=true then
    if __s.snd.snd > 0 then do
     reverseSlice' (lo+__s.snd.fst-(__s.snd.snd+1)) (lo+__s.snd.fst)
     pure (ForInStep.yield (none,__s.snd.fst+1,0))
    else pure (ForInStep.yield (none,__s.snd.fst+1,0))
   else do
    let __x ← ltAt' (lo+__s.snd.fst-1) (lo+__s.snd.fst)
    match __x with
     | some larger =>
      if larger=true then pure (ForInStep.done (none,__s.snd.fst,__s.snd.snd))
      else pure (ForInStep.yield (none,__s.snd.fst+1,__s.snd.snd+1))
     | x=>pure (ForInStep.done (some none,__s.snd.fst,__s.snd.snd))
  | x=>pure (ForInStep.done (some none,__s.snd.fst,__s.snd.snd))
section
variable {prog:Program}{w:World}{A:Around}{E:Value→Shared→Prop}{s:Shared}{κ:SortKind}{lt:Keyed→Keyed→Bool}{Dm:Keyed→Prop}{st0 st:SortSt}{lo n m:Nat}
theorem StR.dmk(R:StR st0 lo m st)(hD:∀x∈(arrOf st0).toList,Dm x){i:Nat}(hi:i<(arrOf st0).size):Dm (gk (arrOf st) i):=by
 refine hD _ (R.r.pm.mem_iff.mp ?_ |> Array.mem_toList_iff.mpr)
 have hs:i<(arrOf st).size:=by rw[R.r.size];exact hi
 have:=a00 hs
 rw[Array.getElem?_eq_getElem hs]at this
 rw[← Option.some.inj this]
 exact Array.getElem_mem hs
theorem a0z{i j:Nat}{Q:Option Bool→SortSt→Prop}(C:x8 prog w A s κ lt Dm)(hk:kindOf st=κ)(hi:i<(arrOf st).size)(hj:j<(arrOf st).size)(di:Dm (gk (arrOf st) i))(dj:Dm (gk (arrOf st) j))(h:Q (some (lt (gk (arrOf st) i) (gk (arrOf st) j))) st):wpS (model prog w) A E s (ltAt' i j) Q st:=by
 rw[ltAt'_eq]
 refine wpS_bind (wpS_get ?_)
 exact wpS_bind (m9 (a00 hi) (wpS_bind (m9 (a00 hj) (a0x C hk di dj h))))
theorem P6{i j:Nat}{Q:Unit→SortSt→Prop}(h:Q () (setArr st (D2 (arrOf st) i j))):wpS (model prog w) A E s (reverseSlice' i j) Q st:=by
 rw[reverseSlice'_eq]
 exact wpS_modify h
theorem StR.rev{hi i j:Nat}(R:StR st0 lo hi st)(h1:lo≤i)(h2:j≤hi)(hs:hi≤(arrOf st0).size):StR st0 lo hi (setArr st (D2 (arrOf st) i j)):=⟨R.k,R.p,R.f,R.r.rev h1 h2 hs⟩
theorem a0A{a:Nat}{Q:Option (Option Nat)×Nat→SortSt→Prop}(C:x8 prog w A s κ lt Dm)(T:TPK lt Dm)(hk:kindOf st0=κ)(hD:∀x∈(arrOf st0).toList,Dm x)(R:StR st0 lo (lo+n) st)(hs:lo+n≤(arrOf st0).size)(h1:1≤a)(h2:a≤n)(u:UpK lt (arrOf st) lo a)
  (h:∀m,a≤m→m≤n→UpK lt (arrOf st) lo m→(m<n→lt (gk (arrOf st) (lo+m)) (gk (arrOf st) (lo+m-1))=true)→Q (none,m) st):wpS (model prog w) A E s (forIn [a:n] (none,a) (b3r lo)) Q st:=by
 have dm:∀i,i<lo+n→Dm (gk (arrOf st) i):=fun i hi=>R.dmk hD (by omega)
 have sz:=R.r.size
 refine wpS_forRange (fun i (c:Option (Option Nat)×Nat) st'=>c.1=none∧c.2=i∧st'=st∧UpK lt (arrOf st) lo i) ?_ ?_ ⟨rfl,rfl,rfl,u⟩
 ·rintro i ⟨c0,c1⟩ st' hi1 hi2 ⟨e0,e1,rfl,u⟩
  dsimp only at e0 e1
  subst e0 e1
  refine wpS_bind (a0z C (R.k.trans hk) (by show lo+c1<_;omega) (by show lo+c1-1<_;omega) (dm _ (by show lo+c1<_;omega)) (dm _ (by show lo+c1-1<_;omega)) ?_)
  dsimp only
  cases c:lt (gk (arrOf st') (lo+c1)) (gk (arrOf st') (lo+c1-1))with
  | true =>
   rw[if_pos rfl]
   exact wpS_pure (h c1 hi1 (by omega) u fun _=>c)
  | false =>
   rw[if_neg (by simp)]
   refine wpS_pure ⟨rfl,rfl,rfl,fun i j hij hj=>?_⟩
   by_cases hjk:j<c1
   ·exact u i j hij hjk
   ·have e:j=c1:=by omega
    subst e
    by_cases hik:i=j
    ·subst hik;exact T.irr _ (dm _ (by omega))
    ·have:=u i (j-1) (by omega) (by omega)
     rw[show lo+(j-1)=lo+j-1 by omega]at this
     exact T.tr _ _ _ (dm _ (by omega)) (dm _ (by omega)) (dm _ (by omega)) this c
 ·rintro⟨c0,c1⟩ st' ⟨e0,e1,rfl,u⟩
  dsimp only at e0 e1
  have e2:max a n=n:=by omega
  rw[e2]at e1 u
  subst e0 e1
  exact h c1 h2 (Nat.le_refl _) u fun z=>absurd z (by omega)
theorem Y9(hs:lo+m≤(arrOf st).size)(d:DnK lt (arrOf st) lo m):UpK lt (arrOf (setArr st (D2 (arrOf st) lo (lo+m)))) lo m:=fun i j hij hj=>by
 have gr:=a0y (p:=arrOf st) (i:=lo) (j:=lo+m) hs
 show lt (gk (D2 (arrOf st) lo (lo+m)) (lo+j)) (gk (D2 (arrOf st) lo (lo+m)) (lo+i))=false
 rw[gr,gr,if_pos (by omega),if_pos (by omega),show lo+(lo+m)-1-(lo+j)=lo+(m-1-j) by omega,show lo+(lo+m)-1-(lo+i)=lo+(m-1-i) by omega]
 exact d _ _ (by omega) (by omega)
def Alk(lt:Keyed→Keyed→Bool)(p:Array Keyed)(lo k q:Nat):Prop:=∀i,k-(q+1)≤i→i<k→lt (gk p (lo+(k-1))) (gk p (lo+i))=false∧lt (gk p (lo+i)) (gk p (lo+(k-1)))=false
theorem a33{hi k q:Nat}(T:TPK lt Dm)(hD:∀x∈(arrOf st0).toList,Dm x)(R:StR st0 lo hi st)(hs:hi≤(arrOf st0).size)(hk:lo+k≤hi)(hq:q+1≤k)(d:DnK lt (arrOf st) lo k)(al:Alk lt (arrOf st) lo k q) :
  DnK lt (D2 (arrOf st) (lo+k-(q+1)) (lo+k)) lo k∧∀i,i<k→lt (gk (D2 (arrOf st) (lo+k-(q+1)) (lo+k)) (lo+i)) (gk (arrOf st) (lo+(k-1)))=false:=by
 have sz:=R.r.size
 have dm:∀i,i<k→Dm (gk (arrOf st) (lo+i)):=fun i hi=>R.dmk hD (by omega)
 have gr:=a0y (p:=arrOf st) (i:=lo+k-(q+1)) (j:=lo+k) (by omega)
 have at_:∀i,i<k→∃j,j<k∧gk (D2 (arrOf st) (lo+k-(q+1)) (lo+k)) (lo+i)=gk (arrOf st) (lo+j)∧(j=i∨(k-(q+1)≤i∧k-(q+1)≤j)):=fun i hi=>by
  rw[gr]
  split
  ·exact⟨k-(q+1)+k-1-i,by omega,by congr 1;omega,.inr ⟨by omega,by omega⟩⟩
  ·exact⟨i,hi,rfl,.inl rfl⟩
 have eqv:∀i,i<k→lt (gk (D2 (arrOf st) (lo+k-(q+1)) (lo+k)) (lo+i)) (gk (arrOf st) (lo+i))=false∧lt (gk (arrOf st) (lo+i)) (gk (D2 (arrOf st) (lo+k-(q+1)) (lo+k)) (lo+i))=false:=fun i hi=>by
  obtain⟨j,hj,e,z⟩:=at_ i hi
  rw[e]
  rcases z with rfl | ⟨z1,z2⟩
  ·exact⟨T.irr _ (dm _ hi),T.irr _ (dm _ hi)⟩
  ·have a:=al i z1 hi
   have b:=al j z2 hj
   exact⟨T.tr _ _ _ (dm _ hi) (dm _ (by omega)) (dm _ hj) a.1 b.2,T.tr _ _ _ (dm _ hj) (dm _ (by omega)) (dm _ hi) b.1 a.2⟩
 have dr:∀i,i<k→Dm (gk (D2 (arrOf st) (lo+k-(q+1)) (lo+k)) (lo+i)):=fun i hi=>by
  obtain⟨j,hj,e,_⟩:=at_ i hi
  rw[e];exact dm j hj
 refine⟨fun i j hij hj=>?_,fun i hi=>?_⟩
 ·exact T.tr _ _ _ (dr j hj) (dm i (by omega)) (dr i (by omega)) (T.tr _ _ _ (dr j hj) (dm j hj) (dm i (by omega)) (eqv j hj).2 (d i j hij hj)) (eqv i (by omega)).1
 ·exact T.tr _ _ _ (dm _ (by omega)) (dm i hi) (dr i hi) (d i (k-1) (by omega) (by omega)) (eqv i hi).1
theorem a6v{a:Nat}{Q:Option (Option Nat)×Nat×Nat→SortSt→Prop}(C:x8 prog w A s κ lt Dm)(T:TPK lt Dm)(hk:kindOf st0=κ)(hD:∀x∈(arrOf st0).toList,Dm x)(R:StR st0 lo (lo+n) st)(hs:lo+n≤(arrOf st0).size)(h1:1≤a)(h2:a≤n)(d:DnK lt (arrOf st) lo a)
  (h:∀k q st',a≤k→k≤n→q+1≤k→StR st0 lo (lo+n) st'→DnK lt (arrOf st') lo k→Alk lt (arrOf st') lo k q→Q (none,k,q) st'):wpS (model prog w) A E s (forIn [a:n] (none,a,0) (b3s lo)) Q st:=by
 refine wpS_forRange (fun i (c:Option (Option Nat)×Nat×Nat) st'=>c.1=none∧c.2.1=i∧c.2.2+1≤i∧StR st0 lo (lo+n) st'∧DnK lt (arrOf st') lo i∧Alk lt (arrOf st') lo i c.2.2) ?_ ?_ ⟨rfl,rfl,h1,R,d,fun i h1 h2=>?_⟩
 ·rintro i ⟨c0,k,q⟩ st1 hi1 hi2 ⟨e0,e1,hq,R1,d1,al⟩
  dsimp only at e0 e1 hq al
  subst e0 e1
  have sz:=R1.r.size
  have dm:∀i,i<lo+n→Dm (gk (arrOf st1) i):=fun i hi=>R1.dmk hD (by omega)
  refine wpS_bind (a0z C (R1.k.trans hk) (by show lo+k<_;omega) (by show lo+k-1<_;omega) (dm _ (by show lo+k<_;omega)) (dm _ (by show lo+k-1<_;omega)) ?_)
  dsimp only
  have ek:lo+k-1=lo+(k-1):=by omega
  rw[ek]
  have ext:∀p':Array Keyed,(∀i,i<k+1→Dm (gk p' (lo+i)))→DnK lt p' lo k→(∀i,i<k→lt (gk p' (lo+i)) (gk p' (lo+k))=false)→DnK lt p' lo (k+1):=fun p' dp d' c i j hij hj=>by
   by_cases hjk:j<k
   ·exact d' i j hij hjk
   ·have e:j=k:=by omega
    subst e
    by_cases hik:i=j
    ·subst hik;exact T.irr _ (dp _ (by omega))
    ·exact c i (by omega)
  have one:∀p':Array Keyed,(∀i,i<k+1→Dm (gk p' (lo+i)))→Alk lt p' lo (k+1) 0:=fun p' dp i h1 h2=>by
   have e:i=k+1-1:=by omega
   rw[e];exact⟨T.irr _ (dp _ (by omega)),T.irr _ (dp _ (by omega))⟩
  cases c:lt (gk (arrOf st1) (lo+k)) (gk (arrOf st1) (lo+(k-1)))with
  | true =>
   rw[if_pos rfl]
   have c':=T.asy _ _ (dm _ (by omega)) (dm _ (by omega)) c
   by_cases hq0:q > 0
   ·rw[if_pos hq0]
    obtain⟨dr,low⟩:=a33 T hD R1 hs (by omega) hq d1 al
    have R2:=R1.rev (i:=lo+k-(q+1)) (j:=lo+k) (by omega) (by omega) hs
    have gr:=a0y (p:=arrOf st1) (i:=lo+k-(q+1)) (j:=lo+k) (by omega)
    have gkk:gk (D2 (arrOf st1) (lo+k-(q+1)) (lo+k)) (lo+k)=gk (arrOf st1) (lo+k):=by rw[gr,if_neg (by omega)]
    have dp:∀i,i<k+1→Dm (gk (D2 (arrOf st1) (lo+k-(q+1)) (lo+k)) (lo+i)):=fun i hi=>R2.dmk hD (by omega)
    refine wpS_bind (P6 (wpS_pure ⟨rfl,rfl,by show 0+1≤k+1;omega,R2,?_,one _ dp⟩))
    exact ext _ dp dr fun i hi=>by
     rw[gkk]
     exact T.tr _ _ _ (dm _ (by omega)) (dm _ (by omega)) (dp i (by omega)) c' (low i hi)
   ·rw[if_neg hq0]
    have dp:∀i,i<k+1→Dm (gk (arrOf st1) (lo+i)):=fun i hi=>dm _ (by omega)
    exact wpS_pure ⟨rfl,rfl,by show 0+1≤k+1;omega,R1,ext _ dp d1 fun i hi=>T.tr _ _ _ (dm _ (by omega)) (dm _ (by omega)) (dm _ (by omega)) c' (d1 i (k-1) (by omega) (by omega)),one _ dp⟩
  | false =>
   rw[if_neg (by simp)]
   refine wpS_bind (a0z C (R1.k.trans hk) (by omega) (by omega) (dm _ (by omega)) (dm _ (by omega)) ?_)
   dsimp only
   cases e:lt (gk (arrOf st1) (lo+(k-1))) (gk (arrOf st1) (lo+k))with
   | true =>
    rw[if_pos rfl]
    exact wpS_pure (h k q st1 hi1 (by omega) hq R1 d1 al)
   | false =>
    rw[if_neg (by simp)]
    refine wpS_pure ⟨rfl,rfl,by show q+1+1≤k+1;omega,R1,ext _ (fun i hi=>dm _ (by omega)) d1 (fun i hi=>T.tr _ _ _ (dm _ (by omega)) (dm _ (by omega)) (dm _ (by omega)) e (d1 i (k-1) (by omega) (by omega))),fun i h1 h2=>?_⟩
    have h1:k+1-(q+1+1)≤i:=h1
    rw[Nat.add_sub_cancel]
    by_cases hik:i=k
    ·subst hik;exact⟨T.irr _ (dm _ (by omega)),T.irr _ (dm _ (by omega))⟩
    ·have a:=al i (by omega) (by omega)
     exact⟨T.tr _ _ _ (dm _ (by omega)) (dm _ (by omega)) (dm _ (by omega)) a.1 c,T.tr _ _ _ (dm _ (by omega)) (dm _ (by omega)) (dm _ (by omega)) e a.2⟩
 ·rintro⟨c0,k,q⟩ st1 ⟨e0,e1,hq,R1,d1,al⟩
  dsimp only at e0 e1 hq al
  have e2:max a n=n:=by omega
  rw[e2]at e1 hq d1 al
  subst e0 e1
  exact h k q st1 h2 (Nat.le_refl _) hq R1 d1 al
 ·have h1':a-(0+1)≤i:=h1
  have e:i=a-1:=by omega
  subst e
  exact⟨T.irr _ (R.dmk hD (by omega)),T.irr _ (R.dmk hD (by omega))⟩
theorem a6w{Q:Option Nat→SortSt→Prop}(C:x8 prog w A s κ lt Dm)(T:TPK lt Dm)(hk:kindOf st=κ)(hD:∀x∈(arrOf st).toList,Dm x)(hs:lo+n≤(arrOf st).size)(hn:1≤n)
  (h:∀k st',1≤k→k≤n→StR st lo (lo+n) st'→UpK lt (arrOf st') lo k→Q (some k) st'):wpS (model prog w) A E s (countRun' lo n) Q st:=by
 have R:StR st lo (lo+n) st:=⟨rfl,rfl,rfl,.refl _ _ _⟩
 have dm:∀i,i<lo+n→Dm (gk (arrOf st) i):=fun i hi=>R.dmk hD (by omega)
 rw[a3j]
 refine wpS_bind (a0A C T hk hD R hs (Nat.le_refl _) hn (fun i j hij hj=>?_) fun m m1 m2 u z=>?_)
 ·have e:i=j:=by omega
  rw[e];exact T.irr _ (dm _ (by omega))
 dsimp only
 by_cases y:(m == n)=true
 ·rw[if_pos y]
  exact wpS_pure (h m st m1 m2 R u)
 rw[if_neg y]
 have y':m≠n:=by simpa using y
 have zl:=z (by omega)
 rw[show lo+m-1=lo+(m-1) by omega]at zl
 by_cases m0:m > 1
 ·rw[if_pos m0]
  refine wpS_bind (a0z C hk (by omega) (by omega) (dm _ (by omega)) (dm _ (by omega)) ?_)
  dsimp only
  rw[show lo+m-1=lo+(m-1) by omega]
  cases c:lt (gk (arrOf st) lo) (gk (arrOf st) (lo+(m-1)))with
  | true =>
   rw[if_pos rfl]
   exact wpS_pure (h m st m1 m2 R u)
  | false =>
   rw[if_neg (by simp)]
   refine wpS_bind (P6 ?_)
   have R2:=R.rev (i:=lo) (j:=lo+m) (Nat.le_refl _) (by omega) hs
   have gr:=a0y (p:=arrOf st) (i:=lo) (j:=lo+m) (by omega)
   have c0:lt (gk (arrOf st) (lo+0)) (gk (arrOf st) (lo+(m-1)))=false:=c
   have all:∀a b,a<m→b<m→lt (gk (arrOf st) (lo+a)) (gk (arrOf st) (lo+b))=false:=fun a b ha hb =>
    T.tr _ _ _ (dm _ (by omega)) (dm _ (by omega)) (dm _ (by omega)) (u b (m-1) (by omega) (by omega)) (T.tr _ _ _ (dm _ (by omega)) (dm _ (by omega)) (dm _ (by omega)) c0 (u 0 a (by omega) ha))
   have dn:DnK lt (arrOf (setArr st (D2 (arrOf st) lo (lo+m)))) lo (m+1):=fun i j hij hj=>by
    show lt (gk (D2 (arrOf st) lo (lo+m)) (lo+i)) (gk (D2 (arrOf st) lo (lo+m)) (lo+j))=false
    rw[gr,gr]
    by_cases hjm:j<m
    ·rw[if_pos (by omega),if_pos (by omega),show lo+(lo+m)-1-(lo+i)=lo+(m-1-i) by omega,show lo+(lo+m)-1-(lo+j)=lo+(m-1-j) by omega]
     exact all _ _ (by omega) (by omega)
    ·have e:j=m:=by omega
     subst e
     rw[if_neg (show ¬(lo≤lo+j∧lo+j<lo+j) by omega)]
     by_cases hij':i=j
     ·subst hij';rw[if_neg (by omega)];exact T.irr _ (dm _ (by omega))
     ·rw[if_pos (by omega),show lo+(lo+j)-1-(lo+i)=lo+(j-1-i) by omega]
      exact T.tr _ _ _ (dm _ (by omega)) (dm _ (by omega)) (dm _ (by omega)) (T.asy _ _ (dm _ (by omega)) (dm _ (by omega)) zl) (all _ _ (by omega) (by omega))
   refine wpS_bind (wpS_lift (wpAny_rule ⟨rfl,?_⟩))
   refine wpS_bind (a6v C T hk hD R2 hs (by omega) (by omega) dn fun k q st1 k1 k2 hq R1 d1 al=>?_)
   have sz:=R1.r.size
   dsimp only
   by_cases q0:q > 0
   ·rw[if_pos q0]
    obtain⟨dr,_⟩:=a33 T hD R1 hs (by omega) hq d1 al
    have R3:=R1.rev (i:=lo+k-(q+1)) (j:=lo+k) (by omega) (by omega) hs
    have sz3:=R3.r.size
    have R4:=R3.rev (i:=lo) (j:=lo+k) (Nat.le_refl _) (by omega) hs
    refine wpS_bind (P6 (wpS_bind (P6 (wpS_bind (a0A C T hk hD R4 hs (by omega) k2 (Y9 (by omega) dr) fun k4 a1 a2 u _=>wpS_pure (h k4 _ (by omega) a2 R4 u))))))
   ·rw[if_neg q0]
    have R4:=R1.rev (i:=lo) (j:=lo+k) (Nat.le_refl _) (by omega) hs
    refine wpS_bind (P6 (wpS_bind (a0A C T hk hD R4 hs (by omega) k2 (Y9 (by omega) d1) fun k4 a1 a2 u _=>wpS_pure (h k4 _ (by omega) a2 R4 u))))
 ·rw[if_neg m0]
  have e:m=1:=by omega
  subst e
  have dn:DnK lt (arrOf st) lo (1+1):=fun i j hij hj=>by
   by_cases hij':i=j
   ·subst hij';exact T.irr _ (dm _ (by omega))
   ·have e1:i=0:=by omega
    have e2:j=1:=by omega
    subst e1 e2
    exact T.asy _ _ (dm _ (by omega)) (dm _ (by omega)) zl
  refine wpS_bind (wpS_lift (wpAny_rule ⟨rfl,?_⟩))
  refine wpS_bind (a6v C T hk hD R hs (by omega) (by omega) dn fun k q st1 k1 k2 hq R1 d1 al=>?_)
  have sz:=R1.r.size
  dsimp only
  by_cases q0:q > 0
  ·rw[if_pos q0]
   obtain⟨dr,_⟩:=a33 T hD R1 hs (by omega) hq d1 al
   have R3:=R1.rev (i:=lo+k-(q+1)) (j:=lo+k) (by omega) (by omega) hs
   have sz3:=R3.r.size
   have R4:=R3.rev (i:=lo) (j:=lo+k) (Nat.le_refl _) (by omega) hs
   refine wpS_bind (P6 (wpS_bind (P6 (wpS_bind (a0A C T hk hD R4 hs (by omega) k2 (Y9 (by omega) dr) fun k4 a1 a2 u _=>wpS_pure (h k4 _ (by omega) a2 R4 u))))))
  ·rw[if_neg q0]
   have R4:=R1.rev (i:=lo) (j:=lo+k) (Nat.le_refl _) (by omega) hs
   refine wpS_bind (P6 (wpS_bind (a0A C T hk hD R4 hs (by omega) k2 (Y9 (by omega) d1) fun k4 a1 a2 u _=>wpS_pure (h k4 _ (by omega) a2 R4 u))))
end
section
variable {prog:Program}{w:World}{A:Around}{E:Value→Shared→Prop}{s:Shared}{κ:SortKind}{lt:Keyed→Keyed→Bool}{Dm:Keyed→Prop}{st0 st:SortSt}{lo n ok hi:Nat}
theorem a7O{Q:Bool→SortSt→Prop}(C:x8 prog w A s κ lt Dm)(T:TPK lt Dm)(hk:kindOf st0=κ)(hD:∀x∈(arrOf st0).toList,Dm x)(R:StR st0 lo hi st)(hs:hi≤(arrOf st0).size)(hn:lo+n≤hi)(h1:1≤ok)(h2:ok≤n)(u:UpK lt (arrOf st) lo ok)
  (h:∀st',StR st0 lo hi st'→UpK lt (arrOf st') lo n→Q true st'):wpS (model prog w) A E s (binarySort' lo n ok) Q st:=by
 rw[a1Y]
 rw[show max ok 1=ok by omega]
 refine wpS_bind (wpS_mono (wpS_forRange (fun k (c:Option Bool×Unit) st'=>c.1=none∧StR st0 lo hi st'∧UpK lt (arrOf st') lo k) (Q:=fun(c:Option Bool×Unit) st'=>c.1=none∧StR st0 lo hi st'∧UpK lt (arrOf st') lo n) ?_ ?_ ⟨rfl,R,u⟩) ?_)
 ·rintro k ⟨c0,c1⟩ st1 hk1 hk2 ⟨e0,R1,u1⟩
  have sz:=R1.r.size
  have dm:∀i,i<n→Dm (gk (arrOf st1) (lo+i)):=fun i hi=>R1.dmk hD (by omega)
  refine wpS_bind (Q2 (fun(i:Nat) (c:Option Bool×Nat×Nat) st'=>c.1=none∧st'=st1∧c.2.1≤c.2.2∧c.2.2≤k∧(∀i,i<c.2.1→lt (gk (arrOf st1) (lo+k)) (gk (arrOf st1) (lo+i))=false)∧(∀i,c.2.2≤i→i<k→lt (gk (arrOf st1) (lo+i)) (gk (arrOf st1) (lo+k))=false)∧c.2.2-c.2.1≤k-i)
   (fun(c:Option Bool×Nat×Nat) st'=>c.1=none∧st'=st1∧c.2.1≤k∧(∀i,i<c.2.1→lt (gk (arrOf st1) (lo+k)) (gk (arrOf st1) (lo+i))=false)∧(∀i,c.2.1≤i→i<k→lt (gk (arrOf st1) (lo+i)) (gk (arrOf st1) (lo+k))=false)) ?_ ?_ ⟨rfl,rfl,Nat.zero_le _,Nat.le_refl _,fun i hi=>absurd hi (Nat.not_lt_zero _),fun i h1 h2=>by have h1:k≤i:=h1;omega,by show k-0≤k-0;omega⟩ ?_)
  ·rintro i ⟨d0,l,r⟩ st2 hi ⟨f0,rfl,a1,a2,a3,a4,a5⟩
   dsimp only at *
   by_cases z:l≥r
   ·rw[if_pos z]
    exact wpS_pure ⟨rfl,rfl,by show l≤k;omega,a3,fun i h1 h2=>a4 i (by have h1:l≤i:=h1;omega) h2⟩
   ·rw[if_neg z]
    refine wpS_bind (a0z C (R1.k.trans hk) (by omega) (by omega) (dm _ (by omega)) (dm _ (by omega)) ?_)
    dsimp only
    cases c:lt (gk (arrOf st2) (lo+k)) (gk (arrOf st2) (lo+(l+r)/2))with
    | true =>
     rw[if_pos rfl]
     refine wpS_pure ⟨rfl,rfl,by show l≤(l+r)/2;omega,by show(l+r)/2≤k;omega,a3,fun i h1 h2=>?_,by show(l+r)/2-l≤k-(i+1);omega⟩
     have h1:(l+r)/2≤i:=h1
     exact T.tr _ _ _ (dm _ (by omega)) (dm _ (by omega)) (dm _ (by omega)) (T.asy _ _ (dm _ (by omega)) (dm _ (by omega)) c) (u1 ((l+r)/2) i h1 h2)
    | false =>
     rw[if_neg (by simp)]
     refine wpS_pure ⟨rfl,rfl,by show(l+r)/2+1≤r;omega,a2,fun i h1=>?_,a4,by show r-((l+r)/2+1)≤k-(i+1);omega⟩
     have h1:i<(l+r)/2+1:=h1
     exact T.tr _ _ _ (dm _ (by omega)) (dm _ (by omega)) (dm _ (by omega)) (u1 i ((l+r)/2) (by omega) (by omega)) c
  ·rintro⟨d0,l,r⟩ st2 ⟨f0,rfl,a1,a2,a3,a4,a5⟩
   dsimp only at *
   exact⟨f0,rfl,by show l≤k;omega,a3,fun i h1 h2=>a4 i (by have h1:l≤i:=h1;omega) h2⟩
  ·rintro⟨d0,l,r⟩ st2 ⟨f0,rfl,a1,a3,a4⟩
   dsimp only at *
   subst f0
   dsimp only
   rw[moveDown'_eq]
   refine wpS_bind (wpS_modify (wpS_pure ?_))
   have R2:StR st0 lo hi (setArr st2 (bubble (arrOf st2) (lo+k) (lo+k-(lo+l)))):=⟨R1.k,R1.p,R1.f,R1.r.bub (by omega) (by omega) (by omega) hs⟩
   refine⟨rfl,R2,fun i j hij hj=>?_⟩
   have gb:=a6u (p:=arrOf st2) (src:=lo+k) (d:=lo+k-(lo+l)) (by omega) (by omega)
   show lt (gk (bubble (arrOf st2) (lo+k) (lo+k-(lo+l))) (lo+j)) (gk (bubble (arrOf st2) (lo+k) (lo+k-(lo+l))) (lo+i))=false
   rw[gb,gb,show lo+k-(lo+k-(lo+l))=lo+l by omega]
   by_cases e:i=j
   ·subst e
    split
    ·exact T.irr _ (dm _ (by omega))
    ·split
     ·rw[show lo+i-1=lo+(i-1) by omega];exact T.irr _ (dm _ (by omega))
     ·exact T.irr _ (dm _ (by omega))
   by_cases hjl:j=l
   ·rw[if_pos (by omega),if_neg (by omega),if_neg (by omega)];exact a3 i (by omega)
   ·rw[if_neg (show ¬lo+j=lo+l by omega)]
    by_cases hil:i=l
    ·rw[if_pos (by omega),if_pos (by omega),show lo+j-1=lo+(j-1) by omega];exact a4 (j-1) (by omega) (by omega)
    ·rw[if_neg (show ¬lo+i=lo+l by omega)]
     by_cases h1:l<j∧j≤k
     ·rw[if_pos (show lo+l<lo+j∧lo+j≤lo+k by omega),show lo+j-1=lo+(j-1) by omega]
      by_cases h2:l<i∧i≤k
      ·rw[if_pos (show lo+l<lo+i∧lo+i≤lo+k by omega),show lo+i-1=lo+(i-1) by omega];exact u1 _ _ (by omega) (by omega)
      ·rw[if_neg (show ¬(lo+l<lo+i∧lo+i≤lo+k) by omega)];exact u1 _ _ (by omega) (by omega)
     ·rw[if_neg (show ¬(lo+l<lo+j∧lo+j≤lo+k) by omega),if_neg (show ¬(lo+l<lo+i∧lo+i≤lo+k) by omega)];exact u1 _ _ hij (by omega)
 ·rintro⟨c0,c1⟩ st1 ⟨e0,R1,u1⟩
  have e2:max ok n=n:=by omega
  rw[e2]at u1
  exact⟨e0,R1,u1⟩
 ·rintro⟨c0,c1⟩ st1 ⟨e0,R1,u1⟩
  dsimp only at e0
  subst e0
  exact wpS_pure (h st1 R1 u1)
end
def PRun(lt:Keyed→Keyed→Bool):List (Nat×Nat×Nat)→List (List Keyed)→Nat→Prop
 | [],[],_=>True
 | p::ps,S::ss,o=>p.1=o∧p.2.1=S.length∧1≤S.length∧Srt lt S∧PRun lt ps ss (o+S.length)
 | _,_,_=>False
section
variable {lt:Keyed→Keyed→Bool}
theorem PRun.len:∀{pl:List (Nat×Nat×Nat)} {segs:List (List Keyed)} {o:Nat},PRun lt pl segs o→pl.length=segs.length∧pl.length≤segs.flatten.length
 | [],[],_,_=>⟨rfl,Nat.le_refl _⟩
 | p::ps,S::ss,o,h=>by
  obtain⟨_,_,h1,_,h2⟩:=h
  have:=PRun.len h2
  simp only[List.length_cons,List.flatten_cons,List.length_append]
  omega
 | [],_::_,_,h=>h.elim
 | _::_,[],_,h=>h.elim
theorem PRun.snoc:∀{pl:List (Nat×Nat×Nat)} {segs:List (List Keyed)} {o:Nat} {c:Nat×Nat×Nat} {S:List Keyed},PRun lt pl segs o→c.1=o+segs.flatten.length→c.2.1=S.length→1≤S.length→Srt lt S→PRun lt (pl++[c]) (segs++[S]) o
 | [],[],o,c,S,_,h1,h2,h3,h4=>⟨by simpa using h1,h2,h3,h4,trivial⟩
 | p::ps,U::ss,o,c,S,h,h1,h2,h3,h4=>by
  obtain⟨a1,a2,a3,a4,a5⟩:=h
  refine⟨a1,a2,a3,a4,PRun.snoc a5 ?_ h2 h3 h4⟩
  rw[h1];simp only[List.flatten_cons,List.length_append];omega
 | [],_::_,_,_,_,h,_,_,_,_=>h.elim
 | _::_,[],_,_,_,h,_,_,_,_=>h.elim
theorem PRun.pow:∀{pl ql:List (Nat×Nat×Nat)} {segs:List (List Keyed)} {o:Nat},PRun lt pl segs o→pl.map (fun p=>(p.1,p.2.1))=ql.map (fun p=>(p.1,p.2.1))→PRun lt ql segs o
 | [],[],[],_,_,_=>trivial
 | p::ps,q::qs,S::ss,o,h,e=>by
  obtain⟨a1,a2,a3,a4,a5⟩:=h
  simp only[List.map_cons]at e
  injection e with e1 e2
  injection e1 with e1 e3
  exact⟨e1▸a1,e3▸a2,a3,a4,PRun.pow a5 e2⟩
 | [],_::_,_,_,_,e=>by cases e
 | _::_,[],_,_,_,e=>by cases e
 | [],[],_::_,_,h,_=>h.elim
 | _::_,_::_,[],_,h,_=>h.elim
theorem PRun.split:∀{pl:List (Nat×Nat×Nat)} {segs:List (List Keyed)} {o i:Nat},PRun lt pl segs o→i+1<pl.length→∃p1 a b p2 s1 U V s2,pl=p1++a::b::p2∧p1.length=i∧segs=s1++U::V::s2∧a.1=o+s1.flatten.length∧a.2.1=U.length∧b.1=a.1+U.length∧b.2.1=V.length∧1≤U.length∧1≤V.length∧Srt lt U∧Srt lt V ∧
  ∀(W:List Keyed) (c:Nat×Nat×Nat),W.length=U.length+V.length→Srt lt W→c.1=a.1→c.2.1=W.length→PRun lt (p1++c::p2) (s1++W::s2) o
 | p::q::ps,S::S'::ss,o,0,h,_=>by
  obtain⟨a1,a2,a3,a4,b1,b2,b3,b4,b5⟩:=h
  refine⟨[],p,q,ps,[],S,S',ss,rfl,rfl,rfl,by simpa using a1,a2,by omega,b2,a3,b3,a4,b4,fun W c hW hs h1 h2=>⟨by rw[h1];exact a1,h2,by omega,hs,?_⟩⟩
  rw[hW,← Nat.add_assoc]
  exact b5
 | p::ps,S::ss,o,i+1,h,hi=>by
  obtain⟨a1,a2,a3,a4,a5⟩:=h
  obtain⟨p1,a,b,p2,s1,U,V,s2,e1,e2,e3,e4,e5,e6,e7,e8,e9,e10,e11,e12⟩:=PRun.split a5 (i:=i) (by rw[List.length_cons]at hi;omega)
  refine⟨p::p1,a,b,p2,S::s1,U,V,s2,by rw[e1];rfl,by rw[List.length_cons,e2],by rw[e3];rfl,by rw[e4];simp only[List.flatten_cons,List.length_append];omega,e5,e6,e7,e8,e9,e10,e11,fun W c hW hs h1 h2=>⟨a1,a2,a3,a4,e12 W c hW hs h1 h2⟩⟩
 | [p],[S],o,0,h,hi=>by simp at hi
 | [p],S::S'::ss,o,0,h,hi=>by simp at hi
 | p::q::ps,[S],o,0,h,_=>by obtain⟨_,_,_,_,h⟩:=h;exact h.elim
 | [],[],_,_,_,hi=>by simp at hi
 | [],_::_,_,_,h,_=>h.elim
 | _::_,[],_,_,h,_=>h.elim
end
structure SI(lt:Keyed→Keyed→Bool)(st0 st:SortSt)(lo:Nat)(g9:List Keyed):Prop where
 k:kindOf st=kindOf st0
 f:failedOf st=none
 pm:(arrOf st).Perm (arrOf st0)
 run:∃segs,(arrOf st).toList=segs.flatten++g9∧segs.flatten.length=lo∧PRun lt (pendingOf st).toList segs 0
section
variable {prog:Program}{w:World}{A:Around}{E:Value→Shared→Prop}{s:Shared}{κ:SortKind}{lt:Keyed→Keyed→Bool}{Dm:Keyed→Prop}{st0 st:SortSt}{lo:Nat}{g9:List Keyed}
theorem SI.psz(I:SI lt st0 st lo g9):(pendingOf st).size≤lo:=by
 obtain⟨segs,_,e2,pr⟩:=I.run
 have:=pr.len.2
 rw[Array.length_toList]at this
 omega
theorem a8Y{i:Nat}{Q:Bool→SortSt→Prop}(C:x8 prog w A s κ lt Dm)(T:TPK lt Dm)(hk:kindOf st0=κ)(hD:∀x∈(arrOf st0).toList,Dm x)(I:SI lt st0 st lo g9)(hi:i+1<(pendingOf st).size)(h:∀st',SI lt st0 st' lo g9→(pendingOf st').size+1=(pendingOf st).size→Q true st'):wpS (model prog w) A E s (mergeAt' i) Q st:=by
 obtain⟨segs,e1,e2,pr⟩:=I.run
 obtain⟨p1,a,b,p2,s1,U,V,s2,f1,f2,f3,f4,f5,f6,f7,f8,f9,f10,f11,f12⟩:=pr.split (i:=i) (by rw[Array.length_toList];exact hi)
 obtain⟨sa,na,pw⟩:=a
 obtain⟨sb,nb,pw'⟩:=b
 dsimp only at f4 f5 f6 f7 f12
 have dmA:∀x∈(arrOf st).toList,Dm x:=fun x hx=>hD x (Array.mem_toList_iff.mpr (I.pm.mem_iff.mp (Array.mem_toList_iff.mp hx)))
 have g1:(pendingOf st)[i]? = some (sa,na,pw):=by
  rw[← Array.getElem?_toList,f1,List.getElem?_append_right (by omega),f2,Nat.sub_self];rfl
 have g2:(pendingOf st)[i+1]? = some (sb,nb,pw'):=by
  rw[← Array.getElem?_toList,f1,List.getElem?_append_right (by omega),f2,show i+1-i=1 by omega];rfl
 have e:(arrOf st).toList=s1.flatten++U++(V++(s2.flatten++g9)):=by
  rw[e1,f3];simp
 refine a4L (pre:=s1.flatten) (U:=U) (V:=V) (post:=s2.flatten++g9) C T (I.k.trans hk) I.f g1 g2 e (by omega) f5.symm f7.symm (by omega) (by omega) (by omega) (fun x hx=>dmA x (by rw[e];simp[hx])) (fun x hx=>dmA x (by rw[e];simp[hx])) f10 f11 fun arr' g W hW hs ea=>?_
 have lW:W.length=U.length+V.length:=by rw[hW.length_eq,List.length_append]
 have ep:(((pendingOf st).setIfInBounds i (sa,na+nb,pw)).eraseIdxIfInBounds (i+1)).toList=p1++(sa,na+nb,pw)::p2:=by
  rw[Array.toList_eraseIdxIfInBounds,Array.toList_setIfInBounds,f1,List.set_append_right _ _ (by omega),f2,Nat.sub_self,List.set_cons_zero,List.eraseIdx_append_of_length_le (by omega),f2,show i+1-i=1 by omega]
  rfl
 refine h _ ⟨I.k.symm▸(by rw[I.k];exact hk.symm),rfl,?_,s1++W::s2,?_,?_,?_⟩ ?_
 ·refine Array.Perm.trans ?_ I.pm
  refine Array.perm_iff_toList_perm.mpr ?_
  show arr'.toList.Perm _
  rw[ea,e]
  refine List.Perm.trans ?_ (List.Perm.of_eq (by simp:s1.flatten++(U++V)++(s2.flatten++g9)=_))
  exact(hW.append_left _).append_right _
 ·show arr'.toList=_
  rw[ea];simp
 ·rw[← e2,f3]
  simp only[List.flatten_append,List.flatten_cons,List.length_append,lW]
  omega
 ·show PRun lt (((pendingOf st).setIfInBounds i (sa,na+nb,pw)).eraseIdxIfInBounds (i+1)).toList _ 0
  rw[ep]
  exact f12 W _ lW hs rfl (by show na+nb=_;omega)
 ·show(((pendingOf st).setIfInBounds i (sa,na+nb,pw)).eraseIdxIfInBounds (i+1)).size+1=_
  rw[← Array.length_toList,ep,← Array.length_toList (xs:=pendingOf st),f1]
  simp
  omega
end
abbrev b3t(pw:Nat):Nat→(Option Unit×Unit)→StateT SortSt Sem (ForInStep (Option Unit×Unit)):=fun x __s_1=>do
 let __do_lift_3 ← get
 match if(pendingOf __do_lift_3).size > 1 then(pendingOf __do_lift_3)[(pendingOf __do_lift_3).size-2]? else none with
  | some (fst,fst_1,older) =>
   if older≤pw then pure (ForInStep.done (none,()))
   else do
    let __do_lift ← mergeAt' ((pendingOf __do_lift_3).size-2)
    if(!__do_lift)=true then pure (ForInStep.done (some (),()))else pure (ForInStep.yield (none,()))
  | x=>pure (ForInStep.done (none,()))
section
variable {prog:Program}{w:World}{A:Around}{E:Value→Shared→Prop}{s:Shared}{κ:SortKind}{lt:Keyed→Keyed→Bool}{Dm:Keyed→Prop}{st0 st:SortSt}{lo n:Nat}{g9:List Keyed}
theorem a6x{N pw:Nat}{Q:Option Unit×Unit→SortSt→Prop}(C:x8 prog w A s κ lt Dm)(T:TPK lt Dm)(hk:kindOf st0=κ)(hD:∀x∈(arrOf st0).toList,Dm x)(I:SI lt st0 st lo g9)(h0:1≤(pendingOf st).size)(h:∀st',SI lt st0 st' lo g9→1≤(pendingOf st').size→Q (none,()) st'):wpS (model prog w) A E s (forIn [:N] (none,()) (b3t pw)) Q st:=by
 refine Q2 (fun i (c:Option Unit×Unit) st'=>c.1=none∧SI lt st0 st' lo g9∧1≤(pendingOf st').size) (fun(c:Option Unit×Unit) st'=>c.1=none∧SI lt st0 st' lo g9∧1≤(pendingOf st').size) ?_ (fun c st h=>h) ⟨rfl,I,h0⟩ ?_
 ·rintro i ⟨c0,c1⟩ st1 hi ⟨e0,I1,h1⟩
  refine wpS_bind (wpS_get ?_)
  by_cases z:(pendingOf st1).size > 1
  ·rw[if_pos z]
   have hz:(pendingOf st1).size-2<(pendingOf st1).size:=by omega
   rw[Array.getElem?_eq_getElem hz]
   obtain⟨q1,q2,q3⟩:=(pendingOf st1)[(pendingOf st1).size-2]
   dsimp only
   refine a30 (fun _=>wpS_pure ⟨rfl,I1,h1⟩) (fun _=>?_)
   refine wpS_bind (a8Y C T hk hD I1 (by omega) fun st2 I2 h2=>?_)
   exact wpS_pure ⟨rfl,I2,by omega⟩
  ·rw[if_neg z]
   exact wpS_pure ⟨rfl,I1,h1⟩
 ·rintro⟨c0,c1⟩ st1 ⟨e0,I1,h1⟩
  dsimp only at e0
  subst e0
  exact h st1 I1 h1
theorem a9x{a b:Array Keyed}{m:Nat}(hs:a.size=b.size)(h:∀x,x<m→gk a x=gk b x):a.toList.take m=b.toList.take m:=by
 apply List.ext_getElem?
 intro i
 by_cases hi:i<m
 ·rw[List.getElem?_take_of_lt hi,List.getElem?_take_of_lt hi,Array.getElem?_toList,Array.getElem?_toList]
  by_cases hz:i<a.size
  ·rw[a00 hz,a00 (by omega),h i hi]
  ·rw[Array.getElem?_eq_none (by omega),Array.getElem?_eq_none (by omega)]
 ·rw[List.getElem?_eq_none (by rw[List.length_take];omega),List.getElem?_eq_none (by rw[List.length_take];omega)]
theorem SI.add(I:SI lt st0 st lo g9){st1:SortSt}(R:StR st lo (arrOf st).size st1)(hn:1≤n)(hl:lo+n≤(arrOf st).size)(u:UpK lt (arrOf st1) lo n):∃S rest',SI lt st0 st1 lo (S++rest')∧S.length=n∧Srt lt S:=by
 obtain⟨segs,e1,e2,pr⟩:=I.run
 have sz:=R.r.size
 have et:(arrOf st1).toList.take lo=segs.flatten:=by
  rw[a9x sz (fun x hx=>R.r.out x (.inl hx)),e1,← e2,List.take_left]
 have e3:(arrOf st1).toList=segs.flatten++(arrOf st1).toList.drop lo:=by rw[← et,List.take_append_drop]
 refine⟨((arrOf st1).toList.drop lo).take n,((arrOf st1).toList.drop lo).drop n,⟨R.k.trans I.k,R.f.trans I.f,R.r.pm.trans I.pm,segs,by rw[List.take_append_drop];exact e3,e2,by rw[R.p];exact pr⟩,by rw[List.length_take,List.length_drop,Array.length_toList];omega,?_⟩
 refine List.pairwise_iff_getElem.mpr fun i j hi hj hij=>?_
 have hi':=hi
 have hj':=hj
 rw[List.length_take,List.length_drop,Array.length_toList]at hi' hj'
 have at_:∀k,k<n→∀(h:k<(((arrOf st1).toList.drop lo).take n).length),(((arrOf st1).toList.drop lo).take n)[k]=gk (arrOf st1) (lo+k):=fun k hk h=>by
  have e4:(((arrOf st1).toList.drop lo).take n)[k]? = some (gk (arrOf st1) (lo+k)):=by
   rw[List.getElem?_take_of_lt hk,List.getElem?_drop,Array.getElem?_toList,a00 (by omega)]
  rw[List.getElem?_eq_getElem h]at e4
  exact Option.some.inj e4
 rw[at_ i (by omega) hi,at_ j (by omega) hj]
 exact u i j (by omega) (by omega)
theorem SI.push{S:List Keyed}{pw:Nat}(I:SI lt st0 st lo (S++g9))(hn:S.length=n)(h1:1≤n)(hs:Srt lt S):SI lt st0 (setPending st ((pendingOf st).push (lo,n,pw))) (lo+n) g9:=by
 obtain⟨segs,e1,e2,pr⟩:=I.run
 refine⟨I.k,I.f,I.pm,segs++[S],by show(arrOf st).toList=_;rw[e1];simp,by simp only[List.flatten_append,List.flatten_cons,List.flatten_nil,List.length_append,List.length_nil];omega,?_⟩
 show PRun lt ((pendingOf st).push (lo,n,pw)).toList _ 0
 rw[Array.toList_push]
 exact pr.snoc (by show lo=_;omega) (by show n=_;omega) (by omega) hs
theorem SI.pow{f:Nat×Nat×Nat→Nat×Nat×Nat}{i:Nat}(hf:∀p,((f p).1,(f p).2.1)=(p.1,p.2.1))(I:SI lt st0 st lo g9):SI lt st0 (setPending st ((pendingOf st).modify i f)) lo g9:=by
 obtain⟨segs,e1,e2,pr⟩:=I.run
 refine⟨I.k,I.f,I.pm,segs,e1,e2,?_⟩
 show PRun lt ((pendingOf st).modify i f).toList _ 0
 refine pr.pow ?_
 apply List.ext_getElem?
 intro j
 rw[List.getElem?_map,List.getElem?_map,Array.getElem?_toList,Array.getElem?_toList,Array.getElem?_modify]
 split
 ·rename_i z
  cases q:(pendingOf st)[j]? with
  | none=>rfl
  | some p=>simp[hf p]
 ·rfl
end
section
variable {prog:Program}{w:World}{A:Around}{E:Value→Shared→Prop}{s:Shared}{κ:SortKind}{lt:Keyed→Keyed→Bool}{Dm:Keyed→Prop}{st:SortSt}
theorem a7P{p:Prop} [Decidable p] (a:Nat):(if p then a-1 else a)≤a:=by
 split<;>omega
theorem a4M{Q:Unit→SortSt→Prop}(C:x8 prog w A s κ lt Dm)(T:TPK lt Dm)(hk:kindOf st=κ)(hf:failedOf st=none)(hp:pendingOf st = #[])(hD:∀x∈(arrOf st).toList,Dm x)
  (h:∀st',(arrOf st').Perm (arrOf st)→failedOf st'=none→Srt lt (arrOf st').toList→Q () st'):wpS (model prog w) A E s sortRuns' Q st:=by
 rw[sortRuns'_eq]
 refine wpS_bind (wpS_get ?_)
 dsimp only
 have I0:SI lt st st 0 (arrOf st).toList:=⟨rfl,hf,.refl _,[],rfl,rfl,by rw[hp];trivial⟩
 refine wpS_bind (Q2 (fun(i:Nat) (c:Option Unit×Nat) st'=>c.1=none∧i≤c.2∧c.2≤(arrOf st).size∧∃g9,SI lt st st' c.2 g9) (fun(c:Option Unit×Nat) st'=>c.1=none∧∃g9,SI lt st st' (arrOf st).size g9) ?_ ?_ ⟨rfl,Nat.le_refl _,Nat.zero_le _,_,I0⟩ ?_)
 ·rintro i ⟨c0,lo⟩ st1 hi ⟨e0,h1,h2,g9,I⟩
  dsimp only at e0 h1 h2 I
  by_cases z:lo≥(arrOf st).size
  ·rw[if_pos z]
   have e:lo=(arrOf st).size:=by omega
   subst e
   exact wpS_pure ⟨rfl,g9,I⟩
  ·rw[if_neg z]
   have sz:(arrOf st1).size=(arrOf st).size:=I.pm.size_eq
   have hD1:∀x∈(arrOf st1).toList,Dm x:=fun x hx=>hD x (Array.mem_toList_iff.mpr (I.pm.mem_iff.mp (Array.mem_toList_iff.mp hx)))
   refine wpS_bind (a6w C T (I.k.trans hk) hD1 (by omega) (by omega) fun k st2 k1 k2 R u=>?_)
   dsimp only
   have k2:k≤(arrOf st).size-lo:=k2
   have R:StR st1 lo (lo+((arrOf st).size-lo)) st2:=R
   have u:UpK lt (arrOf st2) lo k:=u
   rw[show lo+((arrOf st).size-lo)=(arrOf st1).size by omega]at R
   -- what follows a run of n
   have go:∀(n:Nat) (st3:SortSt),1≤n→lo+n≤(arrOf st).size→StR st1 lo (arrOf st1).size st3→UpK lt (arrOf st3) lo n →
     ∃S rest',SI lt st st3 lo (S++rest')∧S.length=n∧Srt lt S:=fun n st3 n1 n2 R3 u3=>I.add R3 n1 (by omega) u3
   by_cases zr:k<minRun' (arrOf st).size (arrOf st).size 0
   ·rw[if_pos zr]
    refine wpS_bind (wpS_lift (wpAny_rule ⟨rfl,?_⟩))
    refine wpS_bind (a7O C T (I.k.trans hk) hD1 R (Nat.le_refl _) (by omega) k1 (by omega) u fun st3 R3 u3=>?_)
    rw[if_neg (by simp)]
    obtain⟨S,rest',I3,hS,sS⟩:=go _ st3 (by omega) (by omega) R3 u3
    refine wpS_bind (wpS_get ?_)
    have n1':1≤min ((arrOf st).size-lo) (minRun' (arrOf st).size (arrOf st).size 0):=by omega
    have n2':lo+min ((arrOf st).size-lo) (minRun' (arrOf st).size (arrOf st).size 0)≤(arrOf st).size:=by omega
    generalize min ((arrOf st).size-lo) (minRun' (arrOf st).size (arrOf st).size 0)=n at *
    cases hb:(pendingOf st3).back? with
    | none =>
     dsimp only
     refine wpS_bind (wpS_modify (wpS_pure ⟨rfl,by show i+1≤lo+n;omega,by show lo+n≤_;omega,rest',I3.push hS (by omega) sS⟩))
    | some q =>
     obtain⟨s1,n1,pw0⟩:=q
     dsimp only
     have hps:1≤(pendingOf st3).size:=by
      by_cases y:(pendingOf st3).size=0
      ·rw[Array.back?_eq_getElem?,y]at hb
       rw[Array.getElem?_eq_none (by omega)]at hb
       cases hb
      ·omega
     refine wpS_bind (a6x C T hk hD I3 hps fun st4 I4 h4=>?_)
     dsimp only
     refine wpS_bind (wpS_modify (wpS_bind (wpS_modify (wpS_pure ⟨rfl,by show i+1≤lo+n;omega,by show lo+n≤_;omega,rest',SI.push (SI.pow (f:=fun x=>(x.1,x.2.1,power' (arrOf st).size (2*s1+n1) (2*s1+n1+n1+n) (arrOf st).size)) (fun p=>rfl) I4) hS (by omega) sS⟩))))
   ·rw[if_neg zr]
    obtain⟨S,rest',I3,hS,sS⟩:=go _ st2 k1 (by omega) R u
    refine wpS_bind (wpS_get ?_)
    cases hb:(pendingOf st2).back? with
    | none =>
     dsimp only
     refine wpS_bind (wpS_modify (wpS_pure ⟨rfl,by show i+1≤lo+k;omega,by show lo+k≤_;omega,rest',I3.push hS (by omega) sS⟩))
    | some q =>
     obtain⟨s1,n1,pw0⟩:=q
     dsimp only
     have hps:1≤(pendingOf st2).size:=by
      by_cases y:(pendingOf st2).size=0
      ·rw[Array.back?_eq_getElem?,y]at hb
       rw[Array.getElem?_eq_none (by omega)]at hb
       cases hb
      ·omega
     refine wpS_bind (a6x C T hk hD I3 hps fun st4 I4 h4=>?_)
     dsimp only
     refine wpS_bind (wpS_modify (wpS_bind (wpS_modify (wpS_pure ⟨rfl,by show i+1≤lo+k;omega,by show lo+k≤_;omega,rest',SI.push (SI.pow (f:=fun x=>(x.1,x.2.1,power' (arrOf st).size (2*s1+n1) (2*s1+n1+n1+k) (arrOf st).size)) (fun p=>rfl) I4) hS (by omega) sS⟩))))
 ·rintro⟨c0,lo⟩ st1 ⟨e0,h1,h2,g9,I⟩
  dsimp only at e0 h1 h2 I
  have e:lo=(arrOf st).size:=by omega
  subst e
  exact⟨e0,g9,I⟩
 ·rintro⟨c0,lo⟩ st1 ⟨e0,g9,I⟩
  dsimp only at e0
  subst e0
  dsimp only
  refine wpS_bind (Q2 (fun(i:Nat) (c:Option Unit×Unit) st'=>c.1=none∧SI lt st st' (arrOf st).size g9∧(pendingOf st').size+i≤(arrOf st).size+1) (fun(c:Option Unit×Unit) st'=>c.1=none∧SI lt st st' (arrOf st).size g9∧(pendingOf st').size≤1) ?_ ?_ ⟨rfl,I,by have:=I.psz;show(pendingOf st1).size+0≤_;omega⟩ ?_)
  ·rintro i ⟨d0,d1⟩ st2 hi ⟨f0,I2,h2⟩
   dsimp only at f0 h2
   refine wpS_bind (wpS_get ?_)
   by_cases z:(pendingOf st2).size≤1
   ·rw[if_pos z]
    exact wpS_pure ⟨rfl,I2,z⟩
   ·rw[if_neg z]
    have key:∀j,j+1<(pendingOf st2).size→wpS (model prog w) A E s (do
      let __do_lift ← mergeAt' j
      if(!__do_lift)=true then pure (ForInStep.done (some (),()))else pure (ForInStep.yield (none,()))) (fun(r:ForInStep (Option Unit×Unit)) st'=>match r with
       | .done c'=>c'.1=none∧SI lt st st' (arrOf st).size g9∧(pendingOf st').size≤1
       | .yield c'=>c'.1=none∧SI lt st st' (arrOf st).size g9∧(pendingOf st').size+(i+1)≤(arrOf st).size+1) st2:=fun j hj =>
     wpS_bind (a8Y C T hk hD I2 hj fun st3 I3 h3=>wpS_pure ⟨rfl,I3,by show(pendingOf st3).size+(i+1)≤_;omega⟩)
    refine wpS_mono (key _ ?_) fun r st' q=>by cases r<;>exact q
    exact Nat.lt_of_le_of_lt (Nat.add_le_add_right (a7P _) 1) (by omega)
  ·rintro⟨d0,d1⟩ st2 ⟨f0,I2,h2⟩
   dsimp only at f0 h2
   exact⟨f0,I2,by show(pendingOf st2).size≤1;omega⟩
  ·rintro⟨d0,d1⟩ st2 ⟨f0,I2,h2⟩
   dsimp only at f0
   subst f0
   refine wpS_pure (h st2 I2.pm I2.f ?_)
   obtain⟨segs,e1,e2,pr⟩:=I2.run
   have sz:(arrOf st2).toList.length=(arrOf st).size:=by rw[Array.length_toList];exact I2.pm.size_eq
   have er:g9=[]:=by
    have:=congrArg List.length e1
    rw[List.length_append,sz,e2]at this
    exact List.eq_nil_of_length_eq_zero (by omega)
   have hl:=pr.len.1
   rw[Array.length_toList]at hl
   rw[e1,er,List.append_nil]
   match segs,pr,hl with
   | [],_,_=>exact List.Pairwise.nil
   | [S],pr,_ =>
    match hq:(pendingOf st2).toList,pr with
    | p::ps,pr =>
     obtain⟨_,_,_,hs,_⟩:=pr
     simpa using hs
   | _::_::_,_,hl=>simp at hl;omega
end
theorem TupPre.uniq{h:Heap}{v:Value}{k l:List Int}(t:TupPre h v k)(t':TupPre h v l)(hl:k.length=l.length):k=l:=by
 obtain⟨a,o,xs,m,vs,rs,e1,ho,_,hd,hx,hi,_⟩:=t
 obtain⟨a',o',xs',m',vs',rs',e2,ho',_,hd',hx',hi',_⟩:=t'
 rw[e1]at e2;cases e2
 rw[ho]at ho';cases ho'
 rw[hd]at hd';cases hd'
 rw[hx]at hx'
 have hv:vs=vs':=(List.append_inj hx' (by rw[hi.length,hi'.length,hl])).1
 rw[← IntsAre.numsOf hi,← IntsAre.numsOf hi',hv]
theorem a6y{α β:Type}(f:α→β){a:List β}{b:List β}(h:a.Perm b):∀l:List α,b=l.map f→∃m:List α,m.Perm l∧a=m.map f:=by
 induction h with
 | nil=>intro l e;exact⟨l,.refl _,e⟩
 | cons x p ih =>
  intro l e
  cases l with
  | nil=>cases e
  | cons y l =>
   rw[List.map_cons]at e
   injection e with e1 e2
   obtain⟨m,p1,q1⟩:=ih l e2
   exact⟨y::m,p1.cons y,by rw[List.map_cons,e1,q1]⟩
 | swap x y r =>
  intro l e
  match l,e with
  | a::b::l,e =>
   rw[List.map_cons,List.map_cons]at e
   injection e with e1 e2
   injection e2 with e2 e3
   exact⟨b::a::l,.swap _ _ _,by rw[List.map_cons,List.map_cons,e1,e2,e3]⟩
 | trans p q ih1 ih2 =>
  intro l e
  obtain⟨m1,p1,q1⟩:=ih2 l e
  obtain⟨m2,p2,q2⟩:=ih1 m1 q1
  exact⟨m2,p2.trans p1,q2⟩
section
variable {X:Cx}{pins:List (Addr×Obj)}{σ:St}{H:Hp}{s:Shared}{A':Around}{E:Value→Shared→Prop}
theorem a10{D kS:Addr}{vs:List Value}{xs:List V}{e1 e2:Nat}{kA:Array Value}{st:SortSt}{p:List Nat}{P:PySem.Fin→Shared→Prop}(I:Inv X pins σ H s)(fD:FpOk X pins H D)(fk:FpOk X pins H kS)(ne:kS≠D)(hD:s.heap.get? D=some (seqObj "list" #[] e1))(hk:s.heap.get? kS=some (seqObj "list" kA e2))(rv:Vals xs vs)(h64:vs.length<1000)(hkA:kA.size≤vs.length)
  (hout:(arrOf st).map (·.2)=(p.map fun i=>vs.getD i Value.none).toArray) (hf:failedOf st=none) (hp:p.Perm (List.range xs.length))
  (h:∀s',Inv X pins σ (upd H D (.lst (p.map fun i=>xs.getD i .non))) s'→P (.done (.ret .none)) s'):wpAny (model X.prog X.w) A' (ksk_tail D false e1 (.ref kS) st) P E s:=by
 have hlen:=rv.length
 have hsz3:((p.map fun i=>vs.getD i Value.none).toArray).size=vs.length:=by rw[List.size_toArray,List.length_map,hp.length_eq,List.length_range,hlen]
 have s1:=Heap.SameBut.update s.heap kS (Obj.mapSeq fun _=>(#[]:Array Value))
 have na1:(s.heap.update kS (Obj.mapSeq fun _=>(#[]:Array Value))).get? D=some (seqObj "list" #[] e1):=(s1.2 D (Ne.symm ne)).trans hD
 have s2:=Heap.SameBut.update (s.heap.update kS (Obj.mapSeq fun _=>(#[]:Array Value))) D (Obj.mapSeq fun _=>(p.map fun i=>vs.getD i Value.none).toArray)
 obtain⟨c2,hc2⟩:∃c2,((s.heap.update kS (Obj.mapSeq fun _=>(#[]:Array Value))).update D (Obj.mapSeq fun _=>(p.map fun i=>vs.getD i Value.none).toArray)).get? D=some (seqObj "list" (p.map fun i=>vs.getD i Value.none).toArray c2):=⟨_,get?_update_seq na1 fun _=>_⟩
 unfold ksk_tail
 rw[hout,hf]
 dsimp only
 refine wpAny_bind (listUpdate_at hk rfl ?_ (by rw[sizeLine_eq];omega) (Nat.zero_le _))
 refine wpAny_bind (wpAny_letGo ?_)
 refine wpAny_bind (seqEpoch_at na1 rfl ?_)
 refine wpAny_bind (listUpdate_at na1 rfl ?_ (Nat.zero_le _) (Nat.le_trans (Nat.le_of_eq hsz3) (by rw[sizeLine_eq];omega)))
 simp only[bne_self_eq_false,Bool.false_eq_true,if_false]
 refine wpAny_pure (h _ ?_)
 have I2:=I.turnedN (t':=s.toks) (ch:=[kS,D]) (h':=((s.heap.update kS (Obj.mapSeq fun _=>(#[]:Array Value))).update D (Obj.mapSeq fun _=>(p.map fun i=>vs.getD i Value.none).toArray))) (fun b u hb e=>by
  simp only[List.mem_cons,List.not_mem_nil,or_false,not_or]at hb
  exact(s2.2 b hb.2).trans ((s1.2 b hb.1).trans e)) (fun b hb=>by
  simp only[List.mem_cons,List.not_mem_nil,or_false]at hb
  rcases hb with rfl | rfl
  ·exact fk
  ·exact fD)
 refine I2.trackO ?_ hc2 rfl ?_
 ·rintro(z | ⟨z,o,e⟩ | ⟨q,hq,e⟩)
  ·exact z fD.1
  ·rcases fD.2.2.2.1 with y | y
   ·exact z y
   ·exact absurd (Heap.lt_size e) (Nat.not_lt.mpr y)
  ·exact fD.2.2.2.2.2 q hq e
 ·refine⟨?_,p.map fun i=>vs.getD i Value.none,c2,a20 p rv fun i hi=>List.mem_range.mp (hp.mem_iff.mp hi),hc2⟩
  rw[List.length_map,hp.length_eq,List.length_range,hlen,sizeLine_eq]
  omega
theorem a6z{D kS:Addr}{vs keys:List Value}{xs ys:List V}{ks:List (List Int)}{e1 e2:Nat}{P:PySem.Fin→Shared→Prop}(I:Inv X pins σ H s)(fD:FpOk X pins H D)(fk:FpOk X pins H kS)(ne:kS≠D)(hD:s.heap.get? D=some (seqObj "list" #[] e1))(hk:s.heap.get? kS=some (seqObj "list" keys.toArray e2))(rv:Vals xs vs)(rk:Vals ys keys)(hl:keys.length=vs.length)(h64:vs.length<1000)
  (vp:VPs X.K H ys ks) (hd:∀i j,i<ys.length→j<ys.length→i≠j→(ks.getD i []).length=(ks.getD j []).length∧ks.getD i []≠ks.getD j [])
  (h:∀(p:List Nat) s',p.Perm (List.range xs.length)→p.Pairwise (fun i j=>HT.lexLt (ks.getD j []) (ks.getD i [])=false)→Inv X pins σ (upd H D (.lst (p.map fun i=>xs.getD i .non))) s'→P (.done (.ret .none)) s') :
  wpAny (model X.prog X.w) A' (ksk_end D false vs.toArray e1 (.ref kS) keys.toArray) P E s:=by
 have hxl:=rv.length
 have hyl:=rk.length
 have tp:TPs s.heap keys ks:=a42 I rk vp
 unfold ksk_end
 simp only[Bool.false_eq_true,if_false]
 by_cases h2':vs.toArray.size<2
 ·rw[if_pos h2',if_pos h2']
  refine wpAny_bind (wpAny_pure ?_)
  rw[StateT.run_pure]
  refine wpAny_bind (wpAny_pure ?_)
  have hlen:vs.length<2:=by simpa using h2'
  refine a10 (st:=SortSt.mk' general' (keys.toArray.zip vs.toArray) #[] 7 none) (p:=List.range xs.length) I fD fk ne hD hk rv h64 (by simp;omega) ?_ rfl (List.Perm.refl _) fun s' J=>h _ s' (List.Perm.refl _) ?_ J
  ·show(keys.toArray.zip vs.toArray).map (·.2)=_
   rw[hxl]
   match vs,keys,hl,hlen with
   | [],[],_,_=>simp
   | [_],[_],_,_=>simp
  ·match hn:xs.length,(show xs.length<2 by omega)with
   | 0,_=>exact .nil
   | 1,_=>exact List.pairwise_singleton _ _
 ·rw[if_neg h2',if_neg h2']
  have hlen:2≤vs.length:=by simp at h2';omega
  obtain⟨fs,t1,t2,t3⟩:=a40 tp
  refine wpAny_bind (kat_kind (T:=.type "int") t1 (by omega) (fun v hv=>by obtain⟨i,t,rfl⟩:=t3 v hv;exact .of_pure rfl) (by decide) ?_)
  have eb:(Value.type "int" != Value.type "tuple")=true:=by decide +kernel
  rw[eb]
  have hz:(keys.toArray.zip vs.toArray).toList=(List.range vs.length).map fun i=>(keys.getD i Value.none,vs.getD i Value.none):=by
   apply List.ext_getElem?
   intro i
   rw[List.getElem?_map,ksk_zip,List.toList_toArray]
   by_cases hi:i<vs.length
   ·have h1:keys[i]? = some (keys.getD i Value.none):=by rw[List.getD_eq_getElem?_getD,List.getElem?_eq_getElem (by omega)];rfl
    have h2:vs[i]? = some (vs.getD i Value.none):=by rw[List.getD_eq_getElem?_getD,List.getElem?_eq_getElem hi];rfl
    rw[List.getElem?_range hi]
    exact List.getElem?_zip_eq_some.mpr ⟨h1,h2⟩
   ·rw[List.getElem?_eq_none (by simp;omega),List.getElem?_eq_none (by simp;omega)]
    rfl
  let kf:Keyed→List Int:=fun x=>if hx:∃i,i<vs.length∧(keys.getD i Value.none,vs.getD i Value.none)=x then ks.getD (Classical.choose hx) []else[]
  have kfe:∀x,(∃i,i<vs.length∧(keys.getD i Value.none,vs.getD i Value.none)=x)→∃i,i<vs.length∧(keys.getD i Value.none,vs.getD i Value.none)=x∧kf x=ks.getD i []:=fun x hx=>by
   refine⟨Classical.choose hx,(Classical.choose_spec hx).1,(Classical.choose_spec hx).2,?_⟩
   show dite _ _ _=_
   rw[dif_pos hx]
  have kfi:∀i,i<vs.length→kf (keys.getD i Value.none,vs.getD i Value.none)=ks.getD i []:=fun i hi=>by
   obtain⟨j,hj,e,ek⟩:=kfe _ ⟨i,hi,rfl⟩
   rw[ek]
   by_cases z:j=i
   ·rw[z]
   ·have e1:keys.getD j Value.none=keys.getD i Value.none:=(Prod.mk.inj e).1
    obtain⟨hln,_⟩:=hd j i (by omega) (by omega) z
    exact TupPre.uniq (tp.at j (by omega)) (e1▸tp.at i (by omega)) hln
  have T:TPK (fun x y=>HT.lexLt (kf x) (kf y)) (fun x=>∃i,i<vs.length∧(keys.getD i Value.none,vs.getD i Value.none)=x):=⟨fun x _=>T5 _,fun x y z _ _ _ h1 h2=>a3X _ _ _ h1 h2,fun x y _ _ h=>a2x _ _ h⟩
  have CO:x8 X.prog X.w A' s (tuples' true) (fun x y=>HT.lexLt (kf x) (kf y)) (fun x=>∃i,i<vs.length∧(keys.getD i Value.none,vs.getD i Value.none)=x):=fun x y hx hy Q hQ=>by
   obtain⟨i,hi,e1,k1⟩:=kfe x hx
   obtain⟨j,hj,e2,k2⟩:=kfe y hy
   have hQ:Q (HT.lexLt (kf x) (kf y)) s:=hQ
   rw[k1,k2]at hQ
   have ex:x.1=keys.getD i Value.none:=by rw[← e1]
   have ey:y.1=keys.getD j Value.none:=by rw[← e2]
   rw[ex,ey]
   by_cases z:i=j
   ·subst z
    refine TupPre.lt_self (tp.at i (by omega)) ?_
    rw[T5]at hQ
    exact hQ
   ·obtain⟨e,n⟩:=hd i j (by omega) (by omega) z
    exact TupPre.lt (tp.at i (by omega)) (tp.at j (by omega)) e n hQ
  refine wpAny_bind (wpAny_mono (a4M (E:=E) (st:=SortSt.mk' (tuples' true) (keys.toArray.zip vs.toArray) #[] 7 none) (Q:=fun _ st'=>(arrOf st').Perm (keys.toArray.zip vs.toArray)∧failedOf st'=none∧Srt (fun x y=>HT.lexLt (kf x) (kf y)) (arrOf st').toList) CO T rfl rfl rfl (fun x hx=>?_) fun st' a1 a2 a3=>⟨a1,a2,a3⟩) ?_ fun _ _ x=>x)
  ·have hx:x∈(keys.toArray.zip vs.toArray).toList:=hx
   rw[hz]at hx
   obtain⟨i,hi,e⟩:=List.mem_map.mp hx
   exact⟨i,List.mem_range.mp hi,e⟩
  ·rintro⟨⟨⟩,st'⟩ s' ⟨rfl,hP,hf,hS⟩
   have hP':=Array.perm_iff_toList_perm.mp hP
   rw[hz]at hP'
   obtain⟨p,hp,ep⟩:=a6y (fun i=>(keys.getD i Value.none,vs.getD i Value.none)) hP' (List.range vs.length) rfl
   have hPx:p.Perm (List.range xs.length):=by rw[hxl];exact hp
   have hlt:∀i∈p,i<vs.length:=fun i hi=>List.mem_range.mp (hp.mem_iff.mp hi)
   refine a10 (p:=p) I fD fk ne hD hk rv h64 (by simp;omega) ?_ hf hPx fun s' J=>h _ s' hPx ?_ J
   ·apply Array.toList_inj.mp
    rw[Array.toList_map,show(arrOf st').toList=_ from ep,List.map_map]
    rfl
   ·rw[show(arrOf st').toList=_ from ep]at hS
    have hS:=List.pairwise_map.mp hS
    exact List.Pairwise.imp_of_mem (fun{a b} ha hb hab=>by
     have hab:HT.lexLt (kf (keys.getD b Value.none,vs.getD b Value.none)) (kf (keys.getD a Value.none,vs.getD a Value.none))=false:=hab
     rw[kfi a (hlt a ha),kfi b (hlt b hb)]at hab
     exact hab) hS
theorem a6A{D f:Addr}{vs:List Value}{xs:List V}{n0:Nat}{W:Nat→List V→Hp→Prop}{P:PySem.Fin→Shared→Prop}(I:Inv X pins σ H s)(hD:s.heap.get? D=some (seqObj "list" vs.toArray n0))(fD:FpOk X pins H D)(rv:Vals xs vs)(h64:vs.length<1000)(w0:W 0 [] H)
  (turn:∀i x v ys H' s',xs[i]? = some x→RelV x v→W i ys H'→Inv X pins σ H' s'→(∀b o u,H b=some (.frz o u)→H' b=some (.frz o u))→wpAny (model X.prog X.w) A' (call (.ref f) [v]) (fun w s''=>∃y H2,Inv X pins σ H2 s''∧RelV y w∧W (i+1) (ys++[y]) H2∧Un (B6 X.stack) [] H' H2 s'.heap s''.heap) (fun _ _=>False) s')
  (fin:∀ys H',ys.length=xs.length→W xs.length ys H'→H' D=none→∃ks,VPs X.K H' ys ks∧(∀i j,i<ys.length→j<ys.length→i≠j→(ks.getD i []).length=(ks.getD j []).length∧ks.getD i []≠ks.getD j []) ∧
   ∀(p:List Nat) s',p.Perm (List.range xs.length)→p.Pairwise (fun i j=>HT.lexLt (ks.getD j []) (ks.getD i [])=false)→Inv X pins σ (upd H' D (.lst (p.map fun i=>xs.getD i .non))) s'→P (.done (.ret .none)) s') :
  wpAny (model X.prog X.w) A' (ksk_tree D (.ref f) false) P E s:=by
 have ha:D<s.heap.objs.size:=Heap.lt_size hD
 have s1:=Heap.SameBut.update s.heap D (Obj.mapSeq fun _=>(#[]:Array Value))
 obtain⟨e1,ho1⟩:∃e1,(s.heap.update D (Obj.mapSeq fun _=>(#[]:Array Value))).get? D=some (seqObj "list" #[] e1):=⟨_,get?_update_seq hD fun _ => #[]⟩
 have hkS:((s.heap.update D (Obj.mapSeq fun _=>(#[]:Array Value))).push (seqObj "tuple" vs.toArray 0)).objs.size=s.heap.objs.size+1:=by rw[size_push',Heap.size_update]
 have hxl:=rv.length
 unfold ksk_tree
 refine wpAny_bind (listItems_at hD rfl ?_)
 refine wpAny_bind (listUpdate_at hD rfl ?_ (by rw[List.size_toArray,sizeLine_eq];omega) (Nat.zero_le _))
 refine wpAny_bind (seqEpoch_at ho1 rfl ?_)
 refine wpAny_bind (wpAny_newTuple ?_ (by show vs.length≤_;rw[sizeLine_eq];omega))
 refine wpAny_bind (wpAny_newList ?_ (Nat.zero_le _))
 refine wpAny_holding ?_
 show wpAny (model X.prog X.w) A' (ksk_rest D (.ref f) false vs.toArray e1 (.ref ((s.heap.update D (Obj.mapSeq fun _=>(#[]:Array Value))).push (seqObj "tuple" vs.toArray 0)).objs.size)) P E { s with heap:=((s.heap.update D (Obj.mapSeq fun _=>(#[]:Array Value))).push (seqObj "tuple" vs.toArray 0)).push (seqObj "list" #[] 0) }
 have hkO:(((s.heap.update D (Obj.mapSeq fun _=>(#[]:Array Value))).push (seqObj "tuple" vs.toArray 0)).push (seqObj "list" #[] 0)).get? ((s.heap.update D (Obj.mapSeq fun _=>(#[]:Array Value))).push (seqObj "tuple" vs.toArray 0)).objs.size=some (seqObj "list" #[] 0):=Heap.get?_push_size _ rfl
 have hDO:(((s.heap.update D (Obj.mapSeq fun _=>(#[]:Array Value))).push (seqObj "tuple" vs.toArray 0)).push (seqObj "list" #[] 0)).get? D=some (seqObj "list" #[] e1):=Heap.get?_push_of_some _ (Heap.get?_push_of_some _ ho1)
 have I2:=I.turnedN (t':=s.toks) (ch:=[D]) (h':=((s.heap.update D (Obj.mapSeq fun _=>(#[]:Array Value))).push (seqObj "tuple" vs.toArray 0)).push (seqObj "list" #[] 0)) (fun b u hb e=>Heap.get?_push_of_some _ (Heap.get?_push_of_some _ ((s1.2 b (fun z=>hb (by simp[z]))).trans e))) (fun b hb=>by
  simp only[List.mem_singleton]at hb;rw[hb];exact fD)
 rw[hkS]at hkO ⊢
 have fk:FpOk X pins H (s.heap.objs.size+1):=I.fpOk (Nat.le_succ _) (I.hok.fresh (Nat.le_succ _))
 have ne:s.heap.objs.size+1≠D:=Nat.ne_of_gt (Nat.lt_succ_of_lt ha)
 generalize ((s.heap.update D (Obj.mapSeq fun _=>(#[]:Array Value))).push (seqObj "tuple" vs.toArray 0)).push (seqObj "list" #[] 0)=h2 at *
 generalize s.heap.objs.size+1=kS at *
 have nD:=fD.nstk I
 have nk:=fk.nstk I
 unfold ksk_rest
 refine wpAny_bind (wpAny_rule ?_)
 first
  | rw[List.forIn_toArray]
  | (rw[← Array.forIn_toList];simp only[List.toList_toArray])
  | rw[← Array.forIn_toList]
 refine wpAny_bind (ksk_fold (fun i s'=>∃H' ys kA e,Inv X pins σ H' s'∧W i ys H'∧Vals ys kA∧ys.length=i∧s'.heap.get? kS=some (seqObj "list" kA.toArray e)∧s'.heap.get? D=some (seqObj "list" #[] e1)∧H' kS=none∧H' D=none∧∀b o u,H b=some (.frz o u)→H' b=some (.frz o u)) vs 0 { s with heap:=h2 }
  ⟨H,[],[],0,I2,w0,.nil,rfl,hkO,hDO,fk.1,fD.1,fun _ _ _ e=>e⟩ ?step ?done)
 case step =>
  rintro j v s' hv ⟨H',ys,kA,e,I',wj,rk,ly,ok,od,nk',nd',fz⟩
  simp only[Nat.zero_add]at wj ly ⊢
  obtain⟨x,hx,rx⟩:=a9u rv hv
  have hj:j<vs.length:=(List.getElem?_eq_some_iff.mp hv).1
  have hz:=rk.length
  refine wpAny_bind (wpAny_attempt (wpAny_mono (turn j x v ys H' s' hx rx wj I' fz) (fun u s'' hu=>?_) fun _ _ z=>z.elim))
  obtain⟨y,H3,I3,ry,w3,un⟩:=hu
  have ok3:=un.keep kS _ ok nk' nk (by simp)
  have od3:=un.keep D _ od nd' nD (by simp)
  have s3:=Heap.SameBut.update s''.heap kS (Obj.mapSeq (·.push u))
  obtain⟨c2,hc2⟩:∃c2,(s''.heap.update kS (Obj.mapSeq (·.push u))).get? kS=some (seqObj "list" (kA.toArray.push u) c2):=⟨_,get?_update_seq ok3 (·.push u)⟩
  have nk3:=un.free kS _ ok nk' (by simp)
  have nd3:=un.free D _ od nd' (by simp)
  refine wpAny_bind (listUpdate_at ok3 rfl ?_ (by rw[List.size_toArray,sizeLine_eq];omega) (Nat.le_trans (Nat.le_of_eq (Array.size_push ..)) (by rw[List.size_toArray,sizeLine_eq];omega)))
  refine wpAny_pure ⟨rfl,H3,ys++[y],kA++[u],c2,I3.turnedN (ch:=[kS]) (fun b o hb e=>(s3.2 b (fun z=>hb (by simp[z]))).trans e) (fun b hb=>by
   simp only[List.mem_singleton]at hb;rw[hb];exact fk.to nk3),w3,?_,by rw[List.length_append,ly];rfl,?_,(s3.2 D (Ne.symm ne)).trans od3,nk3,nd3,fun b o u e=>un.frzs _ _ _ (fz b o u e)⟩
  ·exact rk.append (.cons ry .nil)
  ·rw[show(kA++[u]).toArray=kA.toArray.push u by simp];exact hc2
 case done =>
  rintro s' ⟨H',ys,kA,e,I',wj,rk,ly,ok,od,nk',nd',fz⟩
  rw[Nat.zero_add]at wj ly
  rw[← hxl]at wj ly
  obtain⟨ks,vp,hd,q⟩:=fin ys H' ly wj nd'
  refine wpAny_bind (listItems_at ok rfl ?_)
  have:=rk.length
  exact a6z I' (fD.to nd') (fk.to nk') ne od ok rv rk (by omega) h64 vp hd q
end
def a6B(K:PySem.W.Frag)(te:TE)(js:List Nat)(σ:St)(Q:VK)(vs:List V)(H1:Hp):Prop:=∃(n:Nat) (r:Addr),vs=[.ref r]∧H1 r=some (.rng 0 (n:Int))∧n<1000 ∧
 ∀H2:Hp,(∀a o,H1 a=some o→H2 a=some o)→∃W:Nat→List V→Hp→Prop,W 0 [] H2∧(∀i ys H',i<n→W i ys H'→te (a3r js σ (.int (i:Int))) H' fun y H''=>W (i+1) (ys++[y]) H'') ∧
  ∀ys H',ys.length=n→W n ys H'→∃ks,VPs K H' ys ks∧(∀i j,i<ys.length→j<ys.length→i≠j→(ks.getD i []).length=(ks.getD j []).length∧ks.getD i []≠ks.getD j []) ∧
   ∀l (p:List Nat),H' l=none→p.Perm (List.range n)→p.Pairwise (fun i j=>HT.lexLt (ks.getD j []) (ks.getD i [])=false)→Q (.ref l) (upd H' l (.lst (p.map fun(i:Nat)=>V.int (i:Int))))
def a6C(K:W.Frag)(ta:TA)(te:TE)(js:List Nat):TE:=fun σ H Q=>ta σ H fun xs H1=>a3s xs H1 fun x H2=>a6B K te js σ Q [x] H2
section
variable {X:Cx}
theorem a7Q{k:Nat}{e body:Expr}{params:Arguments}{scope:Scope}{p p2 pos pos2 lpos kpos:Pos}{ta:TA}{te:TE}{c P:Addr}{q kn:Str}{Nc:List Str}{js:List Nat}(hr:Room k X.A)(hcalm:X.calm=true)(hg:Gl X "sorted")(hm:X.mg "sorted" = none)(hg2:Gl X "range")(hm2:X.mg "range" = none)(ha:PA X [e] ta)
  (hd:defaultsOf params X.env=([],[])) (hcode:X.env.code=.ref c) (C:CodeHd X.base c P) (hbl:X.base.BuiltinsAt X.mg P) (hq:q=X.env.qual ++ "<lambda>") (hT0:TbAt P q X.H₀) (S:CompSc X.env.scope scope X.N Nc 1 js) (hk0:Nc[0]? = some kn) (hloc:scope.names.lookup kn=some .local)
  (hbd:∀cl pm cv ctv v,bindArgs (kla_fn "<lambda>" q params body scope cl pm cv ctv) ⟨[v],[]⟩=pure [(kn,v)]) (hco:scope.isCoroutine=false) (hgen:scope.isGenerator=false)
  (hbody:∀f c' s' H',PE (a5D X X.A.in1.in1 scope q Nc f c' s' H') body te)
  (he:backTo pos (starEach [Expr.Call (.Name "range" p2) [e] [] pos2] X.env)=(false,eval (.Call (.Name "range" p2) [e] [] pos2) X.env)::backTo pos (starEach [] X.env):=by rfl) (hplain:(backTo pos (starEach [Expr.Call (.Name "range" p2) [e] [] pos2] X.env)).any (·.1)=false:=by rfl)
  (he2:starEach [e] X.env=(false,eval e X.env)::starEach [] X.env:=by rfl) (hpl2:(backTo pos2 (starEach [] X.env)).any (·.1)=false:=by rfl) :
  PE X (.Call (.Name "sorted" p) [.Call (.Name "range" p2) [e] [] pos2] [⟨some "key",.Lambda params body scope lpos,kpos⟩] pos) (a6C X.K ta te js):=by
 intro pins s σ H Q I h
 have hrng:PE X (.Call (.Name "range" p2) [e] [] pos2) (tCB a3s ta):=V8 a4C hg2 hm2 a4F ha (by decide) (by decide) he2 hpl2
 have hlam:PE X (.Lambda params body scope lpos) (fun σ H Q=>∀f c' oc u pm ctv H',(∀a o,H a=some o→H' a=some o)→H' f=some (.frz (X1 X params body scope q c' pm ctv) (.own f))→H' c'=some (.frz oc u)→a0Z oc q→Q (.ref f) H'):=by
  intro pins s σ H Q I h
  obtain⟨qs,tq,hT,hqs⟩:=hT0.now I.base
  exact a7K I hd hcode C hbl hT hqs hq S.free fun f c' oc u pm ctv H' s' I' ex h1 h2 h3=>⟨.ref f,H',I',rfl,h f c' oc u pm ctv H' ex h1 h2 h3⟩
 have hk:=X5 (nm:=some "key") (kpos:=kpos) hlam (a0v (X:=X))
 have har:PA X [.Call (.Name "range" p2) [e] [] pos2] (A3 (tCB a3s ta) L5):=a6 hrng c6
 refine wpAny_Call_Name_kw (T7 I hg hm a4E ?_)
 refine callWith_kw (i2 (har pos pins s σ H (a6B X.K te js σ Q) I h) fun us s1 ⟨vs,H1,I1,r1,q1⟩=>?_) he hplain
 obtain⟨n,r,rfl,hrr,h64,q2⟩:=q1
 refine i2 (hk pos pins s1 σ H1 (fun zs H2=>∃f c' oc u pm ctv,zs=[.ref f]∧(∀a o,H1 a=some o→H2 a=some o)∧H2 f=some (.frz (X1 X params body scope q c' pm ctv) (.own f))∧H2 c'=some (.frz oc u)∧a0Z oc q) I1 fun f c' oc u pm ctv H' ex h1 h2 h3=>⟨f,c',oc,u,pm,ctv,rfl,ex,h1,h2,h3⟩) fun ws s2 ⟨zs,H2,I2,r2,q3⟩=>?_
 obtain⟨f,c',oc,u,pm,ctv,rfl,ex,hf,hc',hcq⟩:=q3
 obtain⟨W,w0,step,fin⟩:=q2 H2 ex
 obtain⟨u1,rfl,ru⟩:=r1.one
 obtain⟨u2,rfl,ru2⟩:=r2.one
 cases (show u1=Value.ref r from ru)
 cases (show u2=Value.ref f from ru2)
 obtain⟨t0,t1,t2,hro⟩:=I2.hok r _ (ex r _ hrr)
 have hh:X.A.handled=none:=I.ok.hd hcalm
 refine call_function_entry_kw kind_sorted plain_sorted entry_sorted (ksk_s1 _ _) ?_
 unfold Builtin.«sorted»
 refine wpAny_bind (m:=checkCount "sorted" 1 1 _) (wpAny_pure ?_)
 have hn:Builtin.Range.rangeSize 0 (n:Int) 1=(n:Int):=by
  unfold Builtin.Range.rangeSize
  rw[if_pos (by omega)]
  by_cases z:(0:Int)<n
  ·rw[if_pos z];omega
  ·rw[if_neg z];omega
 refine wpAny_bind (a4B (A:=X.A.in1) hh hro (small_one (by omega) (by omega) (by omega) (by omega)) hn (by omega) fun h' tk acc kp hi=>?_)
 have rv:Vals ((List.range n).map fun(i:Nat)=>V.int (i:Int)) acc.toList:=a4D hi
 have hal:acc.toList.length=n:=by rw[← rv.length,List.length_map,List.length_range]
 refine wpAny_bind (wpAny_newList ?_ (by rw[sizeLine_eq];omega))
 have I3:Inv X pins σ H2 { s2 with heap:=h',toks:=tk }:=I2.kept kp
 have hD:(h'.push (seqObj "list" acc.toList.toArray 0)).get? h'.objs.size=some (seqObj "list" acc.toList.toArray 0):=Heap.get?_push_size _ rfl
 have fD:FpOk X pins H2 h'.objs.size:=I3.fpOk (Nat.le_refl _) (I3.hok.fresh (Nat.le_refl _))
 have I4:Inv X pins σ H2 { s2 with heap:=h'.push (seqObj "list" acc.toList.toArray 0),toks:=tk }:=I3.kept (t':=tk) fun b o e=>Heap.get?_push_of_some (seqObj "list" acc.toList.toArray 0) e
 show wpAny _ _ _ _ _ { s2 with heap:=h'.push (seqObj "list" acc.toList.toArray 0),toks:=tk }
 refine wpAny_bind (wpAny_holding (wpAny_call_entry_kw slot_list_sort ⟨_,hD,rfl⟩ entry_list_sort ?body (ksk_l1 _ _)))
 case body =>
  show wpAny (model X.prog X.w) X.A.in1.in1 (Builtin.«list.sort» ⟨[.ref h'.objs.size],[(Str.ofString "key",.ref f)]⟩) _ _ _
  rw[ksk_t1]
  have hfr:X.A.in1.in1.frames=some X.stack:=I.ok.frames
  have hdp:X.A.in1.in1.depth<recursionLimit:=by have:=hr.dp;show X.A.depth<_;omega
  refine a6A (W:=W) (xs:=(List.range n).map fun(i:Nat)=>V.int (i:Int)) I4 hD fD rv (by omega) w0 (fun i x v ys H' s' hx rx wi I' fz=>?_) (fun ys H' hl wn hnD=>?_)
  ·rw[List.getElem?_map]at hx
   cases e:(List.range n)[i]? with
   | none=>rw[e]at hx;cases hx
   | some j =>
    rw[e]at hx
    cases hx
    obtain⟨e1,e2⟩:=List.getElem?_eq_some_iff.mp e
    rw[List.getElem_range]at e2
    subst e2
    rw[List.length_range]at e1
    exact a7L I' hfr hh hdp S hk0 hloc (fz _ _ _ hf) (fz _ _ _ hc') hcq (hbd _ _ _ _ _) hco hgen (hbody f c' s' H') rx (step i ys H' e1 wi)
  ·rw[List.length_map,List.length_range]at hl wn
   obtain⟨ks,vp,hd,q⟩:=fin ys H' hl wn
   refine⟨ks,vp,hd,fun p s' hp hs J=>⟨_,rfl,wpAny_pure ⟨_,rfl,.ref h'.objs.size,_,J,rfl,?_⟩⟩⟩
   rw[List.length_map,List.length_range]at hp
   have e:(p.map fun i=>((List.range n).map fun(i:Nat)=>V.int (i:Int)).getD i .non)=p.map fun(i:Nat)=>V.int (i:Int):=by
    refine List.map_congr_left fun i hi=>?_
    have hi:=List.mem_range.mp (hp.mem_iff.mp hi)
    simp[List.getD,hi]
   rw[e]
   exact q _ p hnD hp hs
end
inductive D where
 | non | bl (b:Bool) | int (i:Int) | str (x:Str) | ty (n:String) | cls (n:Str) | tup (ds:List D) | lst (ds:List D) | scr (ns:List Int) | exc (c:Str) | obj (c:Str) (ns:List Str) (ds:List D)
mutual
def Rp(K:W.Frag)(cl:Str→Addr)(F:Hp):D→V→Prop
 | .non,v=>v=.non
 | .bl b,v=>v=.bl b
 | .int i,v=>v=.int i
 | .str x,v=>v=.str x
 | .ty n,v=>v=.ty n
 | .cls n,v=>v=.ref (cl n)
 | .tup ds,v=>∃a xs,v=.ref a∧F a=some (.tup xs)∧Rps K cl F ds xs
 | .lst ds,v=>∃a xs,v=.ref a∧F a=some (.lst xs)∧Rps K cl F ds xs
 | .scr ns,v=>∃a,v=.ref a∧Scr K F a (ns.map V.int)
 | .exc c,v=>∃a cx,v=.ref a∧F a=some (a5A a (.ref (cl c)) cx)
 | .obj c ns ds,v=>∃a dx xs,v=.ref a∧F a=some (.ins (cl c) dx (ns.zip xs))∧ns.length=xs.length∧Rps K cl F ds xs
def Rps(K:W.Frag)(cl:Str→Addr)(F:Hp):List D→List V→Prop
 | [],vs=>vs=[]
 | d::ds,vs=>∃v r,vs=v::r∧Rp K cl F d v∧Rps K cl F ds r
end
section
variable {K:W.Frag}{cl:Str→Addr}{F F' H H':Hp}
mutual
theorem Rp.mono(g:Same F F'):∀(d:D) (v:V),Rp K cl F d v→Rp K cl F' d v
 | .non,_,h=>by simpa only[Rp]using h
 | .bl _,_,h=>by simpa only[Rp]using h
 | .int _,_,h=>by simpa only[Rp]using h
 | .str _,_,h=>by simpa only[Rp]using h
 | .ty _,_,h=>by simpa only[Rp]using h
 | .cls _,_,h=>by simpa only[Rp]using h
 | .tup ds,v,h=>by
  simp only[Rp]at h ⊢
  obtain⟨a,xs,e,h1,h2⟩:=h
  exact⟨a,xs,e,g _ _ h1,Rps.mono g ds xs h2⟩
 | .lst ds,v,h=>by
  simp only[Rp]at h ⊢
  obtain⟨a,xs,e,h1,h2⟩:=h
  exact⟨a,xs,e,g _ _ h1,Rps.mono g ds xs h2⟩
 | .scr ns,v,h=>by
  simp only[Rp]at h ⊢
  obtain⟨a,e,h1⟩:=h
  exact⟨a,e,h1.same g⟩
 | .exc c,v,h=>by
  simp only[Rp]at h ⊢
  obtain⟨a,cx,e,h1⟩:=h
  exact⟨a,cx,e,g _ _ h1⟩
 | .obj c ns ds,v,h=>by
  simp only[Rp]at h ⊢
  obtain⟨a,dx,xs,e,h1,hl,h2⟩:=h
  exact⟨a,dx,xs,e,g _ _ h1,hl,Rps.mono g ds xs h2⟩
theorem Rps.mono(g:Same F F'):∀(ds:List D) (vs:List V),Rps K cl F ds vs→Rps K cl F' ds vs
 | [],_,h=>by simpa only[Rps]using h
 | d::ds,vs,h=>by
  simp only[Rps]at h ⊢
  obtain⟨v,r,e,h1,h2⟩:=h
  exact⟨v,r,e,Rp.mono g d v h1,Rps.mono g ds r h2⟩
end
theorem Rps.nil:Rps K cl F [] []:=by simp only[Rps]
theorem Rps.cons{d:D}{v:V}{ds:List D}{vs:List V}(h:Rp K cl F d v)(t:Rps K cl F ds vs):Rps K cl F (d::ds) (v::vs):=by simp only[Rps];exact⟨v,vs,rfl,h,t⟩
theorem Rps.inv{d:D}{ds:List D}{vs:List V}(h:Rps K cl F (d::ds) vs):∃v r,vs=v::r∧Rp K cl F d v∧Rps K cl F ds r:=by simpa only[Rps]using h
theorem Rps.inv0{vs:List V}(h:Rps K cl F [] vs):vs=[]:=by simpa only[Rps]using h
theorem Rps.length:∀{ds:List D} {vs:List V},Rps K cl F ds vs→ds.length=vs.length
 | [],vs,h=>by rw[h.inv0];rfl
 | d::ds,vs,h=>by obtain⟨v,r,rfl,_,t⟩:=h.inv;simp[t.length]
theorem Rps.get:∀{ds:List D} {vs:List V} {i:Nat} {d:D},Rps K cl F ds vs→ds[i]? = some d→∃v,vs[i]? = some v∧Rp K cl F d v
 | [],_,_,_,_,e=>by simp at e
 | d::ds,vs,0,x,h,e=>by
  obtain⟨v,r,rfl,h1,_⟩:=h.inv
  simp at e;subst e
  exact⟨v,rfl,h1⟩
 | d::ds,vs,i+1,x,h,e=>by
  obtain⟨v,r,rfl,_,t⟩:=h.inv
  obtain⟨u,h1,h2⟩:=t.get (i:=i) (d:=x) (by simpa using e)
  exact⟨u,by simpa using h1,h2⟩
theorem Rps.get'{ds:List D}{vs:List V}{i:Nat}{v:V}(h:Rps K cl F ds vs)(e:vs[i]? = some v):∃d,ds[i]? = some d∧Rp K cl F d v:=by
 have hi:i<ds.length:=by
  have:=(List.getElem?_eq_some_iff.mp e).1
  rw[h.length];exact this
 obtain⟨u,h1,h2⟩:=h.get (List.getElem?_eq_getElem hi)
 rw[e]at h1;cases h1
 exact⟨_,List.getElem?_eq_getElem hi,h2⟩
theorem Rps.append:∀{ds es:List D} {vs us:List V},Rps K cl F ds vs→Rps K cl F es us→Rps K cl F (ds++es) (vs++us)
 | [],_,_,_,h,t=>by rw[h.inv0];exact t
 | d::ds,_,_,_,h,t=>by obtain⟨v,r,rfl,h1,h2⟩:=h.inv;exact .cons h1 (h2.append t)
theorem Rps.one{d:D}{v:V}(h:Rp K cl F d v):Rps K cl F [d] [v]:=.cons h .nil
theorem Rps.set{d:D}{v:V}(r:Rp K cl F d v):∀{ds:List D} {vs:List V} (i:Nat),Rps K cl F ds vs→Rps K cl F (ds.set i d) (vs.set i v)
 | [],_,_,h=>by rw[h.inv0];exact .nil
 | _::_,_,0,h=>by obtain⟨_,_,rfl,_,h2⟩:=h.inv;exact .cons r h2
 | _::_,_,i+1,h=>by obtain⟨_,_,rfl,h1,h2⟩:=h.inv;exact .cons h1 (h2.set r i)
theorem Rps.drop:∀{ds:List D} {vs:List V} (n:Nat),Rps K cl F ds vs→Rps K cl F (ds.drop n) (vs.drop n)
 | _,_,0,h=>h
 | [],_,_+1,h=>by rw[h.inv0];exact .nil
 | _::_,_,n+1,h=>by obtain⟨_,_,rfl,_,h2⟩:=h.inv;exact h2.drop n
theorem Rps.take:∀{ds:List D} {vs:List V} (n:Nat),Rps K cl F ds vs→Rps K cl F (ds.take n) (vs.take n)
 | _,_,0,h=>.nil
 | [],_,_+1,h=>by rw[h.inv0];exact .nil
 | _::_,_,n+1,h=>by obtain⟨_,_,rfl,h1,h2⟩:=h.inv;exact .cons h1 (h2.take n)
theorem Rps.ints:∀{ns:List Int} {vs:List V},Rps K cl F (ns.map D.int) vs→vs=ns.map V.int
 | [],_,h=>h.inv0
 | n::ns,_,h=>by
  obtain⟨v,r,rfl,h1,h2⟩:=h.inv
  rw[h2.ints]
  simp only[Rp]at h1
  rw[h1];rfl
theorem Rps.ofInts:∀{ns:List Int},Rps K cl F (ns.map D.int) (ns.map V.int)
 | []=>.nil
 | _::_=>.cons (by simp only[Rp]) Rps.ofInts
theorem Rps.strs:∀{bs:List Str} {vs:List V},Rps K cl F (bs.map D.str) vs→vs=bs.map V.str
 | [],_,h=>h.inv0
 | n::ns,_,h=>by
  obtain⟨v,r,rfl,h1,h2⟩:=h.inv
  rw[h2.strs]
  simp only[Rp]at h1
  rw[h1];rfl
end
inductive Sl where | no | fz (d:D) | ow (ds:List D) | hd (ds:List D)
abbrev DE:=List Sl
def Mu(env:DE)(i:Nat):Prop:=∃ds:List D,env[i]? = some (.ow ds)∨env[i]? = some (.hd ds)
def Ow(σ:St)(env:DE)(a:Addr):Prop:=∃(i:Nat) (ds:List D),env[i]? = some (Sl.ow ds)∧σ[i]? = some (some (V.ref a))
structure Rel(K:W.Frag)(cl:Str→Addr)(σ:St)(H F:Hp)(env:DE):Prop where
 sub:Same F H
 len:σ.length=env.length
 fz:∀(i:Nat) (d:D),env[i]? = some (.fz d)→∃v,σ[i]? = some (some v)∧Rp K cl F d v
 mu:∀(i:Nat) (ds:List D),(env[i]? = some (.ow ds)∨env[i]? = some (.hd ds))→∃a xs,σ[i]? = some (some (.ref a))∧H a=some (.lst xs)∧F a=none∧Rps K cl F ds xs
 inj:∀(i j:Nat) (a:Addr),Mu env i→Mu env j→σ[i]? = some (some (.ref a))→σ[j]? = some (some (.ref a))→i=j
structure Frm(σ:St)(H F:Hp)(env:DE)(σ':St)(H' F':Hp)(env':DE):Prop where
 fz:Same F F'
 hid:∀a o,H a=some o→F a=none→¬Ow σ env a→H' a=some o∧F' a=none∧¬Ow σ' env' a
 keep:∀(i:Nat) (ds:List D),env[i]? = some (.hd ds)→env'[i]? = some (.hd ds)∧σ'[i]? = σ[i]?
 dom:∀a,H' a=none→H a=none
structure Gr(H F H' F':Hp):Prop where
 fz:Same F F'
 sub:Same F' H'
 hid:∀a o,H a=some o→F a=none→H' a=some o∧F' a=none
section
variable {K:W.Frag}{cl:Str→Addr}{σ σ' σ'':St}{H H' H'' F F' F'':Hp}{env env' env'':DE}
theorem Frm.refl:Frm σ H F env σ H F env:=⟨Same.refl _,fun _ _ h f o=>⟨h,f,o⟩,fun _ _ h=>⟨h,rfl⟩,fun _ h=>h⟩
theorem Frm.trans(a:Frm σ H F env σ' H' F' env')(b:Frm σ' H' F' env' σ'' H'' F'' env''):Frm σ H F env σ'' H'' F'' env'' :=
 ⟨a.fz.trans b.fz,fun x o h f w=>by obtain⟨h1,f1,w1⟩:=a.hid x o h f w;exact b.hid x o h1 f1 w1,
  fun i ds h=>by obtain⟨h1,e1⟩:=a.keep i ds h;obtain⟨h2,e2⟩:=b.keep i ds h1;exact⟨h2,e2.trans e1⟩,fun x h=>a.dom x (b.dom x h)⟩
theorem Gr.dom(g:Gr H F H' F')(a:Addr)(h:H' a=none):H a=none:=by
 cases e:H a with
 | none=>rfl
 | some o =>
  cases f:F a with
  | none=>rw[(g.hid a o e f).1]at h;cases h
  | some u=>rw[g.sub _ _ (g.fz _ _ f)]at h;cases h
theorem Rel.gr(R:Rel K cl σ H F env)(g:Gr H F H' F'):Rel K cl σ H' F' env :=
 ⟨g.sub,R.len,fun i d h=>by obtain⟨v,e,r⟩:=R.fz i d h;exact⟨v,e,r.mono g.fz⟩,
  fun i ds h=>by obtain⟨a,xs,e,hH,hF,r⟩:=R.mu i ds h;obtain⟨h1,f1⟩:=g.hid a _ hH hF;exact⟨a,xs,e,h1,f1,r.mono g.fz⟩,R.inj⟩
theorem Rel.frm(R:Rel K cl σ H F env)(g:Gr H F H' F'):Frm σ H F env σ H' F' env :=
 ⟨g.fz,fun a o h f w=>by obtain⟨h1,f1⟩:=g.hid a o h f;exact⟨h1,f1,w⟩,fun _ _ h=>⟨h,rfl⟩,g.dom⟩
theorem Gr.refl(s:Same F H):Gr H F H F:=⟨Same.refl _,s,fun _ _ h f=>⟨h,f⟩⟩
theorem Gr.trans(a:Gr H F H' F')(b:Gr H' F' H'' F''):Gr H F H'' F'':=⟨a.fz.trans b.fz,b.sub,fun x o h f=>by obtain⟨h1,f1⟩:=a.hid x o h f;exact b.hid x o h1 f1⟩
theorem Gr.new{p:Addr}{o:HO}(s:Same F H)(hp:H p=none):Gr H F (upd H p o) (upd F p o):=by
 have fp:F p=none:=s.free hp
 refine⟨U2 fp o,fun b u e=>?_,fun a u e f=>?_⟩
 ·by_cases z:b=p
  ·subst z;rw[d5]at e ⊢;exact e
  ·rw[a7 z]at e ⊢;exact s _ _ e
 ·have z:a≠p:=fun z=>by rw[z,hp]at e;cases e
  rw[a7 z,a7 z];exact⟨e,f⟩
theorem Rel.freeze{i:Nat}{ds:List D}(R:Rel K cl σ H F env)(h:env[i]? = some (.ow ds)):∃a F',σ[i]? = some (some (.ref a))∧Frm σ H F env σ H F' (env.set i (.fz (.lst ds)))∧Rel K cl σ H F' (env.set i (.fz (.lst ds)))∧Rp K cl F' (.lst ds) (.ref a):=by
 obtain⟨a,xs,e,hH,hF,r⟩:=R.mu i ds (.inl h)
 have hi:i<env.length:=(List.getElem?_eq_some_iff.mp h).1
 have sF:Same F (upd F a (.lst xs)):=U2 hF _
 have oth:∀j,j≠i→(env.set i (.fz (.lst ds)))[j]? = env[j]?:=fun j hj=>List.getElem?_set_ne (Ne.symm hj)
 have self:(env.set i (.fz (.lst ds)))[i]? = some (.fz (.lst ds)):=List.getElem?_set_self hi
 have mui:∀j,Mu (env.set i (.fz (.lst ds))) j→j≠i∧Mu env j:=fun j ⟨es,q⟩=>by
  by_cases z:j=i
  ·subst z;rw[self]at q;rcases q with q | q<;>cases q
  ·rw[oth j z]at q;exact⟨z,es,q⟩
 have rl:Rp K cl (upd F a (.lst xs)) (.lst ds) (.ref a):=by simp only[Rp];exact⟨a,xs,rfl,d5,r.mono sF⟩
 refine⟨a,upd F a (.lst xs),e,⟨sF,fun b o hb fb w=>?_,fun j es q=>?_,fun _ h=>h⟩,⟨fun b o q=>?_,by rw[List.length_set];exact R.len,fun j d q=>?_,fun j es q=>?_,fun j k b hj hk e1 e2=>R.inj j k b (mui j hj).2 (mui k hk).2 e1 e2⟩,rl⟩
 ·have z:b≠a:=fun z=>w ⟨i,ds,h,by rw[z];exact e⟩
  refine⟨hb,by rw[a7 z];exact fb,fun⟨j,es,q,e1⟩=>?_⟩
  by_cases y:j=i
  ·subst y;rw[self]at q;cases q
  ·rw[oth j y]at q;exact w ⟨j,es,q,e1⟩
 ·have z:j≠i:=fun z=>by subst z;rw[h]at q;cases q
  exact⟨by rw[oth j z];exact q,rfl⟩
 ·by_cases z:b=a
  ·subst z;rw[d5]at q;cases q;exact hH
  ·rw[a7 z]at q;exact R.sub _ _ q
 ·by_cases z:j=i
  ·subst z;rw[self]at q;cases q;exact⟨_,e,rl⟩
  ·rw[oth j z]at q;obtain⟨v,e1,r1⟩:=R.fz j d q;exact⟨v,e1,r1.mono sF⟩
 ·have z:j≠i:=(mui j ⟨es,q⟩).1
  rw[oth j z]at q
  obtain⟨b,ys,e1,h1,f1,r1⟩:=R.mu j es q
  have nb:b≠a:=fun y=>z (R.inj j i b ⟨es,q⟩ ⟨ds,.inl h⟩ e1 (by rw[y];exact e))
  exact⟨b,ys,e1,h1,by rw[a7 nb];exact f1,r1.mono sF⟩
theorem Rel.put{i:Nat}{d:D}{v:V}(R:Rel K cl σ H F env)(hi:i<env.length)(nh:∀ds,env[i]?≠some (.hd ds))(r:Rp K cl F d v):Rel K cl (σ.set i (some v)) H F (env.set i (.fz d)):=by
 refine⟨R.sub,by rw[List.length_set,List.length_set];exact R.len,fun j e q=>?_,fun j es q=>?_,fun j k b hj hk e1 e2=>?_⟩
 ·by_cases z:j=i
  ·subst z
   rw[List.getElem?_set_self hi]at q;cases q
   exact⟨v,List.getElem?_set_self (by rw[R.len];exact hi),r⟩
  ·rw[List.getElem?_set_ne (Ne.symm z)]at q
   obtain⟨u,e1,r1⟩:=R.fz j e q
   exact⟨u,by rw[List.getElem?_set_ne (Ne.symm z)];exact e1,r1⟩
 ·have z:j≠i:=fun z=>by
   subst z
   rw[List.getElem?_set_self hi]at q
   rcases q with q | q<;>cases q
  rw[List.getElem?_set_ne (Ne.symm z)]at q
  obtain⟨a,xs,e1,h1,f1,r1⟩:=R.mu j es q
  exact⟨a,xs,by rw[List.getElem?_set_ne (Ne.symm z)];exact e1,h1,f1,r1⟩
 ·have nz:∀j,Mu (env.set i (.fz d)) j→j≠i∧Mu env j:=fun j ⟨es,q⟩=>by
   by_cases z:j=i
   ·subst z
    rw[List.getElem?_set_self hi]at q
    rcases q with q | q<;>cases q
   ·rw[List.getElem?_set_ne (Ne.symm z)]at q;exact⟨z,es,q⟩
  obtain⟨zj,mj⟩:=nz j hj
  obtain⟨zk,mk⟩:=nz k hk
  rw[List.getElem?_set_ne (Ne.symm zj)]at e1
  rw[List.getElem?_set_ne (Ne.symm zk)]at e2
  exact R.inj j k b mj mk e1 e2
theorem Rel.putO{i:Nat}{ds:List D}{a:Addr}{xs:List V}(R:Rel K cl σ H F env)(hi:i<env.length)(hH:H a=some (.lst xs))(hF:F a=none)(na:∀j,Mu env j→σ[j]?≠some (some (.ref a)))(r:Rps K cl F ds xs):Rel K cl (σ.set i (some (.ref a))) H F (env.set i (.ow ds)):=by
 have his:i<σ.length:=by rw[R.len];exact hi
 have nz:∀j,j≠i→Mu (env.set i (.ow ds)) j→Mu env j:=fun j z ⟨es,q⟩=>by
  rw[List.getElem?_set_ne (Ne.symm z)]at q;exact⟨es,q⟩
 refine⟨R.sub,by rw[List.length_set,List.length_set];exact R.len,fun j e q=>?_,fun j es q=>?_,fun j k b hj hk e1 e2=>?_⟩
 ·have z:j≠i:=fun z=>by subst z;rw[List.getElem?_set_self hi]at q;cases q
  rw[List.getElem?_set_ne (Ne.symm z)]at q
  obtain⟨u,e1,r1⟩:=R.fz j e q
  exact⟨u,by rw[List.getElem?_set_ne (Ne.symm z)];exact e1,r1⟩
 ·by_cases z:j=i
  ·subst z
   rw[List.getElem?_set_self hi]at q
   rcases q with q | q
   ·cases q;exact⟨a,xs,List.getElem?_set_self his,hH,hF,r⟩
   ·cases q
  ·rw[List.getElem?_set_ne (Ne.symm z)]at q
   obtain⟨b,ys,e1,h1,f1,r1⟩:=R.mu j es q
   exact⟨b,ys,by rw[List.getElem?_set_ne (Ne.symm z)];exact e1,h1,f1,r1⟩
 ·by_cases zj:j=i
  ·by_cases zk:k=i
   ·rw[zj,zk]
   ·subst zj
    rw[List.getElem?_set_self his]at e1
    rw[List.getElem?_set_ne (Ne.symm zk)]at e2
    cases e1
    exact absurd e2 (na k (nz k zk hk))
  ·rw[List.getElem?_set_ne (Ne.symm zj)]at e1
   by_cases zk:k=i
   ·subst zk
    rw[List.getElem?_set_self his]at e2
    cases e2
    exact absurd e1 (na j (nz j zj hj))
   ·rw[List.getElem?_set_ne (Ne.symm zk)]at e2
    exact R.inj j k b (nz j zj hj) (nz k zk hk) e1 e2
theorem Frm.put{i:Nat}{d:D}{x:Option V}(nh:∀ds,env[i]?≠some (.hd ds)):Frm σ H F env (σ.set i x) H F (env.set i (.fz d)):=by
 refine⟨Same.refl _,fun a o h f w=>⟨h,f,fun⟨j,ds,q,e⟩=>?_⟩,fun j ds q=>?_,fun _ h=>h⟩
 ·by_cases z:j=i
  ·subst z
   have hj:j<env.length:=by have:=(List.getElem?_eq_some_iff.mp q).1;rwa [List.length_set]at this
   rw[List.getElem?_set_self hj]at q
   cases q
  ·rw[List.getElem?_set_ne (Ne.symm z)]at q e
   exact w ⟨j,ds,q,e⟩
 ·have z:j≠i:=fun z=>by subst z;exact nh ds q
  rw[List.getElem?_set_ne (Ne.symm z),List.getElem?_set_ne (Ne.symm z)]
  exact⟨q,rfl⟩
theorem Frm.putO{i:Nat}{es:List D}{a:Addr}(f:Frm σ H F env σ' H' F' env')(ha:H a=none)(nh:∀ds,env'[i]?≠some (.hd ds)):Frm σ H F env (σ'.set i (some (.ref a))) H' F' (env'.set i (.ow es)):=by
 refine⟨f.fz,fun b o h g w=>?_,fun j ds q=>?_,f.dom⟩
 ·obtain⟨h1,f1,w1⟩:=f.hid b o h g w
  refine⟨h1,f1,fun⟨j,ds,q,e⟩=>?_⟩
  by_cases z:j=i
  ·subst z
   have hj:j<σ'.length:=by have:=(List.getElem?_eq_some_iff.mp e).1;rwa [List.length_set]at this
   rw[List.getElem?_set_self hj]at e
   cases e
   rw[ha]at h;cases h
  ·rw[List.getElem?_set_ne (Ne.symm z)]at q e
   exact w1 ⟨j,ds,q,e⟩
 ·obtain⟨q1,e1⟩:=f.keep j ds q
  have z:j≠i:=fun z=>by subst z;exact nh ds q1
  rw[List.getElem?_set_ne (Ne.symm z),List.getElem?_set_ne (Ne.symm z)]
  exact⟨q1,e1⟩
end
inductive R(α:Type) where | ok (a:α) (e:DE) | ex (c:Str)
inductive RS where | nx (e:DE) | rt (d:D) | ro (ds:List D) | rz (dss:List (List D)) | rp (n:Int) (ds:List D) | bk (e:DE) | ct (e:DE) | ex (c:Str)
def bnd{α β:Type}(x:Option (R α))(k:α→DE→Option (R β)):Option (R β):=match x with
 | none=>none
 | some (.ok a e)=>k a e
 | some (.ex c)=>some (.ex c)
def G2{α:Type}(x:Option (R α))(k:α→DE→Option RS):Option RS:=match x with
 | none=>none
 | some (.ok a e)=>k a e
 | some (.ex c)=>some (.ex c)
def W1{α:Type}(x:Option α)(e:DE):Option (R α):=match x with
 | none=>none
 | some a=>some (.ok a e)
@[simp] theorem X8{α β:Type}(a:α)(e:DE)(k:α→DE→Option (R β)):bnd (some (.ok a e)) k=k a e:=rfl
@[simp] theorem b1L{α β:Type}(c:Str)(k:α→DE→Option (R β)):bnd (some (.ex c)) k=some (.ex c):=rfl
@[simp] theorem b1M{α β:Type}(k:α→DE→Option (R β)):bnd (none:Option (R α)) k=none:=rfl
@[simp] theorem a0B{α:Type}(a:α)(e:DE)(k:α→DE→Option RS):G2 (some (.ok a e)) k=k a e:=rfl
@[simp] theorem b1N{α:Type}(c:Str)(k:α→DE→Option RS):G2 (some (.ex c)) k=some (.ex c):=rfl
@[simp] theorem b1O{α:Type}(k:α→DE→Option RS):G2 (none:Option (R α)) k=none:=rfl
@[simp] theorem Z0{α:Type}(a:α)(e:DE):W1 (some a) e=some (.ok a e):=rfl
@[simp] theorem Z1{α:Type}(e:DE):W1 (none:Option α) e=none:=rfl
structure FX(σ:St)(H F:Hp)(env:DE)(H' F':Hp):Prop where
 fz:Same F F'
 sub:Same F' H'
 hid:∀a o,H a=some o→F a=none→¬Ow σ env a→H' a=some o∧F' a=none
 dom:∀a,H' a=none→H a=none
section
variable {K:W.Frag}{cl:Str→Addr}{E:XK}{σ σ':St}{H H' H1 F F' F1:Hp}{env env' env1:DE}{α β γ δ:Type}
theorem Frm.fx{H2 F2:Hp}(a:Frm σ H F env σ' H1 F1 env1)(b:FX σ' H1 F1 env1 H2 F2):FX σ H F env H2 F2 :=
 ⟨a.fz.trans b.fz,b.sub,fun x o h f w=>by obtain⟨h1,f1,w1⟩:=a.hid x o h f w;exact b.hid x o h1 f1 w1,fun x h=>a.dom x (b.dom x h)⟩
theorem Frm.toFX(a:Frm σ H F env σ' H1 F1 env1)(s:Same F1 H1):FX σ H F env H1 F1:=⟨a.fz,s,fun x o h f w=>by obtain⟨h1,f1,_⟩:=a.hid x o h f w;exact⟨h1,f1⟩,a.dom⟩
abbrev Py(α β:Type):=α→St→Hp→Hp→Hp→DE→β→Prop
def PM(P:Py α β):Prop:=∀a σ H0 H1 H' F' e b,(∀x:Addr,H1 x=none→H0 x=none)→P a σ H1 H' F' e b→P a σ H0 H' F' e b
def Ct(K:W.Frag)(cl:Str→Addr)(E:XK)(P:Py α β)(r:Option (R α))(σ:St)(H F:Hp)(env:DE)(Q:β→Hp→Prop):Prop:=match r with
 | none=>False
 | some (.ok a e)=>∀b H' F',Frm σ H F env σ H' F' e→Rel K cl σ H' F' e→P a σ H H' F' e b→Q b H'
 | some (.ex c)=>∀H' F',FX σ H F env H' F'→E (.ref (cl c)) none H'
def Rz(K:W.Frag)(cl:Str→Addr)(F' H':Hp)(nw:Addr→Prop)(dss:List (List D))(as:List Addr):Prop:=as.Nodup∧as.length=dss.length∧∀(k:Nat) (a:Addr) (ds:List D),as[k]? = some a→dss[k]? = some ds→∃xs,H' a=some (.lst xs)∧F' a=none∧nw a∧Rps K cl F' ds xs
theorem Rz.imp{nw nw':Addr→Prop}{dss:List (List D)}{as:List Addr}(h:Rz K cl F' H' nw dss as)(i:∀a xs,H' a=some (.lst xs)→F' a=none→nw a→nw' a):Rz K cl F' H' nw' dss as :=
 ⟨h.1,h.2.1,fun k a ds e1 e2=>by obtain⟨xs,h1,h2,h3,h4⟩:=h.2.2 k a ds e1 e2;exact⟨xs,h1,h2,i a xs h1 h2 h3,h4⟩⟩
def Cs(K:W.Frag)(cl:Str→Addr)(E:XK)(r:Option RS)(σ:St)(H F:Hp)(env:DE)(N:Ends):Prop:=match r with
 | none=>False
 | some (.nx e)=>∀σ' H' F',Frm σ H F env σ' H' F' e→Rel K cl σ' H' F' e→N.nx σ' H'
 | some (.bk e)=>∀σ' H' F',Frm σ H F env σ' H' F' e→Rel K cl σ' H' F' e→N.bk σ' H'
 | some (.ct e)=>∀σ' H' F',Frm σ H F env σ' H' F' e→Rel K cl σ' H' F' e→N.ct σ' H'
 | some (.rt d)=>∀v H' F',FX σ H F env H' F'→Rp K cl F' d v→N.rt v H'
 | some (.ro ds)=>∀a xs H' F',FX σ H F env H' F'→H' a=some (.lst xs)→F' a=none→(∀o,H a=some o→Ow σ env a)→Rps K cl F' ds xs→N.rt (.ref a) H'
 | some (.rz dss)=>∀p as H' F',FX σ H F env H' F'→H p=none→H' p=some (.tup (as.map V.ref))→F' p=none→Rz K cl F' H' (fun a=>∀o,H a=some o→Ow σ env a) dss as→N.rt (.ref p) H'
 | some (.rp n ds)=>∀p a xs H' F',FX σ H F env H' F'→H p=none→H' p=some (.tup [.int n,.ref a])→F' p=none→H' a=some (.lst xs)→F' a=none→(∀o,H a=some o→Ow σ env a)→Rps K cl F' ds xs→N.rt (.ref p) H'
 | some (.ex c)=>∀H' F',FX σ H F env H' F'→E (.ref (cl c)) none H'
theorem Ct.mono{P:Py α β}{r:Option (R α)}{Q Q':β→Hp→Prop}(h:Ct K cl E P r σ H F env Q)(q:∀b H',Q b H'→Q' b H'):Ct K cl E P r σ H F env Q':=by
 unfold Ct at h ⊢
 split at h
 ·exact h
 ·exact fun b H' F' f R p=>q _ _ (h b H' F' f R p)
 ·exact h
theorem Ct.from{P2:Py γ δ}{r:Option (R γ)}{Q:δ→Hp→Prop}(f:Frm σ H F env σ H1 F1 env1)(pm:PM P2)(h:Ct K cl E P2 r σ H F env Q):Ct K cl E P2 r σ H1 F1 env1 Q:=by
 unfold Ct at h ⊢
 split at h
 ·exact h
 ·exact fun b H' F' f2 R2 p2=>h b H' F' (f.trans f2) R2 (pm _ _ _ _ _ _ _ _ f.dom p2)
 ·exact fun H' F' x=>h H' F' (f.fx x)
theorem Ct.bnd{P1:Py α β}{P2:Py γ δ}{r:Option (R α)}{k:α→DE→Option (R γ)}{Q:δ→Hp→Prop}(h:Ct K cl E P2 (bnd r k) σ H F env Q)(pm:PM P2) :
  Ct K cl E P1 r σ H F env fun b H1=>∃F1 env1 a,Same F F1∧Rel K cl σ H1 F1 env1∧P1 a σ H H1 F1 env1 b∧Ct K cl E P2 (k a env1) σ H1 F1 env1 Q:=by
 unfold Ct
 rcases r with _ | ⟨a,e⟩ | c
 ·exact h
 ·intro b H1 F1 f R p
  refine⟨F1,e,a,f.fz,R,p,?_⟩
  have h:Ct K cl E P2 (k a e) σ H F env Q:=h
  exact Ct.from f pm h
 ·exact h
theorem Cs.from{r:Option RS}{N:Ends}(f:Frm σ H F env σ' H1 F1 env1)(h:Cs K cl E r σ H F env N):Cs K cl E r σ' H1 F1 env1 N:=by
 unfold Cs at h ⊢
 split at h
 ·exact h
 ·exact fun σ' H' F' f2 R2=>h σ' H' F' (f.trans f2) R2
 ·exact fun σ' H' F' f2 R2=>h σ' H' F' (f.trans f2) R2
 ·exact fun σ' H' F' f2 R2=>h σ' H' F' (f.trans f2) R2
 ·exact fun v H' F' x p=>h v H' F' (f.fx x) p
 ·refine fun a xs H' F' x ha fa nw p=>h a xs H' F' (f.fx x) ha fa (fun o e=>?_) p
  refine Classical.byContradiction fun w=>?_
  cases q:F a with
  | none =>
   obtain⟨h1,f1,w1⟩:=f.hid a o e q w
   exact w1 (nw o h1)
  | some u=>rw[x.fz _ _ (f.fz _ _ q)]at fa;cases fa
 ·refine fun p as H' F' x hp ht fp rz=>h p as H' F' (f.fx x) (f.dom p hp) ht fp (rz.imp fun a xs ha fa nw o e=>?_)
  refine Classical.byContradiction fun w=>?_
  cases q:F a with
  | none =>
   obtain⟨h1,f1,w1⟩:=f.hid a o e q w
   exact w1 (nw o h1)
  | some u=>rw[x.fz _ _ (f.fz _ _ q)]at fa;cases fa
 ·refine fun p a xs H' F' x hp ht fp ha fa nw r=>h p a xs H' F' (f.fx x) (f.dom p hp) ht fp ha fa (fun o e=>?_) r
  refine Classical.byContradiction fun w=>?_
  cases q:F a with
  | none =>
   obtain⟨h1,f1,w1⟩:=f.hid a o e q w
   exact w1 (nw o h1)
  | some u=>rw[x.fz _ _ (f.fz _ _ q)]at fa;cases fa
 ·exact fun H' F' x=>h H' F' (f.fx x)
theorem Cs.bnd{P1:Py α β}{r:Option (R α)}{k:α→DE→Option RS}{N:Ends}(h:Cs K cl E (G2 r k) σ H F env N) :
  Ct K cl E P1 r σ H F env fun b H1=>∃F1 env1 a,Frm σ H F env σ H1 F1 env1∧Rel K cl σ H1 F1 env1∧P1 a σ H H1 F1 env1 b∧Cs K cl E (k a env1) σ H F env N:=by
 unfold Ct
 rcases r with _ | ⟨a,e⟩ | c
 ·exact h
 ·intro b H1 F1 f R p
  exact⟨F1,e,a,f,R,p,h⟩
 ·exact h
end
def PZ(K:W.Frag)(cl:Str→Addr):Py D V:=fun d _ _ _ F' _ v=>Rp K cl F' d v
def PAs(K:W.Frag)(cl:Str→Addr):Py (List D) (List V):=fun ds _ _ _ F' _ vs=>Rps K cl F' ds vs
def PB:Py Bool Bool:=fun b _ _ _ _ _ c=>c=b
def PI':Py (Option Int) (Option Int):=fun b _ _ _ _ _ c=>c=b
def PN(K:W.Frag)(cl:Str→Addr):Py (List D) V:=fun ds σ H H' F' e v=>∃a xs,v=.ref a∧H a=none∧H' a=some (.lst xs)∧F' a=none∧(∀j,Mu e j→σ[j]?≠some (some (.ref a)))∧Rps K cl F' ds xs
theorem J6{K cl}:PM (PZ K cl):=fun _ _ _ _ _ _ _ _ _ h=>h
theorem b1P{K cl}:PM (PAs K cl):=fun _ _ _ _ _ _ _ _ _ h=>h
theorem a5F:PM PB:=fun _ _ _ _ _ _ _ _ _ h=>h
theorem b3u:PM PI':=fun _ _ _ _ _ _ _ _ _ h=>h
theorem a1v{K cl}:PM (PN K cl):=fun _ _ _ _ _ _ _ _ g ⟨a,xs,e,h,r⟩=>⟨a,xs,e,g a h,r⟩
abbrev ZF:=DE→Option (R D)
abbrev NF:=DE→Option (R (List D))
abbrev AF:=DE→Option (R (List D))
abbrev BF:=DE→Option (R Bool)
abbrev OF:=DE→Option (R (Option Int))
abbrev SF:=DE→Option RS
section
variable (K:W.Frag)(cl:Str→Addr)(E:XK)
def k8(t:TE)(f:ZF):Prop:=∀σ H Q env F,Rel K cl σ H F env→Ct K cl E (PZ K cl) (f env) σ H F env Q→t σ H Q
def RfN(t:TE)(f:NF):Prop:=∀σ H Q env F,Rel K cl σ H F env→Ct K cl E (PN K cl) (f env) σ H F env Q→t σ H Q
def M7(t:TA)(f:AF):Prop:=∀σ H Q env F,Rel K cl σ H F env→Ct K cl E (PAs K cl) (f env) σ H F env Q→t σ H Q
def G3(t:TT)(f:BF):Prop:=∀σ H Q env F,Rel K cl σ H F env→Ct K cl E PB (f env) σ H F env Q→t σ H Q
def RfO(t:TO)(f:OF):Prop:=∀σ H Q env F,Rel K cl σ H F env→Ct K cl E PI' (f env) σ H F env Q→t σ H Q
def RfS(t:TS)(f:SF):Prop:=∀(N:Ends) σ H env F,Rel K cl σ H F env→Cs K cl E (f env) σ H F env N→t N σ H
end
def eC(d:D):ZF:=fun e=>some (.ok d e)
def eV(i:Nat):ZF:=fun e=>match e[i]? with
 | some (.fz d)=>some (.ok d e)
 | some (.ow ds)=>some (.ok (.lst ds) (e.set i (.fz (.lst ds))))
 | _=>none
def look(e:DE)(i:Nat):Option D:=match e[i]? with
 | some (.fz d)=>some d
 | some (.ow ds)=>some (.lst ds)
 | some (.hd ds)=>some (.lst ds)
 | _=>none
def Rb(K:W.Frag)(cl:Str→Addr)(F H:Hp)(d:D)(v:V):Prop:=Rp K cl F d v∨∃a xs ds,v=.ref a∧d=.lst ds∧H a=some (.lst xs)∧Rps K cl F ds xs
section
variable {K:W.Frag}{cl:Str→Addr}{E:XK}{σ:St}{H F:Hp}{env:DE}
theorem Rel.look{i:Nat}{d:D}(R:Rel K cl σ H F env)(h:look env i=some d):∃v,σ[i]? = some (some v)∧Rb K cl F H d v:=by
 unfold L2.look at h
 split at h
 ·rename_i q;cases h;obtain⟨v,e,r⟩:=R.fz i d q;exact⟨v,e,.inl r⟩
 ·rename_i ds q;cases h;obtain⟨a,xs,e,hH,_,r⟩:=R.mu i ds (.inl q);exact⟨_,e,.inr ⟨a,xs,ds,rfl,rfl,hH,r⟩⟩
 ·rename_i ds q;cases h;obtain⟨a,xs,e,hH,_,r⟩:=R.mu i ds (.inr q);exact⟨_,e,.inr ⟨a,xs,ds,rfl,rfl,hH,r⟩⟩
 ·cases h
theorem b9{v:V}{d:D}(h:∀F,Rp K cl F d v:=by intro F;simp only[Rp]):k8 K cl E (tC v) (eC d):=fun σ H Q env F R h'=>h' v H F Frm.refl R (h F)
theorem c7{i:Nat}:k8 K cl E (y9 i) (eV i):=by
 intro σ H Q env F R h
 unfold eV at h
 split at h
 ·rename_i d q
  obtain⟨v,e,r⟩:=R.fz i d q
  exact⟨v,e,h v H F Frm.refl R r⟩
 ·rename_i ds q
  obtain⟨a,F',e,fr,R',r⟩:=R.freeze q
  exact⟨_,e,h _ H F' fr R' r⟩
 ·exact h.elim
end
def OpOk(K:W.Frag)(cl:Str→Addr)(r:R2)(g:D→D→Option D):Prop:=∀x y d e z H F Q,Same F H→Rb K cl F H d x→Rb K cl F H e y→g d e=some z→(∀v H' F',Gr H F H' F'→Rp K cl F' z v→Q v H')→r x y H Q
def eB(g:D→D→Option D)(f k:ZF):ZF:=fun e=>bnd (f e) fun d e1=>bnd (k e1) fun d' e2=>W1 (g d d') e2
def L9(g:D→D→Option D)(i:Nat)(k:ZF):ZF:=fun e=>match look e i with
 | none=>none
 | some _=>bnd (k e) fun d' e2=>match look e2 i with
  | some d=>W1 (g d d') e2
  | none=>none
def a2y(g:D→D→Option D)(i j:Nat):ZF:=fun e=>match look e i,look e j with
 | some d,some d'=>W1 (g d d') e
 | _,_=>none
section
variable {K:W.Frag}{cl:Str→Addr}{E:XK}{r:R2}{g:D→D→Option D}{ta tb:TE}{f k:ZF}{i j:Nat}
theorem OpOk.fin{σ:St}{H F:Hp}{env:DE}{x y:V}{d e:D}{Q:VK}(ok:OpOk K cl r g)(R:Rel K cl σ H F env)(hx:Rb K cl F H d x)(hy:Rb K cl F H e y)(h:Ct K cl E (PZ K cl) (W1 (g d e) env) σ H F env Q):r x y H Q:=by
 cases hz:g d e with
 | none=>rw[hz]at h;exact h.elim
 | some z =>
  rw[hz]at h
  exact ok x y d e z H F Q R.sub hx hy hz fun v H' F' gr p=>h v H' F' (R.frm gr) (R.gr gr) p
theorem b0(ok:OpOk K cl r g)(ha:k8 K cl E ta f)(hb:k8 K cl E tb k):k8 K cl E (tOp r ta tb) (eB g f k):=by
 intro σ H Q env F R h
 refine ha σ H _ env F R ((Ct.bnd h J6).mono fun x H1 ⟨F1,e1,d,s1,R1,p1,h1⟩=>?_)
 refine hb σ H1 _ e1 F1 R1 ((Ct.bnd h1 J6).mono fun y H2 ⟨F2,e2,e,s2,R2,p2,h2⟩=>?_)
 exact ok.fin R2 (.inl (Rp.mono s2 _ _ p1)) (.inl p2) h2
theorem M0(ok:OpOk K cl r g)(hb:k8 K cl E tb k):k8 K cl E (tOp r (y9 i) tb) (L9 g i k):=by
 intro σ H Q env F R h
 unfold L9 at h
 cases q:look env i with
 | none=>rw[q]at h;exact h.elim
 | some d0 =>
  rw[q]at h
  obtain⟨x,e0,_⟩:=R.look q
  refine⟨x,e0,hb σ H _ env F R ((Ct.bnd h J6).mono fun y H2 ⟨F2,e2,e,s2,R2,p2,h2⟩=>?_)⟩
  cases q2:look e2 i with
  | none=>rw[q2]at h2;exact h2.elim
  | some d =>
   rw[q2]at h2
   obtain⟨x',e',rb⟩:=R2.look q2
   rw[e0]at e';cases e'
   exact ok.fin R2 rb (.inl p2) h2
theorem a9y(ok:OpOk K cl r g):k8 K cl E (tOp r (y9 i) (y9 j)) (a2y g i j):=by
 intro σ H Q env F R h
 unfold a2y at h
 cases q:look env i with
 | none=>rw[q]at h;exact h.elim
 | some d =>
  cases q2:look env j with
  | none=>rw[q,q2]at h;exact h.elim
  | some d' =>
   rw[q,q2]at h
   obtain⟨x,e,rb⟩:=R.look q
   obtain⟨y,e',rb'⟩:=R.look q2
   exact⟨x,e,y,e',ok.fin R rb rb' h⟩
end
section
variable {K:W.Frag}{cl:Str→Addr}{E:XK}
theorem Rb.int{F H:Hp}{i:Int}{v:V}(h:Rb K cl F H (.int i) v):v=.int i:=by
 rcases h with h | ⟨_,_,_,_,z,_⟩
 ·simpa only[Rp]using h
 ·cases z
theorem Rb.bl{F H:Hp}{i:Bool}{v:V}(h:Rb K cl F H (.bl i) v):v=.bl i:=by
 rcases h with h | ⟨_,_,_,_,z,_⟩
 ·simpa only[Rp]using h
 ·cases z
theorem Rb.str{F H:Hp}{i:Str}{v:V}(h:Rb K cl F H (.str i) v):v=.str i:=by
 rcases h with h | ⟨_,_,_,_,z,_⟩
 ·simpa only[Rp]using h
 ·cases z
theorem Rb.non{F H:Hp}{v:V}(h:Rb K cl F H .non v):v=.non:=by
 rcases h with h | ⟨_,_,_,_,z,_⟩
 ·simpa only[Rp]using h
 ·cases z
theorem Rb.lst{F H:Hp}{ds:List D}{v:V}(s:Same F H)(h:Rb K cl F H (.lst ds) v):∃a xs,v=.ref a∧H a=some (.lst xs)∧Rps K cl F ds xs:=by
 rcases h with h | ⟨a,xs,ds',e,z,h,r⟩
 ·simp only[Rp]at h
  obtain⟨a,xs,e,h,r⟩:=h
  exact⟨a,xs,e,s _ _ h,r⟩
 ·cases z;exact⟨a,xs,e,h,r⟩
theorem Rb.tup{F H:Hp}{ds:List D}{v:V}(s:Same F H)(h:Rb K cl F H (.tup ds) v):∃a xs,v=.ref a∧H a=some (.tup xs)∧Rps K cl F ds xs:=by
 rcases h with h | ⟨_,_,_,_,z,_⟩
 ·simp only[Rp]at h
  obtain⟨a,xs,e,h,r⟩:=h
  exact⟨a,xs,e,s _ _ h,r⟩
 ·cases z
theorem Rb.scr{F H:Hp}{ns:List Int}{v:V}(s:Same F H)(h:Rb K cl F H (.scr ns) v):∃a,v=.ref a∧Scr K H a (ns.map V.int):=by
 rcases h with h | ⟨_,_,_,_,z,_⟩
 ·simp only[Rp]at h
  obtain⟨a,e,h⟩:=h
  exact⟨a,e,h.same s⟩
 ·cases z
def gI(C:Int→Int→Prop) [∀i j,Decidable (C i j)] (g:Int→Int→D):D→D→Option D
 | .int i,.int j=>if C i j then some (g i j)else none
 | _,_=>none
def gI0(g:Int→Int→D):D→D→Option D
 | .int i,.int j=>some (g i j)
 | _,_=>none
theorem a5G{C:Int→Int→Prop} [∀i j,Decidable (C i j)] {g:Int→Int→V} {g':Int→Int→D} (hg:∀F i j,Rp K cl F (g' i j) (g i j)):OpOk K cl (rI C g) (gI C g'):=by
 intro x y d e z H F Q s hx hy h q
 unfold gI at h
 split at h
 ·rename_i i j
  split at h
  ·rename_i c;cases h
   exact⟨i,j,hx.int,hy.int,c,q _ H F (.refl s) (hg F i j)⟩
  ·cases h
 ·cases h
theorem a01{g:Int→Int→V}{g':Int→Int→D}(hg:∀F i j,Rp K cl F (g' i j) (g i j)):OpOk K cl (U0 g) (gI0 g'):=by
 intro x y d e z H F Q s hx hy h q
 unfold gI0 at h
 split at h
 ·rename_i i j
  cases h
  exact⟨i,j,hx.int,hy.int,q _ H F (.refl s) (hg F i j)⟩
 ·cases h
end
section
variable {K:W.Frag}{cl:Str→Addr}{E:XK}{σ:St}{H F:Hp}{env:DE}
theorem Rel.newN{p:Addr}{o:HO}(R:Rel K cl σ H F env)(hp:H p=none):Rel K cl σ (upd H p o) F env∧Frm σ H F env σ (upd H p o) F env:=by
 have fp:F p=none:=R.sub.free hp
 have ne:∀a u,H a=some u→a≠p:=fun a u h z=>by rw[z,hp]at h;cases h
 refine⟨⟨R.sub.trans (U2 hp _),R.len,R.fz,fun i ds h=>?_,R.inj⟩,⟨Same.refl _,fun a u h f w=>?_,fun _ _ h=>⟨h,rfl⟩,fun a h=>?_⟩⟩
 ·obtain⟨a,xs,e,hH,hF,r⟩:=R.mu i ds h
  exact⟨a,xs,e,by rw[a7 (ne _ _ hH)];exact hH,hF,r⟩
 ·exact⟨by rw[a7 (ne _ _ h)];exact h,f,w⟩
 ·by_cases z:a=p
  ·rw[z];exact hp
  ·rw[a7 z]at h;exact h
theorem Ct.newN{p:Addr}{xs:List V}{ds:List D}{Q:VK}(R:Rel K cl σ H F env)(hp:H p=none)(r:Rps K cl F ds xs)(h:Ct K cl E (PN K cl) (some (.ok ds env)) σ H F env Q):Q (.ref p) (upd H p (.lst xs)):=by
 obtain⟨R',f⟩:=R.newN (o:=.lst xs) hp
 refine h _ _ F f R' ⟨p,xs,rfl,hp,d5,R.sub.free hp,fun j mj e=>?_,r⟩
 obtain⟨ds',q⟩:=mj
 obtain⟨a,ys,e1,hH,_⟩:=R.mu j ds' q
 rw[e]at e1;cases e1
 rw[hp]at hH;cases hH
def zN(f:NF):ZF:=fun e=>bnd (f e) fun ds e1=>some (.ok (.lst ds) e1)
theorem O6{t:TE}{f:NF}(h:RfN K cl E t f):k8 K cl E t (zN f):=by
 intro σ H Q env F R q
 refine h σ H Q env F R ?_
 unfold zN at q
 rcases hf:f env with _ | ⟨ds,e1⟩ | c
 ·rw[hf]at q;exact q
 ·rw[hf]at q
  rintro b H' F' fr R' ⟨a,xs,rfl,hn,hH,hF,nm,r⟩
  have sF:Same F' (upd F' a (.lst xs)):=U2 hF _
  refine q _ H' (upd F' a (.lst xs)) ⟨fr.fz.trans sF,fun b o hb fb w=>?_,fr.keep,fr.dom⟩ ⟨fun b o z=>?_,R'.len,fun i d z=>?_,fun i es z=>?_,R'.inj⟩ (by show Rp K cl _ (.lst ds) _;simp only[Rp];exact⟨a,xs,rfl,d5,r.mono sF⟩)
  ·obtain⟨h1,f1,w1⟩:=fr.hid b o hb fb w
   have nb:b≠a:=fun z=>by rw[z,hn]at hb;cases hb
   exact⟨h1,by rw[a7 nb];exact f1,w1⟩
  ·by_cases y:b=a
   ·subst y;rw[d5]at z;cases z;exact hH
   ·rw[a7 y]at z;exact R'.sub _ _ z
  ·obtain⟨v,e,r1⟩:=R'.fz i d z
   exact⟨v,e,r1.mono sF⟩
  ·obtain⟨b,ys,e,h1,f1,r1⟩:=R'.mu i es z
   have nb:b≠a:=fun y=>nm i ⟨es,z⟩ (by rw[e,y])
   exact⟨b,ys,e,h1,by rw[a7 nb];exact f1,r1.mono sF⟩
 ·rw[hf]at q;exact q
def aN:AF:=fun e=>some (.ok [] e)
def aC(f:ZF)(k:AF):AF:=fun e=>bnd (f e) fun d e1=>bnd (k e1) fun ds e2=>some (.ok (d::ds) e2)
theorem i1:M7 K cl E L5 aN:=fun σ H Q env F R h=>h [] H F Frm.refl R .nil
theorem d6{te:TE}{ta:TA}{f:ZF}{k:AF}(hf:k8 K cl E te f)(hk:M7 K cl E ta k):M7 K cl E (A3 te ta) (aC f k):=by
 intro σ H Q env F R h
 refine hf σ H _ env F R ((Ct.bnd h b1P).mono fun x H1 ⟨F1,e1,d,s1,R1,p1,h1⟩=>?_)
 refine hk σ H1 _ e1 F1 R1 ((Ct.bnd h1 b1P).mono fun xs H2 ⟨F2,e2,ds,s2,R2,p2,h2⟩=>?_)
 exact h2 (x::xs) H2 F2 Frm.refl R2 (.cons (Rp.mono s2 _ _ p1) p2)
def eT(f:AF):ZF:=fun e=>bnd (f e) fun ds e1=>if ds.length≤sizeLine then some (.ok (.tup ds) e1)else none
def eL(f:AF):NF:=fun e=>bnd (f e) fun ds e1=>if ds.length≤sizeLine then some (.ok ds e1)else none
theorem a1w{ta:TA}{f:AF}(hf:M7 K cl E ta f):k8 K cl E (a5u ta) (eT f):=by
 intro σ H Q env F R h
 refine hf σ H _ env F R ((Ct.bnd h J6).mono fun xs H1 ⟨F1,e1,ds,s1,R1,p1,h1⟩=>?_)
 have hl:ds.length=xs.length:=Rps.length p1
 split at h1
 ·rename_i z
  refine⟨by rw[← hl];exact z,fun p hp=>?_⟩
  have g:Gr H1 F1 (upd H1 p (.tup xs)) (upd F1 p (.tup xs)):=.new R1.sub hp
  exact h1 _ _ _ (R1.frm g) (R1.gr g) (by show Rp K cl _ (.tup ds) _;simp only[Rp];exact⟨p,xs,rfl,d5,Rps.mono g.fz _ _ p1⟩)
 ·exact h1.elim
theorem a34{ta:TA}{f:AF}(hf:M7 K cl E ta f):RfN K cl E (b1g ta) (eL f):=by
 intro σ H Q env F R h
 refine hf σ H _ env F R ((Ct.bnd h a1v).mono fun xs H1 ⟨F1,e1,ds,s1,R1,p1,h1⟩=>?_)
 have hl:ds.length=xs.length:=Rps.length p1
 split at h1
 ·rename_i z
  exact⟨by rw[← hl];exact z,fun p hp=>Ct.newN R1 hp p1 h1⟩
 ·exact h1.elim
def bZ(f:ZF):BF:=fun e=>bnd (f e) fun d e1=>match d with
 | .bl b=>some (.ok b e1)
 | _=>none
theorem S0{t:TE}{f:ZF}(hf:k8 K cl E t f):G3 K cl E (tB t) (bZ f):=by
 intro σ H Q env F R h
 refine hf σ H _ env F R ((Ct.bnd h a5F).mono fun x H1 ⟨F1,e1,d,s1,R1,p1,h1⟩=>?_)
 split at h1
 ·rename_i b
  have:x=.bl b:=by have:=(show Rp K cl F1 (.bl b) x from p1);simpa only[Rp]using this
  exact⟨b,this,h1 b H1 F1 Frm.refl R1 rfl⟩
 ·exact h1.elim
theorem r0{t:TE}{f:ZF}(hf:k8 K cl E t f):G3 K cl E (a8P t) (bZ f):=S0 hf
def G7(f:BF):BF:=fun e=>bnd (f e) fun b e1=>some (.ok (!b) e1)
def a7R(f k:BF):BF:=fun e=>bnd (f e) fun b e1=>if b=true then k e1 else some (.ok false e1)
def E4(f k:BF):BF:=fun e=>bnd (f e) fun b e1=>if b=true then some (.ok true e1)else k e1
theorem N4{t:TT}{f:BF}(hf:G3 K cl E t f):G3 K cl E (b03 t) (G7 f):=by
 intro σ H Q env F R h
 refine hf σ H _ env F R ((Ct.bnd h a5F).mono fun x H1 ⟨F1,e1,d,s1,R1,p1,h1⟩=>?_)
 cases (show x=d from p1)
 exact h1 _ H1 F1 Frm.refl R1 rfl
theorem a9z{t u:TT}{f k:BF}(hf:G3 K cl E t f)(hk:G3 K cl E u k):G3 K cl E (b02 t u) (a7R f k):=by
 intro σ H Q env F R h
 refine hf σ H _ env F R ((Ct.bnd h a5F).mono fun x H1 ⟨F1,e1,d,s1,R1,p1,h1⟩=>?_)
 cases (show x=d from p1)
 by_cases z:x=true
 ·rw[if_pos z]at h1 ⊢;exact hk σ H1 Q e1 F1 R1 h1
 ·rw[if_neg z]at h1 ⊢;exact h1 _ H1 F1 Frm.refl R1 rfl
theorem G8{t u:TT}{f k:BF}(hf:G3 K cl E t f)(hk:G3 K cl E u k):G3 K cl E (tOr t u) (E4 f k):=by
 intro σ H Q env F R h
 refine hf σ H _ env F R ((Ct.bnd h a5F).mono fun x H1 ⟨F1,e1,d,s1,R1,p1,h1⟩=>?_)
 cases (show x=d from p1)
 by_cases z:x=true
 ·rw[if_pos z]at h1 ⊢;exact h1 _ H1 F1 Frm.refl R1 rfl
 ·rw[if_neg z]at h1 ⊢;exact hk σ H1 Q e1 F1 R1 h1
def a7S(f:ZF):ZF:=fun e=>bnd (f e) fun d e1=>match d with
 | .bl b=>some (.ok (.bl (!b)) e1)
 | _=>none
def a2z(f k:ZF):ZF:=fun e=>bnd (f e) fun d e1=>match d with
 | .bl b=>if b=true then k e1 else some (.ok (.bl false) e1)
 | _=>none
def eIf(c:BF)(f k:ZF):ZF:=fun e=>bnd (c e) fun b e1=>if b=true then f e1 else k e1
theorem b1R{t:TE}{f:ZF}(hf:k8 K cl E t f):k8 K cl E (a8H t) (a7S f):=by
 intro σ H Q env F R h
 refine hf σ H _ env F R ((Ct.bnd h J6).mono fun x H1 ⟨F1,e1,d,s1,R1,p1,h1⟩=>?_)
 split at h1
 ·rename_i b
  have:x=.bl b:=by have:=(show Rp K cl F1 (.bl b) x from p1);simpa only[Rp]using this
  exact⟨b,this,h1 _ H1 F1 Frm.refl R1 (by show Rp K cl F1 (.bl _) _;simp only[Rp])⟩
 ·exact h1.elim
theorem a11{t u:TE}{f k:ZF}(hf:k8 K cl E t f)(hk:k8 K cl E u k):k8 K cl E (a8G t u) (a2z f k):=by
 intro σ H Q env F R h
 refine hf σ H _ env F R ((Ct.bnd h J6).mono fun x H1 ⟨F1,e1,d,s1,R1,p1,h1⟩=>?_)
 split at h1
 ·rename_i b
  have:x=.bl b:=by have:=(show Rp K cl F1 (.bl b) x from p1);simpa only[Rp]using this
  refine⟨b,this,?_⟩
  by_cases z:b=true
  ·rw[if_pos z]at h1 ⊢;exact hk σ H1 Q e1 F1 R1 h1
  ·rw[if_neg z]at h1 ⊢;exact h1 _ H1 F1 Frm.refl R1 (by show Rp K cl F1 (.bl _) _;simp only[Rp])
 ·exact h1.elim
theorem a8Z{c:TT}{t u:TE}{b:BF}{f k:ZF}(hc:G3 K cl E c b)(hf:k8 K cl E t f)(hk:k8 K cl E u k):k8 K cl E (tIf c t u) (eIf b f k):=by
 intro σ H Q env F R h
 refine hc σ H _ env F R ((Ct.bnd h J6).mono fun x H1 ⟨F1,e1,d,s1,R1,p1,h1⟩=>?_)
 cases (show x=d from p1)
 by_cases z:x=true
 ·rw[if_pos z]at h1 ⊢;exact hf σ H1 Q e1 F1 R1 h1
 ·rw[if_neg z]at h1 ⊢;exact hk σ H1 Q e1 F1 R1 h1
def b1S(K:W.Frag)(cl:Str→Addr)(r:V→Hp→VK→Prop)(g:D→Option D):Prop:=∀x d z H F Q,Same F H→Rb K cl F H d x→g d=some z→(∀v H' F',Gr H F H' F'→Rp K cl F' z v→Q v H')→r x H Q
def eU(g:D→Option D)(f:ZF):ZF:=fun e=>bnd (f e) fun d e1=>W1 (g d) e1
theorem a7T{r:V→Hp→VK→Prop}{g:D→Option D}{t:TE}{f:ZF}(ok:b1S K cl r g)(hf:k8 K cl E t f):k8 K cl E (tUn r t) (eU g f):=by
 intro σ H Q env F R h
 refine hf σ H _ env F R ((Ct.bnd h J6).mono fun x H1 ⟨F1,e1,d,s1,R1,p1,h1⟩=>?_)
 cases hz:g d with
 | none=>rw[hz]at h1;exact h1.elim
 | some z =>
  rw[hz]at h1
  exact ok x d z H1 F1 Q R1.sub (.inl p1) hz fun v H' F' gr p=>h1 v H' F' (R1.frm gr) (R1.gr gr) p
def a0C:D→Option D
 | .int i=>some (.int (-i))
 | _=>none
theorem a35:b1S K cl (rU fun i=>.int (-i)) a0C:=by
 intro x d z H F Q s hx h q
 unfold a0C at h
 split at h
 ·rename_i i;cases h
  exact⟨i,hx.int,q _ H F (.refl s) (by simp only[Rp])⟩
 ·cases h
def a7U(K:W.Frag)(cl:Str→Addr)(r:List V→Hp→VK→Prop)(g:List D→Option D):Prop:=∀xs ds z H F Q,Same F H→Rps K cl F ds xs→g ds=some z→(∀v H' F',Gr H F H' F'→Rp K cl F' z v→Q v H')→r xs H Q
def CbOk1(K:W.Frag)(cl:Str→Addr)(r:List V→Hp→VK→Prop)(g:D→Option D):Prop:=∀x d z H F Q,Same F H→Rb K cl F H d x→g d=some z→(∀v H' F',Gr H F H' F'→Rp K cl F' z v→Q v H')→r [x] H Q
def eCB(g:List D→Option D)(f:AF):ZF:=fun e=>bnd (f e) fun ds e1=>W1 (g ds) e1
def C0(g:D→Option D)(i:Nat):ZF:=fun e=>match look e i with
 | some d=>W1 (g d) e
 | none=>none
theorem a3t{r:List V→Hp→VK→Prop}{g:List D→Option D}{t:TA}{f:AF}(ok:a7U K cl r g)(hf:M7 K cl E t f):k8 K cl E (tCB r t) (eCB g f):=by
 intro σ H Q env F R h
 refine hf σ H _ env F R ((Ct.bnd h J6).mono fun x H1 ⟨F1,e1,d,s1,R1,p1,h1⟩=>?_)
 cases hz:g d with
 | none=>rw[hz]at h1;exact h1.elim
 | some z =>
  rw[hz]at h1
  exact ok x d z H1 F1 Q R1.sub p1 hz fun v H' F' gr p=>h1 v H' F' (R1.frm gr) (R1.gr gr) p
theorem K2{r:List V→Hp→VK→Prop}{g:D→Option D}{i:Nat}(ok:CbOk1 K cl r g):k8 K cl E (tCB r (A3 (y9 i) L5)) (C0 g i):=by
 intro σ H Q env F R h
 unfold C0 at h
 cases q:look env i with
 | none=>rw[q]at h;exact h.elim
 | some d =>
  rw[q]at h
  obtain⟨x,e,rb⟩:=R.look q
  refine⟨x,e,?_⟩
  cases hz:g d with
  | none=>simp only[hz,Z1]at h;exact h.elim
  | some z =>
   simp only[hz,Z0]at h
   exact ok x d z H F Q R.sub rb hz fun v H' F' gr p=>h v H' F' (R.frm gr) (R.gr gr) p
def g1(g:D→Option D):List D→Option D
 | [d]=>g d
 | _=>none
theorem CbOk1.cb{r:List V→Hp→VK→Prop}{g:D→Option D}(ok:CbOk1 K cl r g):a7U K cl r (g1 g):=by
 intro xs ds z H F Q s hx h q
 unfold g1 at h
 split at h
 ·obtain⟨v,r,rfl,h1,h2⟩:=hx.inv
  rw[h2.inv0]
  exact ok v _ z H F Q s (.inl h1) h q
 ·cases h
def b1T(K:W.Frag)(cl:Str→Addr)(r:List V→Hp→VK→Prop)(g:D→Option (List D)):Prop:=∀x d zs H F Q,Same F H→Rb K cl F H d x→g d=some zs→(∀p xs,H p=none→Rps K cl F zs xs→Q (.ref p) (upd H p (.lst xs)))→r [x] H Q
def nCV(g:D→Option (List D))(i:Nat):NF:=fun e=>match look e i with
 | some d=>W1 (g d) e
 | none=>none
theorem a6E{r:List V→Hp→VK→Prop}{g:D→Option (List D)}{i:Nat}(ok:b1T K cl r g):RfN K cl E (tCB r (A3 (y9 i) L5)) (nCV g i):=by
 intro σ H Q env F R h
 unfold nCV at h
 cases q:look env i with
 | none=>rw[q]at h;exact h.elim
 | some d =>
  rw[q]at h
  obtain⟨x,e,rb⟩:=R.look q
  refine⟨x,e,?_⟩
  cases hz:g d with
  | none=>simp only[hz,Z1]at h;exact h.elim
  | some z =>
   simp only[hz,Z0]at h
   exact ok x d z H F Q R.sub rb hz fun p xs hp r=>Ct.newN R hp r h
def b1U(K:W.Frag)(cl:Str→Addr)(r:R2)(g:D→D→Option (List D)):Prop:=∀x y d e zs H F Q,Same F H→Rb K cl F H d x→Rb K cl F H e y→g d e=some zs→(∀p xs,H p=none→Rps K cl F zs xs→Q (.ref p) (upd H p (.lst xs)))→r x y H Q
def nB(g:D→D→Option (List D))(f k:ZF):NF:=fun e=>bnd (f e) fun d e1=>bnd (k e1) fun d' e2=>W1 (g d d') e2
theorem b2Q{r:R2}{g:D→D→Option (List D)}{ta tb:TE}{f k:ZF}(ok:b1U K cl r g)(ha:k8 K cl E ta f)(hb:k8 K cl E tb k):RfN K cl E (tOp r ta tb) (nB g f k):=by
 intro σ H Q env F R h
 refine ha σ H _ env F R ((Ct.bnd h a1v).mono fun x H1 ⟨F1,e1,d,s1,R1,p1,h1⟩=>?_)
 refine hb σ H1 _ e1 F1 R1 ((Ct.bnd h1 a1v).mono fun y H2 ⟨F2,e2,e,s2,R2,p2,h2⟩=>?_)
 cases hz:g d e with
 | none=>rw[hz]at h2;exact h2.elim
 | some z =>
  rw[hz]at h2
  exact ok x y d e z H2 F2 Q R2.sub (.inl (Rp.mono s2 _ _ p1)) (.inl p2) hz fun p xs hp r=>Ct.newN R2 hp r h2
end
section
variable {K:W.Frag}{cl:Str→Addr}{E:XK}{σ:St}{H F:Hp}{env:DE}
instance decMul(i j:Int):Decidable (IntMulOk i j):=by unfold IntMulOk;infer_instance
instance decPow(i j:Int):Decidable (a2l i j):=by unfold a2l;infer_instance
abbrev D3:=gI0 fun i j=>.int (i+j)
abbrev O7:=gI0 fun i j=>.int (i-j)
abbrev G9:=gI IntMulOk fun i j=>.int (i*j)
abbrev z8:=gI (fun _ j=>0<j∧j.natAbs.log2<9000) fun i j=>.int (i/j)
abbrev A4:=gI (fun _ j=>0<j) fun i j=>.int (i%j)
abbrev J7:=gI a2l fun i j=>.int (i ^ j.toNat)
abbrev gLt:=gI0 fun i j=>.bl (decide (i<j))
abbrev gLe:=gI0 fun i j=>.bl (decide (i≤j))
abbrev gGt:=gI0 fun i j=>.bl (decide (j<i))
abbrev gGe:=gI0 fun i j=>.bl (decide (j≤i))
theorem K0:OpOk K cl (U0 fun i j=>.int (i+j)) D3:=a01 fun F i j=>by simp only[Rp]
theorem a13:OpOk K cl (U0 fun i j=>.int (i-j)) O7:=a01 fun F i j=>by simp only[Rp]
theorem a36:OpOk K cl (rI IntMulOk fun i j=>.int (i*j)) G9:=a5G fun F i j=>by simp only[Rp]
theorem J0:OpOk K cl (rI (fun _ j=>0<j∧j.natAbs.log2<9000) fun i j=>.int (i/j)) z8:=a5G fun F i j=>by simp only[Rp]
theorem J1:OpOk K cl (rI (fun _ j=>0<j) fun i j=>.int (i%j)) A4:=a5G fun F i j=>by simp only[Rp]
theorem P7:OpOk K cl (rI a2l fun i j=>.int (i ^ j.toNat)) J7:=a5G fun F i j=>by simp only[Rp]
theorem Z2:OpOk K cl (U0 fun i j=>.bl (decide (i<j))) gLt:=a01 fun F i j=>by simp only[Rp]
theorem b2R:OpOk K cl (U0 fun i j=>.bl (decide (i≤j))) gLe:=a01 fun F i j=>by simp only[Rp]
theorem a14:OpOk K cl (U0 fun i j=>.bl (decide (j<i))) gGt:=a01 fun F i j=>by simp only[Rp]
theorem a5H:OpOk K cl (U0 fun i j=>.bl (decide (j≤i))) gGe:=a01 fun F i j=>by simp only[Rp]
def toV:D→Option V
 | .non=>some .non
 | .bl b=>some (.bl b)
 | .int i=>some (.int i)
 | .str x=>some (.str x)
 | _=>none
theorem Rb.toV{d:D}{v u:V}(h:Rb K cl F H d v)(e:toV d=some u):v=u:=by
 cases d with
 | non=>cases e;exact h.non
 | bl b=>cases e;exact h.bl
 | int i=>cases e;exact h.int
 | str x=>cases e;exact h.str
 | _=>cases e
def C1(neg:Bool)(d e:D):Option D:=match toV d,toV e with
 | some x,some y=>if a5q x y=true then some (.bl (if neg then !decide (x=y)else decide (x=y)))else none
 | _,_=>none
theorem S3:OpOk K cl rEq (C1 false):=by
 intro x y d e z H F Q s hx hy h q
 unfold C1 at h
 split at h
 ·rename_i u w hu hw
  split at h
  ·rename_i c;cases h
   rw[hx.toV hu,hy.toV hw]
   exact⟨c,q _ H F (.refl s) (by simp only[Rp];rfl)⟩
  ·cases h
 ·cases h
theorem a5I:OpOk K cl rNe (C1 true):=by
 intro x y d e z H F Q s hx hy h q
 unfold C1 at h
 split at h
 ·rename_i u w hu hw
  split at h
  ·rename_i c;cases h
   rw[hx.toV hu,hy.toV hw]
   exact⟨c,q _ H F (.refl s) (by simp only[Rp];rfl)⟩
  ·cases h
 ·cases h
@[simp] theorem a9A(neg:Bool)(a b:Int):C1 neg (.int a) (.int b)=some (.bl (if neg then !decide (a=b)else decide (a=b))):=by
 unfold C1 toV
 simp only[a5q,if_true,V.int.injEq]
def a1x(neg:Bool)(d e:D):Option D:=match d,e with
 | .non,.non=>some (.bl (!neg))
 | _,.non=>some (.bl neg)
 | _,_=>none
theorem Rb.notNon{d:D}{v:V}(h:Rb K cl F H d v)(n:d≠.non):v≠.non:=by
 rcases h with h | ⟨_,_,_,rfl,_⟩
 ·cases d<;>simp only[Rp]at h
  ·exact absurd rfl n
  all_goals first | (rw[h];intro z;cases z) | (obtain⟨_,_,rfl,_⟩:=h;intro z;cases z) | (obtain⟨_,rfl,_⟩:=h;intro z;cases z) | (obtain⟨_,_,_,rfl,_⟩:=h;intro z;cases z)
 ·intro z;cases z
theorem a6G:OpOk K cl (fun x y H Q=>y=.non∧Q (.bl (decide (x=.non))) H) (a1x false):=by
 intro x y d e z H F Q s hx hy h q
 unfold a1x at h
 split at h
 ·cases h;rw[hx.non];exact⟨hy.non,q _ H F (.refl s) (by simp[Rp])⟩
 ·rename_i n;cases h
  exact⟨hy.non,q _ H F (.refl s) (by simp only[Rp];rw[decide_eq_false (hx.notNon n)])⟩
 ·cases h
theorem Rps.atI{ds:List D}{xs:List V}{i:Int}{d:D}(h:Rps K cl F ds xs)(e:atI ds i=some d):∃v,L2.atI xs i=some v∧Rp K cl F d v:=by
 unfold L2.atI at e ⊢
 rw[← h.length]
 cases q:G1 ds.length i with
 | none=>rw[q]at e;cases e
 | some j=>rw[q]at e;exact h.get e
def D4(d e:D):Option D:=match d,e with
 | .lst ds,.int i=>atI ds i
 | .scr ns,.int i=>(atI ns i).map .int
 | _,_=>none
def d9(d e:D):Option D:=match d,e with
 | .tup ds,.int i=>atI ds i
 | _,_=>none
theorem a9B{α β:Type}(f:α→β)(xs:List α)(i:Int):atI (xs.map f) i=(atI xs i).map f:=by
 unfold L2.atI
 rw[List.length_map]
 cases G1 xs.length i with
 | none=>rfl
 | some j=>simp
theorem M1:OpOk K cl (a3K K) D4:=by
 intro x y d e z H F Q s hx hy h q
 unfold D4 at h
 split at h
 ·obtain⟨a,xs,rfl,hH,r⟩:=hx.lst s
  obtain⟨v,e,p⟩:=r.atI h
  exact⟨a,xs,_,v,rfl,hy.int,.of hH,e,q v H F (.refl s) p⟩
 ·rename_i ns i
  obtain⟨a,rfl,hS⟩:=hx.scr s
  cases hz:atI ns i with
  | none=>rw[hz]at h;cases h
  | some n =>
   rw[hz]at h;cases h
   exact⟨a,_,_,.int n,rfl,hy.int,hS.seq,by rw[a9B,hz];rfl,q _ H F (.refl s) (by simp only[Rp])⟩
 ·cases h
theorem i4:OpOk K cl (a2q K) d9:=by
 intro x y d e z H F Q s hx hy h q
 unfold d9 at h
 split at h
 ·obtain⟨a,xs,rfl,hH,r⟩:=hx.tup s
  obtain⟨v,e,p⟩:=r.atI h
  exact⟨a,xs,_,v,rfl,hy.int,.of hH,e,q v H F (.refl s) p⟩
 ·cases h
def U7:D→D→Bool
 | .non,.non=>true
 | .bl a,.bl b=>a == b
 | .bl a,.int b=>(if a then 1 else 0) == b
 | .int a,.bl b=>a == (if b then 1 else 0)
 | .int a,.int b=>a == b
 | .str a,.str b=>a == b
 | _,_=>false
def a5J:List D→List D→Bool
 | [],[]=>true
 | x::xs,y::ys=>U7 x y && a5J xs ys
 | _,_=>false
def j7:D→Bool
 | .non=>true
 | .bl _=>true
 | .int _=>true
 | .str _=>true
 | _=>false
theorem Rp.flat{d:D}{v:V}(h:Rp K cl F d v)(f:j7 d=true):toV d=some v∧a3p v=true:=by
 cases d<;>simp only[Rp]at h<;>first | (subst h;exact⟨rfl,rfl⟩) | cases f
theorem Rps.flat:∀{ds:List D} {vs:List V},Rps K cl F ds vs→ds.all j7=true→vs.all a3p=true
 | [],_,h,_=>by rw[h.inv0];rfl
 | d::ds,_,h,f=>by
  obtain⟨v,r,rfl,h1,h2⟩:=h.inv
  rw[List.all_cons,Bool.and_eq_true]at f
  rw[List.all_cons,(h1.flat f.1).2,h2.flat f.2];rfl
theorem Rp.eq{d e:D}{v u:V}(h:Rp K cl F d v)(g:Rp K cl F e u)(fd:j7 d=true)(fe:j7 e=true):eqV v u=U7 d e:=by
 have h1:=(h.flat fd).1
 have h2:=(g.flat fe).1
 cases d<;>cases e<;>first | (cases h1;cases h2;rfl) | (cases fd;done) | (cases fe;done)
theorem Rps.eq:∀{ds es:List D} {vs us:List V},Rps K cl F ds vs→Rps K cl F es us→ds.all j7=true→es.all j7=true→a7E vs us=a5J ds es
 | [],[],_,_,h,g,_,_=>by rw[h.inv0,g.inv0];rfl
 | [],_::_,_,_,h,g,_,_=>by rw[h.inv0];obtain⟨_,_,rfl,_,_⟩:=g.inv;rfl
 | _::_,[],_,_,h,g,_,_=>by rw[g.inv0];obtain⟨_,_,rfl,_,_⟩:=h.inv;rfl
 | d::ds,e::es,_,_,h,g,fd,fe=>by
  obtain⟨v,r,rfl,h1,h2⟩:=h.inv
  obtain⟨u,r',rfl,g1,g2⟩:=g.inv
  rw[List.all_cons,Bool.and_eq_true]at fd fe
  unfold a7E a5J
  rw[h1.eq g1 fd.1 fe.1,h2.eq g2 fd.2 fe.2]
theorem Rps.rep{ds:List D}{xs:List V}(h:Rps K cl F ds xs):∀n:Nat,Rps K cl F (List.replicate n ds).flatten (List.replicate n xs).flatten
 | 0=>.nil
 | n+1=>by rw[List.replicate_succ,List.replicate_succ,List.flatten_cons,List.flatten_cons];exact h.append (h.rep n)
def a2A(d e:D):Option (List D):=match d,e with
 | .lst ds,.int k=>if -(2 ^ 63)≤k∧k<2 ^ 63∧ds.length*k.toNat≤sizeLine then some (List.replicate k.toNat ds).flatten else none
 | _,_=>none
theorem b1V:b1U K cl b1m a2A:=by
 intro x y d e zs H F Q s hx hy h q
 unfold a2A at h
 split at h
 ·split at h
  ·rename_i ds k c;cases h
   obtain⟨a,xs,rfl,hH,r⟩:=hx.lst s
   exact⟨a,k,xs,rfl,hy.int,hH,c.1,c.2.1,by rw[← r.length];exact c.2.2,fun p hp=>q p _ hp (r.rep _)⟩
  ·cases h
 ·cases h
def t6:D→Option D
 | .lst ds=>some (.int ds.length)
 | .tup ds=>some (.int ds.length)
 | .scr ns=>some (.int ns.length)
 | _=>none
theorem E5:CbOk1 K cl (a4Y K) t6:=by
 intro x d z H F Q s hx h q
 unfold t6 at h
 split at h
 ·cases h
  obtain⟨a,xs,rfl,hH,r⟩:=hx.lst s
  exact⟨a,xs,rfl,.inl (.of hH),q _ H F (.refl s) (by simp only[Rp];rw[r.length])⟩
 ·cases h
  obtain⟨a,xs,rfl,hH,r⟩:=hx.tup s
  exact⟨a,xs,rfl,.inr (.of hH),q _ H F (.refl s) (by simp only[Rp];rw[r.length])⟩
 ·cases h
  obtain⟨a,rfl,hS⟩:=hx.scr s
  exact⟨a,_,rfl,.inl hS.seq,q _ H F (.refl s) (by simp only[Rp];rw[List.length_map])⟩
 ·cases h
def W2:D→Option (List D)
 | .lst ds=>some ds
 | .tup ds=>some ds
 | .scr ns=>some (ns.map .int)
 | _=>none
theorem a47:b1T K cl (a2w K) W2:=by
 intro x d zs H F Q s hx h q
 unfold W2 at h
 split at h
 ·cases h
  obtain⟨a,xs,rfl,hH,r⟩:=hx.lst s
  exact⟨a,xs,rfl,.inl (.of hH),fun p hp=>q p _ hp r⟩
 ·cases h
  obtain⟨a,xs,rfl,hH,r⟩:=hx.tup s
  exact⟨a,xs,rfl,.inr (.of hH),fun p hp=>q p _ hp r⟩
 ·cases h
  obtain⟨a,rfl,hS⟩:=hx.scr s
  exact⟨a,_,rfl,.inl hS.seq,fun p hp=>q p _ hp Rps.ofInts⟩
 ·cases h
end
inductive R1 where | ret (d:D) | own (ds:List D) | owz (dss:List (List D)) | owp (n:Int) (ds:List D) | ex (c:Str)
def i6(K:W.Frag)(cl:Str→Addr)(g:List D→Option R1):Sp:=fun vs H Q E=>∃ds F,Same F H∧Rps K cl F ds vs∧match g ds with
 | none=>False
 | some (.ret d)=>∀v H' F',Gr H F H' F'→Rp K cl F' d v→Q v H'
 | some (.own es)=>∀a xs H' F',Gr H F H' F'→H a=none→H' a=some (.lst xs)→F' a=none→Rps K cl F' es xs→Q (.ref a) H'
 | some (.owz dss)=>∀p as H' F',Gr H F H' F'→H p=none→H' p=some (.tup (as.map V.ref))→F' p=none→Rz K cl F' H' (fun a=>H a=none) dss as→Q (.ref p) H'
 | some (.owp n es)=>∀p a xs H' F',Gr H F H' F'→H p=none→H' p=some (.tup [.int n,.ref a])→F' p=none→H a=none→H' a=some (.lst xs)→F' a=none→Rps K cl F' es xs→Q (.ref p) H'
 | some (.ex c)=>∀H' F',Gr H F H' F'→E (.ref (cl c)) none H'
def toZ(r:Option R1)(e:DE):Option (R D):=match r with
 | none=>none
 | some (.ret d)=>some (.ok d e)
 | some (.own ds)=>some (.ok (.lst ds) e)
 | some (.owz _)=>none
 | some (.owp _ _)=>none
 | some (.ex c)=>some (.ex c)
def Z3(r:Option R1)(e:DE):Option (R D):=match r with
 | some (.ret d)=>some (.ok d e)
 | some (.own ds)=>some (.ok (.lst ds) e)
 | _=>none
def a3u(g:List D→Option R1)(f:AF):ZF:=fun e=>bnd (f e) fun ds e1=>toZ (g ds) e1
def i8(g:List D→Option R1)(f:AF):ZF:=fun e=>bnd (f e) fun ds e1=>Z3 (g ds) e1
def put(i:Nat)(s:Sl)(e:DE):Option RS:=match e[i]? with
 | none=>none
 | some (.hd _)=>none
 | some _=>some (.nx (e.set i s))
def a15(i:Nat)(r:Option R1)(e:DE):Option RS:=match r with
 | none=>none
 | some (.ret d)=>put i (.fz d) e
 | some (.own ds)=>put i (.ow ds) e
 | some (.owz _)=>none
 | some (.owp _ _)=>none
 | some (.ex c)=>some (.ex c)
def a16(i:Nat)(r:Option R1)(e:DE):Option RS:=match r with
 | some (.ret d)=>put i (.fz d) e
 | some (.own ds)=>put i (.ow ds) e
 | _=>none
def a3v(r:Option R1):Option RS:=match r with
 | none=>none
 | some (.ret d)=>some (.rt d)
 | some (.own ds)=>some (.ro ds)
 | some (.owz dss)=>some (.rz dss)
 | some (.owp n ds)=>some (.rp n ds)
 | some (.ex c)=>some (.ex c)
def a6H(r:Option R1):Option RS:=match r with
 | some (.ret d)=>some (.rt d)
 | some (.own ds)=>some (.ro ds)
 | _=>none
def C6:SF:=fun e=>some (.nx e)
def d7(f k:SF):SF:=fun e=>match f e with
 | some (.nx e1)=>k e1
 | r=>r
def u5(i:Nat)(f:ZF):SF:=fun e=>G2 (f e) fun d e1=>put i (.fz d) e1
def x9(i:Nat)(f:NF):SF:=fun e=>G2 (f e) fun ds e1=>put i (.ow ds) e1
def a3w(i:Nat)(g:List D→Option R1)(f:AF):SF:=fun e=>G2 (f e) fun ds e1=>a15 i (g ds) e1
def X9(i:Nat)(g:List D→Option R1)(f:AF):SF:=fun e=>G2 (f e) fun ds e1=>a16 i (g ds) e1
def m4(f:ZF):SF:=fun e=>G2 (f e) fun d _=>some (.rt d)
def a5K(f:NF):SF:=fun e=>G2 (f e) fun ds _=>some (.ro ds)
def Z4(i:Nat):SF:=fun e=>match e[i]? with
 | some (.fz d)=>some (.rt d)
 | some (.ow ds)=>some (.ro ds)
 | _=>none
def C7(c:BF)(f k:SF):SF:=fun e=>G2 (c e) fun b e1=>if b=true then f e1 else k e1
def sEx(f:ZF):SF:=fun e=>G2 (f e) fun _ e1=>some (.nx e1)
def a37(c:Str)(f:AF):SF:=fun e=>G2 (f e) fun ds _=>if ds.length≤sizeLine then some (.ex c)else none
def N5(i:Nat)(f:ZF):SF:=fun e=>match look e i with
 | some (.lst _)=>G2 (f e) fun d e1=>match e1[i]? with
  | some (.ow ds)=>if ds.length<sizeLine then some (.nx (e1.set i (.ow (ds++[d]))))else none
  | _=>none
 | _=>none
def a5L(i:Nat)(k:ZF)(f:ZF):SF:=fun e=>G2 (f e) fun d e1=>match look e1 i with
 | none=>none
 | some _=>G2 (k e1) fun j e2=>match e2[i]?,j with
  | some (.ow ds),.int j=>match G1 ds.length j with
   | some n=>some (.nx (e2.set i (.ow (ds.set n d))))
   | none=>none
  | _,_=>none
section
variable {K:W.Frag}{cl:Str→Addr}{E:XK}{σ:St}{H F:Hp}{env:DE}
theorem Gr.fx{H' F':Hp}(g:Gr H F H' F'):FX σ H F env H' F':=⟨g.fz,g.sub,fun a o h f _=>g.hid a o h f,g.dom⟩
theorem a38{g:List D→Option R1}{ds:List D}{vs:List V}{Q:VK}(R:Rel K cl σ H F env)(p:Rps K cl F ds vs)(h:Ct K cl E (PZ K cl) (toZ (g ds) env) σ H F env Q):i6 K cl g (vs++[]) H Q E:=by
 rw[List.append_nil]
 refine⟨ds,F,R.sub,p,?_⟩
 unfold toZ at h
 split at h
 ·exact h.elim
 ·exact fun v H' F' gr r=>h v H' F' (R.frm gr) (R.gr gr) r
 ·rename_i es _
  intro a xs H' F' gr ha hH hF r
  have sF:Same F' (upd F' a (.lst xs)):=U2 hF _
  have gr':Gr H F H' (upd F' a (.lst xs)):=by
   refine⟨gr.fz.trans sF,fun b o z=>?_,fun b o hb fb=>?_⟩
   ·by_cases y:b=a
    ·subst y;rw[d5]at z;cases z;exact hH
    ·rw[a7 y]at z;exact gr.sub _ _ z
   ·obtain⟨h1,f1⟩:=gr.hid b o hb fb
    have nb:b≠a:=fun z=>by rw[z,ha]at hb;cases hb
    exact⟨h1,by rw[a7 nb];exact f1⟩
  exact h _ H' _ (R.frm gr') (R.gr gr') (by show Rp K cl _ (.lst es) _;simp only[Rp];exact⟨a,xs,rfl,d5,r.mono sF⟩)
 ·exact h.elim
 ·exact h.elim
 ·exact fun H' F' gr=>h H' F' gr.fx
theorem a9C{r:Option R1}{e:DE}{P:Py D V}{Q:VK}(h:Ct K cl E P (Z3 r e) σ H F env Q):toZ r e=Z3 r e∧∀c,r≠some (.ex c):=by
 unfold Z3 at h
 split at h
 ·exact⟨rfl,fun c z=>by cases z⟩
 ·exact⟨rfl,fun c z=>by cases z⟩
 ·exact h.elim
theorem a9D{g:List D→Option R1}{t:TA}{f:AF}(hf:M7 K cl E t f):k8 K cl E (R8 (i6 K cl g) [] E t) (a3u g f):=by
 intro σ H Q env F R h
 refine hf σ H _ env F R ((Ct.bnd h J6).mono fun vs H1 ⟨F1,e1,ds,s1,R1,p1,h1⟩=>a38 R1 p1 h1)
theorem r9{g:List D→Option R1}{t:TA}{f:AF}(hf:M7 K cl E t f):k8 K cl E (R8 (i6 K cl g) [] E0 t) (i8 g f):=by
 intro σ H Q env F R h
 refine hf σ H _ env F R ((Ct.bnd h J6).mono fun vs H1 ⟨F1,e1,ds,s1,R1,p1,h1⟩=>?_)
 refine a38 R1 p1 ?_
 obtain⟨z,n⟩:=a9C h1
 rw[z]
 unfold Ct at h1 ⊢
 split at h1
 ·exact h1
 ·exact h1
 ·rename_i c q
  exact absurd q (by unfold Z3;split<;>intro y<;>cases y)
theorem D5:RfS K cl E V7 C6:=fun N σ H env F R h=>h σ H F Frm.refl R
theorem h7{t u:TS}{f k:SF}(hf:RfS K cl E t f)(hk:RfS K cl E u k):RfS K cl E (B9 t u) (d7 f k):=by
 intro N σ H env F R h
 refine hf _ σ H env F R ?_
 unfold d7 at h
 split at h
 ·rename_i e1 q
  rw[q]
  intro σ' H' F' fr R'
  exact hk N σ' H' e1 F' R' (h.from fr)
 ·rename_i n
  unfold Cs at h ⊢
  split at h
  ·exact h
  ·rename_i e q;exact absurd q (n e)
  all_goals exact h
theorem a1y{i:Nat}{s:Sl}{e:DE}{N:Ends}{σ0:St}{H0 F0:Hp}{env0:DE}(h:Cs K cl E (put i s e) σ0 H0 F0 env0 N):i<e.length∧(∀ds,e[i]?≠some (.hd ds))∧Cs K cl E (some (.nx (e.set i s))) σ0 H0 F0 env0 N:=by
 unfold put at h
 split at h
 ·exact h.elim
 ·exact h.elim
 ·rename_i z n q
  exact⟨(List.getElem?_eq_some_iff.mp q).1,fun ds y=>by rw[q]at y;cases y;exact n ds rfl,h⟩
theorem E7{i:Nat}{t:TE}{f:ZF}(hf:k8 K cl E t f):RfS K cl E (W9 t (Q9 i)) (u5 i f):=by
 intro N σ H env F R h
 refine hf σ H _ env F R ((Cs.bnd h).mono fun x H1 ⟨F1,e1,d,fr,R1,p1,h1⟩=>?_)
 obtain⟨hi,nh,h2⟩:=a1y h1
 exact h2 _ H1 F1 (fr.trans (Frm.put nh)) (R1.put hi nh p1)
theorem N6{i:Nat}{t:TE}{f:NF}(hf:RfN K cl E t f):RfS K cl E (W9 t (Q9 i)) (x9 i f):=by
 intro N σ H env F R h
 refine hf σ H _ env F R ((Cs.bnd h).mono fun x H1 ⟨F1,e1,ds,fr,R1,p1,h1⟩=>?_)
 obtain⟨a,xs,rfl,hn,hH,hF,nm,r⟩:=p1
 obtain⟨hi,nh,h2⟩:=a1y h1
 exact h2 _ H1 F1 (fr.putO hn nh) (R1.putO hi hH hF nm r)
theorem n9{t:TE}{f:ZF}(hf:k8 K cl E t f):RfS K cl E (T9 t) (m4 f):=by
 intro N σ H env F R h
 exact hf σ H _ env F R ((Cs.bnd h).mono fun x H1 ⟨F1,e1,d,fr,R1,p1,h1⟩=>h1 x H1 F1 (fr.toFX R1.sub) p1)
theorem a9E{t:TE}{f:NF}(hf:RfN K cl E t f):RfS K cl E (T9 t) (a5K f):=by
 intro N σ H env F R h
 refine hf σ H _ env F R ((Cs.bnd h).mono fun x H1 ⟨F1,e1,ds,fr,R1,p1,h1⟩=>?_)
 obtain⟨a,xs,rfl,hn,hH,hF,nm,r⟩:=p1
 exact h1 a xs H1 F1 (fr.toFX R1.sub) hH hF (fun o e=>by rw[hn]at e;cases e) r
theorem a48{i:Nat}:RfS K cl E (T9 (y9 i)) (Z4 i):=by
 intro N σ H env F R h
 unfold Z4 at h
 split at h
 ·rename_i d q
  obtain⟨v,e,r⟩:=R.fz i d q
  exact⟨v,e,h v H F (Frm.refl.toFX R.sub) r⟩
 ·rename_i ds q
  obtain⟨a,xs,e,hH,hF,r⟩:=R.mu i ds (.inl q)
  exact⟨_,e,h a xs H F (Frm.refl.toFX R.sub) hH hF (fun o _=>⟨i,ds,q,e⟩) r⟩
 ·exact h.elim
theorem z9{c:TT}{t u:TS}{b:BF}{f k:SF}(hc:G3 K cl E c b)(hf:RfS K cl E t f)(hk:RfS K cl E u k):RfS K cl E (a0p c t u) (C7 b f k):=by
 intro N σ H env F R h
 refine hc σ H _ env F R ((Cs.bnd h).mono fun x H1 ⟨F1,e1,d,fr,R1,p1,h1⟩=>?_)
 cases (show x=d from p1)
 by_cases z:x=true
 ·rw[if_pos z]at h1 ⊢;exact hf N σ H1 e1 F1 R1 (h1.from fr)
 ·rw[if_neg z]at h1 ⊢;exact hk N σ H1 e1 F1 R1 (h1.from fr)
theorem b2S{t:TE}{f:ZF}(hf:k8 K cl E t f):RfS K cl E (a3o t) (sEx f):=by
 intro N σ H env F R h
 exact hf σ H _ env F R ((Cs.bnd h).mono fun x H1 ⟨F1,e1,d,fr,R1,p1,h1⟩=>h1 σ H1 F1 fr R1)
theorem a7V{c:Str}{t:TA}{f:AF}(hf:M7 K cl E t f):RfS K cl E (a6g (cl c) E t) (a37 c f):=by
 intro N σ H env F R h
 refine hf σ H _ env F R ((Cs.bnd h).mono fun xs H1 ⟨F1,e1,ds,fr,R1,p1,h1⟩=>?_)
 have hl:ds.length=xs.length:=Rps.length p1
 split at h1
 ·rename_i z
  exact⟨by rw[← hl];exact z,h1 H1 F1 (fr.toFX R1.sub)⟩
 ·exact h1.elim
theorem a9F{i:Nat}{g:List D→Option R1}{t:TA}{f:AF}(hf:M7 K cl E t f):RfS K cl E (W9 (R8 (i6 K cl g) [] E t) (Q9 i)) (a3w i g f):=by
 intro N σ H env F R h
 refine hf σ H _ env F R ((Cs.bnd h).mono fun vs H1 ⟨F1,e1,ds,fr,R1,p1,h1⟩=>?_)
 show i6 K cl g (vs++[]) H1 _ E
 rw[List.append_nil]
 refine⟨ds,F1,R1.sub,p1,?_⟩
 unfold a15 at h1
 split at h1
 ·exact h1.elim
 ·obtain⟨hi,nh,h2⟩:=a1y h1
  exact fun v H' F' gr r=>h2 _ H' F' ((fr.trans (R1.frm gr)).trans (Frm.put nh)) ((R1.gr gr).put hi nh r)
 ·obtain⟨hi,nh,h2⟩:=a1y h1
  intro a xs H' F' gr ha hH hF r
  refine h2 _ H' F' ((fr.trans (R1.frm gr)).putO (fr.dom a ha) nh) ((R1.gr gr).putO hi hH hF (fun j mj e=>?_) r)
  obtain⟨es,q⟩:=mj
  obtain⟨b,ys,e',hb,_⟩:=R1.mu j es q
  rw[e]at e';cases e'
  rw[ha]at hb;cases hb
 ·exact h1.elim
 ·exact h1.elim
 ·exact fun H' F' gr=>h1 H' F' (fr.fx gr.fx)
theorem a39{i:Nat}{g:List D→Option R1}{t:TA}{f:AF}(hf:M7 K cl E t f):RfS K cl E (W9 (R8 (i6 K cl g) [] E0 t) (Q9 i)) (X9 i g f):=by
 intro N σ H env F R h
 refine hf σ H _ env F R ((Cs.bnd h).mono fun vs H1 ⟨F1,e1,ds,fr,R1,p1,h1⟩=>?_)
 show i6 K cl g (vs++[]) H1 _ E0
 rw[List.append_nil]
 refine⟨ds,F1,R1.sub,p1,?_⟩
 unfold a16 at h1
 split at h1
 ·rename_i q;rw[q]
  obtain⟨hi,nh,h2⟩:=a1y h1
  exact fun v H' F' gr r=>h2 _ H' F' ((fr.trans (R1.frm gr)).trans (Frm.put nh)) ((R1.gr gr).put hi nh r)
 ·rename_i q;rw[q]
  obtain⟨hi,nh,h2⟩:=a1y h1
  intro a xs H' F' gr ha hH hF r
  refine h2 _ H' F' ((fr.trans (R1.frm gr)).putO (fr.dom a ha) nh) ((R1.gr gr).putO hi hH hF (fun j mj e=>?_) r)
  obtain⟨es,q⟩:=mj
  obtain⟨b,ys,e',hb,_⟩:=R1.mu j es q
  rw[e]at e';cases e'
  rw[ha]at hb;cases hb
 ·exact h1.elim
theorem Rel.change{i:Nat}{ds es:List D}{a:Addr}{ys:List V}(R:Rel K cl σ H F env)(h:env[i]? = some (.ow ds))(e:σ[i]? = some (some (.ref a)))(r:Rps K cl F es ys) :
  Rel K cl σ (upd H a (.lst ys)) F (env.set i (.ow es))∧Frm σ H F env σ (upd H a (.lst ys)) F (env.set i (.ow es)):=by
 obtain⟨a',xs,e',hH,hF,_⟩:=R.mu i ds (.inl h)
 rw[e]at e';cases e'
 have hi:i<env.length:=(List.getElem?_eq_some_iff.mp h).1
 have self:(env.set i (.ow es))[i]? = some (.ow es):=List.getElem?_set_self hi
 have oth:∀j,j≠i→(env.set i (.ow es))[j]? = env[j]?:=fun j hj=>List.getElem?_set_ne (Ne.symm hj)
 have mui:∀j,Mu (env.set i (.ow es)) j→Mu env j:=fun j ⟨fs,q⟩=>by
  by_cases z:j=i
  ·subst z;exact⟨ds,.inl h⟩
  ·rw[oth j z]at q;exact⟨fs,q⟩
 refine⟨⟨fun b o q=>?_,by rw[List.length_set];exact R.len,fun j d q=>?_,fun j fs q=>?_,fun j k b hj hk=>R.inj j k b (mui j hj) (mui k hk)⟩,⟨Same.refl _,fun b o hb fb w=>?_,fun j fs q=>?_,fun b q=>?_⟩⟩
 ·have z:b≠a:=fun z=>by rw[z,hF]at q;cases q
  rw[a7 z];exact R.sub _ _ q
 ·have z:j≠i:=fun z=>by subst z;rw[self]at q;cases q
  rw[oth j z]at q;exact R.fz j d q
 ·by_cases z:j=i
  ·subst z
   rw[self]at q
   rcases q with q | q
   ·cases q;exact⟨a,ys,e,d5,hF,r⟩
   ·cases q
  ·rw[oth j z]at q
   obtain⟨b,zs,e1,h1,f1,r1⟩:=R.mu j fs q
   have nb:b≠a:=fun y=>z (R.inj j i b ⟨fs,q⟩ ⟨ds,.inl h⟩ e1 (by rw[y];exact e))
   exact⟨b,zs,e1,by rw[a7 nb];exact h1,f1,r1⟩
 ·have z:b≠a:=fun z=>w ⟨i,ds,h,by rw[z];exact e⟩
  refine⟨by rw[a7 z];exact hb,fb,fun⟨j,fs,q,e1⟩=>?_⟩
  by_cases y:j=i
  ·subst y;rw[e]at e1;cases e1;exact z rfl
  ·rw[oth j y]at q;exact w ⟨j,fs,q,e1⟩
 ·have z:j≠i:=fun z=>by subst z;rw[h]at q;cases q
  exact⟨by rw[oth j z];exact q,rfl⟩
 ·by_cases z:b=a
  ·rw[z,d5]at q;cases q
  ·rw[a7 z]at q;exact q
theorem a0G{i:Nat}{t:TE}{f:ZF}(hf:k8 K cl E t f):RfS K cl E (a3o (tBM K "list" a2r (y9 i) (A3 t L5))) (N5 i f):=by
 intro N σ H env F R h
 unfold N5 at h
 split at h
 ·rename_i ds0 q
  obtain⟨x,e0,rb⟩:=R.look q
  obtain⟨a0,xs0,rfl,hH0,_⟩:=rb.lst R.sub
  refine⟨_,e0,.inl ⟨rfl,xs0,.of hH0⟩,?_⟩
  ·refine hf σ H _ env F R ((Cs.bnd h).mono fun y H1 ⟨F1,e1,d,fr,R1,p1,h1⟩=>?_)
   split at h1
   ·rename_i ds q1
    split at h1
    ·rename_i c
     obtain⟨a,xs,e,hH,hF,r⟩:=R1.mu i ds (.inl q1)
     rw[e0]at e;cases e
     obtain⟨R2,f2⟩:=R1.change q1 e0 (r.append (.one p1))
     exact⟨_,xs,y,rfl,rfl,hH,by rw[← r.length];exact c,h1 σ _ F1 (fr.trans f2) R2⟩
    ·exact h1.elim
   ·exact h1.elim
 ·exact h.elim
theorem b1W{i:Nat}{t u:TE}{f k:ZF}(hf:k8 K cl E t f)(hk:k8 K cl E u k):RfS K cl E (W9 t (b08 (y9 i) u a5x)) (a5L i k f):=by
 intro N σ H env F R h
 refine hf σ H _ env F R ((Cs.bnd h).mono fun x H1 ⟨F1,e1,d,fr,R1,p1,h1⟩=>?_)
 cases q:look e1 i with
 | none=>simp only[q]at h1;exact h1.elim
 | some d0 =>
  simp only[q]at h1
  obtain⟨o,e0,_⟩:=R1.look q
  refine⟨o,e0,hk σ H1 _ e1 F1 R1 ((Cs.bnd (h1.from fr)).mono fun y H2 ⟨F2,e2,j,fr2,R2,p2,h2⟩=>?_)⟩
  split at h2
  ·rename_i _ _ ds j q2
   split at h2
   ·rename_i n hn
    obtain⟨a,xs,e,hH,hF,r⟩:=R2.mu i ds (.inl q2)
    rw[e0]at e;cases e
    obtain⟨R3,f3⟩:=R2.change q2 e0 (r.set (Rp.mono fr2.fz _ _ p1) n)
    have hy:y=.int j:=by have:=(show Rp K cl F2 (.int j) y from p2);simpa only[Rp]using this
    exact⟨a,xs,j,n,rfl,hy,hH,by rw[← r.length];exact hn,h2 σ _ F2 (fr2.trans f3) R3⟩
   ·exact h2.elim
  ·exact h2.elim
end
abbrev GF:=D→DE→Option DE
def c8(i:Nat):GF:=fun d e=>match e[i]? with
 | none=>none
 | some (.hd _)=>none
 | some _=>some (e.set i (.fz d))
def Z5:List GF→List D→DE→Option DE
 | [],[],e=>some e
 | b::bs,d::ds,e=>match b d e with
  | none=>none
  | some e1=>Z5 bs ds e1
 | _,_,_=>none
def w6(bs:List GF):GF:=fun d e=>match d with
 | .tup ds=>Z5 bs ds e
 | _=>none
section
variable (K:W.Frag)(cl:Str→Addr)
def M8(k:Nat)(g:TG)(b:GF):Prop:=∀v σ H Q d env env' F,Rel K cl σ H F env→Rp K cl F d v→b d env=some env'→(∀σ',σ'.drop k=σ.drop k→σ'.length=σ.length→Frm σ H F env σ' H F env'→Rel K cl σ' H F env'→Q σ' H)→g v σ H Q
def a5M(k:Nat)(t:TGs)(bs:List GF):Prop:=∀vs σ H Q ds env env' F,Rel K cl σ H F env→Rps K cl F ds vs→Z5 bs ds env=some env'→(∀σ',σ'.drop k=σ.drop k→σ'.length=σ.length→Frm σ H F env σ' H F env'→Rel K cl σ' H F env'→Q σ' H)→t vs σ H Q
end
section
variable {K:W.Frag}{cl:Str→Addr}{E:XK}{σ:St}{H F:Hp}{env:DE}{k:Nat}
theorem a7W{α:Type}{l:List α}{i k:Nat}{x:α}(h:i<k):(l.set i x).drop k=l.drop k:=by
 apply List.ext_getElem?
 intro j
 rw[List.getElem?_drop,List.getElem?_drop,List.getElem?_set_ne (by omega)]
theorem k9{i:Nat}(hi:i<k):M8 K cl k (Q9 i) (c8 i):=by
 intro v σ H Q d env env' F R p h q
 unfold c8 at h
 split at h
 ·cases h
 ·cases h
 ·rename_i z n e
  cases h
  have nh:∀ds,env[i]?≠some (.hd ds):=fun ds y=>by rw[e]at y;cases y;exact n ds rfl
  exact q _ (a7W hi) List.length_set (Frm.put nh) (R.put (List.getElem?_eq_some_iff.mp e).1 nh p)
theorem a02:a5M K cl k b06 []:=by
 intro vs σ H Q ds env env' F R p h q
 cases ds with
 | nil=>cases h;exact⟨p.inv0,q σ rfl rfl Frm.refl R⟩
 | cons _ _=>cases h
theorem D6{t:TG}{u:TGs}{b:GF}{bs:List GF}(h1:M8 K cl k t b)(h2:a5M K cl k u bs):a5M K cl k (a8J t u) (b::bs):=by
 intro vs σ H Q ds env env' F R p h q
 cases ds with
 | nil=>cases h
 | cons d ds =>
  obtain⟨v,r,rfl,p1,p2⟩:=p.inv
  unfold Z5 at h
  split at h
  ·cases h
  ·rename_i e1 hb
   refine⟨v,r,rfl,h1 v σ H _ d env e1 F R p1 hb fun σ1 d1 l1 f1 R1=>?_⟩
   exact h2 r σ1 H _ ds e1 env' F R1 p2 h fun σ2 d2 l2 f2 R2=>q σ2 (d2.trans d1) (l2.trans l1) (f1.trans f2) R2
theorem a23:∀{bs:List GF} {ds:List D} {e e':DE},Z5 bs ds e=some e'→ds.length=bs.length
 | [],[],_,_,_=>rfl
 | [],_::_,_,_,h=>by cases h
 | _::_,[],_,_,h=>by cases h
 | b::bs,d::ds,e,e',h=>by
  unfold Z5 at h
  split at h
  ·cases h
  ·simp[a23 h]
theorem a03{t:TGs}{bs:List GF}{n:Nat}(h:a5M K cl k t bs)(hn:bs.length=n):M8 K cl k (a7r K n t) (w6 bs):=by
 intro v σ H Q d env env' F R p e q
 unfold w6 at e
 split at e
 ·rename_i ds
  simp only[Rp]at p
  obtain⟨a,xs,rfl,hF,r⟩:=p
  exact⟨a,xs,rfl,.of (R.sub _ _ hF),by rw[← r.length,a23 e,hn],h xs σ H Q ds env env' F R r e q⟩
 ·cases e
def a5N(f:ZF)(b:GF):SF:=fun e=>G2 (f e) fun d e1=>match b d e1 with
 | none=>none
 | some e2=>some (.nx e2)
theorem b1X{t:TE}{g:TG}{f:ZF}{b:GF}(hf:k8 K cl E t f)(hg:M8 K cl k g b):RfS K cl E (W9 t g) (a5N f b):=by
 intro N σ H env F R h
 refine hf σ H _ env F R ((Cs.bnd h).mono fun x H1 ⟨F1,e1,d,fr,R1,p1,h1⟩=>?_)
 split at h1
 ·exact h1.elim
 ·rename_i e2 hb
  exact hg x σ H1 _ d e1 e2 F1 R1 p1 hb fun σ' _ _ f2 R2=>h1 σ' H1 F1 (fr.trans f2) R2
def l7(b:GF)(body:SF):List D→DE→Option RS
 | [],e=>some (.nx e)
 | d::ds,e=>match b d e with
  | none=>none
  | some e1=>match body e1 with
   | some (.nx e2)=>l7 b body ds e2
   | some (.ct e2)=>l7 b body ds e2
   | some (.bk e2)=>some (.nx e2)
   | r=>r
theorem a1z{b:GF}{body:SF}{g:TG}{tb:TS}{d:D}{x:V}{ds:List D}{e1:DE}{N:Ends}{σ1:St}{H1 F1:Hp}{Pv:St→Hp→Prop}(hb:RfS K cl E tb body)(hg:M8 K cl k g b)
  (f1:Frm σ H F env σ1 H1 F1 e1) (R1:Rel K cl σ1 H1 F1 e1) (p:Rp K cl F1 d x) (h:Cs K cl E (l7 b body (d::ds) e1) σ H F env N)
  (hP:∀σ' H' F' e',Frm σ H F env σ' H' F' e'→Rel K cl σ' H' F' e'→Cs K cl E (l7 b body ds e') σ H F env N→Pv σ' H') :
  g x σ1 H1 fun σ2 H2=>tb { N with nx:=Pv,ct:=Pv,bk:=N.nx } σ2 H2:=by
 unfold l7 at h
 split at h
 ·exact h.elim
 ·rename_i e2 hbd
  refine hg x σ1 H1 _ d e1 e2 F1 R1 p hbd fun σ2 _ _ f2 R2=>?_
  refine hb _ σ2 H1 e2 F1 R2 ?_
  split at h
  ·rename_i e3 q;rw[q]
   exact fun σ' H' F' f3 R3=>hP σ' H' F' e3 ((f1.trans f2).trans f3) R3 h
  ·rename_i e3 q;rw[q]
   exact fun σ' H' F' f3 R3=>hP σ' H' F' e3 ((f1.trans f2).trans f3) R3 h
  ·rename_i e3 q;rw[q]
   exact fun σ' H' F' f3 R3=>h σ' H' F' ((f1.trans f2).trans f3) R3
  ·rename_i n1 n2 n3
   have h2:=h.from (f1.trans f2)
   unfold Cs at h2 ⊢
   split at h2
   ·exact h2
   ·rename_i e q;exact absurd q (n1 e)
   ·rename_i e q;exact absurd q (n3 e)
   ·rename_i e q;exact absurd q (n2 e)
   ·exact h2
   ·exact h2
   ·exact h2
   ·exact h2
   ·exact h2
theorem P8{α:Type}{l:List α}{i:Nat}{x:α}(h:l[i]? = some x):l.drop i=x::l.drop (i+1):=by
 obtain⟨hi,e⟩:=List.getElem?_eq_some_iff.mp h
 rw[← e];exact List.drop_eq_getElem_cons hi
theorem a5O{b:GF}{body:SF}{g:TG}{tb:TS}{ds:List D}{xs:List V}{a:Addr}{N:Ends}(hb:RfS K cl E tb body)(hg:M8 K cl k g b)(R:Rel K cl σ H F env)
  (hl:∀σ' H' F' e',Frm σ H F env σ' H' F' e'→Rel K cl σ' H' F' e'→SqL K H' a xs) (r:Rps K cl F ds xs) (h:Cs K cl E (l7 b body ds env) σ H F env N) :
  ∃W:Nat→Nat→St→Hp→Prop,(∃m,W 0 m σ H)∧∀i m σ H,W i m σ H →
   ((Itl K a).stop i H∧N.nx σ H)∨((Itl K a).go i H∧∃M:St→Hp→Prop,(∀σ' H',M σ' H'→∃m',m'<m∧W (i+1) m' σ' H')∧∀x H',(Itl K a).yld i H x H'→g x σ H' fun σ2 H2=>tb { N with nx:=M,ct:=M,bk:=N.nx } σ2 H2):=by
 refine a7t (xs:=xs) (fun i σ' H'=>∃F' e',Frm σ H F env σ' H' F' e'∧Rel K cl σ' H' F' e'∧Cs K cl E (l7 b body (ds.drop i) e') σ H F env N) ⟨F,env,Frm.refl,R,h⟩ (fun i σ' H' _ ⟨F',e',f,R',_⟩=>hl σ' H' F' e' f R') (fun i x σ' H' hx ⟨F',e',f,R',h'⟩=>?_) (fun σ' H' ⟨F',e',f,R',h'⟩=>?_)
 ·obtain⟨d,hd,p⟩:=r.get' hx
  rw[P8 hd]at h'
  exact a1z hb hg f R' (Rp.mono f.fz _ _ p) h' fun σ2 H2 F2 e2 f2 R2 h2=>⟨F2,e2,f2,R2,h2⟩
 ·rw[← r.length,List.drop_length]at h'
  exact h' σ' H' F' f R'
def seqL:D→Option (List D)
 | .lst ds=>some ds
 | .scr ns=>some (ns.map .int)
 | _=>none
theorem Rp.seqL{d:D}{ds:List D}{v:V}(p:Rp K cl F d v)(s:L2.seqL d=some ds):∃a xs,v=.ref a∧Rps K cl F ds xs∧∀H',Same F H'→SqL K H' a xs:=by
 unfold L2.seqL at s
 split at s
 ·cases s;simp only[Rp]at p
  obtain⟨a,xs,e,h,r⟩:=p
  exact⟨a,xs,e,r,fun H' g=>.of (g _ _ h)⟩
 ·cases s;simp only[Rp]at p
  obtain⟨a,e,h⟩:=p
  exact⟨a,_,e,Rps.ofInts,fun H' g=>(h.same g).seq⟩
 ·cases s
def a3_(f:ZF)(b:GF)(body:SF):SF:=fun e=>G2 (f e) fun d e1=>match seqL d with
 | none=>none
 | some ds=>l7 b body ds e1
theorem b1Y{t:TE}{g:TG}{tb:TS}{f:ZF}{b:GF}{body:SF}(hf:k8 K cl E t f)(hg:M8 K cl k g b)(hb:RfS K cl E tb body):RfS K cl E (a3G (a1I K t) g tb) (a3_ f b body):=by
 intro N σ H env F R h
 refine hf σ H _ env F R ((Cs.bnd h).mono fun x H1 ⟨F1,e1,d,fr,R1,p1,h1⟩=>?_)
 split at h1
 ·exact h1.elim
 ·rename_i ds hs
  obtain⟨a,xs,rfl,r,hl⟩:=Rp.seqL p1 hs
  exact⟨a,rfl,⟨xs,hl H1 R1.sub⟩,a5O hb hg R1 (fun σ' H' F' e' f2 R2=>hl H' (f2.fz.trans R2.sub)) r (h1.from fr)⟩
def Q3(lo:Int)(n:Nat):List D:=(List.range n).map fun(i:Nat)=>.int (lo+(i:Int))
theorem a6I{lo:Int}{n i:Nat}(h:i<n):(Q3 lo n).drop i=.int (lo+i)::(Q3 lo n).drop (i+1):=P8 (by unfold Q3;rw[List.getElem?_map,List.getElem?_range h];rfl)
theorem a7X{lo:Int}{n:Nat}:(Q3 lo n).length=n:=by unfold Q3;rw[List.length_map,List.length_range]
theorem b3v{b:GF}{body:SF}{g:TG}{tb:TS}{lo:Int}{n:Nat}{N:Ends}(hb:RfS K cl E tb body)(hg:M8 K cl k g b)(R:Rel K cl σ H F env)(h:Cs K cl E (l7 b body (Q3 lo n) env) σ H F env N) :
  ∃W:Nat→Nat→St→Hp→Prop,(∃m,W 0 m σ H)∧∀i m σ H,W i m σ H →
   ((Itr lo n).stop i H∧N.nx σ H)∨((Itr lo n).go i H∧∃M:St→Hp→Prop,(∀σ' H',M σ' H'→∃m',m'<m∧W (i+1) m' σ' H')∧∀x H',(Itr lo n).yld i H x H'→g x σ H' fun σ2 H2=>tb { N with nx:=M,ct:=M,bk:=N.nx } σ2 H2):=by
 refine a59 (fun i σ' H'=>∃F' e',Frm σ H F env σ' H' F' e'∧Rel K cl σ' H' F' e'∧Cs K cl E (l7 b body ((Q3 lo n).drop i) e') σ H F env N) ⟨F,env,Frm.refl,R,h⟩ (fun i σ' H' hx ⟨F',e',f,R',h'⟩=>?_) (fun σ' H' ⟨F',e',f,R',h'⟩=>?_)
 ·rw[a6I hx]at h'
  exact a1z hb hg f R' (by simp only[Rp]) h' fun σ2 H2 F2 e2 f2 R2 h2=>⟨F2,e2,f2,R2,h2⟩
 ·rw[show(Q3 lo n).drop n=[]from List.drop_eq_nil_of_le (by rw[a7X];exact Nat.le_refl _)]at h'
  exact h' σ' H' F' f R'
def a2B(ds:List D):Option (Int×Nat):=match ds with
 | [.int j]=>if -(2 ^ 62)≤j∧j<2 ^ 62 then some (0,j.toNat)else none
 | _=>none
theorem a9G{ds:List D}{vs:List V}{lo:Int}{n:Nat}(h:a2B ds=some (lo,n))(p:Rps K cl F ds vs):∃j:Int,vs=[.int j]∧-(2 ^ 62)≤j∧j<2 ^ 62∧lo=0∧n=j.toNat:=by
 unfold a2B at h
 split at h
 ·rename_i j
  split at h
  ·rename_i c;cases h
   exact⟨j,(Rps.ints (ns:=[j]) p),c.1,c.2,rfl,rfl⟩
  ·cases h
 ·cases h
def a17(rg:List D→Option (Int×Nat))(f:AF)(b:GF)(body:SF):SF:=fun e=>G2 (f e) fun ds e1=>match rg ds with
 | none=>none
 | some (lo,n)=>l7 b body (Q3 lo n) e1
theorem a7Y{t:TA}{g:TG}{tb:TS}{f:AF}{b:GF}{body:SF}(hf:M7 K cl E t f)(hg:M8 K cl k g b)(hb:RfS K cl E tb body):RfS K cl E (a3G (a8N t) g tb) (a17 a2B f b body):=by
 intro N σ H env F R h
 refine hf σ H _ env F R ((Cs.bnd h).mono fun x H1 ⟨F1,e1,ds,fr,R1,p1,h1⟩=>?_)
 split at h1
 ·exact h1.elim
 ·rename_i lo n hs
  obtain⟨j,e,c1,c2,rfl,rfl⟩:=a9G hs p1
  exact⟨j,e,c1,c2,b3v hb hg R1 (h1.from fr)⟩
end
section
variable {K:W.Frag}{cl:Str→Addr}{E:XK}{σ:St}{H F:Hp}{env:DE}{k:Nat}
def unhide(i:Nat)(ds:List D)(r:Option RS):Option RS:=match r with
 | some (.nx e)=>some (.nx (e.set i (.ow ds)))
 | some (.bk _)=>none
 | some (.ct _)=>none
 | r=>r
theorem Rel.hide{i:Nat}{ds:List D}(R:Rel K cl σ H F env)(h:env[i]? = some (.ow ds)):Rel K cl σ H F (env.set i (.hd ds)):=by
 have hi:i<env.length:=(List.getElem?_eq_some_iff.mp h).1
 have self:(env.set i (.hd ds))[i]? = some (.hd ds):=List.getElem?_set_self hi
 have oth:∀j,j≠i→(env.set i (.hd ds))[j]? = env[j]?:=fun j hj=>List.getElem?_set_ne (Ne.symm hj)
 have mui:∀(j:Nat) (fs:List D),(env.set i (.hd ds))[j]? = some (.ow fs)∨(env.set i (.hd ds))[j]? = some (.hd fs)→env[j]? = some (.ow fs)∨env[j]? = some (.hd fs):=fun j fs q=>by
  by_cases z:j=i
  ·subst z;rw[self]at q;rcases q with q | q<;>cases q;exact .inl h
  ·rw[oth j z]at q;exact q
 refine⟨R.sub,by rw[List.length_set];exact R.len,fun j d q=>?_,fun j fs q=>R.mu j fs (mui j fs q),fun j l b ⟨fs,q⟩ ⟨gs,q'⟩=>R.inj j l b ⟨fs,mui j fs q⟩ ⟨gs,mui l gs q'⟩⟩
 have z:j≠i:=fun z=>by subst z;rw[self]at q;cases q
 rw[oth j z]at q;exact R.fz j d q
theorem Ow.hide{i:Nat}{ds:List D}{a:Addr}(w:Ow σ (env.set i (.hd ds)) a):Ow σ env a:=by
 obtain⟨j,fs,q,e⟩:=w
 by_cases z:j=i
 ·subst z
  have hj:j<env.length:=by have:=(List.getElem?_eq_some_iff.mp q).1;rwa [List.length_set]at this
  rw[List.getElem?_set_self hj]at q;cases q
 ·rw[List.getElem?_set_ne (Ne.symm z)]at q;exact⟨j,fs,q,e⟩
theorem Rel.unhide{i:Nat}{ds:List D}(R:Rel K cl σ H F env)(h:env[i]? = some (.hd ds)):Rel K cl σ H F (env.set i (.ow ds)):=by
 have hi:i<env.length:=(List.getElem?_eq_some_iff.mp h).1
 have self:(env.set i (.ow ds))[i]? = some (.ow ds):=List.getElem?_set_self hi
 have oth:∀j,j≠i→(env.set i (.ow ds))[j]? = env[j]?:=fun j hj=>List.getElem?_set_ne (Ne.symm hj)
 have mui:∀(j:Nat) (fs:List D),(env.set i (.ow ds))[j]? = some (.ow fs)∨(env.set i (.ow ds))[j]? = some (.hd fs)→env[j]? = some (.ow fs)∨env[j]? = some (.hd fs):=fun j fs q=>by
  by_cases z:j=i
  ·subst z;rw[self]at q;rcases q with q | q<;>cases q;exact .inr h
  ·rw[oth j z]at q;exact q
 refine⟨R.sub,by rw[List.length_set];exact R.len,fun j d q=>?_,fun j fs q=>R.mu j fs (mui j fs q),fun j l b ⟨fs,q⟩ ⟨gs,q'⟩=>R.inj j l b ⟨fs,mui j fs q⟩ ⟨gs,mui l gs q'⟩⟩
 have z:j≠i:=fun z=>by subst z;rw[self]at q;cases q
 rw[oth j z]at q;exact R.fz j d q
theorem Cs.hide{i:Nat}{ds:List D}{r:Option RS}{N:Ends}(R:Rel K cl σ H F env)(h:env[i]? = some (.ow ds))(c:Cs K cl E (unhide i ds r) σ H F env N):Cs K cl E r σ H F (env.set i (.hd ds)) N:=by
 have hi:i<env.length:=(List.getElem?_eq_some_iff.mp h).1
 have self:(env.set i (.hd ds))[i]? = some (.hd ds):=List.getElem?_set_self hi
 have fx:∀{H' F'},FX σ H F (env.set i (.hd ds)) H' F'→FX σ H F env H' F':=fun x=>⟨x.fz,x.sub,fun a o h f w=>x.hid a o h f fun y=>w y.hide,x.dom⟩
 rcases r with _ | r
 ·exact c
 cases r with
 | nx e =>
  intro σ' H' F' f R'
  obtain⟨q,eσ⟩:=f.keep i ds self
  refine c σ' H' F' ⟨f.fz,fun a o ha fa w=>?_,fun j fs q'=>?_,f.dom⟩ (R'.unhide q)
  ·obtain⟨h1,f1,w1⟩:=f.hid a o ha fa fun y=>w y.hide
   refine⟨h1,f1,fun⟨j,fs,q2,e2⟩=>?_⟩
   by_cases z:j=i
   ·subst z
    rw[eσ]at e2
    exact w ⟨j,ds,h,e2⟩
   ·rw[List.getElem?_set_ne (Ne.symm z)]at q2
    exact w1 ⟨j,fs,q2,e2⟩
  ·have z:j≠i:=fun z=>by subst z;rw[h]at q';cases q'
   obtain⟨q2,e2⟩:=f.keep j fs (by rw[List.getElem?_set_ne (Ne.symm z)];exact q')
   exact⟨by rw[List.getElem?_set_ne (Ne.symm z)];exact q2,e2⟩
 | bk e=>exact c.elim
 | ct e=>exact c.elim
 | rt d=>exact fun v H' F' x p=>c v H' F' (fx x) p
 | ro es=>exact fun a xs H' F' x ha fa nw p=>c a xs H' F' (fx x) ha fa (fun o e=>(nw o e).hide) p
 | rp n es=>exact fun p a xs H' F' x hp ht fp ha fa nw r=>c p a xs H' F' (fx x) hp ht fp ha fa (fun o e=>(nw o e).hide) r
 | rz dss=>exact fun p as H' F' x hp ht fp rz=>c p as H' F' (fx x) hp ht fp (rz.imp fun a xs ha fa nw o e=>(nw o e).hide)
 | ex n=>exact fun H' F' x=>c H' F' (fx x)
def Z6(i:Nat)(b:GF)(body:SF):SF:=fun e=>match e[i]? with
 | some (.fz d)=>(match seqL d with
  | none=>none
  | some ds=>l7 b body ds e)
 | some (.ow ds)=>unhide i ds (l7 b body ds (e.set i (.hd ds)))
 | some (.hd ds)=>l7 b body ds e
 | _=>none
theorem Rel.hid_stays{i:Nat}{ds:List D}(R:Rel K cl σ H F env)(h:env[i]? = some (.hd ds)):∃a xs,σ[i]? = some (some (.ref a))∧Rps K cl F ds xs∧H a=some (.lst xs)∧∀σ' H' F' e',Frm σ H F env σ' H' F' e'→H' a=some (.lst xs):=by
 obtain⟨a,xs,e,hH,hF,r⟩:=R.mu i ds (.inr h)
 refine⟨a,xs,e,r,hH,fun σ' H' F' e' f=>(f.hid a _ hH hF fun⟨j,fs,q,e'⟩=>?_).1⟩
 have z:i=j:=R.inj i j a ⟨ds,.inr h⟩ ⟨fs,.inl q⟩ e e'
 subst z;rw[h]at q;cases q
theorem a49{i:Nat}{g:TG}{tb:TS}{b:GF}{body:SF}(hg:M8 K cl k g b)(hb:RfS K cl E tb body):RfS K cl E (a3G (a1I K (y9 i)) g tb) (Z6 i b body):=by
 intro N σ H env F R h
 unfold Z6 at h
 split at h
 ·rename_i d q
  split at h
  ·exact h.elim
  ·rename_i ds hs
   obtain⟨v,e,p⟩:=R.fz i d q
   obtain⟨a,xs,rfl,r,hl⟩:=Rp.seqL p hs
   exact⟨_,e,a,rfl,⟨xs,hl H R.sub⟩,a5O hb hg R (fun σ' H' F' e' f2 R2=>hl H' (f2.fz.trans R2.sub)) r h⟩
 ·rename_i ds q
  have hi:i<env.length:=(List.getElem?_eq_some_iff.mp q).1
  have R':=R.hide q
  obtain⟨a,xs,e,r,hH,st⟩:=R'.hid_stays (i:=i) (ds:=ds) (List.getElem?_set_self hi)
  exact⟨_,e,a,rfl,⟨xs,.of hH⟩,a5O hb hg R' (fun σ' H' F' e' f2 R2=>.of (st σ' H' F' e' f2)) r (h.hide R q)⟩
 ·rename_i ds q
  obtain⟨a,xs,e,r,hH,st⟩:=R.hid_stays q
  exact⟨_,e,a,rfl,⟨xs,.of hH⟩,a5O hb hg R (fun σ' H' F' e' f2 R2=>.of (st σ' H' F' e' f2)) r h⟩
 ·exact h.elim
def K7(n:Nat):List D→List D
 | []=>[]
 | d::ds=>.tup [.int n,d]::K7 (n+1) ds
theorem a04:∀{ds:List D} {n i:Nat} {d:D},ds[i]? = some d→(K7 n ds)[i]? = some (.tup [.int (n+i:Nat),d])
 | [],_,_,_,h=>by simp at h
 | _::_,n,0,_,h=>by simp at h;subst h;rfl
 | _::ds,n,i+1,d,h=>by
  have:=a04 (ds:=ds) (n:=n+1) (i:=i) (d:=d) (by simpa using h)
  show(K7 (n+1) ds)[i]? = _
  rw[this,show n+1+i=n+(i+1) by omega]
theorem a05:∀{ds:List D} {n:Nat},(K7 n ds).length=ds.length
 | [],_=>rfl
 | _::ds,n=>by show(K7 (n+1) ds).length+1=ds.length+1;rw[a05]
theorem a7Z{b:GF}{body:SF}{g:TG}{tb:TS}{ds:List D}{xs:List V}{a:Addr}{N:Ends}(hb:RfS K cl E tb body)(hg:M8 K cl k g b)(R:Rel K cl σ H F env)
  (hl:∀σ' H' F' e',Frm σ H F env σ' H' F' e'→Rel K cl σ' H' F' e'→SqL K H' a xs) (r:Rps K cl F ds xs) (h:Cs K cl E (l7 b body (K7 0 ds) env) σ H F env N) :
  ∃W:Nat→Nat→St→Hp→Prop,(∃m,W 0 m σ H)∧∀i m σ H,W i m σ H →
   ((Ite K a).stop i H∧N.nx σ H)∨((Ite K a).go i H∧∃M:St→Hp→Prop,(∀σ' H',M σ' H'→∃m',m'<m∧W (i+1) m' σ' H')∧∀x H',(Ite K a).yld i H x H'→g x σ H' fun σ2 H2=>tb { N with nx:=M,ct:=M,bk:=N.nx } σ2 H2):=by
 refine a7G (xs:=xs) (fun i σ' H'=>∃F' e',Frm σ H F env σ' H' F' e'∧Rel K cl σ' H' F' e'∧Cs K cl E (l7 b body ((K7 0 ds).drop i) e') σ H F env N) ⟨F,env,Frm.refl,R,h⟩ (fun i σ' H' _ ⟨F',e',f,R',_⟩=>hl σ' H' F' e' f R') (fun i x σ' H' p hx ⟨F',e',f,R',h'⟩ hp=>?_) (fun σ' H' ⟨F',e',f,R',h'⟩=>?_)
 ·obtain⟨d,hd,pd⟩:=r.get' hx
  rw[P8 (a04 hd),Nat.zero_add]at h'
  have gr:Gr H' F' (upd H' p (.tup [.int i,x])) (upd F' p (.tup [.int i,x])):=.new R'.sub hp
  refine a1z hb hg (f.trans (R'.frm gr)) (R'.gr gr) ?_ h' fun σ2 H2 F2 e2 f2 R2 h2=>⟨F2,e2,f2,R2,h2⟩
  simp only[Rp]
  exact⟨p,_,rfl,d5,.cons (by simp only[Rp]) (.one (Rp.mono (f.fz.trans gr.fz) _ _ pd))⟩
 ·rw[← r.length,List.drop_eq_nil_of_le (by rw[a05];exact Nat.le_refl _)]at h'
  exact h' σ' H' F' f R'
def P9(i:Nat)(b:GF)(body:SF):SF:=fun e=>match e[i]? with
 | some (.fz d)=>(match seqL d with
  | none=>none
  | some ds=>l7 b body (K7 0 ds) e)
 | some (.ow ds)=>unhide i ds (l7 b body (K7 0 ds) (e.set i (.hd ds)))
 | some (.hd ds)=>l7 b body (K7 0 ds) e
 | _=>none
theorem a4a{i:Nat}{g:TG}{tb:TS}{b:GF}{body:SF}(hg:M8 K cl k g b)(hb:RfS K cl E tb body):RfS K cl E (a3G (a5C K (A3 (y9 i) L5)) g tb) (P9 i b body):=by
 intro N σ H env F R h
 unfold P9 at h
 split at h
 ·rename_i d q
  split at h
  ·exact h.elim
  ·rename_i ds hs
   obtain⟨v,e,p⟩:=R.fz i d q
   obtain⟨a,xs,rfl,r,hl⟩:=Rp.seqL p hs
   exact⟨_,e,a,rfl,⟨xs,hl H R.sub⟩,a7Z hb hg R (fun σ' H' F' e' f2 R2=>hl H' (f2.fz.trans R2.sub)) r h⟩
 ·rename_i ds q
  have hi:i<env.length:=(List.getElem?_eq_some_iff.mp q).1
  have R':=R.hide q
  obtain⟨a,xs,e,r,hH,st⟩:=R'.hid_stays (i:=i) (ds:=ds) (List.getElem?_set_self hi)
  exact⟨_,e,a,rfl,⟨xs,.of hH⟩,a7Z hb hg R' (fun σ' H' F' e' f2 R2=>.of (st σ' H' F' e' f2)) r (h.hide R q)⟩
 ·rename_i ds q
  obtain⟨a,xs,e,r,hH,st⟩:=R.hid_stays q
  exact⟨_,e,a,rfl,⟨xs,.of hH⟩,a7Z hb hg R (fun σ' H' F' e' f2 R2=>.of (st σ' H' F' e' f2)) r h⟩
 ·exact h.elim
def a2C(e:DE):Bool:=e.all fun s=>match s with
 | .hd _=>false
 | _=>true
def b1Z(n i:Nat)(exm:Str→Bool)(body suite:SF):SF:=fun e=>match body e with
 | some (.ex c)=>if(exm c && a2C e)=true then(match suite ((List.replicate n Sl.no).set i (.fz (.exc c)))with
   | some (.nx e2)=>put i .no e2
   | some (.rt d)=>some (.rt d)
   | some (.ro ds)=>some (.ro ds)
   | _=>none)else none
 | r=>r
theorem Rel.drop{i:Nat}(R:Rel K cl σ H F env)(nh:∀ds,env[i]?≠some (.hd ds)):Rel K cl (σ.set i none) H F (env.set i .no)∧Frm σ H F env (σ.set i none) H F (env.set i .no):=by
 have key:∀(j:Nat) (s:Sl),(env.set i .no)[j]? = some s→s≠.no→j≠i∧env[j]? = some s:=fun j s q ns=>by
  by_cases z:j=i
  ·subst z
   have hj:j<env.length:=by have:=(List.getElem?_eq_some_iff.mp q).1;rwa [List.length_set]at this
   rw[List.getElem?_set_self hj]at q;cases q;exact absurd rfl ns
  ·rw[List.getElem?_set_ne (Ne.symm z)]at q;exact⟨z,q⟩
 have muk:∀j,Mu (env.set i .no) j→j≠i∧Mu env j:=fun j ⟨ds,q⟩=>by
  rcases q with q | q
  ·obtain⟨z,q⟩:=key j _ q (fun z=>by cases z);exact⟨z,ds,.inl q⟩
  ·obtain⟨z,q⟩:=key j _ q (fun z=>by cases z);exact⟨z,ds,.inr q⟩
 refine⟨⟨R.sub,by rw[List.length_set,List.length_set];exact R.len,fun j d q=>?_,fun j ds q=>?_,fun j l b hj hl e1 e2=>?_⟩,⟨Same.refl _,fun a o h f w=>⟨h,f,fun⟨j,ds,q,e⟩=>?_⟩,fun j ds q=>?_,fun _ h=>h⟩⟩
 ·obtain⟨z,q⟩:=key j _ q (fun z=>by cases z)
  obtain⟨v,e,p⟩:=R.fz j d q
  exact⟨v,by rw[List.getElem?_set_ne (Ne.symm z)];exact e,p⟩
 ·have:j≠i∧(env[j]? = some (.ow ds)∨env[j]? = some (.hd ds)):=by
   rcases q with q | q
   ·obtain⟨z,q⟩:=key j _ q (fun z=>by cases z);exact⟨z,.inl q⟩
   ·obtain⟨z,q⟩:=key j _ q (fun z=>by cases z);exact⟨z,.inr q⟩
  obtain⟨z,q⟩:=this
  obtain⟨a,xs,e,r⟩:=R.mu j ds q
  exact⟨a,xs,by rw[List.getElem?_set_ne (Ne.symm z)];exact e,r⟩
 ·obtain⟨zj,mj⟩:=muk j hj
  obtain⟨zl,ml⟩:=muk l hl
  rw[List.getElem?_set_ne (Ne.symm zj)]at e1
  rw[List.getElem?_set_ne (Ne.symm zl)]at e2
  exact R.inj j l b mj ml e1 e2
 ·obtain⟨z,q⟩:=key j _ q (fun z=>by cases z)
  rw[List.getElem?_set_ne (Ne.symm z)]at e
  exact w ⟨j,ds,q,e⟩
 ·have z:j≠i:=fun z=>by subst z;exact nh ds q
  rw[List.getElem?_set_ne (Ne.symm z),List.getElem?_set_ne (Ne.symm z)]
  exact⟨q,rfl⟩
end
section
variable {K:W.Frag}{cl:Str→Addr}{E:XK}{σ:St}{H F:Hp}{env:DE}{k:Nat}
def Z7:Option Sl→Sl
 | some (.fz d)=>.fz d
 | some (.ow ds)=>.hd ds
 | some (.hd ds)=>.hd ds
 | _=>.no
def j4(k:Nat)(js:List Nat)(e:DE):DE:=List.replicate k .no++js.map fun j=>Z7 e[j]?
def l6(b:GF)(c:BF)(el:ZF)(ec:DE)(eo:DE):List D→List D→Option (R (List D))
 | [],acc=>some (.ok acc eo)
 | d::ds,acc=>match b d ec with
  | none=>none
  | some e1=>bnd (c e1) fun t e2=>if t=true then bnd (el e2) fun y _=>if acc.length<sizeLine then l6 b c el ec eo ds (acc++[y])else none
   else l6 b c el ec eo ds acc
theorem W3{js:List Nat}{e:DE}{i:Nat}{s:Sl}(h:(j4 k js e)[i]? = some s)(n:s≠.no):k≤i∧∃j,js[i-k]? = some j∧Z7 e[j]? = s:=by
 unfold j4 at h
 by_cases z:i<k
 ·rw[List.getElem?_append_left (by rw[List.length_replicate];exact z),List.getElem?_replicate,if_pos z]at h
  cases h;exact absurd rfl n
 ·rw[List.getElem?_append_right (by rw[List.length_replicate];omega),List.length_replicate,List.getElem?_map]at h
  cases q:js[i-k]? with
  | none=>rw[q]at h;cases h
  | some j=>rw[q]at h;cases h;exact⟨by omega,j,rfl,rfl⟩
theorem S5{js:List Nat}{i j:Nat}{v:V}(hk:k≤i)(hj:js[i-k]? = some j)(h:σ[j]? = some (some v)):(k7 k js σ)[i]? = some (some v):=by
 unfold k7
 rw[List.getElem?_append_right (by rw[List.length_replicate];exact hk),List.length_replicate,List.getElem?_map,hj]
 simp[h]
theorem Rel.comp{js:List Nat}(R:Rel K cl σ H F env)(nd:js.Nodup):Rel K cl (k7 k js σ) H F (j4 k js env):=by
 have cap:∀{j:Nat} {ds:List D},Z7 env[j]? = .hd ds→env[j]? = some (.ow ds)∨env[j]? = some (.hd ds):=fun{j ds} h=>by
  unfold Z7 at h
  split at h
  ·cases h
  ·rename_i q;cases h;exact .inl q
  ·rename_i q;cases h;exact .inr q
  ·cases h
 have noow:∀{j:Nat} {ds:List D},Z7 env[j]?≠.ow ds:=fun{j ds} h=>by
  unfold Z7 at h
  split at h<;>cases h
 have mu':∀(i:Nat) (ds:List D),((j4 k js env)[i]? = some (.ow ds)∨(j4 k js env)[i]? = some (.hd ds))→k≤i∧∃j,js[i-k]? = some j∧(env[j]? = some (.ow ds)∨env[j]? = some (.hd ds)):=fun i ds q=>by
  rcases q with q | q
  ·obtain⟨hk,j,hj,c⟩:=W3 q (fun z=>by cases z);exact absurd c noow
  ·obtain⟨hk,j,hj,c⟩:=W3 q (fun z=>by cases z);exact⟨hk,j,hj,cap c⟩
 refine⟨R.sub,?_,fun i d q=>?_,fun i ds q=>?_,fun i l b ⟨ds,q⟩ ⟨es,q'⟩ e1 e2=>?_⟩
 ·unfold k7 j4
  rw[List.length_append,List.length_append,List.length_replicate,List.length_replicate,List.length_map,List.length_map]
 ·obtain⟨hk,j,hj,c⟩:=W3 q (fun z=>by cases z)
  have:env[j]? = some (.fz d):=by
   unfold Z7 at c
   split at c
   ·rename_i q;cases c;exact q
   all_goals cases c
  obtain⟨v,e,p⟩:=R.fz j d this
  exact⟨v,S5 hk hj e,p⟩
 ·obtain⟨hk,j,hj,c⟩:=mu' i ds q
  obtain⟨a,xs,e,r⟩:=R.mu j ds c
  exact⟨a,xs,S5 hk hj e,r⟩
 ·obtain⟨hk,j,hj,c⟩:=mu' i ds q
  obtain⟨hl,m,hm,c'⟩:=mu' l es q'
  obtain⟨a,xs,e,_⟩:=R.mu j ds c
  obtain⟨a',xs',e',_⟩:=R.mu m es c'
  have h1:=S5 (k:=k) hk hj e
  have h2:=S5 (k:=k) hl hm e'
  rw[e1]at h1;cases h1
  rw[e2]at h2;cases h2
  have jm:j=m:=R.inj j m b ⟨ds,c⟩ ⟨es,c'⟩ e e'
  subst jm
  obtain⟨hi',ei⟩:=List.getElem?_eq_some_iff.mp hj
  obtain⟨hl',el⟩:=List.getElem?_eq_some_iff.mp hm
  have:i-k=l-k:=(List.getElem_inj nd).mp (ei.trans el.symm)
  omega
def NoOw(e:DE):Prop:=∀(i:Nat) (ds:List D),e[i]?≠some (.ow ds)
theorem a24{js:List Nat}{e:DE}:NoOw (j4 k js e):=fun i ds q=>by
 obtain⟨hk,j,hj,c⟩:=W3 q (fun z=>by cases z)
 unfold Z7 at c
 split at c<;>cases c
theorem NoOw.not{e:DE}(n:NoOw e){σ:St}{a:Addr}:¬Ow σ e a:=fun⟨i,ds,q,_⟩=>n i ds q
theorem Frm.gr{σ':St}{H' F':Hp}{env':DE}(f:Frm σ H F env σ' H' F' env')(n:NoOw env)(s:Same F' H'):Gr H F H' F':=⟨f.fz,s,fun a o h g=>by obtain⟨h1,f1,_⟩:=f.hid a o h g n.not;exact⟨h1,f1⟩⟩
theorem FX.gr{H' F':Hp}(f:FX σ H F env H' F')(n:NoOw env):Gr H F H' F':=⟨f.fz,f.sub,fun a o h g=>f.hid a o h g n.not⟩
structure Grow(K:W.Frag)(cl:Str→Addr)(σ:St)(H0 F0:Hp)(env:DE)(B:Addr)(acc:List D)(ys:List V)(H F:Hp):Prop where
 rel:Rel K cl σ H F env
 frm:Frm σ H0 F0 env σ H F env
 new:H0 B=none
 at_:H B=some (.lst ys)
 un:F B=none
 far:∀j,Mu env j→σ[j]?≠some (some (.ref B))
 rps:Rps K cl F acc ys
 stay:∀a o,H0 a=some o→F0 a=none→H a=some o∧F a=none
theorem Grow.start{B:Addr}(R:Rel K cl σ H F env)(hB:H B=none):Grow K cl σ H F env B [] [] (upd H B (.lst [])) F:=by
 obtain⟨R',f⟩:=R.newN (o:=.lst []) hB
 refine⟨R',f,hB,d5,R.sub.free hB,fun j ⟨ds,q⟩ e=>?_,.nil,fun a o h f=>⟨by rw[a7 (fun z=>by rw[z,hB]at h;cases h)];exact h,f⟩⟩
 obtain⟨a,ys,e1,hH,_⟩:=R.mu j ds q
 rw[e]at e1;cases e1
 rw[hB]at hH;cases hH
theorem Grow.gr{B:Addr}{acc:List D}{ys:List V}{H0 F0 H' F':Hp}(g:Grow K cl σ H0 F0 env B acc ys H F)(r:Gr H F H' F'):Grow K cl σ H0 F0 env B acc ys H' F' :=
 ⟨g.rel.gr r,g.frm.trans (g.rel.frm r),g.new,(r.hid B _ g.at_ g.un).1,(r.hid B _ g.at_ g.un).2,g.far,g.rps.mono r.fz,fun a o h f=>by obtain⟨h1,f1⟩:=g.stay a o h f;exact r.hid a o h1 f1⟩
theorem Grow.push{B:Addr}{acc:List D}{ys:List V}{H0 F0:Hp}{d:D}{y:V}(g:Grow K cl σ H0 F0 env B acc ys H F)(p:Rp K cl F d y):Grow K cl σ H0 F0 env B (acc++[d]) (ys++[y]) (upd H B (.lst (ys++[y]))) F:=by
 have ne:∀a o,F a=some o→a≠B:=fun a o h z=>by rw[z,g.un]at h;cases h
 refine⟨⟨fun a o h=>by rw[a7 (ne a o h)];exact g.rel.sub _ _ h,g.rel.len,g.rel.fz,fun j ds q=>?_,g.rel.inj⟩,⟨g.frm.fz,fun a o h f w=>?_,g.frm.keep,fun a h=>?_⟩,g.new,d5,g.un,g.far,g.rps.append (.one p),fun a o h f=>by rw[a7 (fun z=>by rw[z,g.new]at h;cases h)];exact g.stay a o h f⟩
 ·obtain⟨a,xs,e,hH,r⟩:=g.rel.mu j ds q
  have z:a≠B:=fun z=>g.far j ⟨ds,q⟩ (by rw[e,z])
  exact⟨a,xs,e,by rw[a7 z];exact hH,r⟩
 ·have z:a≠B:=fun z=>by rw[z,g.new]at h;cases h
  rw[a7 z];exact g.frm.hid a o h f w
 ·by_cases z:a=B
  ·rw[z,d5]at h;cases h
  ·rw[a7 z]at h;exact g.frm.dom a h
theorem a25{b:GF}{c:BF}{el:ZF}{g:TG}{tf:TT}{te:TE}{js:List Nat}{B:Addr}{d:D}{x:V}{ds acc:List D}{ys:List V}{H0 F0:Hp}{Q:VK}{Pv:List V→Hp→Prop}(nd:js.Nodup)
  (hg:M8 K cl k g b) (hc:G3 K cl E tf c) (he:k8 K cl E te el) (gw:Grow K cl σ H0 F0 env B acc ys H F) (p:Rp K cl F d x)
  (h:Ct K cl E (PN K cl) (l6 b c el (j4 k js env) env (d::ds) acc) σ H0 F0 env Q)
  (hP:∀acc' ys' H' F',Grow K cl σ H0 F0 env B acc' ys' H' F'→Ct K cl E (PN K cl) (l6 b c el (j4 k js env) env ds acc') σ H0 F0 env Q→Pv ys' H') :
  g x (k7 k js σ) H fun σ2 H2=>(σ2.drop k=(k7 k js σ).drop k∧σ2.length=(k7 k js σ).length)∧tf σ2 H2 fun t H3 =>
   if t=true then te σ2 H3 fun y H4=>H4 B=some (.lst ys)∧ys.length<sizeLine∧Pv (ys++[y]) (upd H4 B (.lst (ys++[y])))else Pv ys H3:=by
 unfold l6 at h
 have Rc:Rel K cl (k7 k js σ) H F (j4 k js env):=gw.rel.comp nd
 split at h
 ·exact h.elim
 ·rename_i e1 hb
  refine hg x _ H _ d _ e1 F Rc p hb fun σ2 d2 l2 f2 R2=>⟨⟨d2,l2⟩,?_⟩
  have n1:NoOw (j4 k js env):=a24
  -- ways out by an exception
  have exc:∀{H' F':Hp} {σ':St} {e':DE} {H'' F'':Hp} {n:Str},Frm (k7 k js σ) H F (j4 k js env) σ' H' F' e'→FX σ' H' F' e' H'' F''→(∀H' F',FX σ H0 F0 env H' F'→E (.ref (cl n)) none H')→E (.ref (cl n)) none H'':=fun{H' F' σ' e' H'' F'' n} f fx q=>by
   have gr:Gr H F H'' F'':=(f.fx fx).gr n1
   exact q _ _ (gw.frm.fx gr.fx)
  refine hc σ2 H _ e1 F R2 ?_
  cases hce:c e1 with
  | none=>rw[hce]at h;exact h.elim
  | some rc =>
   rw[hce]at h
   cases rc with
   | ex n=>exact fun H' F' fx=>exc f2 fx h
   | ok t e2 =>
    intro t' H3 F3 f3 R3 ht
    have ht:t'=t:=ht
    subst ht
    have h:Ct K cl E (PN K cl) (if t'=true then bnd (el e2) fun y _=>if acc.length<sizeLine then l6 b c el (j4 k js env) env ds (acc++[y])else none else l6 b c el (j4 k js env) env ds acc) σ H0 F0 env Q:=h
    have gr3:Gr H F H3 F3:=(f2.trans f3).gr n1 R3.sub
    by_cases z:t'=true
    ·rw[if_pos z]at h ⊢
     refine he σ2 H3 _ e2 F3 R3 ?_
     cases hel:el e2 with
     | none=>rw[hel]at h;exact h.elim
     | some re =>
      rw[hel]at h
      cases re with
      | ex n=>exact fun H' F' fx=>exc (f2.trans f3) fx h
      | ok y e3 =>
       intro v H4 F4 f4 R4 hv
       have h:Ct K cl E (PN K cl) (if acc.length<sizeLine then l6 b c el (j4 k js env) env ds (acc++[y])else none) σ H0 F0 env Q:=h
       split at h
       ·rename_i hlen
        have gr4:Gr H F H4 F4:=((f2.trans f3).trans f4).gr n1 R4.sub
        have gw4:=gw.gr gr4
        exact⟨gw4.at_,by rw[← gw4.rps.length];exact hlen,hP _ _ _ _ (gw4.push hv) h⟩
       ·exact h.elim
    ·rw[if_neg z]at h ⊢
     exact hP _ _ _ _ (gw.gr gr3) h
theorem a4b{b:GF}{c:BF}{el:ZF}{js:List Nat}{B:Addr}{acc:List D}{ys:List V}{H0 F0:Hp}{Q:VK}(gw:Grow K cl σ H0 F0 env B acc ys H F)(h:Ct K cl E (PN K cl) (l6 b c el (j4 k js env) env [] acc) σ H0 F0 env Q):Q (.ref B) H :=
 h _ H F gw.frm gw.rel ⟨B,ys,rfl,gw.new,gw.at_,gw.un,gw.far,gw.rps⟩
theorem a3x{b:GF}{c:BF}{el:ZF}{g:TG}{tf:TT}{te:TE}{js:List Nat}{ds:List D}{xs:List V}{a B:Addr}{Q:VK}(nd:js.Nodup)(hg:M8 K cl k g b)(hc:G3 K cl E tf c)(he:k8 K cl E te el)(R:Rel K cl σ H F env)(hB:H B=none)
  (hl:∀H' F',Same F F'→Same F' H'→(∀a o,H a=some o→F a=none→H' a=some o∧F' a=none)→SqL K H' a xs) (r:Rps K cl F ds xs) (h:Ct K cl E (PN K cl) (l6 b c el (j4 k js env) env ds []) σ H F env Q) :
  U4 (Itl K a) g tf te k (k7 k js σ) B (fun H'=>Q (.ref B) H') H:=by
 refine a6h (xs:=xs) (fun i ys H'=>∃F' acc,Grow K cl σ H F env B acc ys H' F'∧Ct K cl E (PN K cl) (l6 b c el (j4 k js env) env (ds.drop i) acc) σ H F env Q) ⟨F,[],.start R hB,h⟩ (fun i ys H' _ ⟨F',acc,gw,_⟩=>hl H' F' gw.frm.fz gw.rel.sub gw.stay) (fun i x ys H' hx ⟨F',acc,gw,h'⟩=>?_) (fun ys H' ⟨F',acc,gw,h'⟩=>?_)
 ·obtain⟨d,hd,p⟩:=r.get' hx
  rw[P8 hd]at h'
  exact a25 (Pv:=fun ys' H2=>∃F' acc,Grow K cl σ H F env B acc ys' H2 F'∧Ct K cl E (PN K cl) (l6 b c el (j4 k js env) env (ds.drop (i+1)) acc) σ H F env Q) nd hg hc he gw (Rp.mono gw.frm.fz _ _ p) h' fun acc' ys' H2 F2 gw2 h2=>⟨F2,acc',gw2,h2⟩
 ·rw[← r.length,List.drop_length]at h'
  exact a4b gw h'
def A9:BF:=fun e=>some (.ok true e)
theorem K3:G3 K cl E a8T A9:=fun σ H Q env F R h=>h true H F Frm.refl R rfl
def a18(k:Nat)(js:List Nat)(f:ZF)(b:GF)(c:BF)(el:ZF):NF:=fun e=>bnd (f e) fun d e1=>match seqL d with
 | none=>none
 | some ds=>l6 b c el (j4 k js e1) e1 ds []
def C2(i:Nat)(k:Nat)(js:List Nat)(b:GF)(c:BF)(el:ZF):NF:=fun e=>match look e i with
 | some d=>(match seqL d with
  | none=>none
  | some ds=>l6 b c el (j4 k js e) e ds [])
 | none=>none
theorem a9H{t:TE}{g:TG}{tf:TT}{te:TE}{js:List Nat}{f:ZF}{b:GF}{c:BF}{el:ZF}(nd:js.Nodup)(hf:k8 K cl E t f)(hg:M8 K cl k g b)(hc:G3 K cl E tf c)(he:k8 K cl E te el):RfN K cl E (a1T (a1I K t) g tf te k js) (a18 k js f b c el):=by
 intro σ H Q env F R h
 refine hf σ H _ env F R ((Ct.bnd h a1v).mono fun x H1 ⟨F1,e1,d,s1,R1,p1,h1⟩=>?_)
 split at h1
 ·exact h1.elim
 ·rename_i ds hs
  obtain⟨a,xs,rfl,r,hl⟩:=Rp.seqL p1 hs
  exact⟨a,rfl,⟨xs,hl H1 R1.sub⟩,fun B hB=>a3x nd hg hc he R1 hB (fun H' F' f2 s2 _=>hl H' (f2.trans s2)) r h1⟩
theorem N7{i:Nat}{g:TG}{tf:TT}{te:TE}{js:List Nat}{b:GF}{c:BF}{el:ZF}(nd:js.Nodup)(hg:M8 K cl k g b)(hc:G3 K cl E tf c)(he:k8 K cl E te el):RfN K cl E (a1T (a1I K (y9 i)) g tf te k js) (C2 i k js b c el):=by
 intro σ H Q env F R h
 unfold C2 look at h
 cases q:env[i]? with
 | none=>rw[q]at h;exact h.elim
 | some s =>
  rw[q]at h
  cases s with
  | no=>exact h.elim
  | fz d =>
   have h:Ct K cl E (PN K cl) (match seqL d with
    | none=>none
    | some ds=>l6 b c el (j4 k js env) env ds []) σ H F env Q:=h
   split at h
   ·exact h.elim
   ·rename_i ds hs
    obtain⟨v,e,p⟩:=R.fz i d q
    obtain⟨a,xs,rfl,r,hl⟩:=Rp.seqL p hs
    exact⟨_,e,a,rfl,⟨xs,hl H R.sub⟩,fun B hB=>a3x nd hg hc he R hB (fun H' F' f2 s2 _=>hl H' (f2.trans s2)) r h⟩
  | ow ds =>
   have h:Ct K cl E (PN K cl) (l6 b c el (j4 k js env) env ds []) σ H F env Q:=h
   obtain⟨a,xs,e,hH,hF,r⟩:=R.mu i ds (.inl q)
   exact⟨_,e,a,rfl,⟨xs,.of hH⟩,fun B hB=>a3x nd hg hc he R hB (fun H' F' _ _ st=>.of (st a _ hH hF).1) r h⟩
  | hd ds =>
   have h:Ct K cl E (PN K cl) (l6 b c el (j4 k js env) env ds []) σ H F env Q:=h
   obtain⟨a,xs,e,hH,hF,r⟩:=R.mu i ds (.inr q)
   exact⟨_,e,a,rfl,⟨xs,.of hH⟩,fun B hB=>a3x nd hg hc he R hB (fun H' F' _ _ st=>.of (st a _ hH hF).1) r h⟩
theorem a19{i:Nat}{wi:TI}{g:TG}{tf:TT}{te:TE}{js:List Nat}{f:NF}(h:RfN K cl E (a1T wi g tf te k js) f):RfS K cl E (a3T i wi g tf te k js) (x9 i f):=fun N σ H env F R q=>N6 h N σ H env F R q
end
def fD(n m:Nat)(body:SF)(ds:List D):Option R1:=if ds.length=m then(match body (ds.map .fz++List.replicate (n-ds.length) .no)with
 | some (.nx _)=>some (.ret .non)
 | some (.rt d)=>some (.ret d)
 | some (.ro es)=>some (.own es)
 | some (.rz dss)=>some (.owz dss)
 | some (.rp n es)=>some (.owp n es)
 | some (.ex c)=>some (.ex c)
 | _=>none)else none
section
variable {P:Program}{w:World}{K:W.Frag}{mg:Str→Option Value}{base:Heap}{cl:Str→Addr}
theorem a6J{N:List Str}{vs:List V}{ds:List D}{H F:Hp}(s:Same F H)(p:Rps K cl F ds vs):Rel K cl (start N vs) H F (ds.map .fz++List.replicate (N.length-ds.length) .no)∧NoOw (ds.map .fz++List.replicate (N.length-ds.length) .no):=by
 have key:∀(i:Nat) (t:Sl),(ds.map Sl.fz++List.replicate (N.length-ds.length) .no)[i]? = some t→t≠.no→∃d,ds[i]? = some d∧t=.fz d:=fun i t q n=>by
  by_cases z:i<ds.length
  ·rw[List.getElem?_append_left (by rw[List.length_map];exact z),List.getElem?_map]at q
   cases hd:ds[i]? with
   | none=>rw[hd]at q;cases q
   | some d=>rw[hd]at q;cases q;exact⟨d,rfl,rfl⟩
  ·rw[List.getElem?_append_right (by rw[List.length_map];omega),List.getElem?_replicate]at q
   split at q
   ·cases q;exact absurd rfl n
   ·cases q
 have no:NoOw (ds.map .fz++List.replicate (N.length-ds.length) .no):=fun i es q=>by
  obtain⟨d,_,z⟩:=key i _ q (fun z=>by cases z);cases z
 refine⟨⟨s,?_,fun i d q=>?_,fun i es q=>?_,fun i j b ⟨es,q⟩ _ _ _=>?_⟩,no⟩
 ·unfold start
  rw[List.length_append,List.length_append,List.length_map,List.length_map,List.length_replicate,List.length_replicate,p.length]
 ·obtain⟨d',hd,z⟩:=key i _ q (fun z=>by cases z)
  cases z
  obtain⟨v,hv,r⟩:=p.get hd
  refine⟨v,?_,r⟩
  unfold start
  rw[List.getElem?_append_left (by rw[List.length_map];exact(List.getElem?_eq_some_iff.mp hv).1),List.getElem?_map,hv];rfl
 ·rcases q with q | q
  ·obtain⟨d,_,z⟩:=key i _ q (fun z=>by cases z);cases z
  ·obtain⟨d,_,z⟩:=key i _ q (fun z=>by cases z);cases z
 ·rcases q with q | q
  ·obtain⟨d,_,z⟩:=key i _ q (fun z=>by cases z);cases z
  ·obtain⟨d,_,z⟩:=key i _ q (fun z=>by cases z);cases z
theorem a06{n m:Nat}{body:SF}{vs:List V}{H:Hp}{Q:VK}{E:XK}(h:i6 K cl (fD n m body) vs H Q E):vs.length=m:=by
 obtain⟨ds,F,s,p,h⟩:=h
 unfold fD at h
 by_cases z:ds.length=m
 ·rw[← p.length];exact z
 ·rw[if_neg z]at h;exact h.elim
theorem S7{N:List Str}{m:Nat}{body:SF}{t:TS}{vs:List V}{H:Hp}{Q:VK}{E:XK}(hb:RfS K cl E t body)(h:i6 K cl (fD N.length m body) vs H Q E):t { nx:=fun _ H'=>Q .non H',rt:=Q } (start N vs) H:=by
 obtain⟨ds,F,s,p,h⟩:=h
 obtain⟨R,no⟩:=a6J (N:=N) s p
 refine hb _ _ H _ F R ?_
 unfold fD at h
 by_cases z:ds.length=m
 ·rw[if_pos z]at h
  cases r:body (ds.map .fz++List.replicate (N.length-ds.length) .no)with
  | none=>rw[r]at h;exact h.elim
  | some rs =>
   rw[r]at h
   cases rs with
   | nx e=>exact fun σ' H' F' f R'=>h .non H' F' (f.gr no R'.sub) (by simp only[Rp])
   | rt d=>exact fun v H' F' x q=>h v H' F' (x.gr no) q
   | ro es =>
    refine fun a xs H' F' x ha fa nw q=>h a xs H' F' (x.gr no) ?_ ha fa q
    cases e:H a with
    | none=>rfl
    | some o=>exact absurd (nw o e) no.not
   | rz dss =>
    refine fun p as H' F' x hp ht fp rz=>h p as H' F' (x.gr no) hp ht fp (rz.imp fun a xs ha fa nw=>?_)
    cases e:H a with
    | none=>rfl
    | some o=>exact absurd (nw o e) no.not
   | rp n es =>
    refine fun p a xs H' F' x hp ht fp ha fa nw q=>h p a xs H' F' (x.gr no) hp ht fp ?_ ha fa q
    cases e:H a with
    | none=>rfl
    | some o=>exact absurd (nw o e) no.not
   | bk e=>exact h.elim
   | ct e=>exact h.elim
   | ex c=>exact fun H' F' x=>h H' F' (x.gr no)
 ·rw[if_neg z]at h;exact h.elim
theorem Fun.okD{x qual:Str}{st:Stmt}{f:Addr}{fd:FuncData}{N ps:List Str}{k:Nat}{body:SF}(F:Fun K x qual st f fd)(S:FnScope N ps (a8 st))
  (hbody:∀(cdv:Value) (A:Around) (outer:List Env) (s:Shared) (H:Hp) (E:XK),Room k (A.deeper (envOfC qual (a8 st) s.heap.objs.size f cdv)) →
   ∃t,PSs (L8 (n4 P w) P w K mg base N qual (a8 st) f cdv A outer s H E) (i5 st) t∧RfS K cl E t body):FnOk P w K mg base (n4 P w) (k+1) f fd ps (i6 K cl (fD N.length ps.length body)) :=
 F.okE S (fun vs H Q E h=>a06 h) fun cdv A outer s H vs Q E hr h=>by
  obtain⟨t,h1,h2⟩:=hbody cdv A outer s H E hr
  exact⟨t,h1,S7 h2 h⟩
theorem FunD.okD{x qual:Str}{st:Stmt}{dT f:Addr}{fd:FuncData}{N ps:List Str}{k:Nat}{body:SF}(F:FunD K x qual st dT f fd)(S:FnScope N ps (a8 st))
  (hbody:∀(cdv:Value) (A:Around) (outer:List Env) (s:Shared) (H:Hp) (E:XK),Room k (A.deeper (envOfC qual (a8 st) s.heap.objs.size f cdv)) →
   ∃t,PSs (L8 (n4 P w) P w K mg base N qual (a8 st) f cdv A outer s H E) (i5 st) t∧RfS K cl E t body):FnOk P w K mg base (n4 P w) (k+1) f fd ps (i6 K cl (fD N.length ps.length body)) :=
 F.okE S (fun vs H Q E h=>a06 h) fun cdv A outer s H vs Q E hr h=>by
  obtain⟨t,h1,h2⟩:=hbody cdv A outer s H E hr
  exact⟨t,h1,S7 h2 h⟩
theorem a9I{g:List D→Option R1}{vs:List V}{H:Hp}{Q:VK}{E:XK}{a:Addr}{ns:List Int}(e:vs=[.ref a])(h:Scr K H a (ns.map V.int))(q:∀H',Q (.bl true) H')(m:g [.scr ns]=some (.ret (.bl true))):i6 K cl g vs H Q E:=by
 refine⟨[.scr ns],H,Same.refl _,?_,?_⟩
 ·rw[e];exact .one (by simp only[Rp];exact⟨a,rfl,h⟩)
 ·rw[m]
  intro v H' F' _ p
  have p:Rp K cl F' (.bl true) v:=p
  simp only[Rp]at p
  rw[p];exact q H'
def tyN:D→Option String
 | .non=>some "NoneType"
 | .bl _=>some "bool"
 | .int _=>some "int"
 | .str _=>some "str"
 | .lst _=>some "list"
 | .tup _=>some "tuple"
 | _=>none
theorem a4_{K:W.Frag}(t n:String)(ht:t∈["NoneType","bool","int","str","list","tuple"])(hn:n∈["bool","int","str","list","tuple"]):W.kitOne K (.type t) (.type n)=some (t == n || (t == "bool" && n == "int")):=by
 simp only[List.mem_cons,List.not_mem_nil,or_false]at ht hn
 rcases ht with rfl | rfl | rfl | rfl | rfl | rfl<;>rcases hn with rfl | rfl | rfl | rfl | rfl<;>first | rfl | with_unfolding_all rfl
def a1A:List D→Option D
 | [d,.ty n]=>match tyN d with
  | some t=>if n∈["bool","int","str","list","tuple"]then some (.bl (t == n || (t == "bool" && n == "int")))else none
  | none=>none
 | _=>none
theorem a5a{d:D}{t:String}(h:tyN d=some t):t∈["NoneType","bool","int","str","list","tuple"]:=by
 cases d<;>cases h<;>decide
theorem a6L{F H:Hp}{d:D}{t:String}{v:V}(s:Same F H)(p:Rp K cl F d v)(h:tyN d=some t):TyX K H v (.type t):=by
 cases d<;>cases h<;>simp only[Rp]at p
 ·subst p;exact .of .non
 ·subst p;exact .of (.bl _)
 ·subst p;exact .of (.int _)
 ·subst p;exact .of (.str _)
 ·obtain⟨a,xs,rfl,h,_⟩:=p;exact .of (.tup (s _ _ h))
 ·obtain⟨a,xs,rfl,h,_⟩:=p;exact .of (.lst (s _ _ h))
theorem b10:a7U K cl (a5B K) a1A:=by
 intro xs ds z H F Q s hx h q
 unfold a1A at h
 split at h
 ·rename_i d n
  split at h
  ·rename_i t ht
   split at h
   ·rename_i hn;cases h
    obtain⟨v,r,rfl,p1,p2⟩:=hx.inv
    obtain⟨u,r',rfl,p3,p4⟩:=p2.inv
    rw[p4.inv0]
    simp only[Rp]at p3
    subst p3
    exact⟨v,_,_,_,_,rfl,rfl,a6L s p1 ht,a4_ t n (a5a ht) hn,q _ H F (.refl s) (by simp only[Rp])⟩
   ·cases h
  ·cases h
 ·cases h
def a07(n:String)(d:D):Option D:=match tyN d with
 | some t=>if n∈["bool","int","str","list","tuple"]then some (.bl (t == n || (t == "bool" && n == "int")))else none
 | none=>none
def S8(i:Nat)(n:String):ZF:=fun e=>match look e i with
 | some d=>W1 (a07 n d) e
 | none=>none
theorem a08{E:XK}{i:Nat}{n:String}{t:TE}(ht:t=tC (.ty n):=by rfl):k8 K cl E (tCB (a5B K) (A3 (y9 i) (A3 t L5))) (S8 i n):=by
 subst ht
 intro σ H Q env F R h
 unfold S8 at h
 cases q:look env i with
 | none=>rw[q]at h;exact h.elim
 | some d =>
  rw[q]at h
  obtain⟨x,e,rb⟩:=R.look q
  refine⟨x,e,?_⟩
  cases hz:a07 n d with
  | none=>simp only[hz,Z1]at h;exact h.elim
  | some z =>
   simp only[hz,Z0]at h
   unfold a07 at hz
   split at hz
   ·rename_i t ht
    split at hz
    ·rename_i hn;cases hz
     refine⟨x,_,_,_,_,rfl,rfl,?_,a4_ t n (a5a ht) hn,h _ H F Frm.refl R (by show Rp K cl F (.bl _) _;simp only[Rp])⟩
     rcases rb with p | ⟨a,xs,ds,rfl,rfl,hH,_⟩
     ·exact a6L R.sub p ht
     ·cases ht;exact .of (.lst hH)
    ·cases hz
   ·cases hz
end
section
variable {α β:Type}
def Q4(r:Option RS)(k:SF):Option RS:=match r with
 | some (.nx e)=>k e
 | r=>r
theorem a9J{f k:SF}{e:DE}:d7 f k e=Q4 (f e) k:=rfl
theorem a9K{e:DE}{k:SF}:Q4 (some (.nx e)) k=k e:=rfl
theorem a9L{d:D}{k:SF}:Q4 (some (.rt d)) k=some (.rt d):=rfl
theorem a9M{d:List D}{k:SF}:Q4 (some (.ro d)) k=some (.ro d):=rfl
theorem a9N{d:Str}{k:SF}:Q4 (some (.ex d)) k=some (.ex d):=rfl
theorem a9O{e:DE}{k:SF}:Q4 (some (.bk e)) k=some (.bk e):=rfl
theorem a9P{e:DE}{k:SF}:Q4 (some (.ct e)) k=some (.ct e):=rfl
theorem a9Q{k:SF}:Q4 none k=none:=rfl
theorem a70{c:Prop} [Decidable c] {a b:Option RS} {k:SF}:Q4 (if c then a else b) k=if c then Q4 a k else Q4 b k:=by split<;>rfl
theorem a9R{d:D}{e:DE}:toZ (some (.ret d)) e=some (.ok d e):=rfl
theorem a9S{d:List D}{e:DE}:toZ (some (.own d)) e=some (.ok (.lst d) e):=rfl
theorem b11{d:Str}{e:DE}:toZ (some (.ex d)) e=some (.ex d):=rfl
theorem a71{d:D}{e:DE}:Z3 (some (.ret d)) e=some (.ok d e):=rfl
theorem a72{d:List D}{e:DE}:Z3 (some (.own d)) e=some (.ok (.lst d) e):=rfl
theorem a6M{i:Nat}{d:D}{e:DE}:a15 i (some (.ret d)) e=put i (.fz d) e:=rfl
theorem a6N{i:Nat}{d:List D}{e:DE}:a15 i (some (.own d)) e=put i (.ow d) e:=rfl
theorem a73{i:Nat}{d:Str}{e:DE}:a15 i (some (.ex d)) e=some (.ex d):=rfl
theorem a5P{i:Nat}{d:D}{e:DE}:a16 i (some (.ret d)) e=put i (.fz d) e:=rfl
theorem a5Q{i:Nat}{d:List D}{e:DE}:a16 i (some (.own d)) e=put i (.ow d) e:=rfl
theorem a6O{d:D}:a3v (some (.ret d))=some (.rt d):=rfl
theorem a6P{d:List D}:a3v (some (.own d))=some (.ro d):=rfl
theorem a74{d:Str}:a3v (some (.ex d))=some (.ex d):=rfl
theorem a5R{d:D}:a6H (some (.ret d))=some (.rt d):=rfl
theorem a5S{d:List D}:a6H (some (.own d))=some (.ro d):=rfl
def Q5(r:Option RS):Option R1:=match r with
 | some (.nx _)=>some (.ret .non)
 | some (.rt d)=>some (.ret d)
 | some (.ro es)=>some (.own es)
 | some (.rz dss)=>some (.owz dss)
 | some (.rp n es)=>some (.owp n es)
 | some (.ex c)=>some (.ex c)
 | _=>none
theorem b2T{n m:Nat}{body:SF}{ds:List D}(h:ds.length=m):fD n m body ds=Q5 (body (ds.map .fz++List.replicate (n-m) .no)):=by
 unfold fD;rw[if_pos h,h];rfl
theorem a9T{e:DE}:Q5 (some (.nx e))=some (.ret .non):=rfl
theorem a9U{d:D}:Q5 (some (.rt d))=some (.ret d):=rfl
theorem a9V{d:List (List D)}:Q5 (some (.rz d))=some (.owz d):=rfl
theorem a9W{d:List (List D)}{k:SF}:Q4 (some (.rz d)) k=some (.rz d):=rfl
theorem a6Q{d:List (List D)}:a3v (some (.owz d))=some (.rz d):=rfl
theorem a9X{d:List D}:Q5 (some (.ro d))=some (.own d):=rfl
theorem a9Y{d:Str}:Q5 (some (.ex d))=some (.ex d):=rfl
theorem a75{c:Prop} [Decidable c] {a b:Option RS}:Q5 (if c then a else b)=if c then Q5 a else Q5 b:=by split<;>rfl
def U8(r:Option RS)(k:SF):Option RS:=match r with
 | some (.nx e)=>k e
 | some (.ct e)=>k e
 | some (.bk e)=>some (.nx e)
 | r=>r
theorem a9Z{e:DE}{k:SF}:U8 (some (.nx e)) k=k e:=rfl
theorem a90{e:DE}{k:SF}:U8 (some (.ct e)) k=k e:=rfl
theorem a91{e:DE}{k:SF}:U8 (some (.bk e)) k=some (.nx e):=rfl
theorem a92{d:D}{k:SF}:U8 (some (.rt d)) k=some (.rt d):=rfl
theorem a93{d:List (List D)}{k:SF}:U8 (some (.rz d)) k=some (.rz d):=rfl
theorem a94{d:List D}{k:SF}:U8 (some (.ro d)) k=some (.ro d):=rfl
theorem a95{d:Str}{k:SF}:U8 (some (.ex d)) k=some (.ex d):=rfl
theorem a76{b:GF}{body:SF}{e:DE}:l7 b body [] e=some (.nx e):=rfl
def Z8(x:Option DE)(k:SF):Option RS:=match x with
 | none=>none
 | some e=>k e
theorem a0H{b:GF}{body:SF}{d:D}{ds:List D}{e:DE}:l7 b body (d::ds) e=Z8 (b d e) fun e1=>U8 (body e1) (l7 b body ds):=by
 rw[l7];cases b d e<;>rfl
theorem v3{e:DE}{k:SF}:Z8 (some e) k=k e:=rfl
def a4c(n i:Nat)(exm:Str→Bool)(suite:SF)(e:DE)(r:Option RS):Option RS:=match r with
 | some (.ex c)=>if(exm c && a2C e)=true then(match suite ((List.replicate n Sl.no).set i (.fz (.exc c)))with
   | some (.nx e2)=>put i .no e2
   | some (.rt d)=>some (.rt d)
   | some (.ro ds)=>some (.ro ds)
   | _=>none)else none
 | r=>r
theorem a6R{n i:Nat}{exm:Str→Bool}{body suite:SF}{e:DE}:b1Z n i exm body suite e=a4c n i exm suite e (body e):=rfl
def a5T(i:Nat)(r:Option RS):Option RS:=match r with
 | some (.nx e2)=>put i .no e2
 | some (.rt d)=>some (.rt d)
 | some (.ro ds)=>some (.ro ds)
 | _=>none
theorem a96{i:Nat}{e:DE}:a5T i (some (.nx e))=put i .no e:=rfl
theorem a97{i:Nat}{d:D}:a5T i (some (.rt d))=some (.rt d):=rfl
theorem a98{i:Nat}{d:List D}:a5T i (some (.ro d))=some (.ro d):=rfl
theorem a99{n i:Nat}{exm:Str→Bool}{suite:SF}{e:DE}{c:Str}:a4c n i exm suite e (some (.ex c))=if(exm c && a2C e)=true then a5T i (suite ((List.replicate n Sl.no).set i (.fz (.exc c))))else none:=rfl
theorem a9_{n i:Nat}{exm:Str→Bool}{suite:SF}{e:DE}{d:D}:a4c n i exm suite e (some (.rt d))=some (.rt d):=rfl
theorem b0a{n i:Nat}{exm:Str→Bool}{suite:SF}{e:DE}{d:List D}:a4c n i exm suite e (some (.ro d))=some (.ro d):=rfl
theorem b0b{n i:Nat}{exm:Str→Bool}{suite:SF}{e e1:DE}:a4c n i exm suite e (some (.nx e1))=some (.nx e1):=rfl
theorem b0c(a b:Int):D3 (.int a) (.int b)=some (.int (a+b)):=rfl
theorem b0d(a b:Int):O7 (.int a) (.int b)=some (.int (a-b)):=rfl
theorem b12(a b:Int):gLt (.int a) (.int b)=some (.bl (decide (a<b))):=rfl
theorem b13(a b:Int):gLe (.int a) (.int b)=some (.bl (decide (a≤b))):=rfl
theorem b14(a b:Int):gGt (.int a) (.int b)=some (.bl (decide (b<a))):=rfl
theorem b15(a b:Int):gGe (.int a) (.int b)=some (.bl (decide (b≤a))):=rfl
theorem a2D{a b:Int}(h:IntMulOk a b):G9 (.int a) (.int b)=some (.int (a*b)):=by show(if _ then _ else _)=_;rw[if_pos h]
theorem b0e{a b:Int}(h:0<b∧b.natAbs.log2<9000):z8 (.int a) (.int b)=some (.int (a/b)):=by show(if _ then _ else _)=_;rw[if_pos h]
theorem a5b{a b:Int}(h:0<b):A4 (.int a) (.int b)=some (.int (a%b)):=by show(if _ then _ else _)=_;rw[if_pos h]
theorem a2E{a b:Int}(h:a2l a b):J7 (.int a) (.int b)=some (.int (a ^ b.toNat)):=by show(if _ then _ else _)=_;rw[if_pos h]
end
def Fits(i:Int):Prop:=Builtin.Int.intBits i≤2 ^ 20
theorem b0f{a b:Int}(h:a.natAbs≤b.natAbs):Builtin.Int.intBits a≤Builtin.Int.intBits b:=by
 unfold Builtin.Int.intBits
 split
 ·exact Nat.zero_le _
 ·rename_i ha
  have ha':a.natAbs≠0:=by
   intro z;apply ha;first | exact Int.natAbs_eq_zero.mp z | (simpa using z)
  have hb':b.natAbs≠0:=by omega
  split
  ·rename_i hb
   exact absurd (by first | exact Int.natAbs_eq_zero.mpr hb | (simpa using hb)) hb'
  ·have h1:b.natAbs<2 ^ (b.natAbs.log2+1):=Nat.lt_log2_self
   have h2:a.natAbs.log2<b.natAbs.log2+1:=(Nat.log2_lt ha').mpr (by omega)
   omega
theorem Fits.le{a b:Int}(h:Fits b)(l:a.natAbs≤b.natAbs):Fits a:=Nat.le_trans (b0f l) h
theorem Fits.mod{i n:Int}(hn:0<n)(h:Fits n):Fits (i%n):=by
 refine h.le ?_
 have h1:=Int.emod_nonneg i (show n≠0 by omega)
 have h2:=Int.emod_lt_of_pos i hn
 omega
theorem Fits.mul{i j:Int}(a:Fits i)(b:Fits j):IntMulOk i j:=IntMulOk.of_bits a b
theorem Z9{i:Int}(h:i.natAbs<2 ^ 400:=by decide):Fits i:=by
 have e:Builtin.Int.intBits (2 ^ 400:Int)≤2 ^ 20:=by decide +kernel
 have e2:(2 ^ 400:Int).natAbs=2 ^ 400:=by decide +kernel
 exact(show Fits (2 ^ 400)from e).le (by omega)
theorem a6S{a b:Int}(h:a.natAbs<2 ^ 64):IntMulOk a b:=IntMulOk.of_left (intBits_le_64 (by omega) (by omega))
theorem b2U{a b:Int}(h:b.natAbs<2 ^ 64):IntMulOk a b:=IntMulOk.of_right (intBits_le_64 (by omega) (by omega))
theorem a6T{a b:Int}(h:a.natAbs<2 ^ 64):G9 (.int a) (.int b)=some (.int (a*b)):=a2D (a6S h)
section
variable {α:Type}
theorem a81{a:α}{l:List α}:atI (a::l) 0=some a:=by unfold atI G1;simp
theorem a3y{a:α}{l:List α}{n:Nat}:atI (a::l) ((n:Int)+1)=atI l n:=by
 unfold atI G1
 have h1:(0:Int)≤(n:Int)+1:=by omega
 have h2:(0:Int)≤(n:Int):=by omega
 rw[if_pos h1,if_pos h2]
 by_cases z:(n:Int)<(l.length:Int)
 ·rw[if_pos z,if_pos (by rw[List.length_cons];push_cast;omega)]
  show(a::l)[((n:Int)+1).toNat]? = l[((n:Int)).toNat]?
  rw[show((n:Int)+1).toNat=n+1 by omega,show((n:Int)).toNat=n by omega]
  rfl
 ·rw[if_neg z,if_neg (by rw[List.length_cons];push_cast;omega)]
  rfl
theorem a82{a b:α}{l:List α}:atI (a::b::l) 1=some b:=(a3y (n:=0)).trans a81
theorem a83{a b c:α}{l:List α}:atI (a::b::c::l) 2=some c:=(a3y (n:=1)).trans a82
theorem a84{a b c d:α}{l:List α}:atI (a::b::c::d::l) 3=some d:=(a3y (n:=2)).trans a83
theorem b30{a b c d e:α}{l:List α}:atI (a::b::c::d::e::l) 4=some e:=(a3y (n:=3)).trans a84
end
def J2(ns:List Int)(k:Int):Int:=ns.getD k.toNat 0
theorem b0g{ns:List Int}{k:Int}(hk:0≤k):(if k<(ns.length:Int)then(match atI ns k with
  | none=>none
  | some n=>some (R1.ret (D.int n)))else some (R1.ret (D.int 0)))=some (R1.ret (D.int (J2 ns k))):=by
 unfold J2
 by_cases z:k<(ns.length:Int)
 ·rw[if_pos z]
  have h:k.toNat<ns.length:=by omega
  have e:atI ns k=some ns[k.toNat]:=by
   unfold atI G1
   rw[if_pos hk,if_pos z]
   exact List.getElem?_eq_getElem h
  rw[e,List.getD_eq_getElem?_getD,List.getElem?_eq_getElem h];rfl
 ·rw[if_neg z,List.getD_eq_getElem?_getD,List.getElem?_eq_none (by omega)];rfl
section
variable {K:W.Frag}{cl:Str→Addr}{E:XK}{σ:St}{H F:Hp}{env:DE}{k:Nat}
def oS(f:ZF):OF:=fun e=>bnd (f e) fun d e1=>match d with
 | .int i=>some (.ok (some i) e1)
 | _=>none
theorem a3z{t:TE}{f:ZF}(hf:k8 K cl E t f):RfO K cl E (a8R t) (oS f):=by
 intro σ H Q env F R h
 refine hf σ H _ env F R ((Ct.bnd h b3u).mono fun x H1 ⟨F1,e1,d,s1,R1,p1,h1⟩=>?_)
 split at h1
 ·rename_i i
  have:x=.int i:=by have:=(show Rp K cl F1 (.int i) x from p1);simpa only[Rp]using this
  exact⟨i,this,h1 _ H1 F1 Frm.refl R1 rfl⟩
 ·exact h1.elim
def a0I(xs:List D)(lo hi:Option Int):List D:=(xs.drop (HT.sIx xs.length 0 lo)).take (HT.sIx xs.length xs.length hi-HT.sIx xs.length 0 lo)
theorem Rps.cut{ds:List D}{xs:List V}(h:Rps K cl F ds xs)(lo hi:Option Int):Rps K cl F (a0I ds lo hi) (a2o xs lo hi):=by
 unfold a0I a2o
 rw[h.length]
 exact(h.drop _).take _
def a1B(i:Nat)(l u:OF):NF:=fun e=>match look e i with
 | none=>none
 | some _=>bnd (l e) fun lo e2=>bnd (u e2) fun hi e3=>match look e3 i with
  | some d=>(match seqL d with
   | some ds=>some (.ok (a0I ds lo hi) e3)
   | none=>none)
  | none=>none
theorem Rb.seqL{d:D}{ds:List D}{v:V}(s:Same F H)(p:Rb K cl F H d v)(q:L2.seqL d=some ds):∃a xs,v=.ref a∧Rps K cl F ds xs∧SqL K H a xs:=by
 rcases p with p | ⟨a,xs,es,e,rfl,h,r⟩
 ·obtain⟨a,xs,e,r,l⟩:=Rp.seqL p q;exact⟨a,xs,e,r,l H s⟩
 ·cases q;exact⟨a,xs,e,r,.of h⟩
theorem a6U{i:Nat}{tl tu:TO}{l u:OF}(hl:RfO K cl E tl l)(hu:RfO K cl E tu u):RfN K cl E (tSl (a7y K) (y9 i) tl tu) (a1B i l u):=by
 intro σ H Q env F R h
 unfold a1B at h
 cases q:look env i with
 | none=>rw[q]at h;exact h.elim
 | some d0 =>
  rw[q]at h
  obtain⟨x,e0,_⟩:=R.look q
  refine⟨x,e0,?_⟩
  refine hl σ H _ env F R ((Ct.bnd h a1v).mono fun lo H2 ⟨F2,e2,lo',s2,R2,p2,h2⟩=>?_)
  refine hu σ H2 _ e2 F2 R2 ((Ct.bnd h2 a1v).mono fun hi H3 ⟨F3,e3,hi',s3,R3,p3,h3⟩=>?_)
  cases (show lo=lo' from p2)
  cases (show hi=hi' from p3)
  cases q2:look e3 i with
  | none=>simp only[q2]at h3;exact h3.elim
  | some d =>
   simp only[q2]at h3
   obtain⟨x',e',rb⟩:=R3.look q2
   rw[e0]at e';cases e'
   split at h3
   ·rename_i ds hs
    obtain⟨a,xs,rfl,r,hq⟩:=rb.seqL R3.sub hs
    exact⟨a,xs,rfl,hq,fun p hp=>Ct.newN R3 hp (r.cut _ _) h3⟩
   ·exact h3.elim
end
section
variable {P:Program}{w:World}{mg:Str→Option Value}{base:Heap}{K:W.Frag}{cl:Str→Addr}{E:XK}{σ:St}{H F:Hp}{env:DE}{k:Nat}
def v8:List D→Option (List Int)
 | []=>some []
 | .int b::ds=>(v8 ds).map (b :: ·)
 | _=>none
theorem Y0:∀{ds:List D} {bs:List Int},v8 ds=some bs→ds=bs.map .int
 | [],_,h=>by cases h;rfl
 | .int b::ds,_,h=>by
  unfold v8 at h
  cases q:v8 ds with
  | none=>rw[q]at h;cases h
  | some bs=>rw[q]at h;cases h;rw[Y0 q];rfl
 | .non::_,_,h=>by cases h
 | .bl _::_,_,h=>by cases h
 | .str _::_,_,h=>by cases h
 | .ty _::_,_,h=>by cases h
 | .cls _::_,_,h=>by cases h
 | .tup _::_,_,h=>by cases h
 | .lst _::_,_,h=>by cases h
 | .scr _::_,_,h=>by cases h
 | .exc _::_,_,h=>by cases h
 | .obj _ _ _::_,_,h=>by cases h
theorem ints_map:∀(ns:List Int),v8 (ns.map .int)=some ns
 | []=>rfl
 | n::ns=>by show(v8 (ns.map .int)).map (n :: ·)=_;rw[ints_map ns];rfl
def a0a:D→Option D
 | .lst ds=>(v8 ds).map fun ns=>.int ns.sum
 | _=>none
theorem a6V:CbOk1 K cl (b1u K) a0a:=by
 intro x d z H F Q s hx h q
 unfold a0a at h
 split at h
 ·rename_i ds
  cases hb:v8 ds with
  | none=>rw[hb]at h;cases h
  | some ns =>
   rw[hb]at h;cases h
   obtain⟨a,xs,rfl,hH,r⟩:=hx.lst s
   rw[Y0 hb]at r
   rw[r.ints]at hH
   exact⟨a,ns,rfl,.of hH,q _ H F (.refl s) (by simp only[Rp])⟩
 ·cases h
def F8(d:Int):List Int→Int
 | []=>d
 | n::ns=>ns.foldl max n
theorem U9:∀(ns:List Int) (m:Int),m≤ns.foldl max m∧∀a∈ns,a≤ns.foldl max m
 | [],m=>⟨Int.le_refl _,fun _ h=>by cases h⟩
 | n::ns,m=>by
  obtain⟨h1,h2⟩:=U9 ns (max m n)
  refine⟨by show m≤ns.foldl max (max m n);omega,fun a ha=>?_⟩
  show a≤ns.foldl max (max m n)
  rcases List.mem_cons.mp ha with rfl | ha
  ·omega
  ·exact h2 a ha
theorem a0j:∀(ns:List Int) (m:Int),ns.foldl max m=m∨ns.foldl max m∈ns
 | [],m=>.inl rfl
 | n::ns,m=>by
  show ns.foldl max (max m n)=m∨ns.foldl max (max m n)∈n::ns
  rcases a0j ns (max m n)with h | h
  ·rw[h]
   rcases Int.le_total m n with l | l
   ·exact .inr (by rw[Int.max_eq_right l];exact List.mem_cons_self)
   ·exact .inl (Int.max_eq_left l)
  ·exact .inr (List.mem_cons_of_mem _ h)
theorem a77{ns:List Int}{d M:Int}(h:a3q ns d M):M=F8 d ns:=by
 rcases h with⟨rfl,rfl⟩ | ⟨hm,hl⟩
 ·rfl
 ·cases ns with
  | nil=>cases hm
  | cons n ns =>
   show M=ns.foldl max n
   obtain⟨h1,h2⟩:=U9 ns n
   have a1:M≤ns.foldl max n:=by
    rcases List.mem_cons.mp hm with rfl | hm
    ·exact h1
    ·exact h2 M hm
   have a2:ns.foldl max n≤M:=by
    rcases a0j ns n with e | e
    ·rw[e];exact hl n List.mem_cons_self
    ·exact hl _ (List.mem_cons_of_mem _ e)
   omega
def W4(ds es:List D):Option Int:=match ds,es with
 | [.lst xs],[.int d]=>(v8 xs).map (F8 d)
 | _,_=>none
theorem a78{ds es:List D}{m:Int}(h:W4 ds es=some m):∃xs ns d,ds=[.lst xs]∧es=[.int d]∧v8 xs=some ns∧m=F8 d ns:=by
 unfold W4 at h
 split at h
 ·rename_i xs d
  cases hn:v8 xs with
  | none=>rw[hn]at h;cases h
  | some ns=>rw[hn]at h;cases h;exact⟨xs,ns,d,rfl,rfl,hn,rfl⟩
 ·cases h
def S9(f:AF)(g:AF):ZF:=fun e=>bnd (f e) fun ds e1=>bnd (g e1) fun es e2=>match W4 ds es with
 | some m=>some (.ok (.int m) e2)
 | none=>none
theorem a09{t tk:TA}{f g:AF}(hf:M7 K cl E t f)(hg:M7 K cl E tk g):k8 K cl E (a8U K t tk) (S9 f g):=by
 intro σ H Q env F R h
 refine hf σ H _ env F R ((Ct.bnd h J6).mono fun vs H1 ⟨F1,e1,ds,s1,R1,p1,h1⟩=>?_)
 refine hg σ H1 _ e1 F1 R1 ((Ct.bnd h1 J6).mono fun zs H2 ⟨F2,e2,es,s2,R2,p2,h2⟩=>?_)
 cases hm:W4 ds es with
 | none=>rw[hm]at h2;exact h2.elim
 | some m =>
  rw[hm]at h2
  obtain⟨xs,ns,d,rfl,rfl,hn,rfl⟩:=a78 hm
  obtain⟨v,r,rfl,q1,q2⟩:=(Rps.mono s2 _ _ p1).inv
  rw[q2.inv0]
  simp only[Rp]at q1
  obtain⟨a,ys,rfl,ha,rr⟩:=q1
  rw[Y0 hn]at rr
  rw[rr.ints]at ha
  have hz:zs=[.int d]:=Rps.ints (ns:=[d]) p2
  refine⟨a,ns,d,rfl,hz,.of (R2.sub _ _ ha),fun M hM=>?_⟩
  rw[a77 hM]
  exact h2 _ H2 F2 Frm.refl R2 (by show Rp K cl F2 (.int _) _;simp only[Rp])
end
def b16(x:Option DE)(k:DE→Option (R (List D))):Option (R (List D)):=match x with
 | none=>none
 | some e=>k e
theorem a26{e:DE}{k:DE→Option (R (List D))}:b16 (some e) k=k e:=rfl
theorem a6W{b:GF}{c:BF}{el:ZF}{ec eo:DE}{acc:List D}:l6 b c el ec eo [] acc=some (.ok acc eo):=rfl
theorem a1_{b:GF}{c:BF}{el:ZF}{ec eo:DE}{d:D}{ds acc:List D}:l6 b c el ec eo (d::ds) acc=b16 (b d ec) fun e1=>bnd (c e1) fun t e2=>if t=true then bnd (el e2) fun y _=>if acc.length<sizeLine then l6 b c el ec eo ds (acc++[y])else none else l6 b c el ec eo ds acc:=by
 rw[l6];cases b d ec<;>rfl
section
variable {K:W.Frag}{cl:Str→Addr}{E:XK}{σ:St}{H F:Hp}{env:DE}{k:Nat}
theorem b17:bootBuiltins "min" = some (.builtin "min"):=by decide +kernel
theorem Rb.flat{d:D}{v:V}(h:Rb K cl F H d v)(f:j7 d=true):Rp K cl F d v:=by
 rcases h with h | ⟨_,_,_,_,rfl,_⟩
 ·exact h
 ·cases f
def a2F(i:Nat)(g:Int→Int→Int)(f:ZF):SF:=fun e=>match e[i]? with
 | some (.fz (.int a))=>G2 (f e) fun d e1=>match d with
  | .int b=>put i (.fz (.int (g a b))) e1
  | _=>none
 | _=>none
theorem b18{i:Nat}{g:Int→Int→Int}{t:TE}{f:ZF}(hf:k8 K cl E t f):RfS K cl E (b0_ i t (ipI g)) (a2F i g f):=by
 intro N σ H env F R h
 unfold a2F at h
 split at h
 ·rename_i a q
  obtain⟨v,e,r⟩:=R.fz i _ q
  simp only[Rp]at r
  subst r
  refine⟨_,e,hf σ H _ env F R ((Cs.bnd h).mono fun y H1 ⟨F1,e1,d,fr,R1,p1,h1⟩=>?_)⟩
  split at h1
  ·rename_i b
   have hy:y=.int b:=by have:=(show Rp K cl F1 (.int b) y from p1);simpa only[Rp]using this
   obtain⟨hi,nh,h2⟩:=a1y h1
   exact⟨a,b,rfl,hy,h2 _ H1 F1 (fr.trans (Frm.put nh)) (R1.put hi nh (by simp only[Rp]))⟩
  ·exact h1.elim
 ·exact h.elim
theorem tyL{i:Nat}{ds:List D}(R:Rel K cl σ H F env)(q:look env i=some (.lst ds)):∃a,σ[i]? = some (some (.ref a))∧tyV K "list" (.ref a) H:=by
 obtain⟨x,e0,rb⟩:=R.look q
 obtain⟨a,xs,rfl,hH,_⟩:=rb.lst R.sub
 exact⟨a,e0,.inl ⟨rfl,xs,.of hH⟩⟩
end
mutual
def m7:D→D→Bool
 | .tup ds,e=>(match e with
  | .tup es=>F9 ds es
  | _=>false)
 | .lst ds,e=>(match e with
  | .lst es=>F9 ds es
  | _=>false)
 | d,e=>U7 d e
def F9:List D→List D→Bool
 | [],es=>es.isEmpty
 | d::ds,es=>(match es with
  | []=>false
  | e::es=>m7 d e && F9 ds es)
end
mutual
def g8:D→Bool
 | .tup ds=>u6 ds
 | .lst ds=>u6 ds
 | d=>j7 d
def u6:List D→Bool
 | []=>true
 | d::ds=>g8 d && u6 ds
end
mutual
def J8:D→Nat
 | .tup ds=>B7 ds+1
 | .lst ds=>B7 ds+1
 | _=>0
def B7:List D→Nat
 | []=>0
 | d::ds=>max (J8 d) (B7 ds)
end
def a4d(ds es:List D)(j:Nat):Bool:=match ds[j]?,es[j]? with
 | some d,some e=>m7 d e
 | _,_=>true
theorem M3:∀{ds es:List D},ds.length=es.length→(List.range ds.length).all (a4d ds es)=F9 ds es
 | [],[],_=>by simp[F9]
 | d::ds,e::es,h=>by
  have h':ds.length=es.length:=by simpa using h
  simp only[F9]
  show(List.range (ds.length+1)).all _=(m7 d e && F9 ds es)
  rw[List.range_succ_eq_map,List.all_cons,List.all_map,← M3 h']
  rfl
theorem V0:∀{ds es:List D},ds.length≠es.length→F9 ds es=false
 | [],[],h=>absurd rfl h
 | _::_,[],_=>by simp[F9]
 | [],_::_,_=>by simp[F9]
 | d::ds,e::es,h=>by
  simp only[F9]
  rw[V0 (fun q=>h (by simp[q])),Bool.and_false]
section
variable {K:W.Frag}{cl:Str→Addr}{F:Hp}
theorem a0b{d e:D}{v:V}(fd:j7 d=true)(p:Rp K cl F d v)(q:Rp K cl F e v)(pe:g8 e=true):U7 d e=true:=by
 cases d<;>first | (cases fd;done) | skip
 all_goals simp only[Rp]at p;subst p
 all_goals cases e<;>simp only[Rp]at q<;>first | (cases q;done) | (cases q;simp[U7];done) | (obtain⟨_,_,z,_⟩:=q;cases z;done) | (obtain⟨_,z,_⟩:=q;cases z;done) | (simp[g8,j7]at pe;done)
mutual
theorem a2G:∀(d e:D) (v:V),Rp K cl F d v→Rp K cl F e v→g8 d=true→g8 e=true→m7 d e=true
 | .tup ds,e,v,p,q,pd,pe=>by
  simp only[Rp]at p
  obtain⟨a,xs,rfl,ha,r⟩:=p
  cases e<;>simp only[Rp]at q
  case tup es =>
   obtain⟨a',ys,z,ha',r'⟩:=q
   cases z;rw[ha]at ha';cases ha'
   simp only[g8]at pd pe
   simp only[m7]
   exact a1C ds es xs r r' pd pe
  case lst es =>
   obtain⟨a',ys,z,ha',r'⟩:=q
   cases z;rw[ha]at ha';cases ha'
  all_goals first | (cases q;done) | (simp[g8,j7]at pe;done)
 | .lst ds,e,v,p,q,pd,pe=>by
  simp only[Rp]at p
  obtain⟨a,xs,rfl,ha,r⟩:=p
  cases e<;>simp only[Rp]at q
  case lst es =>
   obtain⟨a',ys,z,ha',r'⟩:=q
   cases z;rw[ha]at ha';cases ha'
   simp only[g8]at pd pe
   simp only[m7]
   exact a1C ds es xs r r' pd pe
  case tup es =>
   obtain⟨a',ys,z,ha',r'⟩:=q
   cases z;rw[ha]at ha';cases ha'
  all_goals first | (cases q;done) | (simp[g8,j7]at pe;done)
 | .non,e,v,p,q,pd,pe=>by simp only[m7];exact a0b rfl p q pe
 | .bl _,e,v,p,q,pd,pe=>by simp only[m7];exact a0b rfl p q pe
 | .int _,e,v,p,q,pd,pe=>by simp only[m7];exact a0b rfl p q pe
 | .str _,e,v,p,q,pd,pe=>by simp only[m7];exact a0b rfl p q pe
 | .ty _,e,v,p,q,pd,pe=>by simp[g8,j7]at pd
 | .cls _,e,v,p,q,pd,pe=>by simp[g8,j7]at pd
 | .scr _,e,v,p,q,pd,pe=>by simp[g8,j7]at pd
 | .exc _,e,v,p,q,pd,pe=>by simp[g8,j7]at pd
 | .obj _ _ _,e,v,p,q,pd,pe=>by simp[g8,j7]at pd
theorem a1C:∀(ds es:List D) (vs:List V),Rps K cl F ds vs→Rps K cl F es vs→u6 ds=true→u6 es=true→F9 ds es=true
 | [],es,vs,p,q,_,_=>by
  rw[p.inv0]at q
  cases es with
  | nil=>simp[F9]
  | cons e es=>obtain⟨_,_,z,_⟩:=q.inv;cases z
 | d::ds,es,vs,p,q,pd,pe=>by
  obtain⟨v,r,rfl,p1,p2⟩:=p.inv
  cases es with
  | nil=>have:=q.inv0;cases this
  | cons e es =>
   obtain⟨v',r',z,q1,q2⟩:=q.inv
   cases z
   simp only[u6,Bool.and_eq_true]at pd pe
   simp only[F9]
   rw[a2G d e v p1 q1 pd.1 pe.1,a1C ds es r p2 q2 pd.2 pe.2];rfl
end
end
section
variable {X:Cx}{cl:Str→Addr}{F:Hp}{pins:List (Addr×Obj)}{σ:St}{H:Hp}{s:Shared}
theorem a0c{a:Addr}{d:D}{v:V}{u:Value}{A:Around}(hu:A.units<cLine)(hl:(∃xs,SqL X.K H a xs)∨∃xs,SqT X.K H a xs)(I:Inv X pins σ H s)(f:j7 d=true)(p:Rp X.K cl F d v)(r:RelV v u):SeqAt.EqAt A s (.ref a) u false∧SeqAt.EqAt A s u (.ref a) false:=by
 rcases hl with⟨xs,h⟩ | ⟨xs,h⟩
 ·obtain⟨us,r1,p1,z1⟩:=I.list h
  have q:=p1.isList
  cases d<;>first | (cases f;done) | skip
  all_goals simp only[Rp]at p;subst p
  ·cases r;exact⟨.list_none q hu,.none_list q hu⟩
  ·cases r;exact⟨.list_bool _ q hu,.bool_list _ q hu⟩
  ·obtain⟨t,rfl⟩:=r;exact⟨.list_int _ _ q hu,.int_list _ _ q hu⟩
  ·obtain⟨t,rfl⟩:=r;exact⟨.list_str _ _ q hu,.str_list _ _ q hu⟩
 ·obtain⟨us,r1,q,z1⟩:=I.tuple h
  cases d<;>first | (cases f;done) | skip
  all_goals simp only[Rp]at p;subst p
  ·cases r;exact⟨.tuple_none q hu,.none_tuple q hu⟩
  ·cases r;exact⟨.tuple_bool _ q hu,.bool_tuple _ q hu⟩
  ·obtain⟨t,rfl⟩:=r;exact⟨.tuple_int _ _ q hu,.int_tuple _ _ q hu⟩
  ·obtain⟨t,rfl⟩:=r;exact⟨.tuple_str _ _ q hu,.str_tuple _ _ q hu⟩
theorem D7{d:D}(p:g8 d=true):j7 d=true∨(∃ds,d=.tup ds)∨∃ds,d=.lst ds:=by
 cases d<;>first | exact .inl rfl | exact .inr (.inl ⟨_,rfl⟩) | exact .inr (.inr ⟨_,rfl⟩) | (simp[g8,j7]at p;done)
theorem a79{d e:D}(f:j7 d=true):m7 d e=U7 d e:=by cases d<;>first | (cases f;done) | simp only[m7]
theorem W5{d e:D}{v u:V}{a b:Value}{A:Around}(I:Inv X pins σ H s)(sF:Same F H)(hu:A.units<cLine)(f:j7 d=true)(p:Rp X.K cl F d v)(q:Rp X.K cl F e u)(rv:RelV v a)(ru:RelV u b)(pe:g8 e=true):SeqAt.EqAt A s a b (m7 d e):=by
 rw[a79 f]
 rcases D7 pe with fe | ⟨es,rfl⟩ | ⟨es,rfl⟩
 ·rw[← p.eq q f fe]
  exact b1j rv ru (p.flat f).2 (q.flat fe).2
 ·simp only[Rp]at q
  obtain⟨c,ys,rfl,hb,r'⟩:=q
  cases ru
  have:=(a0c (A:=A) hu (.inr ⟨ys,.of (sF _ _ hb)⟩) I f p rv).2
  have z:U7 d (.tup es)=false:=by cases d<;>first | (cases f;done) | rfl
  rw[z];exact this
 ·simp only[Rp]at q
  obtain⟨c,ys,rfl,hb,r'⟩:=q
  cases ru
  have:=(a0c (A:=A) hu (.inl ⟨ys,.of (sF _ _ hb)⟩) I f p rv).2
  have z:U7 d (.lst es)=false:=by cases d<;>first | (cases f;done) | rfl
  rw[z];exact this
mutual
theorem b0h(I:Inv X pins σ H s)(sF:Same F H):∀(d e:D) (v u:V) (a b:Value) (A:Around),A.units+J8 d<cLine→Rp X.K cl F d v→Rp X.K cl F e u→RelV v a→RelV u b→g8 d=true→g8 e=true→SeqAt.EqAt A s a b (m7 d e)
 | .tup ds,e,v,u,va,ua,A,hu,p,q,rv,ru,pd,pe=>by
  have p0:=p
  have hu':A.units<cLine:=by omega
  simp only[J8]at hu
  simp only[Rp]at p
  obtain⟨a,xs,rfl,ha,r⟩:=p
  cases rv
  have ha':=sF _ _ ha
  rcases D7 pe with f | ⟨es,rfl⟩ | ⟨es,rfl⟩
  ·have:=(a0c (A:=A) hu' (.inr ⟨xs,.of ha'⟩) I f q ru).1
   have z:m7 (.tup ds) e=false:=by cases e<;>first | (cases f;done) | simp only[m7]
   rw[z];exact this
  ·have q0:=q
   simp only[Rp]at q
   obtain⟨b,ys,rfl,hb,r'⟩:=q
   cases ru
   have hb':=sF _ _ hb
   by_cases z:a=b
   ·subst z
    rw[a2G _ _ _ p0 q0 pd pe]
    exact .same _
   ·obtain⟨us,r1,p1,_⟩:=I.tuple (.of ha')
    obtain⟨ws,r2,p2,_⟩:=I.tuple (.of hb')
    simp only[g8]at pd pe
    have he:∀j (h1:j<us.toArray.size) (h2:j<ws.toArray.size),SeqAt.EqAt A.in1 s us.toArray[j] ws.toArray[j] (a4d ds es j):=V1 I sF ds es xs ys us ws A.in1 (by show A.units+1+B7 ds<cLine;omega) r r' r1 r2 pd pe
    have:=SeqAt.EqAt.of_refs z (SeqAt.RcAt.tuples p1 p2 hu' he)
    have e1:us.toArray.size=ds.length:=by simp[← r1.length,r.length]
    have e2:ws.toArray.size=es.length:=by simp[← r2.length,r'.length]
    rw[e1,e2]at this
    simp only[m7]
    by_cases hl:ds.length=es.length
    ·rw[← hl,Nat.min_self,M3 hl,beq_self_eq_true,Bool.and_true]at this
     exact this
    ·rw[V0 hl]
     rw[beq_eq_false_iff_ne.mpr hl,Bool.and_false]at this
     exact this
  ·simp only[Rp]at q
   obtain⟨b,ys,rfl,hb,r'⟩:=q
   cases ru
   obtain⟨us,r1,p1,_⟩:=I.tuple (.of ha')
   obtain⟨ws,r2,p2,_⟩:=I.list (.of (sF _ _ hb))
   simp only[m7]
   exact .tuple_list p1 p2.isList hu'
 | .lst ds,e,v,u,va,ua,A,hu,p,q,rv,ru,pd,pe=>by
  have p0:=p
  have hu':A.units<cLine:=by omega
  simp only[J8]at hu
  simp only[Rp]at p
  obtain⟨a,xs,rfl,ha,r⟩:=p
  cases rv
  have ha':=sF _ _ ha
  rcases D7 pe with f | ⟨es,rfl⟩ | ⟨es,rfl⟩
  ·have:=(a0c (A:=A) hu' (.inl ⟨xs,.of ha'⟩) I f q ru).1
   have z:m7 (.lst ds) e=false:=by cases e<;>first | (cases f;done) | simp only[m7]
   rw[z];exact this
  ·simp only[Rp]at q
   obtain⟨b,ys,rfl,hb,r'⟩:=q
   cases ru
   obtain⟨us,r1,p1,_⟩:=I.list (.of ha')
   obtain⟨ws,r2,p2,_⟩:=I.tuple (.of (sF _ _ hb))
   simp only[m7]
   exact .list_tuple p1.isList p2 hu'
  ·have q0:=q
   simp only[Rp]at q
   obtain⟨b,ys,rfl,hb,r'⟩:=q
   cases ru
   have hb':=sF _ _ hb
   by_cases z:a=b
   ·subst z
    rw[a2G _ _ _ p0 q0 pd pe]
    exact .same _
   ·obtain⟨us,r1,p1,_⟩:=I.list (.of ha')
    obtain⟨ws,r2,p2,_⟩:=I.list (.of hb')
    simp only[g8]at pd pe
    have he:∀j (h1:j<us.toArray.size) (h2:j<ws.toArray.size),SeqAt.EqAt A.in1 s us.toArray[j] ws.toArray[j] (a4d ds es j):=V1 I sF ds es xs ys us ws A.in1 (by show A.units+1+B7 ds<cLine;omega) r r' r1 r2 pd pe
    have e1:us.toArray.size=ds.length:=by simp[← r1.length,r.length]
    have e2:ws.toArray.size=es.length:=by simp[← r2.length,r'.length]
    simp only[m7]
    by_cases hl:ds.length=es.length
    ·have:=SeqAt.EqAt.of_refs z (SeqAt.RcAt.lists p1.isList p2.isList (by rw[e1,e2,hl]) hu' he)
     rw[e1,M3 hl]at this
     exact this
    ·rw[V0 hl]
     exact SeqAt.EqAt.of_refs z (SeqAt.RcAt.lists_lengths p1.isList p2.isList (by rw[e1,e2];simp[hl]) hu')
 | .non,e,v,u,va,ua,A,hu,p,q,rv,ru,pd,pe=>W5 I sF (by omega) rfl p q rv ru pe
 | .bl _,e,v,u,va,ua,A,hu,p,q,rv,ru,pd,pe=>W5 I sF (by omega) rfl p q rv ru pe
 | .int _,e,v,u,va,ua,A,hu,p,q,rv,ru,pd,pe=>W5 I sF (by omega) rfl p q rv ru pe
 | .str _,e,v,u,va,ua,A,hu,p,q,rv,ru,pd,pe=>W5 I sF (by omega) rfl p q rv ru pe
 | .ty _,e,v,u,va,ua,A,hu,p,q,rv,ru,pd,pe=>by simp[g8,j7]at pd
 | .cls _,e,v,u,va,ua,A,hu,p,q,rv,ru,pd,pe=>by simp[g8,j7]at pd
 | .scr _,e,v,u,va,ua,A,hu,p,q,rv,ru,pd,pe=>by simp[g8,j7]at pd
 | .exc _,e,v,u,va,ua,A,hu,p,q,rv,ru,pd,pe=>by simp[g8,j7]at pd
 | .obj _ _ _,e,v,u,va,ua,A,hu,p,q,rv,ru,pd,pe=>by simp[g8,j7]at pd
theorem V1(I:Inv X pins σ H s)(sF:Same F H):∀(ds es:List D) (xs ys:List V) (us ws:List Value) (A:Around),A.units+B7 ds<cLine→Rps X.K cl F ds xs→Rps X.K cl F es ys→Vals xs us→Vals ys ws→u6 ds=true→u6 es=true→∀j (h1:j<us.toArray.size) (h2:j<ws.toArray.size),SeqAt.EqAt A s us.toArray[j] ws.toArray[j] (a4d ds es j)
 | [],es,xs,ys,us,ws,A,hu,p,q,rv,rw',pd,pe=>fun j h1 h2=>by
  rw[p.inv0]at rv;cases rv;simp at h1
 | d::ds,es,xs,ys,us,ws,A,hu,p,q,rv,rw',pd,pe=>fun j h1 h2=>by
  obtain⟨x,xs',rfl,p1,p2⟩:=p.inv
  cases rv with
  | cons r1 t1 =>
   cases es with
   | nil=>rw[q.inv0]at rw';cases rw';simp at h2
   | cons e es =>
    obtain⟨y,ys',rfl,q1,q2⟩:=q.inv
    cases rw' with
    | cons r2 t2 =>
     simp only[u6,Bool.and_eq_true]at pd pe
     simp only[B7]at hu
     cases j with
     | zero=>exact b0h I sF d e x y _ _ A (by omega) p1 q1 r1 r2 pd.1 pe.1
     | succ j =>
      have:=V1 I sF ds es xs' ys' _ _ A (by omega) p2 q2 t1 t2 pd.2 pe.2 j (by simpa using h1) (by simpa using h2)
      simpa [a4d]using this
end
end
theorem a7_{A:Around}{k:Nat}(hr:Room k A):A.units+41<cLine:=Nat.lt_of_le_of_lt (Nat.add_le_add_left (by decide:41≤64) _) hr.units
def O8 : D→Bool
 | .tup _=>true
 | .lst _=>true
 | _=>false
theorem Rb.toRp{K:W.Frag}{cl:Str→Addr}{F H:Hp}{d:D}{v:V}(s:Same F H)(h:Rb K cl F H d v):∃F',Same F F'∧Same F' H∧Rp K cl F' d v:=by
 rcases h with h | ⟨a,xs,ds,rfl,rfl,ha,r⟩
 ·exact⟨F,Same.refl _,s,h⟩
 ·have g:Same F (upd F a (.lst xs)):=fun b o q=>by
   by_cases z:b=a
   ·subst z;have:=s _ _ q;rw[ha]at this;cases this;exact d5
   ·rw[a7 z];exact q
  refine⟨upd F a (.lst xs),g,fun b o q=>?_,?_⟩
  ·by_cases z:b=a
   ·subst z;rw[d5]at q;cases q;exact ha
   ·rw[a7 z]at q;exact s _ _ q
  ·simp only[Rp];exact⟨a,xs,rfl,d5,r.mono g⟩
section
variable {X:Cx}{cl:Str→Addr}{F:Hp}{pins:List (Addr×Obj)}{σ:St}{H:Hp}{s:Shared}
theorem a0_{a:Addr}{d:D}{v:V}{u:Value}{A:Around}(hu:A.units<cLine)(hl:(∃xs,SqL X.K H a xs)∨∃xs,SqT X.K H a xs)(I:Inv X pins σ H s)(f:j7 d=true)(p:Rp X.K cl F d v)(r:RelV v u) :
  (SeqAt.RcAt A s (.ref a) u false∧SeqAt.RcAt A s u (.ref a) false)∧SeqAt.RcNeAt A s (.ref a) u true∧SeqAt.RcNeAt A s u (.ref a) true:=by
 rcases hl with⟨xs,h⟩ | ⟨xs,h⟩
 ·obtain⟨us,r1,p1,z1⟩:=I.list h
  have q:=p1.isList
  cases d<;>first | (cases f;done) | skip
  all_goals simp only[Rp]at p;subst p
  ·cases r;exact⟨⟨.list_none q hu,.none_list q hu⟩,.list_none q hu,.none_list q hu⟩
  ·cases r;exact⟨⟨.list_bool _ q hu,.bool_list _ q hu⟩,.list_bool _ q hu,.bool_list _ q hu⟩
  ·obtain⟨t,rfl⟩:=r;exact⟨⟨.list_int _ _ q hu,.int_list _ _ q hu⟩,.list_int _ _ q hu,.int_list _ _ q hu⟩
  ·obtain⟨t,rfl⟩:=r;exact⟨⟨.list_str _ _ q hu,.str_list _ _ q hu⟩,.list_str _ _ q hu,.str_list _ _ q hu⟩
 ·obtain⟨us,r1,q,z1⟩:=I.tuple h
  cases d<;>first | (cases f;done) | skip
  all_goals simp only[Rp]at p;subst p
  ·cases r;exact⟨⟨.tuple_none q hu,.none_tuple q hu⟩,.tuple_none q hu,.none_tuple q hu⟩
  ·cases r;exact⟨⟨.tuple_bool _ q hu,.bool_tuple _ q hu⟩,.tuple_bool _ q hu,.bool_tuple _ q hu⟩
  ·obtain⟨t,rfl⟩:=r;exact⟨⟨.tuple_int _ _ q hu,.int_tuple _ _ q hu⟩,.tuple_int _ _ q hu,.int_tuple _ _ q hu⟩
  ·obtain⟨t,rfl⟩:=r;exact⟨⟨.tuple_str _ _ q hu,.str_tuple _ _ q hu⟩,.tuple_str _ _ q hu,.str_tuple _ _ q hu⟩
theorem b0i{d e:D}{v u:V}{a b:Value}{A:Around}(I:Inv X pins σ H s)(sF:Same F H)(hu:A.units+J8 d<cLine)(p:Rp X.K cl F d v)(q:Rp X.K cl F e u)(rv:RelV v a)(ru:RelV u b)(pd:g8 d=true)(pe:g8 e=true)(hs:O8 d=true∨O8 e=true) :
  SeqAt.RcAt A s a b (m7 d e)∧SeqAt.RcNeAt A s a b (!m7 d e):=by
 have hu':A.units<cLine:=by omega
 rcases D7 pd with fd | ⟨ds,rfl⟩ | ⟨ds,rfl⟩
 ·have se:O8 e=true:=hs.resolve_left (by cases d<;>first | (cases fd;done) | simp[O8])
  rcases D7 pe with fe | ⟨es,rfl⟩ | ⟨es,rfl⟩
  ·cases e<;>first | (cases fe;done) | (cases se;done)
  ·simp only[Rp]at q
   obtain⟨c,ys,rfl,hb,r'⟩:=q
   cases ru
   have:=a0_ (A:=A) hu' (.inr ⟨ys,.of (sF _ _ hb)⟩) I fd p rv
   have z:m7 d (.tup es)=false:=by cases d<;>first | (cases fd;done) | simp[m7,U7]
   rw[z];exact⟨this.1.2,this.2.2⟩
  ·simp only[Rp]at q
   obtain⟨c,ys,rfl,hb,r'⟩:=q
   cases ru
   have:=a0_ (A:=A) hu' (.inl ⟨ys,.of (sF _ _ hb)⟩) I fd p rv
   have z:m7 d (.lst es)=false:=by cases d<;>first | (cases fd;done) | simp[m7,U7]
   rw[z];exact⟨this.1.2,this.2.2⟩
 ·simp only[J8]at hu
  simp only[Rp]at p
  obtain⟨l,xs,rfl,ha,r⟩:=p
  cases rv
  have ha':=sF _ _ ha
  obtain⟨us,r1,p1,_⟩:=I.tuple (.of ha')
  rcases D7 pe with fe | ⟨es,rfl⟩ | ⟨es,rfl⟩
  ·have:=a0_ (A:=A) hu' (.inr ⟨xs,.of ha'⟩) I fe q ru
   have z:m7 (.tup ds) e=false:=by cases e<;>first | (cases fe;done) | simp only[m7]
   rw[z];exact⟨this.1.1,this.2.1⟩
  ·simp only[Rp]at q
   obtain⟨c,ys,rfl,hb,r'⟩:=q
   cases ru
   obtain⟨ws,r2,p2,_⟩:=I.tuple (.of (sF _ _ hb))
   simp only[g8]at pd pe
   have he:=V1 I sF ds es xs ys us ws A.in1 (by show A.units+1+B7 ds<cLine;omega) r r' r1 r2 pd pe
   have h1:=SeqAt.RcAt.tuples p1 p2 hu' he
   have h2:=SeqAt.RcNeAt.tuples p1 p2 hu' he
   have e1:us.toArray.size=ds.length:=by simp[← r1.length,r.length]
   have e2:ws.toArray.size=es.length:=by simp[← r2.length,r'.length]
   rw[e1,e2]at h1 h2
   simp only[m7]
   by_cases hl:ds.length=es.length
   ·rw[← hl,Nat.min_self,M3 hl,beq_self_eq_true,Bool.and_true]at h1 h2
    exact⟨h1,h2⟩
   ·rw[V0 hl]
    rw[beq_eq_false_iff_ne.mpr hl,Bool.and_false]at h1 h2
    exact⟨h1,h2⟩
  ·simp only[Rp]at q
   obtain⟨c,ys,rfl,hb,r'⟩:=q
   cases ru
   obtain⟨ws,r2,p2,_⟩:=I.list (.of (sF _ _ hb))
   simp only[m7]
   exact⟨.tuple_list p1 p2.isList hu',.tuple_list p1 p2.isList hu'⟩
 ·simp only[J8]at hu
  simp only[Rp]at p
  obtain⟨l,xs,rfl,ha,r⟩:=p
  cases rv
  have ha':=sF _ _ ha
  obtain⟨us,r1,p1,_⟩:=I.list (.of ha')
  rcases D7 pe with fe | ⟨es,rfl⟩ | ⟨es,rfl⟩
  ·have:=a0_ (A:=A) hu' (.inl ⟨xs,.of ha'⟩) I fe q ru
   have z:m7 (.lst ds) e=false:=by cases e<;>first | (cases fe;done) | simp only[m7]
   rw[z];exact⟨this.1.1,this.2.1⟩
  ·simp only[Rp]at q
   obtain⟨c,ys,rfl,hb,r'⟩:=q
   cases ru
   obtain⟨ws,r2,p2,_⟩:=I.tuple (.of (sF _ _ hb))
   simp only[m7]
   exact⟨.list_tuple p1.isList p2 hu',.list_tuple p1.isList p2 hu'⟩
  ·simp only[Rp]at q
   obtain⟨c,ys,rfl,hb,r'⟩:=q
   cases ru
   obtain⟨ws,r2,p2,_⟩:=I.list (.of (sF _ _ hb))
   simp only[g8]at pd pe
   have he:=V1 I sF ds es xs ys us ws A.in1 (by show A.units+1+B7 ds<cLine;omega) r r' r1 r2 pd pe
   have e1:us.toArray.size=ds.length:=by simp[← r1.length,r.length]
   have e2:ws.toArray.size=es.length:=by simp[← r2.length,r'.length]
   simp only[m7]
   by_cases hl:ds.length=es.length
   ·have h1:=SeqAt.RcAt.lists p1.isList p2.isList (by rw[e1,e2,hl]) hu' he
    have h2:=SeqAt.RcNeAt.lists p1.isList p2.isList (by rw[e1,e2,hl]) hu' he
    rw[e1,M3 hl]at h1 h2
    exact⟨h1,h2⟩
   ·rw[V0 hl]
    exact⟨SeqAt.RcAt.lists_lengths p1.isList p2.isList (by rw[e1,e2];simp[hl]) hu',SeqAt.RcNeAt.lists_lengths p1.isList p2.isList (by rw[e1,e2];simp[hl]) hu'⟩
end
def b19(K:W.Frag)(cl:Str→Addr)(neg:Bool):R2:=fun x y H Q=>∃F d e,Same F H∧Rp K cl F d x∧Rp K cl F e y∧g8 d=true∧g8 e=true∧J8 d≤40∧(O8 d=true∨O8 e=true)∧Q (.bl (if neg then !m7 d e else m7 d e)) H
theorem a5c{X:Cx}{K:W.Frag}{cl:Str→Addr}(hu:X.A.units+41<cLine)(hK:X.K=K:=by rfl):OpR X (compareOp .NotEq) (b19 K cl true):=by
 subst hK
 intro pins s σ H x y v u Q I rx ry h
 obtain⟨F,d,e,sF,p,q,pd,pe,hd,hs,hQ⟩:=h
 exact(b0i I sF (by omega) p q rx ry pd pe hs).2 X.prog X.w _ _ ⟨.bl _,H,I,rfl,hQ⟩
def N8(neg:Bool)(d e:D):Option D:=if(g8 d && g8 e && decide (J8 d≤40) && (O8 d || O8 e))=true then some (.bl (if neg then !m7 d e else m7 d e))else none
theorem a6X{K:W.Frag}{cl:Str→Addr}{neg:Bool}:OpOk K cl (b19 K cl neg) (N8 neg):=by
 intro x y d e z H F Q s hx hy h q
 unfold N8 at h
 split at h
 ·rename_i c;cases h
  simp only[Bool.and_eq_true,Bool.or_eq_true,decide_eq_true_eq]at c
  obtain⟨F1,g1,s1,p1⟩:=hx.toRp s
  have hy1:Rb K cl F1 H e y:=by
   rcases hy with hy | ⟨a,xs,ds,e1,e2,ha,r⟩
   ·exact .inl (hy.mono g1)
   ·exact .inr ⟨a,xs,ds,e1,e2,ha,r.mono g1⟩
  obtain⟨F2,g2,s2,p2⟩:=hy1.toRp s1
  exact⟨F2,d,e,s2,p1.mono g2,p2,c.1.1.1,c.1.1.2,c.1.2,c.2,q _ H F (.refl s) (by simp only[Rp])⟩
 ·cases h
mutual
theorem a4e:∀(d:D),g8 d=true→m7 d d=true
 | .tup ds,h=>by simp only[g8]at h;simp only[m7];exact a0J ds h
 | .lst ds,h=>by simp only[g8]at h;simp only[m7];exact a0J ds h
 | .non,_=>by simp[m7,U7]
 | .bl _,_=>by simp[m7,U7]
 | .int _,_=>by simp[m7,U7]
 | .str _,_=>by simp[m7,U7]
 | .ty _,h=>by simp[g8,j7]at h
 | .cls _,h=>by simp[g8,j7]at h
 | .scr _,h=>by simp[g8,j7]at h
 | .exc _,h=>by simp[g8,j7]at h
 | .obj _ _ _,h=>by simp[g8,j7]at h
theorem a0J:∀(ds:List D),u6 ds=true→F9 ds ds=true
 | [],_=>by simp[F9]
 | d::ds,h=>by
  simp only[u6,Bool.and_eq_true]at h
  simp only[F9]
  rw[a4e d h.1,a0J ds h.2];rfl
end
theorem a27{d:D}(neg:Bool)(h1:g8 d=true)(h2:J8 d≤40)(h3:O8 d=true):N8 neg d d=some (.bl (!neg)):=by
 unfold N8
 rw[if_pos (by simp[h1,h2,h3]),a4e d h1]
 cases neg<;>rfl
theorem a1l{α:Type}{f:α→D}{l:List α}(h:∀a∈l,g8 (f a)=true):u6 (l.map f)=true:=by
 induction l with
 | nil=>rfl
 | cons a l ih =>
  simp only[List.map_cons,u6,Bool.and_eq_true]
  exact⟨h a List.mem_cons_self,ih fun b hb=>h b (List.mem_cons_of_mem _ hb)⟩
theorem a28{α:Type}{f:α→D}{l:List α}{n:Nat}(h:∀a∈l,J8 (f a)≤n):B7 (l.map f)≤n:=by
 induction l with
 | nil=>simp[B7]
 | cons a l ih =>
  simp only[List.map_cons,B7]
  have:=h a List.mem_cons_self
  have:=ih fun b hb=>h b (List.mem_cons_of_mem _ hb)
  omega
section
variable {K:W.Frag}{cl:Str→Addr}{E:XK}{σ:St}{H F:Hp}{env:DE}{k:Nat}
def b3w(K:W.Frag)(cl:Str→Addr)(E:XK)(a:Addr)(t:TS)(f:SF):Prop:=∀(N:Ends) σ H env F,Rel K cl σ H F env→(∃cls,F a=some (a5A a cls none))→Cs K cl E (f env) σ H F env N→t N σ H
theorem RfS.x{a:Addr}{t:TS}{f:SF}(h:RfS K cl E t f):b3w K cl E a t f:=fun N σ H env F R _ c=>h N σ H env F R c
end
def a0K:Sl→Sl
 | .ow ds=>.fz (.lst ds)
 | .hd ds=>.fz (.lst ds)
 | s=>s
def G0:DE→DE
 | []=>[]
 | s::e=>a0K s::G0 e
mutual
def noL:D→Bool
 | .lst _=>false
 | .scr _=>false
 | .exc _=>false
 | .obj _ _ _=>false
 | .tup ds=>noLs ds
 | _=>true
def noLs:List D→Bool
 | []=>true
 | d::ds=>noL d && noLs ds
end
def B8(σ:St)(env:DE)(b:Addr):Prop:=∃j,Mu env j∧σ[j]? = some (some (.ref b))
theorem a2H:∀(e:DE),G0 e=e.map a0K
 | []=>rfl
 | s::e=>by rw[G0,a2H e];rfl
section
variable {K:W.Frag}{cl:Str→Addr}{E:XK}{σ:St}{H F F1 H' F' F2:Hp}{env:DE}
mutual
theorem Rp.noL(g:∀b o,F' b=some o→(∀xs,o≠.lst xs)→F2 b=some o):∀(d:D) (v:V),L2.noL d=true→Rp K cl F' d v→Rp K cl F2 d v
 | .non,_,_,h=>by simpa only[Rp]using h
 | .bl _,_,_,h=>by simpa only[Rp]using h
 | .int _,_,_,h=>by simpa only[Rp]using h
 | .str _,_,_,h=>by simpa only[Rp]using h
 | .ty _,_,_,h=>by simpa only[Rp]using h
 | .cls _,_,_,h=>by simpa only[Rp]using h
 | .tup ds,v,n,h=>by
  simp only[Rp]at h ⊢
  obtain⟨a,xs,e,h1,h2⟩:=h
  exact⟨a,xs,e,g _ _ h1 (fun _ z=>nomatch z),Rps.noL g ds xs (by simpa only[L2.noL]using n) h2⟩
 | .lst ds,v,n,h=>by simp[L2.noL]at n
 | .scr ns,v,n,h=>by simp[L2.noL]at n
 | .exc c,v,n,h=>by simp[L2.noL]at n
 | .obj _ _ _,v,n,h=>by simp[L2.noL]at n
theorem Rps.noL(g:∀b o,F' b=some o→(∀xs,o≠.lst xs)→F2 b=some o):∀(ds:List D) (vs:List V),L2.noLs ds=true→Rps K cl F' ds vs→Rps K cl F2 ds vs
 | [],_,_,h=>by simpa only[Rps]using h
 | d::ds,vs,n,h=>by
  simp only[Rps]at h ⊢
  simp only[L2.noLs,Bool.and_eq_true]at n
  obtain⟨v,r,e,h1,h2⟩:=h
  exact⟨v,r,e,Rp.noL g d v n.1 h1,Rps.noL g ds r n.2 h2⟩
end
theorem a2I{j:Nat}{s:Sl}(h:(G0 env)[j]? = some s):∃s0,env[j]? = some s0∧s=a0K s0:=by
 rw[a2H,List.getElem?_map]at h
 cases q:env[j]? with
 | none=>rw[q]at h;cases h
 | some s0=>rw[q]at h;exact⟨s0,rfl,(Option.some.inj h).symm⟩
theorem a4f{j:Nat}:¬Mu (G0 env) j:=fun⟨ds,q⟩=>by
 rcases q with q | q
 ·obtain⟨s0,_,e⟩:=a2I q;cases s0<;>cases e
 ·obtain⟨s0,_,e⟩:=a2I q;cases s0<;>cases e
theorem b0j(R:Rel K cl σ H F env):∃F1,Rel K cl σ H F1 (G0 env)∧(∀b,B8 σ env b→∃xs,F1 b=some (.lst xs)∧H b=some (.lst xs))∧∀b,¬B8 σ env b→F1 b=F b:=by
 classical
 have hF:∀b,B8 σ env b→F b=none∧∃xs,H b=some (.lst xs):=fun b ⟨j,⟨ds,q⟩,e⟩=>by
  obtain⟨a,xs,e1,h1,f1,_⟩:=R.mu j ds q
  rw[e]at e1;cases e1
  exact⟨f1,xs,h1⟩
 have sF:Same F (fun b=>if B8 σ env b then H b else F b):=fun b o q=>by
  show(if B8 σ env b then H b else F b)=some o
  rw[if_neg (fun w=>by rw[(hF b w).1]at q;cases q)];exact q
 refine⟨fun b=>if B8 σ env b then H b else F b,⟨fun b o q=>?_,by rw[a2H,List.length_map];exact R.len,fun i d q=>?_,fun i ds q=>absurd ⟨ds,q⟩ a4f,fun i j a hi=>absurd hi a4f⟩,fun b w=>?_,fun b w=>if_neg w⟩
 ·try dsimp only at q
  split at q
  ·exact q
  ·exact R.sub _ _ q
 ·obtain⟨s0,e0,e1⟩:=a2I q
  cases s0 with
  | no=>cases e1
  | fz d'=>cases e1;obtain⟨v,e2,r⟩:=R.fz i _ e0;exact⟨v,e2,r.mono sF⟩
  | ow ds =>
   cases e1
   obtain⟨a,xs,e2,h2,f2,r⟩:=R.mu i ds (.inl e0)
   refine⟨_,e2,?_⟩
   simp only[Rp]
   refine⟨a,xs,rfl,?_,r.mono sF⟩
   rw[if_pos ⟨i,⟨ds,.inl e0⟩,e2⟩];exact h2
  | hd ds =>
   cases e1
   obtain⟨a,xs,e2,h2,f2,r⟩:=R.mu i ds (.inr e0)
   refine⟨_,e2,?_⟩
   simp only[Rp]
   refine⟨a,xs,rfl,?_,r.mono sF⟩
   rw[if_pos ⟨i,⟨ds,.inr e0⟩,e2⟩];exact h2
 ·obtain⟨xs,h⟩:=(hF b w).2
  exact⟨xs,by(try dsimp only);rw[if_pos w];exact h,h⟩
theorem a4g(R:Rel K cl σ H F env)(o1:∀b,B8 σ env b→∃xs,F1 b=some (.lst xs)∧H b=some (.lst xs))(o2:∀b,¬B8 σ env b→F1 b=F b)(x:FX σ H F1 (G0 env) H' F') :
  ∃F2,Frm σ H F env σ H' F2 env∧Rel K cl σ H' F2 env∧(∀b o,F' b=some o→(∀xs,o≠.lst xs)→F2 b=some o)∧∀b,F' b=none→F2 b=none:=by
 classical
 have nw:∀b,¬Ow σ (G0 env) b:=fun b ⟨j,ds,q,_⟩=>a4f ⟨ds,.inl q⟩
 have hF:∀b,B8 σ env b→F b=none:=fun b ⟨j,⟨ds,q⟩,e⟩=>by
  obtain⟨a,xs,e1,h1,f1,_⟩:=R.mu j ds q
  rw[e]at e1;cases e1
  exact f1
 have sF:Same F (fun b=>if B8 σ env b then none else F' b):=fun b o q=>by
  have w:¬B8 σ env b:=fun w=>by rw[hF b w]at q;cases q
  show(if B8 σ env b then none else F' b)=some o
  rw[if_neg w]
  exact x.fz _ _ (by rw[o2 b w];exact q)
 have kept:∀b xs,B8 σ env b→H b=some (.lst xs)→H' b=some (.lst xs):=fun b xs w h=>by
  obtain⟨ys,f,h2⟩:=o1 b w
  rw[h]at h2;cases h2
  exact x.sub _ _ (x.fz _ _ f)
 refine⟨fun b=>if B8 σ env b then none else F' b,⟨sF,fun b o hb fb w=>?_,fun _ _ h=>⟨h,rfl⟩,x.dom⟩,⟨fun b o q=>?_,R.len,fun i d q=>?_,fun i ds q=>?_,R.inj⟩,fun b o q nl=>?_,fun b q=>?_⟩
 ·by_cases ww:B8 σ env b
  ·obtain⟨ys,f,h2⟩:=o1 b ww
   refine⟨by rw[hb]at h2;cases h2;exact kept b ys ww hb,by(try dsimp only);rw[if_pos ww],w⟩
  ·obtain⟨h1,f1⟩:=x.hid b o hb (by rw[o2 b ww];exact fb) (nw b)
   exact⟨h1,by(try dsimp only);rw[if_neg ww];exact f1,w⟩
 ·try dsimp only at q
  split at q
  ·cases q
  ·exact x.sub _ _ q
 ·obtain⟨v,e,r⟩:=R.fz i d q;exact⟨v,e,r.mono sF⟩
 ·obtain⟨a,xs,e,h1,f1,r⟩:=R.mu i ds q
  have w:B8 σ env a:=⟨i,⟨ds,q⟩,e⟩
  exact⟨a,xs,e,kept a xs w h1,by(try dsimp only);rw[if_pos w],r.mono sF⟩
 ·dsimp only
  rw[if_neg (fun w=>by obtain⟨ys,f,_⟩:=o1 b w;rw[x.fz _ _ f]at q;cases q;exact nl _ rfl)];exact q
 ·dsimp only
  split
  ·rfl
  ·exact q
def b2V(f:ZF):ZF:=fun e=>match f (G0 e)with
 | some (.ok d _)=>if noL d=true then some (.ok d e)else none
 | some (.ex c)=>some (.ex c)
 | none=>none
def B0(f:BF):BF:=fun e=>match f (G0 e)with
 | some (.ok d _)=>some (.ok d e)
 | some (.ex c)=>some (.ex c)
 | none=>none
theorem a1D{t:TT}{f:BF}(hf:G3 K cl E t f):G3 K cl E t (B0 f):=by
 intro σ H Q env F R h
 obtain⟨F1,R1,o1,o2⟩:=b0j R
 refine hf σ H Q (G0 env) F1 R1 ?_
 unfold B0 at h
 split at h
 ·rename_i d e2 q
  rw[q]
  intro b H' F' fr R' p
  obtain⟨F2,fr2,R2,g,_⟩:=a4g R o1 o2 (fr.toFX R'.sub)
  exact h b H' F2 fr2 R2 p
 ·rename_i c q
  rw[q]
  intro H' F' x
  obtain⟨F2,fr2,R2,_⟩:=a4g R o1 o2 x
  exact h H' F2 (fr2.toFX R2.sub)
 ·exact h.elim
def bLd(r:Option (R Bool))(e:DE):Option (R Bool):=match r with
 | some (.ok d _)=>some (.ok d e)
 | some (.ex c)=>some (.ex c)
 | none=>none
def zLd(r:Option (R D))(e:DE):Option (R D):=match r with
 | some (.ok d _)=>if noL d=true then some (.ok d e)else none
 | some (.ex c)=>some (.ex c)
 | none=>none
theorem a8a(f:BF)(e:DE):B0 f e=bLd (f (G0 e)) e:=rfl
theorem a8b(f:ZF)(e:DE):b2V f e=zLd (f (G0 e)) e:=rfl
theorem b2b(d:Bool)(e e2:DE):bLd (some (.ok d e2)) e=some (.ok d e):=rfl
theorem b2c(c:Str)(e:DE):bLd (some (.ex c)) e=some (.ex c):=rfl
theorem b2d(d:D)(e e2:DE):zLd (some (.ok d e2)) e=if noL d=true then some (.ok d e)else none:=rfl
theorem b2e(c:Str)(e:DE):zLd (some (.ex c)) e=some (.ex c):=rfl
variable {k:Nat}
end
def un:Option D→Sl
 | none=>.no
 | some d=>.fz d
def W6:Sl→Bool
 | .hd _=>false
 | _=>true
def okS:Option Sl→Bool
 | none=>false
 | some s=>W6 s
theorem a8c(o:Option D):W6 (un o)=true:=by cases o<;>rfl
theorem a8d:W6 .no=true:=rfl
theorem a8e(d:D):W6 (.fz d)=true:=rfl
theorem a8f(d:List D):W6 (.ow d)=true:=rfl
theorem a8g(d:List D):W6 (.hd d)=false:=rfl
theorem a8h(s:Sl):okS (some s)=W6 s:=rfl
theorem a8i:okS none=false:=rfl
theorem b0k:a0K .no=.no:=rfl
theorem b0l(d:D):a0K (.fz d)=.fz d:=rfl
theorem b0m(d:List D):a0K (.ow d)=.fz (.lst d):=rfl
theorem b0n(d:List D):a0K (.hd d)=.fz (.lst d):=rfl
theorem b2f(i:Nat)(s:Sl)(e:DE):put i s e=if okS e[i]? = true then some (.nx (e.set i s))else none:=by
 unfold put okS
 cases e[i]? with
 | none=>rfl
 | some t=>cases t<;>rfl
theorem b0o(o:Option D):a0K (un o)=un o:=by cases o<;>rfl
theorem a8j:a2C []=true:=rfl
theorem a6Y(s:Sl)(e:DE):a2C (s::e)=(W6 s && a2C e):=by cases s<;>rfl
def A5(r:Option RS):Option RS:=match r with
 | some (.ct e)=>some (.nx e)
 | r=>r
theorem b0p(e:DE):A5 (some (.nx e))=some (.nx e):=rfl
theorem b0q(e:DE):A5 (some (.ct e))=some (.nx e):=rfl
theorem b0r(d:D):A5 (some (.rt d))=some (.rt d):=rfl
theorem b0s(c:Str):A5 (some (.ex c))=some (.ex c):=rfl
theorem b0t(d:List (List D)):A5 (some (.rz d))=some (.rz d):=rfl
theorem b0u(d:List D):A5 (some (.ro d))=some (.ro d):=rfl
theorem a29{r:Option RS}{k:SF}:U8 r k=U8 (A5 r) k:=by
 cases r with
 | none=>rfl
 | some r=>cases r<;>rfl
theorem a4h{α:Type}{b:GF}{body:SF}(f:α→D)(I:List α→DE→Prop)(l0:List α):∀(l pre:List α) (e:DE),l0=pre++l→I pre e→(∀pre x post e,l0=pre++x::post→I pre e→∃e2,A5 (Z8 (b (f x) e) body)=some (.nx e2)∧I (pre++[x]) e2)→∃e',l7 b body (l.map f) e=some (.nx e')∧I l0 e'
 | [],pre,e,hl,h,_=>⟨e,rfl,by rw[hl,List.append_nil];exact h⟩
 | x::l,pre,e,hl,h,hs=>by
  obtain⟨e2,h2,h3⟩:=hs pre x l e hl h
  obtain⟨e',h4,h5⟩:=a4h f I l0 l (pre++[x]) e2 (by rw[hl,List.append_assoc];rfl) h3 hs
  refine⟨e',?_,h5⟩
  rw[List.map_cons,a0H]
  cases q:b (f x) e with
  | none=>rw[q]at h2;cases h2
  | some e1 =>
   rw[q]at h2
   have h2:A5 (body e1)=some (.nx e2):=h2
   rw[v3,a29,h2];exact h4
theorem a1a{α:Type}{b:GF}{body:SF}(f:α→D)(I:List α→DE→Prop)(l:List α)(e:DE)(h:I [] e)(hs:∀pre x post e,l=pre++x::post→I pre e→∃e2,A5 (Z8 (b (f x) e) body)=some (.nx e2)∧I (pre++[x]) e2):∃e',l7 b body (l.map f) e=some (.nx e')∧I l e' :=
 a4h f I l l [] e rfl h hs
def a3A:RS→Bool
 | .rt _=>true
 | .ro _=>true
 | .rz _=>true
 | .rp _ _=>true
 | .ex _=>true
 | _=>false
theorem N9{α:Type}{b:GF}{c:BF}{el:ZF}{ec eo:DE}(f:α→D)(g:α→D)(q:α→Bool):∀(l:List α) (acc:List D),acc.length+l.length≤sizeLine→(∀x∈l,∃e1 e2,b (f x) ec=some e1∧c e1=some (.ok (q x) e2)∧(q x=true→∃e3,el e2=some (.ok (g x) e3)))→l6 b c el ec eo (l.map f) acc=some (.ok (acc++(l.filter q).map g) eo)
 | [],acc,_,_=>by simp only[List.filter_nil,List.map_nil,List.append_nil];rfl
 | x::l,acc,hl,h=>by
  obtain⟨e1,e2,h1,h2,h3⟩:=h x List.mem_cons_self
  have hl':acc.length<sizeLine:=by rw[List.length_cons]at hl;omega
  rw[List.map_cons,a1_,h1,a26,h2,X8]
  by_cases z:q x=true
  ·obtain⟨e3,h4⟩:=h3 z
   rw[if_pos z,h4,X8,if_pos hl',N9 f g q l (acc++[g x]) (by rw[List.length_append,List.length_cons,List.length_nil];rw[List.length_cons]at hl;omega) (fun y m=>h y (List.mem_cons_of_mem _ m)),List.filter_cons_of_pos z,List.map_cons,List.append_assoc];rfl
  ·rw[if_neg z,N9 f g q l acc (by rw[List.length_cons]at hl;omega) (fun y m=>h y (List.mem_cons_of_mem _ m)),List.filter_cons_of_neg z]
theorem a5d{ds:List D}{v u:Int}(h:0≤v)(h2:v≤u):a0I ds (some v) (some u)=(ds.drop v.toNat).take (u-v).toNat:=by
 unfold a0I
 obtain⟨n,rfl⟩:=Int.eq_ofNat_of_zero_le h
 obtain⟨m,rfl⟩:=Int.eq_ofNat_of_zero_le (Int.le_trans h h2)
 rw[HT.sIx_nat,HT.sIx_nat,Int.toNat_natCast]
 have e:((m:Int)-(n:Int)).toNat=m-n:=by omega
 rw[e]
 by_cases z:n≤ds.length
 ·rw[Nat.min_eq_left z]
  by_cases y:m≤ds.length
  ·rw[Nat.min_eq_left y]
  ·rw[Nat.min_eq_right (by omega),List.take_of_length_le (by rw[List.length_drop];exact Nat.le_refl _),List.take_of_length_le (by rw[List.length_drop];omega)]
 ·rw[List.drop_of_length_le (show ds.length≤min n ds.length by omega),List.drop_of_length_le (by omega),List.take_nil,List.take_nil]
theorem b0v(d:D)(n:String):a1A [d,.ty n]=a07 n d:=by unfold a1A a07;rfl
theorem b0w{n k:Nat}(h:k<n):G1 n (k:Int)=some k:=by
 unfold G1;rw[if_pos (by omega),if_pos (by omega),Int.toNat_natCast]
section
variable {K:W.Frag}{cl:Str→Addr}{E:XK}
def a5U(neg:Bool)(d e:D):Option D:=match e with
 | .bl k=>some (.bl (match d with | .bl b=>(if neg then !decide (b=k)else decide (b=k)) | _=>neg))
 | _=>none
@[simp] theorem b0x(neg b k:Bool):a5U neg (.bl b) (.bl k)=some (.bl (if neg then !decide (b=k)else decide (b=k))):=rfl
theorem Rb.notBl{F:_}{H:Hp}{d:D}{v:V}{k:Bool}(h:Rb K cl F H d v)(n:∀b,d≠.bl b):v≠.bl k:=by
 rcases h with h | ⟨_,_,_,rfl,_⟩
 ·cases d<;>simp only[Rp]at h
  case bl b=>exact absurd rfl (n b)
  all_goals first | (rw[h];intro z;cases z) | (obtain⟨_,_,rfl,_⟩:=h;intro z;cases z) | (obtain⟨_,_,_,rfl,_⟩:=h;intro z;cases z) | (obtain⟨_,rfl,_⟩:=h;intro z;cases z)
 ·intro z;cases z
theorem b0y:OpOk K cl (fun x y H Q=>∃k,y=.bl k∧Q (.bl (!decide (x=.bl k))) H) (a5U true):=by
 intro x y d e z H F Q s hx hy h q
 unfold a5U at h
 split at h
 ·rename_i k;cases h
  refine⟨k,hy.bl,q _ H F (.refl s) ?_⟩
  simp only[Rp]
  split
  ·rename_i b;rw[hx.bl];simp
  ·rename_i n;rw[decide_eq_false (hx.notBl n)];rfl
 ·cases h
end
def Q6{α:Type}(g:Nat→α→D)(n:Nat):List α→List D
 | []=>[]
 | x::l=>g n x::Q6 g (n+1) l
theorem a2J{α:Type}(f:α→D):∀(n:Nat) (l:List α),K7 n (l.map f)=Q6 (fun k x=>.tup [.int k,f x]) n l
 | _,[]=>rfl
 | n,x::l=>by rw[List.map_cons,Q6,K7,a2J f (n+1) l]
theorem a5e{α:Type}{b:GF}{body:SF}(g:Nat→α→D)(I:List α→DE→Prop)(Z:List α→α→RS→Prop)(l0:List α):∀(l pre:List α) (e:DE),l0=pre++l→I pre e →
  (∀pre x post e,l0=pre++x::post→I pre e→(∃r,a3A r=true∧A5 (Z8 (b (g pre.length x) e) body)=some r∧Z pre x r)∨(∃e2,A5 (Z8 (b (g pre.length x) e) body)=some (.nx e2)∧I (pre++[x]) e2)) →
  ((∃pr x post r,l0=pr++x::post∧a3A r=true∧l7 b body (Q6 g pre.length l) e=some r∧Z pr x r∧∃e',I pr e')∨(∃e',l7 b body (Q6 g pre.length l) e=some (.nx e')∧I l0 e'))
 | [],pre,e,hl,h,_=>.inr ⟨e,rfl,by rw[hl,List.append_nil];exact h⟩
 | x::l,pre,e,hl,h,hs=>by
  have hstep:∀r,A5 (Z8 (b (g pre.length x) e) body)=some r→l7 b body (Q6 g pre.length (x::l)) e=U8 (some r) (l7 b body (Q6 g (pre.length+1) l)):=fun r h2=>by
   rw[Q6,a0H]
   cases q:b (g pre.length x) e with
   | none=>rw[q]at h2;cases h2
   | some e1 =>
    rw[q]at h2
    have h2:A5 (body e1)=some r:=h2
    rw[v3,a29,h2]
  rcases hs pre x l e hl h with⟨r,hr,h2,hz⟩ | ⟨e2,h2,h3⟩
  ·refine .inl ⟨pre,x,l,r,hl,hr,?_,hz,e,h⟩
   rw[hstep r h2]
   cases r<;>first | rfl | cases hr
  ·have ih:=a5e g I Z l0 l (pre++[x]) e2 (by rw[hl,List.append_assoc];rfl) h3 hs
   rw[List.length_append,List.length_singleton]at ih
   rw[hstep _ h2]
   exact ih
theorem a6Z{α:Type}{b:GF}{body:SF}(g:Nat→α→D)(I:List α→DE→Prop)(Z:List α→α→RS→Prop)(l:List α)(e:DE)(h:I [] e)
  (hs:∀pre x post e,l=pre++x::post→I pre e→(∃r,a3A r=true∧A5 (Z8 (b (g pre.length x) e) body)=some r∧Z pre x r)∨(∃e2,A5 (Z8 (b (g pre.length x) e) body)=some (.nx e2)∧I (pre++[x]) e2)) :
  (∃pre x post r,l=pre++x::post∧a3A r=true∧l7 b body (Q6 g 0 l) e=some r∧Z pre x r∧∃e',I pre e')∨(∃e',l7 b body (Q6 g 0 l) e=some (.nx e')∧I l e') :=
 a5e g I Z l l [] e rfl h hs
section
variable {K:W.Frag}{cl:Str→Addr}{E:XK}
def a2a(i:Nat)(k:ZF)(g:Int→Int→Int)(f:ZF):SF:=fun e=>match look e i with
 | some (.lst _)=>G2 (k e) fun jd e1=>match jd,e1[i]? with
  | .int j,some (.ow ds)=>(match atI ds j with
   | some (.int a)=>G2 (f e1) fun d e2=>(match d,e2[i]? with
    | .int b,some (.ow ds2)=>(match G1 ds2.length j with
     | some n=>some (.nx (e2.set i (.ow (ds2.set n (.int (g a b))))))
     | none=>none)
    | _,_=>none)
   | _=>none)
  | _,_=>none
 | _=>none
theorem b0z{i:Nat}{g:Int→Int→Int}{u t:TE}{k f:ZF}(hk:k8 K cl E u k)(hf:k8 K cl E t f):RfS K cl E (a8K (y9 i) u t (a3K K) (ipI g) a5x) (a2a i k g f):=by
 intro N σ H env F R h
 unfold a2a at h
 split at h
 ·rename_i ds0 q
  obtain⟨a0,e0,ty⟩:=tyL R q
  refine⟨_,e0,?_⟩
  refine hk σ H _ env F R ((Cs.bnd h).mono fun y H1 ⟨F1,e1,jd,fr,R1,p1,h1⟩=>?_)
  split at h1
  ·rename_i j ds q1
   split at h1
   ·rename_i a hat
    obtain⟨p,xs,e,hH,hF,r⟩:=R1.mu i ds (.inl q1)
    rw[e0]at e;cases e
    have hy:y=.int j:=by have:=(show Rp K cl F1 (.int j) y from p1);simpa only[Rp]using this
    subst hy
    obtain⟨v,ev,pv⟩:=r.atI hat
    have hv:v=.int a:=by simpa only[Rp]using pv
    subst hv
    refine⟨_,xs,j,_,rfl,rfl,.of hH,ev,?_⟩
    refine hf σ H1 _ e1 F1 R1 ((Cs.bnd (h1.from fr)).mono fun x H2 ⟨F2,e2,d,fr2,R2,p2,h2⟩=>?_)
    split at h2
    ·rename_i b ds2 q2
     split at h2
     ·rename_i n hn
      obtain⟨p',xs',e',hH',hF',r'⟩:=R2.mu i ds2 (.inl q2)
      rw[e0]at e';cases e'
      have hx:x=.int b:=by have:=(show Rp K cl F2 (.int b) x from p2);simpa only[Rp]using this
      subst hx
      obtain⟨R3,f3⟩:=R2.change q2 e0 (r'.set (show Rp K cl F2 (.int (g a b)) (.int (g a b)) by simp only[Rp]) n)
      exact⟨a,b,rfl,rfl,_,xs',j,n,rfl,rfl,hH',by rw[← r'.length];exact hn,h2 σ _ F2 (fr2.trans f3) R3⟩
     ·exact h2.elim
    ·exact h2.elim
   ·exact h1.elim
  ·exact h1.elim
 ·exact h.elim
end
open Classical in
section
variable {K:W.Frag}{cl:Str→Addr}{E:XK}
abbrev tI(k:List Int):D:=.tup (k.map .int)
def T1:List D→Option (List (List Int))
 | []=>some []
 | .tup ds::r=>match v8 ds with
  | some (n::ns)=>(T1 r).map ((n::ns) :: ·)
  | _=>none
 | _=>none
theorem a4i:∀{ds:List D} {ks:List (List Int)},T1 ds=some ks→ds=ks.map tI∧∀k∈ks,k≠[]
 | [],_,h=>by cases h;exact⟨rfl,fun k hk=>by cases hk⟩
 | .tup ds::r,ks,h=>by
  unfold T1 at h
  split at h
  ·rename_i n ns hi
   cases hr:T1 r with
   | none=>rw[hr]at h;cases h
   | some ks' =>
    rw[hr]at h;cases h
    obtain⟨e,hn⟩:=a4i hr
    refine⟨by rw[List.map_cons,← e,Y0 hi],fun k hk=>?_⟩
    rcases List.mem_cons.mp hk with rfl | hk
    ·exact nofun
    ·exact hn k hk
  ·cases h
 | .non::_,_,h=>by cases h
 | .bl _::_,_,h=>by cases h
 | .int _::_,_,h=>by cases h
 | .str _::_,_,h=>by cases h
 | .ty _::_,_,h=>by cases h
 | .cls _::_,_,h=>by cases h
 | .lst _::_,_,h=>by cases h
 | .scr _::_,_,h=>by cases h
 | .exc _::_,_,h=>by cases h
 | .obj _ _ _::_,_,h=>by cases h
theorem a2_:∀{ks:List (List Int)},(∀k∈ks,k≠[])→T1 (ks.map tI)=some ks
 | [],_=>rfl
 | []::_,h=>absurd rfl (h [] (by simp))
 | (n::ns)::ks,h=>by
  have e:v8 (((n::ns):List Int).map D.int)=some (n::ns):=by
   have:∀l:List Int,v8 (l.map D.int)=some l:=fun l=>by
    induction l with
    | nil=>rfl
    | cons a l ih=>show(v8 (l.map D.int)).map (a :: ·)=_;rw[ih];rfl
   exact this _
  show(match v8 (((n::ns):List Int).map D.int)with | some (n::ns)=>(T1 (ks.map tI)).map ((n::ns) :: ·) | _=>none)=_
  rw[e,a2_ (fun k hk=>h k (by simp[hk]))];rfl
theorem V2:∀a b:List Int,HT.lexLt a b=false→HT.lexLt b a=false→a=b
 | [],[],_,_=>rfl
 | [],_::_,h,_=>by cases h
 | _::_,[],_,h=>by cases h
 | x::xs,y::ys,h1,h2=>by
  rw[HT.lexLt_cons]at h1 h2
  by_cases e:x=y
  ·subst e
   rw[if_pos rfl]at h1 h2
   rw[V2 xs ys h1 h2]
  ·rw[if_neg e]at h1
   rw[if_neg (Ne.symm e)]at h2
   have:=of_decide_eq_false h1
   have:=of_decide_eq_false h2
   exact absurd (show x=y by omega) e
theorem a60{F H:Hp}(s:Same F H):∀{ks:List (List Int)} {xs:List V},(∀k∈ks,k≠[])→Rps K cl F (ks.map tI) xs→VKs K H xs ks
 | [],_,_,r=>by rw[r.inv0];trivial
 | k::ks,_,hn,r=>by
  obtain⟨v,xs,rfl,p,r'⟩:=r.inv
  refine⟨?_,a60 s (fun l hl=>hn l (by simp[hl])) r'⟩
  simp only[Rp]at p
  obtain⟨a,ys,e,ha,rr⟩:=p
  exact⟨a,e,by rw[← rr.ints];exact .of (s _ _ ha),hn k (by simp)⟩
end
section
variable {K:W.Frag}{cl:Str→Addr}{E:XK}{σ:St}{H F:Hp}{env:DE}
abbrev HF:=Str→SF
def hN:HF:=fun _ _=>none
def hC(exm:Str→Option Bool)(suite:SF)(g9:HF):HF:=fun c e=>match exm c with
 | some true=>suite e
 | some false=>g9 c e
 | none=>none
end
section
variable {K:W.Frag}{cl:Str→Addr}{E:XK}{σ:St}{H F:Hp}{env:DE}
theorem Rps.lookup{f:Str}:∀{ns:List Str} {ds:List D} {xs:List V} {z:D},Rps K cl F ds xs→(ns.zip ds).lookup f=some z→∃v,(ns.zip xs).lookup f=some v∧Rp K cl F z v
 | [],ds,xs,z,_,h=>by simp at h
 | n::ns,[],xs,z,r,h=>by simp at h
 | n::ns,d::ds,xs,z,r,h=>by
  obtain⟨v,ys,rfl,p,r'⟩:=r.inv
  rw[List.zip_cons_cons,List.lookup_cons]at h ⊢
  by_cases q:(f == n)=true
  ·rw[q]at h ⊢;cases h;exact⟨v,rfl,p⟩
  ·rw[Bool.not_eq_true _ |>.mp q]at h ⊢;exact r'.lookup h
theorem a1m{α:Type}{m:Str}:∀{ns:List Str} {xs:List α},ns.contains m=false→(ns.zip xs).lookup m=none
 | [],_,_=>by simp
 | n::ns,[],_=>by simp
 | n::ns,x::xs,h=>by
  rw[List.contains_cons,Bool.or_eq_false_iff]at h
  rw[List.zip_cons_cons,List.lookup_cons,h.1]
  exact a1m h.2
def TR(K:W.Frag)(cl:Str→Addr)(tab:Str→Option (List D→Option R1))(C:Addr)(sp:Sp):Prop:=∃c g,tab c=some g∧C=cl c∧sp=i6 K cl g
def a2b(tab:Str→Option (List D→Option R1))(m:Str)(o:ZF)(f:AF):ZF:=fun e=>bnd (o e) fun d e1=>match d with
 | .obj c ns ds0=>if ns.contains m=false then(match tab c with
  | some g=>bnd (f e1) fun ds e2=>toZ (g (.obj c ns ds0::ds)) e2
  | none=>none)else none
 | _=>none
theorem b0A{tab:Str→Option (List D→Option R1)}{m:Str}{t:TE}{u:TA}{o:ZF}{f:AF}(ho:k8 K cl E t o)(hf:M7 K cl E u f):k8 K cl E (a6p (TR K cl tab) m E t u) (a2b tab m o f):=by
 intro σ H Q env F R h
 refine ho σ H _ env F R ((Ct.bnd h J6).mono fun x H1 ⟨F1,e1,d,s1,R1,p1,h1⟩=>?_)
 split at h1
 ·rename_i c ns ds0
  split at h1
  ·rename_i hm
   split at h1
   ·rename_i g hg
    have p1':=p1
    simp only[PZ]at p1
    have p2:Rp K cl F1 (.obj c ns ds0) x:=p1
    have p3:=p2
    simp only[Rp]at p2
    obtain⟨a,dx,xs,rfl,ha,hl,r⟩:=p2
    refine⟨a,_,dx,_,_,rfl,R1.sub _ _ ha,a1m hm,⟨c,g,hg,rfl,rfl⟩,?_⟩
    refine hf σ H1 _ e1 F1 R1 ((Ct.bnd h1 J6).mono fun vs H2 ⟨F2,e2,ds,s2,R2,p4,h2⟩=>?_)
    have:=a38 (g:=g) (ds:=.obj c ns ds0::ds) (vs:=.ref a::vs) R2 (.cons (p3.mono s2) p4) h2
    rw[List.append_nil]at this
    exact this
   ·exact h1.elim
  ·exact h1.elim
 ·exact h1.elim
end
section
variable {K:W.Frag}{cl:Str→Addr}{E:XK}
def a3B(c:Str):ZF:=fun e=>some (.ok (.obj c [] []) e)
theorem a2K{c:Str}:k8 K cl E (a6r (cl c)) (a3B c):=by
 intro σ H Q env F R h x dx hx hd ne
 have g1:Gr H F (upd H dx (.own x)) (upd F dx (.own x)):=.new R.sub hd
 have hx':upd H dx (.own x) x=none:=by rw[a7 (Ne.symm ne)];exact hx
 have gr:=g1.trans (Gr.new (o:=.ins (cl c) dx []) g1.sub hx')
 refine h (.ref x) _ _ (R.frm gr) (R.gr gr) ?_
 show Rp K cl _ (.obj c [] []) (.ref x)
 simp only[Rp]
 exact⟨x,dx,[],rfl,d5,rfl,Rps.nil⟩
end
def b0B(us:List Value)(ks:List (List Int))(j:Nat)(best:Array Value):Prop :=
 (j=0∧best = #[])∨∃i v,i<j∧us[i]? = some v∧best = #[v,v]∧∀i',i'<j→HT.lexLt (ks.getD i' []) (ks.getD i [])=false
theorem a0d:∀{a b c:List Int},HT.lexLt b a=true→HT.lexLt c a=false→HT.lexLt c b=false
 | [],b,c,h,_=>by cases b<;>cases h
 | _::_,[],c,_,_=>by cases c<;>rfl
 | x::a,y::b,[],h,h'=>by cases h'
 | x::a,y::b,z::c,h,h'=>by
  rw[HT.lexLt_cons]at h h' ⊢
  by_cases e1:y=x
  ·subst e1
   rw[if_pos rfl]at h
   by_cases e2:z=y
   ·subst e2
    rw[if_pos rfl]at h' ⊢
    exact a0d h h'
   ·rw[if_neg e2]at h' ⊢
    exact h'
  ·rw[if_neg e1]at h
   have hy:=of_decide_eq_true h
   by_cases e2:z=x
   ·subst e2
    rw[if_neg (Ne.symm e1)]
    exact decide_eq_false (by omega)
   ·rw[if_neg e2]at h'
    have hz:=of_decide_eq_false h'
    by_cases e3:z=y
    ·omega
    ·rw[if_neg e3]
     exact decide_eq_false (by omega)
section
variable {prog:Program}{w:World}{A:Around}{R:Result→Shared→Prop}
theorem b2W{s:Shared}{v u:Value}{k l:List Int}{Q:Value→Shared→Prop}{E:Value→Shared→Prop}(t:TupKey s.heap v k)(t':TupKey s.heap u l)(hu:A.units<cLine)(h:Q (.bool (HT.lexLt k l)) s):wpAny (model prog w) A (richCompare .Lt v u) Q E s:=by
 obtain⟨a,o,xs,m,rfl,ho,hc,hd,hi,_⟩:=t
 obtain⟨a',o',xs',m',rfl,ho',hc',hd',hi',_⟩:=t'
 exact HT.lt_tupInts (items:=xs) (items2:=xs') ⟨o,ho,hc,m,hd⟩ ⟨o',ho',hc',m',hd'⟩ hi hi' hu h
theorem a61(hh:A.in1.handled=none)(hu:A.in1.units<cLine){I S l:Addr}{us:List Value}{ks:List (List Int)}{h0:Heap}(hT:TKs h0 us ks)(hI0:h0.get? I=none)(hS0:h0.get? S=none)(hIS:I≠S)(hlS:l≠S)(hlI:l≠I)(hne:0<us.length) :
  ∀(k j:Nat) (z:Shared) (best:Array Value) (c:Nat),us.length-j=k→j≤us.length→(∀b o,h0.get? b=some o→z.heap.get? b=some o) →
  z.heap.IsListIter I l j→z.heap.IsList l us.toArray→z.heap.get? S=some { cls:=.type "list",dict:=none,data:=.seq best c,slots := #[] }→b0B us ks j best →
  (∀i v h' tk,us[i]? = some v→(∀i',i'<us.length→HT.lexLt (ks.getD i' []) (ks.getD i [])=false)→(∀b o,b≠I→b≠S→z.heap.get? b=some o→h'.get? b=some o)→R (.ok (.ret v)) { z with heap:=h',toks:=tk }) →
  codeAny (model prog w) A (.builtin "min.loop" ⟨[.ref I,.none,.ref S],[]⟩) R z:=by
 have hname:(toString "min" ++ toString ".loop" : String) = "min.loop" := by decide
 have W:=Walks.list (prog:=prog) (w:=w) (A:=A.in1) hh I l hlI us.toArray
 have no:∀b o,h0.get? b=some o→b≠I∧b≠S:=fun b o e=>⟨fun q=>(by rw[q,hI0]at e;cases e),fun q=>(by rw[q,hS0]at e;cases e)⟩
 intro k
 induction k with
 | zero =>
  intro j z best c hk hj h0z hit hl hS hB hR
  have hjn:j=us.toArray.size:=by rw[List.size_toArray];omega
  have hju:j=us.length:=by omega
  refine codeAny_builtin F.entry_min_loop ?_
  rw[Around.under_plainId F.plain_min_loop _]
  show wpAny _ A.in1 (seqItems? (.ref S) >>= _) _ _ z
  refine wpAny_bind (wpAny_seqItems hS rfl ?_)
  show wpAny _ A.in1 (tryCatch (pyNext (.ref I)) _ >>= _) _ _ z
  refine wpAny_bind (wpAny_tryCatch (W.done z _ _ (hjn▸⟨hit,hl⟩) fun h' tk hk'=>?_))
  have hS':=hk' S _ (by simpa using Ne.symm hIS) hS
  rcases hB with⟨q,_⟩ | ⟨i,v,hi,hv,rfl,hm⟩
  ·omega
  ·show wpAny _ A.in1 (updateSeq S (fun _ => #[]) >>= _) _ _ _
   refine wpAny_bind ?_
   refine wpAny_updateSeq hS' rfl (wpAny_bind (wpAny_letGo (wpAny_pure ?_)))
   exact hR i v _ tk hv (fun i' hi'=>hm i' (by omega)) fun b o hb hbS q=>(Heap.get?_update_other _ _ (Ne.symm hbS)).trans (hk' b o (by simpa using hb) q)
 | succ k ih =>
  intro j z best c hk hj h0z hit hl hS hB hR
  have hjn:j<us.toArray.size:=by rw[List.size_toArray];omega
  refine codeAny_builtin F.entry_min_loop ?_
  rw[Around.under_plainId F.plain_min_loop _]
  show wpAny _ A.in1 (seqItems? (.ref S) >>= _) _ _ z
  refine wpAny_bind (wpAny_seqItems hS rfl ?_)
  show wpAny _ A.in1 (tryCatch (pyNext (.ref I)) _ >>= _) _ _ z
  refine wpAny_bind (wpAny_tryCatch (W.item j z _ _ hjn ⟨hit,hl⟩ fun v h' tk hP hst' hk'=>?_))
  have hS':=hk' S _ (by simpa using Ne.symm hIS) hS
  have hPv:us[j]? = some v:=by simpa using hP
  have kept:∀b o,b≠I→z.heap.get? b=some o→h'.get? b=some o:=fun b o hb q=>hk' b o (by simpa using hb) q
  have h0':∀b o,h0.get? b=some o→h'.get? b=some o:=fun b o e=>kept b o (no b o e).1 (h0z b o e)
  have up:∀{f:Obj→Obj},∀b o,h0.get? b=some o→(h'.update S f).get? b=some o:=fun{f} b o e=>(Heap.get?_update_other _ _ (Ne.symm (no b o e).2)).trans (h0' b o e)
  have tkv:∀i u,us[i]? = some u→TupKey h' u (ks.getD i []):=fun i u hi=>by
   have hlt:=(List.getElem?_eq_some_iff.mp hi).1
   have:=(TKs.at i hT hlt).keeps h0'
   rwa [List.getD_eq_getElem?_getD,hi]at this
  rcases hB with⟨rfl,rfl⟩ | ⟨i,u,hi,hv,rfl,hm⟩
  ·show wpAny _ A.in1 (updateSeq S (fun _ => #[v,v]) >>= _) _ _ _
   refine wpAny_bind ?_
   refine wpAny_updateSeq hS' rfl ?_
   rw[hname]
   refine wpAny_pure ⟨plainId_quiet F.plain_min_loop _,ih 1 _ #[v,v] _ (by omega) (by omega) up ?_ ?_ (Heap.get?_update_self _ hS' rfl) (.inr ⟨0,v,by omega,hPv,rfl,fun i' hi'=>?_⟩) fun i' v' h2 tk2 e1 e2 hk2=>?_⟩
   ·exact hst'.1.at fun o q=>(Heap.get?_update_other _ _ (Ne.symm hIS)).trans q
   ·exact hst'.2.at fun o q=>(Heap.get?_update_other _ _ (Ne.symm hlS)).trans q
   ·have:i'=0:=by omega
    subst this
    exact T5 _
   ·exact hR i' v' h2 tk2 e1 e2 fun b o hb hbS q=>hk2 b o hb hbS ((Heap.get?_update_other _ _ (Ne.symm hbS)).trans (kept b o hb q))
  ·show wpAny _ A.in1 (tryCatch (holding [v,v] (richCompare .Lt v u >>= _)) _ >>= _) _ _ _
   refine wpAny_bind (wpAny_tryCatch (wpAny_holding (wpAny_bind (b2W (s:={ z with heap:=h',toks:=tk }) (tkv j v hPv) (tkv i u hv) hu ?_))))
   refine wpAny_bind (wpAny_holding (wpAny_truthy_bool ?_))
   refine wpAny_bind (wpAny_letGo (wpAny_pure ?_))
   cases hb:HT.lexLt (ks.getD j []) (ks.getD i [])with
   | true =>
    simp only[if_true]
    refine wpAny_bind ?_
    refine wpAny_updateSeq hS' rfl (wpAny_bind (wpAny_letGo ?_))
    rw[hname]
    refine wpAny_pure ⟨plainId_quiet F.plain_min_loop _,ih (j+1) _ #[v,v] _ (by omega) (by omega) up ?_ ?_ (Heap.get?_update_self _ hS' rfl) (.inr ⟨j,v,by omega,hPv,rfl,fun i' hi'=>?_⟩) fun i' v' h2 tk2 e1 e2 hk2=>?_⟩
    ·exact hst'.1.at fun o q=>(Heap.get?_update_other _ _ (Ne.symm hIS)).trans q
    ·exact hst'.2.at fun o q=>(Heap.get?_update_other _ _ (Ne.symm hlS)).trans q
    ·by_cases q:i'=j
     ·subst q;exact T5 _
     ·exact a0d hb (hm i' (by omega))
    ·exact hR i' v' h2 tk2 e1 e2 fun b o hb hbS q=>hk2 b o hb hbS ((Heap.get?_update_other _ _ (Ne.symm hbS)).trans (kept b o hb q))
   | false =>
    simp only[Bool.false_eq_true,if_false]
    refine wpAny_bind (wpAny_letGo ?_)
    rw[hname]
    refine wpAny_pure ⟨plainId_quiet F.plain_min_loop _,ih (j+1) _ #[u,u] c (by omega) (by omega) h0' hst'.1 hst'.2 hS' (.inr ⟨i,u,by omega,hv,rfl,fun i' hi'=>?_⟩) fun i' v' h2 tk2 e1 e2 hk2=>?_⟩
    ·by_cases q:i'=j
     ·subst q;exact hb
     ·exact hm i' (by omega)
    ·exact hR i' v' h2 tk2 e1 e2 fun b o hb hbS q=>hk2 b o hb hbS (kept b o hb q)
end
theorem hu1{A:Around}{k:Nat}(hr:Room k A):A.in1.units<cLine:=by
 have:=a7_ hr
 show A.units+1<cLine
 omega
def a62(K:W.Frag):List V→Hp→VK→Prop:=fun xs H Q=>∃(a:Addr) (ys:List V) (ks:List (List Int)),xs=[.ref a]∧SqL K H a ys∧VKs K H ys ks∧ys≠[] ∧
 ∀i y,ys[i]? = some y→(∀i',i'<ys.length→HT.lexLt (ks.getD i' []) (ks.getD i [])=false)→Q y H
section
variable {X:Cx}
theorem a4N{K:W.Frag}(hu:X.A.in1.units<cLine)(hc:X.calm=true:=by rfl)(hK:X.K=K:=by rfl):CallR X (.builtin "min") (a62 K):=by
 subst hK
 intro pins s σ H xs us Q I r h
 obtain⟨a,ys,ks,rfl,hq,hk,hne,q⟩:=h
 obtain⟨u,rfl,ru⟩:=r.one
 cases (show u=Value.ref a from ru)
 obtain⟨its,rv,pl,hz⟩:=I.list hq
 have hlen:=rv.length
 have hlt:a<s.heap.objs.size:=by obtain⟨_,e,_⟩:=pl.isList;exact Heap.lt_size e
 have hT:=a4Z I rv hk
 have hname:(toString "min" ++ toString ".loop" : String) = "min.loop" := by decide
 have hpos:0<its.length:=by
  cases ys with
  | nil=>exact absurd rfl hne
  | cons _ _=>rw[← hlen];exact Nat.succ_pos _
 refine kmk_tree F.kind_min F.plain_min F.entry_min (F.args_min1 _) ?_
 show wpAny _ X.A.in1 (Builtin.Builtins.bindParams "min" ["key","default"] 0 ⟨[],[]⟩ >>= _) _ _ s
 refine wpAny_bind (wpAny_of_eq (show Builtin.Builtins.bindParams "min" ["key","default"] 0 ⟨[],[]⟩=pure [none,none]from rfl) ?_)
 refine wpAny_bind (wpAny_pure ?_)
 refine wpAny_bind (wpAny_pyIter_list pl.isList ?_)
 refine wpAny_bind (wpAny_newList ?_ (Nat.zero_le _))
 rw[hname]
 have e1:(s.heap.push { cls:=.type "list_iterator",data:=.fields #[.ref a,.int 0 0] }).objs.size=s.heap.objs.size+1:=Heap.size_push ..
 have fr:∀b,s.heap.objs.size≤b→s.heap.get? b=none:=fun b hb=>by
  cases e:s.heap.get? b with
  | none=>rfl
  | some o=>exact absurd (Heap.lt_size e) (Nat.not_lt_of_le hb)
 refine wpAny_pure ⟨plainId_quiet F.plain_min_loop _,a61 (I.ok.hd hc) hu hT (I:=s.heap.objs.size) (l:=a) (fr _ (Nat.le_refl _)) (fr _ (by rw[e1];omega)) (by rw[e1];exact Nat.ne_of_lt (Nat.lt_succ_self _)) (by rw[e1];exact Nat.ne_of_lt (Nat.lt_succ_of_lt hlt)) (Nat.ne_of_lt hlt) hpos its.length 0 _ #[] _ (by omega) (Nat.zero_le _)
  (fun b o e=>Heap.get?_push_of_some _ (Heap.get?_push_of_some _ e)) ⟨_,Heap.get?_push_of_some _ (Heap.get?_push_size _ rfl),rfl,rfl⟩ ((pl.isList.push _).push _) (Heap.get?_push_size _ rfl) (.inl ⟨rfl,rfl⟩) fun i v h' tk hv hm hk=>?_⟩
 have I':Inv X pins σ H { s with heap:=h',toks:=tk }:=I.kept fun b o e=>hk b o (Nat.ne_of_lt (Heap.lt_size e)) (by rw[e1];exact Nat.ne_of_lt (Nat.lt_succ_of_lt (Heap.lt_size e))) (Heap.get?_push_of_some _ (Heap.get?_push_of_some _ e))
 have hi:i<ys.length:=by rw[hlen];exact(List.getElem?_eq_some_iff.mp hv).1
 obtain⟨u,hu',ru⟩:=rv.get (List.getElem?_eq_getElem hi)
 rw[hv]at hu'
 cases hu'
 exact⟨ys[i],H,I',ru,q i _ (List.getElem?_eq_getElem hi) fun i' h=>hm i' (by omega)⟩
end
section
variable {K:W.Frag}{cl:Str→Addr}
def u4(k:List Int)(ks:List (List Int)):List Int:=ks.foldl (fun m x=>if HT.lexLt x m=true then x else m) k
theorem W7:∀(ks:List (List Int)) (k:List Int),(u4 k ks=k∨u4 k ks∈ks)∧HT.lexLt k (u4 k ks)=false∧∀x∈ks,HT.lexLt x (u4 k ks)=false
 | [],k=>⟨.inl rfl,T5 k,fun x m=>absurd m List.not_mem_nil⟩
 | y::ks,k=>by
  show(u4 (if HT.lexLt y k=true then y else k) ks=k∨u4 (if HT.lexLt y k=true then y else k) ks∈y::ks)∧HT.lexLt k (u4 (if HT.lexLt y k=true then y else k) ks)=false∧∀x∈y::ks,HT.lexLt x (u4 (if HT.lexLt y k=true then y else k) ks)=false
  by_cases h:HT.lexLt y k=true
  ·rw[if_pos h]
   obtain⟨a,b,c⟩:=W7 ks y
   refine⟨.inr ?_,?_,fun x m=>?_⟩
   ·rcases a with a | a
    ·rw[a];exact List.mem_cons_self
    ·exact List.mem_cons_of_mem _ a
   ·cases z:HT.lexLt k (u4 y ks)with
    | false=>rfl
    | true =>
     have:=a0d z b
     rw[h]at this
     cases this
   ·rcases List.mem_cons.mp m with rfl | m
    ·exact b
    ·exact c x m
  ·rw[if_neg h]
   obtain⟨a,b,c⟩:=W7 ks k
   refine⟨?_,b,fun x m=>?_⟩
   ·rcases a with a | a
    ·exact .inl a
    ·exact .inr (List.mem_cons_of_mem _ a)
   ·rcases List.mem_cons.mp m with rfl | m
    ·cases z:HT.lexLt x (u4 k ks)with
     | false=>rfl
     | true =>
      cases z2:HT.lexLt k x with
      | true=>have:=a0d z b;rw[z2]at this;cases this
      | false =>
       have e:x=k:=V2 _ _ (Bool.eq_false_iff.mpr h) z2
       rw[e,b]at z
       cases z
    ·exact c x m
def Y1:D→Option D
 | .lst ds=>match T1 ds with
  | some (k::ks)=>some (tI (u4 k ks))
  | _=>none
 | _=>none
theorem a8k:CbOk1 K cl (a62 K) Y1:=by
 intro x d z H F Q s hx h q
 unfold Y1 at h
 split at h
 ·rename_i ds
  split at h
  ·rename_i k ks hk
   cases h
   obtain⟨a,xs,rfl,hH,r⟩:=hx.lst s
   obtain⟨e,hn⟩:=a4i hk
   subst e
   have hlen:(k::ks).length=xs.length:=by rw[← r.length,List.length_map]
   refine⟨a,xs,k::ks,rfl,.of hH,a60 s hn r,fun z=>(by rw[z]at hlen;cases hlen),fun i y hy hm=>?_⟩
   have hi:i<(k::ks).length:=by rw[hlen];exact(List.getElem?_eq_some_iff.mp hy).1
   have hd:((k::ks).map tI)[i]? = some (tI (k::ks)[i]):=by rw[List.getElem?_map,List.getElem?_eq_getElem hi];rfl
   obtain⟨v,ev,pv⟩:=r.get hd
   rw[hy]at ev
   cases ev
   have eg:(k::ks).getD i []=(k::ks)[i]:=by rw[List.getD_eq_getElem?_getD,List.getElem?_eq_getElem hi];rfl
   obtain⟨m1,m2,m3⟩:=W7 ks k
   have mem:u4 k ks∈k::ks:=by
    rcases m1 with m | m
    ·rw[m];exact List.mem_cons_self
    ·exact List.mem_cons_of_mem _ m
   obtain⟨j,hj,ej⟩:=List.mem_iff_getElem.mp mem
   have f1:HT.lexLt (u4 k ks) (k::ks)[i]=false:=by
    have:=hm j (by omega)
    rw[eg,List.getD_eq_getElem?_getD,List.getElem?_eq_getElem hj]at this
    rw[← ej];exact this
   have f2:HT.lexLt (k::ks)[i] (u4 k ks)=false:=by
    rcases List.mem_cons.mp (List.getElem_mem hi)with e | e
    ·rw[e];exact m2
    ·exact m3 _ e
   have e:u4 k ks=(k::ks)[i]:=V2 _ _ f1 f2
   refine q _ H F (.refl s) ?_
   rw[e]
   exact pv
  ·cases h
 ·cases h
end
section
variable {K:W.Frag}{cl:Str→Addr}{E:XK}{σ:St}{H F:Hp}{env:DE}{k:Nat}
theorem b2g{b:GF}{c:BF}{el:ZF}{g:TG}{tf:TT}{te:TE}{js:List Nat}{ds:List D}{xs:List V}{a B:Addr}{Q:VK}(nd:js.Nodup)(hg:M8 K cl k g b)(hc:G3 K cl E tf c)(he:k8 K cl E te el)(R:Rel K cl σ H F env)(hB:H B=none)
  (hl:∀H' F',Same F F'→Same F' H'→SqL K H' a xs) (r:Rps K cl F ds xs) (h:Ct K cl E (PN K cl) (l6 b c el (j4 k js env) env (K7 0 ds) []) σ H F env Q) :
  U4 (Ite K a) g tf te k (k7 k js σ) B (fun H'=>Q (.ref B) H') H:=by
 refine a6j (xs:=xs) (fun i zs H'=>∃F' acc,Grow K cl σ H F env B acc zs H' F'∧Ct K cl E (PN K cl) (l6 b c el (j4 k js env) env ((K7 0 ds).drop i) acc) σ H F env Q) ⟨F,[],.start R hB,h⟩ (fun i zs H' _ ⟨F',acc,gw,_⟩=>hl H' F' gw.frm.fz gw.rel.sub) (fun i x zs H' p hx ⟨F',acc,gw,h'⟩ hp=>?_) (fun zs H' ⟨F',acc,gw,h'⟩=>?_)
 ·obtain⟨d,hd,pd⟩:=r.get' hx
  rw[P8 (a04 hd),Nat.zero_add]at h'
  have gr:Gr H' F' (upd H' p (.tup [.int i,x])) (upd F' p (.tup [.int i,x])):=.new gw.rel.sub hp
  refine a25 (Pv:=fun zs' H2=>∃F' acc,Grow K cl σ H F env B acc zs' H2 F'∧Ct K cl E (PN K cl) (l6 b c el (j4 k js env) env ((K7 0 ds).drop (i+1)) acc) σ H F env Q) nd hg hc he (gw.gr gr) ?_ h' fun acc' ys' H2 F2 gw2 h2=>⟨F2,acc',gw2,h2⟩
  simp only[Rp]
  exact⟨p,_,rfl,d5,.cons (by simp only[Rp]) (.one (Rp.mono (gw.frm.fz.trans gr.fz) _ _ pd))⟩
 ·rw[← r.length,List.drop_eq_nil_of_le (by rw[a05];exact Nat.le_refl _)]at h'
  exact a4b gw h'
def a1b(i:Nat)(k:Nat)(js:List Nat)(b:GF)(c:BF)(el:ZF):NF:=fun e=>match e[i]? with
 | some (.fz d)=>(match seqL d with
  | none=>none
  | some ds=>l6 b c el (j4 k js e) e (K7 0 ds) [])
 | _=>none
theorem a63{i:Nat}{g:TG}{tf:TT}{te:TE}{js:List Nat}{b:GF}{c:BF}{el:ZF}(nd:js.Nodup)(hg:M8 K cl k g b)(hc:G3 K cl E tf c)(he:k8 K cl E te el):RfN K cl E (a1T (a5C K (A3 (y9 i) L5)) g tf te k js) (a1b i k js b c el):=by
 intro σ H Q env F R h
 unfold a1b at h
 split at h
 ·rename_i d q
  split at h
  ·exact h.elim
  ·rename_i ds hs
   obtain⟨v,e,p⟩:=R.fz i d q
   obtain⟨a,xs,rfl,r,hl⟩:=Rp.seqL p hs
   exact⟨_,e,a,rfl,⟨xs,hl H R.sub⟩,fun B hB=>b2g nd hg hc he R hB (fun H' F' f2 s2=>hl H' (f2.trans s2)) r h⟩
 ·exact h.elim
end
section
variable {K:W.Frag}{cl:Str→Addr}
theorem a4j{F:Hp}:∀(l:List Nat),Rps K cl F (l.map fun(i:Nat)=>D.int (i:Int)) (l.map fun(i:Nat)=>V.int (i:Int))
 | []=>.nil
 | i::l=>.cons (by simp only[Rp]) (a4j l)
end
structure GrM(a:Addr)(H F H' F':Hp):Prop where
 fz:Same F F'
 sub:Same F' H'
 hid:∀b o,b≠a→H b=some o→F b=none→H' b=some o∧F' b=none
 dom:∀b,H' b=none→H b=none
structure Bs(a:Addr)(σ:St)(env:DE)(H0 F0 H F:Hp):Prop where
 fz:Same F0 F
 hid:∀b o,b≠a→H0 b=some o→F0 b=none→H b=some o∧F b=none∧¬Ow σ env b
 dom:∀b,H b=none→H0 b=none
section
variable {K:W.Frag}{cl:Str→Addr}{E:XK}{σ:St}{H F:Hp}{env:DE}
theorem Bs.frm{a:Addr}{ds:List D}{σ':St}{env':DE}{H0 F0 H' F':Hp}(B:Bs a σ env H0 F0 H F)(f:Frm σ H F env σ' H' F' env'):Bs a σ' env' H0 F0 H' F' :=
 ⟨B.fz.trans f.fz,fun b o n h g=>by obtain⟨h1,f1,w1⟩:=B.hid b o n h g;exact f.hid b o h1 f1 w1,fun b h=>B.dom b (f.dom b h)⟩
theorem Bs.gr{a:Addr}{H0 F0:Hp}(B:Bs a σ env H0 F0 H F)(s:Same F H):GrM a H0 F0 H F :=
 ⟨B.fz,s,fun b o n h g=>by obtain⟨h1,f1,_⟩:=B.hid b o n h g;exact⟨h1,f1⟩,B.dom⟩
end
abbrev Q8:=List Int×List D
def a2L(k:Q8):List Q8→List Q8
 | []=>[k]
 | l::r=>if HT.lexLt l.1 k.1 then l::a2L k r else k::l::r
def T2:List Q8→List Q8
 | []=>[]
 | k::r=>a2L k (T2 r)
theorem a0L(k:Q8):∀r:List Q8,(a2L k r).Perm (k::r)
 | []=>.refl _
 | l::r=>by
  unfold a2L
  split
  ·exact((a0L k r).cons l).trans (List.Perm.swap k l r)
  ·exact .refl _
theorem a0e:∀r:List Q8,(T2 r).Perm r
 | []=>.refl _
 | k::r=>(a0L k _).trans ((a0e r).cons k)
theorem a1n(k:Q8):∀r:List Q8,r.Pairwise (fun a b=>HT.lexLt b.1 a.1=false)→(a2L k r).Pairwise (fun a b=>HT.lexLt b.1 a.1=false)
 | [],_=>List.pairwise_singleton _ _
 | l::r,h=>by
  rw[List.pairwise_cons]at h
  unfold a2L
  split
  ·rename_i c
   rw[List.pairwise_cons]
   refine⟨fun b hb=>?_,a1n k r h.2⟩
   rcases List.mem_cons.mp ((a0L k r).mem_iff.mp hb)with rfl | hb
   ·exact a2x _ _ c
   ·exact h.1 b hb
  ·rename_i c
   rw[Bool.not_eq_true]at c
   rw[List.pairwise_cons]
   refine⟨fun b hb=>?_,by rw[List.pairwise_cons];exact h⟩
   rcases List.mem_cons.mp hb with rfl | hb
   ·exact c
   ·exact a3X _ _ _ c (h.1 b hb)
theorem V3:∀r:List Q8,(T2 r).Pairwise (fun a b=>HT.lexLt b.1 a.1=false)
 | []=>.nil
 | k::r=>a1n k _ (V3 r)
theorem Y2:∀{a b:List Q8},a.Perm b→a.Pairwise (fun a b=>HT.lexLt b.1 a.1=false)→b.Pairwise (fun a b=>HT.lexLt b.1 a.1=false)→a.Pairwise (fun a b=>a.1≠b.1)→a=b
 | [],b,h,_,_,_=>h.symm.eq_nil.symm▸rfl
 | x::a,[],h,_,_,_=>absurd h.eq_nil nofun
 | x::a,y::b,h,ha,hb,hd=>by
  rw[List.pairwise_cons]at ha hb hd
  have e:x=y:=by
   have mx:x∈y::b:=h.mem_iff.mp (by simp)
   have my:y∈x::a:=h.mem_iff.mpr (by simp)
   rcases List.mem_cons.mp mx with e | mx
   ·exact e
   ·rcases List.mem_cons.mp my with e | my
    ·exact e.symm
    ·exact absurd (V2 _ _ (hb.1 x mx) (ha.1 y my)) (hd.1 y my)
  subst e
  rw[Y2 ((List.perm_cons x).mp h) ha.2 hb.2 hd.2]
def X2(el:ZF)(ec:DE):Nat→Option (List (List Int))
 | 0=>some []
 | n+1=>match X2 el ec n with
  | some ks=>(match el (ec.set 0 (.fz (.int (n:Int))))with
   | some (.ok (.tup ds) _)=>(match v8 ds with
    | some k=>if k≠[]then some (ks++[k])else none
    | none=>none)
   | _=>none)
  | none=>none
def O9(ks:List (List Int)):List Q8:=(List.range ks.length).map fun(i:Nat)=>(ks.getD i [],[D.int (i:Int)])
def okK(ks:List (List Int)):Bool:=decide ks.Nodup && ks.all fun k=>k.length == (ks.headD []).length
theorem a1E{el:ZF}{ec:DE}:∀{n:Nat} {ks:List (List Int)},X2 el ec n=some ks→ks.length=n
 | 0,ks,h=>by cases h;rfl
 | n+1,ks,h=>by
  unfold X2 at h
  split at h
  ·rename_i ks' e
   split at h
   ·split at h
    ·split at h
     ·cases h;rw[List.length_append,a1E e];rfl
     ·cases h
    ·cases h
   ·cases h
  ·cases h
theorem a2M{el:ZF}{ec:DE}:∀{n:Nat} {ks:List (List Int)},X2 el ec n=some ks→∀i,i<n→∃e',el (ec.set 0 (.fz (.int (i:Int))))=some (.ok (.tup ((ks.getD i []).map .int)) e')∧ks.getD i []≠[]
 | 0,ks,h,i,hi=>by omega
 | n+1,ks,h,i,hi=>by
  unfold X2 at h
  split at h
  ·rename_i ks' e
   have hl:=a1E e
   split at h
   ·rename_i ds e' he
    split at h
    ·rename_i k hk
     split at h
     ·rename_i hn
      cases h
      by_cases z:i=n
      ·subst z
       have:(ks'++[k]).getD i []=k:=by rw[List.getD_eq_getElem?_getD,List.getElem?_append_right (by omega),hl,Nat.sub_self];rfl
       rw[this]
       exact⟨e',by rw[he,Y0 hk],hn⟩
      ·obtain⟨e2,h1,h2⟩:=a2M e i (by omega)
       have:(ks'++[k]).getD i []=ks'.getD i []:=by rw[List.getD_eq_getElem?_getD,List.getD_eq_getElem?_getD,List.getElem?_append_left (by omega)]
       rw[this]
       exact⟨e2,h1,h2⟩
     ·cases h
    ·cases h
   ·cases h
  ·cases h
section
variable {K:W.Frag}{cl:Str→Addr}{E:XK}
theorem a8l{env:DE}{i:Nat}{d:D}(n:NoOw env):NoOw (env.set i (.fz d)):=by
 intro j ds q
 by_cases z:i=j
 ·subst z
  by_cases hi:i<env.length
  ·rw[List.getElem?_set_self hi]at q;cases q
  ·rw[List.getElem?_eq_none (by rw[List.length_set];omega)]at q;cases q
 ·rw[List.getElem?_set_ne z]at q;exact n j ds q
theorem a86{F H:Hp}:∀{ks:List (List Int)} {ys:List V},Same F H→Rps K cl F (ks.map fun k=>D.tup (k.map .int)) ys→(∀k∈ks,k≠[])→VPs K H ys ks
 | [],_,_,r,_=>by rw[r.inv0];trivial
 | k::ks,_,s,r,h=>by
  obtain⟨v,xs,rfl,p,r'⟩:=r.inv
  refine⟨?_,a86 s r' fun k' m=>h k' (List.mem_cons_of_mem _ m)⟩
  obtain⟨a,vs,rfl,hF,rv⟩:∃a vs,v=.ref a∧F a=some (.tup vs)∧Rps K cl F (k.map .int) vs:=by simpa only[Rp]using p
  have e:vs=k.map V.int:=Rps.ints rv
  subst e
  exact⟨a,[],rfl,by rw[List.append_nil];exact .of (s _ _ hF),h k List.mem_cons_self,fun r m=>by cases m⟩
end
section
variable {P:Program}{w:World}{K:W.Frag}{mg:Str→Option Value}{base:Heap}{cl:Str→Addr}{TB:List (Addr×Str)}
theorem Fun.okT{x qual:Str}{st:Stmt}{f:Addr}{fd:FuncData}{N ps:List Str}{k:Nat}{body:SF}(F:Fun K x qual st f fd)(S:FnScope N ps (a8 st))
  (hbody:∀(A:Around) (outer:List Env) (s:Shared) (H:Hp) (E:XK),TbAll TB H→Room k (A.deeper (envOfC qual (a8 st) s.heap.objs.size f fd.code)) →
   ∃t,PSs (L8 (n4 P w) P w K mg base N qual (a8 st) f fd.code A outer s H E) (i5 st) t∧RfS K cl E t body):FnOk P w K mg base (n4 P w) (k+1) f fd ps (U5 TB (i6 K cl (fD N.length ps.length body))):=by
 obtain⟨oc,od,kV,doc,pm,an,cdv,ct,osl,rfl,lk,hcd⟩:=F.ex
 refine a1L lk hcd S (fun vs H Q E h=>a06 h.2) fun A outer s H vs Q E hr h=>?_
 obtain⟨t,h1,h2⟩:=hbody A outer s H E h.1 hr
 exact⟨t,h1,S7 h2 h.2⟩
variable {X:Cx}{k k':Nat}{x:Str}{ps:List Str}{sp:Sp}{E:XK}{e:Expr}{es:List Expr}{t:TA}{p pos:Pos}
theorem a2N(hT:TbAll TB X.H₀)(G:Own X.prog X.w X.K X.mg X.base k x ps (U5 TB sp))(hr:Room k' X.A)(hk:k≤k')(hx:L7 (n4 X.prog X.w) X E)(ha:PA X (e::es) t)(hg:Gl X x:=by rfl)
  (hdb:(x == ("__debug__" : Str))=false:=by decide) (he:starEach (e::es) X.env=(false,eval e X.env)::starEach es X.env:=by rfl) (hpl:(backTo pos (starEach es X.env)).any (·.1)=false:=by rfl) :
  PE X (.Call (.Name x p) (e::es) [] pos) (R8 sp [] E t):=by
 have ha':PA X (e::es) (fun σ H Q=>∃R:List V→Hp→Prop,t σ H R∧∀vs H1,R vs H1→TbAll TB H1→Q vs H1):=by
  intro pos pins s σ H Q I h
  obtain⟨R,h1,h2⟩:=h
  exact wpAny_mono (ha pos pins s σ H R I h1) (fun us s' ⟨vs,H',I',r,q⟩=>⟨vs,H',I',r,h2 _ _ q (hT.now I'.base)⟩) fun _ _ z=>z
 have:=t9 G hr hk hx ha' hg hdb he hpl (p:=p)
 intro pins s σ H Q I h
 exact this pins s σ H Q I ⟨_,h,fun vs H1 z hT'=>⟨hT',z⟩⟩
end
def a5V:SF:=fun _=>none
theorem b0C{X:Cx}{st:Stmt}:PS X st (fun _ _ _=>False):=fun _ _ _ _ _ _ h=>h.elim
section
variable {K:W.Frag}{cl:Str→Addr}{E:XK}
theorem b0D:RfS K cl E (fun _ _ _=>False) a5V:=fun _ _ _ _ _ _ h=>h
end
section
variable {P:Program}{w:World}{K:W.Frag}{mg:Str→Option Value}{base:Heap}{cl:Str→Addr}{TB:List (Addr×Str)}
theorem FunD.okT{x qual:Str}{st:Stmt}{dT f:Addr}{fd:FuncData}{N ps:List Str}{k:Nat}{body:SF}(F:FunD K x qual st dT f fd)(S:FnScope N ps (a8 st))
  (hbody:∀(A:Around) (outer:List Env) (s:Shared) (H:Hp) (E:XK),TbAll TB H→Room k (A.deeper (envOfC qual (a8 st) s.heap.objs.size f fd.code)) →
   ∃t,PSs (L8 (n4 P w) P w K mg base N qual (a8 st) f fd.code A outer s H E) (i5 st) t∧RfS K cl E t body):FnOk P w K mg base (n4 P w) (k+1) f fd ps (U5 TB (i6 K cl (fD N.length ps.length body))):=by
 obtain⟨oc,od,kV,doc,pm,an,cdv,ct,osl,rfl,lk,hcd⟩:=F.ex
 refine a1L lk hcd S (fun vs H Q E h=>a06 h.2) fun A outer s H vs Q E hr h=>?_
 obtain⟨t,h1,h2⟩:=hbody A outer s H E h.1 hr
 exact⟨t,h1,S7 h2 h.2⟩
variable {X:Cx}{k k':Nat}{x:Str}{ps:List Str}{sp:Sp}{E:XK}{e:Expr}{es:List Expr}{t:TA}{p pos:Pos}{d:V}
theorem OwnD.own(G:OwnD P w K mg base k x ps sp d):Own P w K mg base k x ps sp:=by
 obtain⟨f,fd,du,F,b,bd,rd,kp,m⟩:=G.ex
 exact⟨f,fd,F,b,kp,m⟩
end
def a0M(js:List Nat)(f:AF)(el:ZF):NF:=fun e=>bnd (f e) fun ds e1=>match ds with
 | [.int n]=>if 0≤n∧n<1000 then(match X2 el (j4 1 js e1) n.toNat with
  | some ks=>if okK ks=true then some (.ok ((T2 (O9 ks)).map fun q=>q.2.headD .non) e1)else none
  | none=>none)else none
 | _=>none
section
variable {K:W.Frag}{cl:Str→Addr}{E:XK}
theorem a8m{t:TA}{f:AF}{te:TE}{el:ZF}{js:List Nat}(nd:js.Nodup)(hf:M7 K cl E t f)(he:k8 K cl E te el):RfN K cl E (a6C K t te js) (a0M js f el):=by
 intro σ H Q env F R h
 refine hf σ H _ env F R ((Ct.bnd h a1v).mono fun xs H1 ⟨F1,e1,ds,s1,R1,p1,h1⟩=>?_)
 split at h1
 ·rename_i n
  split at h1
  ·rename_i hn
   split at h1
   ·rename_i ks hk
    split at h1
    ·rename_i ok
     have hl:=a1E hk
     have ok':ks.Nodup∧∀k∈ks,k.length=(ks.headD []).length:=by simpa [okK]using ok
     have ex:xs=[.int n]:=Rps.ints (ns:=[n]) p1
     subst ex
     refine⟨n,rfl,fun r hr=>?_⟩
     refine⟨n.toNat,r,rfl,by rw[d5,Int.toNat_of_nonneg hn.1],by omega,fun H2 ext=>?_⟩
     have ext':∀a o,H1 a=some o→H2 a=some o:=fun a o ha=>ext a o (by rw[a7 (fun z=>by rw[z,hr]at ha;cases ha)];exact ha)
     refine⟨fun i ys H'=>∃F',Gr H1 F1 H' F'∧Rps K cl F' ((ks.take i).map fun k=>D.tup (k.map .int)) ys,⟨F1,⟨Same.refl _,fun a o ha=>ext' a o (R1.sub a o ha),fun a o ha fa=>⟨ext' a o ha,fa⟩⟩,.nil⟩,fun i ys H' hi ⟨F',g,rk⟩=>?_,fun ys H' hy ⟨F',g,rk⟩=>?_⟩
     ·obtain⟨e',hel,_⟩:=a2M hk i hi
      have R2:=R1.gr g
      have Rc:Rel K cl (k7 1 js σ) H' F' (j4 1 js e1):=R2.comp nd
      have n1:NoOw (j4 1 js e1):=a24
      have Rp':=Rc.put (i:=0) (d:=.int (i:Int)) (v:=.int (i:Int)) (by unfold j4;simp) (fun ds z=>by unfold j4 at z;simp at z) (by simp only[Rp])
      refine he ((k7 1 js σ).set 0 (some (.int (i:Int)))) H' _ _ F' Rp' ?_
      rw[hel]
      intro v H4 F4 f4 R4 hv
      have gr4:Gr H' F' H4 F4:=f4.gr (a8l n1) R4.sub
      refine⟨F4,g.trans gr4,?_⟩
      have et:ks.take (i+1)=ks.take i++[ks.getD i []]:=by
       rw[List.take_add_one,List.getD_eq_getElem?_getD]
       rw[List.getElem?_eq_getElem (by omega)]
       rfl
      rw[et,List.map_append]
      exact(rk.mono gr4.fz).append (.one hv)
     ·rw[List.take_of_length_le (by omega)]at rk
      have ne:∀k∈ks,k≠[]:=fun k m=>by
       obtain⟨i,hi,e⟩:=List.mem_iff_getElem.mp m
       obtain⟨_,_,h3⟩:=a2M hk i (by omega)
       rw[List.getD_eq_getElem?_getD,List.getElem?_eq_getElem hi,Option.getD_some,e]at h3
       exact h3
      have gk:∀i,i<ks.length→ks.getD i []=ks[i]! := fun i hi=>by simp[List.getD_eq_getElem?_getD,hi]
      have at_:∀i (hi:i<ks.length),ks.getD i []=ks[i]:=fun i hi=>by rw[List.getD_eq_getElem?_getD,List.getElem?_eq_getElem hi];rfl
      refine⟨ks,a86 g.sub rk ne,fun i j hi hj z=>?_,fun l p hl' hp hs=>?_⟩
      ·have hi:i<ks.length:=by omega
       have hj:j<ks.length:=by omega
       rw[at_ i hi,at_ j hj]
       refine⟨by rw[ok'.2 _ (List.getElem_mem hi),ok'.2 _ (List.getElem_mem hj)],fun e=>z ((List.getElem_inj ok'.1).mp e)⟩
      ·have R2:=R1.gr g
       obtain⟨R3,f3⟩:=R2.newN (o:=.lst (p.map fun(i:Nat)=>V.int (i:Int))) hl'
       have h1:∀b H' F',Frm σ H1 F1 e1 σ H' F' e1→Rel K cl σ H' F' e1→PN K cl ((T2 (O9 ks)).map fun q=>q.2.headD .non) σ H1 H' F' e1 b→Q b H':=h1
       refine h1 _ _ F' ((R1.frm g).trans f3) R3 ⟨l,_,rfl,g.dom l hl',d5,R2.sub.free hl',fun j ⟨ds,q⟩ e=>?_,?_⟩
       ·obtain⟨a,ys',e1',hH,_⟩:=R2.mu j ds q
        rw[e]at e1';cases e1'
        rw[hl']at hH;cases hH
       ·have hp':p.Perm (List.range ks.length):=by rw[hl];exact hp
        have srt:p.map (fun(i:Nat)=>((ks.getD i [],[D.int (i:Int)]):Q8))=T2 (O9 ks):=by
         refine Y2 ((hp'.map _).trans (a0e _).symm) ?_ (V3 _) ?_
         ·rw[List.pairwise_map];exact hs
         ·rw[List.pairwise_map]
          have nd:p.Nodup:=hp'.nodup_iff.mpr List.nodup_range
          refine List.Pairwise.imp_of_mem ?_ nd
          intro a b ma mb hab e
          have ha:=List.mem_range.mp (hp'.mem_iff.mp ma)
          have hb:=List.mem_range.mp (hp'.mem_iff.mp mb)
          have e:ks.getD a []=ks.getD b []:=e
          rw[at_ a ha,at_ b hb]at e
          exact hab ((List.getElem_inj ok'.1).mp e)
        rw[← srt,List.map_map]
        exact a4j p
    ·exact h1.elim
   ·exact h1.elim
  ·exact h1.elim
 ·exact h1.elim
end
section
variable {K:W.Frag}{cl:Str→Addr}{E:XK}
def a1c(h i:Nat):SF:=fun e=>match e[h]?,e[i]? with
 | some (.fz (.int n)),some (.ow ds)=>some (.rp n ds)
 | _,_=>none
theorem b0E{h i:Nat}:RfS K cl E (T9 (a5u (A3 (y9 h) (A3 (y9 i) L5)))) (a1c h i):=by
 intro N σ H env F R q
 unfold a1c at q
 split at q
 ·rename_i n ds q1 q2
  obtain⟨v,e1,p1⟩:=R.fz h _ q1
  have hv:v=.int n:=by simpa only[Rp]using p1
  subst hv
  obtain⟨a,xs,e2,hH,hF,r⟩:=R.mu i ds (.inl q2)
  refine⟨_,e1,_,e2,by show 2≤2 ^ 24;decide,fun p hp=>?_⟩
  have np:∀a o,H a=some o→a≠p:=fun a o ha z=>by rw[z,hp]at ha;cases ha
  refine q p a xs _ F ⟨Same.refl _,fun b o hb=>by rw[a7 (np b o (R.sub _ _ hb))];exact R.sub _ _ hb,fun a o ha fa _=>⟨by rw[a7 (np a o ha)];exact ha,fa⟩,fun a ha=>?_⟩ hp d5 (R.sub.free hp) (by rw[a7 (np _ _ hH)];exact hH) hF (fun o _=>⟨i,ds,q2,e2⟩) r
  by_cases z:a=p
  ·rw[z,d5]at ha;cases ha
  ·rw[a7 z]at ha;exact ha
 ·exact q.elim
theorem a5f{H F H' F':Hp}{p a:Addr}{n:Int}{es:List D}{xs:List V}(gr:Gr H F H' F')(hp:H p=none)(ht:H' p=some (.tup [.int n,.ref a]))(fp:F' p=none)(ha:H a=none)(hH:H' a=some (.lst xs))(hF:F' a=none)(r:Rps K cl F' es xs) :
  Gr H F H' (upd (upd F' a (.lst xs)) p (.tup [.int n,.ref a]))∧Rp K cl (upd (upd F' a (.lst xs)) p (.tup [.int n,.ref a])) (.tup [.int n,.lst es]) (.ref p)∧Same F' (upd (upd F' a (.lst xs)) p (.tup [.int n,.ref a]))∧upd (upd F' a (.lst xs)) p (.tup [.int n,.ref a]) a=some (.lst xs)∧p≠a:=by
 have pa:p≠a:=fun y=>by rw[y,hH]at ht;cases ht
 have sF:Same F' (upd (upd F' a (.lst xs)) p (.tup [.int n,.ref a])):=fun b o hb=>by
  rw[a7 (fun y=>by rw[y,fp]at hb;cases hb),a7 (fun y=>by rw[y,hF]at hb;cases hb)]
  exact hb
 have ga:upd (upd F' a (.lst xs)) p (.tup [.int n,.ref a]) a=some (.lst xs):=by rw[a7 (Ne.symm pa),d5]
 refine⟨⟨gr.fz.trans sF,fun b o hb=>?_,fun b o hb fb=>?_⟩,?_,sF,ga,pa⟩
 ·by_cases y:b=p
  ·rw[y,d5]at hb;cases hb;rw[y];exact ht
  ·rw[a7 y]at hb
   by_cases y2:b=a
   ·rw[y2,d5]at hb;cases hb;rw[y2];exact hH
   ·rw[a7 y2]at hb;exact gr.sub _ _ hb
 ·obtain⟨x1,x2⟩:=gr.hid b o hb fb
  refine⟨x1,?_⟩
  rw[a7 (fun y=>by rw[y,hp]at hb;cases hb),a7 (fun y=>by rw[y,ha]at hb;cases hb)]
  exact x2
 ·simp only[Rp]
  refine⟨p,_,rfl,d5,.cons (by simp only[Rp]) (.one ?_)⟩
  simp only[Rp]
  exact⟨a,xs,rfl,ga,r.mono sF⟩
def toP(r:Option R1)(e:DE):Option (R D):=match r with
 | some (.owp n es)=>some (.ok (.tup [.int n,.lst es]) e)
 | some (.ex c)=>some (.ex c)
 | _=>none
def a2c(g:List D→Option R1)(f:AF):ZF:=fun e=>bnd (f e) fun ds e1=>toP (g ds) e1
theorem a8n{g:List D→Option R1}{t:TA}{f:AF}(hf:M7 K cl E t f):k8 K cl E (R8 (i6 K cl g) [] E t) (a2c g f):=by
 intro σ H Q env F R h
 refine hf σ H _ env F R ((Ct.bnd h J6).mono fun vs H1 ⟨F1,e1,ds,s1,R1,p1,h1⟩=>?_)
 show i6 K cl g (vs++[]) H1 _ E
 rw[List.append_nil]
 refine⟨ds,F1,R1.sub,p1,?_⟩
 unfold toP at h1
 split at h1
 ·rename_i n es q;rw[q]
  intro p a xs H' F' gr hp ht fp ha hH hF r
  obtain⟨g1,g2,_⟩:=a5f gr hp ht fp ha hH hF r
  exact h1 _ H' _ (R1.frm g1) (R1.gr g1) g2
 ·rename_i c q;rw[q]
  exact fun H' F' gr=>h1 H' F' gr.fx
 ·exact h1.elim
end
section
variable {K:W.Frag}{cl:Str→Addr}{E:XK}
def a0N(e:DE):Bool:=e.all fun s=>match s with
 | .ow ds=>noLs ds
 | .hd ds=>noLs ds
 | _=>true
theorem a64{e:DE}(h:a0N e=true){k:Nat}{ds:List D}(q:e[k]? = some (.ow ds)∨e[k]? = some (.hd ds)):noLs ds=true:=by
 unfold a0N at h
 rw[List.all_eq_true]at h
 rcases q with q | q
 ·exact h _ (List.mem_of_getElem? q)
 ·exact h _ (List.mem_of_getElem? q)
def a2d(i j:Nat)(g:List D→Option R1)(f:AF)(c1 c2 c3:BF)(g9:SF):SF:=fun e=>G2 (f e) fun ds e1=>match g ds with
 | some (.owp n es)=>(match e1[i]?,e1[j]? with
  | some .no,some .no=>(match B0 c1 (e1.set i (.fz (.tup [.int n,.lst es])))with
   | some (.ok true _)=>some (.rt (.bl false))
   | some (.ok false e2)=>(match B0 c2 e2 with
    | some (.ok true _)=>some (.rt (.bl false))
    | some (.ok false e3)=>(match B0 c3 e3 with
     | some (.ok true _)=>some (.rt (.bl false))
     | some (.ok false _)=>if i≠j∧es.length<sizeLine∧a0N e1=true then g9 (e1.set j (.fz (.tup [.int n,.lst es])))else none
     | _=>none)
    | _=>none)
   | _=>none)
  | _,_=>none)
 | some (.ex c)=>some (.ex c)
 | _=>none
abbrev a2e(K:W.Frag)(i j:Nat):TS:=W9 (a5u (A3 (tOp (a2q K) (y9 i) (tC (.int 0))) (A3 (tCB (a2w K) (A3 (tOp (a2q K) (y9 i) (tC (.int 1))) L5)) L5))) (Q9 j)
abbrev a1d(K:W.Frag)(i:Nat):TS:=a3o (tBM K "list" a2r (tOp (a2q K) (y9 i) (tC (.int 1))) (A3 (tC .non) L5))
theorem a8o{i j:Nat}{N:Ends}{σ:St}{H0 F0 H1 F1 F' H5 F5:Hp}{σ0:St}{env e1:DE}{p a:Addr}{n:Int}{es:List D}{xs:List V}{tr:TS}{g9:SF}(hij:i≠j)(hi:e1[i]? = some .no)(hj:e1[j]? = some .no)(hl:xs.length<sizeLine)(ow:a0N e1=true)
  (R1:Rel K cl σ0 H1 F1 e1) (s1:Same F1 F') (fa:F' a=none) (r:Rps K cl F' es xs) (s5:Same F' F5) (ga:F5 a=some (.lst xs)) (gp:F5 p=some (.tup [.int n,.ref a])) (R5:Rel K cl (σ0.set i (some (.ref p))) H5 F5 (e1.set i (.fz (.tup [.int n,.lst es])))) (ff:Frm σ H0 F0 env (σ0.set i (some (.ref p))) H5 F5 (e1.set i (.fz (.tup [.int n,.lst es])))) (na:H0 a=none) (sub0:Same F0 H0)
  (hr:RfS K cl E tr g9) (h:Cs K cl E (g9 (e1.set j (.fz (.tup [.int n,.lst es])))) σ H0 F0 env N):B9 (a2e K i j) (B9 (a1d K i) tr) N (σ0.set i (some (.ref p))) H5:=by
 have li:i<σ0.length:=by rw[R1.len];exact(List.getElem?_eq_some_iff.mp hi).1
 have lj:j<σ0.length:=by rw[R1.len];exact(List.getElem?_eq_some_iff.mp hj).1
 have ei:(σ0.set i (some (V.ref p)))[i]? = some (some (.ref p)):=List.getElem?_set_self li
 have qa:=R5.sub _ _ ga
 have qp:=R5.sub _ _ gp
 have pa:p≠a:=fun y=>by rw[y,ga]at gp;cases gp
 refine⟨.ref p,ei,p,[.int n,.ref a],0,.int n,rfl,rfl,.of qp,rfl,?_⟩
 refine⟨.ref p,ei,p,[.int n,.ref a],1,.ref a,rfl,rfl,.of qp,rfl,?_⟩
 refine⟨a,xs,rfl,.inl (.of qa),fun l hl'=>?_⟩
 refine⟨by show 2≤2 ^ 24;decide,fun p2 hp2=>?_⟩
 have l5:∀b o,H5 b=some o→b≠l:=fun b o hb z=>by rw[z,hl']at hb;cases hb
 have p6:∀b o,upd H5 l (.lst xs) b=some o→b≠p2:=fun b o hb z=>by rw[z,hp2]at hb;cases hb
 have lp2:l≠p2:=p6 l _ d5
 have p5:∀b o,H5 b=some o→b≠p2:=fun b o hb=>p6 b o (by rw[a7 (l5 b o hb)];exact hb)
 have ap2:=p5 a _ qa
 have al:=l5 a _ qa
 have ei2:((σ0.set i (some (V.ref p))).set j (some (.ref p2)))[i]? = some (some (.ref p)):=by rw[List.getElem?_set_ne (Ne.symm hij)];exact ei
 have qp7:upd (upd H5 l (.lst xs)) p2 (.tup [.int n,.ref l]) p=some (.tup [.int n,.ref a]):=by rw[a7 (p5 p _ qp),a7 (l5 p _ qp)];exact qp
 have qa7:upd (upd H5 l (.lst xs)) p2 (.tup [.int n,.ref l]) a=some (.lst xs):=by rw[a7 ap2,a7 al];exact qa
 show B9 (a1d K i) tr N ((σ0.set i (some (V.ref p))).set j (some (.ref p2))) (upd (upd H5 l (.lst xs)) p2 (.tup [.int n,.ref l]))
 refine⟨.ref p,ei2,p,[.int n,.ref a],1,.ref a,rfl,rfl,.of qp7,rfl,.inl ⟨rfl,xs,.of qa7⟩,?_⟩
 refine⟨a,xs,.non,rfl,rfl,qa7,hl,?_⟩
 let H8:Hp:=upd (upd (upd H5 l (.lst xs)) p2 (.tup [.int n,.ref l])) a (.lst (xs++[.non]))
 let G:Hp:=fun x=>if x=a then none else F5 x
 let F6:Hp:=upd (upd G l (.lst xs)) p2 (.tup [.int n,.ref l])
 have gne:∀b,b≠a→G b=F5 b:=fun b z=>if_neg z
 have gaa:G a=none:=if_pos rfl
 have h8:∀b o,H5 b=some o→b≠a→H8 b=some o:=fun b o hb z=>by
  show upd (upd (upd H5 l (.lst xs)) p2 (.tup [.int n,.ref l])) a (.lst (xs++[.non])) b=_
  rw[a7 z,a7 (p5 b o hb),a7 (l5 b o hb)]
  exact hb
 have f6:∀b o,F5 b=some o→b≠a→F6 b=some o:=fun b o hb z=>by
  have hb5:=R5.sub _ _ hb
  show upd (upd G l (.lst xs)) p2 (.tup [.int n,.ref l]) b=_
  rw[a7 (p5 b o hb5),a7 (l5 b o hb5),gne b z]
  exact hb
 have s6:Same F' F6:=fun b o hb=>f6 b o (s5 _ _ hb) (fun z=>by rw[z,fa]at hb;cases hb)
 have fl6:F6 l=some (.lst xs):=by
  show upd (upd G l (.lst xs)) p2 (.tup [.int n,.ref l]) l=_
  rw[a7 lp2,d5]
 have fp6:F6 p2=some (.tup [.int n,.ref l]):=d5
 have h8l:H8 l=some (.lst xs):=by
  show upd (upd (upd H5 l (.lst xs)) p2 (.tup [.int n,.ref l])) a (.lst (xs++[.non])) l=_
  rw[a7 (Ne.symm al),a7 lp2,d5]
 have h8p:H8 p2=some (.tup [.int n,.ref l]):=by
  show upd (upd (upd H5 l (.lst xs)) p2 (.tup [.int n,.ref l])) a (.lst (xs++[.non])) p2=_
  rw[a7 (Ne.symm ap2),d5]
 have n6:∀b,F6 b=none→True:=fun _ _=>trivial
 have sub6:Same F6 H8:=fun b o hb=>by
  by_cases z2:b=p2
  ·rw[z2,fp6]at hb;cases hb;rw[z2];exact h8p
  ·by_cases zl:b=l
   ·rw[zl,fl6]at hb;cases hb;rw[zl];exact h8l
   ·have hb:upd (upd G l (.lst xs)) p2 (.tup [.int n,.ref l]) b=some o:=hb
    rw[a7 z2,a7 zl]at hb
    by_cases za:b=a
    ·rw[za,gaa]at hb;cases hb
    ·rw[gne b za]at hb
     exact h8 b o (R5.sub _ _ hb) za
 have E1:∀k,k≠i→(e1.set i (.fz (.tup [.int n,.lst es])))[k]? = e1[k]?:=fun k z=>List.getElem?_set_ne (Ne.symm z)
 have E6:∀k,k≠j→(e1.set j (.fz (.tup [.int n,.lst es])))[k]? = e1[k]?:=fun k z=>List.getElem?_set_ne (Ne.symm z)
 have S6:∀k,k≠j→((σ0.set i (some (V.ref p))).set j (some (.ref p2)))[k]? = (σ0.set i (some (V.ref p)))[k]?:=fun k z=>List.getElem?_set_ne (Ne.symm z)
 have own:∀k ds,((e1.set j (.fz (.tup [.int n,.lst es])))[k]? = some (.ow ds)∨(e1.set j (.fz (.tup [.int n,.lst es])))[k]? = some (.hd ds))→k≠i∧k≠j∧(e1[k]? = some (.ow ds)∨e1[k]? = some (.hd ds)):=fun k ds q=>by
  have kj:k≠j:=fun z=>by
   rw[z,List.getElem?_set_self (by rw[← R1.len];exact lj)]at q
   rcases q with q | q<;>cases q
  rw[E6 k kj]at q
  refine⟨fun z=>?_,kj,q⟩
  rw[z,hi]at q
  rcases q with q | q<;>cases q
 have R6:Rel K cl ((σ0.set i (some (V.ref p))).set j (some (.ref p2))) H8 F6 (e1.set j (.fz (.tup [.int n,.lst es]))):=by
  refine⟨sub6,by rw[List.length_set,List.length_set,List.length_set];exact R1.len,fun k d q=>?_,fun k ds q=>?_,fun k k' b m m' e e'=>?_⟩
  ·by_cases kj:k=j
   ·subst kj
    rw[List.getElem?_set_self (by rw[← R1.len];exact lj)]at q
    cases q
    refine⟨.ref p2,List.getElem?_set_self (by rw[List.length_set];exact lj),?_⟩
    simp only[Rp]
    refine⟨p2,_,rfl,fp6,.cons (by simp only[Rp]) (.one ?_)⟩
    simp only[Rp]
    exact⟨l,xs,rfl,fl6,r.mono s6⟩
   ·rw[E6 k kj]at q
    have ki:k≠i:=fun z=>by rw[z,hi]at q;cases q
    obtain⟨v,ev,pv⟩:=R1.fz k d q
    exact⟨v,by rw[S6 k kj,List.getElem?_set_ne (Ne.symm ki)];exact ev,Rp.mono (s1.trans s6) _ _ pv⟩
  ·obtain⟨ki,kj,q'⟩:=own k ds q
   obtain⟨b,ys,eb,hb,fb,rb⟩:=R5.mu k ds (by rw[E1 k ki];exact q')
   have ba:b≠a:=fun z=>by rw[z,ga]at fb;cases fb
   refine⟨b,ys,by rw[S6 k kj];exact eb,h8 b _ hb ba,?_,Rps.noL (fun c o hc nl=>f6 c o hc (fun z=>nl xs (by rw[z,ga]at hc;cases hc;rfl))) ds ys (a64 ow q') rb⟩
   show upd (upd G l (.lst xs)) p2 (.tup [.int n,.ref l]) b=none
   rw[a7 (p5 b _ hb),a7 (l5 b _ hb),gne b ba]
   exact fb
  ·obtain⟨ds,q⟩:=m
   obtain⟨ds',q'⟩:=m'
   obtain⟨ki,kj,x⟩:=own k ds q
   obtain⟨ki',kj',x'⟩:=own k' ds' q'
   rw[S6 k kj]at e
   rw[S6 k' kj']at e'
   exact R5.inj k k' b ⟨ds,by rw[E1 k ki];exact x⟩ ⟨ds',by rw[E1 k' ki'];exact x'⟩ e e'
 have F6f:Frm σ H0 F0 env ((σ0.set i (some (V.ref p))).set j (some (.ref p2))) H8 F6 (e1.set j (.fz (.tup [.int n,.lst es]))):=by
  refine⟨fun b o hb=>f6 b o (ff.fz _ _ hb) (fun z=>by have:=sub0 _ _ hb;rw[z,na]at this;cases this),fun b o hb fb w=>?_,fun k ds q=>?_,fun b hb=>?_⟩
  ·obtain⟨x1,x2,x3⟩:=ff.hid b o hb fb w
   have ba:b≠a:=fun z=>by rw[z,na]at hb;cases hb
   refine⟨h8 b o x1 ba,?_,fun⟨k,ds,q,e⟩=>x3 ?_⟩
   ·show upd (upd G l (.lst xs)) p2 (.tup [.int n,.ref l]) b=none
    rw[a7 (p5 b _ x1),a7 (l5 b _ x1),gne b ba]
    exact x2
   ·obtain⟨ki,kj,q'⟩:=own k ds (.inl q)
    rw[E6 k kj]at q
    rw[S6 k kj]at e
    exact⟨k,ds,by rw[E1 k ki];exact q,e⟩
  ·obtain⟨y1,y2⟩:=ff.keep k ds q
   have ki:k≠i:=fun z=>by
    rw[z,List.getElem?_set_self (by rw[← R1.len];exact li)]at y1;cases y1
   rw[E1 k ki]at y1
   have kj:k≠j:=fun z=>by rw[z,hj]at y1;cases y1
   exact⟨by rw[E6 k kj];exact y1,by rw[S6 k kj];exact y2⟩
  ·have hb:upd (upd (upd H5 l (.lst xs)) p2 (.tup [.int n,.ref l])) a (.lst (xs++[.non])) b=none:=hb
   by_cases z:b=a
   ·rw[z,d5]at hb;cases hb
   ·rw[a7 z]at hb
    by_cases z2:b=p2
    ·rw[z2,d5]at hb;cases hb
    ·rw[a7 z2]at hb
     by_cases zl:b=l
     ·rw[zl,d5]at hb;cases hb
     ·rw[a7 zl]at hb
      exact ff.dom b hb
 exact hr N _ H8 _ F6 R6 (h.from F6f)
end
section
variable {K:W.Frag}{cl:Str→Addr}{E:XK}
theorem a0O{c:BF}{e e2:DE}{b:Bool}(h:B0 c e=some (.ok b e2)):e2=e:=by
 unfold B0 at h
 split at h
 ·cases h;rfl
 ·cases h
 ·cases h
theorem b0F{i j:Nat}{g:List D→Option R1}{t:TA}{f:AF}{t1 t2 t3:TT}{c1 c2 c3:BF}{tr:TS}{g9:SF}(hf:M7 K cl E t f)(h1':G3 K cl E t1 c1)(h2':G3 K cl E t2 c2)(h3':G3 K cl E t3 c3)(hr:RfS K cl E tr g9) :
  RfS K cl E (B9 (W9 (R8 (i6 K cl g) [] E t) (Q9 i)) (B9 (a0p t1 (T9 (tC (.bl false))) V7) (B9 (a0p t2 (T9 (tC (.bl false))) V7) (B9 (a0p t3 (T9 (tC (.bl false))) V7) (B9 (a2e K i j) (B9 (a1d K i) tr)))))) (a2d i j g f c1 c2 c3 g9):=by
 intro N σ H env F R h
 refine hf σ H _ env F R ((Cs.bnd h).mono fun vs H1 ⟨F1,e1,ds,fr,R1,p1,h1⟩=>?_)
 show i6 K cl g (vs++[]) H1 _ E
 rw[List.append_nil]
 refine⟨ds,F1,R1.sub,p1,?_⟩
 split at h1
 ·rename_i n es q;rw[q]
  intro p a xs H' F' gr hp ht fp ha hH hF r
  split at h1
  ·rename_i qi qj
   obtain⟨g1,g2,sF,ga,pa⟩:=a5f (K:=K) (cl:=cl) gr hp ht fp ha hH hF r
   have hi:i<e1.length:=(List.getElem?_eq_some_iff.mp qi).1
   have nh:∀ds,e1[i]?≠some (.hd ds):=fun ds y=>by rw[qi]at y;cases y
   have R3:=(R1.gr g1).put hi nh g2
   have fr3:=(fr.trans (R1.frm g1)).trans (Frm.put (i:=i) (d:=.tup [.int n,.lst es]) (x:=some (V.ref p)) nh)
   refine(a1D h1') _ H' _ _ _ R3 ?_
   cases qc:B0 c1 (e1.set i (.fz (.tup [.int n,.lst es])))with
   | none=>rw[qc]at h1;exact h1.elim
   | some r1 =>
    rw[qc]at h1
    cases r1 with
    | ex c=>exact h1.elim
    | ok b3 e3 =>
     have ee:=a0O qc
     subst ee
     intro b' H3 F3 f3 R3' pb
     have pb:b'=b3:=pb
     subst pb
     cases b' with
     | true=>exact h1 _ H3 F3 ((fr3.trans f3).toFX R3'.sub) (by simp only[Rp])
     | false =>
      show B9 (a0p t2 (T9 (tC (.bl false))) V7) (B9 (a0p t3 (T9 (tC (.bl false))) V7) (B9 (a2e K i j) (B9 (a1d K i) tr))) N _ H3
      simp only at h1
      refine(a1D h2') _ H3 _ _ F3 R3' ?_
      cases qc2:B0 c2 (e1.set i (.fz (.tup [.int n,.lst es])))with
      | none=>rw[qc2]at h1;exact h1.elim
      | some r1 =>
       rw[qc2]at h1
       cases r1 with
       | ex c=>exact h1.elim
       | ok b4 e4 =>
        have ee:=a0O qc2
        subst ee
        intro b' H4 F4 f4 R4 pb
        have pb:b'=b4:=pb
        subst pb
        cases b' with
        | true=>exact h1 _ H4 F4 (((fr3.trans f3).trans f4).toFX R4.sub) (by simp only[Rp])
        | false =>
         show B9 (a0p t3 (T9 (tC (.bl false))) V7) (B9 (a2e K i j) (B9 (a1d K i) tr)) N _ H4
         simp only at h1
         refine(a1D h3') _ H4 _ _ F4 R4 ?_
         cases qc3:B0 c3 (e1.set i (.fz (.tup [.int n,.lst es])))with
         | none=>rw[qc3]at h1;exact h1.elim
         | some r1 =>
          rw[qc3]at h1
          cases r1 with
          | ex c=>exact h1.elim
          | ok b5 e5 =>
           have ee:=a0O qc3
           subst ee
           intro b' H5 F5 f5 R5 pb
           have pb:b'=b5:=pb
           subst pb
           cases b' with
           | true=>exact h1 _ H5 F5 ((((fr3.trans f3).trans f4).trans f5).toFX R5.sub) (by simp only[Rp])
           | false =>
            show B9 (a2e K i j) (B9 (a1d K i) tr) N _ H5
            simp only at h1
            split at h1
            ·rename_i hc
             have sF5:=(f3.fz.trans f4.fz).trans f5.fz
             exact a8o hc.1 qi qj (by rw[← r.length];exact hc.2.1) hc.2.2 R1 gr.fz hF r (sF.trans sF5) (sF5 _ _ ga) (sF5 _ _ d5) R5 (((fr3.trans f3).trans f4).trans f5) (fr.dom a ha) R.sub hr h1
            ·exact h1.elim
  ·exact h1.elim
 ·rename_i c q;rw[q]
  exact fun H' F' gr=>h1 H' F' (fr.fx gr.fx)
 ·exact h1.elim
end
end L2
namespace Law
open PySem L2 PyProof.Rows
def top(i:Nat):Stmt:=PySem.Challenge.pw_cratefit_k53_whole_shelves_are_low.main.body.getD i (.Pass ⟨0,0,0,0⟩)
abbrev y0:Stmt:=top 5
abbrev C3:Stmt:=top 10
abbrev y4:Stmt:=top 11
abbrev y6:Stmt:=a2s (top 7) 0
abbrev p9:Stmt:=a2s (top 8) 0
abbrev l3:Stmt:=a2s (top 9) 0
abbrev K8:Stmt:=top 12
abbrev K9:Stmt:=top 14
abbrev O0:Stmt:=top 15
abbrev O1:Stmt:=top 16
abbrev O2:Stmt:=top 17
abbrev C4:Stmt:=top 18
abbrev A8:Stmt:=top 19
abbrev O3:Stmt:=top 20
abbrev O4:Stmt:=top 21
abbrev B1:Stmt:=top 22
abbrev t8:Stmt:=top 23
variable {P:Program}{w:World}{K:PySem.W.Frag}{mg:Str→Option Value}{base:Heap}{c:Str→Addr}
structure Txt(K:PySem.W.Frag)(mg:Str→Option Value)(c:Str→Addr):Prop where
 z_bool:mg "bool" = none
 z_enumerate:mg "enumerate" = none
 z_int:mg "int" = none
 z_isinstance:mg "isinstance" = none
 z_len:mg "len" = none
 z_list:mg "list" = none
 z_max:mg "max" = none
 z_min:mg "min" = none
 z_range:mg "range" = none
 z_sorted:mg "sorted" = none
 z_sum:mg "sum" = none
 z_tuple:mg "tuple" = none
 m_BestShelver:mg "BestShelver" = some (.ref (c "BestShelver"))
 m_FirstShelver:mg "FirstShelver" = some (.ref (c "FirstShelver"))
 m_NoPicker:mg "NoPicker" = some (.ref (c "NoPicker"))
 m_Shelver:mg "Shelver" = some (.ref (c "Shelver"))
 x_NoPicker:PySem.W.excIn K (c "NoPicker") a3R "ValueError.__new__" = true
 cl_Shelver:Cls K (c "Shelver")
 cl_FirstShelver:Cls K (c "FirstShelver")
 cl_BestShelver:Cls K (c "BestShelver")
 mk_BestShelver:PySem.W.makesIn K (c "BestShelver")=true
 in_BestShelver:PySem.W.findIn K (.ref (c "BestShelver")) "__init__" = some (some (.builtin "object.__init__"))
 kc_BestShelver:PySem.W.keepIn K (.ref (c "BestShelver"))=true
 mk_FirstShelver:PySem.W.makesIn K (c "FirstShelver")=true
 in_FirstShelver:PySem.W.findIn K (.ref (c "FirstShelver")) "__init__" = some (some (.builtin "object.__init__"))
 kc_FirstShelver:PySem.W.keepIn K (.ref (c "FirstShelver"))=true
 mk_Shelver:PySem.W.makesIn K (c "Shelver")=true
 in_Shelver:PySem.W.findIn K (.ref (c "Shelver")) "__init__" = some (some (.builtin "object.__init__"))
 kc_Shelver:PySem.W.keepIn K (.ref (c "Shelver"))=true
def V4(g0 g1 g2:List D→Option R1):Str→Option (List D→Option R1):=fun n=>if n = "Shelver" then some g0 else if n = "FirstShelver" then some g1 else if n = "BestShelver" then some g2 else none
theorem b0G{X:Cx}{E:XK}{k:Nat}{g0 g1 g2:List D→Option R1}(hr:Room k X.A)(hx:L7 (n4 X.prog X.w) X E)(h_Shelver:∃k' ps,k'≤k∧OwnM X.prog X.w X.K X.mg X.base k' (c "Shelver") "pick" ps (i6 X.K c g0))(h_FirstShelver:∃k' ps,k'≤k∧OwnM X.prog X.w X.K X.mg X.base k' (c "FirstShelver") "pick" ps (i6 X.K c g1))(h_BestShelver:∃k' ps,k'≤k∧OwnM X.prog X.w X.K X.mg X.base k' (c "BestShelver") "pick" ps (i6 X.K c g2)):a3Y X (TR X.K c (V4 g0 g1 g2)) "pick" E:=a6q hr hx (by
 rintro C sp ⟨n,g,h,rfl,rfl⟩
 unfold V4 at h
 split at h
 ·rename_i z;subst z;cases h;exact h_Shelver
 split at h
 ·rename_i z;subst z;cases h;exact h_FirstShelver
 split at h
 ·rename_i z;subst z;cases h;exact h_BestShelver
 cases h)
def a4O:SF:=(a5K (a0M [0] (aC (C0 t6 0) aN) (eT (aC (eU a0C (eB d9 (L9 D4 1 (eV 0)) (eC (.int 1)))) (aC (eU a0C (eB d9 (L9 D4 1 (eV 0)) (eC (.int 0)))) (aC (eV 0) aN))))))
def r6:List D→Option R1:=fD 1 1 a4O
theorem a4l:FnScope ["wares"] ["wares"] (a8 y0):=⟨rfl,rfl,rfl,by decide +kernel,rfl,by decide +kernel,by decide +kernel⟩
theorem a4m{TB:List (Addr×Str)}{f:Addr}{fd:FuncData}(F:Fun K "by_height" "by_height" y0 f fd)(T:Txt K mg c)  {cc Pt:Addr} (hcode:fd.code=.ref cc) (hC:PySem.W.CodeHd base cc Pt) (hB:base.BuiltinsAt mg Pt) (hL:TB.lookup Pt=some "by_height.<locals>.<lambda>"):FnOk P w K mg base (n4 P w) 3 f fd ["wares"] (U5 TB (i6 K c r6)) :=
 F.okT (k:=2) a4l fun A outer s H E hT hr=>⟨_,(g7 (j6 (a7Q (Nc:=["k","wares"]) (js:=[0]) (kn := "k") (q := "by_height.<locals>.<lambda>") hr rfl rfl T.z_sorted rfl T.z_range (a6 (k6 (j9 (K:=K)) rfl T.z_len E3 (a6 (pv 0) c6)) c6) rfl hcode hC hB rfl (hT _ _ hL) ⟨by decide +kernel,rfl,by decide +kernel,(by change ∀y∈Scope.names _,y.2=NameKind.free→(a8 y0).names.lookup y.1=some .cell∨(a8 y0).names.lookup y.1=some .free;decide +kernel),by decide +kernel,rfl,rfl,by decide +kernel⟩ rfl rfl (fun _ _ _ _ _=>rfl) rfl rfl (fun _ _ _ _=>(L6 (a6 (a5o a3H (h9 (g5 (K:=K)) (h9 (C9 (K:=K)) (pv 1) (pv 0) (fun _ _=>rfl)) a9 (fun _ _=>rfl))) (a6 (a5o a3H (h9 (g5 (K:=K)) (h9 (C9 (K:=K)) (pv 1) (pv 0) (fun _ _=>rfl)) a9 (fun _ _=>rfl))) (a6 (pv 0) c6)))))))),(a9E (a8m (by decide) (d6 (K2 E5) i1) (a1w (d6 (a7T a35 (b0 i4 (M0 M1 c7) b9)) (d6 (a7T a35 (b0 i4 (M0 M1 c7) b9)) (d6 c7 i1))))))⟩
def a0P:SF:=(d7 (C7 (bZ (eB (C1 false) (eV 0) (eC (.str "next")))) (m4 (a3B "Shelver")) C6) (d7 (C7 (bZ (eB (C1 false) (eV 0) (eC (.str "first")))) (m4 (a3B "FirstShelver")) C6) (d7 (C7 (bZ (eB (C1 false) (eV 0) (eC (.str "best")))) (m4 (a3B "BestShelver")) C6) (a37 "NoPicker" (aC (eC (.str "a picker is next, first or best")) aN)))))
def A0:List D→Option R1:=fD 1 1 a0P
theorem a3k:FnScope ["word"] ["word"] (a8 C3):=⟨rfl,rfl,rfl,by decide +kernel,rfl,by decide +kernel,by decide +kernel⟩
seal PSs PS PE PA PT
theorem a3l{f:Addr}{fd:FuncData}(F:Fun K "shelver_of" "shelver_of" C3 f fd)(T:Txt K mg c)  : FnOk P w K mg base (n4 P w) 3 f fd ["word"] (i6 K c A0) :=
 F.okD (k:=2) a3k fun cdv A outer s H E hr=>⟨_,(c9 (A2 (j5 R7 (pv 0) a0n (i7 _)) (g7 (j6 (a1q T.mk_Shelver T.in_Shelver T.kc_Shelver T.m_Shelver))) p8) (c9 (A2 (j5 R7 (pv 0) a0n (i7 _)) (g7 (j6 (a1q T.mk_FirstShelver T.in_FirstShelver T.kc_FirstShelver T.m_FirstShelver))) p8) (c9 (A2 (j5 R7 (pv 0) a0n (i7 _)) (g7 (j6 (a1q T.mk_BestShelver T.in_BestShelver T.kc_BestShelver T.m_BestShelver))) p8) (g7 (a7C T3 T.x_NoPicker rfl T.m_NoPicker (a6 a0n c6)))))),(h7 (z9 (r0 (b0 S3 c7 b9)) (n9 a2K) D5) (h7 (z9 (r0 (b0 S3 c7 b9)) (n9 a2K) D5) (h7 (z9 (r0 (b0 S3 c7 b9)) (n9 a2K) D5) (a7V (d6 b9 i1)))))⟩
def a2O:SF:=(P9 1 (w6 [(c8 2),(c8 3)]) (C7 (bZ (eB gGt (eB d9 (eV 3) (eC (.int 0))) (eV 0))) a5V C6))
def y8:List D→Option R1:=fD 4 2 a2O
theorem M4:FnScope ["width","wares","k","ware"] ["width","wares"] (a8 y4):=⟨rfl,rfl,rfl,by decide +kernel,rfl,by decide +kernel,by decide +kernel⟩
theorem a2f{f:Addr}{fd:FuncData}(F:Fun K "check_widths" "check_widths" y4 f fd)(T:Txt K mg c)  : FnOk P w K mg base (n4 P w) 3 f fd ["width","wares"] (i6 K c y8) :=
 F.okD (k:=2) M4 fun cdv A outer s H E hr=>⟨_,(g7 (X4 PassesOwn.leaving rfl (a2v rfl T.z_enumerate (a6 (pv 1) c6)) (a0Y (K:=K) (n:=2) rfl (C8 (m5 (i:=2) M4.nd rfl (Or.inl rfl)) (C8 (m5 (i:=3) M4.nd rfl (Or.inl rfl)) a0T))) (g7 (A2 (j5 a1K (h9 (g5 (K:=K)) (pv 3) a9 (fun _ _=>rfl)) (pv 0) (i7 _)) (g7 b0C) p8)))),(a4a (a03 (D6 (k9 (k:=4) (by decide)) (D6 (k9 (k:=4) (by decide)) a02)) rfl) (z9 (r0 (b0 a14 (b0 i4 c7 b9) c7)) b0D D5))⟩
def Y3:SF:=(m4 (eIf (a7R (bZ (eB gGt (C0 t6 1) (eC (.int 0)))) (bZ (eB gGe (L9 D4 1 (eU a0C (eC (.int 1)))) (eV 2)))) (eB O7 (C0 t6 1) (eC (.int 1))) (eC .non)))
def n5:List D→Option R1:=fD 3 3 Y3
theorem a2g:FnScope ["self","rooms","w"] ["self","rooms","w"] (a8 y6):=⟨rfl,rfl,rfl,by decide +kernel,rfl,by decide +kernel,by decide +kernel⟩
theorem a2h{f:Addr}{fd:FuncData}(F:Fun K "pick" "Shelver.pick" y6 f fd)(T:Txt K mg c)  : FnOk P w K mg base (n4 P w) 3 f fd ["self","rooms","w"] (i6 K c n5) :=
 F.okD (k:=2) a2g fun cdv A outer s H E hr=>⟨_,(g7 (j6 (a3E (PW.pt (b04 (j5 a1K (k6 (j9 (K:=K)) rfl T.z_len E3 (a6 (pv 1) c6)) a9 (i7 _)) (a9d (j5 a5s (h9 (C9 (K:=K)) (pv 1) (a5o a3H a9) (fun _ _=>rfl)) (pv 2) (i7 _))))) (i0 a1J (k6 (j9 (K:=K)) rfl T.z_len E3 (a6 (pv 1) c6)) a9) L3))),(n9 (a8Z (a9z (r0 (b0 a14 (K2 E5) b9)) (r0 (b0 a5H (M0 M1 (a7T a35 b9)) c7))) (b0 a13 (K2 E5) b9) b9))⟩
def a0l:SF:=(d7 (P9 1 (w6 [(c8 3),(c8 4)]) (C7 (bZ (eB gGe (eV 4) (eV 2))) (Z4 3) C6)) (m4 (eC .non)))
def j8:List D→Option R1:=fD 5 3 a0l
theorem D8:FnScope ["self","rooms","w","number","room"] ["self","rooms","w"] (a8 p9):=⟨rfl,rfl,rfl,by decide +kernel,rfl,by decide +kernel,by decide +kernel⟩
theorem a0f{f:Addr}{fd:FuncData}(F:Fun K "pick" "FirstShelver.pick" p9 f fd)(T:Txt K mg c)  : FnOk P w K mg base (n4 P w) 3 f fd ["self","rooms","w"] (i6 K c j8) :=
 F.okD (k:=2) D8 fun cdv A outer s H E hr=>⟨_,(c9 (X4 PassesOwn.leaving rfl (a2v rfl T.z_enumerate (a6 (pv 1) c6)) (a0Y (K:=K) (n:=2) rfl (C8 (m5 (i:=3) D8.nd rfl (Or.inl rfl)) (C8 (m5 (i:=4) D8.nd rfl (Or.inl rfl)) a0T))) (g7 (A2 (j5 a5s (pv 4) (pv 2) (i7 _)) (g7 (j6 (pv 3))) p8))) (g7 (j6 L3))),(h7 (a4a (a03 (D6 (k9 (k:=5) (by decide)) (D6 (k9 (k:=5) (by decide)) a02)) rfl) (z9 (r0 (b0 a5H c7 c7)) a48 D5)) (n9 b9))⟩
def a0Q:SF:=(d7 (x9 3 (a1b 1 2 [2] (w6 [(c8 0),(c8 1)]) (bZ (eB gGe (eV 1) (eV 2))) (eT (aC (eV 1) (aC (eV 0) aN))))) (m4 (eIf (bZ (eB gGt (C0 t6 3) (eC (.int 0)))) (eB d9 (C0 Y1 3) (eC (.int 1))) (eC .non))))
def l4:List D→Option R1:=fD 4 3 a0Q
theorem M9:FnScope ["self","rooms","w","wide"] ["self","rooms","w"] (a8 l3):=⟨rfl,rfl,rfl,by decide +kernel,rfl,by decide +kernel,by decide +kernel⟩
theorem a0m{f:Addr}{fd:FuncData}(F:Fun K "pick" "BestShelver.pick" l3 f fd)(T:Txt K mg c)  : FnOk P w K mg base (n4 P w) 3 f fd ["self","rooms","w"] (i6 K c l4) :=
 F.okD (k:=2) M9 fun cdv A outer s H E hr=>⟨_,(c9 (a1U (i:=3) (Nc:=["number","room","w"]) (k:=2) (js:=[2]) rfl ⟨by decide +kernel,rfl,by decide +kernel,(by change ∀y∈Scope.names _,y.2=NameKind.free→(a8 l3).names.lookup y.1=some .cell∨(a8 l3).names.lookup y.1=some .free;decide +kernel),by decide +kernel,rfl,rfl,by decide +kernel⟩ M9.nd rfl (a2v rfl T.z_enumerate (a6 (pv 1) c6)) (fun _ _ _ _ _=>(a0Y (K:=K) (n:=2) rfl (C8 (m5 (i:=0) (by show List.Nodup [("number" : Str),("room" : Str),("w" : Str)];decide +kernel) rfl (Or.inl rfl)) (C8 (m5 (i:=1) (by show List.Nodup [("number" : Str),("room" : Str),("w" : Str)];decide +kernel) rfl (Or.inl rfl)) a0T)))) (fun _ _ _ _ _=>(b1r (j5 a5s (pv 1) (pv 2) (i7 _)))) (fun _ _ _ _ _=>(L6 (a6 (pv 1) (a6 (pv 0) c6))))) (g7 (j6 (a3E (j5 a1K (k6 (j9 (K:=K)) rfl T.z_len E3 (a6 (pv 3) c6)) a9 (i7 _)) (h9 (g5 (K:=K)) (k6 (a4N (K:=K) (hu1 hr)) rfl T.z_min b17 (a6 (pv 3) c6)) a9 (fun _ _=>rfl)) L3)))),(h7 (a19 (a63 (by decide) (a03 (D6 (k9 (k:=2) (by decide)) (D6 (k9 (k:=2) (by decide)) a02)) rfl) (r0 (b0 a5H c7 c7)) (a1w (d6 c7 (d6 c7 i1))))) (n9 (a8Z (r0 (b0 a14 (K2 E5) b9)) (b0 i4 (K2 a8k) b9) b9)))⟩
def a65:SF:=(d7 (a3w 3 A0 (aC (eV 2) aN)) (d7 (sEx (a3u y8 (aC (eV 0) (aC (eV 1) aN)))) (d7 (x9 4 (eL aN)) (d7 (x9 5 (eL aN)) (d7 (u5 6 (eC (.int 0))) (d7 (x9 7 (nB a2A (zN (eL (aC (eC .non) aN))) (C0 t6 1))) (d7 (a3_ (i8 r6 (aC (eV 1) aN))  (c8 8) (d7 (a5N (L9 D4 1 (eV 8)) (w6 [(c8 9),(c8 10),(c8 11)])) (d7 (u5 12 (a2b (V4 n5 j8 l4) "pick" (eV 3) (aC (zN (nCV W2 4)) (aC (eV 9) aN)))) (d7 (C7 (bZ (eB (a1x false) (eV 12) (eC .non))) (d7 (u5 12 (C0 t6 4)) (d7 (N5 4 (eV 0)) (d7 (N5 5 (eV 6)) (a2F 6 (fun i j=>i+j) (eV 10))))) C6) (d7 (a5L 7 (eV 8) (eT (aC (eB O7 (eV 0) (L9 D4 4 (eV 12))) (aC (L9 D4 5 (eV 12)) (aC (eC (.bl false)) aN))))) (a2a 4 (eV 12) (fun i j=>i-j) (eV 9))))))) (a1c 6 7))))))))
def y3:List D→Option R1:=fD 13 3 a65
theorem n8:FnScope ["width","wares","word","shelver","rooms","floors","height","places","k","w","h","turns","number"] ["width","wares","word"] (a8 K8):=⟨rfl,rfl,rfl,by decide +kernel,rfl,by decide +kernel,by decide +kernel⟩
theorem a5W{TB:List (Addr×Str)}{f:Addr}{fd:FuncData}{dT:Addr}(F:FunD K "shelved" "shelved" K8 dT f fd)(T:Txt K mg c)(G_shelver_of:Own P w K mg base 3 "shelver_of" ["word"] (i6 K c A0))(G_check_widths:Own P w K mg base 3 "check_widths" ["width","wares"] (i6 K c y8))(G_by_height:Own P w K mg base 3 "by_height" ["wares"] (U5 TB (i6 K c r6)))(OM_Shelver_pick:OwnM P w K mg base 3 (c "Shelver") "pick" ["self","rooms","w"] (i6 K c n5))(OM_FirstShelver_pick:OwnM P w K mg base 3 (c "FirstShelver") "pick" ["self","rooms","w"] (i6 K c j8))(OM_BestShelver_pick:OwnM P w K mg base 3 (c "BestShelver") "pick" ["self","rooms","w"] (i6 K c l4)):FnOk P w K mg base (n4 P w) 5 f fd ["width","wares","word"] (U5 TB (i6 K c y3)) :=
 F.okT (k:=4) n8 fun A outer s H E hT hr=>⟨_,(c9 (m8 (i:=3) n8.nd rfl (Or.inl rfl) (t9 G_shelver_of hr (by decide) (XAcc.passes T3) (a6 (pv 2) c6))) (c9 (N0 (t9 G_check_widths hr (by decide) (XAcc.passes T3) (a6 (pv 0) (a6 (pv 1) c6)))) (c9 (m8 (i:=4) n8.nd rfl (Or.inl rfl) (a0u c6)) (c9 (m8 (i:=5) n8.nd rfl (Or.inl rfl) (a0u c6)) (c9 (m8 (i:=6) n8.nd rfl (Or.inl rfl) a9) (c9 (m8 (i:=7) n8.nd rfl (Or.inl rfl) (i0 b1n (a0u (a6 L3 c6)) (k6 (j9 (K:=K)) rfl T.z_len E3 (a6 (pv 1) c6)))) (c9 (X4 PassesOwn.leaving rfl (E9 (a2N hT G_by_height hr (by decide) x6 (a6 (pv 1) c6))) (m5 (i:=8) n8.nd rfl (Or.inl rfl)) (c9 (a55 (h9 (C9 (K:=K)) (pv 1) (pv 8) (fun _ _=>rfl)) (a0Y (K:=K) (n:=3) rfl (C8 (m5 (i:=9) n8.nd rfl (Or.inl rfl)) (C8 (m5 (i:=10) n8.nd rfl (Or.inl rfl)) (C8 (m5 (i:=11) n8.nd rfl (Or.inl rfl)) a0T))))) (c9 (m8 (i:=12) n8.nd rfl (Or.inl rfl) (a7H (pv 3) (b0G hr (XAcc.passes T3) ⟨_,_,(by decide),OM_Shelver_pick⟩ ⟨_,_,(by decide),OM_FirstShelver_pick⟩ ⟨_,_,(by decide),OM_BestShelver_pick⟩) (a6 (V8 (Q1 (K:=K)) rfl T.z_list a0W (a6 (pv 4) c6)) (a6 (pv 9) c6)))) (c9 (A2 (j5 a6a (pv 12) L3 (i7 _)) (c9 (m8 (i:=12) n8.nd rfl (Or.inl rfl) (k6 (j9 (K:=K)) rfl T.z_len E3 (a6 (pv 4) c6))) (c9 (N0 (X6 (K:=K) PySem.F.plainAttrs_list PySem.F.slot_list_append PySem.F.type_list_append G5 (pv 4) (a6 (pv 0) c6))) (c9 (N0 (X6 (K:=K) PySem.F.plainAttrs_list PySem.F.slot_list_append PySem.F.type_list_append G5 (pv 5) (a6 (pv 6) c6))) (g7 (b1a (i:=6) n8.nd rfl (Or.inl rfl) (pv 10) b1c))))) p8) (c9 (a55 (L6 (a6 (i0 a1J (pv 0) (h9 (C9 (K:=K)) (pv 4) (pv 12) (fun _ _=>rfl))) (a6 (h9 (C9 (K:=K)) (pv 5) (pv 12) (fun _ _=>rfl)) (a6 V6 c6)))) (b09 (pv 7) (pv 8) a3L)) (g7 (a9e (pv 4) (pv 12) (a6o (K:=K)) (pv 9) b1d a3L))))))) (g7 (j6 (L6 (a6 (pv 6) (a6 (pv 7) c6)))))))))))),(h7 (a9F (d6 c7 i1)) (h7 (b2S (a9D (d6 c7 (d6 c7 i1)))) (h7 (N6 (a34 i1)) (h7 (N6 (a34 i1)) (h7 (E7 b9) (h7 (N6 (b2Q b1V (O6 (a34 (d6 b9 i1))) (K2 E5))) (h7 (b1Y (r9 (d6 c7 i1)) (k9 (k:=13) (by decide)) (h7 (b1X (M0 M1 c7) (a03 (D6 (k9 (k:=13) (by decide)) (D6 (k9 (k:=13) (by decide)) (D6 (k9 (k:=13) (by decide)) a02))) rfl)) (h7 (E7 (b0A c7 (d6 (O6 (a6E a47)) (d6 c7 i1)))) (h7 (z9 (r0 (b0 a6G c7 b9)) (h7 (E7 (K2 E5)) (h7 (a0G c7) (h7 (a0G c7) (b18 c7)))) D5) (h7 (b1W (a1w (d6 (b0 a13 c7 (M0 M1 c7)) (d6 (M0 M1 c7) (d6 b9 i1)))) c7) (b0z c7 c7)))))) b0E)))))))⟩
def a3a:SF:=(m4 (a2z (S8 0 "int") (a7S (S8 0 "bool"))))
def t4:List D→Option R1:=fD 1 1 a3a
theorem a5X:FnScope ["_law_found"] ["_law_found"] (a8 K9):=⟨rfl,rfl,rfl,by decide +kernel,rfl,by decide +kernel,by decide +kernel⟩
theorem a5Y{f:Addr}{fd:FuncData}(F:Fun K "_law_whole" "_law_whole" K9 f fd)(T:Txt K mg c)  : FnOk P w K mg base (n4 P w) 3 f fd ["_law_found"] (i6 K c t4) :=
 F.okD (k:=2) a5X fun cdv A outer s H E hr=>⟨_,(g7 (j6 (a1G (k6 (P5 (K:=K)) rfl T.z_isinstance E2 (a6 (pv 0) (a6 (X3 (v:=.ty "int") rfl T.z_int b1q rfl) c6))) (a3D (b05 (k6 (P5 (K:=K)) rfl T.z_isinstance E2 (a6 (pv 0) (a6 (X3 (v:=.ty "bool") rfl T.z_bool a9q rfl) c6)))))))),(n9 (a11 a08 (b1R a08)))⟩
def a4n:SF:=(d7 (C7 (bZ (eB gLt (eV 1) (C0 t6 0))) (m4 (L9 D4 0 (eV 1))) C6) (m4 (eC (.int 0))))
def B4:List D→Option R1:=fD 2 2 a4n
theorem a66:FnScope ["_law_script","_law_k"] ["_law_script","_law_k"] (a8 O0):=⟨rfl,rfl,rfl,by decide +kernel,rfl,by decide +kernel,by decide +kernel⟩
theorem a67{f:Addr}{fd:FuncData}(F:Fun K "_law_cell" "_law_cell" O0 f fd)(T:Txt K mg c)  : FnOk P w K mg base (n4 P w) 3 f fd ["_law_script","_law_k"] (i6 K c B4) :=
 F.okD (k:=2) a66 fun cdv A outer s H E hr=>⟨_,(c9 (A2 (j5 Y4 (pv 1) (k6 (j9 (K:=K)) rfl T.z_len E3 (a6 (pv 0) c6)) (i7 _)) (g7 (j6 (h9 (C9 (K:=K)) (pv 0) (pv 1) (fun _ _=>rfl)))) p8) (g7 (j6 a9))),(h7 (z9 (r0 (b0 Z2 c7 (K2 E5))) (n9 (M0 M1 c7)) D5) (n9 b9))⟩
def a1F:SF:=(d7 (C7 (bZ (eB (C1 false) (eB A4 (eV 0) (eC (.int 4))) (eC (.int 3)))) (m4 (eB D3 (eC (.int 1)) (eB A4 (eB z8 (eV 0) (eC (.int 4))) (eB J7 (eC (.int 10)) (eC (.int 40)))))) C6) (m4 (eB D3 (eC (.int 1)) (eB A4 (eB z8 (eV 0) (eC (.int 4))) (eC (.int 9))))))
def D9:List D→Option R1:=fD 1 1 a1F
theorem a68:FnScope ["_law_cell_here"] ["_law_cell_here"] (a8 O1):=⟨rfl,rfl,rfl,by decide +kernel,rfl,by decide +kernel,by decide +kernel⟩
theorem a69{f:Addr}{fd:FuncData}(F:Fun K "_law_side" "_law_side" O1 f fd)(T:Txt K mg c)  : FnOk P w K mg base (n4 P w) 3 f fd ["_law_cell_here"] (i6 K c D9) :=
 F.okD (k:=2) a68 fun cdv A outer s H E hr=>⟨_,(c9 (A2 (j5 R7 (i0 G4 (pv 0) a9) a9 (i7 _)) (g7 (j6 (i0 J9 a9 (i0 G4 (i0 z0 (pv 0) a9) (i0 P4 a9 a9))))) p8) (g7 (j6 (i0 J9 a9 (i0 G4 (i0 z0 (pv 0) a9) a9))))),(h7 (z9 (r0 (b0 S3 (b0 J1 c7 b9) b9)) (n9 (b0 K0 b9 (b0 J1 (b0 J0 c7 b9) (b0 P7 b9 b9)))) D5) (n9 (b0 K0 b9 (b0 J1 (b0 J0 c7 b9) b9))))⟩
def a8p:SF:=(m4 (eT (aC (i8 D9 (aC (eV 0) aN)) (aC (i8 D9 (aC (eB D3 (eB z8 (eV 0) (eC (.int 3))) (eC (.int 1))) aN)) (aC (eB (C1 false) (eB A4 (eB z8 (eV 0) (eC (.int 5))) (eC (.int 2))) (eC (.int 0))) aN)))))
def B5:List D→Option R1:=fD 1 1 a8p
theorem a6_:FnScope ["_law_cell_here"] ["_law_cell_here"] (a8 O2):=⟨rfl,rfl,rfl,by decide +kernel,rfl,by decide +kernel,by decide +kernel⟩
theorem a7a{f:Addr}{fd:FuncData}(F:Fun K "_law_ware" "_law_ware" O2 f fd)(T:Txt K mg c)(G_l_side:Own P w K mg base 3 "_law_side" ["_law_cell_here"] (i6 K c D9)):FnOk P w K mg base (n4 P w) 5 f fd ["_law_cell_here"] (i6 K c B5) :=
 F.okD (k:=4) a6_ fun cdv A outer s H E hr=>⟨_,(g7 (j6 (L6 (a6 (t9 G_l_side hr (by decide) x6 (a6 (pv 0) c6)) (a6 (t9 G_l_side hr (by decide) x6 (a6 (i0 J9 (i0 z0 (pv 0) a9) a9) c6)) (a6 (K5 R7 (i0 G4 (i0 z0 (pv 0) a9) a9) a9 (i7 _)) c6)))))),(n9 (a1w (d6 (r9 (d6 c7 i1)) (d6 (r9 (d6 (b0 K0 (b0 J0 c7 b9) b9) i1)) (d6 (b0 S3 (b0 J1 (b0 J0 c7 b9) b9) b9) i1)))))⟩
def a4o:SF:=(d7 (u5 1 (eB z8 (eV 0) (eB J7 (eC (.int 10)) (eC (.int 40))))) (m4 (eT (aC (eB D3 (eC (.int 1)) (eB A4 (eV 0) (eB J7 (eC (.int 10)) (eC (.int 40))))) (aC (eB D3 (eC (.int 1)) (eB A4 (eV 1) (eB J7 (eC (.int 10)) (eC (.int 40))))) (aC (eB (C1 false) (eB A4 (eB z8 (eV 1) (eB J7 (eC (.int 10)) (eC (.int 40)))) (eC (.int 2))) (eC (.int 1))) aN))))))
def v5:List D→Option R1:=fD 2 1 a4o
theorem a0k:FnScope ["_law_cell_here","_law_rest"] ["_law_cell_here"] (a8 C4):=⟨rfl,rfl,rfl,by decide +kernel,rfl,by decide +kernel,by decide +kernel⟩
theorem a3m{f:Addr}{fd:FuncData}(F:Fun K "_law_any_ware" "_law_any_ware" C4 f fd)(T:Txt K mg c)  : FnOk P w K mg base (n4 P w) 3 f fd ["_law_cell_here"] (i6 K c v5) :=
 F.okD (k:=2) a0k fun cdv A outer s H E hr=>⟨_,(c9 (m8 (i:=1) a0k.nd rfl (Or.inl rfl) (i0 z0 (pv 0) (i0 P4 a9 a9))) (g7 (j6 (L6 (a6 (i0 J9 a9 (i0 G4 (pv 0) (i0 P4 a9 a9))) (a6 (i0 J9 a9 (i0 G4 (pv 1) (i0 P4 a9 a9))) (a6 (K5 R7 (i0 G4 (i0 z0 (pv 1) (i0 P4 a9 a9)) a9) a9 (i7 _)) c6))))))),(h7 (E7 (b0 J0 c7 (b0 P7 b9 b9))) (n9 (a1w (d6 (b0 K0 b9 (b0 J1 c7 (b0 P7 b9 b9))) (d6 (b0 K0 b9 (b0 J1 c7 (b0 P7 b9 b9))) (d6 (b0 S3 (b0 J1 (b0 J0 c7 (b0 P7 b9 b9)) b9) b9) i1))))))⟩
def a3n:SF:=(d7 (x9 1 (eL aN)) (d7 (Z6 0 (c8 2) (d7 (N5 1 (i8 v5 (aC (eV 2) aN))) (d7 (u5 3 (eB z8 (eB z8 (eB z8 (eV 2) (eB J7 (eC (.int 10)) (eC (.int 40)))) (eB J7 (eC (.int 10)) (eC (.int 40)))) (eC (.int 2)))) (C7 (bZ (eB (C1 false) (eB A4 (eV 3) (eC (.int 2))) (eC (.int 1)))) (N5 1 (i8 v5 (aC (eB z8 (eV 3) (eC (.int 2))) aN))) C6)))) (Z4 1)))
def t5:List D→Option R1:=fD 4 1 a3n
theorem J5:FnScope ["_law_cells","_law_found","_law_cell_here","_law_rest"] ["_law_cells"] (a8 A8):=⟨rfl,rfl,rfl,by decide +kernel,rfl,by decide +kernel,by decide +kernel⟩
theorem a2P{f:Addr}{fd:FuncData}(F:Fun K "_law_any_wares" "_law_any_wares" A8 f fd)(T:Txt K mg c)(G_l_any_ware:Own P w K mg base 3 "_law_any_ware" ["_law_cell_here"] (i6 K c v5)):FnOk P w K mg base (n4 P w) 5 f fd ["_law_cells"] (i6 K c t5) :=
 F.okD (k:=4) J5 fun cdv A outer s H E hr=>⟨_,(c9 (m8 (i:=1) J5.nd rfl (Or.inl rfl) (a0u c6)) (c9 (X4 PassesOwn.leaving rfl (E9 (pv 0)) (m5 (i:=2) J5.nd rfl (Or.inl rfl)) (c9 (N0 (X6 (K:=K) PySem.F.plainAttrs_list PySem.F.slot_list_append PySem.F.type_list_append G5 (pv 1) (a6 (t9 G_l_any_ware hr (by decide) x6 (a6 (pv 2) c6)) c6))) (c9 (m8 (i:=3) J5.nd rfl (Or.inl rfl) (i0 z0 (i0 z0 (i0 z0 (pv 2) (i0 P4 a9 a9)) (i0 P4 a9 a9)) a9)) (g7 (A2 (j5 R7 (i0 G4 (pv 3) a9) a9 (i7 _)) (g7 (N0 (X6 (K:=K) PySem.F.plainAttrs_list PySem.F.slot_list_append PySem.F.type_list_append G5 (pv 1) (a6 (t9 G_l_any_ware hr (by decide) x6 (a6 (i0 z0 (pv 3) a9) c6)) c6)))) p8))))) (g7 (j6 (pv 1))))),(h7 (N6 (a34 i1)) (h7 (a49 (k9 (k:=4) (by decide)) (h7 (a0G (r9 (d6 c7 i1))) (h7 (E7 (b0 J0 (b0 J0 (b0 J0 c7 (b0 P7 b9 b9)) (b0 P7 b9 b9)) b9)) (z9 (r0 (b0 S3 (b0 J1 c7 b9) b9)) (a0G (r9 (d6 (b0 J0 c7 b9) i1))) D5)))) a48))⟩
def a8q:SF:=(d7 (C7 (E4 (G7 (bZ (S8 1 "tuple"))) (E4 (bZ (eB (C1 true) (C0 t6 1) (eC (.int 3)))) (bZ (eB (a5U true) (eB d9 (eV 1) (eC (.int 2))) (eC (.bl false)))))) (m4 (eC .non)) C6) (d7 (C7 (E4 (G7 (bZ (i8 t4 (aC (eB d9 (eV 1) (eC (.int 0))) aN)))) (G7 (bZ (i8 t4 (aC (eB d9 (eV 1) (eC (.int 1))) aN))))) (m4 (eC .non)) C6) (m4 (eT (aC (eB d9 (eV 1) (eC (.int 0))) (aC (eB d9 (eV 1) (eC (.int 1))) (aC (eB D3 (eB d9 (eV 1) (eC (.int 0))) (eB d9 (eV 0) (eC (.int 0)))) (aC (eB D3 (eB d9 (eV 1) (eC (.int 1))) (eB d9 (eV 0) (eC (.int 1)))) aN))))))))
def K4:List D→Option R1:=fD 2 2 a8q
theorem a7b:FnScope ["_law_ware_here","_law_place"] ["_law_ware_here","_law_place"] (a8 O3):=⟨rfl,rfl,rfl,by decide +kernel,rfl,by decide +kernel,by decide +kernel⟩
theorem a7c{f:Addr}{fd:FuncData}(F:Fun K "_law_spot" "_law_spot" O3 f fd)(T:Txt K mg c)(G_l_whole:Own P w K mg base 3 "_law_whole" ["_law_found"] (i6 K c t4)):FnOk P w K mg base (n4 P w) 5 f fd ["_law_ware_here","_law_place"] (i6 K c K4) :=
 F.okD (k:=4) a7b fun cdv A outer s H E hr=>⟨_,(c9 (A2 (PW.pt (L4 (T8 (P3 (k6 (P5 (K:=K)) rfl T.z_isinstance E2 (a6 (pv 1) (a6 (X3 (v:=.ty "tuple") rfl T.z_tuple a3S rfl) c6))))) (L4 (j5 a5r (k6 (j9 (K:=K)) rfl T.z_len E3 (a6 (pv 1) c6)) a9 (i7 _)) (a0o (j5 a9r (h9 (g5 (K:=K)) (pv 1) a9 (fun _ _=>rfl)) V6 (i7 _)))))) (g7 (j6 L3)) p8) (c9 (A2 (PW.pt (L4 (T8 (P3 (t9 G_l_whole hr (by decide) x6 (a6 (h9 (g5 (K:=K)) (pv 1) a9 (fun _ _=>rfl)) c6)))) (a0o (T8 (P3 (t9 G_l_whole hr (by decide) x6 (a6 (h9 (g5 (K:=K)) (pv 1) a9 (fun _ _=>rfl)) c6))))))) (g7 (j6 L3)) p8) (g7 (j6 (L6 (a6 (h9 (g5 (K:=K)) (pv 1) a9 (fun _ _=>rfl)) (a6 (h9 (g5 (K:=K)) (pv 1) a9 (fun _ _=>rfl)) (a6 (i0 J9 (h9 (g5 (K:=K)) (pv 1) a9 (fun _ _=>rfl)) (h9 (g5 (K:=K)) (pv 0) a9 (fun _ _=>rfl))) (a6 (i0 J9 (h9 (g5 (K:=K)) (pv 1) a9 (fun _ _=>rfl)) (h9 (g5 (K:=K)) (pv 0) a9 (fun _ _=>rfl))) c6))))))))),(h7 (z9 (G8 (N4 (S0 a08)) (G8 (r0 (b0 a5I (K2 E5) b9)) (r0 (b0 b0y (b0 i4 c7 b9) b9)))) (n9 b9) D5) (h7 (z9 (G8 (N4 (S0 (r9 (d6 (b0 i4 c7 b9) i1)))) (N4 (S0 (r9 (d6 (b0 i4 c7 b9) i1))))) (n9 b9) D5) (n9 (a1w (d6 (b0 i4 c7 b9) (d6 (b0 i4 c7 b9) (d6 (b0 K0 (b0 i4 c7 b9) (b0 i4 c7 b9)) (d6 (b0 K0 (b0 i4 c7 b9) (b0 i4 c7 b9)) i1))))))))⟩
def a4p:SF:=(d7 (u5 2 (a2z (eB gLt (eB d9 (eV 0) (eC (.int 0))) (eB d9 (eV 1) (eC (.int 2)))) (eB gLt (eB d9 (eV 1) (eC (.int 0))) (eB d9 (eV 0) (eC (.int 2)))))) (m4 (a2z (eV 2) (a2z (eB gLt (eB d9 (eV 0) (eC (.int 1))) (eB d9 (eV 1) (eC (.int 3)))) (eB gLt (eB d9 (eV 1) (eC (.int 1))) (eB d9 (eV 0) (eC (.int 3))))))))
def w8:List D→Option R1:=fD 3 2 a4p
theorem a3b:FnScope ["_law_one","_law_other","_law_across"] ["_law_one","_law_other"] (a8 O4):=⟨rfl,rfl,rfl,by decide +kernel,rfl,by decide +kernel,by decide +kernel⟩
theorem a7d{f:Addr}{fd:FuncData}(F:Fun K "_law_meet" "_law_meet" O4 f fd)(T:Txt K mg c)  : FnOk P w K mg base (n4 P w) 3 f fd ["_law_one","_law_other"] (i6 K c w8) :=
 F.okD (k:=2) a3b fun cdv A outer s H E hr=>⟨_,(c9 (m8 (i:=2) a3b.nd rfl (Or.inl rfl) (a1G (K5 Y4 (h9 (g5 (K:=K)) (pv 0) a9 (fun _ _=>rfl)) (h9 (g5 (K:=K)) (pv 1) a9 (fun _ _=>rfl)) (i7 _)) (a3D (K5 Y4 (h9 (g5 (K:=K)) (pv 1) a9 (fun _ _=>rfl)) (h9 (g5 (K:=K)) (pv 0) a9 (fun _ _=>rfl)) (i7 _))))) (g7 (j6 (a1G (pv 2) (a1G (K5 Y4 (h9 (g5 (K:=K)) (pv 0) a9 (fun _ _=>rfl)) (h9 (g5 (K:=K)) (pv 1) a9 (fun _ _=>rfl)) (i7 _)) (a3D (K5 Y4 (h9 (g5 (K:=K)) (pv 1) a9 (fun _ _=>rfl)) (h9 (g5 (K:=K)) (pv 0) a9 (fun _ _=>rfl)) (i7 _)))))))),(h7 (E7 (a11 (b0 Z2 (b0 i4 c7 b9) (b0 i4 c7 b9)) (b0 Z2 (b0 i4 c7 b9) (b0 i4 c7 b9)))) (n9 (a11 c7 (a11 (b0 Z2 (b0 i4 c7 b9) (b0 i4 c7 b9)) (b0 Z2 (b0 i4 c7 b9) (b0 i4 c7 b9))))))⟩
def a5Z:SF:=(d7 (x9 4 (eL aN)) (d7 (a17 a2B (aC (C0 t6 2) aN) (c8 5) (d7 (X9 6 K4 (aC (L9 D4 2 (eV 5)) (aC (L9 D4 3 (eV 5)) aN))) (d7 (C7 (E4 (bZ (eB (a1x false) (eV 6) (eC .non))) (E4 (bZ (eB gLt (eB d9 (eV 6) (eC (.int 0))) (eC (.int 0)))) (E4 (bZ (eB gLt (eB d9 (eV 6) (eC (.int 1))) (eC (.int 0)))) (E4 (bZ (eB gGt (eB d9 (eV 6) (eC (.int 2))) (eV 0))) (bZ (eB gGt (eB d9 (eV 6) (eC (.int 3))) (eV 1))))))) (m4 (eC (.bl false))) C6) (d7 (Z6 4 (c8 7) (C7 (bZ (i8 w8 (aC (eV 6) (aC (eV 7) aN)))) (m4 (eC (.bl false))) C6)) (N5 4 (eV 6)))))) (m4 (eB (C1 false) (eV 1) (S9 (aC (zN (C2 4 1 [] (c8 0) A9 (eB d9 (eV 0) (eC (.int 3))))) aN) (aC (eC (.int 0)) aN))))))
def B2:List D→Option R1:=fD 8 4 a5Z
theorem K1:FnScope ["_law_width","_law_top","_law_wares","_law_places","_law_spots","_law_k","_law_spot_here","_law_other"] ["_law_width","_law_top","_law_wares","_law_places"] (a8 B1):=⟨rfl,rfl,rfl,by decide +kernel,rfl,by decide +kernel,by decide +kernel⟩
theorem a4P{f:Addr}{fd:FuncData}(F:Fun K "_law_packed" "_law_packed" B1 f fd)(T:Txt K mg c)(G_l_spot:Own P w K mg base 5 "_law_spot" ["_law_ware_here","_law_place"] (i6 K c K4))(G_l_meet:Own P w K mg base 3 "_law_meet" ["_law_one","_law_other"] (i6 K c w8)):FnOk P w K mg base (n4 P w) 7 f fd ["_law_width","_law_top","_law_wares","_law_places"] (i6 K c B2) :=
 F.okD (k:=6) K1 fun cdv A outer s H E hr=>⟨_,(c9 (m8 (i:=4) K1.nd rfl (Or.inl rfl) (a0u c6)) (c9 (X4 PassesOwn.leaving rfl (a57 rfl T.z_range (a6 (k6 (j9 (K:=K)) rfl T.z_len E3 (a6 (pv 2) c6)) c6)) (m5 (i:=5) K1.nd rfl (Or.inl rfl)) (c9 (m8 (i:=6) K1.nd rfl (Or.inl rfl) (t9 G_l_spot hr (by decide) x6 (a6 (h9 (C9 (K:=K)) (pv 2) (pv 5) (fun _ _=>rfl)) (a6 (h9 (C9 (K:=K)) (pv 3) (pv 5) (fun _ _=>rfl)) c6)))) (c9 (A2 (PW.pt (L4 (j5 a6a (pv 6) L3 (i7 _)) (L4 (j5 Y4 (h9 (g5 (K:=K)) (pv 6) a9 (fun _ _=>rfl)) a9 (i7 _)) (L4 (j5 Y4 (h9 (g5 (K:=K)) (pv 6) a9 (fun _ _=>rfl)) a9 (i7 _)) (L4 (j5 a1K (h9 (g5 (K:=K)) (pv 6) a9 (fun _ _=>rfl)) (pv 0) (i7 _)) (a0o (j5 a1K (h9 (g5 (K:=K)) (pv 6) a9 (fun _ _=>rfl)) (pv 1) (i7 _)))))))) (g7 (j6 V6)) p8) (c9 (X4 PassesOwn.leaving rfl (E9 (pv 4)) (m5 (i:=7) K1.nd rfl (Or.inl rfl)) (g7 (A2 (P3 (t9 G_l_meet hr (by decide) x6 (a6 (pv 6) (a6 (pv 7) c6)))) (g7 (j6 V6)) p8))) (g7 (N0 (X6 (K:=K) PySem.F.plainAttrs_list PySem.F.slot_list_append PySem.F.type_list_append G5 (pv 4) (a6 (pv 6) c6)))))))) (g7 (j6 (K5 R7 (pv 1) (a0X rfl rfl T.z_max (a6 (T4 (Nc:=["_law_spot_here"]) (k:=1) (js:=[]) rfl ⟨by decide +kernel,rfl,by decide +kernel,(by change ∀y∈Scope.names _,y.2=NameKind.free→(a8 B1).names.lookup y.1=some .cell∨(a8 B1).names.lookup y.1=some .free;decide +kernel),by decide +kernel,rfl,rfl,by decide +kernel⟩ (E9 (pv 4)) (fun _ _ _ _ _=>(m5 (i:=0) (by show List.Nodup [("_law_spot_here" : Str)];decide +kernel) rfl (Or.inl rfl))) (fun _ _ _ _ _=>U3) (fun _ _ _ _ _=>(h9 (g5 (K:=K)) (pv 0) a9 (fun _ _=>rfl)))) c6) (X5 a9 a0v)) (i7 _)))))),(h7 (N6 (a34 i1)) (h7 (a7Y (d6 (K2 E5) i1) (k9 (k:=8) (by decide)) (h7 (a39 (d6 (M0 M1 c7) (d6 (M0 M1 c7) i1))) (h7 (z9 (G8 (r0 (b0 a6G c7 b9)) (G8 (r0 (b0 Z2 (b0 i4 c7 b9) b9)) (G8 (r0 (b0 Z2 (b0 i4 c7 b9) b9)) (G8 (r0 (b0 a14 (b0 i4 c7 b9) c7)) (r0 (b0 a14 (b0 i4 c7 b9) c7)))))) (n9 b9) D5) (h7 (a49 (k9 (k:=8) (by decide)) (z9 (S0 (r9 (d6 c7 (d6 c7 i1)))) (n9 b9) D5)) (a0G c7))))) (n9 (b0 S3 c7 (a09 (d6 (O6 (N7 (by decide) (k9 (k:=1) (by decide)) K3 (b0 i4 c7 b9))) i1) (d6 b9 i1))))))⟩
def b2X:SF:=(d7 (x9 1 (a18 1 [] (zN (a1B 0 (oS (eC (.int 2))) (oS (eC (.int 65))))) (c8 0) A9 (i8 B5 (aC (eV 0) aN)))) (d7 (u5 2 (eCB (g1 a0a) (aC (zN (C2 1 1 [] (c8 0) A9 (eB d9 (eV 0) (eC (.int 0))))) aN))) (d7 (C7 (bZ (eB (C1 false) (eB A4 (i8 B4 (aC (eV 0) (aC (eC (.int 0)) aN))) (eC (.int 2))) (eC (.int 1)))) (d7 (X9 1 t5 (aC (zN (a1B 0 (oS (eC (.int 2))) (oS (eC (.int 52))))) aN)) (u5 2 (eB O7 (eB J7 (eC (.int 10)) (eC (.int 42))) (S9 (aC (zN (C2 1 1 [] (c8 0) A9 (eB d9 (eV 0) (eC (.int 0))))) aN) (aC (eC (.int 0)) aN))))) C6) (d7 (u5 3 (eB D3 (S9 (aC (zN (C2 1 1 [] (c8 0) A9 (eB d9 (eV 0) (eC (.int 0))))) aN) (aC (eC (.int 0)) aN)) (eB A4 (i8 B4 (aC (eV 0) (aC (eC (.int 1)) aN))) (eB D3 (eC (.int 1)) (eV 2))))) (d7 (x9 4 (nCV W2 1)) (d7 (u5 5 (eB d9 (eT (aC (eC (.str "next")) (aC (eC (.str "first")) (aC (eC (.str "best")) aN)))) (eB A4 (eB z8 (i8 B4 (aC (eV 0) (aC (eC (.int 0)) aN))) (eC (.int 2))) (eC (.int 3))))) (a2d 6 7 y3 (aC (eV 3) (aC (eV 4) (aC (eV 5) aN))) (E4 (G7 (bZ (S8 6 "tuple"))) (E4 (bZ (eB (C1 true) (C0 t6 6) (eC (.int 2)))) (G7 (bZ (i8 t4 (aC (eB d9 (eV 6) (eC (.int 0))) aN)))))) (E4 (G7 (bZ (eCB a1A (aC (eB d9 (eV 6) (eC (.int 1))) (aC (eC (.ty "list")) aN))))) (E4 (bZ (eB (C1 true) (eCB (g1 t6) (aC (eB d9 (eV 6) (eC (.int 1))) aN)) (C0 t6 1))) (bZ (a2y (N8 true) 4 1)))) (G7 (bZ (i8 B2 (aC (eV 3) (aC (eB d9 (eV 6) (eC (.int 0))) (aC (eV 1) (aC (eB d9 (eV 6) (eC (.int 1))) aN))))))) (d7 (C7 (bZ (eB (N8 true) (a2c y3 (aC (eV 3) (aC (eV 4) (aC (eV 5) aN)))) (eV 7))) (m4 (eC (.bl false))) C6) (d7 (u5 8 (S9 (aC (zN (C2 1 1 [] (c8 0) A9 (eB d9 (eV 0) (eC (.int 1))))) aN) (aC (eC (.int 0)) aN))) (d7 (u5 9 (eCB (g1 a0a) (aC (zN (C2 1 1 [] (c8 0) A9 (eB G9 (eB d9 (eV 0) (eC (.int 0))) (eB d9 (eV 0) (eC (.int 1)))))) aN))) (m4 (eB gLe (eB G9 (eB D3 (eV 3) (eC (.int 1))) (eB O7 (eB d9 (eV 7) (eC (.int 0))) (eV 8))) (eB G9 (eC (.int 2)) (eV 9))))))))))))))
def a87:List D→Option R1:=fD 10 1 b2X
theorem E8:FnScope ["_law_script","_law_wares","_law_most","_law_width","_law_handed","_law_word","_law_found","_law_kept","_law_tallest","_law_area"] ["_law_script"] (a8 t8):=⟨rfl,rfl,rfl,by decide +kernel,rfl,by decide +kernel,by decide +kernel⟩
theorem b0H{TB:List (Addr×Str)}{f:Addr}{fd:FuncData}(F:Fun K "law" "law" t8 f fd)(T:Txt K mg c)(G_l_ware:Own P w K mg base 5 "_law_ware" ["_law_cell_here"] (i6 K c B5))(G_l_cell:Own P w K mg base 3 "_law_cell" ["_law_script","_law_k"] (i6 K c B4))(G_l_any_wares:Own P w K mg base 5 "_law_any_wares" ["_law_cells"] (i6 K c t5))(G_shelved:OwnD P w K mg base 5 "shelved" ["width","wares","word"] (U5 TB (i6 K c y3)) (.str "next"))(G_l_whole:Own P w K mg base 3 "_law_whole" ["_law_found"] (i6 K c t4))(G_l_packed:Own P w K mg base 7 "_law_packed" ["_law_width","_law_top","_law_wares","_law_places"] (i6 K c B2)):FnOk P w K mg base (n4 P w) 9 f fd ["_law_script"] (U5 TB (i6 K c a87)) :=
 F.okT (k:=8) E8 fun A outer s H E hT hr=>⟨_,(c9 (a1U (i:=1) (Nc:=["_law_cell_here"]) (k:=1) (js:=[]) rfl ⟨by decide +kernel,rfl,by decide +kernel,(by change ∀y∈Scope.names _,y.2=NameKind.free→(a8 t8).names.lookup y.1=some .cell∨(a8 t8).names.lookup y.1=some .free;decide +kernel),by decide +kernel,rfl,rfl,by decide +kernel⟩ E8.nd rfl (E9 (a3J (a3V (K:=K)) (pv 0) (a0U a9) (a0U a9))) (fun _ _ _ _ _=>(m5 (i:=0) (by show List.Nodup [("_law_cell_here" : Str)];decide +kernel) rfl (Or.inl rfl))) (fun _ _ _ _ _=>U3) (fun _ _ _ _ _=>(t9 G_l_ware hr (by decide) x6 (a6 (pv 0) c6)))) (c9 (m8 (i:=2) E8.nd rfl (Or.inl rfl) (k6 (a2Z (K:=K)) rfl T.z_sum a6n (a6 (T4 (Nc:=["_law_ware_here"]) (k:=1) (js:=[]) rfl ⟨by decide +kernel,rfl,by decide +kernel,(by change ∀y∈Scope.names _,y.2=NameKind.free→(a8 t8).names.lookup y.1=some .cell∨(a8 t8).names.lookup y.1=some .free;decide +kernel),by decide +kernel,rfl,rfl,by decide +kernel⟩ (E9 (pv 1)) (fun _ _ _ _ _=>(m5 (i:=0) (by show List.Nodup [("_law_ware_here" : Str)];decide +kernel) rfl (Or.inl rfl))) (fun _ _ _ _ _=>U3) (fun _ _ _ _ _=>(h9 (g5 (K:=K)) (pv 0) a9 (fun _ _=>rfl)))) c6))) (c9 (A2 (j5 R7 (i0 G4 (t9 G_l_cell hr (by decide) x6 (a6 (pv 0) (a6 a9 c6))) a9) a9 (i7 _)) (c9 (m8 (i:=1) E8.nd rfl (Or.inl rfl) (t9 G_l_any_wares hr (by decide) x6 (a6 (a3J (a3V (K:=K)) (pv 0) (a0U a9) (a0U a9)) c6))) (g7 (m8 (i:=2) E8.nd rfl (Or.inl rfl) (i0 a1J (i0 P4 a9 a9) (a0X rfl rfl T.z_max (a6 (T4 (Nc:=["_law_ware_here"]) (k:=1) (js:=[]) rfl ⟨by decide +kernel,rfl,by decide +kernel,(by change ∀y∈Scope.names _,y.2=NameKind.free→(a8 t8).names.lookup y.1=some .cell∨(a8 t8).names.lookup y.1=some .free;decide +kernel),by decide +kernel,rfl,rfl,by decide +kernel⟩ (E9 (pv 1)) (fun _ _ _ _ _=>(m5 (i:=0) (by show List.Nodup [("_law_ware_here" : Str)];decide +kernel) rfl (Or.inl rfl))) (fun _ _ _ _ _=>U3) (fun _ _ _ _ _=>(h9 (g5 (K:=K)) (pv 0) a9 (fun _ _=>rfl)))) c6) (X5 a9 a0v)))))) p8) (c9 (m8 (i:=3) E8.nd rfl (Or.inl rfl) (i0 J9 (a0X rfl rfl T.z_max (a6 (T4 (Nc:=["_law_ware_here"]) (k:=1) (js:=[]) rfl ⟨by decide +kernel,rfl,by decide +kernel,(by change ∀y∈Scope.names _,y.2=NameKind.free→(a8 t8).names.lookup y.1=some .cell∨(a8 t8).names.lookup y.1=some .free;decide +kernel),by decide +kernel,rfl,rfl,by decide +kernel⟩ (E9 (pv 1)) (fun _ _ _ _ _=>(m5 (i:=0) (by show List.Nodup [("_law_ware_here" : Str)];decide +kernel) rfl (Or.inl rfl))) (fun _ _ _ _ _=>U3) (fun _ _ _ _ _=>(h9 (g5 (K:=K)) (pv 0) a9 (fun _ _=>rfl)))) c6) (X5 a9 a0v)) (i0 G4 (t9 G_l_cell hr (by decide) x6 (a6 (pv 0) (a6 a9 c6))) (i0 J9 a9 (pv 2))))) (c9 (m8 (i:=4) E8.nd rfl (Or.inl rfl) (V8 (Q1 (K:=K)) rfl T.z_list a0W (a6 (pv 1) c6))) (c9 (m8 (i:=5) E8.nd rfl (Or.inl rfl) (h9 (g5 (K:=K)) (L6 (a3W (a3W (a3W c6)))) (i0 G4 (i0 z0 (t9 G_l_cell hr (by decide) x6 (a6 (pv 0) (a6 a9 c6))) a9) a9) (fun _ _=>rfl))) (c9 (m8 (i:=6) E8.nd rfl (Or.inl rfl) (a2N hT G_shelved.own hr (by decide) (XAcc.passes T3) (a6 (pv 3) (a6 (pv 4) (a6 (pv 5) c6))))) (c9 (A2 (PW.pt (L4 (T8 (P3 (k6 (P5 (K:=K)) rfl T.z_isinstance E2 (a6 (pv 6) (a6 (X3 (v:=.ty "tuple") rfl T.z_tuple a3S rfl) c6))))) (L4 (j5 a5r (k6 (j9 (K:=K)) rfl T.z_len E3 (a6 (pv 6) c6)) a9 (i7 _)) (a0o (T8 (P3 (t9 G_l_whole hr (by decide) x6 (a6 (h9 (g5 (K:=K)) (pv 6) a9 (fun _ _=>rfl)) c6)))))))) (g7 (j6 V6)) p8) (c9 (A2 (PW.pt (L4 (T8 (P3 (k6 (P5 (K:=K)) rfl T.z_isinstance E2 (a6 (h9 (g5 (K:=K)) (pv 6) a9 (fun _ _=>rfl)) (a6 (X3 (v:=.ty "list") rfl T.z_list a0W rfl) c6))))) (L4 (j5 a5r (k6 (j9 (K:=K)) rfl T.z_len E3 (a6 (h9 (g5 (K:=K)) (pv 6) a9 (fun _ _=>rfl)) c6)) (k6 (j9 (K:=K)) rfl T.z_len E3 (a6 (pv 1) c6)) (i7 _)) (a0o (j5 (a5c (K:=K) (cl:=c) (a7_ hr)) (pv 4) (pv 1) (i7 _)))))) (g7 (j6 V6)) p8) (c9 (A2 (T8 (P3 (t9 G_l_packed hr (by decide) x6 (a6 (pv 3) (a6 (h9 (g5 (K:=K)) (pv 6) a9 (fun _ _=>rfl)) (a6 (pv 1) (a6 (h9 (g5 (K:=K)) (pv 6) a9 (fun _ _=>rfl)) c6))))))) (g7 (j6 V6)) p8) (c9 (m8 (i:=7) E8.nd rfl (Or.inl rfl) (L6 (a6 (h9 (g5 (K:=K)) (pv 6) a9 (fun _ _=>rfl)) (a6 (V8 (Q1 (K:=K)) rfl T.z_list a0W (a6 (h9 (g5 (K:=K)) (pv 6) a9 (fun _ _=>rfl)) c6)) c6)))) (c9 (N0 (X6 (K:=K) PySem.F.plainAttrs_list PySem.F.slot_list_append PySem.F.type_list_append G5 (h9 (g5 (K:=K)) (pv 6) a9 (fun _ _=>rfl)) (a6 L3 c6))) (c9 (A2 (j5 (a5c (K:=K) (cl:=c) (a7_ hr)) (a2N hT G_shelved.own hr (by decide) (XAcc.passes T3) (a6 (pv 3) (a6 (pv 4) (a6 (pv 5) c6)))) (pv 7) (i7 _)) (g7 (j6 V6)) p8) (c9 (m8 (i:=8) E8.nd rfl (Or.inl rfl) (a0X rfl rfl T.z_max (a6 (T4 (Nc:=["_law_ware_here"]) (k:=1) (js:=[]) rfl ⟨by decide +kernel,rfl,by decide +kernel,(by change ∀y∈Scope.names _,y.2=NameKind.free→(a8 t8).names.lookup y.1=some .cell∨(a8 t8).names.lookup y.1=some .free;decide +kernel),by decide +kernel,rfl,rfl,by decide +kernel⟩ (E9 (pv 1)) (fun _ _ _ _ _=>(m5 (i:=0) (by show List.Nodup [("_law_ware_here" : Str)];decide +kernel) rfl (Or.inl rfl))) (fun _ _ _ _ _=>U3) (fun _ _ _ _ _=>(h9 (g5 (K:=K)) (pv 0) a9 (fun _ _=>rfl)))) c6) (X5 a9 a0v))) (c9 (m8 (i:=9) E8.nd rfl (Or.inl rfl) (k6 (a2Z (K:=K)) rfl T.z_sum a6n (a6 (T4 (Nc:=["_law_ware_here"]) (k:=1) (js:=[]) rfl ⟨by decide +kernel,rfl,by decide +kernel,(by change ∀y∈Scope.names _,y.2=NameKind.free→(a8 t8).names.lookup y.1=some .cell∨(a8 t8).names.lookup y.1=some .free;decide +kernel),by decide +kernel,rfl,rfl,by decide +kernel⟩ (E9 (pv 1)) (fun _ _ _ _ _=>(m5 (i:=0) (by show List.Nodup [("_law_ware_here" : Str)];decide +kernel) rfl (Or.inl rfl))) (fun _ _ _ _ _=>U3) (fun _ _ _ _ _=>(i0 a2u (h9 (g5 (K:=K)) (pv 0) a9 (fun _ _=>rfl)) (h9 (g5 (K:=K)) (pv 0) a9 (fun _ _=>rfl))))) c6))) (g7 (j6 (K5 b2I (i0 a2u (i0 J9 (pv 3) a9) (i0 a1J (h9 (g5 (K:=K)) (pv 7) a9 (fun _ _=>rfl)) (pv 8))) (i0 a2u a9 (pv 9)) (i7 _))))))))))))))))))),(h7 (a19 (a9H (by decide) (O6 (a6U (a3z b9) (a3z b9))) (k9 (k:=1) (by decide)) K3 (r9 (d6 c7 i1)))) (h7 (E7 (a3t a6V.cb (d6 (O6 (N7 (by decide) (k9 (k:=1) (by decide)) K3 (b0 i4 c7 b9))) i1))) (h7 (z9 (r0 (b0 S3 (b0 J1 (r9 (d6 c7 (d6 b9 i1))) b9) b9)) (h7 (a39 (d6 (O6 (a6U (a3z b9) (a3z b9))) i1)) (E7 (b0 a13 (b0 P7 b9 b9) (a09 (d6 (O6 (N7 (by decide) (k9 (k:=1) (by decide)) K3 (b0 i4 c7 b9))) i1) (d6 b9 i1))))) D5) (h7 (E7 (b0 K0 (a09 (d6 (O6 (N7 (by decide) (k9 (k:=1) (by decide)) K3 (b0 i4 c7 b9))) i1) (d6 b9 i1)) (b0 J1 (r9 (d6 c7 (d6 b9 i1))) (b0 K0 b9 c7)))) (h7 (N6 (a6E a47)) (h7 (E7 (b0 i4 (a1w (d6 b9 (d6 b9 (d6 b9 i1)))) (b0 J1 (b0 J0 (r9 (d6 c7 (d6 b9 i1))) b9) b9))) (b0F (d6 c7 (d6 c7 (d6 c7 i1))) (G8 (N4 (S0 a08)) (G8 (r0 (b0 a5I (K2 E5) b9)) (N4 (S0 (r9 (d6 (b0 i4 c7 b9) i1)))))) (G8 (N4 (S0 (a3t b10 (d6 (b0 i4 c7 b9) (d6 b9 i1))))) (G8 (r0 (b0 a5I (a3t E5.cb (d6 (b0 i4 c7 b9) i1)) (K2 E5))) (r0 (a9y a6X)))) (N4 (S0 (r9 (d6 c7 (d6 (b0 i4 c7 b9) (d6 c7 (d6 (b0 i4 c7 b9) i1))))))) (h7 (z9 (r0 (b0 a6X (a8n (d6 c7 (d6 c7 (d6 c7 i1)))) c7)) (n9 b9) D5) (h7 (E7 (a09 (d6 (O6 (N7 (by decide) (k9 (k:=1) (by decide)) K3 (b0 i4 c7 b9))) i1) (d6 b9 i1))) (h7 (E7 (a3t a6V.cb (d6 (O6 (N7 (by decide) (k9 (k:=1) (by decide)) K3 (b0 a36 (b0 i4 c7 b9) (b0 i4 c7 b9)))) i1))) (n9 (b0 b2R (b0 a36 (b0 K0 c7 b9) (b0 a13 (b0 i4 c7 b9) c7)) (b0 a36 b9 c7)))))))))))))⟩
end Law
namespace Law
open PySem L2 PyProof.Rows
variable {P:Program}{w:World}{K:PySem.W.Frag}{mg:Str→Option Value}{base:Heap}{c:Str→Addr}
local macro_rules|`(tactic|walk_at $s:str)=>do
 let t←`(tactic|simp(decide:=true)only[*,b2T,a9J,a9K,a9L,a9M,a9W,a9N,a9O,a9P,a9Q,a70,a9R,a9S,b11,a71,a72,a6M,a6N,a73,a5P,a5Q,a6O,a6P,a6Q,a74,a5R,a5S,a9T,a9U,a9X,a9V,a9Y,a75,a9Z,a90,a91,a92,a94,a93,a95,a76,a0H,v3,b0p,b0q,b0r,b0s,b0u,b0t,a26,a6W,a1_,j4,Z7,a18,C2,a8a,b2b,b2c,a8b,b2d,b2e,G0,b0k,b0l,b0m,b0n,noL,noLs,a1B,oS,a0a,S9,W4,Z6,P9,unhide,a6R,b0b,a99,a9_,b0a,a96,a97,a98,a5J,U7,N8,m7,F9,g8,u6,J8,B7,O8,Nat.max_self,Nat.zero_max,Nat.max_zero,decide_true,Bool.or_true,Bool.true_or,Bool.or_false,List.isEmpty_nil,List.any_cons,List.any_nil,a2F,j7,List.all_cons,List.all_nil,Bool.and_self,Bool.and_true,Bool.true_and,beq_self_eq_true,b0c,b0d,b12,b13,b14,b15,a6T,b0e,a5b,a2E,C7,u5,x9,a3w,X9,m4,a5K,Z4,C6,a5N,a37,sEx,N5,a2a,a5L,a3_,a17,b2f,a8h,a8i,a8d,a8e,a8f,a8g,a8c,b0o,a8j,a6Y,eC,eV,eB,L9,a2y,eT,eL,zN,aN,aC,a3u,i8,a7S,a2z,eIf,eU,a0C,eCB,C0,nCV,nB,g1,t6,W2,bZ,G7,a7R,E4,A9,w6,Z5,X8,b1L,b1M,a0B,b1N,b1O,Z0,Z1,look,d9,D4,a9A,a1x,b0x,S8,b0v,a07,tyN,seqL,a81,a82,a83,a84,List.map_cons,List.map_nil,List.length_cons,List.length_nil,List.cons_append,List.nil_append,List.replicate_succ,List.replicate_zero,List.getElem?_cons_zero,List.getElem?_cons_succ,List.set_cons_zero,List.set_cons_succ,Nat.reduceAdd,Nat.reduceSub,if_true,if_false,Bool.not_true,Bool.not_false,Bool.not_not,Nat.zero_add,Bool.false_eq_true,decide_eq_true_eq,Bool.not_eq_true',decide_eq_false_iff_not,Option.map_some,Option.map_none,ite_self])
 return if s.getString=="eh" then t.raw else t.raw.modifyArg 4 (·.modifyArg 1 fun l=>l.setArg 0 l[2])
theorem a5g{ns:List Int}{k:Int}(hk:0≤k):B4 [.scr ns,.int k]=some (.ret (.int (J2 ns k))):=by
 rw[← b0g hk]
 unfold B4 a4n
 walk_at "ev"
 split
 ·cases atI ns k<;>rfl
 ·rfl
theorem big:∃B:Int,J7 (.int 10) (.int 40)=some (.int B)∧B=10 ^ 40:=⟨_,a2E (by decide +kernel),rfl⟩
def ra(R:List Int)(k:Nat):Int:=R.getD k 0
theorem a88{R:List Int}{k:Nat}(h:k<R.length):atI (R.map D.int) (k:Int)=some (.int (ra R k)):=by
 apply a0V
 rw[List.getElem?_map,List.getElem?_eq_getElem h]
 unfold ra
 rw[List.getD_eq_getElem?_getD,List.getElem?_eq_getElem h]
 rfl
theorem b0I{R:List Int}(h:0<R.length):atI (R.map D.int) (-1)=some (.int (ra R (R.length-1))):=by
 have e:G1 (R.map D.int).length (-1)=some (R.length-1):=by
  rw[List.length_map]
  unfold G1
  rw[if_neg (by omega),if_pos (by omega)]
  congr 1
  omega
 unfold atI
 rw[e]
 show(R.map D.int)[R.length-1]? = _
 rw[List.getElem?_map,List.getElem?_eq_getElem (by omega)]
 unfold ra
 rw[List.getD_eq_getElem?_getD,List.getElem?_eq_getElem (by omega)]
 rfl
def En(R:List Int)(w:Int):List Nat:=(List.range R.length).filter fun k=>decide (ra R k≥w)
theorem M5{R:List Int}{w:Int}{k:Nat}:k∈En R w↔k<R.length∧w≤ra R k:=by
 unfold En
 rw[List.mem_filter,List.mem_range,decide_eq_true_iff]
def oD:Option Nat→D | none=>.non | some k=>.int (k:Int)
inductive Wk where | nx | fi | be
def wk:Wk→Str | .nx => "next" | .fi => "first" | .be => "best"
def ck:Wk→Str | .nx => "Shelver" | .fi => "FirstShelver" | .be => "BestShelver"
abbrev Ob(k:Wk):D:=.obj (ck k) [] []
def a4q:Wk→List Int→Int→Option Nat→Prop
 | .nx,R,w,none=>¬(0<R.length∧w≤ra R (R.length-1))
 | .nx,R,w,some k=>k+1=R.length∧w≤ra R k
 | .fi,R,w,none=>En R w=[]
 | .fi,R,w,some k=>k∈En R w∧∀j∈En R w,k≤j
 | .be,R,w,none=>En R w=[]
 | .be,R,w,some k=>k∈En R w∧∀j∈En R w,HT.lexLt [ra R j,(j:Int)] [ra R k,(k:Int)]=false
theorem b2Y(R:List Int)(w:Int):∃o,n5 [Ob .nx,.lst (R.map D.int),.int w]=some (.ret (oD o))∧a4q .nx R w o:=by
 unfold n5 Y3
 by_cases hn:0<R.length
 ·have c1:(0:Int)<((R.map D.int).length:Int):=by rw[List.length_map];omega
  have a1:=b0I hn
  have e1:((R.map D.int).length:Int)-1=((R.length-1:Nat):Int):=by rw[List.length_map];omega
  by_cases hw:w≤ra R (R.length-1)
  ·refine⟨some (R.length-1),?_,by omega,hw⟩
   show _=some (R1.ret (.int ((R.length-1:Nat):Int)))
   rw[← e1]
   generalize ra R (R.length-1)=x at *
   generalize R.map D.int=L at *
   clear hn e1
   generalize Ob .nx=ob
   walk_at "eh"
  ·refine⟨none,?_,fun z=>hw z.2⟩
   show _=some (R1.ret .non)
   generalize ra R (R.length-1)=x at *
   generalize R.map D.int=L at *
   clear hn e1
   generalize Ob .nx=ob
   walk_at "eh"
 ·have e:R=[]:=List.eq_nil_of_length_eq_zero (by omega)
  subst e
  refine⟨none,?_,fun z=>hn z.1⟩
  show fD 3 3 _ [Ob .nx,.lst [],.int w]=some (R1.ret .non)
  generalize Ob .nx=ob
  walk_at "eh"
abbrev fiB:SF:=(C7 (bZ (eB gGe (eV 4) (eV 2))) (Z4 3) C6)
theorem b3x(LP:SF)(ob A:D)(w:Int)(r:D)(h:LP [.fz ob,.fz A,.fz (.int w),.no,.no]=some (.rt r)):fD 5 3 (d7 LP (m4 (eC .non))) [ob,A,.int w]=some (.ret r):=by
 walk_at "eh"
theorem b2Z(LP:SF)(ob A:D)(w:Int)(e:DE)(h:LP [.fz ob,.fz A,.fz (.int w),.no,.no]=some (.nx e)):fD 5 3 (d7 LP (m4 (eC .non))) [ob,A,.int w]=some (.ret .non):=by
 walk_at "eh"
theorem b2k(ob A:D)(w:Int)(k:Nat)(x:Int)(o3 o4:Option D):w6 [c8 3,c8 4] (.tup [.int (k:Int),.int x]) [.fz ob,.fz A,.fz (.int w),un o3,un o4]=some [.fz ob,.fz A,.fz (.int w),.fz (.int (k:Int)),.fz (.int x)]:=by
 cases o3<;>cases o4<;>rfl
theorem b3y(ob A:D)(w:Int)(k:Nat)(x:Int)(h:x≥w):fiB [.fz ob,.fz A,.fz (.int w),.fz (.int (k:Int)),.fz (.int x)]=some (.rt (.int (k:Int))):=by
 unfold fiB
 have h':w≤x:=h
 clear h
 walk_at "eh"
theorem b3z(ob A:D)(w:Int)(k:Nat)(x:Int)(h:¬w≤x):fiB [.fz ob,.fz A,.fz (.int w),.fz (.int (k:Int)),.fz (.int x)]=some (.nx [.fz ob,.fz A,.fz (.int w),.fz (.int (k:Int)),.fz (.int x)]):=by
 unfold fiB
 walk_at "eh"
theorem a7e{pre post:List Int}{x:Int}:ra (pre++x::post) pre.length=x:=by
 unfold ra
 rw[List.getD_eq_getElem?_getD,List.getElem?_append_right (Nat.le_refl _)]
 simp
theorem b20(R:List Int)(w:Int):∃o,j8 [Ob .fi,.lst (R.map D.int),.int w]=some (.ret (oD o))∧a4q .fi R w o:=by
 have lp:(P9 1 (w6 [c8 3,c8 4]) fiB) [.fz (Ob .fi),.fz (.lst (R.map D.int)),.fz (.int w),.no,.no]=l7 (w6 [c8 3,c8 4]) fiB (Q6 (fun k x=>.tup [.int (k:Int),D.int x]) 0 R) [.fz (Ob .fi),.fz (.lst (R.map D.int)),.fz (.int w),.no,.no]:=by
  show l7 (w6 [c8 3,c8 4]) fiB (K7 0 (R.map D.int)) _=_
  rw[a2J]
 have noj:∀pre x post,R=pre++x::post→(∀y∈pre,¬w≤y)→∀j∈En R w,pre.length≤j:=by
  intro pre x post hq hp j hj
  have hj':=M5.mp hj
  by_cases z:pre.length≤j
  ·exact z
  ·exfalso
   have lt:j<pre.length:=by omega
   have e:ra R j=pre[j]:=by
    unfold ra
    rw[hq,List.getD_eq_getElem?_getD,List.getElem?_append_left lt,List.getElem?_eq_getElem lt]
    rfl
   exact hp _ (List.getElem_mem lt) (by rw[← e];exact hj'.2)
 rcases a6Z (b:=w6 [c8 3,c8 4]) (body:=fiB) (fun k x=>.tup [.int (k:Int),D.int x]) (fun pre e=>(∀y∈pre,¬w≤y)∧∃o3 o4:Option D,e=[.fz (Ob .fi),.fz (.lst (R.map D.int)),.fz (.int w),un o3,un o4]) (fun pre x r=>w≤x∧r=.rt (.int (pre.length:Int))) R [.fz (Ob .fi),.fz (.lst (R.map D.int)),.fz (.int w),.no,.no] ⟨fun y m=>absurd m List.not_mem_nil,none,none,rfl⟩ (by
   rintro pre x post e hq ⟨hp,o3,o4,rfl⟩
   by_cases h:w≤x
   ·refine .inl ⟨.rt (.int (pre.length:Int)),rfl,?_,h,rfl⟩
    rw[b2k,v3,b3y _ _ w _ x h]
    rfl
   ·refine .inr ⟨[.fz (Ob .fi),.fz (.lst (R.map D.int)),.fz (.int w),.fz (.int (pre.length:Int)),.fz (.int x)],?_,fun y m=>?_,some (.int (pre.length:Int)),some (.int x),rfl⟩
    ·rw[b2k,v3,b3z _ _ w _ x h]
     rfl
    ·rcases List.mem_append.mp m with m | m
     ·exact hp y m
     ·rw[List.mem_singleton.mp m];exact h)with⟨pre,x,post,r,hq,_,hf,⟨hx,rfl⟩,e',hp,_⟩ | ⟨e',hf,hp,o3,o4,rfl⟩
 ·refine⟨some pre.length,?_,M5.mpr ⟨by rw[hq];simp,by rw[hq,a7e];exact hx⟩,noj pre x post hq hp⟩
  exact b3x _ _ _ w _ (by rw[lp,hf];rfl)
 ·refine⟨none,b2Z _ _ _ w _ (by rw[lp,hf]),?_⟩
  show En R w=[]
  rw[List.eq_nil_iff_forall_not_mem]
  intro j hj
  obtain⟨j1,j2⟩:=M5.mp hj
  have e:ra R j=R[j]:=by
   unfold ra
   rw[List.getD_eq_getElem?_getD,List.getElem?_eq_getElem j1]
   rfl
  exact hp _ (List.getElem_mem j1) (by rw[← e];exact j2)
theorem a8r(R:List Int):K7 0 (R.map D.int)=(List.range R.length).map fun k=>.tup [.int (k:Int),.int (ra R k)]:=by
 apply List.ext_getElem?
 intro i
 by_cases h:i<R.length
 ·have e:(R.map D.int)[i]? = some (.int (ra R i)):=by
   rw[List.getElem?_map,List.getElem?_eq_getElem h]
   unfold ra
   rw[List.getD_eq_getElem?_getD,List.getElem?_eq_getElem h]
   rfl
  rw[a04 e,List.getElem?_map,List.getElem?_range h,Nat.zero_add]
  rfl
 ·rw[List.getElem?_eq_none (by rw[a05,List.length_map];omega),List.getElem?_eq_none (by rw[List.length_map,List.length_range];omega)]
abbrev beC:NF:=(a1b 1 2 [2] (w6 [(c8 0),(c8 1)]) (bZ (eB gGe (eV 1) (eV 2))) (eT (aC (eV 1) (aC (eV 0) aN))))
theorem b3A(w x:Int)(k:Nat):(bZ (eB gGe (eV 1) (eV 2))) [.fz (.int (k:Int)),.fz (.int x),.fz (.int w)]=some (.ok (decide (x≥w)) [.fz (.int (k:Int)),.fz (.int x),.fz (.int w)]):=rfl
theorem a5h(R:List Int)(hl:R.length≤1000)(w:Int)(ob:D):beC [.fz ob,.fz (.lst (R.map D.int)),.fz (.int w),.no]=some (.ok ((En R w).map fun k=>tI [ra R k,(k:Int)]) [.fz ob,.fz (.lst (R.map D.int)),.fz (.int w),.no]):=by
 show l6 (w6 [(c8 0),(c8 1)]) (bZ (eB gGe (eV 1) (eV 2))) (eT (aC (eV 1) (aC (eV 0) aN))) [.no,.no,.fz (.int w)] [.fz ob,.fz (.lst (R.map D.int)),.fz (.int w),.no] (K7 0 (R.map D.int)) []=_
 rw[a8r,N9 (fun k:Nat=>.tup [.int (k:Int),.int (ra R k)]) (fun k=>tI [ra R k,(k:Int)]) (fun k=>decide (ra R k≥w)) (List.range R.length) [] (by rw[List.length_range];show 0+_≤2 ^ 24;omega) (fun k _=>⟨[.fz (.int (k:Int)),.fz (.int (ra R k)),.fz (.int w)],[.fz (.int (k:Int)),.fz (.int (ra R k)),.fz (.int w)],rfl,b3A w (ra R k) k,fun _=>⟨[.fz (.int (k:Int)),.fz (.int (ra R k)),.fz (.int w)],rfl⟩⟩)]
 rfl
theorem b2m(CO:NF)(G:D→Option D)(ob A:D)(w:Int)(L:List D)(h:CO [.fz ob,.fz A,.fz (.int w),.no]=some (.ok L [.fz ob,.fz A,.fz (.int w),.no]))(r:D)(h2:(L=[]∧r=.non)∨((0:Int)<(L.length:Int)∧∃x k:Int,G (.lst L)=some (.tup [.int x,.int k])∧r=.int k)):fD 4 3 (d7 (x9 3 CO) (m4 (eIf (bZ (eB gGt (C0 t6 3) (eC (.int 0)))) (eB d9 (C0 G 3) (eC (.int 1))) (eC .non)))) [ob,A,.int w]=some (.ret r):=by
 rcases h2 with⟨rfl,rfl⟩ | ⟨hl,x,k,hg,rfl⟩<;>walk_at "eh"
theorem b21(R:List Int)(hl:R.length≤1000)(w:Int):∃o,l4 [Ob .be,.lst (R.map D.int),.int w]=some (.ret (oD o))∧a4q .be R w o:=by
 cases hE:En R w with
 | nil =>
  refine⟨none,b2m beC Y1 _ _ w _ (a5h R hl w _) _ (.inl ⟨by rw[hE];rfl,rfl⟩),hE⟩
 | cons k0 E =>
  have hk:T1 ((En R w).map fun k=>tI [ra R k,(k:Int)])=some ((En R w).map fun k=>[ra R k,(k:Int)]):=by
   have:=a2_ (ks:=(En R w).map fun k=>[ra R k,(k:Int)]) (fun l m=>by obtain⟨k,_,rfl⟩:=List.mem_map.mp m;exact List.cons_ne_nil _ _)
   rw[List.map_map]at this
   exact this
  obtain⟨m1,m2,m3⟩:=W7 (E.map fun k=>[ra R k,(k:Int)]) [ra R k0,(k0:Int)]
  have mem:u4 [ra R k0,(k0:Int)] (E.map fun k=>[ra R k,(k:Int)])∈(En R w).map fun k=>[ra R k,(k:Int)]:=by
   rw[hE,List.map_cons]
   rcases m1 with m | m
   ·rw[m];exact List.mem_cons_self
   ·exact List.mem_cons_of_mem _ m
  obtain⟨k,hk1,hk2⟩:=List.mem_map.mp mem
  have hg:Y1 (.lst ((En R w).map fun k=>tI [ra R k,(k:Int)]))=some (.tup [.int (ra R k),.int (k:Int)]):=by
   show(match T1 ((En R w).map fun k=>tI [ra R k,(k:Int)])with | some (k::ks)=>some (tI (u4 k ks)) | _=>none)=_
   rw[hk,hE,List.map_cons]
   show some (tI (u4 [ra R k0,(k0:Int)] (E.map fun k=>[ra R k,(k:Int)])))=_
   rw[← hk2]
   rfl
  refine⟨some k,b2m beC Y1 _ _ w _ (a5h R hl w _) _ (.inr ⟨by rw[List.length_map,hE,List.length_cons];omega,ra R k,(k:Int),hg,rfl⟩),hk1,fun j hj=>?_⟩
  rw[hk2]
  rw[hE]at hj
  rcases List.mem_cons.mp hj with rfl | hj
  ·exact m2
  ·exact m3 _ (List.mem_map.mpr ⟨j,hj,rfl⟩)
def pf:Wk→List D→Option R1 | .nx=>n5 | .fi=>j8 | .be=>l4
theorem b2n(K:Wk)(R:List Int)(hl:R.length≤1000)(w:Int):∃o,pf K [Ob K,.lst (R.map D.int),.int w]=some (.ret (oD o))∧a4q K R w o:=by
 cases K
 ·exact b2Y R w
 ·exact b20 R w
 ·exact b21 R hl w
theorem b3B{tab:Str→Option (List D→Option R1)}{m:Str}{o:ZF}{f:AF}{e e1 e2:DE}{K:Wk}{g:List D→Option R1}{ds:List D}{d:D}(h1:o e=some (.ok (Ob K) e1))(ht:tab (ck K)=some g)(h2:f e1=some (.ok ds e2))(h3:g (Ob K::ds)=some (.ret d)):a2b tab m o f e=some (.ok d e2):=by
 unfold a2b
 rw[h1]
 show(match tab (ck K)with
  | some g=>bnd (f e1) fun ds e2=>toZ (g (Ob K::ds)) e2
  | none=>none)=_
 rw[ht]
 show(bnd (f e1) fun ds e2=>toZ (g (Ob K::ds)) e2)=_
 rw[h2]
 show toZ (g (Ob K::ds)) e2=_
 rw[h3]
 rfl
def Tl:Wk→List Int→Int→Nat→Option Nat→Prop
 | .nx,R,w,n,o=>(o=none∧¬(n=R.length∧0<n∧w≤ra R (n-1)))∨(o=some (n-1)∧n=R.length∧0<n∧w≤ra R (n-1))
 | .fi,R,w,n,none=>∀j,j<n→¬w≤ra R j
 | .fi,R,w,n,some k=>k<n∧w≤ra R k∧∀j,j<n→w≤ra R j→k≤j
 | .be,R,w,n,none=>∀j,j<n→¬w≤ra R j
 | .be,R,w,n,some k=>k<n∧w≤ra R k∧∀j,j<n→w≤ra R j→ra R k<ra R j∨(ra R k=ra R j∧k≤j)
theorem b3C{a b c d:Int}(h:HT.lexLt [c,d] [a,b]=false):a<c∨(a=c∧b≤d):=by
 rw[HT.lexLt_cons]at h
 by_cases e:c=a
 ·rw[if_pos e,HT.lexLt_cons]at h
  by_cases e2:d=b
  ·exact .inr ⟨e.symm,by omega⟩
  ·rw[if_neg e2]at h
   have:=of_decide_eq_false h
   exact .inr ⟨e.symm,by omega⟩
 ·rw[if_neg e]at h
  have:=of_decide_eq_false h
  exact .inl (by omega)
theorem b0J{K:Wk}{R:List Int}{w:Int}{o:Option Nat}(h:a4q K R w o):Tl K R w R.length o:=by
 cases K with
 | nx =>
  cases o with
  | none=>exact .inl ⟨rfl,fun z=>h z.2⟩
  | some k =>
   have h:k+1=R.length∧w≤ra R k:=h
   have e:R.length-1=k:=by omega
   refine .inr ⟨by rw[e],rfl,by omega,by rw[e];exact h.2⟩
 | fi =>
  cases o with
  | none =>
   intro j hj hw
   have:j∈En R w:=M5.mpr ⟨hj,hw⟩
   rw[show En R w=[]from h]at this
   exact absurd this List.not_mem_nil
  | some k =>
   have m:=M5.mp h.1
   exact⟨m.1,m.2,fun j hj hw=>h.2 j (M5.mpr ⟨hj,hw⟩)⟩
 | be =>
  cases o with
  | none =>
   intro j hj hw
   have:j∈En R w:=M5.mpr ⟨hj,hw⟩
   rw[show En R w=[]from h]at this
   exact absurd this List.not_mem_nil
  | some k =>
   have m:=M5.mp h.1
   refine⟨m.1,m.2,fun j hj hw=>?_⟩
   have:=b3C (h.2 j (M5.mpr ⟨hj,hw⟩))
   omega
theorem a89(K:Wk)(R:List Int)(w:Int)(hl:R.length≤1000):∃o,pf K [Ob K,.lst (R.map D.int),.int w]=some (.ret (oD o))∧Tl K R w R.length o:=by
 obtain⟨o,h1,h2⟩:=b2n K R hl w
 exact⟨o,h1,b0J h2⟩
abbrev Wr:=Int×Int×Bool
def wD(q:Wr):D:=.tup [.int q.1,.int q.2.1,.bl q.2.2]
def gq(L:List Wr)(k:Nat):Wr:=L.getD k (0,0,false)
theorem a8s{L:List Wr}{k:Nat}(hk:k<L.length):atI (L.map wD) (k:Int)=some (wD (gq L k)):=by
 apply a0V
 rw[List.getElem?_map,List.getElem?_eq_getElem hk]
 unfold gq
 rw[List.getD_eq_getElem?_getD,List.getElem?_eq_getElem hk]
 rfl
abbrev oL(σ:List Nat):List D:=σ.map fun(k:Nat)=>D.int (k:Int)
structure S4 where
 R:List Int
 F:List Int
 h:Int
 P:List D
def step(W:Int)(L:List Wr)(s:S4)(k:Nat):Option Nat→S4
 | none=>⟨s.R++[W-(gq L k).1],s.F++[s.h],s.h+(gq L k).2.1,s.P.set k (.tup [.int (W-W),.int s.h,.bl false])⟩
 | some j=>⟨s.R.set j (ra s.R j-(gq L k).1),s.F,s.h,s.P.set k (.tup [.int (W-ra s.R j),.int (ra s.F j),.bl false])⟩
noncomputable def pk(K:Wk)(R:List Int)(w:Int):Option Nat:=if h:R.length≤1000 then(a89 K R w h).choose else none
theorem a50{K:Wk}{R:List Int}{w:Int}(h:R.length≤1000):pf K [Ob K,.lst (R.map D.int),.int w]=some (.ret (oD (pk K R w)))∧Tl K R w R.length (pk K R w):=by
 unfold pk
 rw[dif_pos h]
 exact(a89 K R w h).choose_spec
theorem b22{K:Wk}{R:List Int}{w:Int}{n k:Nat}(h:Tl K R w n (some k)):k<n:=by
 cases K with
 | nx =>
  rcases h with⟨h,_⟩ | ⟨h,_,h2,_⟩
  ·cases h
  ·injection h with h;omega
 | fi=>exact h.1
 | be=>exact h.1
noncomputable def nxt(W:Int)(K:Wk)(L:List Wr)(s:S4)(k:Nat):S4:=step W L s k (pk K s.R (gq L k).1)
noncomputable def run(W:Int)(K:Wk)(L:List Wr)(l:List Nat):S4:=l.foldl (nxt W K L) ⟨[],[],0,List.replicate L.length .non⟩
theorem b0K(W:Int)(K:Wk)(L:List Wr)(l:List Nat)(k:Nat):run W K L (l++[k])=nxt W K L (run W K L l) k:=by
 unfold run
 rw[List.foldl_append]
 rfl
def plT(d:D):Prop:=∃a b:Int,d=.tup [.int a,.int b,.bl false]
structure Good(L:List Wr)(l:List Nat)(s:S4):Prop where
 fl:s.F.length=s.R.length
 rl:s.R.length≤l.length
 pl:s.P.length=L.length
 pt:∀k∈l,k<L.length→∃d,s.P[k]? = some d∧plT d
theorem a4r{W:Int}{K:Wk}{L:List Wr}{l:List Nat}{s:S4}{k:Nat}(g:Good L l s):Good L (l++[k]) (nxt W K L s k):=by
 have hs:∀(d:D),plT d→∀j∈l++[k],j<L.length→∃d',(s.P.set k d)[j]? = some d'∧plT d':=by
  intro d hd j hj hn
  by_cases e:k=j
  ·subst e
   exact⟨d,by rw[List.getElem?_set_self (by rw[g.pl];exact hn)],hd⟩
  ·rw[List.getElem?_set_ne e]
   rcases List.mem_append.mp hj with m | m
   ·exact g.pt j m hn
   ·exact absurd (List.mem_singleton.mp m).symm e
 unfold nxt
 cases pk K s.R (gq L k).1 with
 | none =>
  refine⟨?_,?_,?_,hs _ ⟨_,_,rfl⟩⟩
  ·show(s.F++[s.h]).length=(s.R++[_]).length
   rw[List.length_append,List.length_append,g.fl];rfl
  ·show(s.R++[_]).length≤_
   rw[List.length_append,List.length_append,List.length_singleton,List.length_singleton]
   have:=g.rl;omega
  ·show(s.P.set k _).length=_
   rw[List.length_set];exact g.pl
 | some j =>
  refine⟨?_,?_,?_,hs _ ⟨_,_,rfl⟩⟩
  ·show s.F.length=(s.R.set j _).length
   rw[List.length_set];exact g.fl
  ·show(s.R.set j _).length≤_
   rw[List.length_set,List.length_append]
   have:=g.rl;omega
  ·show(s.P.set k _).length=_
   rw[List.length_set];exact g.pl
theorem a8t(W:Int)(K:Wk)(L:List Wr)(l:List Nat):Good L l (run W K L l):=by
 suffices h:∀(l pre:List Nat) (s:S4),Good L pre s→Good L (pre++l) (l.foldl (nxt W K L) s) by
  have:=h l [] ⟨[],[],0,List.replicate L.length .non⟩ ⟨rfl,Nat.le_refl _,List.length_replicate,fun k m=>absurd m List.not_mem_nil⟩
  exact this
 intro l
 induction l with
 | nil=>intro pre s g;rw[List.append_nil];exact g
 | cons k l ih =>
  intro pre s g
  have:=ih (pre++[k]) (nxt W K L s k) (a4r g)
  rw[List.append_assoc]at this
  exact this
abbrev shB(ME:ZF):SF:=(d7 (a5N (L9 D4 1 (eV 8)) (w6 [(c8 9),(c8 10),(c8 11)])) (d7 (u5 12 ME) (d7 (C7 (bZ (eB (a1x false) (eV 12) (eC .non))) (d7 (u5 12 (C0 t6 4)) (d7 (N5 4 (eV 0)) (d7 (N5 5 (eV 6)) (a2F 6 (fun i j=>i+j) (eV 10))))) C6) (d7 (a5L 7 (eV 8) (eT (aC (eB O7 (eV 0) (L9 D4 4 (eV 12))) (aC (L9 D4 5 (eV 12)) (aC (eC (.bl false)) aN))))) (a2a 4 (eV 12) (fun i j=>i-j) (eV 9))))))
theorem b3D(ME:ZF)(W h k w hh:Int)(t:Bool)(B A Fl P:List D)(wd ob:D)(o9 o10 o11 o12:Option D)(kn an:Nat)(hA:(A.length:Int)=an)
  (a0:atI B k=some (.tup [.int w,.int hh,.bl t])) (hm:ME [.fz (.int W),.fz (.lst B),.fz wd,.fz ob,.ow A,.ow Fl,.fz (.int h),.ow P,.fz (.int k),.fz (.int w),.fz (.int hh),.fz (.bl t),un o12]=some (.ok .non [.fz (.int W),.fz (.lst B),.fz wd,.fz ob,.ow A,.ow Fl,.fz (.int h),.ow P,.fz (.int k),.fz (.int w),.fz (.int hh),.fz (.bl t),un o12]))
  (l1:A.length<sizeLine) (l2:Fl.length<sizeLine) (a1:atI (A++[D.int W]) (an:Int)=some (.int W)) (a2:atI (Fl++[D.int h]) (an:Int)=some (.int h)) (x1:G1 P.length k=some kn) (x2:G1 (A++[D.int W]).length (an:Int)=some an) :
  shB ME [.fz (.int W),.fz (.lst B),.fz wd,.fz ob,.ow A,.ow Fl,.fz (.int h),.ow P,.fz (.int k),un o9,un o10,un o11,un o12]=some (.nx [.fz (.int W),.fz (.lst B),.fz wd,.fz ob,.ow ((A++[D.int W]).set an (.int (W-w))),.ow (Fl++[D.int h]),.fz (.int (h+hh)),.ow (P.set kn (.tup [.int (W-W),.int h,.bl false])),.fz (.int k),.fz (.int w),.fz (.int hh),.fz (.bl t),.fz (.int an)]):=by
 unfold shB
 have g1:w6 [c8 9,c8 10,c8 11] (.tup [.int w,.int hh,.bl t]) [.fz (.int W),.fz (.lst B),.fz wd,.fz ob,.ow A,.ow Fl,.fz (.int h),.ow P,.fz (.int k),un o9,un o10,un o11,un o12]=some [.fz (.int W),.fz (.lst B),.fz wd,.fz ob,.ow A,.ow Fl,.fz (.int h),.ow P,.fz (.int k),.fz (.int w),.fz (.int hh),.fz (.bl t),un o12]:=by
  cases o9<;>cases o10<;>cases o11<;>rfl
 generalize w6 [c8 9,c8 10,c8 11]=BT at *
 generalize un o9=s9 at *
 generalize un o10=s10 at *
 generalize un o11=s11 at *
 cases o12<;>simp only[un]at * <;>walk_at "eh" <;>simp only[a2F,eV,look,List.getElem?_cons_zero,List.getElem?_cons_succ,List.set_cons_zero,List.set_cons_succ,a0B]<;>walk_at "eh"
theorem b3E(ME:ZF)(W h k w hh x y:Int)(t:Bool)(B A Fl P:List D)(wd ob:D)(o9 o10 o11 o12:Option D)(kn j:Nat)
  (a0:atI B k=some (.tup [.int w,.int hh,.bl t])) (hm:ME [.fz (.int W),.fz (.lst B),.fz wd,.fz ob,.ow A,.ow Fl,.fz (.int h),.ow P,.fz (.int k),.fz (.int w),.fz (.int hh),.fz (.bl t),un o12]=some (.ok (.int (j:Int)) [.fz (.int W),.fz (.lst B),.fz wd,.fz ob,.ow A,.ow Fl,.fz (.int h),.ow P,.fz (.int k),.fz (.int w),.fz (.int hh),.fz (.bl t),un o12]))
  (a1:atI A (j:Int)=some (.int x)) (a2:atI Fl (j:Int)=some (.int y)) (x1:G1 P.length k=some kn) (x2:G1 A.length (j:Int)=some j) :
  shB ME [.fz (.int W),.fz (.lst B),.fz wd,.fz ob,.ow A,.ow Fl,.fz (.int h),.ow P,.fz (.int k),un o9,un o10,un o11,un o12]=some (.nx [.fz (.int W),.fz (.lst B),.fz wd,.fz ob,.ow (A.set j (.int (x-w))),.ow Fl,.fz (.int h),.ow (P.set kn (.tup [.int (W-x),.int y,.bl false])),.fz (.int k),.fz (.int w),.fz (.int hh),.fz (.bl t),.fz (.int j)]):=by
 unfold shB
 have g1:w6 [c8 9,c8 10,c8 11] (.tup [.int w,.int hh,.bl t]) [.fz (.int W),.fz (.lst B),.fz wd,.fz ob,.ow A,.ow Fl,.fz (.int h),.ow P,.fz (.int k),un o9,un o10,un o11,un o12]=some [.fz (.int W),.fz (.lst B),.fz wd,.fz ob,.ow A,.ow Fl,.fz (.int h),.ow P,.fz (.int k),.fz (.int w),.fz (.int hh),.fz (.bl t),un o12]:=by
  cases o9<;>cases o10<;>cases o11<;>rfl
 generalize w6 [c8 9,c8 10,c8 11]=BT at *
 generalize un o9=s9 at *
 generalize un o10=s10 at *
 generalize un o11=s11 at *
 cases o12<;>simp only[un]at * <;>walk_at "eh"
theorem ixn{n k:Nat}(h:k<n):G1 n (k:Int)=some k:=b0w h
theorem b0L(R:List Int)(W w:Int):((R.map D.int)++[D.int W]).set R.length (.int (W-w))=(R++[W-w]).map D.int:=by
 rw[List.set_append_right _ _ (by rw[List.length_map];exact Nat.le_refl _),List.length_map,Nat.sub_self,List.map_append]
 rfl
theorem a7f(R:List Int)(n:Nat)(h:R.length=n)(W:Int):atI ((R.map D.int)++[D.int W]) (n:Int)=some (.int W):=by
 apply a0V
 rw[List.getElem?_append_right (by rw[List.length_map];omega),List.length_map,h,Nat.sub_self]
 rfl
abbrev ME0:ZF:=(a2b (V4 n5 j8 l4) "pick" (eV 3) (aC (zN (nCV W2 4)) (aC (eV 9) aN)))
abbrev shE(W:Int)(L:List Wr)(K:Wk)(s:S4)(o8 o9 o10 o11 o12:Option D):DE:=[.fz (.int W),.fz (.lst (L.map wD)),.fz (.str (wk K)),.fz (Ob K),.ow (s.R.map D.int),.ow (s.F.map D.int),.fz (.int s.h),.ow s.P,un o8,un o9,un o10,un o11,un o12]
theorem b0M(A Fl P:List D)(hl:A.length≤sizeLine)(a b c d h k w x y:D)(s12:Sl):(aC (zN (nCV W2 4)) (aC (eV 9) aN)) [.fz a,.fz b,.fz c,.fz d,.ow A,.ow Fl,.fz h,.ow P,.fz k,.fz w,.fz x,.fz y,s12]=some (.ok [.lst A,w] [.fz a,.fz b,.fz c,.fz d,.ow A,.ow Fl,.fz h,.ow P,.fz k,.fz w,.fz x,.fz y,s12]):=by
 walk_at "eh"
theorem b23(W:Int)(L:List Wr)(K:Wk)(σ:List Nat)(hσ:∀k∈σ,k<L.length)(hl:σ.length≤1000):∃o8 o9 o10 o11 o12,l7 (c8 8) (shB ME0) (oL σ) (shE W L K ⟨[],[],0,List.replicate L.length .non⟩ none none none none none)=some (.nx (shE W L K (run W K L σ) o8 o9 o10 o11 o12)):=by
 obtain⟨e',h1,o8,o9,o10,o11,o12,rfl⟩:=a1a (b:=c8 8) (body:=shB ME0) (fun(k:Nat)=>D.int (k:Int)) (fun pre e=>∃o8 o9 o10 o11 o12,e=shE W L K (run W K L pre) o8 o9 o10 o11 o12) σ (shE W L K ⟨[],[],0,List.replicate L.length .non⟩ none none none none none) ⟨none,none,none,none,none,rfl⟩ (by
  rintro pre k post e hq ⟨o8,o9,o10,o11,o12,rfl⟩
  have g:=a8t W K L pre
  have hk:k<L.length:=hσ k (by rw[hq];simp)
  have hpre:pre.length≤1000:=by have:=congrArg List.length hq;rw[List.length_append,List.length_cons]at this;omega
  rw[b0K]
  unfold nxt
  generalize run W K L pre=s at g
  have hR:s.R.length≤1000:=by have:=g.rl;omega
  have hp:=(a50 (K:=K) (w:=(gq L k).1) hR).1
  have hT:=(a50 (K:=K) (w:=(gq L k).1) hR).2
  have hb:c8 8 (.int (k:Int)) (shE W L K s o8 o9 o10 o11 o12)=some (shE W L K s (some (.int (k:Int))) o9 o10 o11 o12):=by cases o8<;>rfl
  have a0:=a8s hk
  have hm:=b3B (tab:=V4 n5 j8 l4) (m := "pick") (o:=eV 3) (K:=K) (g:=pf K) (ds:=[.lst (s.R.map D.int),.int (gq L k).1]) (e:=[.fz (.int W),.fz (.lst (L.map wD)),.fz (.str (wk K)),.fz (Ob K),.ow (s.R.map D.int),.ow (s.F.map D.int),.fz (.int s.h),.ow s.P,.fz (.int (k:Int)),.fz (.int (gq L k).1),.fz (.int (gq L k).2.1),.fz (.bl (gq L k).2.2),un o12]) rfl (by cases K<;>rfl) (b0M _ _ _ (by rw[List.length_map];show _≤2 ^ 24;omega) _ _ _ _ _ _ _ _ _ _) hp
  have x1:G1 s.P.length (k:Int)=some k:=ixn (by rw[g.pl];exact hk)
  generalize pk K s.R (gq L k).1=o at *
  cases o with
  | none =>
   refine⟨_,?_,some (.int (k:Int)),some (.int (gq L k).1),some (.int (gq L k).2.1),some (.bl (gq L k).2.2),some (.int (s.R.length:Int)),rfl⟩
   rw[hb,v3]
   refine(congrArg A5 (b3D ME0 W s.h (k:Int) (gq L k).1 (gq L k).2.1 (gq L k).2.2 (L.map wD) (s.R.map D.int) (s.F.map D.int) s.P _ _ o9 o10 o11 o12 k s.R.length (by rw[List.length_map]) a0 hm (by rw[List.length_map];show _<2 ^ 24;omega) (by rw[List.length_map,g.fl];show _<2 ^ 24;omega) (a7f _ _ rfl _) (a7f _ _ g.fl _) x1 (ixn (by rw[List.length_append,List.length_map];simp)))).trans ?_
   rw[b0L]
   rw[show s.F.map D.int++[D.int s.h]=(s.F++[s.h]).map D.int by rw[List.map_append];rfl]
   rfl
  | some j =>
   have hj:j<s.R.length:=b22 hT
   refine⟨_,?_,some (.int (k:Int)),some (.int (gq L k).1),some (.int (gq L k).2.1),some (.bl (gq L k).2.2),some (.int (j:Int)),rfl⟩
   rw[hb,v3]
   refine(congrArg A5 (b3E ME0 W s.h (k:Int) (gq L k).1 (gq L k).2.1 (ra s.R j) (ra s.F j) (gq L k).2.2 (L.map wD) (s.R.map D.int) (s.F.map D.int) s.P _ _ o9 o10 o11 o12 k j a0 hm (a88 hj) (a88 (by rw[g.fl];exact hj)) x1 (ixn (by rw[List.length_map];exact hj)))).trans ?_
   rw[← List.map_set]
   rfl)
 exact⟨o8,o9,o10,o11,o12,h1⟩
abbrev cwB:SF:=(C7 (bZ (eB gGt (eB d9 (eV 3) (eC (.int 0))) (eV 0))) a5V C6)
theorem b3F(W w hh:Int)(t:Bool)(B:D)(k:D)(hw:¬W<w):cwB [.fz (.int W),.fz B,.fz k,.fz (.tup [.int w,.int hh,.bl t])]=some (.nx [.fz (.int W),.fz B,.fz k,.fz (.tup [.int w,.int hh,.bl t])]):=by
 unfold cwB
 walk_at "eh"
theorem b24(W:Int)(L:List Wr)(h:∀q∈L,q.1≤W):y8 [.int W,.lst (L.map wD)]=some (.ret .non):=by
 have lp:∃o2 o3,l7 (w6 [c8 2,c8 3]) cwB (Q6 (fun k x=>.tup [.int (k:Int),wD x]) 0 L) [.fz (.int W),.fz (.lst (L.map wD)),.no,.no]=some (.nx [.fz (.int W),.fz (.lst (L.map wD)),un o2,un o3]):=by
  rcases a6Z (b:=w6 [c8 2,c8 3]) (body:=cwB) (fun k x=>.tup [.int (k:Int),wD x]) (fun pre e=>∃o2 o3:Option D,e=[.fz (.int W),.fz (.lst (L.map wD)),un o2,un o3]) (fun pre x r=>False) L [.fz (.int W),.fz (.lst (L.map wD)),.no,.no] ⟨none,none,rfl⟩ (by
   rintro pre x post e hq ⟨o2,o3,rfl⟩
   refine .inr ⟨[.fz (.int W),.fz (.lst (L.map wD)),.fz (.int (pre.length:Int)),.fz (wD x)],?_,some (.int (pre.length:Int)),some (wD x),rfl⟩
   have hb:w6 [c8 2,c8 3] (.tup [.int (pre.length:Int),wD x]) [.fz (.int W),.fz (.lst (L.map wD)),un o2,un o3]=some [.fz (.int W),.fz (.lst (L.map wD)),.fz (.int (pre.length:Int)),.fz (wD x)]:=by
    cases o2<;>cases o3<;>rfl
   rw[hb,v3]
   refine(congrArg A5 (b3F W x.1 x.2.1 x.2.2 _ _ ?_)).trans rfl
   have:=h x (by rw[hq];simp)
   omega)with⟨_,_,_,_,_,_,_,z,_⟩ | ⟨e',hf,o2,o3,rfl⟩
  ·exact z.elim
  ·exact⟨o2,o3,hf⟩
 obtain⟨o2,o3,lp⟩:=lp
 have e:P9 1 (w6 [c8 2,c8 3]) cwB [.fz (.int W),.fz (.lst (L.map wD)),.no,.no]=some (.nx [.fz (.int W),.fz (.lst (L.map wD)),un o2,un o3]):=by
  show l7 (w6 [c8 2,c8 3]) cwB (K7 0 (L.map wD)) _=_
  rw[a2J]
  exact lp
 show Q5 (P9 1 (w6 [c8 2,c8 3]) cwB [.fz (.int W),.fz (.lst (L.map wD)),.no,.no])=_
 rw[e]
 rfl
theorem b25(K:Wk):A0 [.str (wk K)]=some (.ret (Ob K)):=by
 cases K<;> (unfold A0 a0P;rfl)
theorem b2q(n:Nat)(h:n≤1000):a2A (.lst [.non]) (.int (n:Int))=some (List.replicate n .non):=by
 rw[a2A,if_pos ⟨by omega,by omega,by rw[List.length_singleton,Int.toNat_natCast];show _≤2 ^ 24;omega⟩,Int.toNat_natCast,List.flatten_replicate_singleton]
theorem b2r{n:Nat}(h:n≤1000):a2B [.int (n:Int)]=some (0,n):=by
 unfold a2B
 show(if _ then _ else _)=_
 rw[if_pos (by omega)]
 simp
theorem b0N{rg:List D→Option (Int×Nat)}{f:AF}{b:GF}{body:SF}{e e1:DE}{ds:List D}{lo:Int}{n:Nat}(h:f e=some (.ok ds e1))(hr:rg ds=some (lo,n)):a17 rg f b body e=l7 b body (Q3 lo n) e1:=by
 unfold a17;rw[h,a0B,hr]
theorem a8u(x:Int):t4 [.int x]=some (.ret (.bl true)):=by
 unfold t4 a3a
 walk_at "ev"
 rfl
theorem b3G(m:Nat):Q3 0 m=(List.range m).map fun(k:Nat)=>D.int (k:Int):=by
 unfold Q3
 refine List.map_congr_left fun i _=>?_
 rw[Int.zero_add]
theorem a8v{α β:Type}(f:α→β){a:List β}{b:List β}(h:a.Perm b):∀l:List α,b=l.map f→∃m:List α,m.Perm l∧a=m.map f:=by
 induction h with
 | nil=>intro l e;exact⟨l,.refl _,e⟩
 | cons x p ih =>
  intro l e
  cases l with
  | nil=>cases e
  | cons y l =>
   rw[List.map_cons]at e
   injection e with e1 e2
   obtain⟨m,p1,q1⟩:=ih l e2
   exact⟨y::m,p1.cons y,by rw[List.map_cons,e1,q1]⟩
 | swap x y r =>
  intro l e
  match l,e with
  | a::b::l,e =>
   rw[List.map_cons,List.map_cons]at e
   injection e with e1 e2
   injection e2 with e2 e3
   exact⟨b::a::l,.swap _ _ _,by rw[List.map_cons,List.map_cons,e1,e2,e3]⟩
 | trans p q ih1 ih2 =>
  intro l e
  obtain⟨m1,p1,q1⟩:=ih2 l e
  obtain⟨m2,p2,q2⟩:=ih1 m1 q1
  exact⟨m2,p2.trans p1,q2⟩
theorem a4u{L:List Wr}{k:Nat}(hk:k<L.length):gq L k∈L:=by
 unfold gq
 rw[List.getD_eq_getElem?_getD,List.getElem?_eq_getElem hk]
 exact List.getElem_mem hk
def V5(kf:Nat→List Int)(n:Nat):List (List Int):=(List.range n).map kf
theorem b2s(el:ZF)(kf:Nat→List Int)(sl:Sl)(N:Nat)(nn:∀k,kf k≠[])(st:∀k,k<N→el [.fz (.int (k:Int)),sl]=some (.ok (.tup ((kf k).map D.int)) [.fz (.int (k:Int)),sl]))(n:Nat)(hn:n≤N):X2 el [.no,sl] n=some (V5 kf n):=by
 induction n with
 | zero=>rfl
 | succ n ih =>
  unfold X2
  rw[ih (by omega)]
  have st:el (List.set [.no,sl] 0 (.fz (.int (n:Int))))=_:=st n (by omega)
  rw[st]
  show(match v8 ((kf n).map D.int)with
   | some k=>if k≠[]then some (V5 kf n++[k])else none
   | none=>none)=_
  rw[L2.ints_map]
  show(if kf n≠[]then _ else _)=_
  rw[if_pos (nn n)]
  unfold V5
  rw[List.range_succ,List.map_append]
  rfl
theorem b2t(kf:Nat→List Int)(n m:Nat)(hl:∀k,(kf k).length=m)(inj:∀i j,kf i=kf j→i=j):okK (V5 kf n)=true:=by
 unfold okK
 rw[Bool.and_eq_true]
 constructor
 ·refine decide_eq_true ?_
  unfold V5
  rw[List.nodup_iff_pairwise_ne,List.pairwise_map]
  refine List.Pairwise.imp ?_ (List.nodup_range (n:=n))
  intro i j h e
  exact h (inj i j e)
 ·rw[List.all_eq_true]
  intro k mm
  obtain⟨i,hi,rfl⟩:=List.mem_map.mp mm
  have hn:=List.mem_range.mp hi
  unfold V5
  cases n with
  | zero=>omega
  | succ n=>rw[List.range_succ_eq_map,List.map_cons,List.headD_cons,hl,hl];exact beq_self_eq_true _
theorem b2u(kf:Nat→List Int)(n:Nat)(inj:∀i j,kf i=kf j→i=j):∃σ:List Nat,σ.Perm (List.range n)∧σ.Pairwise (fun a b=>HT.lexLt (kf a) (kf b)=true)∧((T2 (O9 (V5 kf n))).map fun q=>q.2.headD .non)=oL σ:=by
 have hl:(V5 kf n).length=n:=by unfold V5;rw[List.length_map,List.length_range]
 have hr:O9 (V5 kf n)=(List.range n).map fun(k:Nat)=>((kf k,[D.int (k:Int)]):Q8):=by
  unfold O9
  rw[hl]
  refine List.map_congr_left fun k m=>?_
  have hk:=List.mem_range.mp m
  have:(V5 kf n).getD k []=kf k:=by
   unfold V5
   rw[List.getD_eq_getElem?_getD,List.getElem?_map,List.getElem?_range hk]
   rfl
  rw[this]
 obtain⟨σ,h1,h2⟩:=a8v (fun(k:Nat)=>((kf k,[D.int (k:Int)]):Q8)) (a0e (O9 (V5 kf n))) (List.range n) hr
 refine⟨σ,h1,?_,by rw[h2,List.map_map];rfl⟩
 have hs:=V3 (O9 (V5 kf n))
 rw[h2,List.pairwise_map]at hs
 have nd:σ.Pairwise (·≠·):=List.nodup_iff_pairwise_ne.mp (h1.nodup_iff.mpr List.nodup_range)
 refine(hs.and nd).imp ?_
 rintro a b ⟨x,y⟩
 cases z:HT.lexLt (kf a) (kf b)with
 | true=>rfl
 | false=>exact absurd (inj a b (V2 _ _ z x)) y
theorem b3H(el:ZF)(sl:Sl)(js:List Nat)(i:Nat)(e:DE)(B R:List D)(ks:List (List Int))(n:Nat)(h0:(aC (C0 t6 i) aN) e=some (.ok [.int (B.length:Int)] e))(hc:j4 1 js e=[.no,sl])(hB:B.length=n)(h64:n<1000)(hk:X2 el [.no,sl] n=some ks)(ok:okK ks=true)(hR:((T2 (O9 ks)).map fun q=>q.2.headD .non)=R):a0M js (aC (C0 t6 i) aN) el e=some (.ok R e):=by
 unfold a0M
 rw[h0,X8]
 show(if 0≤(B.length:Int)∧(B.length:Int)<1000 then(match X2 el (j4 1 js e) (B.length:Int).toNat with
   | some ks=>if okK ks=true then some (L2.R.ok ((T2 (O9 ks)).map fun q=>q.2.headD .non) e)else none
   | none=>none)else none)=_
 rw[if_pos ⟨by omega,by omega⟩,Int.toNat_natCast,hB,hc,hk]
 show(if okK ks=true then _ else _)=_
 rw[if_pos ok,hR]
abbrev elH:ZF:=(eT (aC (eU a0C (eB d9 (L9 D4 1 (eV 0)) (eC (.int 1)))) (aC (eU a0C (eB d9 (L9 D4 1 (eV 0)) (eC (.int 0)))) (aC (eV 0) aN))))
theorem a8w(B:List D)(k w h:Int)(t:Bool)(a1:atI B k=some (.tup [.int w,.int h,.bl t])):elH [.fz (.int k),.fz (.lst B)]=some (.ok (.tup [.int (-h),.int (-w),.int k]) [.fz (.int k),.fz (.lst B)]):=by
 unfold elH
 walk_at "eh"
def kH(L:List Wr)(k:Nat):List Int:=[-(gq L k).2.1,-(gq L k).1,(k:Int)]
theorem a7h(L:List Wr)(i j:Nat)(h:kH L i=kH L j):i=j:=by
 unfold kH at h
 injection h with _ h
 injection h with _ h
 injection h with h
 omega
theorem a7i(L:List Wr)(hl:L.length<1000):∃σ:List Nat,r6 [.lst (L.map wD)]=some (.own (oL σ))∧σ.Perm (List.range L.length)∧σ.Pairwise (fun a b=>HT.lexLt (kH L a) (kH L b)=true):=by
 obtain⟨σ,h1,h2,h3⟩:=b2u (kH L) L.length (a7h L)
 refine⟨σ,?_,h1,h2⟩
 have e:=b3H elH (.fz (.lst (L.map wD))) [0] 0 [.fz (.lst (L.map wD))] (L.map wD) (oL σ) (V5 (kH L) L.length) L.length rfl rfl (by rw[List.length_map]) hl (b2s _ (kH L) _ L.length (fun k=>List.cons_ne_nil _ _) (fun k hk=>a8w (L.map wD) k _ _ _ (a8s hk)) _ (Nat.le_refl _)) (b2t _ _ 3 (fun _=>rfl) (a7h L)) h3
 have:r6 [.lst (L.map wD)]=Q5 (G2 ((a0M [0] (aC (C0 t6 0) aN) elH) [.fz (.lst (L.map wD))]) fun ds _=>some (.ro ds)):=rfl
 rw[this,e]
 rfl
theorem a9a{L:List Wr}{a b:Nat}(h:HT.lexLt (kH L a) (kH L b)=true):(gq L b).2.1≤(gq L a).2.1:=by
 unfold kH at h
 rw[HT.lexLt_cons]at h
 split at h
 ·omega
 ·have:=of_decide_eq_true h
  omega
theorem a7j(LP:SF)(SO CW:List D→Option R1)(GR:D→D→Option (List D))(W h:Int)(wd ob:D)(B P0 P A Fl:List D)(o8 o9 o10 o11 o12:Option D)(n:Nat)(hn:B.length=n)(h1:SO [wd]=some (.ret ob))(h2:CW [.int W,.lst B]=some (.ret .non))(h3:GR (.lst [.non]) (.int (n:Int))=some P0)
  (h4:LP [.fz (.int W),.fz (.lst B),.fz wd,.fz ob,.ow [],.ow [],.fz (.int 0),.ow P0,.no,.no,.no,.no,.no]=some (.nx [.fz (.int W),.fz (.lst B),.fz wd,.fz ob,.ow A,.ow Fl,.fz (.int h),.ow P,un o8,un o9,un o10,un o11,un o12])) :
  fD 13 3 (d7 (a3w 3 SO (aC (eV 2) aN)) (d7 (sEx (a3u CW (aC (eV 0) (aC (eV 1) aN)))) (d7 (x9 4 (eL aN)) (d7 (x9 5 (eL aN)) (d7 (u5 6 (eC (.int 0))) (d7 (x9 7 (nB GR (zN (eL (aC (eC .non) aN))) (C0 t6 1))) (d7 LP (a1c 6 7)))))))) [.int W,.lst B,wd]=some (.owp h P):=by
 have e:a1c 6 7 [.fz (.int W),.fz (.lst B),.fz wd,.fz ob,.ow A,.ow Fl,.fz (.int h),.ow P,un o8,un o9,un o10,un o11,un o12]=some (.rp h P):=rfl
 have fr:Q5 (some (.rp h P))=some (.owp h P):=rfl
 generalize a1c 6 7=RP at *
 walk_at "eh"
theorem a51(W:Int)(L:List Wr)(K:Wk)(hl:L.length<1000)(hw:∀q∈L,q.1≤W)(σ:List Nat)(hp:σ.Perm (List.range L.length))(h:r6 [.lst (L.map wD)]=some (.own (oL σ))):y3 [.int W,.lst (L.map wD),.str (wk K)]=some (.owp (run W K L σ).h (run W K L σ).P):=by
 have hσ:∀k∈σ,k<L.length:=fun k m=>List.mem_range.mp (hp.mem_iff.mp m)
 have hn:σ.length=L.length:=by rw[hp.length_eq,List.length_range]
 obtain⟨o8,o9,o10,o11,o12,lp⟩:=b23 W L K σ hσ (by omega)
 refine a7j _ A0 y8 a2A W _ _ (Ob K) (L.map wD) (List.replicate L.length .non) _ ((run W K L σ).R.map D.int) ((run W K L σ).F.map D.int) o8 o9 o10 o11 o12 L.length (by rw[List.length_map]) (b25 K) (b24 W L hw) (b2q _ (by omega)) ?_
 have e:i8 r6 (aC (eV 1) aN) (shE W L K ⟨[],[],0,List.replicate L.length .non⟩ none none none none none)=some (.ok (.lst (oL σ)) (shE W L K ⟨[],[],0,List.replicate L.length .non⟩ none none none none none)):=by
  show Z3 (r6 [.lst (L.map wD)]) _=_
  rw[h]
  rfl
 show a3_ (i8 r6 (aC (eV 1) aN)) (c8 8) (shB ME0) (shE W L K ⟨[],[],0,List.replicate L.length .non⟩ none none none none none)=_
 unfold a3_
 rw[e,a0B]
 exact lp
def plc(x y:Int):D:=.tup [.int x,.int y,.bl false]
def ArL(L:List Wr)(l:List Nat):Int:=(l.map fun k=>(gq L k).1*(gq L k).2.1).sum
theorem a5j(L:List Wr)(l:List Nat)(k:Nat):ArL L (l++[k])=ArL L l+(gq L k).1*(gq L k).2.1:=by
 unfold ArL
 rw[List.map_append,List.sum_append]
 simp
theorem a8x{R:List Int}{a:Int}{i:Nat}(h:i<R.length):ra (R++[a]) i=ra R i:=by
 unfold ra
 rw[List.getD_eq_getElem?_getD,List.getD_eq_getElem?_getD,List.getElem?_append_left h]
theorem a8y{R:List Int}{a:Int}:ra (R++[a]) R.length=a:=a7e
theorem b2v{R:List Int}{a:Int}{j i:Nat}(h:j<R.length):ra (R.set j a) i=if j=i then a else ra R i:=by
 unfold ra
 rw[List.getD_eq_getElem?_getD,List.getD_eq_getElem?_getD]
 by_cases z:j=i
 ·subst z
  rw[if_pos rfl,List.getElem?_set_self h]
  rfl
 ·rw[if_neg z,List.getElem?_set_ne z]
structure Iv(W:Int)(L:List Wr)(l:List Nat)(s:S4)(Hs:List Int)(px py:Nat→Int):Prop where
 fl:s.F.length=s.R.length
 hl:Hs.length=s.R.length
 rm:∀i,i<s.R.length→0≤ra s.R i∧ra s.R i≤W∧0≤ra s.F i∧0≤ra Hs i
 mo:∀i j,i<j→j<s.R.length→ra s.F i+ra Hs i≤ra s.F j
 tp:∀i,i<s.R.length→ra s.F i+ra Hs i≤s.h
 it:∀k∈l,s.P[k]? = some (plc (px k) (py k))∧∃i,i<s.R.length∧py k=ra s.F i∧(gq L k).2.1≤ra Hs i∧0≤px k∧px k+(gq L k).1≤W-ra s.R i
 ap:∀k∈l,∀j∈l,k≠j→px k+(gq L k).1≤px j∨px j+(gq L j).1≤px k∨py k+(gq L k).2.1≤py j∨py j+(gq L j).2.1≤py k
 pl:s.P.length=L.length
 h0:0≤s.h
 hb:s.h≤(l.length:Int)*100000000000000000000000000000000000000000
 lw:∀i,i<s.R.length→∀q,(∀k∈l,q≤(gq L k).2.1)→q≤ra Hs i
 ex:0<s.R.length→∃k∈l,py k+(gq L k).2.1=s.h
 em:s.R.length=0→l=[]∧s.h=0
 bd:0<s.R.length→∀q,0≤q→(∀k∈l,q≤(gq L k).2.1)→(W+1)*(s.h-(gq L (l.headD 0)).2.1)+q*(W-ra s.R (s.R.length-1))≤2*ArL L l
theorem b0O{K:Wk}{R:List Int}{w:Int}(h:Tl K R w R.length none)(h0:0<R.length):ra R (R.length-1)<w:=by
 cases K with
 | nx =>
  rcases h with⟨_,h⟩ | ⟨h,_⟩
  ·by_cases z:w≤ra R (R.length-1)
   ·exact absurd ⟨rfl,h0,z⟩ h
   ·omega
  ·cases h
 | fi=>have:=h (R.length-1) (by omega);omega
 | be=>have:=h (R.length-1) (by omega);omega
theorem b0P{K:Wk}{R:List Int}{w:Int}{k:Nat}(h:Tl K R w R.length (some k)):k<R.length∧w≤ra R k:=by
 cases K with
 | nx =>
  rcases h with⟨h,_⟩ | ⟨h,_,h2,h3⟩
  ·cases h
  ·injection h with h
   subst h
   exact⟨by omega,h3⟩
 | fi=>exact⟨h.1,h.2.1⟩
 | be=>exact⟨h.1,h.2.1⟩
theorem ar1{W sh h1 q r w hh A:Int}(hq:q≤hh)(h0:0≤hh)(hr:r<w)(hw:0≤w)(ih:(W+1)*(sh-h1)+hh*(W-r)≤2*A):(W+1)*(sh+hh-h1)+q*(W-(W-w))≤2*(A+w*hh):=by
 have e1:(W+1)*(sh+hh-h1)=(W+1)*(sh-h1)+(W+1)*hh:=by rw[← Int.mul_add];congr 1;omega
 have e2:q*(W-(W-w))=q*w:=by congr 1;omega
 have e3:q*w≤hh*w:=Int.mul_le_mul_of_nonneg_right hq hw
 have e4:(W+1)*hh=hh*(W-r)+hh*(r+1):=by rw[← Int.mul_add,Int.mul_comm];congr 1;omega
 have e5:hh*(r+1)≤hh*w:=Int.mul_le_mul_of_nonneg_left (by omega) h0
 have e6:w*hh=hh*w:=Int.mul_comm _ _
 rw[e1,e2,e4,e6]
 omega
theorem ar2{W X q r w hh A:Int}(hq:q≤hh)(h0:0≤hh)(hw:0≤w)(ih:X+q*(W-r)≤2*A):X+q*(W-(r-w))≤2*(A+w*hh):=by
 have e1:q*(W-(r-w))=q*(W-r)+q*w:=by rw[← Int.mul_add];congr 1;omega
 have e3:q*w≤hh*w:=Int.mul_le_mul_of_nonneg_right hq hw
 have e6:w*hh=hh*w:=Int.mul_comm _ _
 have e7:0≤hh*w:=Int.mul_nonneg h0 hw
 rw[e1,e6]
 omega
theorem ar0{q w hh:Int}(hq:q≤hh)(h0:0≤hh)(hw:0≤w):q*w≤2*(w*hh):=by
 have e3:q*w≤hh*w:=Int.mul_le_mul_of_nonneg_right hq hw
 have e6:w*hh=hh*w:=Int.mul_comm _ _
 have e7:0≤hh*w:=Int.mul_nonneg h0 hw
 rw[e6]
 omega
theorem b0Q{W:Int}{K:Wk}{L:List Wr}{l:List Nat}{s:S4}{Hs:List Int}{px py:Nat→Int}(I:Iv W L l s Hs px py)(hR:s.R.length≤1000){k:Nat}(hk:k ∉ l)(hkL:k<L.length)(w0:0≤(gq L k).1)(wW:(gq L k).1≤W)(q0:0≤(gq L k).2.1)(qB:(gq L k).2.1≤100000000000000000000000000000000000000000)(so:∀j∈l,(gq L k).2.1≤(gq L j).2.1) :
  ∃Hs' px' py',Iv W L (l++[k]) (nxt W K L s k) Hs' px' py':=by
 have T:=(a50 (K:=K) (w:=(gq L k).1) hR).2
 unfold nxt
 have memA:∀{j},j∈l++[k]→j∈l∨j=k:=fun m=>(List.mem_append.mp m).imp id List.mem_singleton.mp
 have nek:∀{j},j∈l→j≠k:=fun m z=>hk (by rw[← z];exact m)
 generalize hw:(gq L k).1=w at *
 generalize hh':(gq L k).2.1=hh at *
 have hlen:((l++[k]).length:Int)=(l.length:Int)+1:=by rw[List.length_append];rfl
 have hbI:=I.hb
 cases hp:pk K s.R w with
 | none =>
  rw[hp]at T
  have hn:0<s.R.length→ra s.R (s.R.length-1)<w:=b0O T
  refine⟨Hs++[hh],fun j=>if j=k then W-W else px j,fun j=>if j=k then s.h else py j,?_⟩
  have e:step W L s k none=⟨s.R++[W-w],s.F++[s.h],s.h+hh,s.P.set k (plc (W-W) s.h)⟩:=by
   show(⟨s.R++[W-(gq L k).1],s.F++[s.h],s.h+(gq L k).2.1,s.P.set k (plc (W-W) s.h)⟩:S4)=_
   rw[hw,hh']
  rw[e]
  have Ro:∀i,i<s.R.length→ra (s.R++[W-w]) i=ra s.R i:=fun i h=>a8x h
  have Fo:∀i,i<s.R.length→ra (s.F++[s.h]) i=ra s.F i:=fun i h=>a8x (by rw[I.fl];exact h)
  have Ho:∀i,i<s.R.length→ra (Hs++[hh]) i=ra Hs i:=fun i h=>a8x (by rw[I.hl];exact h)
  have Rn:ra (s.R++[W-w]) s.R.length=W-w:=a8y
  have Fn:ra (s.F++[s.h]) s.R.length=s.h:=by rw[← I.fl];exact a8y
  have Hn:ra (Hs++[hh]) s.R.length=hh:=by rw[← I.hl];exact a8y
  have ln:(s.R++[W-w]).length=s.R.length+1:=by rw[List.length_append];rfl
  have h0:=I.h0
  refine⟨by show(s.F++[s.h]).length=(s.R++[W-w]).length;rw[List.length_append,ln,I.fl];rfl,by show(Hs++[hh]).length=(s.R++[W-w]).length;rw[List.length_append,ln,I.hl];rfl,fun i hi=>?_,fun i j hij hj=>?_,fun i hi=>?_,fun j mj=>?_,fun a ma b mb ne=>?_,by show(s.P.set k _).length=_;rw[List.length_set];exact I.pl,by show 0≤s.h+hh;omega,by show s.h+hh≤_;rw[hlen];omega,fun i hi q hq=>?_,fun _=>⟨k,List.mem_append.mpr (.inr (List.mem_singleton.mpr rfl)),?_⟩,fun z=>?_,fun _ q q0' hq=>?_⟩
  ·show 0≤ra (s.R++[W-w]) i∧ra (s.R++[W-w]) i≤W∧0≤ra (s.F++[s.h]) i∧_
   have hi:i<(s.R++[W-w]).length:=hi
   rw[ln]at hi
   by_cases z:i<s.R.length
   ·rw[Ro i z,Fo i z,Ho i z];exact I.rm i z
   ·have:i=s.R.length:=by omega
    subst this
    rw[Rn,Fn,Hn]
    exact⟨by omega,by omega,h0,q0⟩
  ·show ra (s.F++[s.h]) i+_≤ra (s.F++[s.h]) j
   have hj:j<(s.R++[W-w]).length:=hj
   rw[ln]at hj
   have hi:i<s.R.length:=by omega
   rw[Fo i hi,Ho i hi]
   by_cases z:j<s.R.length
   ·rw[Fo j z];exact I.mo i j hij z
   ·have:j=s.R.length:=by omega
    subst this
    rw[Fn]
    exact I.tp i hi
  ·show ra (s.F++[s.h]) i+_≤s.h+hh
   have hi:i<(s.R++[W-w]).length:=hi
   rw[ln]at hi
   by_cases z:i<s.R.length
   ·rw[Fo i z,Ho i z];have:=I.tp i z;omega
   ·have:i=s.R.length:=by omega
    subst this
    rw[Fn,Hn]
    omega
  ·show(s.P.set k _)[j]? = _∧_
   rcases memA mj with m | rfl
   ·have z:=nek m
    obtain⟨a,i,hi,b1,b2,b3,b4⟩:=I.it j m
    rw[if_neg z,if_neg z]
    refine⟨by rw[List.getElem?_set_ne (Ne.symm z)];exact a,i,by show i<(s.R++[W-w]).length;rw[ln];omega,?_⟩
    show py j=ra (s.F++[s.h]) i∧_≤ra (Hs++[hh]) i∧_∧_≤W-ra (s.R++[W-w]) i
    rw[Fo i hi,Ho i hi,Ro i hi]
    exact⟨b1,b2,b3,b4⟩
   ·rw[if_pos rfl,if_pos rfl]
    refine⟨List.getElem?_set_self (by rw[I.pl];exact hkL),s.R.length,by show _<(s.R++[W-w]).length;rw[ln];omega,?_⟩
    show s.h=ra (s.F++[s.h]) s.R.length∧_≤ra (Hs++[hh]) s.R.length∧_∧_≤W-ra (s.R++[W-w]) s.R.length
    rw[Fn,Hn,Rn,hw,hh']
    exact⟨rfl,Int.le_refl _,by omega,by omega⟩
  ·have up:∀j∈l,py j+(gq L j).2.1≤s.h:=fun j m=>by
    obtain⟨_,i,hi,b1,b2,_,_⟩:=I.it j m
    have:=I.tp i hi
    omega
   rcases memA ma with m1 | rfl
   ·rcases memA mb with m2 | rfl
    ·rw[if_neg (nek m1),if_neg (nek m2),if_neg (nek m1),if_neg (nek m2)]
     exact I.ap a m1 b m2 ne
    ·rw[if_neg (nek m1),if_pos rfl,if_neg (nek m1),if_pos rfl]
     exact .inr (.inr (.inl (up a m1)))
   ·rcases memA mb with m2 | rfl
    ·rw[if_pos rfl,if_neg (nek m2),if_pos rfl,if_neg (nek m2)]
     exact .inr (.inr (.inr (up b m2)))
    ·exact absurd rfl ne
  ·have hi:i<(s.R++[W-w]).length:=hi
   rw[ln]at hi
   by_cases z:i<s.R.length
   ·rw[Ho i z];exact I.lw i z q fun j m=>hq j (List.mem_append.mpr (.inl m))
   ·have:i=s.R.length:=by omega
    subst this
    rw[Hn,← hh']
    exact hq k (List.mem_append.mpr (.inr (List.mem_singleton.mpr rfl)))
  ·show(if k=k then s.h else py k)+_=s.h+hh
   rw[if_pos rfl,hh']
  ·have z:(s.R++[W-w]).length=0:=z
   rw[ln]at z
   omega
  ·show(W+1)*(s.h+hh-_)+q*(W-ra (s.R++[W-w]) ((s.R++[W-w]).length-1))≤_
   rw[ln,Nat.add_sub_cancel,Rn,a5j,hw,hh']
   have hqk:q≤hh:=by rw[← hh'];exact hq k (List.mem_append.mpr (.inr (List.mem_singleton.mpr rfl)))
   by_cases z:0<s.R.length
   ·have ne:l≠[]:=fun z2=>by
     obtain⟨j,m,_⟩:=I.ex z
     rw[z2]at m
     cases m
    have hd:(l++[k]).headD 0=l.headD 0:=by
     cases l with
     | nil=>exact absurd rfl ne
     | cons a l=>rfl
    rw[hd]
    exact ar1 hqk q0 (hn z) w0 (I.bd z hh q0 so)
   ·obtain⟨e1,e2⟩:=I.em (by omega)
    subst e1
    rw[e2]
    show(W+1)*(0+hh-(gq L k).2.1)+q*(W-(W-w))≤2*(0+w*hh)
    rw[hh',show(0+hh-hh:Int)=0 by omega,Int.mul_zero,show W-(W-w)=w by omega,Int.zero_add,Int.zero_add]
    exact ar0 hqk q0 w0
 | some j0 =>
  rw[hp]at T
  obtain⟨hj,hwj⟩:=b0P T
  refine⟨Hs,fun j=>if j=k then W-ra s.R j0 else px j,fun j=>if j=k then ra s.F j0 else py j,?_⟩
  have e:step W L s k (some j0)=⟨s.R.set j0 (ra s.R j0-w),s.F,s.h,s.P.set k (plc (W-ra s.R j0) (ra s.F j0))⟩:=by
   show(⟨s.R.set j0 (ra s.R j0-(gq L k).1),s.F,s.h,s.P.set k (plc (W-ra s.R j0) (ra s.F j0))⟩:S4)=_
   rw[hw]
  rw[e]
  obtain⟨r1,r2,r3,r4⟩:=I.rm j0 hj
  have Rs:∀i,ra (s.R.set j0 (ra s.R j0-w)) i=if j0=i then ra s.R j0-w else ra s.R i:=fun i=>b2v hj
  have ln:(s.R.set j0 (ra s.R j0-w)).length=s.R.length:=List.length_set
  have hHs:hh≤ra Hs j0:=I.lw j0 hj hh so
  have hbl:=I.hb
  refine⟨by show s.F.length=(s.R.set j0 _).length;rw[ln];exact I.fl,by show _=(s.R.set j0 _).length;rw[ln];exact I.hl,fun i hi=>?_,fun i j hij hj'=>I.mo i j hij (by rw[← ln];exact hj'),fun i hi=>I.tp i (by rw[← ln];exact hi),fun j mj=>?_,fun a ma b mb ne=>?_,by show(s.P.set k _).length=_;rw[List.length_set];exact I.pl,I.h0,by show s.h≤_;rw[hlen];omega,fun i hi q hq=>I.lw i (by rw[← ln];exact hi) q fun j m=>hq j (List.mem_append.mpr (.inl m)),fun z=>?_,fun z=>?_,fun z q q0' hq=>?_⟩
  ·show 0≤ra (s.R.set j0 (ra s.R j0-w)) i∧ra (s.R.set j0 (ra s.R j0-w)) i≤W∧_
   have hi:i<(s.R.set j0 (ra s.R j0-w)).length:=hi
   rw[ln]at hi
   obtain⟨x1,x2,x3,x4⟩:=I.rm i hi
   rw[Rs i]
   split
   ·exact⟨by omega,by omega,x3,x4⟩
   ·exact⟨x1,x2,x3,x4⟩
  ·show(s.P.set k _)[j]? = _∧∃i,i<(s.R.set j0 (ra s.R j0-w)).length∧_=ra s.F i∧_∧_∧_≤W-ra (s.R.set j0 (ra s.R j0-w)) i
   rw[ln]
   rcases memA mj with m | rfl
   ·have z:=nek m
    obtain⟨a,i,hi,b1,b2,b3,b4⟩:=I.it j m
    rw[if_neg z,if_neg z]
    refine⟨by rw[List.getElem?_set_ne (Ne.symm z)];exact a,i,hi,b1,b2,b3,?_⟩
    rw[Rs i]
    split
    ·rename_i zz
     subst zz
     omega
    ·exact b4
   ·rw[if_pos rfl,if_pos rfl]
    refine⟨List.getElem?_set_self (by rw[I.pl];exact hkL),j0,hj,rfl,by rw[hh'];exact hHs,by omega,?_⟩
    rw[Rs j0,if_pos rfl,hw]
    omega
  ·have side:∀j∈l,px j+(gq L j).1≤W-ra s.R j0∨py j+(gq L j).2.1≤ra s.F j0∨ra s.F j0+hh≤py j:=fun j m=>by
    obtain⟨_,i,hi,b1,b2,b3,b4⟩:=I.it j m
    rcases Nat.lt_trichotomy i j0 with z | z | z
    ·have:=I.mo i j0 z hj
     exact .inr (.inl (by omega))
    ·subst z
     exact .inl b4
    ·have:=I.mo j0 i z hi
     exact .inr (.inr (by omega))
   rcases memA ma with m1 | rfl
   ·rcases memA mb with m2 | rfl
    ·rw[if_neg (nek m1),if_neg (nek m2),if_neg (nek m1),if_neg (nek m2)]
     exact I.ap a m1 b m2 ne
    ·rw[if_neg (nek m1),if_pos rfl,if_neg (nek m1),if_pos rfl,hh']
     rcases side a m1 with z | z | z
     ·exact .inl z
     ·exact .inr (.inr (.inl z))
     ·exact .inr (.inr (.inr z))
   ·rcases memA mb with m2 | rfl
    ·rw[if_pos rfl,if_neg (nek m2),if_pos rfl,if_neg (nek m2),hh']
     rcases side b m2 with z | z | z
     ·exact .inr (.inl z)
     ·exact .inr (.inr (.inr z))
     ·exact .inr (.inr (.inl z))
    ·exact absurd rfl ne
  ·obtain⟨j,m,ej⟩:=I.ex (by have z:0<(s.R.set j0 (ra s.R j0-w)).length:=z;rw[ln]at z;exact z)
   refine⟨j,List.mem_append.mpr (.inl m),?_⟩
   show(if j=k then _ else py j)+_=_
   rw[if_neg (nek m)]
   exact ej
  ·have z:(s.R.set j0 (ra s.R j0-w)).length=0:=z
   rw[ln]at z
   omega
  ·show(W+1)*(s.h-_)+q*(W-ra (s.R.set j0 (ra s.R j0-w)) ((s.R.set j0 (ra s.R j0-w)).length-1))≤_
   rw[ln,Rs,a5j,hw,hh']
   have zp:0<s.R.length:=by omega
   have hqk:q≤hh:=by rw[← hh'];exact hq k (List.mem_append.mpr (.inr (List.mem_singleton.mpr rfl)))
   have ne:l≠[]:=fun z2=>by
    obtain⟨j,m,_⟩:=I.ex zp
    rw[z2]at m
    cases m
   have hd:(l++[k]).headD 0=l.headD 0:=by
    cases l with
    | nil=>exact absurd rfl ne
    | cons a l=>rfl
   have ih:=I.bd zp q q0' fun j m=>hq j (List.mem_append.mpr (.inl m))
   rw[hd]
   by_cases z:j0=s.R.length-1
   ·rw[if_pos z,z]
    exact ar2 hqk q0 w0 ih
   ·rw[if_neg z]
    have:0≤w*hh:=Int.mul_nonneg w0 q0
    omega
def Ok(W:Int)(L:List Wr):Prop:=∀q∈L,1≤q.1∧q.1≤W∧1≤q.2.1∧q.2.1≤100000000000000000000000000000000000000000
theorem b2w(W:Int)(K:Wk)(L:List Wr)(hW:Ok W L)(hL:L.length≤1000)(σ:List Nat)(hp:σ.Perm (List.range L.length))(hs:σ.Pairwise (fun a b=>HT.lexLt (kH L a) (kH L b)=true)):∃Hs px py,Iv W L σ (run W K L σ) Hs px py:=by
 have hn:σ.length=L.length:=by rw[hp.length_eq,List.length_range]
 have nd:σ.Nodup:=hp.nodup_iff.mpr List.nodup_range
 have lt:∀k∈σ,k<L.length:=fun k m=>List.mem_range.mp (hp.mem_iff.mp m)
 suffices h:∀(l pre:List Nat) (s:S4),σ=pre++l→Good L pre s→(∃Hs px py,Iv W L pre s Hs px py)→∃Hs px py,Iv W L σ (l.foldl (nxt W K L) s) Hs px py by
  refine h σ [] ⟨[],[],0,List.replicate L.length .non⟩ rfl ⟨rfl,Nat.le_refl _,List.length_replicate,fun k m=>absurd m List.not_mem_nil⟩ ⟨[],fun _=>0,fun _=>0,?_⟩
  exact⟨rfl,rfl,fun i h=>absurd h (Nat.not_lt_zero _),fun i j _ h=>absurd h (Nat.not_lt_zero _),fun i h=>absurd h (Nat.not_lt_zero _),fun k m=>absurd m List.not_mem_nil,fun k m=>absurd m List.not_mem_nil,List.length_replicate,Int.le_refl _,by show(0:Int)≤_;simp,fun i h=>absurd h (Nat.not_lt_zero _),fun h=>absurd h (Nat.not_lt_zero _),fun _=>⟨rfl,rfl⟩,fun h=>absurd h (Nat.not_lt_zero _)⟩
 intro l
 induction l with
 | nil =>
  intro pre s e g hI
  rw[List.append_nil]at e
  rw[e]
  exact hI
 | cons k l ih =>
  intro pre s e g ⟨Hs,px,py,I⟩
  have nd':=nd
  have hs':=hs
  rw[e]at nd' hs'
  have hk:k∈σ:=by rw[e];simp
  have kn:k ∉ pre:=fun m=>(List.nodup_append.mp nd').2.2 k m k List.mem_cons_self rfl
  have hlen:pre.length≤1000:=by have:=congrArg List.length e;rw[List.length_append]at this;omega
  obtain⟨w1,w2,w3,w4⟩:=hW (gq L k) (a4u (lt k hk))
  refine ih (pre++[k]) (nxt W K L s k) (by rw[List.append_assoc];exact e) (a4r g) (b0Q I (by have:=g.rl;omega) kn (lt k hk) (by omega) w2 (by omega) w4 fun j m=>a9a ((List.pairwise_append.mp hs').2.2 j m k List.mem_cons_self))
def spt(L:List Wr)(px py:Nat→Int)(k:Nat):D:=.tup [.int (px k),.int (py k),.int (px k+(gq L k).1),.int (py k+(gq L k).2.1)]
theorem b0R(q:Wr)(x y:Int):K4 [wD q,plc x y]=some (.ret (.tup [.int x,.int y,.int (x+q.1),.int (y+q.2.1)])):=rfl
theorem b0S{a b c d a' b' c' d':Int}(h:c≤a'∨c'≤a∨d≤b'∨d'≤b):w8 [.tup [.int a,.int b,.int c,.int d],.tup [.int a',.int b',.int c',.int d']]=some (.ret (.bl false)):=by
 unfold w8 a4p
 by_cases h1:a<c'
 ·by_cases h2:a'<c
  ·by_cases h3:b<d'
   ·have h4:¬b'<d:=by omega
    walk_at "eh"
    try rfl
   ·walk_at "eh"
    try rfl
  ·walk_at "eh"
   try rfl
 ·walk_at "eh"
  try rfl
abbrev inP(ME:List D→Option R1):SF:=(C7 (bZ (i8 ME (aC (eV 6) (aC (eV 7) aN)))) (m4 (eC (.bl false))) C6)
theorem b3I(ME:List D→Option R1)(s0 s1 s2 s3 s4 s5:Sl)(p o:D)(h:ME [p,o]=some (.ret (.bl false))):inP ME [s0,s1,s2,s3,s4,s5,.fz p,.fz o]=some (.nx [s0,s1,s2,s3,s4,s5,.fz p,.fz o]):=by
 unfold inP
 walk_at "eh"
theorem b2x(s0 s1 s2 s3 s5:Sl)(p:D)(os:List D)(o7:Option D)(h:∀o∈os,w8 [p,o]=some (.ret (.bl false))):∃p7:Option D,Z6 4 (c8 7) (inP w8) [s0,s1,s2,s3,.ow os,s5,.fz p,un o7]=some (.nx [s0,s1,s2,s3,.ow os,s5,.fz p,un p7]):=by
 obtain⟨e',f,p7,rfl⟩:=a1a (b:=c8 7) (body:=inP w8) id (fun _ e=>∃p7:Option D,e=[s0,s1,s2,s3,.hd os,s5,.fz p,un p7]) os [s0,s1,s2,s3,.hd os,s5,.fz p,un o7] ⟨o7,rfl⟩ (by
  rintro pre o post e hq ⟨p7,rfl⟩
  have hb:c8 7 (id o) [s0,s1,s2,s3,.hd os,s5,.fz p,un p7]=some [s0,s1,s2,s3,.hd os,s5,.fz p,.fz o]:=by cases p7<;>rfl
  rw[hb,v3]
  exact⟨_,(congrArg A5 (b3I w8 s0 s1 s2 s3 (.hd os) s5 p o (h o (by rw[hq];simp)))).trans rfl,some o,rfl⟩)
 refine⟨p7,?_⟩
 rw[List.map_id]at f
 show unhide 4 os (l7 (c8 7) (inP w8) os [s0,s1,s2,s3,.hd os,s5,.fz p,un o7])=_
 rw[f]
 rfl
abbrev paB(SP:List D→Option R1)(LP:SF):SF:=(d7 (X9 6 SP (aC (L9 D4 2 (eV 5)) (aC (L9 D4 3 (eV 5)) aN))) (d7 (C7 (E4 (bZ (eB (a1x false) (eV 6) (eC .non))) (E4 (bZ (eB gLt (eB d9 (eV 6) (eC (.int 0))) (eC (.int 0)))) (E4 (bZ (eB gLt (eB d9 (eV 6) (eC (.int 1))) (eC (.int 0)))) (E4 (bZ (eB gGt (eB d9 (eV 6) (eC (.int 2))) (eV 0))) (bZ (eB gGt (eB d9 (eV 6) (eC (.int 3))) (eV 1))))))) (m4 (eC (.bl false))) C6) (d7 LP (N5 4 (eV 6)))))
theorem b3J(SP:List D→Option R1)(LP:SF)(W T k x y x2 y2:Int)(A P S:List D)(q pl:D)(o6 o7 p7:Option D)(a1:atI A k=some q)(a2:atI P k=some pl)(h:SP [q,pl]=some (.ret (.tup [.int x,.int y,.int x2,.int y2])))(h1:¬x<0)(h2:¬y<0)(h3:¬x2 > W)(h4:¬y2 > T)(hS:S.length<sizeLine)
  (hl:LP [.fz (.int W),.fz (.int T),.fz (.lst A),.fz (.lst P),.ow S,.fz (.int k),.fz (.tup [.int x,.int y,.int x2,.int y2]),un o7]=some (.nx [.fz (.int W),.fz (.int T),.fz (.lst A),.fz (.lst P),.ow S,.fz (.int k),.fz (.tup [.int x,.int y,.int x2,.int y2]),un p7])) :
  paB SP LP [.fz (.int W),.fz (.int T),.fz (.lst A),.fz (.lst P),.ow S,.fz (.int k),un o6,un o7]=some (.nx [.fz (.int W),.fz (.int T),.fz (.lst A),.fz (.lst P),.ow (S++[.tup [.int x,.int y,.int x2,.int y2]]),.fz (.int k),.fz (.tup [.int x,.int y,.int x2,.int y2]),un p7]):=by
 unfold paB
 walk_at "eh"
theorem a8z(LP:SF)(MX:ZF)(W T m:Int)(A P S:List D)(s5 s6 s7:Sl)(h:LP [.fz (.int W),.fz (.int T),.fz (.lst A),.fz (.lst P),.ow [],.no,.no,.no]=some (.nx [.fz (.int W),.fz (.int T),.fz (.lst A),.fz (.lst P),.ow S,s5,s6,s7]))(hm:MX [.fz (.int W),.fz (.int T),.fz (.lst A),.fz (.lst P),.ow S,s5,s6,s7]=some (.ok (.int m) [.fz (.int W),.fz (.int T),.fz (.lst A),.fz (.lst P),.ow S,s5,s6,s7]))(e:T=m) :
  fD 8 4 (d7 (x9 4 (eL aN)) (d7 LP (m4 (eB (C1 false) (eV 1) MX)))) [.int W,.int T,.lst A,.lst P]=some (.ret (.bl true)):=by
 subst e
 walk_at "eh"
theorem a8A(CO:NF)(e:DE)(ks:List Int)(h:CO e=some (.ok (ks.map D.int) e)):S9 (aC (zN CO) aN) (aC (eC (.int 0)) aN) e=some (.ok (.int (F8 0 ks)) e):=by
 have h1:(aC (zN CO) aN) e=some (.ok [.lst (ks.map D.int)] e):=by walk_at "eh"
 unfold S9
 rw[h1,X8]
 show(match W4 [.lst (ks.map D.int)] [.int 0]with
  | some m=>some (L2.R.ok (D.int m) e)
  | none=>none)=_
 have:W4 [.lst (ks.map D.int)] [.int 0]=some (F8 0 ks):=by
  unfold W4
  show(v8 (ks.map D.int)).map _=_
  rw[L2.ints_map]
  rfl
 rw[this]
abbrev coT(i:Nat)(c:Int):NF:=(C2 i 1 [] (c8 0) A9 (eB d9 (eV 0) (eC (.int c))))
theorem a5l{α:Type}(f:α→D)(g:α→Int)(c:Int)(l:List α)(hl:l.length≤1000)(e:DE)(hg:∀x∈l,d9 (f x) (.int c)=some (.int (g x))):l6 (c8 0) A9 (eB d9 (eV 0) (eC (.int c))) [.no] e (l.map f) []=some (.ok ((l.map g).map D.int) e):=by
 rw[N9 f (fun x=>D.int (g x)) (fun _=>true) l [] (by show 0+_≤2 ^ 24;omega) (fun x m=>⟨[.fz (f x)],[.fz (f x)],rfl,rfl,fun _=>⟨[.fz (f x)],by
  show W1 (d9 (f x) (.int c)) _=_
  rw[hg x m]
  rfl⟩⟩)]
 rw[List.filter_eq_self.mpr (fun _ _=>rfl),List.map_map]
 rfl
theorem a2Q(l:List Int)(h:l≠[]):F8 0 l∈l:=by
 cases l with
 | nil=>exact absurd rfl h
 | cons n l =>
  show l.foldl max n∈n::l
  induction l generalizing n with
  | nil=>exact List.mem_cons_self
  | cons a l ih =>
   have:=ih (max n a) (List.cons_ne_nil _ _)
   show l.foldl max (max n a)∈_
   rcases List.mem_cons.mp this with e | m
   ·rw[e]
    by_cases z:n≤a
    ·rw[Int.max_eq_right z];simp
    ·rw[Int.max_eq_left (by omega)];simp
   ·exact List.mem_cons_of_mem _ (List.mem_cons_of_mem _ m)
theorem a4v(l:List Int):∀a∈l,a≤F8 0 l:=by
 intro a m
 cases l with
 | nil=>cases m
 | cons n l =>
  obtain⟨h1,h2⟩:=U9 l n
  rcases List.mem_cons.mp m with rfl | m
  ·exact h1
  ·exact h2 a m
theorem a7l(W:Int)(K:Wk)(L:List Wr)(hW:Ok W L)(hL:L.length≤999)(σ:List Nat)(hp:σ.Perm (List.range L.length))(s:S4)(Hs:List Int)(px py:Nat→Int)(I:Iv W L σ s Hs px py):B2 [.int W,.int s.h,.lst (L.map wD),.lst s.P]=some (.ret (.bl true)):=by
 have mem:∀k,k<L.length→k∈σ:=fun k h=>hp.mem_iff.mpr (List.mem_range.mpr h)
 have fact:∀k,k<L.length→s.P[k]? = some (plc (px k) (py k))∧0≤px k∧px k+(gq L k).1≤W∧0≤py k∧py k+(gq L k).2.1≤s.h:=fun k h=>by
  obtain⟨a,i,hi,b1,b2,b3,b4⟩:=I.it k (mem k h)
  obtain⟨r1,r2,r3,r4⟩:=I.rm i hi
  have:=I.tp i hi
  exact⟨a,b3,by omega,by omega,by omega⟩
 obtain⟨e',f,o5,o6,o7,rfl⟩:=a1a (b:=c8 5) (body:=paB K4 (Z6 4 (c8 7) (inP w8))) (fun(k:Nat)=>D.int (k:Int)) (fun pre e=>∃o5 o6 o7:Option D,e=[.fz (.int W),.fz (.int s.h),.fz (.lst (L.map wD)),.fz (.lst s.P),.ow (pre.map (spt L px py)),un o5,un o6,un o7]) (List.range L.length) [.fz (.int W),.fz (.int s.h),.fz (.lst (L.map wD)),.fz (.lst s.P),.ow [],.no,.no,.no] ⟨none,none,none,rfl⟩ (by
  rintro pre k post e hq ⟨o5,o6,o7,rfl⟩
  have hk:k<L.length:=List.mem_range.mp (by rw[hq];simp)
  have nd:(pre++k::post).Nodup:=by rw[← hq];exact List.nodup_range
  have hpre:∀j∈pre,j<L.length∧j≠k:=fun j m=>⟨List.mem_range.mp (by rw[hq];exact List.mem_append.mpr (.inl m)),fun z=>(List.nodup_append.mp nd).2.2 j m k List.mem_cons_self z⟩
  have hlen:pre.length≤1000:=by have:=congrArg List.length hq;rw[List.length_range,List.length_append]at this;omega
  obtain⟨a,b1,b2,b3,b4⟩:=fact k hk
  have hb:c8 5 (.int (k:Int)) [.fz (.int W),.fz (.int s.h),.fz (.lst (L.map wD)),.fz (.lst s.P),.ow (pre.map (spt L px py)),un o5,un o6,un o7]=some [.fz (.int W),.fz (.int s.h),.fz (.lst (L.map wD)),.fz (.lst s.P),.ow (pre.map (spt L px py)),.fz (.int (k:Int)),un o6,un o7]:=by cases o5<;>rfl
  obtain⟨p7,lp⟩:=b2x (.fz (.int W)) (.fz (.int s.h)) (.fz (.lst (L.map wD))) (.fz (.lst s.P)) (.fz (.int (k:Int))) (spt L px py k) (pre.map (spt L px py)) o7 (fun o m=>by
   obtain⟨j,mj,rfl⟩:=List.mem_map.mp m
   obtain⟨j1,j2⟩:=hpre j mj
   exact b0S (I.ap k (mem k hk) j (mem j j1) (Ne.symm j2)))
  rw[hb,v3]
  refine⟨_,(congrArg A5 (b3J K4 _ W s.h (k:Int) _ _ _ _ (L.map wD) s.P (pre.map (spt L px py)) _ _ o6 o7 p7 (a8s hk) (a0V a) (b0R _ _ _) (by omega) (by omega) (by omega) (by omega) (by rw[List.length_map];show _<2 ^ 24;omega) lp)).trans rfl,some (.int (k:Int)),some (spt L px py k),p7,?_⟩
  rw[List.map_append]
  rfl)
 refine a8z _ _ W s.h (F8 0 ((List.range L.length).map fun k=>py k+(gq L k).2.1)) (L.map wD) s.P _ (un o5) (un o6) (un o7) ?_ (a8A (coT 4 3) _ _ (a5l (spt L px py) (fun k=>py k+(gq L k).2.1) 3 (List.range L.length) (by rw[List.length_range];omega) _ fun x _=>rfl)) ?_
 ·have e0:(aC (C0 t6 2) aN) [.fz (.int W),.fz (.int s.h),.fz (.lst (L.map wD)),.fz (.lst s.P),.ow [],.no,.no,.no]=some (.ok [.int ((L.map wD).length:Int)] [.fz (.int W),.fz (.int s.h),.fz (.lst (L.map wD)),.fz (.lst s.P),.ow [],.no,.no,.no]):=rfl
  rw[List.length_map]at e0
  rw[b0N e0 (b2r (by omega)),b3G]
  exact f
 ·by_cases z:s.R.length=0
  ·obtain⟨z1,z2⟩:=I.em z
   have:L.length=0:=by have:=hp.length_eq;rw[z1,List.length_range]at this;exact this.symm
   rw[this,z2]
   rfl
  ·obtain⟨k,mk,ek⟩:=I.ex (by omega)
   have hkL:=List.mem_range.mp (hp.mem_iff.mp mk)
   have ne:((List.range L.length).map fun k=>py k+(gq L k).2.1)≠[]:=fun z=>by
    have:=congrArg List.length z
    rw[List.length_map,List.length_range,List.length_nil]at this
    omega
   have t1:=a4v ((List.range L.length).map fun k=>py k+(gq L k).2.1) s.h (List.mem_map.mpr ⟨k,List.mem_range.mpr hkL,ek⟩)
   obtain⟨j,mj,ej⟩:=List.mem_map.mp (a2Q _ ne)
   have:=(fact j (List.mem_range.mp mj)).2.2.2.2
   omega
theorem b0T(CE AW:List D→Option R1)(N1 NS:NF)(SU MX:ZF)(GP:D→D→Option D)(HO:SF)(ns:List Int)(c0 c1 S1 M most B42:Int)(wd:Str)(A1 A NSl:List D)(k0:CE [.scr ns,.int 0]=some (.ret (.int c0)))(k1:CE [.scr ns,.int 1]=some (.ret (.int c1)))
  (n1:N1 [.fz (.scr ns),.no,.no,.no,.no,.no,.no,.no,.no,.no]=some (.ok A1 [.fz (.scr ns),.no,.no,.no,.no,.no,.no,.no,.no,.no])) (su:SU [.fz (.scr ns),.ow A1,.no,.no,.no,.no,.no,.no,.no,.no]=some (.ok (.int S1) [.fz (.scr ns),.ow A1,.no,.no,.no,.no,.no,.no,.no,.no])) (hs:NS [.fz (.scr ns),.ow A1,.fz (.int S1),.no,.no,.no,.no,.no,.no,.no]=some (.ok NSl [.fz (.scr ns),.ow A1,.fz (.int S1),.no,.no,.no,.no,.no,.no,.no]))
  (gp:GP (.int 10) (.int 42)=some (.int B42)) (mx:∀x,MX [.fz (.scr ns),.ow A,.fz (.int x),.no,.no,.no,.no,.no,.no,.no]=some (.ok (.int M) [.fz (.scr ns),.ow A,.fz (.int x),.no,.no,.no,.no,.no,.no,.no])) (hc:(c0%2=1∧AW [.lst NSl]=some (.own A)∧most=B42-M)∨(¬c0%2=1∧A=A1∧most=S1)) (hm:0<1+most) (hw:atI [D.str "next",D.str "first",D.str "best"] (c0/2%3)=some (.str wd))
  (ho:HO [.fz (.scr ns),.ow A,.fz (.int most),.fz (.int (M+c1%(1+most))),.ow A,.fz (.str wd),.no,.no,.no,.no]=some (.rt (.bl true))) :
  fD 10 1 (d7 (x9 1 N1) (d7 (u5 2 SU) (d7 (C7 (bZ (eB (C1 false) (eB A4 (i8 CE (aC (eV 0) (aC (eC (.int 0)) aN))) (eC (.int 2))) (eC (.int 1)))) (d7 (X9 1 AW (aC (zN NS) aN)) (u5 2 (eB O7 (eB GP (eC (.int 10)) (eC (.int 42))) MX))) C6) (d7 (u5 3 (eB D3 MX (eB A4 (i8 CE (aC (eV 0) (aC (eC (.int 1)) aN))) (eB D3 (eC (.int 1)) (eV 2))))) (d7 (x9 4 (nCV W2 1)) (d7 (u5 5 (eB d9 (eT (aC (eC (.str "next")) (aC (eC (.str "first")) (aC (eC (.str "best")) aN)))) (eB A4 (eB z8 (i8 CE (aC (eV 0) (aC (eC (.int 0)) aN))) (eC (.int 2))) (eC (.int 3))))) HO)))))) [.scr ns]=some (.ret (.bl true)):=by
 rcases hc with⟨z,aw,rfl⟩ | ⟨z,rfl,rfl⟩<;>walk_at "eh"
theorem b0U{i j:Nat}{g:List D→Option R1}{f:AF}{c1 c2 c3:BF}{g9:SF}{e e1 e2 x1 x2 x3:DE}{ds:List D}{n:Int}{es:List D}(hf:f e=some (.ok ds e1))(hg:g ds=some (.owp n es))(hi:e1[i]? = some .no)(hj:e1[j]? = some .no)(t1:c1 (G0 (e1.set i (.fz (.tup [.int n,.lst es]))))=some (.ok false x1))(t2:c2 (G0 (e1.set i (.fz (.tup [.int n,.lst es]))))=some (.ok false x2))(t3:c3 (G0 (e1.set i (.fz (.tup [.int n,.lst es]))))=some (.ok false x3))(hc:i≠j∧es.length<sizeLine∧a0N e1=true)(he:e1.set j (.fz (.tup [.int n,.lst es]))=e2):a2d i j g f c1 c2 c3 g9 e=g9 e2:=by
 subst he
 have b1:B0 c1 (e1.set i (.fz (.tup [.int n,.lst es])))=some (.ok false (e1.set i (.fz (.tup [.int n,.lst es])))):=by unfold B0;rw[t1]
 have b2:B0 c2 (e1.set i (.fz (.tup [.int n,.lst es])))=some (.ok false (e1.set i (.fz (.tup [.int n,.lst es])))):=by unfold B0;rw[t2]
 have b3:B0 c3 (e1.set i (.fz (.tup [.int n,.lst es])))=some (.ok false (e1.set i (.fz (.tup [.int n,.lst es])))):=by unfold B0;rw[t3]
 unfold a2d
 rw[hf,a0B]
 simp only[hg,hi,hj,b1,b2,b3]
 rw[if_pos hc]
abbrev fE(ns:List Int)(A:List D)(most W h:Int)(wd:Str)(P:List D):DE:=[.fz (.scr ns),.fz (.lst A),.fz (.int most),.fz (.int W),.fz (.lst A),.fz (.str wd),.fz (.tup [.int h,.lst P]),.no,.no,.no]
theorem b26(WH:List D→Option R1)(ns:List Int)(A:List D)(most W h:Int)(wd:Str)(P:List D)(h1:WH [.int h]=some (.ret (.bl true))):∃x,(E4 (G7 (bZ (S8 6 "tuple"))) (E4 (bZ (eB (C1 true) (C0 t6 6) (eC (.int 2)))) (G7 (bZ (i8 WH (aC (eB d9 (eV 6) (eC (.int 0))) aN)))))) (fE ns A most W h wd P)=some (.ok false x):=by
 refine⟨fE ns A most W h wd P,?_⟩
 unfold fE
 walk_at "eh"
theorem b27(GE:D→D→Option D)(ns:List Int)(A:List D)(most W h:Int)(wd:Str)(P:List D)(hl:(P.length:Int)=(A.length:Int))(h1:GE (.lst A) (.lst A)=some (.bl false)):∃x,(E4 (G7 (bZ (eCB a1A (aC (eB d9 (eV 6) (eC (.int 1))) (aC (eC (.ty "list")) aN))))) (E4 (bZ (eB (C1 true) (eCB (g1 t6) (aC (eB d9 (eV 6) (eC (.int 1))) aN)) (C0 t6 1))) (bZ (a2y GE 4 1)))) (fE ns A most W h wd P)=some (.ok false x):=by
 refine⟨fE ns A most W h wd P,?_⟩
 unfold fE
 walk_at "eh"
theorem b28(PK:List D→Option R1)(ns:List Int)(A:List D)(most W h:Int)(wd:Str)(P:List D)(h1:PK [.int W,.int h,.lst A,.lst P]=some (.ret (.bl true))):∃x,(G7 (bZ (i8 PK (aC (eV 3) (aC (eB d9 (eV 6) (eC (.int 0))) (aC (eV 1) (aC (eB d9 (eV 6) (eC (.int 1))) aN))))))) (fE ns A most W h wd P)=some (.ok false x):=by
 refine⟨fE ns A most W h wd P,?_⟩
 unfold fE
 walk_at "eh"
abbrev rE(ns:List Int)(A:List D)(most W h:Int)(wd:Str)(P:List D)(s8 s9:Sl):DE:=[.fz (.scr ns),.ow A,.fz (.int most),.fz (.int W),.fz (.lst A),.fz (.str wd),.no,.fz (.tup [.int h,.lst P]),s8,s9]
theorem b29(SH:List D→Option R1)(ns:List Int)(A:List D)(most W h:Int)(wd:Str)(P:List D)(h1:SH [.int W,.lst A,.str wd]=some (.owp h P)):a2c SH (aC (eV 3) (aC (eV 4) (aC (eV 5) aN))) (rE ns A most W h wd P .no .no)=some (.ok (.tup [.int h,.lst P]) (rE ns A most W h wd P .no .no)):=by
 show toP (SH [.int W,.lst A,.str wd]) _=_
 rw[h1]
 rfl
theorem b2z(CP MT SA:ZF)(GE GM:D→D→Option D)(ns:List Int)(A:List D)(most W h t ar x y:Int)(wd:Str)(P:List D)(cp:CP (rE ns A most W h wd P .no .no)=some (.ok (.tup [.int h,.lst P]) (rE ns A most W h wd P .no .no)))(ge:GE (.tup [.int h,.lst P]) (.tup [.int h,.lst P])=some (.bl false))(mt:MT (rE ns A most W h wd P .no .no)=some (.ok (.int t) (rE ns A most W h wd P .no .no)))(sa:SA (rE ns A most W h wd P (.fz (.int t)) .no)=some (.ok (.int ar) (rE ns A most W h wd P (.fz (.int t)) .no)))(m1:GM (.int (W+1)) (.int (h-t))=some (.int x))(m2:GM (.int 2) (.int ar)=some (.int y))(le:x≤y) :
  (d7 (C7 (bZ (eB GE CP (eV 7))) (m4 (eC (.bl false))) C6) (d7 (u5 8 MT) (d7 (u5 9 SA) (m4 (eB gLe (eB GM (eB D3 (eV 3) (eC (.int 1))) (eB O7 (eB d9 (eV 7) (eC (.int 0))) (eV 8))) (eB GM (eC (.int 2)) (eV 9))))))) (rE ns A most W h wd P .no .no)=some (.rt (.bl true)):=by
 unfold rE at *
 walk_at "eh"
theorem a5m(c:Int):∃r:Int,1≤r∧r≤10 ^ 40∧D9 [.int c]=some (.ret (.int r)):=by
 obtain⟨B,hB,eB⟩:=big
 have m1:A4 (.int (c/4)) (.int B)=some (.int (c/4%B)):=a5b (by omega)
 have p1:0≤c/4%B:=Int.emod_nonneg _ (by omega)
 have p2:c/4%B<B:=Int.emod_lt_of_pos _ (by omega)
 by_cases z:c%4=3
 ·refine⟨1+c/4%B,by omega,by omega,?_⟩
  clear p1 p2 eB
  unfold D9 a1F
  walk_at "eh"
 ·refine⟨1+c/4%9,by omega,by omega,?_⟩
  clear p1 p2 eB
  unfold D9 a1F
  walk_at "eh"
theorem b2A(SI:List D→Option R1)(c a b:Int)(h1:SI [.int c]=some (.ret (.int a)))(h2:SI [.int (c/3+1)]=some (.ret (.int b))):fD 1 1 (m4 (eT (aC (i8 SI (aC (eV 0) aN)) (aC (i8 SI (aC (eB D3 (eB z8 (eV 0) (eC (.int 3))) (eC (.int 1))) aN)) (aC (eB (C1 false) (eB A4 (eB z8 (eV 0) (eC (.int 5))) (eC (.int 2))) (eC (.int 0))) aN))))) [.int c]=some (.ret (.tup [.int a,.int b,.bl (decide (c/5%2=0))])):=by
 walk_at "eh"
def Q0(q:Wr):Prop:=1≤q.1∧q.1≤10 ^ 40∧1≤q.2.1∧q.2.1≤10 ^ 40
theorem a2R(c:Int):∃q:Wr,Q0 q∧B5 [.int c]=some (.ret (wD q)):=by
 obtain⟨a,ha,ha',h1⟩:=a5m c
 obtain⟨b,hb,hb',h2⟩:=a5m (c/3+1)
 exact⟨(a,b,decide (c/5%2=0)),⟨ha,ha',hb,hb'⟩,b2A D9 c a b h1 h2⟩
abbrev awB(GP:D→D→Option D):SF:=(d7 (u5 1 (eB z8 (eV 0) (eB GP (eC (.int 10)) (eC (.int 40))))) (m4 (eT (aC (eB D3 (eC (.int 1)) (eB A4 (eV 0) (eB GP (eC (.int 10)) (eC (.int 40))))) (aC (eB D3 (eC (.int 1)) (eB A4 (eV 1) (eB GP (eC (.int 10)) (eC (.int 40))))) (aC (eB (C1 false) (eB A4 (eB z8 (eV 1) (eB GP (eC (.int 10)) (eC (.int 40)))) (eC (.int 2))) (eC (.int 1))) aN))))))
theorem b3K(GP GD:D→D→Option D)(c B:Int)(h:GP (.int 10) (.int 40)=some (.int B))(h0:0<B)(hd:B.natAbs.log2<9000):fD 2 1 (awB GP) [.int c]=some (.ret (.tup [.int (1+c%B),.int (1+c/B%B),.bl (decide (c/B/B%2=1))])):=by
 unfold awB
 walk_at "eh"
theorem a7m(c:Int):∃q:Wr,Q0 q∧v5 [.int c]=some (.ret (wD q)):=by
 obtain⟨B,hB,eB⟩:=big
 have p1:0≤c%B:=Int.emod_nonneg _ (by omega)
 have p2:c%B<B:=Int.emod_lt_of_pos _ (by omega)
 have p3:0≤c/B%B:=Int.emod_nonneg _ (by omega)
 have p4:c/B%B<B:=Int.emod_lt_of_pos _ (by omega)
 exact⟨(1+c%B,1+c/B%B,decide (c/B/B%2=1)),⟨by show 1≤1+c%B;omega,by show 1+c%B≤_;omega,by show 1≤1+c/B%B;omega,by show 1+c/B%B≤_;omega⟩,b3K J7 z8 c B hB (by omega) (by rw[eB];decide +kernel)⟩
abbrev ayB(AN:List D→Option R1)(GP:D→D→Option D):SF:=(d7 (N5 1 (i8 AN (aC (eV 2) aN))) (d7 (u5 3 (eB z8 (eB z8 (eB z8 (eV 2) (eB GP (eC (.int 10)) (eC (.int 40)))) (eB GP (eC (.int 10)) (eC (.int 40)))) (eC (.int 2)))) (C7 (bZ (eB (C1 false) (eB A4 (eV 3) (eC (.int 2))) (eC (.int 1)))) (N5 1 (i8 AN (aC (eB z8 (eV 3) (eC (.int 2))) aN))) C6)))
theorem b3L(AN:List D→Option R1)(GP:D→D→Option D)(s0:Sl)(A:List D)(c B:Int)(d d2:D)(o3:Option D)(h:GP (.int 10) (.int 40)=some (.int B))(h0:0<B)(hd:B.natAbs.log2<9000)(h1:AN [.int c]=some (.ret d))(h2:AN [.int (c/B/B/2/2)]=some (.ret d2))(l1:A.length<sizeLine)(l2:(A++[d]).length<sizeLine):∃b:Bool,ayB AN GP [s0,.ow A,.fz (.int c),un o3]=some (.nx [s0,.ow (A++[d]++(if b=true then[d2]else[])),.fz (.int c),.fz (.int (c/B/B/2))]):=by
 unfold ayB
 by_cases z:c/B/B/2%2=1
 ·refine⟨true,?_⟩
  rw[if_pos rfl]
  walk_at "eh"
 ·refine⟨false,?_⟩
  rw[if_neg (by decide),List.append_nil]
  walk_at "eh"
theorem b2C(LP:SF)(c:D)(A:List D)(s2 s3:Sl)(h:LP [.fz c,.ow [],.no,.no]=some (.nx [.fz c,.ow A,s2,s3])):fD 4 1 (d7 (x9 1 (eL aN)) (d7 LP (Z4 1))) [c]=some (.own A):=by
 walk_at "eh"
theorem b0V(cs:List Int)(hl:cs.length≤50):∃L:List Wr,L.length≤100∧(∀q∈L,Q0 q)∧t5 [.lst (cs.map D.int)]=some (.own (L.map wD)):=by
 obtain⟨B,hB,eB⟩:=big
 obtain⟨e',f,L,o2,o3,h1,h2,rfl⟩:=a1a (b:=c8 2) (body:=ayB v5 J7) D.int (fun pre e=>∃(L:List Wr) (o2 o3:Option D),L.length≤2*pre.length∧(∀q∈L,Q0 q)∧e=[.fz (.lst (cs.map D.int)),.ow (L.map wD),un o2,un o3]) cs [.fz (.lst (cs.map D.int)),.ow [],.no,.no] ⟨[],none,none,Nat.le_refl _,fun q m=>absurd m List.not_mem_nil,rfl⟩ (by
  rintro pre c post e hq ⟨L,o2,o3,h1,h2,rfl⟩
  have hp:pre.length<50:=by have:=congrArg List.length hq;rw[List.length_append,List.length_cons]at this;omega
  have hb:c8 2 (.int c) [.fz (.lst (cs.map D.int)),.ow (L.map wD),un o2,un o3]=some [.fz (.lst (cs.map D.int)),.ow (L.map wD),.fz (.int c),un o3]:=by cases o2<;>rfl
  obtain⟨q1,p1,r1⟩:=a7m c
  obtain⟨q2,p2,r2⟩:=a7m (c/B/B/2/2)
  obtain⟨b,st⟩:=b3L v5 J7 (.fz (.lst (cs.map D.int))) (L.map wD) c B _ _ o3 hB (by omega) (by rw[eB];decide +kernel) r1 r2 (by rw[List.length_map];show _<2 ^ 24;omega) (by rw[List.length_append,List.length_map];show _+1<2 ^ 24;omega)
  rw[hb,v3]
  refine⟨_,(congrArg A5 st).trans rfl,L++[q1]++(if b=true then[q2]else[]),some (.int c),some (.int (c/B/B/2)),?_,fun q m=>?_,?_⟩
  ·rw[List.length_append,List.length_append,List.length_append]
   cases b
   ·show L.length+1+0≤2*(pre.length+1);omega
   ·show L.length+1+1≤2*(pre.length+1);omega
  ·rcases List.mem_append.mp m with m | m
   ·rcases List.mem_append.mp m with m | m
    ·exact h2 q m
    ·rw[List.mem_singleton.mp m];exact p1
   ·cases b
    ·cases m
    ·rw[List.mem_singleton.mp m];exact p2
  ·rw[List.map_append,List.map_append]
   cases b<;>rfl)
 exact⟨L,by omega,h2,b2C _ _ _ _ _ f⟩
theorem a7n(ns:List Int)(hl:ns.length≤63):∃L:List Wr,L.length≤63∧(∀q∈L,Q0 q)∧a18 1 [] (zN (a1B 0 (oS (eC (.int 2))) (oS (eC (.int 65))))) (c8 0) A9 (i8 B5 (aC (eV 0) aN)) [.fz (.scr ns),.no,.no,.no,.no,.no,.no,.no,.no,.no]=some (.ok (L.map wD) [.fz (.scr ns),.no,.no,.no,.no,.no,.no,.no,.no,.no]):=by
 let f:Int→Wr:=fun c=>(a2R c).choose
 have hf:∀c,B5 [.int c]=some (.ret (wD (f c))):=fun c=>(a2R c).choose_spec.2
 refine⟨((ns.drop 2).take 63).map f,by rw[List.length_map,List.length_take];omega,fun q m=>?_,?_⟩
 ·obtain⟨c,_,rfl⟩:=List.mem_map.mp m
  exact(a2R c).choose_spec.1
 have hc:a0I (ns.map D.int) (some 2) (some 65)=((ns.drop 2).take 63).map D.int:=by
  rw[a5d (by omega) (by omega),show(2:Int).toNat=2 by omega,show((65:Int)-2).toNat=63 by omega,List.map_take,List.map_drop]
 have e0:(zN (a1B 0 (oS (eC (.int 2))) (oS (eC (.int 65))))) [.fz (.scr ns),.no,.no,.no,.no,.no,.no,.no,.no,.no]=some (.ok (.lst (a0I (ns.map D.int) (some 2) (some 65))) [.fz (.scr ns),.no,.no,.no,.no,.no,.no,.no,.no,.no]):=rfl
 unfold a18
 rw[e0,hc,X8]
 show l6 (c8 0) A9 (i8 B5 (aC (eV 0) aN)) [.no] _ (((ns.drop 2).take 63).map D.int) []=_
 rw[N9 D.int (fun c=>wD (f c)) (fun _=>true) ((ns.drop 2).take 63) [] (by rw[List.length_take];show 0+_≤2 ^ 24;omega) (fun c _=>⟨[.fz (.int c)],[.fz (.int c)],rfl,rfl,fun _=>⟨[.fz (.int c)],by show Z3 (B5 [.int c]) _=_;rw[hf];rfl⟩⟩)]
 rw[List.filter_eq_self.mpr (fun _ _=>rfl),List.map_map]
 rfl
theorem b2D(CO:NF)(e:DE)(ks:List Int)(h:CO e=some (.ok (ks.map D.int) e)):eCB (g1 a0a) (aC (zN CO) aN) e=some (.ok (.int ks.sum) e):=by
 have h2:a0a (.lst (ks.map D.int))=some (.int ks.sum):=by
  show(v8 _).map _=_
  rw[L2.ints_map]
  rfl
 generalize a0a=GS at *
 walk_at "eh"
theorem b3M{f:Nat→Int}{a b:List Nat}(h:a.Perm b):(a.map f).sum=(b.map f).sum:=by
 induction h with
 | nil=>rfl
 | cons x _ ih=>simp only[List.map_cons,List.sum_cons,ih]
 | swap x y l=>simp only[List.map_cons,List.sum_cons];omega
 | trans _ _ h1 h2=>exact h1.trans h2
theorem a8B{α:Type}(g:Wr→α)(L:List Wr):(List.range L.length).map (fun k=>g (gq L k))=L.map g:=by
 apply List.ext_getElem?
 intro i
 by_cases h:i<L.length
 ·rw[List.getElem?_map,List.getElem?_range h,List.getElem?_map,List.getElem?_eq_getElem h]
  unfold gq
  show some (g (L.getD i _))=_
  rw[List.getD_eq_getElem?_getD,List.getElem?_eq_getElem h]
  rfl
 ·rw[List.getElem?_eq_none (by rw[List.length_map,List.length_range];omega),List.getElem?_eq_none (by rw[List.length_map];omega)]
theorem b2E(l:List Int)(h:∀x∈l,0≤x∧x≤10 ^ 40):0≤l.sum∧l.sum≤(l.length:Int)*10 ^ 40:=by
 induction l with
 | nil=>exact⟨Int.le_refl _,by simp⟩
 | cons a l ih =>
  obtain⟨h1,h2⟩:=ih fun x m=>h x (List.mem_cons_of_mem _ m)
  obtain⟨a1,a2⟩:=h a List.mem_cons_self
  rw[List.sum_cons,List.length_cons]
  constructor
  ·omega
  ·have:((l.length+1:Nat):Int)=(l.length:Int)+1:=by omega
   omega
theorem a4w(l:List Int)(h:∀x∈l,0≤x∧x≤10 ^ 40):0≤F8 0 l∧F8 0 l≤10 ^ 40:=by
 cases l with
 | nil=>exact⟨Int.le_refl _,by show(0:Int)≤_;decide⟩
 | cons a l=>exact h _ (a2Q _ (List.cons_ne_nil _ _))
theorem wd3(c:Int):∃K,atI [D.str "next",D.str "first",D.str "best"] (c/2%3)=some (.str (wk K)):=by
 have:c/2%3=0∨c/2%3=1∨c/2%3=2:=by omega
 rcases this with z | z | z<;>rw[z]
 ·exact⟨.nx,rfl⟩
 ·exact⟨.fi,rfl⟩
 ·exact⟨.be,rfl⟩
theorem a7o:∀L:List Wr,noLs (L.map wD)=true
 | []=>rfl
 | q::L=>a7o L
abbrev coM(GM:D→D→Option D):NF:=(C2 1 1 [] (c8 0) A9 (eB GM (eB d9 (eV 0) (eC (.int 0))) (eB d9 (eV 0) (eC (.int 1)))))
theorem b2F(s0 s2 s3 s4 s5 s6 s7 s8 s9:Sl)(L:List Wr)(hl:L.length≤1000)(hq:∀q∈L,Q0 q):coM G9 [s0,.ow (L.map wD),s2,s3,s4,s5,s6,s7,s8,s9]=some (.ok ((L.map fun q=>q.1*q.2.1).map D.int) [s0,.ow (L.map wD),s2,s3,s4,s5,s6,s7,s8,s9]):=by
 show l6 (c8 0) A9 (eB G9 (eB d9 (eV 0) (eC (.int 0))) (eB d9 (eV 0) (eC (.int 1)))) [.no] _ (L.map wD) []=_
 rw[N9 wD (fun q=>D.int (q.1*q.2.1)) (fun _=>true) L [] (by show 0+_≤2 ^ 24;omega) (fun q m=>⟨[.fz (wD q)],[.fz (wD q)],rfl,rfl,fun _=>⟨[.fz (wD q)],by
  obtain⟨q1,q2,q3,q4⟩:=hq q m
  have g:G9 (.int q.1) (.int q.2.1)=some (.int (q.1*q.2.1)):=a2D (Fits.mul ((Z9 (i:=10 ^ 41)).le (by omega)) ((Z9 (i:=10 ^ 41)).le (by omega)))
  show W1 (G9 (.int q.1) (.int q.2.1)) _=_
  rw[g]
  rfl⟩⟩)]
 rw[List.filter_eq_self.mpr (fun _ _=>rfl),List.map_map]
 rfl
theorem a4x(c:Int)(g:Wr→Int)(hg:∀q,d9 (wD q) (.int c)=some (.int (g q)))(s0 s2 s3 s4 s5 s6 s7 s8 s9:Sl)(L:List Wr)(hl:L.length≤1000):coT 1 c [s0,.ow (L.map wD),s2,s3,s4,s5,s6,s7,s8,s9]=some (.ok ((L.map g).map D.int) [s0,.ow (L.map wD),s2,s3,s4,s5,s6,s7,s8,s9]) :=
 a5l wD g c L hl _ fun q _=>hg q
theorem eqW(neg:Bool)(L:List Wr):N8 neg (.lst (L.map wD)) (.lst (L.map wD))=some (.bl (!neg)):=a27 neg (by simp only[g8];exact a1l fun q _=>rfl) (by
 have:=a28 (f:=wD) (l:=L) (n:=2) (fun q _=>by unfold wD;simp[J8,B7])
 simp only[J8]
 omega) rfl
theorem eqP(neg:Bool)(h:Int)(l:List Nat)(f:Nat→D)(hf:∀k,∃x y,f k=plc x y):N8 neg (.tup [.int h,.lst (l.map f)]) (.tup [.int h,.lst (l.map f)])=some (.bl (!neg)):=by
 refine a27 neg ?_ ?_ rfl
 ·simp only[g8,u6,Bool.and_true,Bool.true_and]
  exact a1l fun k _=>by obtain⟨x,y,e⟩:=hf k;rw[e];rfl
 ·have:=a28 (f:=f) (l:=l) (n:=2) (fun k _=>by obtain⟨x,y,e⟩:=hf k;rw[e];unfold plc;simp[J8,B7])
  simp only[J8,B7]
  omega
theorem b0W(ns:List Int)(L:List Wr)(hl:L.length≤100)(hq:∀q∈L,Q0 q)(most W:Int)(K:Wk)(hW:∀q∈L,q.1≤W)(w0:0≤W)(wB:W≤10 ^ 43) :
  (a2d 6 7 y3 (aC (eV 3) (aC (eV 4) (aC (eV 5) aN))) (E4 (G7 (bZ (S8 6 "tuple"))) (E4 (bZ (eB (C1 true) (C0 t6 6) (eC (.int 2)))) (G7 (bZ (i8 t4 (aC (eB d9 (eV 6) (eC (.int 0))) aN)))))) (E4 (G7 (bZ (eCB a1A (aC (eB d9 (eV 6) (eC (.int 1))) (aC (eC (.ty "list")) aN))))) (E4 (bZ (eB (C1 true) (eCB (g1 t6) (aC (eB d9 (eV 6) (eC (.int 1))) aN)) (C0 t6 1))) (bZ (a2y (N8 true) 4 1)))) (G7 (bZ (i8 B2 (aC (eV 3) (aC (eB d9 (eV 6) (eC (.int 0))) (aC (eV 1) (aC (eB d9 (eV 6) (eC (.int 1))) aN))))))) (d7 (C7 (bZ (eB (N8 true) (a2c y3 (aC (eV 3) (aC (eV 4) (aC (eV 5) aN)))) (eV 7))) (m4 (eC (.bl false))) C6) (d7 (u5 8 (S9 (aC (zN (C2 1 1 [] (c8 0) A9 (eB d9 (eV 0) (eC (.int 1))))) aN) (aC (eC (.int 0)) aN))) (d7 (u5 9 (eCB (g1 a0a) (aC (zN (C2 1 1 [] (c8 0) A9 (eB G9 (eB d9 (eV 0) (eC (.int 0))) (eB d9 (eV 0) (eC (.int 1)))))) aN))) (m4 (eB gLe (eB G9 (eB D3 (eV 3) (eC (.int 1))) (eB O7 (eB d9 (eV 7) (eC (.int 0))) (eV 8))) (eB G9 (eC (.int 2)) (eV 9))))))))
   [.fz (.scr ns),.ow (L.map wD),.fz (.int most),.fz (.int W),.ow (L.map wD),.fz (.str (wk K)),.no,.no,.no,.no]=some (.rt (.bl true)):=by
 have ok:Ok W L:=fun q m=>by
  obtain⟨q1,q2,q3,q4⟩:=hq q m
  exact⟨q1,hW q m,q3,by omega⟩
 obtain⟨σ,bh,hp,hs⟩:=a7i L (by omega)
 obtain⟨Hs,px,py,I⟩:=b2w W K L ok (by omega) σ hp hs
 have sh:=a51 W L K (by omega) hW σ hp bh
 generalize run W K L σ=s at *
 have hn:σ.length=L.length:=by rw[hp.length_eq,List.length_range]
 have eP:s.P=(List.range L.length).map fun k=>plc (px k) (py k):=by
  apply List.ext_getElem?
  intro k
  by_cases h:k<L.length
  ·rw[(I.it k (hp.mem_iff.mpr (List.mem_range.mpr h))).1,List.getElem?_map,List.getElem?_range h]
   rfl
  ·rw[List.getElem?_eq_none (by rw[I.pl];omega),List.getElem?_eq_none (by rw[List.length_map,List.length_range];omega)]
 have pk:=a7l W K L ok (by omega) σ hp s Hs px py I
 obtain⟨x1,t1⟩:=b26 t4 ns (L.map wD) most W s.h (wk K) s.P (a8u _)
 obtain⟨x2,t2⟩:=b27 (N8 true) ns (L.map wD) most W s.h (wk K) s.P (by rw[I.pl,List.length_map]) (eqW true L)
 obtain⟨x3,t3⟩:=b28 B2 ns (L.map wD) most W s.h (wk K) s.P pk
 have nl:noLs (L.map wD)=true:=a7o L
 have fe:G0 (List.set [.fz (.scr ns),.ow (L.map wD),.fz (.int most),.fz (.int W),.fz (.lst (L.map wD)),.fz (.str (wk K)),.no,.no,.no,.no] 6 (.fz (.tup [.int s.h,.lst s.P])))=fE ns (L.map wD) most W s.h (wk K) s.P:=rfl
 refine(b0U (e2:=rE ns (L.map wD) most W s.h (wk K) s.P .no .no) (e1:=[.fz (.scr ns),.ow (L.map wD),.fz (.int most),.fz (.int W),.fz (.lst (L.map wD)),.fz (.str (wk K)),.no,.no,.no,.no]) (ds:=[.int W,.lst (L.map wD),.str (wk K)]) rfl sh rfl rfl (x1:=x1) (x2:=x2) (x3:=x3) (by rw[fe];exact t1) (by rw[fe];exact t2) (by rw[fe];exact t3) ⟨by decide,by rw[I.pl];show _<2 ^ 24;omega,?_⟩ rfl).trans ?_
 ·show(true && (noLs (L.map wD) && _))=true
  rw[nl]
  rfl
 have hb:=I.hb
 have h0:=I.h0
 have hbL:(σ.length:Int)≤100:=by omega
 have tb:=a4w (L.map fun q=>q.2.1) (fun x m=>by
  obtain⟨q,mq,rfl⟩:=List.mem_map.mp m
  obtain⟨_,_,q3,q4⟩:=hq q mq
  exact⟨by omega,q4⟩)
 have ge:=eqP true s.h (List.range L.length) (fun k=>plc (px k) (py k)) (fun k=>⟨_,_,rfl⟩)
 rw[← eP]at ge
 have cp:=b29 y3 ns (L.map wD) most W s.h (wk K) s.P sh
 have mt:=a8A (coT 1 1) (rE ns (L.map wD) most W s.h (wk K) s.P .no .no) _ (a4x 1 (fun q=>q.2.1) (fun q=>rfl) _ _ _ _ _ _ _ _ _ L (by omega))
 have sa:=b2D (coM G9) (rE ns (L.map wD) most W s.h (wk K) s.P (.fz (.int (F8 0 (L.map fun q=>q.2.1)))) .no) _ (b2F _ _ _ _ _ _ _ _ _ L (by omega) hq)
 have m1:G9 (.int (W+1)) (.int (s.h-F8 0 (L.map fun q=>q.2.1)))=some (.int ((W+1)*(s.h-F8 0 (L.map fun q=>q.2.1)))):=a2D (Fits.mul ((Z9 (i:=10 ^ 50)).le (by omega)) ((Z9 (i:=10 ^ 50)).le (by omega)))
 have m2:G9 (.int 2) (.int (L.map fun q=>q.1*q.2.1).sum)=some (.int (2*(L.map fun q=>q.1*q.2.1).sum)):=a6T (by decide)
 refine b2z _ _ _ (N8 true) G9 ns (L.map wD) most W s.h (F8 0 (L.map fun q=>q.2.1)) (L.map fun q=>q.1*q.2.1).sum _ _ (wk K) s.P cp ge mt sa m1 m2 ?_
 have ea:(L.map fun q=>q.1*q.2.1).sum=ArL L σ:=by
  unfold ArL
  rw[b3M hp,a8B (fun q=>q.1*q.2.1) L]
 rw[ea]
 by_cases z:s.R.length=0
 ·obtain⟨z1,z2⟩:=I.em z
  subst z1
  have:L.length=0:=by rw[← hn];rfl
  have hL0:L=[]:=List.length_eq_zero_iff.mp this
  subst hL0
  rw[z2]
  show(W+1)*(0-0)≤2*0
  rw[Int.sub_zero,Int.mul_zero,Int.mul_zero]
  exact Int.le_refl _
 ·have bd:=I.bd (by omega) 0 (Int.le_refl _) (fun k m=>by
   obtain⟨_,_,q3,_⟩:=hq (gq L k) (a4u (List.mem_range.mp (hp.mem_iff.mp m)))
   omega)
  rw[Int.zero_mul,Int.add_zero]at bd
  have et:F8 0 (L.map fun q=>q.2.1)=(gq L (σ.headD 0)).2.1:=by
   cases σ with
   | nil=>obtain⟨k,m,_⟩:=I.ex (by omega);cases m
   | cons a σ' =>
    have ha:a<L.length:=List.mem_range.mp (hp.mem_iff.mp List.mem_cons_self)
    have le1:=a4v (L.map fun q=>q.2.1) (gq L a).2.1 (List.mem_map.mpr ⟨gq L a,a4u ha,rfl⟩)
    have ne:(L.map fun q=>q.2.1)≠[]:=fun z=>by
     have:=congrArg List.length z
     rw[List.length_map,List.length_nil]at this
     omega
    have tm:=a2Q _ ne
    rw[← a8B (fun q=>q.2.1) L]at tm
    obtain⟨k,mk,ek⟩:=List.mem_map.mp tm
    rw[a8B (fun q=>q.2.1) L]at ek
    have hk:=hp.mem_iff.mpr mk
    have le2:(gq L k).2.1≤(gq L a).2.1:=by
     rcases List.mem_cons.mp hk with rfl | m
     ·exact Int.le_refl _
     ·exact a9a ((List.pairwise_cons.mp hs).1 k m)
    show _=(gq L a).2.1
    have ek:(gq L k).2.1=F8 0 (L.map fun q=>q.2.1):=ek
    omega
  rw[et]
  exact bd
theorem main(ns:List Int)(hl:ns.length≤63)(hb:∀m∈ns,Builtin.Int.intBits m≤2 ^ 20):a87 [.scr ns]=some (.ret (.bl true)):=by
 obtain⟨L1,l1,q1,n1⟩:=a7n ns hl
 have hc:a0I (ns.map D.int) (some 2) (some 52)=((ns.drop 2).take 50).map D.int:=by
  rw[a5d (by omega) (by omega),show(2:Int).toNat=2 by omega,show((52:Int)-2).toNat=50 by omega,List.map_take,List.map_drop]
 obtain⟨L2',l2,q2,n2⟩:=b0V ((ns.drop 2).take 50) (by rw[List.length_take];omega)
 obtain⟨B,gB,eB⟩:∃B:Int,J7 (.int 10) (.int 42)=some (.int B)∧B=10 ^ 42:=⟨_,a2E (by decide +kernel),rfl⟩
 obtain⟨K,hK⟩:=wd3 (J2 ns 0)
 have bdw:∀L:List Wr,(∀q∈L,Q0 q)→∀x∈L.map (fun q=>q.1),0≤x∧x≤10 ^ 40:=fun L h x m=>by
  obtain⟨q,mq,rfl⟩:=List.mem_map.mp m
  obtain⟨a,b,_,_⟩:=h q mq
  exact⟨by omega,b⟩
 have s1:=b2E _ (bdw L1 q1)
 rw[List.length_map]at s1
 obtain⟨L,most,hm,lL,qL,m0,mB⟩:∃(L:List Wr) (most:Int),((J2 ns 0%2=1∧t5 [.lst (((ns.drop 2).take 50).map D.int)]=some (.own (L.map wD))∧most=B-F8 0 (L.map fun q=>q.1))∨(¬J2 ns 0%2=1∧L.map wD=L1.map wD∧most=(L1.map fun q=>q.1).sum))∧L.length≤100∧(∀q∈L,Q0 q)∧0≤most∧most≤10 ^ 42:=by
  by_cases z:J2 ns 0%2=1
  ·have t:=a4w _ (bdw L2' q2)
   exact⟨L2',_,.inl ⟨z,n2,rfl⟩,l2,q2,by omega,by omega⟩
  ·exact⟨L1,_,.inr ⟨z,rfl,rfl⟩,by omega,q1,s1.1,by omega⟩
 have t:=a4w _ (bdw L qL)
 have r1:=Int.emod_nonneg (J2 ns 1) (show 1+most≠0 by omega)
 have r2:=Int.emod_lt_of_pos (J2 ns 1) (show 0<1+most by omega)
 refine b0T B4 t5 _ _ _ _ J7 _ ns (J2 ns 0) (J2 ns 1) (L1.map fun q=>q.1).sum (F8 0 (L.map fun q=>q.1)) most B (wk K) (L1.map wD) (L.map wD) (((ns.drop 2).take 50).map D.int) (a5g (by omega)) (a5g (by omega)) n1 (b2D (coT 1 0) _ _ (a4x 0 (fun q=>q.1) (fun q=>rfl) _ _ _ _ _ _ _ _ _ L1 (by omega))) ?_ gB (fun x=>a8A (coT 1 0) _ _ (a4x 0 (fun q=>q.1) (fun q=>rfl) _ _ _ _ _ _ _ _ _ L (by omega))) hm (by omega) hK (b0W ns L lL qL most _ K (fun q m=>?_) (by omega) (by omega))
 ·rw[← hc];rfl
 ·have:=a4v (L.map fun q=>q.1) q.1 (List.mem_map.mpr ⟨q,m,rfl⟩)
  omega
def a2j(K:PySem.W.Frag)(c:Str→Addr):Sp:=fun vs H Q _=>∃a,∃ns:List Int,vs=[.ref a]∧Scr K H a (ns.map V.int)∧(∀m∈ns,Builtin.Int.intBits m≤2 ^ 20)∧ns.length≤63∧∀H',Q (.bl true) H'
theorem b2G{TB:List (Addr×Str)}{f:Addr}{fd:FuncData}(F:Fun K "law" "law" t8 f fd)(T:Txt K mg c)(G_l_ware:Own P w K mg base 5 "_law_ware" ["_law_cell_here"] (i6 K c B5))(G_l_cell:Own P w K mg base 3 "_law_cell" ["_law_script","_law_k"] (i6 K c B4))(G_l_any_wares:Own P w K mg base 5 "_law_any_wares" ["_law_cells"] (i6 K c t5))(G_shelved:OwnD P w K mg base 5 "shelved" ["width","wares","word"] (U5 TB (i6 K c y3)) (.str "next"))(G_l_whole:Own P w K mg base 3 "_law_whole" ["_law_found"] (i6 K c t4))(G_l_packed:Own P w K mg base 7 "_law_packed" ["_law_width","_law_top","_law_wares","_law_places"] (i6 K c B2)):FnOk P w K mg base (n4 P w) 9 f fd ["_law_script"] (U5 TB (a2j K c)) :=
 (b0H F T G_l_ware G_l_cell G_l_any_wares G_shelved G_l_whole G_l_packed ).imp fun vs H Q E ⟨hT,a,ns,e,h,hb,hl,q⟩=>⟨hT,a9I e h q (main ns hl hb)⟩
def cOf(l:List (Str×Addr))(x:Str):Addr:=(l.lookup x).getD 0
abbrev cL(c0 c1 c2 c3:Addr):=cOf [("BestShelver",c0),("FirstShelver",c1),("NoPicker",c2),("Shelver",c3)]
theorem all_mk{w:World}{K:PySem.W.Frag}{h:Heap}{mg:Str→Option Value}{fa:Addr}(X:K.In h)(G:h.Ns mainGlobals mg)(hfa:mg "law" = some (.ref fa)){q:Program}{loose:List Str}{mean:ExcName→Option Value}{mb:Str→Option Value}(Tp:PyProof.Rows.Top q loose mean mg mb h)
  {c0 c1 c2 c3:Addr} {f_0:Addr} {oc_0 kV_0 dc_0 pm_0 cd_0 ct_0:Value} {od_0 an_0:Option Addr} {sl_0:Array (Option Value)} {f_1:Addr} {oc_1 kV_1 dc_1 pm_1 cd_1 ct_1:Value} {od_1 an_1:Option Addr} {sl_1:Array (Option Value)} {f_2:Addr} {oc_2 kV_2 dc_2 pm_2 cd_2 ct_2:Value} {od_2 an_2:Option Addr} {sl_2:Array (Option Value)} {f_3:Addr} {oc_3 kV_3 dc_3 pm_3 cd_3 ct_3:Value} {od_3 an_3:Option Addr} {sl_3:Array (Option Value)} {f_4:Addr} {oc_4 kV_4 dc_4 pm_4 cd_4 ct_4:Value} {od_4 an_4:Option Addr} {sl_4:Array (Option Value)} {f_5:Addr} {oc_5 kV_5 dc_5 pm_5 cd_5 ct_5:Value} {od_5 an_5:Option Addr} {sl_5:Array (Option Value)} {f_16:Addr} {oc_16 kV_16 dc_16 pm_16 cd_16 ct_16:Value} {od_16 an_16:Option Addr} {sl_16:Array (Option Value)} {dT_shelved:Addr} {doc_shelved:Value} {dod_shelved:Option Addr} {dn_shelved:Nat} {dsl_shelved:Array (Option Value)} {dtok_shelved:Tok} {f_6:Addr} {oc_6 kV_6 dc_6 pm_6 cd_6 ct_6:Value} {od_6 an_6:Option Addr} {sl_6:Array (Option Value)} {f_7:Addr} {oc_7 kV_7 dc_7 pm_7 cd_7 ct_7:Value} {od_7 an_7:Option Addr} {sl_7:Array (Option Value)} {f_8:Addr} {oc_8 kV_8 dc_8 pm_8 cd_8 ct_8:Value} {od_8 an_8:Option Addr} {sl_8:Array (Option Value)} {f_9:Addr} {oc_9 kV_9 dc_9 pm_9 cd_9 ct_9:Value} {od_9 an_9:Option Addr} {sl_9:Array (Option Value)} {f_10:Addr} {oc_10 kV_10 dc_10 pm_10 cd_10 ct_10:Value} {od_10 an_10:Option Addr} {sl_10:Array (Option Value)} {f_11:Addr} {oc_11 kV_11 dc_11 pm_11 cd_11 ct_11:Value} {od_11 an_11:Option Addr} {sl_11:Array (Option Value)} {f_12:Addr} {oc_12 kV_12 dc_12 pm_12 cd_12 ct_12:Value} {od_12 an_12:Option Addr} {sl_12:Array (Option Value)} {f_13:Addr} {oc_13 kV_13 dc_13 pm_13 cd_13 ct_13:Value} {od_13 an_13:Option Addr} {sl_13:Array (Option Value)} {f_14:Addr} {oc_14 kV_14 dc_14 pm_14 cd_14 ct_14:Value} {od_14 an_14:Option Addr} {sl_14:Array (Option Value)} {f_15:Addr} {oc_15 kV_15 dc_15 pm_15 cd_15 ct_15:Value} {od_15 an_15:Option Addr} {sl_15:Array (Option Value)} {cc_by_height Pt_by_height:Addr} {oq_by_height:Value} {oe_by_height:Option Addr} {vs_by_height:Array Value} {sm_by_height:Array (Option Value)}
  (a_0:PySem.W.nsIn K mainGlobals "by_height" = some (some (.ref f_0)))
  (l_0:K.lookup f_0=some ⟨oc_0,od_0,.func (PySem.W.fnOf "by_height" "by_height" (i9 y0) (i5 y0) (a8 y0) .none kV_0 dc_0 pm_0 an_0 cd_0 ct_0),sl_0⟩)
  (c_0:PySem.W.codeIn K cd_0 "by_height" = true)
  (k_0:PySem.W.keepIn K (.ref f_0)=true)
  (a_1:PySem.W.nsIn K mainGlobals "shelver_of" = some (some (.ref f_1)))
  (l_1:K.lookup f_1=some ⟨oc_1,od_1,.func (PySem.W.fnOf "shelver_of" "shelver_of" (i9 C3) (i5 C3) (a8 C3) .none kV_1 dc_1 pm_1 an_1 cd_1 ct_1),sl_1⟩)
  (c_1:PySem.W.codeIn K cd_1 "shelver_of" = true)
  (k_1:PySem.W.keepIn K (.ref f_1)=true)
  (a_2:PySem.W.nsIn K mainGlobals "check_widths" = some (some (.ref f_2)))
  (l_2:K.lookup f_2=some ⟨oc_2,od_2,.func (PySem.W.fnOf "check_widths" "check_widths" (i9 y4) (i5 y4) (a8 y4) .none kV_2 dc_2 pm_2 an_2 cd_2 ct_2),sl_2⟩)
  (c_2:PySem.W.codeIn K cd_2 "check_widths" = true)
  (k_2:PySem.W.keepIn K (.ref f_2)=true)
  (a_3:PySem.W.findIn K (.ref c3) "pick" = some (some (.ref f_3)))
  (i_Shelver_pick:PySem.W.isFn K (.ref f_3)=true)
  (l_3:K.lookup f_3=some ⟨oc_3,od_3,.func (PySem.W.fnOf "pick" "Shelver.pick" (i9 y6) (i5 y6) (a8 y6) .none kV_3 dc_3 pm_3 an_3 cd_3 ct_3),sl_3⟩)
  (c_3:PySem.W.codeIn K cd_3 "Shelver.pick" = true)
  (k_3:PySem.W.keepIn K (.ref f_3)=true)
  (a_4:PySem.W.findIn K (.ref c1) "pick" = some (some (.ref f_4)))
  (i_FirstShelver_pick:PySem.W.isFn K (.ref f_4)=true)
  (l_4:K.lookup f_4=some ⟨oc_4,od_4,.func (PySem.W.fnOf "pick" "FirstShelver.pick" (i9 p9) (i5 p9) (a8 p9) .none kV_4 dc_4 pm_4 an_4 cd_4 ct_4),sl_4⟩)
  (c_4:PySem.W.codeIn K cd_4 "FirstShelver.pick" = true)
  (k_4:PySem.W.keepIn K (.ref f_4)=true)
  (a_5:PySem.W.findIn K (.ref c0) "pick" = some (some (.ref f_5)))
  (i_BestShelver_pick:PySem.W.isFn K (.ref f_5)=true)
  (l_5:K.lookup f_5=some ⟨oc_5,od_5,.func (PySem.W.fnOf "pick" "BestShelver.pick" (i9 l3) (i5 l3) (a8 l3) .none kV_5 dc_5 pm_5 an_5 cd_5 ct_5),sl_5⟩)
  (c_5:PySem.W.codeIn K cd_5 "BestShelver.pick" = true)
  (k_5:PySem.W.keepIn K (.ref f_5)=true)
  (a_16:PySem.W.nsIn K mainGlobals "shelved" = some (some (.ref f_16)))
  (l_16:K.lookup f_16=some ⟨oc_16,od_16,.func (PySem.W.fnOf "shelved" "shelved" (i9 K8) (i5 K8) (a8 K8) (.ref dT_shelved) kV_16 dc_16 pm_16 an_16 cd_16 ct_16),sl_16⟩)
  (df_shelved:K.lookup dT_shelved=some ⟨doc_shelved,dod_shelved,.seq [.str "next" dtok_shelved].toArray dn_shelved,dsl_shelved⟩)
  (c_16:PySem.W.codeIn K cd_16 "shelved" = true)
  (k_16:PySem.W.keepIn K (.ref f_16)=true)
  (a_6:PySem.W.nsIn K mainGlobals "_law_whole" = some (some (.ref f_6)))
  (l_6:K.lookup f_6=some ⟨oc_6,od_6,.func (PySem.W.fnOf "_law_whole" "_law_whole" (i9 K9) (i5 K9) (a8 K9) .none kV_6 dc_6 pm_6 an_6 cd_6 ct_6),sl_6⟩)
  (c_6:PySem.W.codeIn K cd_6 "_law_whole" = true)
  (k_6:PySem.W.keepIn K (.ref f_6)=true)
  (a_7:PySem.W.nsIn K mainGlobals "_law_cell" = some (some (.ref f_7)))
  (l_7:K.lookup f_7=some ⟨oc_7,od_7,.func (PySem.W.fnOf "_law_cell" "_law_cell" (i9 O0) (i5 O0) (a8 O0) .none kV_7 dc_7 pm_7 an_7 cd_7 ct_7),sl_7⟩)
  (c_7:PySem.W.codeIn K cd_7 "_law_cell" = true)
  (k_7:PySem.W.keepIn K (.ref f_7)=true)
  (a_8:PySem.W.nsIn K mainGlobals "_law_side" = some (some (.ref f_8)))
  (l_8:K.lookup f_8=some ⟨oc_8,od_8,.func (PySem.W.fnOf "_law_side" "_law_side" (i9 O1) (i5 O1) (a8 O1) .none kV_8 dc_8 pm_8 an_8 cd_8 ct_8),sl_8⟩)
  (c_8:PySem.W.codeIn K cd_8 "_law_side" = true)
  (k_8:PySem.W.keepIn K (.ref f_8)=true)
  (a_9:PySem.W.nsIn K mainGlobals "_law_ware" = some (some (.ref f_9)))
  (l_9:K.lookup f_9=some ⟨oc_9,od_9,.func (PySem.W.fnOf "_law_ware" "_law_ware" (i9 O2) (i5 O2) (a8 O2) .none kV_9 dc_9 pm_9 an_9 cd_9 ct_9),sl_9⟩)
  (c_9:PySem.W.codeIn K cd_9 "_law_ware" = true)
  (k_9:PySem.W.keepIn K (.ref f_9)=true)
  (a_10:PySem.W.nsIn K mainGlobals "_law_any_ware" = some (some (.ref f_10)))
  (l_10:K.lookup f_10=some ⟨oc_10,od_10,.func (PySem.W.fnOf "_law_any_ware" "_law_any_ware" (i9 C4) (i5 C4) (a8 C4) .none kV_10 dc_10 pm_10 an_10 cd_10 ct_10),sl_10⟩)
  (c_10:PySem.W.codeIn K cd_10 "_law_any_ware" = true)
  (k_10:PySem.W.keepIn K (.ref f_10)=true)
  (a_11:PySem.W.nsIn K mainGlobals "_law_any_wares" = some (some (.ref f_11)))
  (l_11:K.lookup f_11=some ⟨oc_11,od_11,.func (PySem.W.fnOf "_law_any_wares" "_law_any_wares" (i9 A8) (i5 A8) (a8 A8) .none kV_11 dc_11 pm_11 an_11 cd_11 ct_11),sl_11⟩)
  (c_11:PySem.W.codeIn K cd_11 "_law_any_wares" = true)
  (k_11:PySem.W.keepIn K (.ref f_11)=true)
  (a_12:PySem.W.nsIn K mainGlobals "_law_spot" = some (some (.ref f_12)))
  (l_12:K.lookup f_12=some ⟨oc_12,od_12,.func (PySem.W.fnOf "_law_spot" "_law_spot" (i9 O3) (i5 O3) (a8 O3) .none kV_12 dc_12 pm_12 an_12 cd_12 ct_12),sl_12⟩)
  (c_12:PySem.W.codeIn K cd_12 "_law_spot" = true)
  (k_12:PySem.W.keepIn K (.ref f_12)=true)
  (a_13:PySem.W.nsIn K mainGlobals "_law_meet" = some (some (.ref f_13)))
  (l_13:K.lookup f_13=some ⟨oc_13,od_13,.func (PySem.W.fnOf "_law_meet" "_law_meet" (i9 O4) (i5 O4) (a8 O4) .none kV_13 dc_13 pm_13 an_13 cd_13 ct_13),sl_13⟩)
  (c_13:PySem.W.codeIn K cd_13 "_law_meet" = true)
  (k_13:PySem.W.keepIn K (.ref f_13)=true)
  (a_14:PySem.W.nsIn K mainGlobals "_law_packed" = some (some (.ref f_14)))
  (l_14:K.lookup f_14=some ⟨oc_14,od_14,.func (PySem.W.fnOf "_law_packed" "_law_packed" (i9 B1) (i5 B1) (a8 B1) .none kV_14 dc_14 pm_14 an_14 cd_14 ct_14),sl_14⟩)
  (c_14:PySem.W.codeIn K cd_14 "_law_packed" = true)
  (k_14:PySem.W.keepIn K (.ref f_14)=true)
  (a_15:PySem.W.nsIn K mainGlobals "law" = some (some (.ref f_15)))
  (l_15:K.lookup f_15=some ⟨oc_15,od_15,.func (PySem.W.fnOf "law" "law" (i9 t8) (i5 t8) (a8 t8) .none kV_15 dc_15 pm_15 an_15 cd_15 ct_15),sl_15⟩)
  (c_15:PySem.W.codeIn K cd_15 "law" = true)
  (k_15:PySem.W.keepIn K (.ref f_15)=true)
  (tc_by_height:cd_0=.ref cc_by_height)
  (tk_by_height:K.lookup cc_by_height=some ⟨oq_by_height,oe_by_height,.fields vs_by_height,sm_by_height⟩)
  (tp_by_height:vs_by_height.getD 11 .none=.ref Pt_by_height)
  (tn_by_height:K.lookup Pt_by_height=none)
  (tr_by_height:(PyProof.Rows.recsOf q).any (fun d=>d.name == "by_height")=true)
  (z_bool:PySem.W.nsIn K mainGlobals "bool" = some none)
  (z_enumerate:PySem.W.nsIn K mainGlobals "enumerate" = some none)
  (z_int:PySem.W.nsIn K mainGlobals "int" = some none)
  (z_isinstance:PySem.W.nsIn K mainGlobals "isinstance" = some none)
  (z_len:PySem.W.nsIn K mainGlobals "len" = some none)
  (z_list:PySem.W.nsIn K mainGlobals "list" = some none)
  (z_max:PySem.W.nsIn K mainGlobals "max" = some none)
  (z_min:PySem.W.nsIn K mainGlobals "min" = some none)
  (z_range:PySem.W.nsIn K mainGlobals "range" = some none)
  (z_sorted:PySem.W.nsIn K mainGlobals "sorted" = some none)
  (z_sum:PySem.W.nsIn K mainGlobals "sum" = some none)
  (z_tuple:PySem.W.nsIn K mainGlobals "tuple" = some none)
  (m_BestShelver:PySem.W.nsIn K mainGlobals "BestShelver" = some (some (.ref c0)))
  (m_FirstShelver:PySem.W.nsIn K mainGlobals "FirstShelver" = some (some (.ref c1)))
  (m_NoPicker:PySem.W.nsIn K mainGlobals "NoPicker" = some (some (.ref c2)))
  (m_Shelver:PySem.W.nsIn K mainGlobals "Shelver" = some (some (.ref c3)))
  (x_NoPicker:PySem.W.excIn K c2 a3R "ValueError.__new__" = true)
  (cl_Shelver1:PySem.W.plainGet K c3 Str.empty=true)
  (cl_Shelver2:PySem.W.hasDictIn K c3=true)
  (cl_Shelver3:PySem.W.plainOver K c3=true)
  (cl_Shelver4:PySem.W.findIn K (.ref c3) "__setattr__" = some (some (.builtin "object.__setattr__")))
  (cl_FirstShelver1:PySem.W.plainGet K c1 Str.empty=true)
  (cl_FirstShelver2:PySem.W.hasDictIn K c1=true)
  (cl_FirstShelver3:PySem.W.plainOver K c1=true)
  (cl_FirstShelver4:PySem.W.findIn K (.ref c1) "__setattr__" = some (some (.builtin "object.__setattr__")))
  (cl_BestShelver1:PySem.W.plainGet K c0 Str.empty=true)
  (cl_BestShelver2:PySem.W.hasDictIn K c0=true)
  (cl_BestShelver3:PySem.W.plainOver K c0=true)
  (cl_BestShelver4:PySem.W.findIn K (.ref c0) "__setattr__" = some (some (.builtin "object.__setattr__")))
  (mk_BestShelver:PySem.W.makesIn K c0=true)
  (in_BestShelver:PySem.W.findIn K (.ref c0) "__init__" = some (some (.builtin "object.__init__")))
  (kc_BestShelver:PySem.W.keepIn K (.ref c0)=true)
  (mk_FirstShelver:PySem.W.makesIn K c1=true)
  (in_FirstShelver:PySem.W.findIn K (.ref c1) "__init__" = some (some (.builtin "object.__init__")))
  (kc_FirstShelver:PySem.W.keepIn K (.ref c1)=true)
  (mk_Shelver:PySem.W.makesIn K c3=true)
  (in_Shelver:PySem.W.findIn K (.ref c3) "__init__" = some (some (.builtin "object.__init__")))
  (kc_Shelver:PySem.W.keepIn K (.ref c3)=true)
  : ∃(fd:FuncData) (TB:List (Addr×Str)),(∀(s:Shared) (v:Value),BindsTo s fd ⟨[v],[]⟩ [("_law_script",v)])∧(∀Pa qq,TB.lookup Pa=some qq→(∃c,h.TableAt c Pa #[])∧K.lookup Pa=none)∧∃c:Str→Addr,∀base:Heap,K.In base→base.Ns mainGlobals mg→(∀b o,h.get? b=some o→o.cls≠.none→o.cls≠.type "list"→base.get? b=some o)→FnOk (PySem.Challenge.rw_cratefit_k53_whole_shelves_are_low).prog w K mg base (n4 (PySem.Challenge.rw_cratefit_k53_whole_shelves_are_low).prog w) 9 fa fd ["_law_script"] (U5 TB (a2j K c)):=by
 have e:=hfa.symm.trans (PySem.W.mg_of X G a_15)
 cases e
 have T:Txt K mg (cL c0 c1 c2 c3):=⟨PySem.W.mg_none_of X G z_bool,PySem.W.mg_none_of X G z_enumerate,PySem.W.mg_none_of X G z_int,PySem.W.mg_none_of X G z_isinstance,PySem.W.mg_none_of X G z_len,PySem.W.mg_none_of X G z_list,PySem.W.mg_none_of X G z_max,PySem.W.mg_none_of X G z_min,PySem.W.mg_none_of X G z_range,PySem.W.mg_none_of X G z_sorted,PySem.W.mg_none_of X G z_sum,PySem.W.mg_none_of X G z_tuple,PySem.W.mg_of X G m_BestShelver,PySem.W.mg_of X G m_FirstShelver,PySem.W.mg_of X G m_NoPicker,PySem.W.mg_of X G m_Shelver,x_NoPicker,⟨cl_Shelver1,cl_Shelver2,cl_Shelver3,cl_Shelver4⟩,⟨cl_FirstShelver1,cl_FirstShelver2,cl_FirstShelver3,cl_FirstShelver4⟩,⟨cl_BestShelver1,cl_BestShelver2,cl_BestShelver3,cl_BestShelver4⟩,mk_BestShelver,in_BestShelver,kc_BestShelver,mk_FirstShelver,in_FirstShelver,kc_FirstShelver,mk_Shelver,in_Shelver,kc_Shelver⟩
 have TT_by_height:=b1w Tp X tr_by_height (PySem.W.mg_of X G a_0) l_0 tc_by_height tk_by_height tp_by_height
 refine⟨PySem.W.fnOf "law" "law" (i9 t8) (i5 t8) (a8 t8) .none kV_15 dc_15 pm_15 an_15 cd_15 ct_15,[(Pt_by_height,("by_height.<locals>.<lambda>" : Str))],fun s v=>.of_eq rfl,fun Pa qq e=>?_,cOf [("BestShelver",c0),("FirstShelver",c1),("NoPicker",c2),("Shelver",c3)],fun base _ _ kp=>?_⟩
 ·simp only[List.lookup]at e
  split at e
  ·rename_i z;have z:=beq_iff_eq.mp z;subst z;exact⟨⟨_,TT_by_height.1⟩,tn_by_height⟩
  ·cases e
 have hL_by_height:List.lookup Pt_by_height [(Pt_by_height,("by_height.<locals>.<lambda>" : Str))]=some "by_height.<locals>.<lambda>" := by simp[List.lookup]
 have F_0:=w9 (st:=y0) l_0 c_0 k_0
 have B_0:=F_0.binds (ps:=["wares"]) fun _ _ _ _ _ _ us hl=>match us,hl with | [_],_=>rfl
 have O_0:Own (PySem.Challenge.rw_cratefit_k53_whole_shelves_are_low).prog w K mg base 3 "by_height" ["wares"] (U5 [(Pt_by_height,("by_height.<locals>.<lambda>" : Str))] (i6 K (cL c0 c1 c2 c3) r6)):=⟨_,_,a4m F_0 T  (tc_by_height) (TT_by_height.2 base kp).1 (TT_by_height.2 base kp).2 hL_by_height,B_0,k_0,PySem.W.mg_of X G a_0⟩
 have F_1:=w9 (st:=C3) l_1 c_1 k_1
 have B_1:=F_1.binds (ps:=["word"]) fun _ _ _ _ _ _ us hl=>match us,hl with | [_],_=>rfl
 have O_1:Own (PySem.Challenge.rw_cratefit_k53_whole_shelves_are_low).prog w K mg base 3 "shelver_of" ["word"] (i6 K (cL c0 c1 c2 c3) A0):=⟨_,_,a3l F_1 T ,B_1,k_1,PySem.W.mg_of X G a_1⟩
 have F_2:=w9 (st:=y4) l_2 c_2 k_2
 have B_2:=F_2.binds (ps:=["width","wares"]) fun _ _ _ _ _ _ us hl=>match us,hl with | [_,_],_=>rfl
 have O_2:Own (PySem.Challenge.rw_cratefit_k53_whole_shelves_are_low).prog w K mg base 3 "check_widths" ["width","wares"] (i6 K (cL c0 c1 c2 c3) y8):=⟨_,_,a2f F_2 T ,B_2,k_2,PySem.W.mg_of X G a_2⟩
 have F_3:=w9 (st:=y6) l_3 c_3 k_3
 have B_3:=F_3.binds (ps:=["self","rooms","w"]) fun _ _ _ _ _ _ us hl=>match us,hl with | [_,_,_],_=>rfl
 have OM_Shelver_pick:OwnM (PySem.Challenge.rw_cratefit_k53_whole_shelves_are_low).prog w K mg base 3 ((cL c0 c1 c2 c3) "Shelver") "pick" ["self","rooms","w"] (i6 K (cL c0 c1 c2 c3) n5):=⟨⟨_,_,(a2h F_3 T ),B_3,⟨a_3,i_Shelver_pick,k_3⟩⟩,T.cl_Shelver⟩
 have F_4:=w9 (st:=p9) l_4 c_4 k_4
 have B_4:=F_4.binds (ps:=["self","rooms","w"]) fun _ _ _ _ _ _ us hl=>match us,hl with | [_,_,_],_=>rfl
 have OM_FirstShelver_pick:OwnM (PySem.Challenge.rw_cratefit_k53_whole_shelves_are_low).prog w K mg base 3 ((cL c0 c1 c2 c3) "FirstShelver") "pick" ["self","rooms","w"] (i6 K (cL c0 c1 c2 c3) j8):=⟨⟨_,_,(a0f F_4 T ),B_4,⟨a_4,i_FirstShelver_pick,k_4⟩⟩,T.cl_FirstShelver⟩
 have F_5:=w9 (st:=l3) l_5 c_5 k_5
 have B_5:=F_5.binds (ps:=["self","rooms","w"]) fun _ _ _ _ _ _ us hl=>match us,hl with | [_,_,_],_=>rfl
 have OM_BestShelver_pick:OwnM (PySem.Challenge.rw_cratefit_k53_whole_shelves_are_low).prog w K mg base 3 ((cL c0 c1 c2 c3) "BestShelver") "pick" ["self","rooms","w"] (i6 K (cL c0 c1 c2 c3) l4):=⟨⟨_,_,(a0m F_5 T ),B_5,⟨a_5,i_BestShelver_pick,k_5⟩⟩,T.cl_BestShelver⟩
 have F_16:=a9o (st:=K8) l_16 c_16 k_16
 have B_16:=F_16.binds (ps:=["width","wares","word"]) (ds:=[]) (items:=[.str "next" dtok_shelved]) df_shelved rfl fun _ _ _ _ _ _ us hl=>match us,(show us.length=3 by simpa using hl)with | [_,_,_],_=>⟨_,rfl,rfl⟩
 have BD_shelved:=F_16.binds (ps:=["width","wares","word"]) (ds:=[.str "next" dtok_shelved]) (items:=[.str "next" dtok_shelved]) df_shelved rfl fun _ _ _ _ _ _ us hl=>match us,(show us.length=2 by simpa using hl)with | [_,_],_=>⟨_,rfl,rfl⟩
 have O_16:OwnD (PySem.Challenge.rw_cratefit_k53_whole_shelves_are_low).prog w K mg base 5 "shelved" ["width","wares","word"] (U5 [(Pt_by_height,("by_height.<locals>.<lambda>" : Str))] (i6 K (cL c0 c1 c2 c3) y3)) (.str "next"):=⟨_,_,_,a5W F_16 T O_1 O_2 O_0 OM_Shelver_pick OM_FirstShelver_pick OM_BestShelver_pick,B_16,BD_shelved,⟨_,rfl⟩,k_16,PySem.W.mg_of X G a_16⟩
 have F_6:=w9 (st:=K9) l_6 c_6 k_6
 have B_6:=F_6.binds (ps:=["_law_found"]) fun _ _ _ _ _ _ us hl=>match us,hl with | [_],_=>rfl
 have O_6:Own (PySem.Challenge.rw_cratefit_k53_whole_shelves_are_low).prog w K mg base 3 "_law_whole" ["_law_found"] (i6 K (cL c0 c1 c2 c3) t4):=⟨_,_,a5Y F_6 T ,B_6,k_6,PySem.W.mg_of X G a_6⟩
 have F_7:=w9 (st:=O0) l_7 c_7 k_7
 have B_7:=F_7.binds (ps:=["_law_script","_law_k"]) fun _ _ _ _ _ _ us hl=>match us,hl with | [_,_],_=>rfl
 have O_7:Own (PySem.Challenge.rw_cratefit_k53_whole_shelves_are_low).prog w K mg base 3 "_law_cell" ["_law_script","_law_k"] (i6 K (cL c0 c1 c2 c3) B4):=⟨_,_,a67 F_7 T ,B_7,k_7,PySem.W.mg_of X G a_7⟩
 have F_8:=w9 (st:=O1) l_8 c_8 k_8
 have B_8:=F_8.binds (ps:=["_law_cell_here"]) fun _ _ _ _ _ _ us hl=>match us,hl with | [_],_=>rfl
 have O_8:Own (PySem.Challenge.rw_cratefit_k53_whole_shelves_are_low).prog w K mg base 3 "_law_side" ["_law_cell_here"] (i6 K (cL c0 c1 c2 c3) D9):=⟨_,_,a69 F_8 T ,B_8,k_8,PySem.W.mg_of X G a_8⟩
 have F_9:=w9 (st:=O2) l_9 c_9 k_9
 have B_9:=F_9.binds (ps:=["_law_cell_here"]) fun _ _ _ _ _ _ us hl=>match us,hl with | [_],_=>rfl
 have O_9:Own (PySem.Challenge.rw_cratefit_k53_whole_shelves_are_low).prog w K mg base 5 "_law_ware" ["_law_cell_here"] (i6 K (cL c0 c1 c2 c3) B5):=⟨_,_,a7a F_9 T O_8,B_9,k_9,PySem.W.mg_of X G a_9⟩
 have F_10:=w9 (st:=C4) l_10 c_10 k_10
 have B_10:=F_10.binds (ps:=["_law_cell_here"]) fun _ _ _ _ _ _ us hl=>match us,hl with | [_],_=>rfl
 have O_10:Own (PySem.Challenge.rw_cratefit_k53_whole_shelves_are_low).prog w K mg base 3 "_law_any_ware" ["_law_cell_here"] (i6 K (cL c0 c1 c2 c3) v5):=⟨_,_,a3m F_10 T ,B_10,k_10,PySem.W.mg_of X G a_10⟩
 have F_11:=w9 (st:=A8) l_11 c_11 k_11
 have B_11:=F_11.binds (ps:=["_law_cells"]) fun _ _ _ _ _ _ us hl=>match us,hl with | [_],_=>rfl
 have O_11:Own (PySem.Challenge.rw_cratefit_k53_whole_shelves_are_low).prog w K mg base 5 "_law_any_wares" ["_law_cells"] (i6 K (cL c0 c1 c2 c3) t5):=⟨_,_,a2P F_11 T O_10,B_11,k_11,PySem.W.mg_of X G a_11⟩
 have F_12:=w9 (st:=O3) l_12 c_12 k_12
 have B_12:=F_12.binds (ps:=["_law_ware_here","_law_place"]) fun _ _ _ _ _ _ us hl=>match us,hl with | [_,_],_=>rfl
 have O_12:Own (PySem.Challenge.rw_cratefit_k53_whole_shelves_are_low).prog w K mg base 5 "_law_spot" ["_law_ware_here","_law_place"] (i6 K (cL c0 c1 c2 c3) K4):=⟨_,_,a7c F_12 T O_6,B_12,k_12,PySem.W.mg_of X G a_12⟩
 have F_13:=w9 (st:=O4) l_13 c_13 k_13
 have B_13:=F_13.binds (ps:=["_law_one","_law_other"]) fun _ _ _ _ _ _ us hl=>match us,hl with | [_,_],_=>rfl
 have O_13:Own (PySem.Challenge.rw_cratefit_k53_whole_shelves_are_low).prog w K mg base 3 "_law_meet" ["_law_one","_law_other"] (i6 K (cL c0 c1 c2 c3) w8):=⟨_,_,a7d F_13 T ,B_13,k_13,PySem.W.mg_of X G a_13⟩
 have F_14:=w9 (st:=B1) l_14 c_14 k_14
 have B_14:=F_14.binds (ps:=["_law_width","_law_top","_law_wares","_law_places"]) fun _ _ _ _ _ _ us hl=>match us,hl with | [_,_,_,_],_=>rfl
 have O_14:Own (PySem.Challenge.rw_cratefit_k53_whole_shelves_are_low).prog w K mg base 7 "_law_packed" ["_law_width","_law_top","_law_wares","_law_places"] (i6 K (cL c0 c1 c2 c3) B2):=⟨_,_,a4P F_14 T O_12 O_13,B_14,k_14,PySem.W.mg_of X G a_14⟩
 have F_15:=w9 (st:=t8) l_15 c_15 k_15
 exact b2G F_15 T O_9 O_7 O_11 O_16 O_6 O_14
end Law
namespace Law
open PySem L2 PyProof.Rows
theorem walk{q:Program}{loose:List Str}{XP:(Str→Option Value)→Heap→Prop}{YP:World→Heap→Prop}{d:DefRec}{K:Params→PySem.W.Frag}(hdf:d.params.defaults=[])(hY:∀(w:World) (h:Heap),YP w h→(K w.params).In h)
  (F:∀(w:World) (mg mb:Str→Option Value) (fa:Addr) (h:Heap) (mean:ExcName→Option Value),(K w.params).In h→h.Ns mainGlobals mg→mg d.name=some (.ref fa)→PyProof.Rows.Top q (PySem.W.looseW q loose) mean mg mb h →
   ∃(fd:FuncData) (TB:List (Addr×Str)),(∀(s:Shared) (u:Value),BindsTo s fd ⟨[u],[]⟩ [("_law_script",u)])∧(∀Pa qq,TB.lookup Pa=some qq→(∃c,h.TableAt c Pa #[])∧(K w.params).lookup Pa=none)∧∃c:Str→Addr,∀base:Heap,(K w.params).In base→base.Ns mainGlobals mg→(∀b o,h.get? b=some o→o.cls≠.none→o.cls≠.type "list"→base.get? b=some o)→FnOk (PySem.Challenge.rw_cratefit_k53_whole_shelves_are_low).prog w (K w.params) mg base (n4 (PySem.Challenge.rw_cratefit_k53_whole_shelves_are_low).prog w) 9 fa fd ["_law_script"] (U5 TB (a2j (K w.params) c))) :
  PySem.W.WalkO q loose XP YP (PySem.Challenge.rw_cratefit_k53_whole_shelves_are_low).row.toRowW d [] (fun f vs=>PySem.call f vs):=by
 refine L2.walk_ofT (l:=PySem.Challenge.rw_cratefit_k53_whole_shelves_are_low) (n:=63) (k:=9) (x := "_law_script") (K:=K) (CX:=fun w=>n4 (PySem.Challenge.rw_cratefit_k53_whole_shelves_are_low).prog w) (sp:=fun w vs H Q E=>∀c,a2j (K w.params) c vs H Q E) rfl (by decide) hdf ⟨rfl,by decide,by decide⟩ hY (fun w mg mb fa h mean KX G hm Tp=>?_) (fun w H a ns h1 h2 h3 c=>⟨a,ns,rfl,h3,h2,h1,fun _=>rfl⟩) fun w H s e s' z=>b2L H s e s' z
 obtain⟨fd,TB,hb,hTb,c,hF⟩:=F w mg mb fa h mean KX G hm Tp
 exact⟨fd,TB,hb,hTb,fun base kb nb kp=>(hF base kb nb kp).imp fun vs H Q E z=>⟨z.1,z.2 c⟩⟩
end Law
local macro_rules|`(#check 0)=>do
 let g:=fun(n:Lean.Name)=>do
  let y:=Lean.mkIdent (.str `PySem.W.Fast s!"tw{n.hash}")
  `(theorem $y:ident : True:=trivial)
 let mut r:=#[←g `PySem.Challenge.pw_cratefit_k53_whole_shelves_are_low]
 for x in ["tree_47","tree_63","tree_78","tree_107","tree_130","tree_152","tree_201","tree_262","sts_49","sts_64","sts_79","sts_108","sts_131","sts_153","sts_202","heap_39","heap_46","heap_263","view_39","env_41"]++(List.range 220).map (s!"o_{·+43}") do r:=r.push (←g (.str `PySem.Challenge.cw_cratefit_k53_whole_shelves_are_low_holds x))
 return Lean.mkNullNode r
#check 0
open PySem.W
set_option maxRecDepth 100000 in
set_option maxHeartbeats 0 in
theorem PySem.Challenge.cw_cratefit_k53_whole_shelves_are_low_holds : PySem.Challenge.rw_cratefit_k53_whole_shelves_are_low.Holds := by
 w_on;o_law;k_head; (case hw=>w_witness2)
 k_fill
 refine Law.walk rfl (fun w h Y=>PySem.W.km_in_of Y) ?F
 case F =>
  intro w mg mb fa h mean KX G hmg Tp
  refine' Law.all_mk KX G hmg Tp ?a_by_height ?l_by_height ?c_by_height ?k_by_height ?a_shelver_of ?l_shelver_of ?c_shelver_of ?k_shelver_of ?a_check_widths ?l_check_widths ?c_check_widths ?k_check_widths ?a_Shelver_pick ?i_Shelver_pick ?l_Shelver_pick ?c_Shelver_pick ?k_Shelver_pick ?a_FirstShelver_pick ?i_FirstShelver_pick ?l_FirstShelver_pick ?c_FirstShelver_pick ?k_FirstShelver_pick ?a_BestShelver_pick ?i_BestShelver_pick ?l_BestShelver_pick ?c_BestShelver_pick ?k_BestShelver_pick ?a_shelved ?l_shelved ?df_shelved ?c_shelved ?k_shelved ?a_l_whole ?l_l_whole ?c_l_whole ?k_l_whole ?a_l_cell ?l_l_cell ?c_l_cell ?k_l_cell ?a_l_side ?l_l_side ?c_l_side ?k_l_side ?a_l_ware ?l_l_ware ?c_l_ware ?k_l_ware ?a_l_any_ware ?l_l_any_ware ?c_l_any_ware ?k_l_any_ware ?a_l_any_wares ?l_l_any_wares ?c_l_any_wares ?k_l_any_wares ?a_l_spot ?l_l_spot ?c_l_spot ?k_l_spot ?a_l_meet ?l_l_meet ?c_l_meet ?k_l_meet ?a_l_packed ?l_l_packed ?c_l_packed ?k_l_packed ?a_law ?l_law ?c_law ?k_law ?tc_by_height ?tk_by_height ?tp_by_height ?tn_by_height ?tr_by_height ?z_bool ?z_enumerate ?z_int ?z_isinstance ?z_len ?z_list ?z_max ?z_min ?z_range ?z_sorted ?z_sum ?z_tuple ?m_BestShelver ?m_FirstShelver ?m_NoPicker ?m_Shelver ?x_NoPicker ?cl_Shelver1 ?cl_Shelver2 ?cl_Shelver3 ?cl_Shelver4 ?cl_FirstShelver1 ?cl_FirstShelver2 ?cl_FirstShelver3 ?cl_FirstShelver4 ?cl_BestShelver1 ?cl_BestShelver2 ?cl_BestShelver3 ?cl_BestShelver4 ?mk_BestShelver ?in_BestShelver ?kc_BestShelver ?mk_FirstShelver ?in_FirstShelver ?kc_FirstShelver ?mk_Shelver ?in_Shelver ?kc_Shelver
  (case m_BestShelver=>k_is)
  (case m_FirstShelver=>k_is)
  (case m_Shelver=>k_is)
  (case a_by_height=>k_is)
  (case l_by_height=>k_is)
  (case c_by_height=>k_is)
  (case k_by_height=>k_is)
  (case a_shelver_of=>k_is)
  (case l_shelver_of=>k_is)
  (case c_shelver_of=>k_is)
  (case k_shelver_of=>k_is)
  (case a_check_widths=>k_is)
  (case l_check_widths=>k_is)
  (case c_check_widths=>k_is)
  (case k_check_widths=>k_is)
  (case a_Shelver_pick=>k_is)
  (case i_Shelver_pick=>k_is)
  (case l_Shelver_pick=>k_is)
  (case c_Shelver_pick=>k_is)
  (case k_Shelver_pick=>k_is)
  (case a_FirstShelver_pick=>k_is)
  (case i_FirstShelver_pick=>k_is)
  (case l_FirstShelver_pick=>k_is)
  (case c_FirstShelver_pick=>k_is)
  (case k_FirstShelver_pick=>k_is)
  (case a_BestShelver_pick=>k_is)
  (case i_BestShelver_pick=>k_is)
  (case l_BestShelver_pick=>k_is)
  (case c_BestShelver_pick=>k_is)
  (case k_BestShelver_pick=>k_is)
  (case a_shelved=>k_is)
  (case l_shelved=>k_is)
  (case df_shelved=>k_is)
  (case c_shelved=>k_is)
  (case k_shelved=>k_is)
  (case a_l_whole=>k_is)
  (case l_l_whole=>k_is)
  (case c_l_whole=>k_is)
  (case k_l_whole=>k_is)
  (case a_l_cell=>k_is)
  (case l_l_cell=>k_is)
  (case c_l_cell=>k_is)
  (case k_l_cell=>k_is)
  (case a_l_side=>k_is)
  (case l_l_side=>k_is)
  (case c_l_side=>k_is)
  (case k_l_side=>k_is)
  (case a_l_ware=>k_is)
  (case l_l_ware=>k_is)
  (case c_l_ware=>k_is)
  (case k_l_ware=>k_is)
  (case a_l_any_ware=>k_is)
  (case l_l_any_ware=>k_is)
  (case c_l_any_ware=>k_is)
  (case k_l_any_ware=>k_is)
  (case a_l_any_wares=>k_is)
  (case l_l_any_wares=>k_is)
  (case c_l_any_wares=>k_is)
  (case k_l_any_wares=>k_is)
  (case a_l_spot=>k_is)
  (case l_l_spot=>k_is)
  (case c_l_spot=>k_is)
  (case k_l_spot=>k_is)
  (case a_l_meet=>k_is)
  (case l_l_meet=>k_is)
  (case c_l_meet=>k_is)
  (case k_l_meet=>k_is)
  (case a_l_packed=>k_is)
  (case l_l_packed=>k_is)
  (case c_l_packed=>k_is)
  (case k_l_packed=>k_is)
  (case a_law=>k_is)
  (case l_law=>k_is)
  (case c_law=>k_is)
  (case k_law=>k_is)
  (case tc_by_height=>exact rfl)
  (case tk_by_height=>k_is)
  (case tp_by_height=>exact rfl)
  (case tn_by_height=>first | k_is | rfl | decide +kernel)
  (case tr_by_height=>first | rfl | decide +kernel)
  (case z_bool=>k_is)
  (case z_enumerate=>k_is)
  (case z_int=>k_is)
  (case z_isinstance=>k_is)
  (case z_len=>k_is)
  (case z_list=>k_is)
  (case z_max=>k_is)
  (case z_min=>k_is)
  (case z_range=>k_is)
  (case z_sorted=>k_is)
  (case z_sum=>k_is)
  (case z_tuple=>k_is)
  (case m_NoPicker=>k_is)
  (case x_NoPicker=>kernel_rfl)
  (case cl_Shelver1=>k_is)
  (case cl_Shelver2=>k_is)
  (case cl_Shelver3=>k_is)
  (case cl_Shelver4=>k_is)
  (case cl_FirstShelver1=>k_is)
  (case cl_FirstShelver2=>k_is)
  (case cl_FirstShelver3=>k_is)
  (case cl_FirstShelver4=>k_is)
  (case cl_BestShelver1=>k_is)
  (case cl_BestShelver2=>k_is)
  (case cl_BestShelver3=>k_is)
  (case cl_BestShelver4=>k_is)
  (case mk_BestShelver=>k_is)
  (case in_BestShelver=>k_is)
  (case kc_BestShelver=>k_is)
  (case mk_FirstShelver=>k_is)
  (case in_FirstShelver=>k_is)
  (case kc_FirstShelver=>k_is)
  (case mk_Shelver=>k_is)
  (case in_Shelver=>k_is)
  (case kc_Shelver=>k_is)
