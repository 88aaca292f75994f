import PyProof.Rows.All
import Wide.All
import OpenK.AllK
import Wide.FinOn
import Lean
import PyProof.EqAt
import PyProof.EqKinds
import PyProof.TupleCall
import KE.KLam
import KE.KSortKey
import PyProof.ListRange
import PyProof.CollectIter
import PyProof.Rows.RuleB_bool
import PySem.Challenge.RW_cratefit_k60_places_that_are_cut
set_option Elab.async false
set_option linter.all false
set_option maxRecDepth 100000
set_option hygiene false
namespace L2
open PySem PySem.Spec PyProof.Rows
abbrev v9:=Sum Int Str
def a2B:v9→Value→Bool
 | .inl k,v=>Value.isInt k v
 | .inr x,v=>Value.isStrOf x v
def b6F(w:World):v9→Int
 | .inl k=>hashInt k
 | .inr x=>hashStr w x
theorem E7:∀{k:v9} {v:Value},a2B k v=true→(∃i t,k=Sum.inl i∧v=Value.int i t)∨(∃x t,k=Sum.inr x∧v=Value.str x t)
 | .inl i,v,h=>by
  obtain⟨t,e⟩:=Value.isInt_shape (k:=i) (v:=v) h
  exact .inl ⟨i,t,rfl,e⟩
 | .inr x,v,h=>by
  obtain⟨t,e⟩:=Value.isStrOf_shape (x:=x) (v:=v) h
  exact .inr ⟨x,t,rfl,e⟩
theorem a87(i:Int)(t:Tok):a2B (.inl i) (.int i t)=true:=by simp[a2B,Value.isInt]
theorem a88(x:Str)(t:Tok):a2B (.inr x) (.str x t)=true:=by simp[a2B,Value.isStrOf]
theorem b4s(a b:Int):decide ((Sum.inl a:v9)=Sum.inl b)=(a == b):=by
 by_cases e:a=b
 ·subst e;simp
 ·have h:¬(Sum.inl a:v9)=Sum.inl b:=fun q=>e (Sum.inl.inj q)
  rw[decide_eq_false h]
  exact(beq_eq_false_iff_ne.mpr e).symm
theorem b4t(a b:Str):decide ((Sum.inr a:v9)=Sum.inr b)=decide (a=b):=by
 by_cases e:a=b
 ·subst e;simp
 ·have h:¬(Sum.inr a:v9)=Sum.inr b:=fun q=>e (Sum.inr.inj q)
  rw[decide_eq_false h,decide_eq_false e]
theorem b4u(a:Int)(b:Str):decide ((Sum.inl a:v9)=Sum.inr b)=false:=decide_eq_false (fun q=>nomatch q)
theorem b4v(a:Str)(b:Int):decide ((Sum.inr a:v9)=Sum.inl b)=false:=decide_eq_false (fun q=>nomatch q)
noncomputable def J5(prog:Program)(w:World):PySem.KeyKind prog w v9 where
 is:=a2B
 hash:=b6F w
 inj:=fun v a b ha hb=>by
  rcases E7 ha with⟨i,t,rfl,rfl⟩ | ⟨x,t,rfl,rfl⟩
  ·rcases E7 hb with⟨j,u,rfl,e⟩ | ⟨y,u,rfl,e⟩
   ·injection e with e1 _;rw[e1]
   ·exact nomatch e
  ·rcases E7 hb with⟨j,u,rfl,e⟩ | ⟨y,u,rfl,e⟩
   ·exact nomatch e
   ·injection e with e1 _;rw[e1]
 byValue:=fun k v h=>by
  rcases E7 h with⟨i,t,rfl,rfl⟩ | ⟨x,t,rfl,rfl⟩<;>rfl
 pyHash:=fun hv h=>by
  rcases E7 hv with⟨i,t,rfl,rfl⟩ | ⟨x,t,rfl,rfl⟩
  ·exact wpAny_pyHash_int h
  ·exact wpAny_pyHash_str h
 eqBool:=fun hu hv h=>by
  rcases E7 hu with⟨i,t,rfl,rfl⟩ | ⟨x,t,rfl,rfl⟩
  ·rcases E7 hv with⟨j,u,rfl,rfl⟩ | ⟨y,u,rfl,rfl⟩
   ·rw[b4s]at h;exact wpAny_eqBool_int h
   ·rw[b4u]at h;exact SeqAt.EqAt.int_str i t y u _ _ _ _ h
  ·rcases E7 hv with⟨j,u,rfl,rfl⟩ | ⟨y,u,rfl,rfl⟩
   ·rw[b4v]at h;exact SeqAt.EqAt.str_int x t j u _ _ _ _ h
   ·rw[b4t]at h;exact wpAny_eqBool_str h
 «strs» := fun k x t v h=>by
  rcases E7 h with⟨i,u,rfl,e⟩ | ⟨y,u,rfl,e⟩
  ·exact nomatch e
  ·injection e with e1 _
   subst e1
   cases v<;>rfl
theorem a60(prog:Program)(w:World)(i:Int)(t:Tok):(J5 prog w).is (.inl i) (.int i t)=true:=a87 i t
theorem a61(prog:Program)(w:World)(x:Str)(t:Tok):(J5 prog w).is (.inr x) (.str x t)=true:=a88 x t
inductive V where
 | non | bl (b:Bool) | int (i:Int) | str (x:Str) | byt (b:Array UInt8) | flt (b:UInt64) | ref (a:Addr) | ty (n:String)
 deriving DecidableEq
def RelV:V→Value→Prop
 | .non,u=>u=Value.none
 | .bl b,u=>u=Value.bool b
 | .int i,u=>∃t,u=Value.int i t
 | .str x,u=>∃t,u=Value.str x t
 | .byt b,u=>∃t,u=Value.bytes b t
 | .flt b,u=>∃t,u=Value.float b t
 | .ref a,u=>u=Value.ref a
 | .ty n,u=>u=Value.type n
abbrev Vals:List V→List Value→Prop:=Paired RelV
theorem Vals.length{xs:List V}{us:List Value}(r:Vals xs us):xs.length=us.length:=Paired.length r
theorem Vals.get:∀{xs:List V} {us:List Value} {i:Nat} {x:V},Vals xs us→xs[i]? = some x→∃u,us[i]? = some u∧RelV x u
 | _,_,_,_,.nil,e=>by simp at e
 | _,_,0,_,.cons r _,e=>by simp at e;subst e;exact⟨_,rfl,r⟩
 | _,_,i+1,x,.cons _ t,e=>by
  obtain⟨u,h1,h2⟩:=Vals.get (i:=i) (x:=x) t (by simpa using e)
  exact⟨u,by simpa using h1,h2⟩
theorem Vals.set{x:V}{u:Value}(r:RelV x u):∀{xs:List V} {us:List Value} (i:Nat),Vals xs us→Vals (xs.set i x) (us.set i u)
 | _,_,_,.nil=>.nil
 | _,_,0,.cons _ t=>.cons r t
 | _,_,i+1,.cons q t=>.cons q (Vals.set r i t)
theorem Vals.append:∀{xs ys:List V} {us ws:List Value},Vals xs us→Vals ys ws→Vals (xs++ys) (us++ws)
 | _,_,_,_,.nil,s=>s
 | _,_,_,_,.cons r t,s=>.cons r (Vals.append t s)
theorem Vals.take:∀{xs:List V} {us:List Value} (n:Nat),Vals xs us→Vals (xs.take n) (us.take n)
 | _,_,0,_=>.nil
 | _,_,_+1,.nil=>.nil
 | _,_,n+1,.cons r t=>.cons r (Vals.take n t)
theorem Vals.drop:∀{xs:List V} {us:List Value} (n:Nat),Vals xs us→Vals (xs.drop n) (us.drop n)
 | _,_,0,r=>r
 | _,_,_+1,.nil=>.nil
 | _,_,n+1,.cons _ t=>Vals.drop n t
def RelO:Option V→Option Value→Prop
 | some v,some u=>RelV v u
 | none,none=>True
 | _,_=>False
def KV{κ:Type}:List (κ×V)→List (κ×Value)→Prop:=Paired fun(p:κ×V) (q:κ×Value)=>p.1=q.1∧RelV p.2 q.2
def kV:v9→V
 | .inl i=>.int i
 | .inr x=>.str x
inductive HO where
 /-- a list -/
 | lst (xs:List V)
 /-- a tuple (never changes) -/
 | tup (xs:List V)
 /-- a dict whose keys are ints and texts; one whose keys are tuples of ints and texts (the empty one is both) -/
 | dK (kvs:List (v9×V)) | dT (kvs:List (List v9×V))
 /-- a set of ints: its members, its size -/
 | set (S:Int→Bool) (n:Nat)
 /-- an instance of the class at C, its dict at dx, its attributes -/
 | ins (C dx:Addr) (fs:List (Str×V))
 /-- the dict of the instance at x -/
 | own (x:Addr)
 /-- the dict of an exception -/
 | xd (fs:List (Str×V))
 /-- a bound method, f of x -/
 | met (f x:Addr)
 /-- a range object lo, lo + 1, .. below hi -/
 | rng (lo hi:Int)
 /-- a thing that is known to the object (the script; a dict while a loop walks it): read, never written while it is so -/
 | frz (o:Obj) (u:HO)
 /-- a code object's table -/
 | tbl (ps:Array Value)
 /-- any other thing, by what is true of its one object (a def of one's own: SetO a S n := HO.ext fun h => ..) -/
 | ext (φ:Heap→Prop)
abbrev Hp:=Addr→Option HO
def upd(H:Hp)(a:Addr)(o:HO):Hp:=fun b=>if b=a then some o else H b
theorem i8{H:Hp}{a:Addr}{o:HO}:upd H a o a=some o:=by unfold upd;rw[if_pos rfl]
theorem g5{H:Hp}{a b:Addr}{o:HO}(h:b≠a):upd H a o b=H b:=by unfold upd;rw[if_neg h]
theorem b1T{H:Hp}{a b:Addr}{o u:HO}(h:H a=some o)(h':H b=some u)(d:o≠u):a≠b:=by
 intro e;subst e;rw[h]at h';exact d (Option.some.inj h')
theorem j9{H:Hp}{a b:Addr}{o:HO}(h:H a=some o)(h':H b=none):a≠b:=by
 intro e;subst e;rw[h]at h';cases h'
section
variable (P:Program)(w:World)
noncomputable def ObjOk(H:Hp)(h:Heap)(a:Addr):HO→Prop
 | .lst xs=>xs.length≤sizeLine∧∃(its:List Value) (n:Nat),Vals xs its∧h.get? a=some { cls:=.type "list",data:=.seq its.toArray n }
 | .tup xs=>xs.length≤sizeLine∧∃its:List Value,Vals xs its∧IsTup h a its.toArray
 | .dK kvs=>kvs.length≤sizeLine∧(a == sysModules)=false∧∃vs,KV kvs vs∧h.DictOf (J5 P w) a vs
 | .dT kvs=>kvs.length≤sizeLine∧(a == sysModules)=false∧∃xs:List (List v9×Addr×Value),
   Paired (fun(p:List v9×V) (q:List v9×Addr×Value)=>p.1=q.1∧H q.2.1=some (.tup (p.1.map kV))∧RelV p.2 q.2.2) kvs xs ∧
   ∃o es ep,h.get? a=some o∧o.ExactDict∧o.data=.dict es ep∧es.toList=xs.map (entryOfKey (tupleKind (J5 P w)))∧(xs.map (·.1)).Nodup
 | .set S n=>h.SetOf (intKind P w) a S n
 | .ins C dx fs=>H dx=some (.own a)∧fs.length≤1000∧dx≠a∧h.get? a=some (W.instObj C dx) ∧
   ∃mA,h.Ns1 dx mA∧(∀f,RelO (fs.lookup f) (mA f))∧PySem.Within mA (fs.map (·.1))
 | .own _=>∃o,h.get? a=some o
 | .xd fs=>∃mA,h.Ns1 a mA∧∀f,RelO (fs.lookup f) (mA f)
 | .rng lo hi=>∃t u v,h.get? a=some { cls:=.type "range",data:=.fields #[.int lo t,.int hi u,.int 1 v] }
 | .frz o u=>h.get? a=some o∧ObjOk H h a u
 | .tbl qs=>∃ps:Array Value,h.get? a=some { cls:=.none,data:=.fields ps }∧TriplesOk ps.toList∧∀pos cv,codeAmong pos ps.toList=some cv→∃c oc u,cv=Value.ref c∧H c=some (.frz oc u)∧∃vs q t t2,oc.data=.fields vs∧vs[1]? = some (Value.str q t2)∧qs[0]? = some (Value.str q t)
 | .met f x=>h.get? a=some (W.methodObj (.ref f) (.ref x))
 | .ext φ=>φ h∧(∃o,h.get? a=some o)∧∀h1 h2:Heap,φ h1→(∀o,h1.get? a=some o→h2.get? a=some o)→φ h2
noncomputable def HOk(H:Hp)(h:Heap):Prop:=∀a o,H a=some o→ObjOk P w H h a o
end
section
variable {P:Program}{w:World}{H H':Hp}{h h':Heap}{a:Addr}{o:HO}
theorem ObjOk.lt(x:ObjOk P w H h a o):a<h.objs.size:=by
 cases o with
 | lst xs=>obtain⟨_,_,_,_,e⟩:=x;exact Heap.lt_size e
 | tup xs=>obtain⟨_,_,_,p⟩:=x;exact p.lt
 | dK kvs=>obtain⟨_,_,_,_,o,_,_,e,_⟩:=x;exact Heap.lt_size e
 | dT kvs=>obtain⟨_,_,_,_,o,_,_,e,_⟩:=x;exact Heap.lt_size e
 | set S n=>obtain⟨o,_,_,_,e,_⟩:=x;exact Heap.lt_size e
 | ins C dx fs=>obtain⟨_,_,_,e,_⟩:=x;exact Heap.lt_size e
 | own y=>obtain⟨_,e⟩:=x;exact Heap.lt_size e
 | xd fs=>obtain⟨_,⟨_,_,_,e,_⟩,_⟩:=x;exact Heap.lt_size e
 | rng lo hi=>obtain⟨_,_,_,e⟩:=x;exact Heap.lt_size e
 | frz ob u=>obtain⟨e,_⟩:=x;exact Heap.lt_size e
 | tbl ps=>obtain⟨_,e,_⟩:=x;exact Heap.lt_size e
 | met f y=>exact Heap.lt_size (show h.get? a=some _ from x)
 | ext φ=>obtain⟨_,⟨_,e⟩,_⟩:=x;exact Heap.lt_size e
theorem Paired.mapP{α β:Type}{F G:α→β→Prop}:∀{l₁:List α} {l₂:List β},Paired F l₁ l₂→(∀a b,F a b→G a b)→Paired G l₁ l₂
 | _,_,.nil,_=>.nil
 | _,_,.cons r t,f=>.cons (f _ _ r) (Paired.mapP t f)
theorem ObjOk.stay(x:ObjOk P w H h a o)(k:∀b u,(b=a∨H b=some (.own a))→h.get? b=some u→h'.get? b=some u)
  (ho:∀b,H b=some (.own a)→H' b=some (.own a)) (ht:∀b xs,H b=some (.tup xs)→H' b=some (.tup xs)) (hz:∀b ob u,H b=some (.frz ob u)→H' b=some (.frz ob u)):ObjOk P w H' h' a o:=by
 induction o with
 | lst xs=>obtain⟨z,its,n,r,e⟩:=x;exact⟨z,its,n,r,k _ _ (.inl rfl) e⟩
 | tup xs=>obtain⟨z,its,r,ob,e,c⟩:=x;exact⟨z,its,r,ob,k _ _ (.inl rfl) e,c⟩
 | dK kvs=>obtain⟨z,y,vs,r,ob,es,ep,e,c⟩:=x;exact⟨z,y,vs,r,ob,es,ep,k _ _ (.inl rfl) e,c⟩
 | dT kvs =>
  obtain⟨z,y,xs,r,ob,es,ep,e,c⟩:=x
  exact⟨z,y,xs,Paired.mapP r fun p q z=>⟨z.1,ht _ _ z.2.1,z.2.2⟩,ob,es,ep,k _ _ (.inl rfl) e,c⟩
 | set S n=>obtain⟨ob,es,ep,t,e,c⟩:=x;exact⟨ob,es,ep,t,k _ _ (.inl rfl) e,c⟩
 | ins C dx fs =>
  obtain⟨d,z,ne,e,mA,⟨od,es,ep,e2,c⟩,r⟩:=x
  exact⟨ho _ d,z,ne,k _ _ (.inl rfl) e,mA,⟨od,es,ep,k _ _ (.inr d) e2,c⟩,r⟩
 | own y=>obtain⟨ob,e⟩:=x;exact⟨ob,k _ _ (.inl rfl) e⟩
 | xd fs=>obtain⟨mA,⟨od,es,ep,e,c⟩,r⟩:=x;exact⟨mA,⟨od,es,ep,k _ _ (.inl rfl) e,c⟩,r⟩
 | rng lo hi=>obtain⟨t,u,v,e⟩:=x;exact⟨t,u,v,k _ _ (.inl rfl) e⟩
 | frz ob u ih=>obtain⟨e,q⟩:=x;exact⟨k _ _ (.inl rfl) e,ih q⟩
 | tbl qs =>
  obtain⟨ps,e,tr,al⟩:=x
  refine⟨ps,k a _ (.inl rfl) e,tr,fun pos cv q=>?_⟩
  obtain⟨c,oc,u,e1,e3,r⟩:=al pos cv q
  exact⟨c,oc,u,e1,hz _ _ _ e3,r⟩
 | met f y =>
  have e:h.get? a=some (W.methodObj (.ref f) (.ref y)):=x
  show h'.get? a=some (W.methodObj (.ref f) (.ref y))
  exact k a _ (.inl rfl) e
 | ext φ=>obtain⟨p,⟨o,e⟩,st⟩:=x;exact⟨st _ _ p fun o q=>k _ _ (.inl rfl) q,⟨o,k _ _ (.inl rfl) e⟩,st⟩
theorem HOk.lt(x:HOk P w H h)(e:H a=some o):a<h.objs.size:=(x a o e).lt
theorem HOk.fresh(x:HOk P w H h)(e:h.objs.size≤a):H a=none:=by
 cases q:H a with
 | none=>rfl
 | some u=>exact absurd (Nat.lt_of_lt_of_le (x.lt q) e) (Nat.lt_irrefl _)
theorem HOk.kept(x:HOk P w H h)(k:∀b u,h.get? b=some u→h'.get? b=some u):HOk P w H h':=fun a o e =>
 (x a o e).stay (fun b u _ q=>k b u q) (fun _ q=>q) (fun _ _ q=>q) fun _ _ _ q=>q
theorem HOk.laid(x:HOk P w H h)(k:∀b u,h.get? b=some u→h'.get? b=some u)(hp:h.objs.size≤a)(new:ObjOk P w (upd H a o) h' a o):HOk P w (upd H a o) h':=fun b u e=>by
 have hn:=x.fresh hp
 by_cases hb:b=a
 ·subst hb;rw[i8]at e;cases e;exact new
 ·rw[g5 hb]at e
  exact(x b u e).stay (fun c v _ q=>k c v q) (fun c q=>by rw[g5 (j9 q hn)];exact q) (fun c xs q=>by rw[g5 (j9 q hn)];exact q) fun c ob u q=>by rw[g5 (j9 q hn)];exact q
end
def Rd(H:Hp)(a:Addr)(u:HO):Prop:=H a=some u∨∃o,H a=some (.frz o u)
theorem Rd.of{H:Hp}{a:Addr}{u:HO}(h:H a=some u):Rd H a u:=.inl h
theorem Rd.ok{P:Program}{w:World}{H:Hp}{h:Heap}{a:Addr}{u:HO}(r:Rd H a u)(x:HOk P w H h):ObjOk P w H h a u:=by
 rcases r with r | ⟨o,r⟩
 ·exact x a u r
 ·obtain⟨_,q⟩:=x a _ r
  exact q
def Mut:Option HO→Prop
 | some (.lst _)=>True
 | some (.dK _)=>True
 | some (.dT _)=>True
 | some (.set _ _)=>True
 | some (.ins _ _ _)=>True
 | some (.ext _)=>True
 | _=>False
section
variable {P:Program}{w:World}{H:Hp}{h h':Heap}{x e:Addr}{o':HO}
theorem HOk.write(ok:HOk P w H h)(mu:Mut (H x))(he:e=x∨H e=some (.own x))(k:∀b u,b≠e→h.get? b=some u→h'.get? b=some u)(heo:∃u,h'.get? e=some u)
  (new:ObjOk P w (upd H x o') h' x o'):HOk P w (upd H x o') h':=fun b u q=>by
 have nown:∀c y,H c=some (.own y)→c≠x:=fun c y r z=>by subst z;rw[r]at mu;exact mu
 have ntup:∀c xs,H c=some (.tup xs)→c≠x:=fun c xs r z=>by subst z;rw[r]at mu;exact mu
 by_cases hb:b=x
 ·subst hb;rw[i8]at q;cases q;exact new
 ·rw[g5 hb]at q
  by_cases hbe:b=e
  ·have q':H b=some (.own x):=by
    rcases he with z | z
    ·exact absurd (hbe.trans z) hb
    ·rw[hbe];exact z
   rw[q]at q';cases q'
   obtain⟨v,hv⟩:=heo
   exact⟨v,by rw[hbe];exact hv⟩
  ·refine(ok b u q).stay (fun c v hc r=>k c v ?_ r) (fun c r=>by rw[g5 (nown c b r)];exact r) (fun c xs r=>by rw[g5 (ntup c xs r)];exact r) fun c ob u r=>by rw[g5 (fun z=>by subst z;rw[r]at mu;exact mu)];exact r
   rcases hc with rfl | hc
   ·exact hbe
   ·rintro rfl
    rcases he with z | z
    ·exact nown c b hc z
    ·rw[hc]at z;cases z;exact hb rfl
end
structure Un(fs ex:List Addr)(H H':Hp)(h h':Heap):Prop where
 keep:∀b o,h.get? b=some o→H b=none→b ∉ fs→b ∉ ex→h'.get? b=some o
 slot:∀b o,h.get? b=some o→H b=none→b∈fs→b ∉ ex→∃sl,h'.get? b=some { o with slots:=sl }
 free:∀b o,h.get? b=some o→H b=none→b ∉ ex→H' b=none
 there:∀b o,h.get? b=some o→b ∉ ex→∃o',h'.get? b=some o'
 tups:∀b xs,H b=some (.tup xs)→H' b=some (.tup xs)
 frzs:∀b o u,H b=some (.frz o u)→H' b=some (.frz o u)
 tbls:∀b ps,H b=some (.tbl ps)→∃more,H' b=some (.tbl (ps++more))
section
variable {fs fs' ex ex':List Addr}{H H1 H2:Hp}{h h1 h2 h':Heap}{a x e:Addr}{o:HO}
theorem Un.any(u:Un fs ex H H1 h h1){b:Addr}{ob:Obj}(q:h.get? b=some ob)(n:H b=none)(hx:b ∉ ex):∃sl,h1.get? b=some { ob with slots:=sl }:=by
 by_cases hb:b∈fs
 ·exact u.slot b ob q n hb hx
 ·exact⟨ob.slots,u.keep b ob q n hb hx⟩
theorem Un.trans(a:Un fs ex H H1 h h1)(b:Un fs ex H1 H2 h1 h2):Un fs ex H H2 h h2 where
 keep:=fun c ob q n hc hx=>b.keep c ob (a.keep c ob q n hc hx) (a.free c ob q n hx) hc hx
 slot:=fun c ob q n hc hx=>by
  obtain⟨sl,e1⟩:=a.slot c ob q n hc hx
  obtain⟨sl',e2⟩:=b.slot c _ e1 (a.free c ob q n hx) hc hx
  exact⟨sl',e2⟩
 free:=fun c ob q n hx=>by
  obtain⟨o',e1⟩:=a.there c ob q hx
  exact b.free c o' e1 (a.free c ob q n hx) hx
 there:=fun c ob q hx=>by
  obtain⟨o',e1⟩:=a.there c ob q hx
  exact b.there c o' e1 hx
 tups:=fun c xs q=>b.tups c xs (a.tups c xs q)
 frzs:=fun c ob xs q=>b.frzs c ob xs (a.frzs c ob xs q)
 tbls:=fun c ps q=>by
  obtain⟨m1,e1⟩:=a.tbls c ps q
  obtain⟨m2,e2⟩:=b.tbls c _ e1
  exact⟨m1++m2,by rw[e2,Array.append_assoc]⟩
theorem Un.kept(k:∀b u,h.get? b=some u→h'.get? b=some u):Un fs ex H H h h' :=
 ⟨fun b ob q _ _ _=>k b ob q,fun b ob q _ _ _=>⟨ob.slots,k b ob q⟩,fun _ _ _ n _=>n,fun b ob q _=>⟨ob,k b ob q⟩,fun _ _ q=>q,fun _ _ _ q=>q,fun _ ps q=>⟨#[],by rw[q];simp⟩⟩
theorem Un.refl:Un fs ex H H h h:=Un.kept fun _ _ q=>q
theorem Un.laid(k:∀b u,h.get? b=some u→h'.get? b=some u)(hp:h.objs.size≤a)(hn:H a=none):Un fs ex H (upd H a o) h h' where
 keep:=fun b u q _ _ _=>k b u q
 slot:=fun b u q _ _ _=>⟨u.slots,k b u q⟩
 free:=fun b u q n _=>by rw[g5 (Nat.ne_of_lt (Nat.lt_of_lt_of_le (Heap.lt_size q) hp))];exact n
 there:=fun b u q _=>⟨u,k b u q⟩
 tups:=fun b xs q=>by rw[g5 (j9 q hn)];exact q
 frzs:=fun b u xs q=>by rw[g5 (j9 q hn)];exact q
 tbls:=fun b ps q=>⟨#[],by rw[g5 (j9 q hn),q];simp⟩
theorem Un.write(mu:Mut (H x))(he:e=x∨H e=some (.own x))(k:∀b u,b≠e→h.get? b=some u→h'.get? b=some u)(heo:∃u,h'.get? e=some u):Un fs ex H (upd H x o) h h':=by
 have hx:∀b,H b=none→b≠x:=fun b n z=>by subst z;rw[n]at mu;exact mu
 have hb:∀b,H b=none→b≠e:=fun b n z=>by
  subst z
  rcases he with r | r
  ·exact hx b n r
  ·rw[n]at r;cases r
 have hm:∀b u,H b=some u→¬Mut (some u)→b≠x:=fun b u q nm z=>by subst z;rw[q]at mu;exact nm mu
 refine⟨fun b u q n _ _=>k b u (hb b n) q,fun b u q n _ _=>⟨u.slots,k b u (hb b n) q⟩,fun b u q n _=>by rw[g5 (hx b n)];exact n,fun b u q _=>?_,
  fun b xs q=>by rw[g5 (hm b _ q fun z=>z)];exact q,fun b u xs q=>by rw[g5 (hm b _ q fun z=>z)];exact q,fun b ps q=>⟨#[],by rw[g5 (hm b _ q fun z=>z),q];simp⟩⟩
 by_cases hbe:b=e
 ·subst hbe;exact heo
 ·exact⟨u,k b u hbe q⟩
theorem Un.mono(u:Un fs ex H H1 h h1)(hs:∀b∈fs,b∈fs')(hx:∀b∈ex,b∈ex'):Un fs' ex' H H1 h h1 :=
 ⟨fun b ob q n hb he=>u.keep b ob q n (fun z=>hb (hs b z)) fun z=>he (hx b z),fun _ _ q n _ he=>u.any q n fun z=>he (hx _ z),fun b ob q n he=>u.free b ob q n fun z=>he (hx b z),fun b ob q he=>u.there b ob q fun z=>he (hx b z),u.tups,u.frzs,u.tbls⟩
end
def trk(h:Heap)(H:Hp):List Addr:=(List.range h.objs.size).filter fun a=>(H a).isSome
def a0Z(h:Heap)(H:Hp):Heap:=W.hideAll h (trk h H)
theorem a8_(h:Heap)(H:Hp):(a0Z h H).objs.size=h.objs.size:=W.hideAll_size _ _
theorem b0y{h:Heap}{H:Hp}{b:Addr}{o:Obj}(e:h.get? b=some o)(n:H b=none):(a0Z h H).get? b=some o :=
 W.hideAll_get _ e fun hm=>by
  have q:(H b).isSome=true:=(List.mem_filter.mp hm).2
  rw[n]at q;simp at q
theorem b2F{h:Heap}{H:Hp}{b:Addr}{o:Obj}(e:(a0Z h H).get? b=some o):h.get? b=some o∧H b=none:=by
 have e':h.get? b=some o:=W.of_hideAll (trk h H) e
 refine⟨e',?_⟩
 cases q:H b with
 | none=>rfl
 | some x =>
  have hm:b∈trk h H:=List.mem_filter.mpr ⟨List.mem_range.mpr (Heap.lt_size e'),by simp[q]⟩
  have z:(a0Z h H).get? b=none:=W.hideAll_none (trk h H) hm
  rw[z]at e;cases e
def b2G(g h:Heap)(L:Addr):List (Addr×Obj):=(List.range h.objs.size).filterMap fun a=>if a=L∨(g.get? a).isSome=true then none else(h.get? a).map fun o=>(a,o)
def l7(g h:Heap)(L d:Addr):List (Addr×Obj):=(b2G g h L).filter fun p=>decide (p.1≠d)
structure Mod(K:W.Frag)(mg:Str→Option Value)(base:Heap):Prop where
 kin:K.In base
 glob:base.Ns mainGlobals mg
 blt:∃mb,base.Ns builtinsNs mb∧∀x:Str,x≠"__name__"→mb x=bootBuiltins x
 nolimit:base.NoLimit
structure Cx where
 prog:Program
 w:World
 K:W.Frag
 mg:Str→Option Value
 base:Heap
 A:Around
 N:List Str
 s₀:Shared
 H₀:Hp
 env:Env
 outer:List Env
 stack:List Env
 ex:List Addr
 fn:Str→Bool
 calm:Bool
 pn:List (Addr×Obj)
 xe:Value→Shared→Prop
def K9(l:List Env):List Addr:=l.filterMap (·.frame)
abbrev Cx.fs(X:Cx):List Addr:=K9 X.outer
def Vis(sc:Scope)(x:Str):Prop:=sc.names.lookup x=some .local∨sc.names.lookup x=some .cell∨sc.names.lookup x=some .free
def Loc(sc:Scope)(x:Str):Prop:=sc.names.lookup x=some .local∨sc.names.lookup x=some .cell
def b6G(env:Env)(h:Heap)(m:Str→Option Value)(x:Str)(u:Value):Prop :=
 (env.kindOf x=some .local∧m x=some u)∨((env.kindOf x=some .cell∨env.kindOf x=some .free)∧∃c,env.cells.lookup x=some c∧h.IsCell c (some u))
structure Cx.Ok(X:Cx):Prop where
 mod:Mod X.K X.mg X.base
 kind:X.env.scope.kind=.function
 glob:X.env.globals=mainGlobals
 blt:X.env.builtins=builtinsNs
 above:X.s₀.heap.objs.size≤X.env.locals
 inj:∀x y c,X.env.cells.lookup x=some c→X.env.cells.lookup y=some c→x=y
 has:∀x,(X.env.kindOf x=some .cell∨X.env.kindOf x=some .free)→∃c,X.env.cells.lookup x=some c
 cab:∀x c,X.fn x=true→X.env.cells.lookup x=some c→X.s₀.heap.objs.size≤c
 hd:X.calm=true→X.A.handled=none
 frames:X.A.frames=some X.stack
 stk:X.stack=X.outer∨(X.stack=X.env::X.outer∧X.env.frame=some X.env.locals)
 exf:∀b∈X.ex,b≠X.env.locals∧∀x c,X.env.cells.lookup x=some c→c≠b
 bs:∀b o,X.base.get? b=some o→X.s₀.heap.get? b=some o∧X.H₀ b=none
 bsz:X.base.objs.size≤X.s₀.heap.objs.size
 noex:∀b o,X.base.get? b=some o→b ∉ X.ex
 exfs:∀b∈X.ex,b ∉ X.fs
 funs:X.s₀.heap.FunFrames X.base X.outer
 frf:∀b∈X.fs,X.H₀ b=none
structure Inv(X:Cx)(pins:List (Addr×Obj))(σ:List (Option V))(H:Hp)(s:Shared):Prop where
 ok:X.Ok
 os:s.os=X.s₀.os
 bare:AllBare s.gens
 base:Un X.fs X.ex X.H₀ H X.s₀.heap s.heap
 loc:∃m,s.heap.Ns X.env.locals m∧∀(i:Nat) (x:Str) (v:V),X.N[i]? = some x→σ[i]? = some (some v)→Vis X.env.scope x→∃u,RelV v u∧b6G X.env s.heap m x u
 cell:∀x c,X.env.cells.lookup x=some c→∃v,s.heap.IsCell c v
 free:H X.env.locals=none
 freeC:∀x c,X.env.cells.lookup x=some c→H c=none
 pin:∀p∈X.pn++pins,s.heap.get? p.1=some p.2∧H p.1=none∧p.1≠X.env.locals∧p.1 ∉ X.fs∧∀v,p.2.data≠.cell v
 hok:HOk X.prog X.w H s.heap
 len:σ.length=X.N.length
section
variable {X:Cx}{pins:List (Addr×Obj)}{σ:List (Option V)}{H H':Hp}{s:Shared}{h':Heap}
theorem Cx.Ok.nofr(ok:X.Ok){b:Addr}{o:Obj}(e:X.base.get? b=some o):b ∉ X.fs:=fun hb=>by
 have:=(ok.funs.mem hb).1
 rw[e]at this;cases this
theorem Inv.bs(I:Inv X pins σ H s):∀b o,X.base.get? b=some o→s.heap.get? b=some o∧H b=none:=fun b o e =>
 ⟨I.base.keep b o (I.ok.bs b o e).1 (I.ok.bs b o e).2 (I.ok.nofr e) (I.ok.noex b o e),I.base.free b o (I.ok.bs b o e).1 (I.ok.bs b o e).2 (I.ok.noex b o e)⟩
theorem Inv.bk(I:Inv X pins σ H s):∀b o,X.base.get? b=some o→s.heap.get? b=some o:=fun b o e=>(I.bs b o e).1
theorem Inv.mod(I:Inv X pins σ H s):Mod X.K X.mg X.base:=I.ok.mod
theorem Inv.kIn(I:Inv X pins σ H s):X.K.In s.heap:=I.ok.mod.kin.keeps I.bk
theorem Inv.nolimit(I:Inv X pins σ H s):s.heap.NoLimit:=I.ok.mod.nolimit.keeps I.bk
theorem Inv.fr(I:Inv X pins σ H s):∃m,Fr X.base X.env.locals s.heap m :=
 let ⟨m,hn,_⟩:=I.loc
 ⟨m,hn,I.bk,Nat.le_trans I.ok.bsz I.ok.above⟩
theorem Inv.lt(I:Inv X pins σ H s):X.env.locals<s.heap.objs.size:=let ⟨_,hn,_⟩:=I.loc;hn.lt
theorem Inv.sz(I:Inv X pins σ H s):X.s₀.heap.objs.size≤s.heap.objs.size:=Nat.le_trans I.ok.above (Nat.le_of_lt I.lt)
theorem Inv.nofs(I:Inv X pins σ H s){a:Addr}(h:s.heap.objs.size≤a):a ∉ X.fs:=fun hb=>by
 obtain⟨_,o,ho,_⟩:=I.ok.funs.mem hb
 exact absurd (Nat.lt_of_lt_of_le (Heap.lt_size ho) (Nat.le_trans I.sz h)) (Nat.lt_irrefl _)
theorem Inv.cne(I:Inv X pins σ H s):∀x c,X.env.cells.lookup x=some c→c≠X.env.locals:=fun x c e z=>by
 obtain⟨v,o,ho,hd⟩:=I.cell x c e
 obtain⟨m,⟨o',es,ep,ho',hd',_⟩,_⟩:=I.loc
 rw[z,ho']at ho;cases ho;rw[hd']at hd;cases hd
theorem Inv.funs(I:Inv X pins σ H s):s.heap.FunFrames X.base X.outer:=by
 have all:∀(l:List Env),(∀b∈K9 l,b∈X.fs)→X.s₀.heap.FunFrames X.base l→s.heap.FunFrames X.base l:=by
  intro l
  induction l with
  | nil=>intro _ _;trivial
  | cons env r ih =>
   intro hs hl
   obtain⟨hk,⟨L,o,hf,hn,ho,hd⟩,hr⟩:=hl
   have hL:L∈X.fs:=hs L (by unfold K9;rw[List.filterMap_cons,hf];exact List.mem_cons_self)
   obtain⟨sl,e⟩:=I.base.slot L o ho (I.ok.frf L hL) hL fun z=>I.ok.exfs L z hL
   exact⟨hk,⟨L,_,hf,hn,e,hd⟩,ih (fun b hb=>hs b (by unfold K9;rw[List.filterMap_cons,hf];exact List.mem_cons_of_mem _ hb)) hr⟩
 exact all X.outer (fun _ hb=>hb) I.ok.funs
theorem Inv.stack(I:Inv X pins σ H s):s.heap.FunFrames X.base X.stack:=by
 rcases I.ok.stk with e | ⟨e,hf⟩
 ·rw[e];exact I.funs
 ·rw[e]
  obtain⟨m,hn,_⟩:=I.loc
  refine .cons (by rw[I.ok.kind];decide) hf hn ?_ I.funs
  exact Heap.get?_none_of_le (Nat.le_trans I.ok.bsz I.ok.above)
theorem Inv.stkSub(I:Inv X pins σ H s):∀b∈K9 X.stack,b∈X.env.locals::X.fs:=fun b hb=>by
 rcases I.ok.stk with e | ⟨e,hf⟩
 ·rw[e]at hb;exact List.mem_cons_of_mem _ hb
 ·rw[e]at hb
  unfold K9 at hb
  rw[List.filterMap_cons,hf]at hb
  exact hb
theorem Inv.stkFree(I:Inv X pins σ H s):∀b∈K9 X.stack,H b=none:=fun b hb=>by
 rcases List.mem_cons.mp (I.stkSub b hb)with e | hb
 ·rw[e];exact I.free
 ·obtain⟨_,o,ho,_⟩:=I.ok.funs.mem hb
  exact I.base.free b o ho (I.ok.frf b hb) fun z=>I.ok.exfs b z hb
theorem Inv.step{g':Array GenState}{t':Nat}{d':Drawn}{ch:List Addr}(I:Inv X pins σ H s)
  (hch:∀b∈ch,(b∈X.ex∨X.s₀.heap.objs.size≤b)∧b≠X.env.locals∧(∀x c,X.env.cells.lookup x=some c→c≠b)∧∀p∈X.pn++pins,p.1≠b)
  (keep:∀b o,b≠X.env.locals→b ∉ X.fs→b ∉ ch→s.heap.get? b=some o→H b=none→h'.get? b=some o)
  (slot:∀b o,b≠X.env.locals→b∈X.fs→b ∉ ch→s.heap.get? b=some o→H b=none→∃sl,h'.get? b=some { o with slots:=sl }) (free:∀b o,b ∉ ch→s.heap.get? b=some o→H b=none→H' b=none)
  (there:∀b o,b ∉ ch→s.heap.get? b=some o→∃o',h'.get? b=some o')
  (tups:∀b xs,H b=some (.tup xs)→H' b=some (.tup xs)) (frzs:∀b o u,H b=some (.frz o u)→H' b=some (.frz o u)) (tbls:∀b ps,H b=some (.tbl ps)→∃more,H' b=some (.tbl (ps++more)))
  (ns:∀m,s.heap.Ns X.env.locals m→h'.Ns X.env.locals m) (hok:HOk X.prog X.w H' h') (hg:AllBare g') :
  Inv X pins σ H' { s with heap:=h',gens:=g',drawn:=d',toks:=t' }:=by
 have neL:∀b o,X.s₀.heap.get? b=some o→b≠X.env.locals:=fun b o e=>Nat.ne_of_lt (Nat.lt_of_lt_of_le (Heap.lt_size e) I.ok.above)
 have neC:∀b o,X.s₀.heap.get? b=some o→b ∉ X.ex→b ∉ ch:=fun b o e hx hb=>by
  rcases(hch b hb).1 with z | z
  ·exact hx z
  ·exact absurd (Nat.lt_of_lt_of_le (Heap.lt_size e) z) (Nat.lt_irrefl _)
 have cellK:∀x c,X.env.cells.lookup x=some c→∀v,s.heap.IsCell c v→h'.IsCell c v:=fun x c e v ⟨o,ho,hd⟩=>by
  have nch:c ∉ ch:=fun z=>(hch c z).2.2.1 x c e rfl
  by_cases hc:c∈X.fs
  ·obtain⟨sl,q⟩:=slot c o (I.cne x c e) hc nch ho (I.freeC x c e)
   exact⟨_,q,hd⟩
  ·exact⟨o,keep c o (I.cne x c e) hc nch ho (I.freeC x c e),hd⟩
 refine⟨I.ok,I.os,hg,⟨fun b o e n hb hx=>?_,fun b o e n hb hx=>?_,fun b o e n hx=>?_,fun b o e hx=>?_,fun b xs e=>tups b xs (I.base.tups b xs e),fun b o xs e=>frzs b o xs (I.base.frzs b o xs e),fun b ps e=>?_⟩,?_,fun x c e=>?_,?_,fun x c e=>?_,fun p hp=>?_,hok,I.len⟩
 ·exact keep b o (neL b o e) hb (neC b o e hx) (I.base.keep b o e n hb hx) (I.base.free b o e n hx)
 ·obtain⟨sl,e1⟩:=I.base.slot b o e n hb hx
  obtain⟨sl',e2⟩:=slot b _ (neL b o e) hb (neC b o e hx) e1 (I.base.free b o e n hx)
  exact⟨sl',e2⟩
 ·obtain⟨o',e1⟩:=I.base.there b o e hx
  exact free b o' (neC b o e hx) e1 (I.base.free b o e n hx)
 ·obtain⟨o',e1⟩:=I.base.there b o e hx
  exact there b o' (neC b o e hx) e1
 ·obtain⟨m1,e1⟩:=I.base.tbls b ps e
  obtain⟨m2,e2⟩:=tbls b _ e1
  exact⟨m1++m2,by rw[e2,Array.append_assoc]⟩
 ·obtain⟨m,hn,hl⟩:=I.loc
  refine⟨m,ns m hn,fun i x v e1 e2 e3=>?_⟩
  obtain⟨u,r,l⟩:=hl i x v e1 e2 e3
  refine⟨u,r,?_⟩
  rcases l with l | ⟨k,c,e,z⟩
  ·exact .inl l
  ·exact .inr ⟨k,c,e,cellK x c e _ z⟩
 ·obtain⟨v,z⟩:=I.cell x c e
  exact⟨v,cellK x c e v z⟩
 ·obtain⟨m,⟨o,_,_,ho,_⟩,_⟩:=I.loc
  exact free _ o (fun z=>(hch _ z).2.1 rfl) ho I.free
 ·obtain⟨v,o,ho,hd⟩:=I.cell x c e
  exact free c o (fun z=>(hch c z).2.2.1 x c e rfl) ho (I.freeC x c e)
 ·obtain⟨e,n,ne,nf,d⟩:=I.pin p hp
  have nch:p.1 ∉ ch:=fun z=>(hch p.1 z).2.2.2 p hp rfl
  exact⟨keep p.1 p.2 ne nf nch e n,free p.1 p.2 nch e n,ne,nf,d⟩
theorem Inv.un{t':Nat}(I:Inv X pins σ H s)(u:Un X.fs [] H H' s.heap h')(hok:HOk X.prog X.w H' h'):Inv X pins σ H' { s with heap:=h',toks:=t' }:=by
 obtain⟨m,⟨o,es,ep,ho,r⟩,_⟩:=id I.loc
 obtain⟨sl,hL⟩:=u.any ho I.free (by simp)
 exact I.step (g':=s.gens) (d':=s.drawn) (ch:=[]) (fun _ z=>nomatch z) (fun b o _ hb _ e n=>u.keep b o e n hb (by simp)) (fun b o _ hb _ e n=>u.slot b o e n hb (by simp)) (fun b o _ e n=>u.free b o e n (by simp)) (fun b o _ e=>u.there b o e (by simp)) u.tups u.frzs u.tbls (fun m' hm=>by
  obtain⟨o',es',ep',ho',r'⟩:=hm
  rw[ho]at ho';cases ho'
  exact⟨_,es',ep',hL,r'⟩) hok I.bare
theorem Inv.call{g':Array GenState}{t':Nat}{d':Drawn}{ch:List Addr}(I:Inv X pins σ H s)(u:Un (K9 X.stack) ch H H' s.heap h')(hok:HOk X.prog X.w H' h')(hg:AllBare g')
  (hch:∀b∈ch,(b∈X.ex∨X.s₀.heap.objs.size≤b)∧b≠X.env.locals∧(∀x c,X.env.cells.lookup x=some c→c≠b)∧∀p∈X.pn++pins,p.1≠b) :
  Inv X pins σ H' { s with heap:=h',gens:=g',drawn:=d',toks:=t' }:=by
 obtain⟨m,⟨o,es,ep,ho,r⟩,_⟩:=id I.loc
 obtain⟨sl,hL⟩:=u.any ho I.free fun z=>(hch _ z).2.1 rfl
 exact I.step (ch:=ch) hch (fun b o hL hb hc e n=>u.keep b o e n (fun z=>(List.mem_cons.mp (I.stkSub b z)).elim hL hb) hc) (fun b o _ _ hc e n=>u.any e n hc) (fun b o hc e n=>u.free b o e n hc) (fun b o hc e=>u.there b o e hc) u.tups u.frzs u.tbls (fun m' hm=>by
  obtain⟨o',es',ep',ho',r'⟩:=hm
  rw[ho]at ho';cases ho'
  exact⟨_,es',ep',hL,r'⟩) hok hg
theorem Inv.turned{t':Nat}{it:Addr}(I:Inv X pins σ H s)(k:∀b o,b≠it→s.heap.get? b=some o→h'.get? b=some o)(hn:H it=none)(hL:it≠X.env.locals)
  (h1:it∈X.ex∨X.s₀.heap.objs.size≤it) (h2:∀x c,X.env.cells.lookup x=some c→c≠it) (h3:∀p∈X.pn++pins,p.1≠it):Inv X pins σ H { s with heap:=h',toks:=t' }:=by
 have nit:∀b u,H b=some u→b≠it:=fun b u e z=>by rw[z,hn]at e;cases e
 refine I.step (g':=s.gens) (d':=s.drawn) (ch:=[it]) (fun b hb=>?_) (fun b o _ _ hc e _=>k b o (fun z=>hc (by simp[z])) e) (fun b o _ _ hc e _=>⟨o.slots,k b o (fun z=>hc (by simp[z])) e⟩) (fun _ _ _ _ n=>n)
  (fun b o hc e=>⟨o,k b o (fun z=>hc (by simp[z])) e⟩) (fun _ _ e=>e) (fun _ _ _ e=>e) (fun b ps e=>⟨#[],by rw[e];simp⟩) (fun m hm=>?_) (fun b u e=>?_) I.bare
 ·have e:b=it:=by simpa using hb
  subst e
  exact⟨h1,hL,h2,h3⟩
 ·obtain⟨o,es,ep,ho,r⟩:=hm
  exact⟨o,es,ep,k _ o (Ne.symm hL) ho,r⟩
 ·refine(I.hok b u e).stay (fun c v hc q=>k c v ?_ q) (fun _ q=>q) (fun _ _ q=>q) fun _ _ _ q=>q
  rcases hc with z | z
  ·rw[z];exact nit b u e
  ·exact nit c _ z
theorem Inv.tok(I:Inv X pins σ H s)(t:Nat):Inv X pins σ H { s with toks:=t }:=I.un (h':=s.heap) (t':=t) Un.refl I.hok
theorem Inv.kept{t':Nat}(I:Inv X pins σ H s)(k:∀b u,s.heap.get? b=some u→h'.get? b=some u):Inv X pins σ H { s with heap:=h',toks:=t' }:=I.un (Un.kept k) (I.hok.kept k)
theorem Inv.laid{a:Addr}{o:HO}{t':Nat}(I:Inv X pins σ H s)(k:∀b u,s.heap.get? b=some u→h'.get? b=some u)(hp:s.heap.objs.size≤a)(new:ObjOk X.prog X.w (upd H a o) h' a o) :
  Inv X pins σ (upd H a o) { s with heap:=h',toks:=t' }:=I.un (Un.laid k hp (I.hok.fresh hp)) (I.hok.laid k hp new)
theorem Inv.write{x e:Addr}{o:HO}{t':Nat}(I:Inv X pins σ H s)(mu:Mut (H x))(he:e=x∨H e=some (.own x))(k:∀b u,b≠e→s.heap.get? b=some u→h'.get? b=some u)(heo:∃u,h'.get? e=some u)
  (new:ObjOk X.prog X.w (upd H x o) h' x o):Inv X pins σ (upd H x o) { s with heap:=h',toks:=t' }:=I.un (Un.write mu he k heo) (I.hok.write mu he k heo new)
theorem Inv.weak{σ':List (Option V)}(I:Inv X pins σ H s)(hl:σ'.length=σ.length)(w:∀(i:Nat) v,σ'[i]? = some (some v)→σ[i]? = some (some v)):Inv X pins σ' H s :=
 ⟨I.ok,I.os,I.bare,I.base,let ⟨m,hn,hl'⟩:=I.loc; ⟨m,hn,fun i x v e1 e2 e3=>hl' i x v e1 (w i v e2) e3⟩,I.cell,I.free,I.freeC,I.pin,I.hok,hl.trans I.len⟩
theorem Inv.pins_of{pins':List (Addr×Obj)}(I:Inv X pins σ H s)(h:∀p∈pins',s.heap.get? p.1=some p.2∧H p.1=none∧p.1≠X.env.locals∧p.1 ∉ X.fs∧∀v,p.2.data≠.cell v):Inv X pins' σ H s :=
 ⟨I.ok,I.os,I.bare,I.base,I.loc,I.cell,I.free,I.freeC,fun p hp=>(List.mem_append.mp hp).elim (fun z=>I.pin p (List.mem_append_left _ z)) (h p),I.hok,I.len⟩
theorem a25{N:List Str}(hN:N.Nodup){i j:Nat}{x:Str}(a:N[i]? = some x)(b:N[j]? = some x):i=j:=by
 obtain⟨h1,e1⟩:=List.getElem?_eq_some_iff.mp a
 obtain⟨h2,e2⟩:=List.getElem?_eq_some_iff.mp b
 exact(List.getElem_inj hN).mp (e1.trans e2.symm)
theorem a48{M:Model}{A:Around}{E:Value→Shared→Prop}{i:Nat}{x:Str}{v:V}{u:Value}{Q:Unit→Shared→Prop}(I:Inv X pins σ H s)(hN:X.N.Nodup)(hi:X.N[i]? = some x)(hx:Loc X.env.scope x)(r:RelV v u)
  (h:∀s',Inv X pins (σ.set i (some v)) H s'→(∃a,Heap.SameBut a s.heap s'.heap∧(a=X.env.locals∨X.env.cells.lookup x=some a))→Q () s') (hf:X.fn x=true∨X.env.scope.names.lookup x=some .local:=by first | exact .inl rfl | exact .inr rfl | assumption):wpAny M A (storeName X.env x u) Q E s:=by
 obtain⟨m,hn,hl⟩:=id I.loc
 have hcls:(X.env.scope.kind == .class || (X.env.scope.kind == .module && X.env.locals != X.env.globals))=false:=by rw[I.ok.kind];rfl
 have hiσ:i<σ.length:=by rw[I.len];exact(List.getElem?_eq_some_iff.mp hi).1
 have cne:=I.cne
 have tracked:∀{a:Addr} {h':Heap},(∃o,s.heap.get? a=some o∧H a=none)→Heap.SameBut a s.heap h'→HOk X.prog X.w H h':=fun{a h'} ha hs b ob e=>by
  obtain⟨_,_,hfree⟩:=ha
  refine(I.hok b ob e).stay (fun c w' hc q=>(hs.2 c ?_).trans q) (fun _ q=>q) (fun _ _ q=>q) fun _ _ _ q=>q
  rintro rfl
  rcases hc with rfl | hc
  ·rw[hfree]at e;cases e
  ·rw[hfree]at hc;cases hc
 rcases hx with hk | hk
 ·refine wpAny_storeName_local hk hn (fun h' hn' hs=>?_) hcls
  obtain⟨oL,_,_,hoL,_⟩:=id hn
  refine h _ ⟨I.ok,I.os,I.bare,⟨fun b o e n hb hx=>?_,fun b o e n hb hx=>?_,I.base.free,fun b o e hx=>?_,I.base.tups,I.base.frzs,I.base.tbls⟩,⟨_,hn',fun j y v' e1 e2 e3=>?_⟩,fun y c e=>?_,I.free,I.freeC,fun p hp=>?_,tracked ⟨oL,hoL,I.free⟩ hs,by simpa using I.len⟩ ⟨_,hs,.inl rfl⟩
  ·exact(hs.2 b (Nat.ne_of_lt (Nat.lt_of_lt_of_le (Heap.lt_size e) I.ok.above))).trans (I.base.keep b o e n hb hx)
  ·obtain⟨sl,e1⟩:=I.base.slot b o e n hb hx
   exact⟨sl,(hs.2 b (Nat.ne_of_lt (Nat.lt_of_lt_of_le (Heap.lt_size e) I.ok.above))).trans e1⟩
  ·obtain⟨o',e1⟩:=I.base.there b o e hx
   exact⟨o',(hs.2 b (Nat.ne_of_lt (Nat.lt_of_lt_of_le (Heap.lt_size e) I.ok.above))).trans e1⟩
  ·by_cases hj:j=i
   ·subst hj
    rw[hi]at e1;cases e1
    rw[List.getElem?_set_self hiσ]at e2
    cases e2
    exact⟨u,r,.inl ⟨hk,by simp⟩⟩
   ·rw[List.getElem?_set_ne (Ne.symm hj)]at e2
    obtain⟨u',r',q⟩:=hl j y v' e1 e2 e3
    refine⟨u',r',?_⟩
    rcases q with⟨k,e⟩ | ⟨k,c,e,z⟩
    ·refine .inl ⟨k,?_⟩
     have:y≠x:=fun e=>hj (a25 hN e1 (e▸hi))
     simp[this,e]
    ·exact .inr ⟨k,c,e,z.sameBut hs (cne y c e)⟩
  ·obtain⟨w',z⟩:=I.cell y c e
   exact⟨w',z.sameBut hs (cne y c e)⟩
  ·obtain⟨e,n,ne,nf,d⟩:=I.pin p hp
   exact⟨(hs.2 p.1 ne).trans e,n,ne,nf,d⟩
 ·have hfn:X.fn x=true:=by
   rcases hf with z | z
   ·exact z
   ·rw[z]at hk;cases hk
  obtain⟨c,hc⟩:=I.ok.has x (.inl hk)
  obtain⟨w',z⟩:=I.cell x c hc
  refine wpAny_storeName_cell I.ok.kind hk hc z (fun h' hc' hs=>?_)
  obtain⟨oc,hoc,hocd⟩:=id z
  refine h { s with heap:=h' } ⟨I.ok,I.os,I.bare,⟨fun b o e n hb hx=>?_,fun b o e n hb hx=>?_,I.base.free,fun b o e hx=>?_,I.base.tups,I.base.frzs,I.base.tbls⟩,⟨m,hn.sameBut hs (Ne.symm (cne x c hc)),fun j y v' e1 e2 e3=>?_⟩,fun y c' e=>?_,I.free,I.freeC,fun p hp=>?_,tracked ⟨oc,hoc,I.freeC x c hc⟩ hs,by simpa using I.len⟩ ⟨c,hs,.inr hc⟩
  ·exact(hs.2 b (Nat.ne_of_lt (Nat.lt_of_lt_of_le (Heap.lt_size e) (I.ok.cab x c hfn hc)))).trans (I.base.keep b o e n hb hx)
  ·obtain⟨sl,e1⟩:=I.base.slot b o e n hb hx
   exact⟨sl,(hs.2 b (Nat.ne_of_lt (Nat.lt_of_lt_of_le (Heap.lt_size e) (I.ok.cab x c hfn hc)))).trans e1⟩
  ·obtain⟨o',e1⟩:=I.base.there b o e hx
   exact⟨o',(hs.2 b (Nat.ne_of_lt (Nat.lt_of_lt_of_le (Heap.lt_size e) (I.ok.cab x c hfn hc)))).trans e1⟩
  ·by_cases hj:j=i
   ·subst hj
    rw[hi]at e1;cases e1
    rw[List.getElem?_set_self hiσ]at e2
    cases e2
    exact⟨u,r,.inr ⟨.inl hk,c,hc,hc'⟩⟩
   ·rw[List.getElem?_set_ne (Ne.symm hj)]at e2
    obtain⟨u',r',q⟩:=hl j y v' e1 e2 e3
    refine⟨u',r',?_⟩
    rcases q with q | ⟨k,c',e,z'⟩
    ·exact .inl q
    ·refine .inr ⟨k,c',e,z'.sameBut hs ?_⟩
     rintro rfl
     exact hj (a25 hN e1 (I.ok.inj _ _ _ e hc▸hi))
  ·by_cases hcc:c'=c
   ·subst hcc;exact⟨_,hc'⟩
   ·obtain⟨w2,z2⟩:=I.cell y c' e
    exact⟨w2,z2.sameBut hs hcc⟩
  ·obtain⟨e,n,ne,nf,d⟩:=I.pin p hp
   refine⟨(hs.2 p.1 ?_).trans e,n,ne,nf,d⟩
   intro q
   rw[q,hoc]at e
   have q':oc=p.2:=Option.some.inj e
   exact d w' (by rw[← q'];exact hocd)
theorem a26{M:Model}{A:Around}{E:Value→Shared→Prop}{i:Nat}{x:Str}{v:V}{u:Value}{Q:Unit→Shared→Prop}(I:Inv X pins σ H s)(hN:X.N.Nodup)(hi:X.N[i]? = some x)(hx:Loc X.env.scope x)(r:RelV v u)
  (h:∀s',Inv X pins (σ.set i (some v)) H s'→Q () s') (hf:X.fn x=true∨X.env.scope.names.lookup x=some .local:=by first | exact .inl rfl | exact .inr rfl | assumption):wpAny M A (storeName X.env x u) Q E s :=
 a48 I hN hi hx r (fun s' I' _=>h s' I') hf
theorem Inv.call'{s':Shared}{ch:List Addr}(I:Inv X pins σ H s)(ho:s'.os=s.os)(u:Un (K9 X.stack) ch H H' s.heap s'.heap)(hok:HOk X.prog X.w H' s'.heap)(hg:AllBare s'.gens)
  (hch:∀b∈ch,(b∈X.ex∨X.s₀.heap.objs.size≤b)∧b≠X.env.locals∧(∀x c,X.env.cells.lookup x=some c→c≠b)∧∀p∈X.pn++pins,p.1≠b):Inv X pins σ H' s':=by
 obtain⟨h',g',d',t',o'⟩:=s'
 have e:o'=s.os:=ho
 subst e
 exact I.call (g':=g') (t':=t') (d':=d') u hok hg hch
end
abbrev XK:=Value→Option Addr→Hp→Prop
abbrev St:=List (Option V)
abbrev VK:=V→Hp→Prop
abbrev TE:=St→Hp→VK→Prop
abbrev TT:=St→Hp→(Bool→Hp→Prop)→Prop
abbrev TA:=St→Hp→(List V→Hp→Prop)→Prop
structure Ends where
 nx:St→Hp→Prop
 rt:VK
 bk:St→Hp→Prop:=fun _ _=>False
 ct:St→Hp→Prop:=fun _ _=>False
abbrev TS:=Ends→St→Hp→Prop
def EP(X:Cx)(pins:List (Addr×Obj))(σ:St)(Q:VK)(u:Value)(s':Shared):Prop:=∃v H',Inv X pins σ H' s'∧RelV v u∧Q v H'
def TP(X:Cx)(pins:List (Addr×Obj))(σ:St)(Q:Bool→Hp→Prop)(b:Bool)(s':Shared):Prop:=∃H',Inv X pins σ H' s'∧Q b H'
def AP(X:Cx)(pins:List (Addr×Obj))(σ:St)(Q:List V→Hp→Prop)(us:List Value)(s':Shared):Prop:=∃vs H',Inv X pins σ H' s'∧Vals vs us∧Q vs H'
def SP(X:Cx)(pins:List (Addr×Obj))(D:Ends)(f:Flow)(s':Shared):Prop :=
 match f with
 | .next=>∃σ' H',Inv X pins σ' H' s'∧D.nx σ' H'
 | .brk=>∃σ' H',Inv X pins σ' H' s'∧D.bk σ' H'
 | .cont=>∃σ' H',Inv X pins σ' H' s'∧D.ct σ' H'
 | .ret u=>∃v σ' H',Inv X pins σ' H' s'∧RelV v u∧D.rt v H'
def PE(X:Cx)(e:Expr)(t:TE):Prop :=
 ∀(pins:List (Addr×Obj)) (s:Shared) (σ:St) (H:Hp) (Q:VK),Inv X pins σ H s→t σ H Q→wpAny (model X.prog X.w) X.A (eval e X.env) (EP X pins σ Q) X.xe s
def PT(X:Cx)(e:Expr)(t:TT):Prop :=
 ∀(pins:List (Addr×Obj)) (s:Shared) (σ:St) (H:Hp) (Q:Bool→Hp→Prop),Inv X pins σ H s→t σ H Q→wpAny (model X.prog X.w) X.A (isTrue e X.env (eval e X.env)) (TP X pins σ Q) X.xe s
def PW(X:Cx)(e:Expr)(t:TT):Prop :=
 ∀(whole:Sem Value) (pins:List (Addr×Obj)) (s:Shared) (σ:St) (H:Hp) (Q:Bool→Hp→Prop),Inv X pins σ H s→t σ H Q→wpAny (model X.prog X.w) X.A (isTrue e X.env whole) (TP X pins σ Q) X.xe s
theorem PW.pt{X:Cx}{e:Expr}{t:TT}(h:PW X e t):PT X e t:=h _
def PA(X:Cx)(es:List Expr)(t:TA):Prop :=
 ∀(pos:Pos) (pins:List (Addr×Obj)) (s:Shared) (σ:St) (H:Hp) (Q:List V→Hp→Prop),Inv X pins σ H s→t σ H Q→wpAny (model X.prog X.w) X.A (spliced (backTo pos (starEach es X.env))) (AP X pins σ Q) X.xe s
def PS(X:Cx)(st:Stmt)(t:TS):Prop :=
 ∀(pins:List (Addr×Obj)) (s:Shared) (σ:St) (H:Hp) (D:Ends),Inv X pins σ H s→t D σ H→wpAny (model X.prog X.w) X.A (exec st X.env) (SP X pins D) X.xe s
def PSs(X:Cx)(st:List Stmt)(t:TS):Prop :=
 ∀(pins:List (Addr×Obj)) (s:Shared) (σ:St) (H:Hp) (D:Ends),Inv X pins σ H s→t D σ H→wpAny (model X.prog X.w) X.A (execs st X.env) (SP X pins D) X.xe s
theorem m4{α:Type}{t:Sem α}{Q Q':α→Shared→Prop}{M:Model}{A:Around}{E:Value→Shared→Prop}{s:Shared}(h:wpAny M A t Q E s)(hQ:∀a s,Q a s→Q' a s):wpAny M A t Q' E s:=wpAny_mono h hQ fun _ _ x=>x
section
variable {X:Cx}
def D2(i:Nat):TE:=fun σ H Q=>∃v,σ[i]? = some (some v)∧Q v H
def tC(v:V):TE:=fun _ H Q=>Q v H
theorem b4x{i:Nat}{x:Str}{pos:Pos}(hN:X.N[i]? = some x)(hv:Vis X.env.scope x)(hd:(x == ("__debug__" : Str))=false:=by decide)(hcd:(x == ("__classdict__" : Str))=false:=by decide):PE X (.Name x pos) (D2 i):=by
 intro pins s σ H Q I h
 obtain⟨v,e,h⟩:=h
 obtain⟨m,hn,hl⟩:=I.loc
 obtain⟨u,r,l⟩:=hl i x v hN e hv
 have fin:EP X pins σ Q u s:=⟨v,H,I,r,h⟩
 rcases l with⟨hk,hm⟩ | ⟨hk,c,hc,hcell⟩
 ·exact wpAny_Name (wpAny_loadName_local I.ok.kind hk hn hm fin) hd
 ·rcases hk with hk | hk
  ·exact wpAny_Name (wpAny_loadName_cell I.ok.kind hk hc hcell fin) hd
  ·exact wpAny_Name (wpAny_loadName_free I.ok.kind hk hc hcell fin hcd) hd
theorem a9{i j pos}:PE X (.Constant (.int i) j pos) (tC (.int i)):=fun _ _ _ H _ I h=>wpAny_Constant_int ⟨.int i,H,I.tok _,⟨_,rfl⟩,h⟩
theorem Y7{b j pos}:PE X (.Constant (.bool b) j pos) (tC (.bl b)):=fun _ _ _ H _ I h=>Constant_bool ⟨.bl b,H,I,rfl,h⟩
theorem O4{j pos}:PE X (.Constant .none j pos) (tC .non):=fun _ _ _ H _ I h=>Constant_none ⟨.non,H,I,rfl,h⟩
theorem w6{x j pos}:PE X (.Constant (.str x) j pos) (tC (.str x)):=fun _ _ _ H _ I h=>Calls.Constant_str ⟨.str x,H,I.tok _,⟨_,rfl⟩,h⟩
def Gl(X:Cx)(x:Str):Prop:=X.env.kindOf x=some .globalImplicit
theorem X0{E:Value→Shared→Prop}{pins:List (Addr×Obj)}{s:Shared}{σ:St}{H:Hp}{x:Str}{u:Value}{pos:Pos}{Q:Value→Shared→Prop}(I:Inv X pins σ H s)(hg:Gl X x)(hm:X.mg x=some u)(h:Q u s)
  (hd:(x == ("__debug__" : Str))=false:=by decide):wpAny (model X.prog X.w) X.A (eval (.Name x pos) X.env) Q E s :=
 Calls.Name_function_global I.ok.kind hg (Calls.loadGlobal_global (by rw[I.ok.glob];exact I.mod.glob.keeps I.bk) hm h) hd
theorem a12{E:Value→Shared→Prop}{pins:List (Addr×Obj)}{s:Shared}{σ:St}{H:Hp}{x:Str}{u:Value}{pos:Pos}{Q:Value→Shared→Prop}(I:Inv X pins σ H s)(hg:Gl X x)(hm:X.mg x=none)(hv:bootBuiltins x=some u)(h:Q u s)
  (hn:x≠"__name__" := by decide) (hd:(x == ("__debug__" : Str))=false:=by decide):wpAny (model X.prog X.w) X.A (eval (.Name x pos) X.env) Q E s:=by
 obtain⟨mb,h1,h2⟩:=I.mod.blt
 exact Calls.Name_function_global I.ok.kind hg (Calls.loadGlobal_builtin (by rw[I.ok.glob];exact I.mod.glob.keeps I.bk) hm (by rw[I.ok.blt];exact h1.keeps I.bk) ((h2 x hn).trans hv) h) hd
theorem C8{x:Str}{v:V}{u:Value}{pos:Pos}(hg:Gl X x)(hm:X.mg x=some u)(r:RelV v u)(hd:(x == ("__debug__" : Str))=false:=by decide):PE X (.Name x pos) (tC v) :=
 fun _ _ _ H _ I h=>X0 I hg hm ⟨v,H,I,r,h⟩ hd
theorem Q9{x:Str}{v:V}{u:Value}{pos:Pos}(hg:Gl X x)(hm:X.mg x=none)(hv:bootBuiltins x=some u)(r:RelV v u)(hn:x≠"__name__" := by decide)(hd:(x == ("__debug__" : Str))=false:=by decide):PE X (.Name x pos) (tC v) :=
 fun _ _ _ H _ I h=>a12 I hg hm hv ⟨v,H,I,r,h⟩ hn hd
variable {a b:Expr}{ta tb:TE}{pos:Pos}
def tB(t:TE):TT:=fun σ H Q=>t σ H fun x H1=>∃c,x=.bl c∧Q c H1
theorem A3{e:Expr}{t:TE}(h:PE X e t)(he:∀whole,isTrue e X.env whole=(do let v ← whole;standAt e.pos;holding [v] (truthy v)):=by intro _;rfl):PT X e (tB t):=by
 intro pins s σ H Q I hw
 refine isTrue_plain (m4 (h pins s σ H _ I hw) fun v s1 ⟨x,H1,I1,r1,q1⟩=>?_) (he _)
 obtain⟨d,rfl,q⟩:=q1
 cases r1
 exact wpAny_truthy_bool ⟨H1,I1,q⟩
variable {tA tB':TT}{l7:List Expr}
def b4y(t u:TT):TT:=fun σ H Q=>t σ H fun c H1=>if c=true then u σ H1 Q else Q false H1
def tOr(t u:TT):TT:=fun σ H Q=>t σ H fun c H1=>if c=true then Q true H1 else u σ H1 Q
def b4z(t:TT):TT:=fun σ H Q=>t σ H fun c H1=>Q (!c) H1
theorem a2C(ha:PT X a tA):PW X (.BoolOp .And [a] pos) tA:=by
 intro wh pins s σ H Q I h
 refine isTrue_and (m4 (ha pins s σ H Q I h) fun c s1 e=>?_)
 cases c with
 | true=>exact isTrue_and_nil e
 | false=>exact e
theorem a0p(ha:PT X a tA):PW X (.BoolOp .Or [a] pos) tA:=by
 intro wh pins s σ H Q I h
 refine isTrue_or (m4 (ha pins s σ H Q I h) fun c s1 e=>?_)
 cases c with
 | false=>exact isTrue_or_nil e
 | true=>exact e
theorem a13(ha:PT X a tA)(hb:PW X (.BoolOp .And (b::l7) pos) tB'):PW X (.BoolOp .And (a::b::l7) pos) (b4y tA tB'):=by
 intro wh pins s σ H Q I h
 refine isTrue_and (m4 (ha pins s σ H _ I h) fun c s1 ⟨H1,I1,q1⟩=>?_)
 cases c with
 | true=>exact hb wh pins s1 σ H1 Q I1 q1
 | false=>exact⟨H1,I1,q1⟩
theorem V4(ha:PT X a tA)(hb:PW X (.BoolOp .Or (b::l7) pos) tB'):PW X (.BoolOp .Or (a::b::l7) pos) (tOr tA tB'):=by
 intro wh pins s σ H Q I h
 refine isTrue_or (m4 (ha pins s σ H _ I h) fun c s1 ⟨H1,I1,q1⟩=>?_)
 cases c with
 | true=>exact⟨H1,I1,q1⟩
 | false=>exact hb wh pins s1 σ H1 Q I1 q1
theorem D5(ha:PT X a tA):PT X (.UnaryOp .Not a pos) (b4z tA):=by
 intro pins s σ H Q I h
 exact isTrue_not (ha pins s σ H (fun c H1=>Q (!c) H1) I h)
def b1W(ta tb:TE):TE:=fun σ H Q=>ta σ H fun x H1=>∃c,x=.bl c∧if c=true then tb σ H1 Q else Q (.bl false) H1
def b1X(ta:TE):TE:=fun σ H Q=>ta σ H fun x H1=>∃c,x=.bl c∧Q (.bl (!c)) H1
theorem a14{op}{t:TE}(h:PE X a t):PE X (.BoolOp op [a] pos) t:=fun pins s σ H Q I hw=>BoolOp_one (h pins s σ H Q I hw)
theorem a15(ha:PE X a ta)(hb:PE X (.BoolOp .And (b::l7) pos) tb):PE X (.BoolOp .And (a::b::l7) pos) (b1W ta tb):=by
 intro pins s σ H Q I h
 refine BoolOp_and (m4 (ha pins s σ H _ I h) fun v s1 ⟨x,H1,I1,r1,q1⟩=>?_)
 obtain⟨c,rfl,q1⟩:=q1
 cases r1
 refine wpAny_truthy_bool ?_
 cases c with
 | true=>exact hb pins s1 σ H1 Q I1 q1
 | false=>exact⟨.bl false,H1,I1,rfl,q1⟩
theorem a5Z(ha:PE X a ta):PE X (.UnaryOp .Not a pos) (b1X ta):=by
 intro pins s σ H Q I h
 refine UnaryOp_ (m4 (ha pins s σ H _ I h) fun v s1 ⟨x,H1,I1,r1,q1⟩=>?_)
 obtain⟨c,rfl,q1⟩:=q1
 cases r1
 exact not_of (wpAny_truthy_bool ⟨.bl (!c),H1,I1,rfl,q1⟩)
def tIf(t:TT)(ta tb:TE):TE:=fun σ H Q=>t σ H fun c H1=>if c=true then ta σ H1 Q else tb σ H1 Q
theorem b0z{c:Expr}(hc:PT X c tA)(ha:PE X a ta)(hb:PE X b tb):PE X (.IfExp c a b pos) (tIf tA ta tb):=by
 intro pins s σ H Q I h
 refine wpAny_IfExp (m4 (hc pins s σ H _ I h) fun d s1 ⟨H1,I1,q1⟩=>?_)
 cases d with
 | true=>exact ha pins s1 σ H1 Q I1 q1
 | false=>exact hb pins s1 σ H1 Q I1 q1
end
def SqL(K:W.Frag)(H:Hp)(a:Addr)(xs:List V):Prop :=
 Rd H a (.lst xs) ∨
  ∃(o:Obj) (its:Array Value) (n:Nat),K.lookup a=some o∧o.cls=.type "list"∧o.dict=none∧o.data=.seq its n∧its.size≤sizeLine∧Vals xs its.toList
def SqT(K:W.Frag)(H:Hp)(a:Addr)(xs:List V):Prop :=
 Rd H a (.tup xs) ∨
  ∃(o:Obj) (its:Array Value) (n:Nat),K.lookup a=some o∧o.cls=.type "tuple"∧o.data=.seq its n∧its.size≤sizeLine∧Vals xs its.toList
def b6H:Value→Option V
 | .none=>some .non
 | .bool b=>some (.bl b)
 | .int i _=>some (.int i)
 | .str x _=>some (.str x)
 | .bytes b _=>some (.byt b)
 | .float b _=>some (.flt b)
 | .ref a=>some (.ref a)
 | .type n=>some (.ty n)
 | _=>none
theorem RelV.abs{x:V}{u:Value}(r:RelV x u):b6H u=some x:=by
 cases x with
 | non=>cases r;rfl
 | bl _=>cases r;rfl
 | int _=>obtain⟨t,rfl⟩:=r;rfl
 | str _=>obtain⟨t,rfl⟩:=r;rfl
 | byt _=>obtain⟨t,rfl⟩:=r;rfl
 | flt _=>obtain⟨t,rfl⟩:=r;rfl
 | ref _=>cases r;rfl
 | ty _=>cases r;rfl
theorem RelV.inj{x y:V}{u:Value}(r:RelV x u)(q:RelV y u):x=y:=Option.some.inj (r.abs.symm.trans q.abs)
theorem Vals.inj:∀{xs ys:List V} {us:List Value},Vals xs us→Vals ys us→xs=ys
 | _,_,_,.nil,.nil=>rfl
 | _,_,_,.cons r t,.cons r' t'=>by rw[r.inj r',Vals.inj t t']
section
variable {X:Cx}{pins:List (Addr×Obj)}{σ:St}{H:Hp}{s:Shared}{a:Addr}{xs ys:List V}
theorem SqL.of{K:W.Frag}(h:H a=some (.lst xs)):SqL K H a xs:=.inl (.inl h)
theorem SqT.of{K:W.Frag}(h:H a=some (.tup xs)):SqT K H a xs:=.inl (.inl h)
theorem Inv.list(I:Inv X pins σ H s)(h:SqL X.K H a xs):∃its:List Value,Vals xs its∧PlainL s.heap a its.toArray∧xs.length≤sizeLine:=by
 rcases h with h | ⟨o,its,n,hk,hc,hd,hs,hz,r⟩
 ·obtain⟨z,its,n,r,e⟩:=h.ok I.hok
  exact⟨its,r,⟨_,n,e,rfl,rfl,rfl⟩,z⟩
 ·refine⟨its.toList,r,⟨o,n,I.kIn a o hk,hc,hd,by simpa using hs⟩,?_⟩
  have e:=r.length
  simp only[Array.length_toList]at e
  omega
theorem Inv.tuple(I:Inv X pins σ H s)(h:SqT X.K H a xs):∃its:List Value,Vals xs its∧IsTup s.heap a its.toArray∧xs.length≤sizeLine:=by
 rcases h with h | ⟨o,its,n,hk,hc,hs,hz,r⟩
 ·obtain⟨z,its,r,p⟩:=h.ok I.hok
  exact⟨its,r,p,z⟩
 ·refine⟨its.toList,r,⟨o,I.kIn a o hk,hc,n,by simpa using hs⟩,?_⟩
  have e:=r.length
  simp only[Array.length_toList]at e
  omega
theorem Inv.list_inj(I:Inv X pins σ H s)(h:SqL X.K H a xs)(h':SqL X.K H a ys):xs=ys:=by
 obtain⟨its,r,⟨o,n,e,_,_,d⟩,_⟩:=I.list h
 obtain⟨its',r',⟨o',n',e',_,_,d'⟩,_⟩:=I.list h'
 rw[e]at e';cases e'
 rw[d]at d'
 injection d' with d1 _
 have:its=its':=by simpa using congrArg Array.toList d1
 subst this
 exact r.inj r'
theorem Inv.tuple_inj(I:Inv X pins σ H s)(h:SqT X.K H a xs)(h':SqT X.K H a ys):xs=ys:=by
 obtain⟨its,r,⟨o,e,_,n,d⟩,_⟩:=I.tuple h
 obtain⟨its',r',⟨o',e',_,n',d'⟩,_⟩:=I.tuple h'
 rw[e]at e';cases e'
 rw[d]at d'
 injection d' with d1 _
 have:its=its':=by simpa using congrArg Array.toList d1
 subst this
 exact r.inj r'
end
abbrev Cx.wish(X:Cx)(E:Value→Shared→Prop):Cx:={ X with xe:=E }
abbrev Cx.nox(X:Cx):Cx:=X.wish fun _ _=>False
theorem Cx.Ok.wish{X:Cx}(ok:X.Ok)(E:Value→Shared→Prop):(X.wish E).Ok :=
 ⟨ok.mod,ok.kind,ok.glob,ok.blt,ok.above,ok.inj,ok.has,ok.cab,ok.hd,ok.frames,ok.stk,ok.exf,ok.bs,ok.bsz,ok.noex,ok.exfs,ok.funs,ok.frf⟩
theorem Cx.Ok.unwish{X:Cx}{E:Value→Shared→Prop}(ok:(X.wish E).Ok):X.Ok :=
 ⟨ok.mod,ok.kind,ok.glob,ok.blt,ok.above,ok.inj,ok.has,ok.cab,ok.hd,ok.frames,ok.stk,ok.exf,ok.bs,ok.bsz,ok.noex,ok.exfs,ok.funs,ok.frf⟩
section
variable {X:Cx}{pins:List (Addr×Obj)}{σ:St}{H:Hp}{s:Shared}{E:Value→Shared→Prop}
theorem Inv.wish(I:Inv X pins σ H s)(E:Value→Shared→Prop):Inv (X.wish E) pins σ H s:=⟨I.ok.wish E,I.os,I.bare,I.base,I.loc,I.cell,I.free,I.freeC,I.pin,I.hok,I.len⟩
theorem Inv.unwish(I:Inv (X.wish E) pins σ H s):Inv X pins σ H s:=⟨I.ok.unwish,I.os,I.bare,I.base,I.loc,I.cell,I.free,I.freeC,I.pin,I.hok,I.len⟩
theorem SP.unwish{D:Ends}{f:Flow}{s':Shared}(h:SP (X.wish E) pins D f s'):SP X pins D f s':=by
 cases f with
 | next=>obtain⟨σ',H',I,q⟩:=h;exact⟨σ',H',I.unwish,q⟩
 | brk=>obtain⟨σ',H',I,q⟩:=h;exact⟨σ',H',I.unwish,q⟩
 | cont=>obtain⟨σ',H',I,q⟩:=h;exact⟨σ',H',I.unwish,q⟩
 | ret u=>obtain⟨v,σ',H',I,r,q⟩:=h;exact⟨v,σ',H',I.unwish,r,q⟩
theorem PE.nox{e:Expr}{t:TE}(h:PE X.nox e t):PE X e t:=fun pins s σ H Q I hw =>
 wpAny_mono (h pins s σ H Q (I.wish _) hw) (fun _ _ ⟨v,H',I',r,q⟩=>⟨v,H',I'.unwish,r,q⟩) fun _ _ z=>False.elim z
theorem PT.nox{e:Expr}{t:TT}(h:PT X.nox e t):PT X e t:=fun pins s σ H Q I hw =>
 wpAny_mono (h pins s σ H Q (I.wish _) hw) (fun _ _ ⟨H',I',q⟩=>⟨H',I'.unwish,q⟩) fun _ _ z=>False.elim z
theorem PSs.nox{st:List Stmt}{t:TS}(h:PSs X.nox st t):PSs X st t:=fun pins s σ H D I hw =>
 wpAny_mono (h pins s σ H D (I.wish _) hw) (fun _ _ q=>q.unwish) fun _ _ z=>False.elim z
end
section
variable {X:Cx}{st:Stmt}{l7:List Stmt}{t u:TS}{e:Expr}{te:TE}{pos:Pos}
def a79:TS:=fun D σ H=>D.nx σ H
def b0A(t u:TS):TS:=fun D σ H=>t { D with nx:=u D } σ H
theorem k6:PSs X [] a79:=fun _ _ σ H _ I h=>wpAny_execs_nil ⟨σ,H,I,h⟩
theorem d7(h1:PS X st t)(h2:PSs X l7 u):PSs X (st::l7) (b0A t u):=by
 intro pins s σ H D I h
 refine wpAny_execs_cons (m4 (h1 pins s σ H { D with nx:=u D } I h) fun f s1 q=>?_)
 cases f with
 | next =>
  obtain⟨σ',H',I',q⟩:=q
  exact h2 pins s1 σ' H' D I' q
 | ret v=>exact q
 | brk=>exact q
 | cont=>exact q
theorem g8(h1:PS X st t):PSs X [st] t:=by
 intro pins s σ H D I h
 refine wpAny_execs_cons (m4 (h1 pins s σ H D I h) fun f s1 q=>?_)
 cases f with
 | next=>exact wpAny_execs_nil q
 | ret v=>exact q
 | brk=>exact q
 | cont=>exact q
theorem Inv.quiet{pins:List (Addr×Obj)}{σ:St}{H:Hp}{s:Shared}(I:Inv X pins σ H s):interactive X.env=false:=by simp[interactive,I.ok.kind]
def a7_(te:TE):TS:=fun D σ H=>te σ H fun _ H1=>D.nx σ H1
theorem J6(he:PE X e te)(hs:swapsWith e none pos.line X.env=pure false:=by rfl):PS X (.Expr e pos) (a7_ te):=by
 intro pins s σ H D I h
 exact wpAny_Expr_any (m4 (he pins s σ H _ I h) fun v s1 ⟨x,H1,I1,r1,q1⟩=>⟨σ,H1,I1,q1⟩) I.quiet hs
def a4w(te:TE):TS:=fun D σ H=>te σ H D.rt
theorem j5(he:PE X e te):PS X (.Return (some e) pos) (a4w te):=by
 intro pins s σ H D I h
 exact wpAny_Return_some (m4 (he pins s σ H _ I h) fun v s1 ⟨x,H1,I1,r1,q1⟩=>⟨x,σ,H1,I1,r1,q1⟩)
def b1Y:TS:=fun D _ H=>D.rt .non H
theorem b2H:PS X (.Return none pos) b1Y:=fun _ _ σ H _ I h=>wpAny_Return_none ⟨.non,σ,H,I,rfl,h⟩
def b0B(c:TT)(t u:TS):TS:=fun D σ H=>c σ H fun b H1=>if b=true then t D σ H1 else u D σ H1
theorem t4{c:Expr}{a b:List Stmt}{tc:TT}(hc:PT X c tc)(ha:PSs X a t)(hb:PSs X b u):PS X (.If c a b pos) (b0B tc t u):=by
 intro pins s σ H D I h
 refine wpAny_If (m4 (hc pins s σ H _ I h) fun d s1 ⟨H1,I1,q1⟩=>?_)
 cases d with
 | true=>exact ha pins s1 σ H1 D I1 q1
 | false=>exact hb pins s1 σ H1 D I1 q1
end
abbrev TG:=V→St→Hp→(St→Hp→Prop)→Prop
abbrev TGs:=List V→St→Hp→(St→Hp→Prop)→Prop
def PG(X:Cx)(target:Expr)(t:TG):Prop :=
 ∀(pins:List (Addr×Obj)) (s:Shared) (σ:St) (H:Hp) (v:V) (u:Value) (Q:St→Hp→Prop),Inv X pins σ H s→RelV v u→t v σ H Q →
  wpAny (model X.prog X.w) X.A (assign target X.env u) (fun _ s'=>∃σ' H',Inv X pins σ' H' s'∧Q σ' H') X.xe s
def PGs(X:Cx)(ts:List Expr)(t:TGs):Prop :=
 ∀(pins:List (Addr×Obj)) (s:Shared) (σ:St) (H:Hp) (vs:List V) (us:List Value) (Q:St→Hp→Prop),Inv X pins σ H s→Vals vs us→t vs σ H Q →
  wpAny (model X.prog X.w) X.A (assignInOrder ((assignEach ts X.env).map (·.2)) us) (fun _ s'=>∃σ' H',Inv X pins σ' H' s'∧Q σ' H') X.xe s
abbrev b0C:=V→V→V→Hp→(Hp→Prop)→Prop
def b4A(X:Cx)(t:b0C):Prop :=
 ∀(pins:List (Addr×Obj)) (s:Shared) (σ:St) (H:Hp) (o i v:V) (ov iv u:Value) (Q:Hp→Prop),Inv X pins σ H s→RelV o ov→RelV i iv→RelV v u→t o i v H Q →
  wpAny (model X.prog X.w) X.A (setItem ov iv u) (fun _ s'=>∃H',Inv X pins σ H' s'∧Q H') X.xe s
section
variable {X:Cx}{pos:Pos}
def P8(i:Nat):TG:=fun v σ H Q=>Q (σ.set i (some v)) H
theorem m5{i:Nat}{x:Str}(hN:X.N.Nodup)(hi:X.N[i]? = some x)(hx:Loc X.env.scope x)(hf:X.fn x=true∨X.env.scope.names.lookup x=some .local:=by first | exact .inl rfl | exact .inr rfl | assumption):PG X (.Name x pos) (P8 i):=by
 intro pins s σ H v u Q I r h
 exact wpAny_assign_Name (a26 I hN hi hx r (fun s' I'=>⟨_,H,I',h⟩) hf)
def a8a:TGs:=fun vs σ H Q=>vs=[]∧Q σ H
def a1o(t:TG)(u:TGs):TGs:=fun vs σ H Q=>∃v r,vs=v::r∧t v σ H fun σ' H'=>u r σ' H' Q
theorem P0:PGs X [] a8a:=by
 intro pins s σ H vs us Q I r h
 obtain⟨e,h⟩:=h
 subst e
 cases r
 exact assignInOrder_nil ⟨σ,H,I,h⟩
theorem u7{e:Expr}{es:List Expr}{t:TG}{u:TGs}(h1:PG X e t)(h2:PGs X es u)
  (hs:(assignEach (e::es) X.env).map (·.2)=assign e X.env::(assignEach es X.env).map (·.2):=by rfl):PGs X (e::es) (a1o t u):=by
 intro pins s σ H vs us Q I r h
 obtain⟨v,vr,e1,h⟩:=h
 subst e1
 cases r with
 | cons r rr =>
  rw[hs]
  refine assignInOrder_cons (m4 (h1 pins s σ H _ _ _ I r h) fun _ s1 ⟨σ1,H1,I1,q1⟩=>?_)
  exact h2 pins s1 σ1 H1 _ _ Q I1 rr q1
def a50(K:W.Frag)(n:Nat)(t:TGs):TG:=fun v σ H Q=>∃a xs,v=.ref a∧SqT K H a xs∧xs.length=n∧t xs σ H Q
theorem b4B{es:List Expr}{k:Nat}{t:TGs}{n:Nat}(hc:X.calm=true)(h:PGs X es t)
  (hn:(assignEach es X.env).length=n:=by rfl) (hst:(assignEach es X.env).findIdx? (·.1)=none:=by rfl):PG X (.Tuple es k pos) (a50 X.K n t):=by
 intro pins s σ H v u Q I r hw
 obtain⟨a,xs,e1,hq,hl,hw⟩:=hw
 subst e1
 cases r
 obtain⟨its,rv,ht,hz⟩:=I.tuple hq
 refine assign_Tuple_tuple (I.ok.hd hc) ht (by simp[hn,← hl,rv.length]) hst fun h' hx=>?_
 have I1:Inv X pins σ H { s with heap:=h' }:=I.kept (t':=s.toks) fun b o e=>hx b o (Nat.ne_of_lt (Heap.lt_size e)) e
 exact h pins _ σ H xs _ Q I1 (by simpa using rv) hw
def b0D(to ti:TE)(t:b0C):TG:=fun v σ H Q=>to σ H fun o H1=>ti σ H1 fun i H2=>t o i v H2 fun H3=>Q σ H3
theorem a09{o i:Expr}{to ti:TE}{t:b0C}(ho:PE X o to)(hi:PE X i ti)(hs:b4A X t)
  (ha:∀v,assign (.Subscript o i pos) X.env v=(do
   let ov ← holding [v] (eval o X.env)
   let iv ← holding [v,ov] (eval i X.env)
   standAt pos
   holding [v,ov,iv] (setItem ov iv v)
   release [v,ov,iv] []):=by intro _;rfl):PG X (.Subscript o i pos) (b0D to ti t):=by
 intro pins s σ H v u Q I r h
 rw[ha]
 refine wpAny_bind (wpAny_holding (m4 (ho pins s σ H _ I h) fun ov s1 ⟨x,H1,I1,r1,q1⟩=>?_))
 refine wpAny_bind (wpAny_holding (m4 (hi pins s1 σ H1 _ I1 q1) fun iv s2 ⟨y,H2,I2,r2,q2⟩=>?_))
 refine wpAny_bind (wpAny_standAt (wpAny_bind (wpAny_holding (m4 (hs pins s2 σ H2 x y v ov iv u _ I2 r1 r2 r q2) fun _ s3 ⟨H3,I3,q3⟩=>?_))))
 exact wpAny_release ⟨σ,H3,I3,q3⟩
def X1(te:TE)(g:TG):TS:=fun D σ H=>te σ H fun x H1=>g x σ H1 D.nx
theorem M8{tg e:Expr}{te:TE}{g:TG}(he:PE X e te)(hg:PG X tg g)(hs:swapsWithSole [tg] e pos.line X.env=pure false:=by rfl)(hw:swappedStores [tg] e X.env=pure none:=by rfl)
  (h1:(assignEach [tg] X.env).map (·.2)=[assign tg X.env]:=by rfl):PS X (.Assign [tg] e pos) (X1 te g):=by
 intro pins s σ H D I h
 refine wpAny_Assign_stores (m4 (he pins s σ H _ I h) fun v s1 ⟨x,H1,I1,r1,q1⟩=>?_) hs hw
 rw[h1]
 exact m4 (hg pins s1 σ H1 x v _ I1 r1 q1) fun _ s2 q=>q
theorem k7{i:Nat}{x:Str}{e:Expr}{te:TE}{pos':Pos}(hN:X.N.Nodup)(hi:X.N[i]? = some x)(hx:Loc X.env.scope x)(he:PE X e te)(hs:swapsWith e (some (.Name x pos')) pos.line X.env=pure false:=by rfl)(hf:X.fn x=true∨X.env.scope.names.lookup x=some .local:=by first | exact .inl rfl | exact .inr rfl | assumption) :
  PS X (.Assign [.Name x pos'] e pos) (X1 te (P8 i)):=by
 intro pins s σ H D I h
 refine wpAny_Assign_Name (m4 (he pins s σ H _ I h) fun v s1 ⟨y,H1,I1,r1,q1⟩=>?_) hs
 exact a26 I1 hN hi hx r1 (fun s2 I2=>⟨_,H1,I2,q1⟩) hf
end
section
variable {X:Cx}{pos:Pos}
def a9b(c:TT)(tb:TS):TS:=fun D σ H=>∃W:Nat→St→Hp→Prop,(∃m,W m σ H)∧∀m σ H,W m σ H →
 c σ H fun b H1=>if b=true then ∃N:St→Hp→Prop,(∀σ' H',N σ' H'→∃m',m'<m∧W m' σ' H')∧tb { D with nx:=N,ct:=N,bk:=D.nx } σ H1 else D.nx σ H1
theorem a51{c:Expr}{body:List Stmt}{tc:TT}{tb:TS}(hp:PassesOwn (model X.prog X.w) X.A X.env X.xe)(hc:PT X c tc)(hb:PSs X body tb):PS X (.While c body [] pos) (a9b tc tb):=by
 intro pins s σ H D I h
 obtain⟨W,⟨m0,w0⟩,turn⟩:=h
 refine wpAny_While (codeAny_whileLoop (fun n s'=>∃σ' H',Inv X pins σ' H' s'∧W n σ' H') ?_ m0 ⟨σ,H,I,w0⟩)
 rintro n s1 ⟨σ1,H1,I1,w1⟩
 refine wpAny_passesOwn hp (m4 (hc pins s1 σ1 H1 _ I1 (turn n σ1 H1 w1)) fun b s2 ⟨H2,I2,q2⟩=>?_)
 cases b with
 | true =>
  obtain⟨N,hN,q2⟩:=q2
  rw[if_pos rfl]
  refine wpAny_passesOwn hp (m4 (hb pins s2 σ1 H2 _ I2 q2) fun f s3 q3=>?_)
  cases f with
  | next =>
   obtain⟨σ3,H3,I3,n3⟩:=q3
   obtain⟨m',hm,w3⟩:=hN σ3 H3 n3
   exact⟨m',hm,σ3,H3,I3,w3⟩
  | cont =>
   obtain⟨σ3,H3,I3,n3⟩:=q3
   obtain⟨m',hm,w3⟩:=hN σ3 H3 n3
   exact⟨m',hm,σ3,H3,I3,w3⟩
  | brk=>exact q3
  | ret v=>exact q3
 | false =>
  rw[if_neg Bool.false_ne_true]
  exact wpAny_execs_nil ⟨σ1,H2,I2,q2⟩
end
structure It where
 go:Nat→Hp→Prop
 yld:Nat→Hp→V→Hp→Prop
 stop:Nat→Hp→Prop
def FpOk(X:Cx)(pins:List (Addr×Obj))(H:Hp)(b:Addr):Prop :=
 H b=none∧b≠X.env.locals∧b ∉ X.fs∧(b∈X.ex∨X.s₀.heap.objs.size≤b)∧(∀x c,X.env.cells.lookup x=some c→c≠b)∧∀p∈X.pn++pins,p.1≠b
theorem Inv.fpOk{X:Cx}{pins:List (Addr×Obj)}{σ:St}{H H':Hp}{s:Shared}{b:Addr}(I:Inv X pins σ H s)(hb:s.heap.objs.size≤b)(hn:H' b=none):FpOk X pins H' b:=by
 refine⟨hn,Nat.ne_of_gt (Nat.lt_of_lt_of_le I.lt hb),I.nofs hb,.inr (Nat.le_trans I.sz hb),fun x c e z=>?_,fun p hp z=>?_⟩
 ·obtain⟨v,q⟩:=I.cell x c e
  exact absurd (Nat.lt_of_lt_of_le q.lt (by rw[z];exact hb)) (Nat.lt_irrefl _)
 ·exact absurd (Nat.lt_of_lt_of_le (Heap.lt_size (I.pin p hp).1) (by rw[z];exact hb)) (Nat.lt_irrefl _)
structure Turn(P:Program)(w:World)(K:W.Frag)(tg:Expr)(J:It)(fp:List Addr)(it:Addr)(tn:Nat→Heap→Prop):Prop where
 mem:it∈fp
 obj:∀i h,tn i h→∀b∈fp,∃o,h.get? b=some o∧∀v,o.data≠.cell v
 keep:∀i h h',tn i h→(∀b∈fp,∀o,h.get? b=some o→h'.get? b=some o)→tn i h'
 item:∀(X:Cx),X.prog=P→X.w=w→X.K=K→X.calm=true→∀(i:Nat) (pins:List (Addr×Obj)) (s:Shared) (σ:St) (H:Hp) (E:Value→Shared→Prop),Inv X pins σ H s→(∀b∈fp,FpOk X pins H b)→tn i s.heap→J.go i H →
  wpAny (model P w) X.A (pyNext (.ref it)) (fun r s1=>∃u,r=some u ∧
   wpAny (model P w) X.A (letOwnedTupleGo tg (.ref it) u) (fun _ s2=>∃x H',Inv X pins σ H' s2∧RelV x u∧J.yld i H x H'∧tn (i+1) s2.heap∧∀b∈fp,H' b=none) E s1) E s
 done:∀(X:Cx),X.prog=P→X.w=w→X.K=K→X.calm=true→∀(i:Nat) (pins:List (Addr×Obj)) (s:Shared) (σ:St) (H:Hp) (E:Value→Shared→Prop),Inv X pins σ H s→(∀b∈fp,FpOk X pins H b)→tn i s.heap→J.stop i H →
  wpAny (model P w) X.A (pyNext (.ref it)) (fun r s1=>r=none∧Inv X pins σ H s1) E s
 self:∀(A:Around) (i:Nat) (s:Shared) (Q:Value→Shared→Prop) (E:Value→Shared→Prop),tn i s.heap→Q (.ref it) s→wpAny (model P w) A (pyIter (.ref it)) Q E s
abbrev TI:=St→Hp→(It→Hp→Prop)→Prop
def PIE(X:Cx)(pins:List (Addr×Obj))(σ:St)(tg:Expr)(R:It→Hp→Prop)(itv:Value)(s2:Shared):Prop :=
 ∃(it:Addr) (fp:List Addr) (tn:Nat→Heap→Prop) (J:It) (H':Hp),itv=.ref it∧Inv X pins σ H' s2∧Turn X.prog X.w X.K tg J fp it tn∧tn 0 s2.heap∧(∀b∈fp,FpOk X pins H' b)∧R J H'
def PI(X:Cx)(tg iter:Expr)(wi:TI):Prop :=
 ∀(pins:List (Addr×Obj)) (s:Shared) (σ:St) (H:Hp) (R:It→Hp→Prop),Inv X pins σ H s→wi σ H R →
  wpAny (model X.prog X.w) X.A (eval iter X.env) (fun v s1=>wpAny (model X.prog X.w) X.A (pyIter v) (PIE X pins σ tg R) X.xe s1) X.xe s
theorem a8b{M:Model}{A:Around}{E:Value→Shared→Prop}{s:Shared}{tg:Expr}{it:Addr}{u:Value}{o:Obj}{n:String}{vs:Array Value}{Q:Unit→Shared→Prop}(ho:s.heap.get? it=some o)(hc:o.cls=.type n)(hd:o.data=.fields vs)
  (hn:["enumerate","zip","dict_itemiterator","dict_reverseitemiterator","odict_iterator","itertools.zip_longest","itertools.pairwise"].contains n=false) (hQ:Q () s):wpAny M A (letOwnedTupleGo tg (.ref it) u) Q E s:=by
 unfold letOwnedTupleGo
 cases tg<;>first
  | exact wpAny_pure hQ
  | (cases u<;>first
    | exact wpAny_pure hQ
    | (refine wpAny_bind (wpAny_load ho ?_)
       rw[hc,hd]
       show wpAny M A (if(["enumerate","zip","dict_itemiterator","dict_reverseitemiterator","odict_iterator","itertools.zip_longest","itertools.pairwise"].contains n && vs[0]? == some (rawInt _))=true then _ else _) Q E s
       rw[if_neg (by intro h;rw[hn,Bool.false_and]at h;cases h)]
       exact wpAny_pure hQ))
def Itl(K:W.Frag)(a:Addr):It :=
 ⟨fun i H=>∃xs x,SqL K H a xs∧xs[i]? = some x,fun i H x H'=>H'=H∧∀xs,SqL K H a xs→xs[i]? = some x,fun i H=>∃xs,SqL K H a xs∧xs.length≤i⟩
def Itt(K:W.Frag)(a:Addr):It :=
 ⟨fun i H=>∃xs x,SqT K H a xs∧xs[i]? = some x,fun i H x H'=>H'=H∧∀xs,SqT K H a xs→xs[i]? = some x,fun i H=>∃xs,SqT K H a xs∧xs.length≤i⟩
def Itr(lo:Int)(n:Nat):It:=⟨fun i _=>i<n,fun i H x H'=>H'=H∧x=.int (lo+i),fun i _=>n≤i⟩
theorem a9c{P:Program}{w:World}{K:W.Frag}{tg:Expr}(a it:Addr):Turn P w K tg (Itl K a) [it] it (fun i h=>h.IsListIter it a i) where
 mem:=by simp
 obj:=fun i h st b hb=>by
  have e:b=it:=by simpa using hb
  subst e
  obtain⟨o,e,c,d⟩:=st
  exact⟨o,e,fun v z=>by rw[d]at z;cases z⟩
 keep:=fun i h h' st k=>st.at fun o e=>k it (by simp) o e
 item:=by
  intro X hP hw hK hc i pins s σ H E I hf st hg
  subst hP hw hK
  obtain⟨xs,x,hq,hx⟩:=hg
  obtain⟨its,rv,p,hz⟩:=I.list hq
  obtain⟨u,hu,ru⟩:=rv.get hx
  obtain⟨f0,f1,f2,f3,f4,f5⟩:=hf it (by simp)
  refine wpAny_pyNext_list_item st p.isList (x:=u) (by simpa using hu) fun h' st' sb=>?_
  have I1:Inv X pins σ H { s with heap:=h' }:=I.turned (t':=s.toks) (fun b o hb e=>(sb.2 b hb).trans e) f0 f1 f3 f4 f5
  obtain⟨o,e,c,d⟩:=id st'
  exact⟨u,rfl,a8b (s:={ s with heap:=h' }) e c d (by decide) ⟨x,H,I1,ru,⟨rfl,fun ys hy=>by rw[I.list_inj hy hq];exact hx⟩,st',fun b hb=>(hf b hb).1⟩⟩
 done:=by
  intro X hP hw hK hc i pins s σ H E I hf st hg
  subst hP hw hK
  obtain⟨xs,hq,hx⟩:=hg
  obtain⟨its,rv,p,hz⟩:=I.list hq
  obtain⟨f0,f1,f2,f3,f4,f5⟩:=hf it (by simp)
  have hl:=rv.length
  exact wpAny_pyNext_list_end (I.ok.hd hc) st p.isList (by simp;omega) fun h' eb=>⟨rfl,I.turned (t':=s.toks) (fun b o hb e=>eb b o hb e) f0 f1 f3 f4 f5⟩
 self:=fun _ _ _ _ _ st h=>wpAny_pyIter_listiter st h
theorem a8c{P:Program}{w:World}{K:W.Frag}{tg:Expr}(a it:Addr):Turn P w K tg (Itt K a) [it] it (fun i h=>h.IsTupleIter it a i) where
 mem:=by simp
 obj:=fun i h st b hb=>by
  have e:b=it:=by simpa using hb
  subst e
  obtain⟨o,e,c,d⟩:=st
  exact⟨o,e,fun v z=>by rw[d]at z;cases z⟩
 keep:=fun i h h' st k=>st.at fun o e=>k it (by simp) o e
 item:=by
  intro X hP hw hK hc i pins s σ H E I hf st hg
  subst hP hw hK
  obtain⟨xs,x,hq,hx⟩:=hg
  obtain⟨its,rv,p,hz⟩:=I.tuple hq
  obtain⟨u,hu,ru⟩:=rv.get hx
  obtain⟨f0,f1,f2,f3,f4,f5⟩:=hf it (by simp)
  refine wpAny_pyNext_tuple_item st (show s.heap.IsTuple a its.toArray from p) (x:=u) (by simpa using hu) fun h' st' sb=>?_
  have I1:Inv X pins σ H { s with heap:=h' }:=I.turned (t':=s.toks) (fun b o hb e=>(sb.2 b hb).trans e) f0 f1 f3 f4 f5
  obtain⟨o,e,c,d⟩:=id st'
  exact⟨u,rfl,a8b (s:={ s with heap:=h' }) e c d (by decide) ⟨x,H,I1,ru,⟨rfl,fun ys hy=>by rw[I.tuple_inj hy hq];exact hx⟩,st',fun b hb=>(hf b hb).1⟩⟩
 done:=by
  intro X hP hw hK hc i pins s σ H E I hf st hg
  subst hP hw hK
  obtain⟨xs,hq,hx⟩:=hg
  obtain⟨its,rv,p,hz⟩:=I.tuple hq
  obtain⟨f0,f1,f2,f3,f4,f5⟩:=hf it (by simp)
  have hl:=rv.length
  exact wpAny_pyNext_tuple_end (I.ok.hd hc) st (show s.heap.IsTuple a its.toArray from p) (by simp;omega) fun h' eb=>⟨rfl,I.turned (t':=s.toks) (fun b o hb e=>eb b o hb e) f0 f1 f3 f4 f5⟩
 self:=fun _ _ _ _ _ st h=>wpAny_pyIter_tupleiter st h
theorem a8d{P:Program}{w:World}{K:PySem.W.Frag}{tg:Expr}(it:Addr)(lo:Int)(n:Nat):Turn P w K tg (Itr lo n) [it] it (fun i h=>IsRangeIter h it (lo+(i:Nat)*1) ((n:Int)-(i:Nat)) 1) where
 mem:=by simp
 obj:=fun i h st b hb=>by
  have e:b=it:=by simpa using hb
  subst e
  exact⟨_,st,fun v z=>by
   have z':Data.fields _=Data.cell v:=z
   cases z'⟩
 keep:=fun i h h' st k=>k it (by simp) _ st
 item:=by
  intro X hP hw hK hc i pins s σ H E I hf st hg
  subst hP hw hK
  obtain⟨f0,f1,f2,f3,f4,f5⟩:=hf it (by simp)
  have W:=Walks.range (prog:=X.prog) (w:=X.w) (I.ok.hd hc) it lo 1 n
  refine W.item i s _ _ hg st fun v h' tk hv st' kk=>?_
  obtain⟨t,rfl⟩:=hv
  have I1:Inv X pins σ H { s with heap:=h',toks:=tk }:=I.turned (fun b o hb e=>kk b o (by simpa using hb) e) f0 f1 f3 f4 f5
  refine⟨_,rfl,a8b (s:={ s with heap:=h',toks:=tk }) (n := "range_iterator") st' rfl rfl (by decide) ⟨.int (lo+i),H,I1,⟨t,?_⟩,⟨rfl,rfl⟩,st',fun b hb=>(hf b hb).1⟩⟩
  rw[Int.mul_one]
 done:=by
  intro X hP hw hK hc i pins s σ H E I hf st hg
  subst hP hw hK
  obtain⟨f0,f1,f2,f3,f4,f5⟩:=hf it (by simp)
  exact wpAny_pyNext_range_end (I.ok.hd hc) st (by have:n≤i:=hg;omega) fun h' eb=>⟨rfl,I.turned (t':=s.toks) (fun b o hb e=>eb b o hb e) f0 f1 f3 f4 f5⟩
 self:=fun _ _ _ _ _ st h=>wpAny_pyIter_rangeiter st h
section
variable {X:Cx}{tg:Expr}
def a3x(K:W.Frag)(tl:TE):TI:=fun σ H R=>tl σ H fun x H1=>∃a,x=.ref a∧(∃xs,SqL K H1 a xs)∧R (Itl K a) H1
def b4C(K:W.Frag)(tl:TE):TI:=fun σ H R=>tl σ H fun x H1=>∃a,x=.ref a∧(∃xs,SqT K H1 a xs)∧R (Itt K a) H1
theorem U7{l:Expr}{tl:TE}(hl:PE X l tl):PI X tg l (a3x X.K tl):=by
 intro pins s σ H R I h
 refine m4 (hl pins s σ H _ I h) fun v s1 ⟨x,H1,I1,r1,q1⟩=>?_
 obtain⟨a,e,⟨xs,hq⟩,q⟩:=q1
 subst e
 cases r1
 obtain⟨its,rv,p,hz⟩:=I1.list hq
 refine wpAny_pyIter_list p.isList ?_
 refine⟨s1.heap.objs.size,[s1.heap.objs.size],_,_,H1,rfl,I1.kept (t':=s1.toks) fun b o e=>Heap.get?_push_of_some _ e,a9c a _,⟨_,Heap.get?_push_size _ rfl,rfl,rfl⟩,fun b hb=>?_,q⟩
 have e:b=s1.heap.objs.size:=by simpa using hb
 subst e
 exact I1.fpOk (Nat.le_refl _) (I1.hok.fresh (Nat.le_refl _))
theorem b4D{l:Expr}{tl:TE}(hl:PE X l tl):PI X tg l (b4C X.K tl):=by
 intro pins s σ H R I h
 refine m4 (hl pins s σ H _ I h) fun v s1 ⟨x,H1,I1,r1,q1⟩=>?_
 obtain⟨a,e,⟨xs,hq⟩,q⟩:=q1
 subst e
 cases r1
 obtain⟨its,rv,p,hz⟩:=I1.tuple hq
 refine wpAny_pyIter_tuple (show s1.heap.IsTuple a its.toArray from p) ?_
 refine⟨s1.heap.objs.size,[s1.heap.objs.size],_,_,H1,rfl,I1.kept (t':=s1.toks) fun b o e=>Heap.get?_push_of_some _ e,a8c a _,⟨_,Heap.get?_push_size _ rfl,rfl,rfl⟩,fun b hb=>?_,q⟩
 have e:b=s1.heap.objs.size:=by simpa using hb
 subst e
 exact I1.fpOk (Nat.le_refl _) (I1.hok.fresh (Nat.le_refl _))
theorem b0E{pins:List (Addr×Obj)}{σ:St}{H:Hp}{s:Shared}{R:It→Hp→Prop}{E:Value→Shared→Prop}{lo hi:Int}{t u v:Tok}{tk:Nat}(I:Inv X pins σ H s)(h1 : -(2 ^ 62)≤lo)(h2:lo<2 ^ 62)(h3 : -(2 ^ 62)≤hi)(h4:hi<2 ^ 62)
  (q:R (Itr lo (hi-lo).toNat) H):wpAny (model X.prog X.w) X.A (pyIter (.ref s.heap.objs.size)) (PIE X pins σ tg R) E { s with heap:=s.heap.push { cls:=.type "range",data:=.fields #[.int lo t,.int hi u,.int 1 v] },toks:=tk }:=by
 refine wpAny_pyIter_range (IsRange.new ..) (small_one h1 h2 h3 h4) ?_
 have I1:Inv X pins σ H { s with heap:=s.heap.push { cls:=.type "range",data:=.fields #[.int lo t,.int hi u,.int 1 v] },toks:=tk }:=I.kept fun b o e=>Heap.get?_push_of_some _ e
 refine⟨(s.heap.push { cls:=.type "range",data:=.fields #[.int lo t,.int hi u,.int 1 v] }).objs.size,[(s.heap.push { cls:=.type "range",data:=.fields #[.int lo t,.int hi u,.int 1 v] }).objs.size],_,_,H,rfl,
  I1.kept (t':=tk) fun b o e=>Heap.get?_push_of_some _ e,a8d _ lo (hi-lo).toNat,?_,fun b hb=>?_,q⟩
 ·have e1:lo+((0:Nat):Int)*1=lo:=by simp
  have e2:(((hi-lo).toNat:Nat):Int)-((0:Nat):Int)=Builtin.Range.rangeSize lo hi 1:=by rw[rangeSize_one];split<;>omega
  show IsRangeIter _ _ (lo+((0:Nat):Int)*1) ((((hi-lo).toNat:Nat):Int)-((0:Nat):Int)) 1
  rw[e1,e2]
  exact Heap.get?_push_size _ rfl
 ·have e:b=(s.heap.push { cls:=.type "range",data:=.fields #[.int lo t,.int hi u,.int 1 v] }).objs.size:=by simpa using hb
  subst e
  exact I1.fpOk (Nat.le_refl _) (I1.hok.fresh (Nat.le_refl _))
def b1Z(ta:TA):TI:=fun σ H R=>ta σ H fun vs H1=>∃j:Int,vs=[.int j]∧-(2 ^ 62)≤j∧j<2 ^ 62∧R (Itr 0 j.toNat) H1
theorem Z5{a:Expr}{ta:TA}{p pos:Pos}(hg:Gl X "range")(hm:X.mg "range" = none)(ha:PA X [a] ta)(hs:starEach [a] X.env=[(false,eval a X.env)]:=by rfl):PI X tg (.Call (.Name "range" p) [a] [] pos) (b1Z ta):=by
 intro pins s σ H R I h
 refine Call_ (a12 I hg hm boot_range (PyProof.Rows.callWith_type1 (m4 (ha pos pins s σ H _ I h) fun us s1 ⟨vs,H1,I1,r1,q1⟩=>?_) hs rfl))
 obtain⟨j,e,q1,q2,q⟩:=q1
 subst e
 cases r1 with
 | cons r rr =>
  cases rr
  obtain⟨t,rfl⟩:=r
  exact call_range_1 (b0E I1 (by omega) (by omega) q1 q2 (by simpa using q))
def a52(wi:TI)(g:TG)(tb:TS):TS:=fun D σ H=>wi σ H fun J H1=>∃W:Nat→Nat→St→Hp→Prop,(∃m,W 0 m σ H1)∧∀i m σ H,W i m σ H →
 (J.stop i H∧D.nx σ H)∨(J.go i H∧∃N:St→Hp→Prop,(∀σ' H',N σ' H'→∃m',m'<m∧W (i+1) m' σ' H')∧∀x H',J.yld i H x H'→g x σ H' fun σ2 H2=>tb { D with nx:=N,ct:=N,bk:=D.nx } σ2 H2)
def a17(fp:List Addr)(h:Heap):List (Addr×Obj):=fp.filterMap fun b=>(h.get? b).map fun o=>(b,o)
theorem a0f{fp:List Addr}{h:Heap}{b:Addr}{o:Obj}(hb:b∈fp)(e:h.get? b=some o):(b,o)∈a17 fp h:=List.mem_filterMap.mpr ⟨b,hb,by rw[e];rfl⟩
theorem a9d{fp:List Addr}{h:Heap}{p:Addr×Obj}(hp:p∈a17 fp h):p.1∈fp∧h.get? p.1=some p.2:=by
 obtain⟨b,hb,e⟩:=List.mem_filterMap.mp hp
 cases q:h.get? b with
 | none=>rw[q]at e;cases e
 | some o =>
  rw[q]at e
  have e':(b,o)=p:=Option.some.inj e
  subst e'
  exact⟨hb,q⟩
theorem Inv.pinned{pins:List (Addr×Obj)}{σ:St}{H:Hp}{s:Shared}{fp:List Addr}(I:Inv X pins σ H s)(hf:∀b∈fp,FpOk X pins H b)(ho:∀b∈fp,∃o,s.heap.get? b=some o∧∀v,o.data≠.cell v):Inv X (pins++a17 fp s.heap) σ H s :=
 I.pins_of fun p hp=>(List.mem_append.mp hp).elim (fun z=>I.pin p (List.mem_append_right _ z)) fun z=>by
  obtain⟨hb,e⟩:=a9d z
  obtain⟨f0,f1,f2,_⟩:=hf p.1 hb
  obtain⟨o,e',d⟩:=ho p.1 hb
  rw[e]at e';cases e'
  exact⟨e,f0,f1,f2,d⟩
theorem Inv.unpinned{pins pl:List (Addr×Obj)}{σ:St}{H:Hp}{s:Shared}(I:Inv X (pins++pl) σ H s):Inv X pins σ H s:=I.pins_of fun p hp=>I.pin p (List.mem_append_right _ (List.mem_append_left _ hp))
theorem Q0{iter:Expr}{body:List Stmt}{wi:TI}{g:TG}{tb:TS}{pos:Pos}(hp:PassesOwn (model X.prog X.w) X.A X.env X.xe)(hc:X.calm=true)(hi:PI X tg iter wi)(hg:PG X tg g)(hb:PSs X body tb)
  (hs:∀x,foldedSetIterable iter X.env x=pure x:=by intro _;rfl):PS X (.For tg iter body [] pos) (a52 wi g tb):=by
 intro pins s σ H D I h
 refine wpAny_For (m4 (hi pins s σ H _ I h) fun v s1 h1=>m4 h1 fun itv s2 h2=>?_) hs
 obtain⟨it,fp,tn,J,H2,e,I2,T,st2,f2,W,⟨m0,w0⟩,turn⟩:=h2
 subst e
 -- what stays true of the iterator's objects through the loop
 have stat:∀{H':Hp},(∀b∈fp,H' b=none)→∀b∈fp,FpOk X pins H' b:=fun hn b hb=>⟨hn b hb,(f2 b hb).2⟩
 refine codeAny_forLoop_any (fun n s'=>∃i σ' H',Inv X pins σ' H' s'∧tn i s'.heap∧(∀b∈fp,H' b=none)∧W i n σ' H') ?_ m0 ⟨0,σ,H2,I2,st2,fun b hb=>(f2 b hb).1,w0⟩
 rintro n s3 ⟨i,σ3,H3,I3,st3,fr3,w3⟩
 rcases turn i n σ3 H3 w3 with⟨stop,qn⟩ | ⟨go,N,hN,step⟩
 ·refine wpAny_passesOwn hp (m4 (T.done X rfl rfl rfl hc i pins s3 σ3 H3 X.xe I3 (stat fr3) st3 stop) fun r s4 ⟨hr,I4⟩=>?_)
  subst hr
  exact wpAny_execs_nil ⟨σ3,H3,I4,qn⟩
 ·refine wpAny_passesOwn hp (m4 (T.item X rfl rfl rfl hc i pins s3 σ3 H3 X.xe I3 (stat fr3) st3 go) fun r s4 ⟨u,hr,h4⟩=>?_)
  subst hr
  refine wpAny_passesOwn hp (m4 h4 fun _ s5 ⟨x,H5,I5,r5,y5,st5,fr5⟩=>?_)
  have I5':=I5.pinned (stat fr5) (T.obj _ _ st5)
  refine wpAny_passesOwn hp (m4 (hg _ s5 σ3 H5 x u _ I5' r5 (step x H5 y5)) fun _ s6 ⟨σ6,H6,I6,q6⟩=>?_)
  refine wpAny_passesOwn hp (m4 (hb _ s6 σ6 H6 _ I6 q6) fun f s7 q7=>?_)
  have again:∀{σ7:St} {H7:Hp},Inv X (pins++a17 fp s5.heap) σ7 H7 s7→N σ7 H7→∃m,m<n∧∃i σ' H',Inv X pins σ' H' s7∧tn i s7.heap∧(∀b∈fp,H' b=none)∧W i m σ' H':=fun{σ7 H7} I7 n7=>by
   obtain⟨m',hm,w7⟩:=hN σ7 H7 n7
   refine⟨m',hm,i+1,σ7,H7,I7.unpinned,T.keep _ _ _ st5 fun b hb o e=>(I7.pin (b,o) (List.mem_append_right _ (List.mem_append_right _ (a0f hb e)))).1,fun b hb=>?_,w7⟩
   obtain⟨o,e,d⟩:=T.obj _ _ st5 b hb
   exact(I7.pin (b,o) (List.mem_append_right _ (List.mem_append_right _ (a0f hb e)))).2.1
  cases f with
  | next=>obtain⟨σ7,H7,I7,n7⟩:=q7;exact again I7 n7
  | cont=>obtain⟨σ7,H7,I7,n7⟩:=q7;exact again I7 n7
  | brk=>obtain⟨σ7,H7,I7,q7⟩:=q7;exact⟨σ7,H7,I7.unpinned,q7⟩
  | ret v=>obtain⟨x7,σ7,H7,I7,r7,q7⟩:=q7;exact⟨x7,σ7,H7,I7.unpinned,r7,q7⟩
end
theorem b0F{K:PySem.W.Frag}{a:Addr}{xs:List V}{g:TG}{tb:TS}{D:Ends}{σ:St}{H:Hp}(Pv:Nat→St→Hp→Prop)(h0:Pv 0 σ H)(hl:∀i σ H,i≤xs.length→Pv i σ H→SqL K H a xs)
  (hs:∀i x σ H,xs[i]? = some x→Pv i σ H→g x σ H fun σ2 H2=>tb { D with nx:=Pv (i+1),ct:=Pv (i+1),bk:=D.nx } σ2 H2) (hd:∀σ H,Pv xs.length σ H→D.nx σ H) :
  ∃W:Nat→Nat→St→Hp→Prop,(∃m,W 0 m σ H)∧∀i m σ H,W i m σ H →
   ((Itl K a).stop i H∧D.nx σ H)∨((Itl K a).go i H∧∃N:St→Hp→Prop,(∀σ' H',N σ' H'→∃m',m'<m∧W (i+1) m' σ' H')∧∀x H',(Itl K a).yld i H x H'→g x σ H' fun σ2 H2=>tb { D with nx:=N,ct:=N,bk:=D.nx } σ2 H2):=by
 refine⟨fun i m σ H=>m=xs.length-i∧i≤xs.length∧Pv i σ H,⟨xs.length,by simp,Nat.zero_le _,h0⟩,?_⟩
 rintro i m σ H ⟨rfl,hi,p⟩
 have q:=hl i σ H hi p
 by_cases hlt:i<xs.length
 ·refine .inr ⟨⟨xs,xs[i],q,by simp[hlt]⟩,Pv (i+1),fun σ' H' p'=>⟨xs.length-(i+1),by omega,rfl,hlt,p'⟩,fun x H' y=>?_⟩
  obtain⟨e,y⟩:=y
  subst e
  exact hs i x σ _ (y xs q) p
 ·have e:i=xs.length:=by omega
  subst e
  exact .inl ⟨⟨xs,q,Nat.le_refl _⟩,hd σ H p⟩
theorem b2I{K:PySem.W.Frag}{a:Addr}{xs:List V}{g:TG}{tb:TS}{D:Ends}{σ:St}{H:Hp}(Pv:Nat→St→Hp→Prop)(h0:Pv 0 σ H)(hl:∀i σ H,i≤xs.length→Pv i σ H→SqT K H a xs)
  (hs:∀i x σ H,xs[i]? = some x→Pv i σ H→g x σ H fun σ2 H2=>tb { D with nx:=Pv (i+1),ct:=Pv (i+1),bk:=D.nx } σ2 H2) (hd:∀σ H,Pv xs.length σ H→D.nx σ H) :
  ∃W:Nat→Nat→St→Hp→Prop,(∃m,W 0 m σ H)∧∀i m σ H,W i m σ H →
   ((Itt K a).stop i H∧D.nx σ H)∨((Itt K a).go i H∧∃N:St→Hp→Prop,(∀σ' H',N σ' H'→∃m',m'<m∧W (i+1) m' σ' H')∧∀x H',(Itt K a).yld i H x H'→g x σ H' fun σ2 H2=>tb { D with nx:=N,ct:=N,bk:=D.nx } σ2 H2):=by
 refine⟨fun i m σ H=>m=xs.length-i∧i≤xs.length∧Pv i σ H,⟨xs.length,by simp,Nat.zero_le _,h0⟩,?_⟩
 rintro i m σ H ⟨rfl,hi,p⟩
 have q:=hl i σ H hi p
 by_cases hlt:i<xs.length
 ·refine .inr ⟨⟨xs,xs[i],q,by simp[hlt]⟩,Pv (i+1),fun σ' H' p'=>⟨xs.length-(i+1),by omega,rfl,hlt,p'⟩,fun x H' y=>?_⟩
  obtain⟨e,y⟩:=y
  subst e
  exact hs i x σ _ (y xs q) p
 ·have e:i=xs.length:=by omega
  subst e
  exact .inl ⟨⟨xs,q,Nat.le_refl _⟩,hd σ H p⟩
theorem a9e{lo:Int}{n:Nat}{g:TG}{tb:TS}{D:Ends}{σ:St}{H:Hp}(Pv:Nat→St→Hp→Prop)(h0:Pv 0 σ H)
  (hs:∀i σ H,i<n→Pv i σ H→g (.int (lo+i)) σ H fun σ2 H2=>tb { D with nx:=Pv (i+1),ct:=Pv (i+1),bk:=D.nx } σ2 H2) (hd:∀σ H,Pv n σ H→D.nx σ H) :
  ∃W:Nat→Nat→St→Hp→Prop,(∃m,W 0 m σ H)∧∀i m σ H,W i m σ H →
   ((Itr lo n).stop i H∧D.nx σ H)∨((Itr lo n).go i H∧∃N:St→Hp→Prop,(∀σ' H',N σ' H'→∃m',m'<m∧W (i+1) m' σ' H')∧∀x H',(Itr lo n).yld i H x H'→g x σ H' fun σ2 H2=>tb { D with nx:=N,ct:=N,bk:=D.nx } σ2 H2):=by
 refine⟨fun i m σ H=>m=n-i∧i≤n∧Pv i σ H,⟨n,by simp,Nat.zero_le _,h0⟩,?_⟩
 rintro i m σ H ⟨rfl,hi,p⟩
 by_cases hlt:i<n
 ·refine .inr ⟨hlt,Pv (i+1),fun σ' H' p'=>⟨n-(i+1),by omega,rfl,hlt,p'⟩,fun x H' y=>?_⟩
  obtain⟨e,y⟩:=y
  subst e y
  exact hs i σ _ hlt p
 ·have e:i=n:=by omega
  subst e
  exact .inl ⟨Nat.le_refl _,hd σ H p⟩
abbrev R2:=V→V→Hp→VK→Prop
def G7(X:Cx)(f:Value→Value→Sem Value)(r:R2):Prop :=
 ∀(pins:List (Addr×Obj)) (s:Shared) (σ:St) (H:Hp) (x y:V) (v u:Value) (Q:VK),Inv X pins σ H s→RelV x v→RelV y u→r x y H Q →
  wpAny (model X.prog X.w) X.A (f v u) (EP X pins σ Q) X.xe s
def UnR(X:Cx)(f:Value→Sem Value)(r:V→Hp→VK→Prop):Prop :=
 ∀(pins:List (Addr×Obj)) (s:Shared) (σ:St) (H:Hp) (x:V) (v:Value) (Q:VK),Inv X pins σ H s→RelV x v→r x H Q →
  wpAny (model X.prog X.w) X.A (f v) (EP X pins σ Q) X.xe s
def T7(X:Cx)(f:Value)(r:List V→Hp→VK→Prop):Prop :=
 ∀(pins:List (Addr×Obj)) (s:Shared) (σ:St) (H:Hp) (xs:List V) (us:List Value) (Q:VK),Inv X pins σ H s→Vals xs us→r xs H Q →
  wpAny (model X.prog X.w) X.A (call f us) (EP X pins σ Q) X.xe s
def tOp(r:R2)(ta tb:TE):TE:=fun σ H Q=>ta σ H fun x H1=>tb σ H1 fun y H2=>r x y H2 Q
def tUn(r:V→Hp→VK→Prop)(ta:TE):TE:=fun σ H Q=>ta σ H fun x H1=>r x H1 Q
def rI(C:Int→Int→Prop)(g:Int→Int→V):R2:=fun x y H Q=>∃i j,x=.int i∧y=.int j∧C i j∧Q (g i j) H
def rI0(g:Int→Int→V):R2:=fun x y H Q=>∃i j,x=.int i∧y=.int j∧Q (g i j) H
def rU(g:Int→V):V→Hp→VK→Prop:=fun x H Q=>∃i,x=.int i∧Q (g i) H
section
variable {X:Cx}{a b c:Expr}{ta tb tc:TE}{pos:Pos}
theorem b0G(ha:PE X a ta)(hb:PE X b tb){pins:List (Addr×Obj)}{s:Shared}{σ:St}{H:Hp}{R:V→V→Hp→Prop}(I:Inv X pins σ H s)
  (h:ta σ H fun x H1=>tb σ H1 fun y H2=>R x y H2) {Q:Value→Shared→Prop} {f:Value→Value→Sem Value}
  (hf:∀v u s2 x y H2,Inv X pins σ H2 s2→RelV x v→RelV y u→R x y H2→wpAny (model X.prog X.w) X.A (f v u) Q X.xe s2) :
  wpAny (model X.prog X.w) X.A (eval a X.env) (fun v s₁=>wpAny (model X.prog X.w) X.A (eval b X.env) (fun u s₂=>wpAny (model X.prog X.w) X.A (f v u) Q X.xe s₂) X.xe s₁) X.xe s:=by
 refine m4 (ha pins s σ H _ I h) fun v s1 ⟨x,H1,I1,r1,q1⟩=>?_
 refine m4 (hb pins s1 σ H1 _ I1 q1) fun u s2 ⟨y,H2,I2,r2,q2⟩=>?_
 exact hf v u s2 x y H2 I2 r1 r2 q2
theorem i6{op:Operator}{r:R2}(ho:G7 X (binaryOp op) r)(ha:PE X a ta)(hb:PE X b tb):PE X (.BinOp a op b pos) (tOp r ta tb):=by
 intro pins s σ H Q I h
 exact wpAny_BinOp (b0G ha hb I h fun v u s2 x y H2 I2 rx ry q=>ho pins s2 σ H2 x y v u Q I2 rx ry q)
theorem a8e{op:UnaryOp}{r:V→Hp→VK→Prop}(ho:UnR X (unaryOp op) r)(ha:PE X a ta):PE X (.UnaryOp op a pos) (tUn r ta):=by
 intro pins s σ H Q I h
 exact UnaryOp_ (m4 (ha pins s σ H _ I h) fun v s1 ⟨x,H1,I1,r1,q1⟩=>ho pins s1 σ H1 x v Q I1 r1 q1)
theorem opI{f:Value→Value→Sem Value}{C:Int→Int→Prop}{g:Int→Int→Int}
  (rule:∀(i j:Int) (t u:Tok) (s:Shared) (Q:Value→Shared→Prop) (E:Value→Shared→Prop),C i j→Q (.int (g i j) s.toks) { s with toks:=s.toks+1 }→wpAny (model X.prog X.w) X.A (f (.int i t) (.int j u)) Q E s) :
  G7 X f (rI C fun i j=>.int (g i j)):=by
 intro pins s σ H x y v u Q I rx ry h
 obtain⟨i,j,rfl,rfl,hc,q⟩:=h
 obtain⟨t,rfl⟩:=rx
 obtain⟨t',rfl⟩:=ry
 exact rule i j t t' s _ _ hc ⟨.int (g i j),H,I.tok _,⟨_,rfl⟩,q⟩
theorem b4F{f:Value→Value→Sem Value}{g:Int→Int→Int}
  (rule:∀(i j:Int) (t u:Tok) (s:Shared) (Q:Value→Shared→Prop) (E:Value→Shared→Prop),Q (.int (g i j) s.toks) { s with toks:=s.toks+1 }→wpAny (model X.prog X.w) X.A (f (.int i t) (.int j u)) Q E s) :
  G7 X f (rI0 fun i j=>.int (g i j)):=by
 intro pins s σ H x y v u Q I rx ry h
 obtain⟨i,j,rfl,rfl,q⟩:=h
 obtain⟨t,rfl⟩:=rx
 obtain⟨t',rfl⟩:=ry
 exact rule i j t t' s _ _ ⟨.int (g i j),H,I.tok _,⟨_,rfl⟩,q⟩
theorem a8f{f:Value→Value→Sem Value}{g:Int→Int→Bool}
  (rule:∀(i j:Int) (t u:Tok) (s:Shared) (Q:Value→Shared→Prop) (E:Value→Shared→Prop),Q (.bool (g i j)) s→wpAny (model X.prog X.w) X.A (f (.int i t) (.int j u)) Q E s) :
  G7 X f (rI0 fun i j=>.bl (g i j)):=by
 intro pins s σ H x y v u Q I rx ry h
 obtain⟨i,j,rfl,rfl,q⟩:=h
 obtain⟨t,rfl⟩:=rx
 obtain⟨t',rfl⟩:=ry
 exact rule i j t t' s _ _ ⟨.bl (g i j),H,I,rfl,q⟩
def a00(i j:Int):Prop:=0≤j∧j≤1000000∧i.natAbs<2 ^ 64
def CMul(i j:Int):Prop:=(-(2 ^ 64)<i∧i<2 ^ 64)∨(-(2 ^ 64)<j∧j<2 ^ 64)
theorem CMul.ok{i j:Int}(h:CMul i j):IntMulOk i j:=by
 rcases h with⟨h1,h2⟩ | ⟨h1,h2⟩
 ·exact .of_left (intBits_le_64 h1 h2)
 ·exact .of_right (intBits_le_64 h1 h2)
theorem A8:G7 X (binaryOp .Add) (rI0 fun i j=>.int (i+j)):=b4F fun _ _ _ _ _ _ _ q=>add_int q
theorem F7:G7 X (binaryOp .Sub) (rI0 fun i j=>.int (i-j)):=b4F fun _ _ _ _ _ _ _ q=>sub_int q
theorem B0:G7 X (binaryOp .Mod) (rI (fun _ j=>0<j) fun i j=>.int (i%j)):=opI fun i j _ _ _ _ _ hc q=>by
 have h1:(0:Int)<j:=hc
 exact mod_int' (by omega) (by rw[Int.fmod_eq_emod_of_nonneg i (by omega)];exact q)
theorem a3y:G7 X (binaryOp .Pow) (rI a00 fun i j=>.int (i ^ j.toNat)):=opI fun _ _ _ _ _ _ _ hc q=>pow_int_small hc.1 hc.2.1 hc.2.2 q
theorem unI{f:Value→Sem Value}{g:Int→Int}
  (rule:∀(i:Int) (t:Tok) (s:Shared) (Q:Value→Shared→Prop) (E:Value→Shared→Prop),Q (.int (g i) s.toks) { s with toks:=s.toks+1 }→wpAny (model X.prog X.w) X.A (f (.int i t)) Q E s) :
  UnR X f (rU fun i=>.int (g i)):=by
 intro pins s σ H x v Q I rx h
 obtain⟨i,rfl,q⟩:=h
 obtain⟨t,rfl⟩:=rx
 exact rule i t s _ _ ⟨.int (g i),H,I.tok _,⟨_,rfl⟩,q⟩
theorem a53:UnR X (unaryOp .USub) (rU fun i=>.int (-i)):=unI fun _ _ _ _ _ q=>neg_int q
end
noncomputable def a54:V→V→Bool
 | .non,.non=>true | .non,.int _=>true | .int _,.non=>true | .non,.bl _=>true | .bl _,.non=>true | .non,.str _=>true | .str _,.non=>true
 | .int _,.int _=>true | .bl _,.bl _=>true | .str _,.str _=>true | .byt _,.byt _=>true
 | .int _,.str _=>true | .str _,.int _=>true | .bl _,.str _=>true | .str _,.bl _=>true
 | _,_=>false
noncomputable def rEq:R2:=fun x y H Q=>a54 x y=true∧Q (.bl (decide (x=y))) H
noncomputable def rNe:R2:=fun x y H Q=>a54 x y=true∧Q (.bl (!decide (x=y))) H
theorem a7j{i j:Int}:decide (V.int i=V.int j)=(i == j):=by
 rw[Bool.eq_iff_iff]
 simp
theorem a9f{i j:Bool}:decide (V.bl i=V.bl j)=(i == j):=by
 rw[Bool.eq_iff_iff]
 simp
theorem a7k{i j:Str}:decide (V.str i=V.str j)=(i == j):=by
 rw[Bool.eq_iff_iff]
 simp
theorem a7l{i j:Array UInt8}:decide (V.byt i=V.byt j)=(i.toList == j.toList):=by
 rw[Bool.eq_iff_iff]
 cases i
 cases j
 simp
section
variable {X:Cx}{a b c:Expr}{ta tb tc:TE}{pos:Pos}
theorem v3{pins:List (Addr×Obj)}{σ:St}{H:Hp}{s:Shared}{Q:VK}{k k':Bool}(I:Inv X pins σ H s)(q:Q (.bl k) H)(e:k=k'):EP X pins σ Q (.bool k') s:=by
 subst e
 exact⟨.bl k,H,I,rfl,q⟩
theorem G8:G7 X (compareOp .Eq) rEq:=by
 intro pins s σ H x y v u Q I rx ry h
 obtain⟨hs,q⟩:=h
 cases x with
 | non =>
  cases rx
  cases y with
  | non=>cases ry;exact PySem.EqNone.eq_none_none (v3 I q (by simp))
  | bl j=>cases ry;exact PySem.EqNone.eq_none_bool (v3 I q (by simp))
  | int j=>obtain⟨t',rfl⟩:=ry;exact PySem.EqNone.eq_none_int (v3 I q (by simp))
  | str j=>obtain⟨t',rfl⟩:=ry;exact PySem.EqNone.eq_none_str (v3 I q (by simp))
  | _=>exact absurd (show false=true from hs) Bool.false_ne_true
 | bl i =>
  cases rx
  cases y with
  | non=>cases ry;exact PySem.EqNone.eq_bool_none (v3 I q (by simp))
  | bl j=>cases ry;exact eq_bool (v3 I q a9f)
  | str j=>obtain⟨t',rfl⟩:=ry;exact PySem.EqMixed.eq_bool_str (v3 I q (by simp))
  | _=>exact absurd (show false=true from hs) Bool.false_ne_true
 | int i =>
  obtain⟨t,rfl⟩:=rx
  cases y with
  | non=>cases ry;exact PySem.EqNone.eq_int_none (v3 I q (by simp))
  | int j=>obtain⟨t',rfl⟩:=ry;exact eq_int (v3 I q a7j)
  | str j=>obtain⟨t',rfl⟩:=ry;exact PySem.EqMixed.eq_int_str (v3 I q (by simp))
  | _=>exact absurd (show false=true from hs) Bool.false_ne_true
 | str i =>
  obtain⟨t,rfl⟩:=rx
  cases y with
  | non=>cases ry;exact PySem.EqNone.eq_str_none (v3 I q (by simp))
  | bl j=>cases ry;exact PySem.EqMixed.eq_str_bool (v3 I q (by simp))
  | int j=>obtain⟨t',rfl⟩:=ry;exact PySem.EqMixed.eq_str_int (v3 I q (by simp))
  | str j=>obtain⟨t',rfl⟩:=ry;exact eq_str (v3 I q a7k)
  | _=>exact absurd (show false=true from hs) Bool.false_ne_true
 | byt i =>
  obtain⟨t,rfl⟩:=rx
  cases y with
  | byt j=>obtain⟨t',rfl⟩:=ry;exact W.eq_bytes (v3 I q a7l)
  | _=>exact absurd (show false=true from hs) Bool.false_ne_true
 | _=>cases y<;>exact absurd (show false=true from hs) Bool.false_ne_true
theorem a3z:G7 X (compareOp .NotEq) rNe:=by
 intro pins s σ H x y v u Q I rx ry h
 obtain⟨hs,q⟩:=h
 cases x with
 | non =>
  cases rx
  cases y with
  | non=>cases ry;exact PySem.EqNone.ne_none_none (v3 I q (by simp))
  | bl j=>cases ry;exact PySem.EqNone.ne_none_bool (v3 I q (by simp))
  | int j=>obtain⟨t',rfl⟩:=ry;exact PySem.EqNone.ne_none_int (v3 I q (by simp))
  | str j=>obtain⟨t',rfl⟩:=ry;exact PySem.EqNone.ne_none_str (v3 I q (by simp))
  | _=>exact absurd (show false=true from hs) Bool.false_ne_true
 | bl i =>
  cases rx
  cases y with
  | non=>cases ry;exact PySem.EqNone.ne_bool_none (v3 I q (by simp))
  | bl j=>cases ry;exact ne_bool (v3 I q (congrArg not a9f))
  | str j=>obtain⟨t',rfl⟩:=ry;exact PySem.EqMixed.ne_bool_str (v3 I q (by simp))
  | _=>exact absurd (show false=true from hs) Bool.false_ne_true
 | int i =>
  obtain⟨t,rfl⟩:=rx
  cases y with
  | non=>cases ry;exact PySem.EqNone.ne_int_none (v3 I q (by simp))
  | int j=>obtain⟨t',rfl⟩:=ry;exact ne_int (v3 I q (congrArg not a7j))
  | str j=>obtain⟨t',rfl⟩:=ry;exact PySem.EqMixed.ne_int_str (v3 I q (by simp))
  | _=>exact absurd (show false=true from hs) Bool.false_ne_true
 | str i =>
  obtain⟨t,rfl⟩:=rx
  cases y with
  | non=>cases ry;exact PySem.EqNone.ne_str_none (v3 I q (by simp))
  | bl j=>cases ry;exact PySem.EqMixed.ne_str_bool (v3 I q (by simp))
  | int j=>obtain⟨t',rfl⟩:=ry;exact PySem.EqMixed.ne_str_int (v3 I q (by simp))
  | str j=>obtain⟨t',rfl⟩:=ry;exact ne_str (v3 I q (congrArg not a7k))
  | _=>exact absurd (show false=true from hs) Bool.false_ne_true
 | byt i =>
  obtain⟨t,rfl⟩:=rx
  cases y with
  | byt j=>obtain⟨t',rfl⟩:=ry;exact W.ne_bytes (v3 I q (congrArg not a7l))
  | _=>exact absurd (show false=true from hs) Bool.false_ne_true
 | _=>cases y<;>exact absurd (show false=true from hs) Bool.false_ne_true
theorem a1p:G7 X (compareOp .Lt) (rI0 fun i j=>.bl (decide (i<j))):=a8f fun _ _ _ _ _ _ _ q=>lt_int q
theorem b50:G7 X (compareOp .LtE) (rI0 fun i j=>.bl (decide (i≤j))):=a8f fun _ _ _ _ _ _ _ q=>le_int q
theorem a3A:G7 X (compareOp .Gt) (rI0 fun i j=>.bl (decide (j<i))):=a8f fun _ _ _ _ _ _ _ q=>gt_int q
theorem a8g:G7 X (compareOp .GtE) (rI0 fun i j=>.bl (decide (j≤i))):=a8f fun _ _ _ _ _ _ _ q=>ge_int q
theorem a9g:G7 X (compareOp .Is) (fun x y H Q=>y=.non∧Q (.bl (decide (x=.non))) H):=by
 intro pins s σ H x y v u Q I rx ry h
 obtain⟨rfl,q⟩:=h
 cases ry
 refine is_none_gen (v3 I q ?_)
 cases x<;>first
  | (cases rx;rfl)
  | (obtain⟨t,rfl⟩:=rx;rfl)
theorem a4x:G7 X (compareOp .IsNot) (fun x y H Q=>y=.non∧Q (.bl (!decide (x=.non))) H):=by
 intro pins s σ H x y v u Q I rx ry h
 obtain⟨rfl,q⟩:=h
 cases ry
 refine isnot_none_gen (v3 I q ?_)
 cases x<;>first
  | (cases rx;rfl)
  | (obtain⟨t,rfl⟩:=rx;rfl)
theorem l4(b:Expr){op:CmpOp}(h:op≠.In:=by decide)(h2:op≠.NotIn:=by decide):behindInMarks op b=false:=by
 have e1:(op == CmpOp.In)=false:=by cases op<;>first | rfl | exact absurd rfl h
 have e2:(op == CmpOp.NotIn)=false:=by cases op<;>first | rfl | exact absurd rfl h2
 cases b<;>simp[behindInMarks,e1,e2]
theorem D9{op:CmpOp}{r:R2}(ho:G7 X (compareOp op) r)(ha:PE X a ta)(hb:PE X b tb)(hm:behindInMarks op b=false):PE X (.Compare a [op] [b] pos) (tOp r ta tb):=by
 intro pins s σ H Q I h
 exact wpAny_Compare1 (b0G ha hb I h fun v u s2 x y H2 I2 rx ry q=>ho pins s2 σ H2 x y v u Q I2 rx ry q) hm
def a8h(t:TE):TT:=fun σ H Q=>t σ H fun x H'=>∃k,x=.bl k∧Q k H'
theorem l6{op:CmpOp}{r:R2}(ho:G7 X (compareOp op) r)(ha:PE X a ta)(hb:PE X b tb)(hm:behindInMarks op b=false):PT X (.Compare a [op] [b] pos) (a8h (tOp r ta tb)):=by
 intro pins s σ H Q I h
 refine wpAny_isTrue_Compare1 (m4 (ha pins s σ H _ I h) fun v s1 ⟨x,H1,I1,r1,q1⟩=>m4 (hb pins s1 σ H1 _ I1 q1) fun u s2 ⟨y,H2,I2,r2,q2⟩ =>
  m4 (ho pins s2 σ H2 x y v u _ I2 r1 r2 q2) fun c s3 ⟨z,H3,I3,r3,k,e,q3⟩=>?_) hm
 subst e
 cases r3
 exact wpAny_truthy_bool ⟨H3,I3,q3⟩
def a9h(r r':R2)(ta tb tc:TE):TE:=fun σ H Q=>ta σ H fun x H1=>tb σ H1 fun y H2=>r x y H2 fun z H3=>∃k,z=.bl k ∧
 (if k=true then tc σ H3 fun w' H4=>r' y w' H4 Q else Q (.bl false) H3)
theorem b0H{op op':CmpOp}{r r':R2}(ho:G7 X (compareOp op) r)(ho':G7 X (compareOp op') r')(ha:PE X a ta)(hb:PE X b tb)(hc:PE X c tc)
  (hm:lastMarks [op,op'] [b,c]=false:=by with_unfolding_all rfl):PT X (.Compare a [op,op'] [b,c] pos) (a8h (a9h r r' ta tb tc)):=by
 intro pins s σ H Q I h
 refine isTrue_chain (m4 (ha pins s σ H _ I h) fun v s1 ⟨x,H1,I1,r1,q1⟩=>test_link (m4 (hb pins s1 σ H1 _ I1 q1) fun u s2 ⟨y,H2,I2,r2,q2⟩ =>
  m4 (ho pins s2 σ H2 x y v u _ I2 r1 r2 q2) fun d s3 ⟨z,H3,I3,r3,k,e,q3⟩=>?_)) hm
 subst e
 cases r3
 refine wpAny_truthy_bool ?_
 cases k with
 | false =>
  obtain⟨k',e',q'⟩:=q3
  cases e'
  exact ite_ff ⟨H3,I3,q'⟩
 | true =>
  refine ite_tt (test_last (m4 (hc pins s3 σ H3 _ I3 q3) fun w' s4 ⟨z',H4,I4,r4,q4⟩=>m4 (ho' pins s4 σ H4 y z' u w' _ I4 r2 r4 q4) fun d' s5 ⟨z2,H5,I5,r5,k2,e2,q5⟩=>?_))
  subst e2
  cases r5
  exact wpAny_truthy_bool ⟨H5,I5,q5⟩
theorem a3B:(sizeLine:Nat)<2 ^ 63:=by rw[sizeLine_eq];decide
theorem a5M{x:V}{us:List Value}(r:Vals [x] us):∃u,us=[u]∧RelV x u:=by
 cases r with
 | cons r1 r2=>cases r2;exact⟨_,rfl,r1⟩
theorem a8i{x y:V}{us:List Value}(r:Vals [x,y] us):∃u w',us=[u,w']∧RelV x u∧RelV y w':=by
 cases r with
 | cons r1 r2 =>
  cases r2 with
  | cons r3 r4=>cases r4;exact⟨_,_,rfl,r1,r3⟩
theorem a4_(hc:X.calm=true):T7 X (.builtin "max") (fun xs H Q=>∃i j,xs=[.int i,.int j]∧Q (.int (if j > i then j else i)) H):=by
 intro pins s σ H xs us Q I r h
 obtain⟨i,j,rfl,q⟩:=h
 obtain⟨u,w',rfl,⟨t,rfl⟩,⟨t',rfl⟩⟩:=a8i r
 refine max_two_ints (I.ok.hd hc) fun h' tk k=>⟨_,H,I.kept k,?_,q⟩
 by_cases hj:j > i
 ·rw[if_pos hj,if_pos hj];exact⟨_,rfl⟩
 ·rw[if_neg hj,if_neg hj];exact⟨_,rfl⟩
theorem a5a:T7 X (.type "int") (fun xs H Q=>(∃i,xs=[.int i]∧Q (.int i) H)∨∃k,xs=[.bl k]∧Q (.int (if k then 1 else 0)) H):=by
 intro pins s σ H xs us Q I r h
 rcases h with⟨i,rfl,q⟩ | ⟨k,rfl,q⟩
 ·obtain⟨u,rfl,t,rfl⟩:=a5M r
  exact call_int_int ⟨.int i,H,I,⟨_,rfl⟩,q⟩
 ·obtain⟨u,rfl,r1⟩:=a5M r
  cases r1
  exact call_int_bool ⟨.int (if k then 1 else 0),H,I.tok _,⟨_,rfl⟩,q⟩
end
structure ObjM(h:Heap)(x dx C:Addr)(mA:Str→Option Value):Prop where
 obj:h.get? x=some (W.instObj C dx)
 ns:h.Ns1 dx mA
 ne:dx≠x
theorem a5b{h:Heap}{dx:Addr}{mA:Str→Option Value}(n:h.Ns1 dx mA):∃od,h.get? dx=some od∧∀name,W.lookIn name od=some (mA name):=by
 obtain⟨o,es,ep,ho,hd,hk,_,hm⟩:=n
 refine⟨o,ho,fun name=>?_⟩
 have e:=hm name
 unfold nsFind findBy at e
 rw[← Array.find?_toList]at e
 unfold W.lookIn
 rw[hd]
 dsimp only
 split
 ·rename_i y q
  rw[q]at e
  exact congrArg some e
 ·rename_i q
  rw[q]at e
  have a:es.toList.any (·.refKey)=false:=by
   rw[List.any_eq_false]
   intro y hy
   obtain⟨z,t,hkey⟩:=hk y (Array.mem_toList_iff.mp hy)
   simp[DictEntry.refKey,hkey]
  have a':¬es.toList.any (·.refKey)=true:=by rw[a];exact Bool.false_ne_true
  rw[if_neg a']
  exact congrArg some e
theorem ObjM.look{h:Heap}{x dx C:Addr}{mA:Str→Option Value}(I:ObjM h x dx C mA):∃od,W.InstAt h x (W.instObj C dx) C (some od)∧∀name,W.lookIn name od=some (mA name) :=
 let ⟨od,ho,hl⟩:=a5b I.ns
 ⟨od,⟨I.obj,rfl,rfl,ho⟩,hl⟩
theorem RelO.some_of{v:V}{o:Option Value}(r:RelO (some v) o):∃u,o=some u∧RelV v u:=by
 cases o with
 | none=>exact(show False from r).elim
 | some u=>exact⟨u,rfl,r⟩
theorem a9i{v:V}{u:Value}(r:RelV v u):W.handedIn u=true:=by
 cases v with
 | non=>cases (show u=Value.none from r);rfl
 | bl b=>cases (show u=Value.bool b from r);rfl
 | int i=>obtain⟨t,e⟩:=(show ∃t,u=Value.int i t from r);cases e;rfl
 | str x=>obtain⟨t,e⟩:=(show ∃t,u=Value.str x t from r);cases e;rfl
 | byt b=>obtain⟨t,e⟩:=(show ∃t,u=Value.bytes b t from r);cases e;rfl
 | flt b=>obtain⟨t,e⟩:=(show ∃t,u=Value.float b t from r);cases e;rfl
 | ref a=>cases (show u=Value.ref a from r);rfl
 | ty n=>cases (show u=Value.type n from r);rfl
section
variable {P:Program}{w:World}{H H':Hp}{h h':Heap}{a C dx:Addr}{fs fs':List (Str×V)}
theorem b2J(hok:HOk P w H h)(e:H a=some (.ins C dx fs)):∃mA,ObjM h a dx C mA∧(∀f,RelO (fs.lookup f) (mA f))∧PySem.Within mA (fs.map (·.1))∧fs.length≤1000∧H dx=some (.own a):=by
 obtain⟨d,z,ne,ob,mA,n,r,q⟩:=(show ObjOk P w H h a (.ins C dx fs)from hok a _ e)
 exact⟨mA,⟨ob,n,ne⟩,r,q,z,d⟩
end
structure Cls(K:W.Frag)(C:Addr):Prop where
 pg:W.plainGet K C Str.empty=true
 hd:W.hasDictIn K C=true
 po:W.plainOver K C=true
 sa:W.findIn K (.ref C) "__setattr__" = some (some (.builtin "object.__setattr__"))
theorem Cls.get{K:W.Frag}{C:Addr}(c:Cls K C)(f:Str):W.plainGet K C f=true:=c.pg
section
variable {X:Cx}{pins:List (Addr×Obj)}{σ:St}{H:Hp}{s:Shared}{a C dx:Addr}{fs:List (Str×V)}{f:Str}{v:V}{A:Around}{E:Value→Shared→Prop}
theorem Inv.made(I:Inv X pins σ H s):Inv X pins σ (upd (upd H s.heap.objs.size (.own (s.heap.objs.size+1))) (s.heap.objs.size+1) (.ins C s.heap.objs.size []))
  { s with heap:=(s.heap.push W.emptyDict).push (W.instObj C s.heap.objs.size) }:=by
 have e1:(s.heap.push W.emptyDict).get? s.heap.objs.size=some W.emptyDict:=Heap.get?_push_size s.heap rfl
 have e2:((s.heap.push W.emptyDict).push (W.instObj C s.heap.objs.size)).get? (s.heap.objs.size+1)=some (W.instObj C s.heap.objs.size):=by
  have:=Heap.get?_push_size (s.heap.push W.emptyDict) (o:=W.instObj C s.heap.objs.size) rfl
  rwa [Heap.size_push]at this
 have e3:(s.heap.push W.emptyDict).Ns s.heap.objs.size (fun _=>none):=⟨W.emptyDict,#[],_,e1,rfl,(fun e he=>absurd he (by simp)),fun _=>rfl⟩
 have I1:=I.laid (a:=s.heap.objs.size) (o:=.own (s.heap.objs.size+1)) (h':=s.heap.push W.emptyDict) (t':=s.toks) (fun b u q=>Heap.get?_push_of_some _ q) (Nat.le_refl _) ⟨_,e1⟩
 refine I1.laid (a:=s.heap.objs.size+1) (o:=.ins C s.heap.objs.size []) (t':=s.toks) (fun b u q=>Heap.get?_push_of_some _ q) (Nat.le_of_eq (Heap.size_push _ _)) ?_
 have ne:s.heap.objs.size≠s.heap.objs.size+1:=Nat.ne_of_lt (Nat.lt_succ_self _)
 refine⟨by rw[g5 ne,i8],Nat.zero_le _,ne,e2,fun _=>none,(Heap.Ns1.of_empty e3).at fun o q=>Heap.get?_push_of_some _ q,fun _=>True.intro,fun y hy=>absurd rfl hy⟩
theorem b2K{prog:Program}{w:World}{env:Env}{e:Expr}{f:Str}{pos:Pos}{s:Shared}{Q:Value→Shared→Prop}(hb:attributeBase e f env (eval e env)=eval e env)
  (h:wpAny (model prog w) A (eval e env) (fun o s₁=>wpAny (model prog w) A (getAttr o f true) Q E s₁) E s):wpAny (model prog w) A (eval (.Attribute e f pos) env) Q E s :=
 Attribute_any_ h (by rw[arm_eval_Attribute,hb])
end
section
variable {X:Cx}{pins:List (Addr×Obj)}{σ:St}{H:Hp}{s:Shared}{A:Around}{E:Value→Shared→Prop}{Q:Value→Shared→Prop}{c:Value}{b:Bool}
inductive TyOf(K:W.Frag)(H:Hp):V→Value→Prop where
 | non:TyOf K H .non (.type "NoneType")
 | bl (x:Bool):TyOf K H (.bl x) (.type "bool")
 | int (i:Int):TyOf K H (.int i) (.type "int")
 | str (x:Str):TyOf K H (.str x) (.type "str")
 | flt (x:UInt64):TyOf K H (.flt x) (.type "float")
 | lst {a:Addr} {xs:List V} (e:H a=some (.lst xs)):TyOf K H (.ref a) (.type "list")
 | frz {a:Addr} {o:Obj} {xs:List V} (e:H a=some (.frz o (.lst xs))):TyOf K H (.ref a) (.type "list")
 | tup {a:Addr} {xs:List V} (e:H a=some (.tup xs)):TyOf K H (.ref a) (.type "tuple")
 | dK {a:Addr} {kvs:List (v9×V)} (e:H a=some (.dK kvs)):TyOf K H (.ref a) (.type "dict")
 | dT {a:Addr} {kvs:List (List v9×V)} (e:H a=some (.dT kvs)):TyOf K H (.ref a) (.type "dict")
 | ins {a C dx:Addr} {fs:List (Str×V)} (e:H a=some (.ins C dx fs)) (cl:Cls K C) (ha:W.findIn K (.ref C) "__class__" = some (some (.builtin "object.__class__")))
   (hn:W.specialIn K (.builtin "object.__class__") "__get__" = some (some (.builtin "getset_descriptor.__get__"))) (htk:W.takesIn K (.builtin "object.__class__")=some true)
   (hm:W.mroIn K C (.type "object")=some true):TyOf K H (.ref a) (.ref C)
end
structure Room(k:Nat)(A:Around):Prop where
 hd:A.handled=none
 dp:A.depth+3*k+5<recursionLimit
 un:A.units+16*k+200<cLine
theorem Room.mono{j k:Nat}{A:Around}(r:Room k A)(h:j≤k):Room j A:=⟨r.hd,by have:=r.dp;omega,by have:=r.un;omega⟩
theorem Room.deeper{k:Nat}{A:Around}(r:Room (k+1) A)(env:Env):Room k (A.deeper env) :=
 ⟨r.hd,by have:=r.dp;show A.depth+1+3*k+5<_;omega,by have:=r.un;show A.units+3+16*k+200<_;omega⟩
theorem Room.in1{k:Nat}{A:Around}(r:Room (k+1) A):Room k A.in1 :=
 ⟨r.hd,by have:=r.dp;show A.depth+3*k+5<_;omega,by have:=r.un;show A.units+1+16*k+200<_;omega⟩
theorem a8j{A:Around}{C:Addr}{us:List Value}{kw:List (Str×Value)}:(A.under (.builtin "type.__call__" ⟨.ref C::us,kw⟩)).depth=A.depth+1:=by
 first | rfl | simp[Around.under,Code.weight,Code.isCreation,Code.isGuard,Code.isCaller,Code.frames,Code.isFrame,guardIds]
theorem a8k{A:Around}{C:Addr}{us:List Value}{kw:List (Str×Value)}:(A.under (.builtin "type.__call__" ⟨.ref C::us,kw⟩)).units=A.units+1:=by
 first | rfl | simp[Around.under,Code.cUnits,Code.frames,Code.isFrame]
theorem Room.make{k:Nat}{A:Around}(r:Room (k+1) A)(C:Addr)(us:List Value)(kw:List (Str×Value)):Room k (A.under (.builtin "type.__call__" ⟨.ref C::us,kw⟩)) :=
 ⟨r.hd,by have:=r.dp;rw[a8j];omega,by have:=r.un;rw[a8k];omega⟩
theorem Room.depth{k:Nat}{A:Around}(r:Room k A):A.depth<recursionLimit:=by have:=r.dp;omega
theorem Room.units{k:Nat}{A:Around}(r:Room k A):A.units+64<cLine:=by have:=r.un;omega
def a0r:TA:=fun _ H Q=>Q [] H
def L3(ta:TE)(tr:TA):TA:=fun σ H Q=>ta σ H fun x H1=>tr σ H1 fun xs H2=>Q (x::xs) H2
section
variable {X:Cx}{e:Expr}{es:List Expr}{te:TE}{t:TA}{pos:Pos}
theorem d5:PA X [] a0r:=fun _ _ _ _ H Q I h=>Calls.spliced_nil ⟨[],H,I,.nil,h⟩
theorem a6(ha:PE X e te)(hr:PA X es t)(hs:starEach (e::es) X.env=(false,eval e X.env)::starEach es X.env:=by rfl):PA X (e::es) (L3 te t):=by
 intro pos pins s σ H Q I h
 rw[hs]
 show wpAny _ _ (spliced ((false,eval e X.env)::backTo pos (starEach es X.env))) _ _ s
 refine Calls.spliced_cons (m4 (ha pins s σ H _ I h) fun u s1 ⟨x,H1,I1,r1,q1⟩=>?_)
 exact m4 (hr pos pins s1 σ H1 _ I1 q1) fun us s2 ⟨xs,H2,I2,r2,q2⟩=>⟨x::xs,H2,I2,.cons r1 r2,q2⟩
def a8l(t:TA):TE:=fun σ H Q=>t σ H fun xs H1=>xs.length≤sizeLine∧∀p,H1 p=none→Q (.ref p) (upd H1 p (.tup xs))
def b4I(t:TA):TE:=fun σ H Q=>t σ H fun xs H1=>xs.length≤sizeLine∧∀p,H1 p=none→Q (.ref p) (upd H1 p (.lst xs))
theorem i7{x1}(h:PA X es t):PE X (.Tuple es x1 pos) (a8l t):=by
 intro pins s σ H Q I hq
 refine wpAny_Tuple_spliced (m4 (h pos pins s σ H _ I hq) fun us s1 ⟨xs,H1,I1,r,z,q⟩=>⟨by rw[← r.length];exact z,?_⟩)
 have hf:H1 s1.heap.objs.size=none:=I1.hok.fresh (Nat.le_refl _)
 refine⟨.ref s1.heap.objs.size,upd H1 s1.heap.objs.size (.tup xs),I1.laid (t':=s1.toks) (fun b u e=>Heap.get?_push_of_some _ e) (Nat.le_refl _) ?_,rfl,q _ hf⟩
 exact⟨z,us,r,⟨_,Heap.get?_push_size _ rfl,rfl,_,rfl⟩⟩
theorem T4(h:PA X es t):PE X (.List es pos) (b4I t):=by
 intro pins s σ H Q I hq
 refine wpAny_List_spliced (m4 (h pos pins s σ H _ I hq) fun us s1 ⟨xs,H1,I1,r,z,q⟩=>⟨by rw[← r.length];exact z,?_⟩)
 have hf:H1 s1.heap.objs.size=none:=I1.hok.fresh (Nat.le_refl _)
 refine⟨.ref s1.heap.objs.size,upd H1 s1.heap.objs.size (.lst xs),I1.laid (t':=s1.toks) (fun b u e=>Heap.get?_push_of_some _ e) (Nat.le_refl _) ?_,rfl,q _ hf⟩
 exact⟨z,us,0,r,Heap.get?_push_size _ rfl⟩
end
abbrev Sp:=List V→Hp→VK→XK→Prop
abbrev CXT:=List Env→Hp→Shared→XK→Value→Shared→Prop
structure Env0(P:Program)(w:World)(K:W.Frag)(mg:Str→Option Value)(base:Heap)(A:Around)(outer:List Env)(s:Shared)(H:Hp):Prop where
 frames:A.frames=some outer
 mod:Mod K mg base
 bs:∀b o,base.get? b=some o→s.heap.get? b=some o∧H b=none
 bsz:base.objs.size≤s.heap.objs.size
 funs:s.heap.FunFrames base outer
 frf:∀b∈K9 outer,H b=none
 hok:HOk P w H s.heap
 bare:AllBare s.gens
noncomputable def CE(outer:List Env)(P:Program)(w:World)(H:Hp)(s:Shared)(Q:VK)(u:Value)(s':Shared):Prop :=
 ∃v H',s'.os=s.os∧AllBare s'.gens∧Un (K9 outer) [] H H' s.heap s'.heap∧HOk P w H' s'.heap∧RelV v u∧Q v H'
noncomputable def CR(CX:CXT)(outer:List Env)(P:Program)(w:World)(H:Hp)(s:Shared)(Q:VK)(E:XK)(r:Result)(s':Shared):Prop :=
 match r with
 | .ok (.ret u)=>CE outer P w H s Q u s'
 | .ok _=>False
 | .error e=>CX outer H s E e s'
structure FnOk(P:Program)(w:World)(K:W.Frag)(mg:Str→Option Value)(base:Heap)(CX:CXT)(k:Nat)(f:Addr)(fd:FuncData)(ps:List Str)(sp:Sp):Prop where
 len:∀vs H Q E,sp vs H Q E→vs.length=ps.length
 run:∀(A:Around) (outer:List Env) (s:Shared) (H:Hp) (args:Args) (us:List Value) (vs:List V) (Q:VK) (E:XK),Room k A→Env0 P w K mg base A outer s H→BindsTo s fd args (ps.zip us)→Vals vs us→sp vs H Q E →
  codeAny (model P w) A (.call (.ref f) args) (CR CX outer P w H s Q E) s
theorem FnOk.mono{P:Program}{w:World}{K:W.Frag}{mg:Str→Option Value}{base:Heap}{CX:CXT}{j k:Nat}{f:Addr}{fd:FuncData}{ps:List Str}{sp:Sp}(F:FnOk P w K mg base CX j f fd ps sp)(h:j≤k) :
  FnOk P w K mg base CX k f fd ps sp:=⟨F.len,fun A outer s H args us vs Q E hr=>F.run A outer s H args us vs Q E (hr.mono h)⟩
theorem FnOk.imp{P:Program}{w:World}{K:W.Frag}{mg:Str→Option Value}{base:Heap}{CX:CXT}{k:Nat}{f:Addr}{fd:FuncData}{ps:List Str}{sp sp':Sp}(F:FnOk P w K mg base CX k f fd ps sp)
  (h:∀vs H Q E,sp' vs H Q E→sp vs H Q E):FnOk P w K mg base CX k f fd ps sp' :=
 ⟨fun vs H Q E q=>F.len vs H Q E (h _ _ _ _ q),fun A outer s H args us vs Q E hr he hb hv hs=>F.run A outer s H args us vs Q E hr he hb hv (h _ _ _ _ hs)⟩
theorem Env0.make{P:Program}{w:World}{K:W.Frag}{mg:Str→Option Value}{base:Heap}{A:Around}{outer:List Env}{s:Shared}{H:Hp}(e:Env0 P w K mg base A outer s H)(C:Addr)(us:List Value)(kw:List (Str×Value)) :
  Env0 P w K mg base (A.under (.builtin "type.__call__" ⟨.ref C::us,kw⟩)) outer s H:=⟨by first | exact e.frames | (simpa [Around.under,Code.envs,Code.isFrame,pushEnvs]using e.frames),e.mod,e.bs,e.bsz,e.funs,e.frf,e.hok,e.bare⟩
theorem Env0.in1{P:Program}{w:World}{K:W.Frag}{mg:Str→Option Value}{base:Heap}{A:Around}{outer:List Env}{s:Shared}{H:Hp}(e:Env0 P w K mg base A outer s H) :
  Env0 P w K mg base A.in1 outer s H:=⟨e.frames,e.mod,e.bs,e.bsz,e.funs,e.frf,e.hok,e.bare⟩
section
variable {X:Cx}{pins:List (Addr×Obj)}{σ:St}{H:Hp}{s s':Shared}
theorem Inv.env0(I:Inv X pins σ H s):Env0 X.prog X.w X.K X.mg X.base X.A X.stack s H :=
 ⟨I.ok.frames,I.ok.mod,I.bs,Nat.le_trans I.ok.bsz I.sz,I.stack,I.stkFree,I.hok,I.bare⟩
theorem Inv.after{Q:VK}{u:Value}(I:Inv X pins σ H s)(h:CE X.stack X.prog X.w H s Q u s'):EP X pins σ Q u s':=by
 obtain⟨v,H',os,bare,un,hok,r,q⟩:=h
 obtain⟨hh,g,d,t,os'⟩:=s'
 obtain rfl:os'=s.os:=os
 exact⟨v,H',I.call (h':=hh) (g':=g) (d':=d) (t':=t) (ch:=[]) un hok bare (fun b z=>absurd z (by simp)),r,q⟩
end
def T8(sp:Sp)(dvs:List V)(E:XK)(t:TA):TE:=fun σ H Q=>t σ H fun vs H1=>sp (vs++dvs) H1 Q E
def Binds(K:W.Frag)(fd:FuncData)(ps:List Str)(ds:List Value):Prop :=
 ∀(s:Shared) (us:List Value),K.In s.heap→(us++ds).length=ps.length→BindsTo s fd ⟨us,[]⟩ (ps.zip (us++ds))
theorem Binds.all{K:W.Frag}{fd:FuncData}{ps:List Str}(h:∀us:List Value,us.length=ps.length→bindArgs fd ⟨us,[]⟩=pure (ps.zip us)):Binds K fd ps []:=fun s us _ hl=>by
 rw[List.append_nil]at hl ⊢
 exact .of_eq (h us hl)
def a0_(CX:CXT)(X:Cx)(E:XK):Prop:=∀(pins:List (Addr×Obj)) (σ:St) (H:Hp) (s:Shared) (e:Value) (s':Shared),Inv X pins σ H s→CX X.stack H s E e s'→X.xe e s'
section
variable {X:Cx}{CX:CXT}{k:Nat}{f C:Addr}{fd:FuncData}{ps:List Str}{sp:Sp}{dvs:List V}{ds:List Value}{E:XK}{x m:Str}{p pos apos:Pos}{e o:Expr}{es:List Expr}{ta:TE}{t:TA}
theorem b4J{pins:List (Addr×Obj)}{σ:St}{H:Hp}{s:Shared}{Q:VK}{us:List Value}{vs:List V}(F:FnOk X.prog X.w X.K X.mg X.base CX k f fd ps sp)(hr:Room k X.A)(hb:Binds X.K fd ps ds)(hd:Vals dvs ds)(hx:a0_ CX X E)
  (I:Inv X pins σ H s) (r:Vals vs us) (h:sp (vs++dvs) H Q E):wpAny (model X.prog X.w) X.A (call (.ref f) us) (EP X pins σ Q) X.xe s:=by
 have r2:Vals (vs++dvs) (us++ds):=r.append hd
 have hl:(us++ds).length=ps.length:=by rw[← r2.length];exact F.len _ _ _ _ h
 refine wpAny_call (codeAny_mono (F.run X.A X.stack s H ⟨us,[]⟩ (us++ds) (vs++dvs) Q E hr I.env0 (hb s us I.kIn hl) r2 h) fun r s' hq=>?_)
 cases r with
 | error e=>exact hx pins σ H s e s' I hq
 | ok fl =>
  cases fl with
  | ret u=>exact I.after hq
  | next=>exact False.elim hq
  | brk=>exact False.elim hq
  | cont=>exact False.elim hq
theorem b2L(F:FnOk X.prog X.w X.K X.mg X.base CX k f fd ps sp)(hr:Room k X.A)(hg:Gl X x)(hm:X.mg x=some (.ref f))(hk:W.keepIn X.K (.ref f)=true)(hb:Binds X.K fd ps ds)(hd:Vals dvs ds)(hx:a0_ CX X E)
  (ha:PA X (e::es) t) (hdb:(x == ("__debug__" : Str))=false:=by decide) (he:starEach (e::es) X.env=(false,eval e X.env)::starEach es X.env:=by rfl) (hpl:(backTo pos (starEach es X.env)).any (·.1)=false:=by rfl) :
  PE X (.Call (.Name x p) (e::es) [] pos) (T8 sp dvs E t):=by
 intro pins s σ H Q I h
 refine wpAny_Call_Name_kw (X0 I hg hm ?_ hdb)
 refine W.callWith_K (h₀:=X.base) I.ok.mod.kin hk (m4 (ha pos pins s σ H _ I h) fun us s1 ⟨vs,H1,I1,r,q⟩=>⟨I1.kIn,?_⟩) he hpl
 exact b4J F hr hb hd hx I1 r q
end
def PK(X:Cx)(kws:List Keyword)(t:TA):Prop :=
 ∀(pos:Pos) (pins:List (Addr×Obj)) (s:Shared) (σ:St) (H:Hp) (Q:List V→Hp→Prop),Inv X pins σ H s→t σ H Q→wpAny (model X.prog X.w) X.A (evalAll ((backToKw pos (keywordEach kws X.env)).map (·.2))) (AP X pins σ Q) X.xe s
section
variable {X:Cx}{CX:CXT}{k:Nat}{f C:Addr}{fd:FuncData}{ps ks:List Str}{sp:Sp}{E:XK}{x m:Str}{p pos apos kpos:Pos}{e o:Expr}{es:List Expr}{kws:List Keyword}{te ta:TE}{t tk:TA}{nm:Option Str}
theorem b4K:PK X [] a0r:=fun _ _ _ _ H Q I h=>wpAny_evalAll_nil ⟨[],H,I,.nil,h⟩
theorem b2M(ha:PE X e te)(hr:PK X kws t):PK X (⟨nm,e,kpos⟩ :: kws) (L3 te t):=by
 intro pos pins s σ H Q I h
 show wpAny _ _ (evalAll ((do let v ← eval e X.env;standAt pos;pure v)::(backToKw pos (keywordEach kws X.env)).map (·.2))) _ _ s
 refine wpAny_evalAll_cons (wpAny_bind (m4 (ha pins s σ H _ I h) fun u s1 ⟨x,H1,I1,r1,q1⟩=>wpAny_bind (wpAny_standAt (wpAny_pure ?_))))
 exact m4 (hr pos pins s1 σ H1 _ I1 q1) fun us s2 ⟨xs,H2,I2,r2,q2⟩=>⟨x::xs,H2,I2,.cons r1 r2,q2⟩
variable {g:List Value→List Value→List Value}{gV:List V→List V→List V}
end
structure FnScope(N P:List Str)(sc:Scope):Prop where
 kind:sc.kind=.function
 co:sc.isCoroutine=false
 gen:sc.isGenerator=false
 nd:N.Nodup
 pre:N.take P.length=P
 par:∀x∈P,sc.names.lookup x=some .local∨sc.names.lookup x=some .cell
 nofree:∀y∈sc.names,y.2≠.free
theorem a5c{kindOf:Str→Option NameKind}{x:Str}:∀{binds:List (Str×Value)} {m:Str→Option Value},(∀v,(x,v) ∉ binds)→bindL kindOf binds m x=m x
 | [],_,_=>rfl
 | (n,v)::r,m,h=>by
  unfold bindL
  rw[a5c fun w hw=>h w (List.mem_cons_of_mem _ hw)]
  split
  ·have:x≠n:=by rintro rfl;exact h v List.mem_cons_self
   simp[this]
  ·rfl
theorem a5d{kindOf:Str→Option NameKind}{x:Str}:∀{binds:List (Str×Value)} {m:Str→Option Value},(∀v,(x,v) ∉ binds)→bindC kindOf binds m x=m x
 | [],_,_=>rfl
 | (n,v)::r,m,h=>by
  unfold bindC
  rw[a5d fun w hw=>h w (List.mem_cons_of_mem _ hw)]
  split
  ·rfl
  ·have:x≠n:=by rintro rfl;exact h v List.mem_cons_self
   simp[this]
theorem a19{kindOf:Str→Option NameKind}{x:Str}{v:Value}:∀{P:List Str} {vs:List Value} {i:Nat} {m:Str→Option Value},P.Nodup→P[i]? = some x→vs[i]? = some v→kindOf x=some .local →
  bindL kindOf (P.zip vs) m x=some v
 | [],_,_,_,_,h,_,_=>by simp at h
 | _::_,[],_,_,_,_,h,_=>by simp at h
 | p::P,w::vs,0,m,nd,h1,h2,hk=>by
  simp at h1 h2;subst h1;subst h2
  show bindL kindOf ((p,w)::P.zip vs) m p=_
  unfold bindL
  rw[a5c fun v hv=>(List.nodup_cons.mp nd).1 (List.of_mem_zip hv).1,if_pos hk]
  simp
 | p::P,w::vs,i+1,m,nd,h1,h2,hk=>by
  show bindL kindOf ((p,w)::P.zip vs) m x=_
  unfold bindL
  exact a19 (i:=i) (List.nodup_cons.mp nd).2 (by simpa using h1) (by simpa using h2) hk
theorem a1_{kindOf:Str→Option NameKind}{x:Str}{v:Value}:∀{P:List Str} {vs:List Value} {i:Nat} {m:Str→Option Value},P.Nodup→P[i]? = some x→vs[i]? = some v→kindOf x≠some .local →
  bindC kindOf (P.zip vs) m x=some v
 | [],_,_,_,_,h,_,_=>by simp at h
 | _::_,[],_,_,_,_,h,_=>by simp at h
 | p::P,w::vs,0,m,nd,h1,h2,hk=>by
  simp at h1 h2;subst h1;subst h2
  show bindC kindOf ((p,w)::P.zip vs) m p=_
  unfold bindC
  rw[a5d fun v hv=>(List.nodup_cons.mp nd).1 (List.of_mem_zip hv).1,if_neg hk]
  simp
 | p::P,w::vs,i+1,m,nd,h1,h2,hk=>by
  show bindC kindOf ((p,w)::P.zip vs) m x=_
  unfold bindC
  exact a1_ (i:=i) (List.nodup_cons.mp nd).2 (by simpa using h1) (by simpa using h2) hk
def start(N:List Str)(vs:List V):St:=vs.map some++List.replicate (N.length-vs.length) none
noncomputable def S9(CX:CXT)(P:Program)(w:World)(K:W.Frag)(mg:Str→Option Value)(base:Heap)(N:List Str)(qual:Str)(scope:Scope)(f:Addr)(cd:Value)(A:Around)(outer:List Env)(s:Shared)(H:Hp)(E:XK):Cx where
 prog:=P
 w:=w
 K:=K
 mg:=mg
 base:=base
 A:=A.deeper (envOfC qual scope s.heap.objs.size f cd)
 N:=N
 s₀:=s
 H₀:=H
 env:=envOfC qual scope s.heap.objs.size f cd
 outer:=outer
 stack:=envOfC qual scope s.heap.objs.size f cd::outer
 ex:=[]
 calm:=true
 fn:=fun _=>true
 pn:=[]
 xe:=fun e s'=>wpAny (model P w) (A.deeper (envOfC qual scope s.heap.objs.size f cd)) (leaving (envOfC qual scope s.heap.objs.size f cd) e) (fun _ s''=>CX outer H s E e s'') (fun e' s''=>CX outer H s E e' s'') s'
theorem a1q{sc:Scope}{n:Nat}{x:Str}(h:sc.names.lookup x=some .cell):∃c,(cellsFrom n sc.names []).lookup x=some c:=by
 have q:=W.cellsFrom_some sc.names n [] (.inl h)
 exact Option.isSome_iff_exists.mp q
theorem a9j{CX:CXT}{P:Program}{w:World}{K:W.Frag}{mg:Str→Option Value}{base:Heap}{N ps:List Str}{qual:Str}{scope:Scope}{f:Addr}{cd:Value}{A:Around}{outer:List Env}{s s1:Shared}{H:Hp}{E:XK}{us:List Value}{vs:List V}
  (S:FnScope N ps scope) (hd:A.handled=none) (e0:Env0 P w K mg base A outer s H) (hl:vs.length=ps.length) (r:Vals vs us)
  (x:InCallC s s.heap.objs.size (bindL (envOfC qual scope s.heap.objs.size f cd).kindOf (ps.zip us) fun _=>none) (cellsFrom (s.heap.objs.size+1) scope.names []) (bindC (envOfC qual scope s.heap.objs.size f cd).kindOf (ps.zip us) fun _=>none) s1) :
  Inv (S9 CX P w K mg base N qual scope f cd A outer s H E) [] (start N vs) H s1:=by
 have hpl:ps.length≤N.length:=by have:=congrArg List.length S.pre;rw[List.length_take]at this;omega
 obtain⟨h1,tk,rfl,hk⟩:=x.done
 have noA:∀b:Addr,b ∉ (S9 CX P w K mg base N qual scope f cd A outer s H E).ex:=fun b z=>absurd (show b∈([]:List Addr)from z) (by simp)
 refine⟨⟨e0.mod,S.kind,rfl,rfl,Nat.le_refl _,fun y z c h1 h2=>?_,fun y hy=>?_,fun y c _ h=>?_,fun _=>hd,Around.frames_deeper e0.frames,.inr ⟨rfl,rfl⟩,fun b z=>absurd z (noA b),e0.bs,e0.bsz,fun b _ _=>noA b,fun b z=>absurd z (noA b),e0.funs,e0.frf⟩,
  rfl,e0.bare,Un.kept hk,⟨_,x.toInCall.ns,fun i y v h1 h2 h3=>?_⟩,fun y c h=>⟨_,x.cell y c h⟩,e0.hok.fresh (Nat.le_refl _),fun y c h=>?_,fun p hp=>absurd (show p∈([]:List (Addr×Obj))from hp) (by simp),e0.hok.kept hk,?_⟩
 ·exact name_of_addr x.apart (PySem.mem_of_lookup h1) (PySem.mem_of_lookup h2)
 ·have hy:scope.names.lookup y=some .cell∨scope.names.lookup y=some .free:=hy
  rcases hy with hy | hy
  ·exact a1q hy
  ·exact absurd rfl (S.nofree _ (PySem.mem_of_lookup hy))
 ·exact Nat.le_of_lt (x.above y c (PySem.mem_of_lookup h))
 ·have hi:i<vs.length:=by
   unfold start at h2
   by_cases hi:i<vs.length
   ·exact hi
   ·rw[List.getElem?_append_right (by simpa using hi)]at h2
    rw[List.getElem?_replicate]at h2
    split at h2<;>cases h2
  have ha:vs[i]? = some v:=by
   unfold start at h2
   rw[List.getElem?_append_left (by simpa using hi),List.getElem?_map]at h2
   cases e:vs[i]? with
   | none=>rw[e]at h2;cases h2
   | some a=>rw[e]at h2;cases h2;rfl
  obtain⟨u,hu,rv⟩:=r.get ha
  have hp:ps[i]? = some y:=by
   rw[← S.pre,List.getElem?_take_of_lt (by omega)];exact h1
  have ndP:ps.Nodup:=by rw[← S.pre];exact S.nd.sublist (List.take_sublist _ _)
  refine⟨u,rv,?_⟩
  rcases S.par y (List.mem_of_getElem? hp)with k | k
  ·exact .inl ⟨k,a19 ndP hp hu k⟩
  ·obtain⟨c,e⟩:=a1q (n:=s.heap.objs.size+1) k
   refine .inr ⟨.inl k,c,e,?_⟩
   have q:=x.cell y c e
   rw[a1_ ndP hp hu (by show scope.names.lookup y≠_;rw[k];decide)]at q
   exact q
 ·exact e0.hok.fresh (Nat.le_of_lt (x.above y c (PySem.mem_of_lookup h)))
 ·unfold start
  show _=N.length
  rw[List.length_append,List.length_map,List.length_replicate]
  omega
theorem a3C{CX:CXT}{P:Program}{w:World}{K:W.Frag}{mg:Str→Option Value}{base:Heap}{k:Nat}{f:Addr}{name qual:Str}{params:Arguments}{body:List Stmt}{scope:Scope}{dV kV doc pm cdv ct oc:Value}{an od:Option Addr}
  {osl:Array (Option Value)} {N ps:List Str} {sp:Sp} (lk:K.lookup f=some ⟨oc,od,.func (W.fnOf name qual params body scope dV kV doc pm an cdv ct),osl⟩) (hcd:W.codeIn K cdv qual=true) (S:FnScope N ps scope)
  (len:∀vs H Q E,sp vs H Q E→vs.length=ps.length)
  (hbody:∀(A:Around) (outer:List Env) (s:Shared) (H:Hp) (vs:List V) (Q:VK) (E:XK),Room k (A.deeper (envOfC qual scope s.heap.objs.size f cdv))→sp vs H Q E →
   ∃t,PSs (S9 CX P w K mg base N qual scope f cdv A outer s H E) body t∧t { nx:=fun _ H'=>Q .non H',rt:=Q } (start N vs) H) :
  FnOk P w K mg base CX (k+1) f (W.fnOf name qual params body scope dV kV doc pm an cdv ct) ps sp:=by
 refine⟨len,fun A outer s H args us vs Q E hr e0 hb r hsp=>?_⟩
 have hl:=len _ _ _ _ hsp
 have KX:K.In s.heap:=e0.mod.kin.keeps fun b o e=>(e0.bs b o e).1
 have lim:s.heap.NoLimit:=e0.mod.nolimit.keeps fun b o e=>(e0.bs b o e).1
 have hkind:∀y∈ps.zip us,scope.names.lookup y.1=some .local∨(scope.names.lookup y.1=some .cell∧((cellsFrom (s.heap.objs.size+1) scope.names []).lookup y.1).isSome=true):=fun⟨n,v⟩ hy=>by
  rcases S.par n (List.of_mem_zip hy).1 with q | q
  ·exact .inl q
  ·exact .inr ⟨q,W.cellsFrom_some _ _ _ (.inl q)⟩
 refine codeAny_call_function hr.depth (KX _ _ lk) rfl S.co S.gen rfl (W.codeRec_of KX hcd) (hb _ _ _ _ ?_)
 refine wpAny_newFunctionEnv_cells S.kind hkind fun env he s1 x=>?_
 subst he
 refine⟨lim.keeps x.toInCall.keep,codeAny_func ?_⟩
 obtain⟨t,ht,hq⟩:=hbody A outer s H vs Q E (hr.deeper _) hsp
 have I:Inv (S9 CX P w K mg base N qual scope f cdv A outer s H E) [] (start N vs) H s1:=a9j S hr.hd e0 hl r x
 refine wpAny_mono (ht [] s1 (start N vs) H _ I hq) (fun fl s' hs=>?_) fun e s' hs=>hs
 have fin:∀{σ':St} {H':Hp} {v:V} {u:Value},Inv (S9 CX P w K mg base N qual scope f cdv A outer s H E) [] σ' H' s'→RelV v u→Q v H'→CE outer P w H s Q u s' :=
  fun{σ' H' v u} J rv q=>⟨v,H',J.os,J.bare,J.base,J.hok,rv,q⟩
 cases fl with
 | ret u =>
  obtain⟨v,σ',H',J,rv,q⟩:=hs
  exact fin J rv q
 | next =>
  obtain⟨σ',H',J,q⟩:=hs
  exact fin (v:=V.non) (u:=Value.none) J rfl q
 | brk =>
  obtain⟨_,_,_,q⟩:=hs
  exact False.elim q
 | cont =>
  obtain⟨_,_,_,q⟩:=hs
  exact False.elim q
section
variable {X:Cx}{x:Str}{p pos:Pos}{e:Expr}{es:List Expr}{t:TA}{id T:String}{r:List V→Hp→VK→Prop}
def tCB(r:List V→Hp→VK→Prop)(t:TA):TE:=fun σ H Q=>t σ H fun vs H1=>r vs H1 Q
theorem l3(hc:T7 X (.builtin id) r)(hg:Gl X x)(hm:X.mg x=none)(hv:bootBuiltins x=some (.builtin id))(ha:PA X (e::es) t)(hn:x≠"__name__" := by decide)(hdb:(x == ("__debug__" : Str))=false:=by decide)
  (he:starEach (e::es) X.env=(false,eval e X.env)::starEach es X.env:=by rfl) (hpl:(backTo pos (starEach es X.env)).any (·.1)=false:=by rfl):PE X (.Call (.Name x p) (e::es) [] pos) (tCB r t):=by
 intro pins s σ H Q I h
 refine wpAny_Call_Name_kw (a12 I hg hm hv ?_ hn hdb)
 exact PyProof.Rows.callWith_builtin1 (m4 (ha pos pins s σ H _ I h) fun us s1 ⟨vs,H1,I1,r1,q1⟩=>hc pins s1 σ H1 vs us Q I1 r1 q1) he hpl
theorem a0M(hc:T7 X (.type T) r)(hg:Gl X x)(hm:X.mg x=none)(hv:bootBuiltins x=some (.type T))(ha:PA X (e::es) t)(hn:x≠"__name__" := by decide)(hdb:(x == ("__debug__" : Str))=false:=by decide)
  (he:starEach (e::es) X.env=(false,eval e X.env)::starEach es X.env:=by rfl) (hpl:(backTo pos (starEach es X.env)).any (·.1)=false:=by rfl):PE X (.Call (.Name x p) (e::es) [] pos) (tCB r t):=by
 intro pins s σ H Q I h
 refine wpAny_Call_Name_kw (a12 I hg hm hv ?_ hn hdb)
 exact PyProof.Rows.callWith_type1 (m4 (ha pos pins s σ H _ I h) fun us s1 ⟨vs,H1,I1,r1,q1⟩=>hc pins s1 σ H1 vs us Q I1 r1 q1) he hpl
end
end L2
namespace HT
open PySem PyProof.Rows
def lexLt:List Int→List Int→Bool
 | [],[]=>false
 | [],_::_=>true
 | _::_,[]=>false
 | x::xs,y::ys=>if x=y then lexLt xs ys else decide (x<y)
theorem lexLt_cons(x y:Int)(xs ys:List Int):lexLt (x::xs) (y::ys)=if x=y then lexLt xs ys else decide (x<y):=rfl
section
variable {prog:Program}{w:World}{A:Around}{E:Value→Shared→Prop}{s:Shared}
def sIx(n d:Nat):Option Int→Nat
 | none=>d
 | some v=>if v<0 then(v+(n:Int)).toNat else min v.toNat n
theorem sIx_nat(n d k:Nat):sIx n d (some (k:Int))=min k n:=by
 show(if(k:Int)<0 then((k:Int)+(n:Int)).toNat else min (k:Int).toNat n)=min k n
 rw[if_neg (by omega),Int.toNat_natCast]
end
end HT
namespace L2
open PySem PySem.Spec PyProof.Rows
abbrev TO:=St→Hp→(Option Int→Hp→Prop)→Prop
def PO(X:Cx)(e:Option Expr)(t:TO):Prop :=
 ∀(pins:List (Addr×Obj)) (s:Shared) (σ:St) (H:Hp) (Q:Option Int→Hp→Prop),Inv X pins σ H s→t σ H Q →
  wpAny (model X.prog X.w) X.A (evalPart e X.env) (fun u s'=>∃o H',Inv X pins σ H' s'∧IsPart u o∧Q o H') X.xe s
def b11(t:TE):TO:=fun σ H Q=>t σ H fun x H1=>∃i,x=.int i∧Q (some i) H1
section
variable {X:Cx}{e:Expr}{te:TE}{lo hi:Option Expr}{tl th:TO}{pos p2:Pos}
theorem a7n(h:PE X e te):PO X (some e) (b11 te):=by
 intro pins s σ H Q I hw
 rw[evalPart_some]
 refine m4 (h pins s σ H _ I hw) fun u s1 ⟨x,H1,I1,r1,q1⟩=>?_
 obtain⟨i,rfl,q⟩:=q1
 obtain⟨t,rfl⟩:=r1
 exact⟨some i,H1,I1,.int i t,q⟩
def SlR(X:Cx)(r:V→Option Int→Option Int→Hp→VK→Prop):Prop :=
 ∀(pins:List (Addr×Obj)) (s:Shared) (σ:St) (H:Hp) (x:V) (v vl vu:Value) (lo hi:Option Int) (sl:Addr) (Q:VK),Inv X pins σ H s→RelV x v→s.heap.IsSliceOf sl vl vu .none→IsPart vl lo→IsPart vu hi→r x lo hi H Q →
  ∃T id,typeLookup (.type T) "__getitem__" = pure (some (.builtin id))∧s.TypeIs v T∧wpAny (model X.prog X.w) X.A (getItem v (.ref sl)) (EP X pins σ Q) X.xe s
def tSl(r:V→Option Int→Option Int→Hp→VK→Prop)(te:TE)(tl th:TO):TE:=fun σ H Q=>te σ H fun x H1=>tl σ H1 fun l H2=>th σ H2 fun u H3=>r x l u H3 Q
theorem b0I{r:V→Option Int→Option Int→Hp→VK→Prop}(hr:SlR X r)(he:PE X e te)(hl:PO X lo tl)(hu:PO X hi th):PE X (.Subscript e (.Slice lo hi none p2) pos) (tSl r te tl th):=by
 intro pins s σ H Q I h
 refine Subscript_ (m4 (he pins s σ H _ I h) fun v s1 ⟨x,H1,I1,r1,q1⟩=>?_)
 refine wpAny_Slice (m4 (hl pins s1 σ H1 _ I1 q1) fun vl s2 ⟨l,H2,I2,pl,q2⟩=>m4 (hu pins s2 σ H2 _ I2 q2) fun vu s3 ⟨u,H3,I3,pu,q3⟩=>?_)
 rw[evalPart_none]
 refine wpAny_pure ?_
 have I4:Inv X pins σ H3 { s3 with heap:=s3.heap.push { cls:=.type "slice",data:=.fields #[vl,vu,.none] } }:=I3.kept (t':=s3.toks) fun b ob q=>Heap.get?_push_of_some _ q
 obtain⟨T,id,hT,ht,hg⟩:=hr pins { s3 with heap:=s3.heap.push { cls:=.type "slice",data:=.fields #[vl,vu,.none] } } σ H3 x v vl vu l u s3.heap.objs.size Q I4 r1 (Heap.IsSliceOf.new ..) pl pu q3
 show wpAny (model X.prog X.w) X.A (subscriptTail e (.Slice lo hi none p2) v (.ref s3.heap.objs.size)) (EP X pins σ Q) X.xe { s3 with heap:=s3.heap.push { cls:=.type "slice",data:=.fields #[vl,vu,.none] } }
 exact tail_any (ops:=[.ref s3.heap.objs.size,v]) ht hT hg (by with_unfolding_all rfl)
def a4y(xs:List V)(lo hi:Option Int):List V:=(xs.drop (HT.sIx xs.length 0 lo)).take (HT.sIx xs.length xs.length hi-HT.sIx xs.length 0 lo)
theorem a62(xs:List V)(lo hi:Option Int):(a4y xs lo hi).length≤xs.length:=by
 unfold a4y
 rw[List.length_take,List.length_drop]
 omega
end
def P9(n:Nat)(i:Int):Option Nat:=if 0≤i then(if i<n then some i.toNat else none)else if -(n:Int)≤i then some (i+n).toNat else none
def atI{α:Type}(xs:List α)(i:Int):Option α:=(P9 xs.length i).bind fun j=>xs[j]?
theorem a7o{n:Nat}{i:Int}{j:Nat}(h:P9 n i=some j):seqIndex? i n=some j∧j<n∧-(n:Int)≤i∧i<n:=by
 unfold P9 at h
 by_cases h0:0≤i
 ·rw[if_pos h0]at h
  by_cases h1:i<n
  ·rw[if_pos h1]at h
   have e:i.toNat=j:=Option.some.inj h
   exact⟨by rw[seqIndex_of h0 h1,e],by omega,by omega,h1⟩
  ·rw[if_neg h1]at h;cases h
 ·rw[if_neg h0]at h
  by_cases h1 : -(n:Int)≤i
  ·rw[if_pos h1]at h
   have e:(i+n).toNat=j:=Option.some.inj h
   exact⟨by rw[seqIndex_neg (by omega) h1,e],by omega,h1,by omega⟩
  ·rw[if_neg h1]at h;cases h
theorem a7p{α:Type}{xs:List α}{i:Int}{v:α}(h:atI xs i=some v):∃j,seqIndex? i xs.length=some j∧xs[j]? = some v∧j<xs.length∧-(xs.length:Int)≤i∧i<xs.length:=by
 unfold atI at h
 cases e:P9 xs.length i with
 | none=>rw[e]at h;cases h
 | some j =>
  rw[e]at h
  obtain⟨h1,h2,h3,h4⟩:=a7o e
  exact⟨j,h1,h,h2,h3,h4⟩
theorem P3{α:Type}{xs:List α}{j:Nat}{v:α}(h:xs[j]? = some v):atI xs (j:Int)=some v:=by
 have hj:j<xs.length:=(List.getElem?_eq_some_iff.mp h).1
 have e:P9 xs.length (j:Int)=some j:=by
  unfold P9
  rw[if_pos (by omega),if_pos (by omega)];simp
 unfold atI;rw[e];exact h
def b2N(b:Expr):Prop:=∀o i,subscripted b false o i=operate [o,i] (getItem o i)
def IxR(X:Cx)(r:R2):Prop :=
 ∀(value slice:Expr) (pins:List (Addr×Obj)) (s:Shared) (σ:St) (H:Hp) (x y:V) (v u:Value) (Q:VK),Inv X pins σ H s→RelV x v→RelV y u→r x y H Q →
  subscripted slice false v u=operate [v,u] (getItem v u)→wpAny (model X.prog X.w) X.A (subscriptTail value slice v u) (EP X pins σ Q) X.xe s
def MtR(X:Cx)(id:String)(r:V→List V→Hp→VK→Prop):Prop :=
 ∀(pins:List (Addr×Obj)) (s:Shared) (σ:St) (H:Hp) (x:V) (xs:List V) (v:Value) (us:List Value) (Q:VK),Inv X pins σ H s→RelV x v→Vals xs us→r x xs H Q →
  wpAny (model X.prog X.w) X.A (call (.builtin id) (v::us)) (EP X pins σ Q) X.xe s
section
variable {X:Cx}{a b:Expr}{ta tb:TE}{pos:Pos}
theorem g4{r:R2}(hr:IxR X r)(ha:PE X a ta)(hb:PE X b tb)(hs:b2N b):PE X (.Subscript a b pos) (tOp r ta tb):=by
 intro pins s σ H Q I h
 exact Subscript_ (b0G ha hb I h fun v u s2 x y H2 I2 rx ry q=>hr a b pins s2 σ H2 x y v u Q I2 rx ry q (hs _ _))
def b0J(K:W.Frag):R2:=fun x y H Q=>∃p xs i v,x=.ref p∧y=.int i∧SqL K H p xs∧atI xs i=some v∧Q v H
def b0K(K:W.Frag):R2:=fun x y H Q=>∃p xs i v,x=.ref p∧y=.int i∧SqT K H p xs∧atI xs i=some v∧Q v H
theorem b2O:IxR X (b0J X.K):=by
 intro value slice pins s σ H x y v u Q I rx ry h hs
 obtain⟨p,xs,i,z,rfl,rfl,hq,he,q⟩:=h
 cases rx
 obtain⟨t,rfl⟩:=ry
 obtain⟨its,r,pl,hz⟩:=I.list hq
 obtain⟨j,h1,h2,h3,h4,h5⟩:=a7p he
 obtain⟨w,ew,rw'⟩:=r.get h2
 have hl:=r.length
 have hn:=a3B
 have fin:EP X pins σ Q w s:=⟨z,H,I,rw',q⟩
 by_cases h0:0≤i
 ·have hj:i.toNat=j:=by
   rw[seqIndex_of h0 h5]at h1
   exact Option.some.inj h1
  exact item_listR pl.isList h0 (by omega) (by rw[hj];simpa using ew) fin hs
 ·have hj:(i+(its.toArray.size:Int)).toNat=j:=by
   rw[seqIndex_neg (by omega) h4]at h1
   rw[List.size_toArray,← hl]
   exact Option.some.inj h1
  exact subscriptTail_builtinR (x:=w) pl.isList.typeIs slot_list_getitem.lookup
   (wpAny_getItem_list_neg (Q:=fun r s'=>r=w∧EP X pins σ Q r s') pl.isList (by omega) (by rw[List.size_toArray]<;>omega) (by omega) (by rw[hj];simpa using ew) ⟨rfl,fin⟩) hs
theorem b4M:IxR X (b0K X.K):=by
 intro value slice pins s σ H x y v u Q I rx ry h hs
 obtain⟨p,xs,i,z,rfl,rfl,hq,he,q⟩:=h
 cases rx
 obtain⟨t,rfl⟩:=ry
 obtain⟨its,r,pl,hz⟩:=I.tuple hq
 obtain⟨j,h1,h2,h3,h4,h5⟩:=a7p he
 obtain⟨w,ew,rw'⟩:=r.get h2
 have hl:=r.length
 have hn:=a3B
 have fin:EP X pins σ Q w s:=⟨z,H,I,rw',q⟩
 exact subscriptTail_builtinR (x:=w) pl.typeIs slot_tuple_getitem.lookup
  (getItem_tuple (j:=j) (Q:=fun r s'=>r=w∧EP X pins σ Q r s') pl (by omega) (by omega) (by rw[List.size_toArray,← hl];exact h1) (by simpa using ew) ⟨rfl,fin⟩) hs
theorem a8m(its:List Value)(n j:Nat)(u:Value):Obj.mapSeq (·.setIfInBounds j u) { cls:=.type "list",data:=.seq its.toArray n }={ cls:=.type "list",data:=.seq (its.set j u).toArray n }:=by
 simp[Obj.mapSeq]
theorem Inv.lst{pins:List (Addr×Obj)}{σ:St}{H:Hp}{s:Shared}{p:Addr}{xs:List V}(I:Inv X pins σ H s)(h:H p=some (.lst xs)) :
  ∃(its:List Value) (n:Nat),Vals xs its∧s.heap.get? p=some { cls:=.type "list",data:=.seq its.toArray n }∧xs.length≤sizeLine:=by
 obtain⟨z,its,n,r,e⟩:=I.hok p _ h
 exact⟨its,n,r,e,z⟩
theorem Inv.lstUpd{pins:List (Addr×Obj)}{σ:St}{H:Hp}{s:Shared}{p:Addr}{xs ys:List V}{its its':List Value}{n n':Nat}{f:Obj→Obj}(I:Inv X pins σ H s)(h:H p=some (.lst xs))
  (ho:s.heap.get? p=some { cls:=.type "list",data:=.seq its.toArray n }) (hf:f { cls:=.type "list",data:=.seq its.toArray n }={ cls:=.type "list",data:=.seq its'.toArray n' }) (r:Vals ys its') (hz:ys.length≤sizeLine) (t:Nat) :
  Inv X pins σ (upd H p (.lst ys)) { s with heap:=s.heap.update p f,toks:=t }:=by
 have e:(s.heap.update p f).get? p=some { cls:=.type "list",data:=.seq its'.toArray n' }:=by
  rw[Heap.get?_update_self f ho (by rw[hf]<;>rfl),hf]
 refine I.write (x:=p) (e:=p) (by rw[h];trivial) (.inl rfl) (fun b u hb q=>(Heap.get?_update_other _ _ (Ne.symm hb)).trans q) ⟨_,e⟩ ?_
 exact⟨hz,its',n',r,e⟩
def a8n:V→V→V→Hp→(Hp→Prop)→Prop:=fun o i v H Q=>∃p xs k j,o=.ref p∧i=.int k∧H p=some (.lst xs)∧P9 xs.length k=some j∧Q (upd H p (.lst (xs.set j v)))
theorem X2:b4A X a8n:=by
 intro pins s σ H o i v ov iv u Q I ro ri rv h
 obtain⟨p,xs,k,j,rfl,rfl,hp,hj,q⟩:=h
 cases ro
 obtain⟨t,rfl⟩:=ri
 obtain⟨its,n,r,ho,hz⟩:=I.lst hp
 obtain⟨h1,h2,h3,h4⟩:=a7o hj
 have hl:=r.length
 have hn:=a3B
 have I':Inv X pins σ (upd H p (.lst (xs.set j v))) { s with heap:=s.heap.update p (Obj.mapSeq (·.setIfInBounds j u)) } :=
  I.lstUpd hp ho (a8m its n j u) (r.set rv j) (by rw[List.length_set];exact hz) s.toks
 by_cases h0:0≤k
 ·have hk:k.toNat=j:=by
   rw[seqIndex_of h0 h4]at h1
   exact Option.some.inj h1
  exact W.ki_setAt ho h0 (by omega) (by rw[List.size_toArray,← hl];exact h4) (by rw[hk];exact⟨_,I',q⟩)
 ·have hk:(k+(its.toArray.size:Int)).toNat=j:=by
   rw[seqIndex_neg (by omega) h3]at h1
   rw[List.size_toArray,← hl]
   exact Option.some.inj h1
  exact W.ki_setBack ho (by omega) (by rw[List.size_toArray,← hl];exact h3) (by omega) (by rw[hk];exact⟨_,I',q⟩)
theorem a55(lo hi:Option Int)(n:Nat):(sliceBounds lo hi none n).1=((HT.sIx n 0 lo:Nat):Int)∧(sliceBounds lo hi none n).2.1=((HT.sIx n n hi:Nat):Int)∧(sliceBounds lo hi none n).2.2=1:=by
 refine⟨?_,?_,rfl⟩
 ·cases lo with
  | none=>simp[sliceBounds,HT.sIx]
  | some i =>
   simp only[sliceBounds,HT.sIx,Option.getD_none,show(1:Int) > 0 by decide,if_true]
   by_cases h:i<0
   ·simp only[h,if_true]<;>omega
   ·simp only[h,if_false]<;>omega
 ·cases hi with
  | none=>simp[sliceBounds,HT.sIx]
  | some i =>
   simp only[sliceBounds,HT.sIx,Option.getD_none,show(1:Int) > 0 by decide,if_true]
   by_cases h:i<0
   ·simp only[h,if_true]<;>omega
   ·simp only[h,if_false]<;>omega
theorem a5E(its:List Value)(lo hi:Option Int):slicePick its.toArray lo hi none=((its.drop (HT.sIx its.length 0 lo)).take (HT.sIx its.length its.length hi-HT.sIx its.length 0 lo)).toArray:=by
 obtain⟨h1,h2,h3⟩:=a55 lo hi its.toArray.size
 unfold slicePick
 rw[h1,h2,h3]
 simp only[sliceRange_one,pick_run,List.size_toArray]<;>rfl
def b0L(K:W.Frag):V→Option Int→Option Int→Hp→VK→Prop:=fun x lo hi H Q=>∃a xs,x=.ref a∧SqL K H a xs∧∀p,H p=none→Q (.ref p) (upd H p (.lst (a4y xs lo hi)))
theorem b2P:SlR X (b0L X.K):=by
 intro pins s σ H x v vl vu lo hi sl Q I rx hs pl pu h
 obtain⟨a,xs,rfl,hx,q⟩:=h
 cases rx
 obtain⟨its,r,ht,hz⟩:=I.list hx
 have hlen:=r.length
 refine⟨"list",_,slot_list_getitem.lookup,ht.isList.typeIs,?_⟩
 refine wpAny_getItem_list_slice ht.isList hs pl pu .none (by simp) ?_ (by rw[List.size_toArray]<;>omega)
 rw[a5E,← hlen]
 refine⟨.ref s.heap.objs.size,_,I.laid (t':=s.toks) (o:=.lst (a4y xs lo hi)) (fun b ob q=>Heap.get?_push_of_some _ q) (Nat.le_refl _) ?_,rfl,q _ (I.hok.fresh (Nat.le_refl _))⟩
 exact⟨Nat.le_trans (a62 xs lo hi) hz,_,0,(r.drop (HT.sIx xs.length 0 lo)).take (HT.sIx xs.length xs.length hi-HT.sIx xs.length 0 lo),Heap.get?_push_size _ rfl⟩
def Y8:V→Bool
 | .non=>true
 | .bl _=>true
 | .int _=>true
 | .str _=>true
 | _=>false
def eqV:V→V→Bool
 | .non,.non=>true
 | .bl a,.bl b=>a == b
 | .bl a,.int b=>(if a then 1 else 0) == b
 | .int a,.bl b=>a == (if b then 1 else 0)
 | .int a,.int b=>a == b
 | .str a,.str b=>a == b
 | _,_=>false
theorem a9l{A:Around}{s:Shared}{y x:V}{u v:Value}(ry:RelV y u)(rx:RelV x v)(fy:Y8 y=true)(fx:Y8 x=true):SeqAt.EqAt A s u v (eqV y x):=by
 cases y with
 | non =>
  cases ry
  cases x with
  | non=>cases rx;exact SeqAt.EqAt.same _
  | bl b=>cases rx;exact SeqAt.EqAt.none_bool b
  | int b=>obtain⟨t,rfl⟩:=rx;exact SeqAt.EqAt.none_int b t
  | str b=>obtain⟨t,rfl⟩:=rx;exact SeqAt.EqAt.none_str b t
  | _=>exact absurd (show false=true from fx) Bool.false_ne_true
 | bl a =>
  cases ry
  cases x with
  | non=>cases rx;exact SeqAt.EqAt.bool_none a
  | bl b=>cases rx;exact SeqAt.EqAt.bool_bool a b
  | int b=>obtain⟨t,rfl⟩:=rx;exact SeqAt.EqAt.bool_int a b t
  | str b=>obtain⟨t,rfl⟩:=rx;exact SeqAt.EqAt.bool_str a b t
  | _=>exact absurd (show false=true from fx) Bool.false_ne_true
 | int a =>
  obtain⟨t',rfl⟩:=ry
  cases x with
  | non=>cases rx;exact SeqAt.EqAt.int_none a t'
  | bl b=>cases rx;exact SeqAt.EqAt.int_bool a t' b
  | int b=>obtain⟨t,rfl⟩:=rx;exact SeqAt.EqAt.int_int a t' b t
  | str b=>obtain⟨t,rfl⟩:=rx;exact SeqAt.EqAt.int_str a t' b t
  | _=>exact absurd (show false=true from fx) Bool.false_ne_true
 | str a =>
  obtain⟨t',rfl⟩:=ry
  cases x with
  | non=>cases rx;exact SeqAt.EqAt.str_none a t'
  | bl b=>cases rx;exact SeqAt.EqAt.str_bool a t' b
  | int b=>obtain⟨t,rfl⟩:=rx;exact SeqAt.EqAt.str_int a t' b t
  | str b=>obtain⟨t,rfl⟩:=rx;exact SeqAt.EqAt.str_str a t' b t
  | _=>exact absurd (show false=true from fx) Bool.false_ne_true
 | _=>exact absurd (show false=true from fy) Bool.false_ne_true
def eqU(x:V)(u:Value):Bool:=match u with
 | .none=>eqV .non x
 | .bool b=>eqV (.bl b) x
 | .int i _=>eqV (.int i) x
 | .str z _=>eqV (.str z) x
 | _=>false
theorem a9m{x y:V}{u:Value}(r:RelV y u)(f:Y8 y=true):eqU x u=eqV y x:=by
 cases y with
 | non=>cases r;rfl
 | bl b=>cases r;rfl
 | int i=>obtain⟨t,rfl⟩:=r;rfl
 | str z=>obtain⟨t,rfl⟩:=r;rfl
 | _=>exact absurd (show false=true from f) Bool.false_ne_true
theorem a1a{x:V}:∀{xs:List V} {us:List Value},Vals xs us→xs.all Y8=true→us.any (eqU x)=xs.any fun y=>eqV y x
 | _,_,.nil,_=>rfl
 | y::xs,u::us,.cons r t,f=>by
  rw[List.all_cons,Bool.and_eq_true]at f
  rw[List.any_cons,List.any_cons,a9m r f.1,a1a t f.2]
theorem a0t{A:Around}{s:Shared}{x:V}{v:Value}(rx:RelV x v)(fx:Y8 x=true):∀{xs:List V} {us:List Value},Vals xs us→xs.all Y8=true→∀u∈us,SeqAt.EqAt A s u v (eqU x u)
 | _,_,.nil,_=>fun u hu=>by cases hu
 | y::xs,u::us,.cons r t,f=>fun u' hu=>by
  rw[List.all_cons,Bool.and_eq_true]at f
  rcases List.mem_cons.mp hu with rfl | hu
  ·rw[a9m r f.1];exact a9l r rx f.1 fx
  ·exact a0t rx fx t f.2 u' hu
def inV(x:V)(xs:List V):Bool:=xs.any fun y=>eqV y x
def rIn(K:W.Frag)(neg:Bool):R2:=fun x y H Q=>∃p xs,y=.ref p∧(SqL K H p xs∨SqT K H p xs)∧Y8 x=true∧xs.all Y8=true∧Q (.bl (if neg then !inV x xs else inV x xs)) H
theorem a9o:G7 X (compareOp .In) (rIn X.K false):=by
 intro pins s σ H x y v u Q I rx ry h
 obtain⟨p,xs,rfl,hq,fx,fs,q⟩:=h
 cases ry
 rcases hq with hq | hq
 ·obtain⟨its,r,pl,hz⟩:=I.list hq
  refine SeqAt.in_listAt (eqU x) pl.isList (fun w hw=>a0t rx fx r fs w (by simpa using hw)) ⟨.bl _,H,I,rfl,?_⟩
  rw[show its.toArray.any (eqU x)=its.any (eqU x) by simp,a1a r fs]
  exact q
 ·obtain⟨its,r,pl,hz⟩:=I.tuple hq
  refine SeqAt.in_tupleAt (eqU x) pl (fun w hw=>a0t rx fx r fs w (by simpa using hw)) ⟨.bl _,H,I,rfl,?_⟩
  rw[show its.toArray.any (eqU x)=its.any (eqU x) by simp,a1a r fs]
  exact q
theorem a56:G7 X (compareOp .NotIn) (rIn X.K true):=by
 intro pins s σ H x y v u Q I rx ry h
 obtain⟨p,xs,rfl,hq,fx,fs,q⟩:=h
 cases ry
 rcases hq with hq | hq
 ·obtain⟨its,r,pl,hz⟩:=I.list hq
  refine SeqAt.notIn_listAt (eqU x) pl.isList (fun w hw=>a0t rx fx r fs w (by simpa using hw)) ⟨.bl _,H,I,rfl,?_⟩
  rw[show its.toArray.any (eqU x)=its.any (eqU x) by simp,a1a r fs]
  exact q
 ·obtain⟨its,r,pl,hz⟩:=I.tuple hq
  refine SeqAt.notIn_tupleAt (eqU x) pl (fun w hw=>a0t rx fx r fs w (by simpa using hw)) ⟨.bl _,H,I,rfl,?_⟩
  rw[show its.toArray.any (eqU x)=its.any (eqU x) by simp,a1a r fs]
  exact q
theorem a57:T7 X (.builtin "len") (fun xs H Q=>∃p ys,xs=[.ref p]∧(SqL X.K H p ys∨SqT X.K H p ys)∧Q (.int ys.length) H):=by
 intro pins s σ H xs us Q I r h
 obtain⟨p,ys,rfl,hq,q⟩:=h
 obtain⟨u,rfl,rx⟩:=a5M r
 cases rx
 have hn:=a3B
 rcases hq with hq | hq
 ·obtain⟨its,r',pl,hz⟩:=I.list hq
  have hlen:=r'.length
  exact Calls.call_len_list pl.isList (by simp only[List.size_toArray]<;>omega) ⟨.int ys.length,H,I.tok _,⟨s.toks+1,by rw[List.size_toArray,hlen]⟩,q⟩
 ·obtain⟨its,r',pl,hz⟩:=I.tuple hq
  have hlen:=r'.length
  exact len_tuple pl (by simp only[List.size_toArray]<;>omega) ⟨.int ys.length,H,I.tok _,⟨s.toks+1,by rw[List.size_toArray,hlen]⟩,q⟩
theorem a58:T7 X (.type "list") (fun xs H Q=>∃p ys,xs=[.ref p]∧(SqL X.K H p ys∨SqT X.K H p ys)∧∀l,H l=none→Q (.ref l) (upd H l (.lst ys))):=by
 intro pins s σ H xs us Q I r h
 obtain⟨p,ys,rfl,hq,q⟩:=h
 obtain⟨u,rfl,rx⟩:=a5M r
 cases rx
 have fin:∀(its:List Value),Vals ys its→ys.length≤sizeLine→∀(h':Heap) (c':Nat),(∀b o',s.heap.get? b=some o'→h'.get? b=some o') →
   h'.get? s.heap.objs.size=some { cls:=.type "list",dict:=none,data:=.seq its.toArray c',slots := #[] }→EP X pins σ Q (.ref s.heap.objs.size) { s with heap:=h' }:=fun its r' hz h' c' kp e =>
  ⟨.ref s.heap.objs.size,_,I.laid (t':=s.toks) kp (Nat.le_refl _) (show ObjOk X.prog X.w _ h' _ (.lst ys)from⟨hz,its,c',r',e⟩),rfl,q _ (I.hok.fresh (Nat.le_refl _))⟩
 rcases hq with hq | hq
 ·obtain⟨its,r',pl,hz⟩:=I.list hq
  have hlen:=r'.length
  obtain⟨o,ho,hc,n,hd⟩:=pl.isList
  exact call_list_seq p (.inl rfl) ho hc hd (fun h' c' kp e=>fin its r' hz h' c' kp e) (by simp only[List.size_toArray]<;>omega)
 ·obtain⟨its,r',pl,hz⟩:=I.tuple hq
  have hlen:=r'.length
  obtain⟨o,ho,hc,n,hd⟩:=pl
  exact call_list_seq p (.inr rfl) ho hc hd (fun h' c' kp e=>fin its r' hz h' c' kp e) (by simp only[List.size_toArray]<;>omega)
def tyV(K:W.Frag)(T:String)(x:V)(H:Hp):Prop:=match x with
 | .str _=>T = "str"
 | .int _=>T = "int"
 | .ref p=>(T = "list"∧∃xs,SqL K H p xs)∨(T = "tuple"∧∃o,K.lookup p=some o∧o.cls=.type "tuple"∧o.dict=none) ∨
   (T = "dict"∧((∃kvs,H p=some (.dK kvs))∨∃kvs,H p=some (.dT kvs)))∨(T = "set"∧∃S n,H p=some (.set S n))
 | _=>False
theorem a9p{pins:List (Addr×Obj)}{σ:St}{H:Hp}{s:Shared}{T:String}{x:V}{v:Value}(I:Inv X pins σ H s)(r:RelV x v)(ty:tyV X.K T x H) :
  s.TypeIs v T∧∀a,v=.ref a→∃ob,s.heap.get? a=some ob∧ob.dict=none:=by
 cases x with
 | str z =>
  obtain⟨t,rfl⟩:=r
  cases (show T = "str" from ty)
  exact⟨typeIs_str s z t,fun _ e=>nomatch e⟩
 | int i =>
  obtain⟨t,rfl⟩:=r
  cases (show T = "int" from ty)
  exact⟨typeIs_int s i t,fun _ e=>nomatch e⟩
 | ref p =>
  cases r
  rcases ty with⟨rfl,xs,hq⟩ | ⟨rfl,o,hk,hc,hd⟩ | ⟨rfl,hk⟩ | ⟨rfl,S,n,hk⟩
  ·obtain⟨its,_,pl,_⟩:=I.list hq
   refine⟨pl.isList.typeIs,fun a e=>?_⟩
   cases e
   obtain⟨o,n,e,c,hd,_⟩:=pl
   exact⟨o,e,hd⟩
  ·refine⟨⟨o,I.kIn p o hk,hc⟩,fun a e=>?_⟩
   cases e
   exact⟨o,I.kIn _ o hk,hd⟩
  ·have z:∃o,s.heap.get? p=some o∧o.ExactDict:=by
    rcases hk with⟨kvs,hk⟩ | ⟨kvs,hk⟩
    ·obtain⟨_,_,_,_,o,_,_,e,ex,_⟩:=I.hok p _ hk
     exact⟨o,e,ex⟩
    ·obtain⟨_,_,_,_,o,_,_,e,ex,_⟩:=I.hok p _ hk
     exact⟨o,e,ex⟩
   obtain⟨o,e,ex⟩:=z
   refine⟨⟨o,e,ex.1⟩,fun a e2=>?_⟩
   cases e2
   exact⟨o,e,ex.2.1⟩
  ·obtain⟨o,_,_,_,e,ex,_⟩:=I.hok p _ hk
   refine⟨⟨o,e,ex.1⟩,fun a e2=>?_⟩
   cases e2
   exact⟨o,e,ex.2.1⟩
 | _=>exact False.elim ty
def b0M(K:W.Frag)(T:String)(r:V→List V→Hp→VK→Prop)(to:TE):TE:=fun σ H Q=>to σ H fun x H1=>tyV K T x H1∧r x [] H1 Q
def tBM(K:W.Frag)(T:String)(r:V→List V→Hp→VK→Prop)(to:TE)(t:TA):TE:=fun σ H Q=>to σ H fun x H1=>tyV K T x H1∧t σ H1 fun xs H2=>r x xs H2 Q
variable {o e:Expr}{es:List Expr}{to:TE}{t:TA}{name:Str}{apos cpos:Pos}{T id:String}{r:V→List V→Hp→VK→Prop}
theorem b4N(pa:PlainAttrs T)(slot:Slot T name id)(hty:typeOf (.builtin id)=pure (.type "method_descriptor"))(hm:MtR X id r)(ho:PE X o to)
  (hbase:attributeBase o name X.env (eval o X.env)=eval o X.env:=by rfl) (hline:(apos.endLine == cpos.line)=true:=by rfl):PE X (.Call (.Attribute o name apos) [] [] cpos) (b0M X.K T r to):=by
 intro pins s σ H Q I h
 refine wpAny_Call_method0_late hbase hline (m4 (ho pins s σ H _ I h) fun v s1 ⟨x,H1,I1,r1,ty,q1⟩=>?_)
 obtain⟨h1,h2⟩:=a9p I1 r1 ty
 exact⟨T,id,pa,slot,hty,h1,h2,Calls.callWith_builtin rfl (PySem.evalArgs_none (hm pins s1 σ H1 x [] v [] Q I1 r1 .nil q1))⟩
theorem b51(pa:PlainAttrs T)(slot:Slot T name id)(hty:typeOf (.builtin id)=pure (.type "method_descriptor"))(hm:MtR X id r)(ho:PE X o to)(ha:PA X (e::es) t)
  (hbase:attributeBase o name X.env (eval o X.env)=eval o X.env:=by rfl)
  (hfew:((backTo cpos (starEach (e::es) X.env)).all (fun x=>!x.1) && (backToKw cpos (keywordEach [] X.env)).all (fun x=>x.1.isSome)
   && decide ((e::es).length+([]:List Keyword).length+(if([]:List Keyword).isEmpty then 0 else 1)<30))=true:=by rfl)
  (hline:(apos.endLine == cpos.line)=true:=by rfl) (hs:starEach (e::es) X.env=(false,eval e X.env)::starEach es X.env:=by rfl) (hplain:(backTo cpos (starEach es X.env)).any (·.1)=false:=by rfl) :
  PE X (.Call (.Attribute o name apos) (e::es) [] cpos) (tBM X.K T r to t):=by
 intro pins s σ H Q I h
 refine wpAny_Call_method_late hbase hfew hline rfl (m4 (ho pins s σ H _ I h) fun v s1 ⟨x,H1,I1,r1,ty,q1⟩=>?_)
 obtain⟨h1,h2⟩:=a9p I1 r1 ty
 refine⟨T,id,pa,slot,hty,h1,h2,?_⟩
 have hA:=ha cpos pins s1 σ H1 _ I1 q1
 rw[hs]at hA ⊢
 refine Calls.callWith_builtin (by show(false || (backTo cpos (starEach es X.env)).any (·.1))=false;rw[hplain]<;>rfl) (Calls.evalArgs_plain ?_)
 exact m4 hA fun us s2 ⟨vs,H2,I2,r2,q2⟩=>hm pins s2 σ H2 x vs v us Q I2 r1 r2 q2
end
def MtM(X:Cx)(id:String)(r:V→List V→Hp→VK→Prop):Prop :=
 ∀(pins:List (Addr×Obj)) (s:Shared) (σ:St) (H:Hp) (x:V) (xs:List V) (v:Value) (us:List Value) (Q:VK),Inv X pins σ H s→RelV x v→Vals xs us→r x xs H Q →
  wpAny (model X.prog X.w) X.A (call (.builtin id) (v::us)) (EP X pins σ Q) X.xe s
theorem Vals.one:∀{x:V} {us:List Value},Vals [x] us→∃u,us=[u]∧RelV x u
 | _,_,.cons r .nil=>⟨_,rfl,r⟩
theorem Vals.zero:∀{us:List Value},Vals [] us→us=[]
 | _,.nil=>rfl
theorem Vals.dropLast{xs:List V}{us:List Value}(h:Vals xs us):Vals xs.dropLast us.dropLast:=by
 induction h with
 | nil=>exact .nil
 | cons r t ih =>
  cases t with
  | nil=>exact .nil
  | cons q t'=>exact .cons r ih
theorem Vals.eraseIdx:∀{xs:List V} {us:List Value} (i:Nat),Vals xs us→Vals (xs.eraseIdx i) (us.eraseIdx i)
 | _,_,_,.nil=>.nil
 | _,_,0,.cons _ t=>t
 | _,_,i+1,.cons r t=>.cons r (Vals.eraseIdx i t)
theorem Vals.reverse{xs:List V}{us:List Value}(h:Vals xs us):Vals xs.reverse us.reverse:=by
 induction h with
 | nil=>exact .nil
 | cons r t ih=>rw[List.reverse_cons,List.reverse_cons];exact Vals.append ih (.cons r .nil)
theorem Vals.rep{xs:List V}{us:List Value}(h:Vals xs us):∀k:Nat,Vals (List.replicate k xs).flatten (List.replicate k us).flatten
 | 0=>.nil
 | k+1=>by
  rw[List.replicate_succ,List.replicate_succ,List.flatten_cons,List.flatten_cons]
  exact Vals.append h (Vals.rep h k)
theorem a8o{α:Type}(l:List α):l.eraseIdx (l.length-1)=l.dropLast:=by
 induction l with
 | nil=>rfl
 | cons a r ih =>
  cases r with
  | nil=>rfl
  | cons b r =>
   have e:(a::b::r).length-1=((b::r).length-1)+1:=by
    have h1:(a::b::r).length=r.length+2:=rfl
    have h2:(b::r).length=r.length+1:=rfl
    omega
   rw[e,List.eraseIdx_cons_succ,ih]
   all_goals rfl
theorem a5e{α:Type}:∀(l:List α) (i:Nat),(l.eraseIdx i).length≤l.length
 | [],_=>Nat.le_refl _
 | _::_,0=>Nat.le_succ _
 | _::r,i+1=>Nat.succ_le_succ (a5e r i)
theorem a5f(its:List Value):∀(k:Nat) (acc:List Value),
  List.foldl (fun x1 x2=>x1++x2) acc.toArray (List.replicate k its.toArray)=(acc++(List.replicate k its).flatten).toArray
 | 0,acc=>by simp
 | k+1,acc=>by
  have e:acc.toArray++its.toArray=(acc++its).toArray:=by simp
  have e2:(acc++its)++(List.replicate k its).flatten=acc++(List.replicate (k+1) its).flatten:=by
   rw[List.replicate_succ,List.flatten_cons,List.append_assoc]
  rw[← e2,← a5f its k (acc++its),← e,List.replicate_succ,List.foldl_cons]
section
variable {X:Cx}{pins:List (Addr×Obj)}{σ:St}{H:Hp}{s:Shared}{l b:Addr}{xs ys zs:List V}
theorem Inv.lset{its its':List Value}{n:Nat}{f:Array Value→Array Value}{t':Nat}(I:Inv X pins σ H s)(hH:H l=some (.lst xs))
  (e:s.heap.get? l=some { cls:=.type "list",data:=.seq its.toArray n }) (hf:f its.toArray=its'.toArray) (hv:Vals ys its') (hz:ys.length≤sizeLine) :
  Inv X pins σ (upd H l (.lst ys)) { s with heap:=s.heap.update l (Obj.mapSeq f),toks:=t' }:=by
 have q:=PySem.IsL.update e f
 rw[hf]at q
 refine I.write (x:=l) (e:=l) (by rw[hH];exact trivial) (.inl rfl) (fun b' u hb hu=>(Heap.get?_update_other s.heap (Obj.mapSeq f) (Ne.symm hb)).trans hu) ⟨_,q⟩ ?_
 exact⟨hz,its',_,hv,q⟩
theorem Inv.lnew{its:List Value}{t':Nat}(I:Inv X pins σ H s)(hv:Vals ys its)(hz:ys.length≤sizeLine) :
  Inv X pins σ (upd H s.heap.objs.size (.lst ys)) { s with heap:=s.heap.push { cls:=.type "list",data:=.seq its.toArray },toks:=t' } :=
 I.laid (fun _ _ q=>Heap.get?_push_of_some _ q) (Nat.le_refl _) ⟨hz,its,0,hv,Heap.get?_push_size _ rfl⟩
theorem Inv.fresh(I:Inv X pins σ H s):H s.heap.objs.size=none:=I.hok.fresh (Nat.le_refl _)
theorem Inv.lstM(I:Inv X pins σ H s)(hH:H l=some (.lst xs)):xs.length≤sizeLine∧∃(its:List Value) (n:Nat),Vals xs its∧xs.length=its.length∧s.heap.get? l=some { cls:=.type "list",data:=.seq its.toArray n }:=by
 obtain⟨z,its,n,r,e⟩:=I.hok l _ hH
 exact⟨z,its,n,r,r.length,e⟩
theorem b0N{n:Nat}(h:n≤sizeLine):Builtin.List.listTooLong n=false:=by
 unfold Builtin.List.listTooLong
 exact decide_eq_false (by omega)
end
section
variable {X:Cx}
def a7q:V→List V→Hp→VK→Prop:=fun x vs H Q=>∃l xs y,x=.ref l∧vs=[y]∧H l=some (.lst xs)∧xs.length<sizeLine∧Q .non (upd H l (.lst (xs++[y])))
theorem C9:MtM X "list.append" a7q:=by
 intro pins s σ H x vs v us Q I rx rv h
 obtain⟨l,xs,y,rfl,rfl,hH,hz,q⟩:=h
 cases rx
 obtain⟨u,rfl,ru⟩:=rv.one
 obtain⟨z,its,n,r,hl,e⟩:=I.lstM hH
 refine call_meets F.slot_list_append ⟨_,e,rfl⟩ F.entry_list_append (F.args_list_append_2 _ _) (PySem.list_append l its.toArray n u (by rw[List.size_toArray];omega)) ⟨e,?_⟩
 refine⟨.non,_,I.lset (its':=its++[u]) hH e (by simp) (r.append (.cons ru .nil)) ?_,rfl,q⟩
 rw[List.length_append,List.length_singleton]
 omega
def b4P:V→List V→Hp→VK→Prop:=fun x vs H Q=>∃l xs y,x=.ref l∧vs=[]∧H l=some (.lst xs)∧xs[xs.length-1]? = some y∧Q y (upd H l (.lst xs.dropLast))
theorem a9q:MtM X "list.pop" b4P:=by
 intro pins s σ H x vs v us Q I rx rv h
 obtain⟨l,xs,y,rfl,rfl,hH,hy,q⟩:=h
 cases rx
 have hus:=rv.zero
 subst hus
 obtain⟨z,its,n,r,hl,e⟩:=I.lstM hH
 obtain⟨u,hu,ru⟩:=r.get hy
 have hy':its.toArray[its.toArray.size-1]? = some u:=by
  show its.toArray[its.length-1]? = some u
  rw[← Array.getElem?_toList,← hl]
  exact hu
 refine call_meets F.slot_list_pop ⟨_,e,rfl⟩ F.entry_list_pop (F.args_list_pop_1 _) (MeetsSeq.list_pop_last l its.toArray n u hy' (by rw[List.size_toArray];omega)) ⟨e,?_⟩
 refine⟨y,_,I.lset (its':=its.dropLast) hH e ?_ r.dropLast ?_,ru,q⟩
 ·show its.toArray.eraseIdxIfInBounds (its.toArray.size-1)=its.dropLast.toArray
  rw[List.size_toArray,List.eraseIdxIfInBounds_toArray,a8o]
 ·rw[List.length_dropLast]
  omega
def a9r:V→List V→Hp→VK→Prop:=fun x vs H Q=>∃l xs i k y,x=.ref l∧vs=[.int i]∧H l=some (.lst xs)∧-(2 ^ 63)≤i∧i<2 ^ 63∧seqIndex? i xs.length=some k∧xs[k]? = some y∧Q y (upd H l (.lst (xs.eraseIdx k)))
theorem b0O:MtM X "list.pop" a9r:=by
 intro pins s σ H x vs v us Q I rx rv h
 obtain⟨l,xs,i,k,y,rfl,rfl,hH,h1,h2,hk,hy,q⟩:=h
 cases rx
 obtain⟨u,rfl,ru⟩:=rv.one
 obtain⟨t,rfl⟩:=ru
 obtain⟨z,its,n,r,hl,e⟩:=I.lstM hH
 obtain⟨w,hw,rw'⟩:=r.get hy
 refine call_meets F.slot_list_pop ⟨_,e,rfl⟩ F.entry_list_pop (F.args_list_pop_2 _ _)
  (MeetsSeq.list_pop_at l its.toArray n i t k w (fitsIndex_both h1 h2) (by rw[List.size_toArray,← hl];exact hk) (by rw[← Array.getElem?_toList];exact hw) (by rw[List.size_toArray];omega)) ⟨e,?_⟩
 refine⟨y,_,I.lset (its':=its.eraseIdx k) hH e ?_ (r.eraseIdx k) ?_,rw',q⟩
 ·show its.toArray.eraseIdxIfInBounds k=(its.eraseIdx k).toArray
  rw[List.eraseIdxIfInBounds_toArray]
 ·have:=a5e xs k
  omega
def b4Q:R2:=fun x y H Q=>∃l k xs,x=.ref l∧y=.int k∧H l=some (.lst xs)∧-(2 ^ 63)≤k∧k<2 ^ 63∧xs.length*k.toNat≤sizeLine ∧
 ∀p,H p=none→Q (.ref p) (upd H p (.lst (List.replicate k.toNat xs).flatten))
theorem b2Q{α:Type}(xs:List α)(k:Nat):(List.replicate k xs).flatten.length=k*xs.length:=by
 induction k with
 | zero=>simp
 | succ k ih=>rw[List.replicate_succ,List.flatten_cons,List.length_append,ih,Nat.succ_mul,Nat.add_comm]
theorem b4R:G7 X (binaryOp .Mult) b4Q:=by
 intro pins s σ H x y v u Q I rx ry h
 obtain⟨l,k,xs,rfl,rfl,hH,h1,h2,hz,q⟩:=h
 cases rx
 obtain⟨t,rfl⟩:=ry
 obtain⟨z,its,n,r,hl,e⟩:=I.lstM hH
 have hlen:its.toArray.size*k.toNat≤sizeLine:=by rw[List.size_toArray,← hl];exact hz
 have hcap:¬its.toArray.size*k.toNat > (2 ^ 63-1)/8:=by
  have:(sizeLine:Nat)≤(2 ^ 63-1)/8:=by decide
  omega
 have hfit:¬(!Builtin.List.listFitsIndex k)=true:=by
  rw[fitsIndex_both h1 h2]
  exact Bool.false_ne_true
 have hlong:¬Builtin.List.listTooLong (its.toArray.size*k.toNat)=true:=by
  rw[b0N hlen]
  exact Bool.false_ne_true
 have hnew:List.foldl (fun x1 x2=>x1++x2) #[] (List.replicate (if its.toArray.isEmpty=true then 0 else k.toNat) its.toArray)=(List.replicate k.toNat its).flatten.toArray:=by
  have f0:∀m:Nat,List.foldl (fun x1 x2=>x1++x2) #[] (List.replicate m its.toArray)=(List.replicate m its).flatten.toArray:=fun m=>by
   have:=a5f its m []
   rw[List.nil_append]at this
   exact this
  rw[f0]
  cases its with
  | nil=>simp
  | cons a r'=>rw[if_neg (by simp)]
 refine wpAny_binaryOp_repeat_ref (T := "list") (U := "int") (by decide) ⟨_,e,rfl⟩ (fun s'=>typeIs_int s' k t) noFill_list_mul F.fills_int_mul F.slot_int_rmul repeat_list F.slot_int_index.lookup
  (call_meets F.slot_int_rmul (typeIs_int s k t) F.entry_int_rmul (F.args_int_rmul_2 _ _) (int___rmul___int_list k t l its.toArray n)
   ⟨e,rfl,⟨_,e,rfl⟩,call_meets F.slot_list_mul ⟨_,e,rfl⟩ F.entry_list_mul (F.args_list_mul_2 _ _) (AutoListH.list___mul___list_int_3 l its.toArray n k t hfit hcap hlong) ⟨e,?_⟩⟩)
 rw[hnew]
 exact⟨.ref _,_,I.lnew (t':=s.toks) (r.rep k.toNat) (by rw[b2Q,Nat.mul_comm];exact hz),rfl,q _ I.fresh⟩
end
end L2
namespace Att
open PySem PySem.W PySem.Calls PyProof.Rows
theorem a3D{P:Params}{h:Heap}:∀(ns:List Int) (vs:List Value),WellAll P h vs (ns.map WData.int)→IntsAre vs ns:=by
 intro ns
 induction ns with
 | nil =>
  intro vs w
  rw[List.map_nil]at w
  cases w
  exact .nil
 | cons n ns ih =>
  intro vs w
  rw[List.map_cons]at w
  cases w with
  | cons a b =>
   cases a
   exact .cons _ _ (ih _ b)
theorem script_of{l:OpenLaw}{n:Nat}(hn:l.most=some n){P:Params}{h:Heap}{args:List WData}{vals:List Value}
  (hpre:l.row.toRowW.claim.pre args=true) (hwl:WellAll P h vals args) :
  ∃a vs ns,vals=[Value.ref a]∧args=[WData.list (ns.map WData.int)]∧h.get? a=some { cls:=.type "list",data:=.seq vs.toArray }∧IntsAre vs ns∧ns.length≤n:=by
 have hsh:WShape.hasAll [] args [.list .int]=true:=(pre_splitW hpre).1
 have hc:l.pre.holds [] { args:=args }=true:=(pre_splitW hpre).2
 obtain⟨d,r,rfl,h1,h2⟩:=hasAllW_cons hsh
 obtain rfl:=hasAllW_nil h2
 obtain⟨xs,rfl,h3⟩:=hasW_list h1
 obtain⟨ns,rfl⟩:=items_int h3
 have hlen:ns.length≤n:=by
  unfold OpenLaw.pre at hc
  have h4:(WTm.not (.lt (.lit (.int (n:Int))) (.len (.arg 0)))).holds [] { args:=[.list (ns.map .int)] }=true:=by
   have h4:=(holds_andW hc).1
   rw[hn]at h4
   exact h4
  have h5:=condW_of h4 (w_not (w_lt w_lit (w_len_list (w_arg rfl))))
  rw[List.length_map]at h5
  refine Nat.le_of_not_lt fun q=>?_
  have q':(n:Int)<((ns.length:Nat):Int):=by omega
  first
   | (rw[decide_eq_true q']at h5;exact absurd h5 (by decide))
   | (simp at h5;omega)
 cases hwl with
 | cons w1 w2 =>
  cases w2
  cases w1 with
  | list ho hall=>exact⟨_,_,ns,rfl,rfl,ho,a3D ns _ hall,hlen⟩
theorem post_true(l:OpenLaw)(args:List WData):l.row.toRowW.claim.post args (.bool true) args=true :=
 postW_of (r:=l.row.toRowW) (X:=(true == true))
  (show WShape.has [] (.bool true) .bool=true by first | rfl | decide | simp[WShape.has,WShape.arms,WShape.armsAll])
  (show(WTm.eq .res (.lit (.bool true))).value [] { args:=args,res:=some (.bool true),after:=args }=some (.bool (true == true))from w_eq_bool (w_res rfl) w_lit) rfl
end Att
namespace L2
open PySem PySem.Spec PyProof.Rows
theorem a5g:∀{vs:List Value} {ns:List Int},IntsAre vs ns→Vals (ns.map V.int) vs
 | _,_,.nil=>.nil
 | _,_,.cons n t h=>.cons ⟨t,rfl⟩ (a5g h)
def b6I(H:Hp):Prop:=∀b,H b=none∨∃o xs,H b=some (.frz o (.lst xs))
def b2R(s:Stmt)(j:Nat):Stmt:=match s with
 | .ClassDef _ _ _ body _ _ _ _ _ _ _=>body.getD j (.Pass ⟨0,0,0,0⟩)
 | _=>.Pass ⟨0,0,0,0⟩
def m7(s:Stmt):Arguments:=match s with
 | .FunctionDef _ a _ _ _ _ _ _ _ _=>a
 | _=>{ posonlyargs:=[],args:=[],vararg:=none,kwonlyargs:=[],kw_defaults:=[],kwarg:=none,defaults:=[] }
def j7(s:Stmt):List Stmt:=match s with
 | .FunctionDef _ _ b _ _ _ _ _ _ _=>b
 | _=>[]
def d9(s:Stmt):Scope:=match s with
 | .FunctionDef _ _ _ _ _ _ sc _ _ _=>sc
 | _=>{ kind:=.function,names:=[],isGenerator:=false,isCoroutine:=false }
abbrev CX0:CXT:=fun _ _ _ _ _ _=>False
abbrev E0:XK:=fun _ _ _=>False
structure Fun(K:W.Frag)(x qual:Str)(st:Stmt)(f:Addr)(fd:FuncData):Prop where
 ex:∃(oc:Value) (od:Option Addr) (kV doc pm:Value) (an:Option Addr) (cdv ct:Value) (osl:Array (Option Value)),
  fd=W.fnOf x qual (m7 st) (j7 st) (d9 st) .none kV doc pm an cdv ct∧K.lookup f=some ⟨oc,od,.func fd,osl⟩∧W.codeIn K cdv qual=true
 kp:W.keepIn K (.ref f)=true
section
variable {P:Program}{w:World}{K:W.Frag}{mg:Str→Option Value}{base:Heap}
theorem Fun.ok{x qual:Str}{st:Stmt}{f:Addr}{fd:FuncData}{N ps:List Str}{k:Nat}{sp:Sp}(F:Fun K x qual st f fd)(S:FnScope N ps (d9 st))(len:∀vs H Q E,sp vs H Q E→vs.length=ps.length)
  (hbody:∀(cdv:Value) (A:Around) (outer:List Env) (s:Shared) (H:Hp) (vs:List V) (Q:VK) (E:XK),Room k (A.deeper (envOfC qual (d9 st) s.heap.objs.size f cdv))→sp vs H Q E →
   ∃t,PSs (S9 CX0 P w K mg base N qual (d9 st) f cdv A outer s H E).nox (j7 st) t∧t { nx:=fun _ H'=>Q .non H',rt:=Q } (start N vs) H):FnOk P w K mg base CX0 (k+1) f fd ps sp:=by
 obtain⟨oc,od,kV,doc,pm,an,cdv,ct,osl,rfl,lk,hcd⟩:=F.ex
 refine a3C lk hcd S len fun A outer s H vs Q E hr hsp=>?_
 obtain⟨t,h,q⟩:=hbody cdv A outer s H vs Q E hr hsp
 exact⟨t,h.nox,q⟩
theorem Fun.binds{x qual:Str}{st:Stmt}{f:Addr}{fd:FuncData}{ps:List Str}(F:Fun K x qual st f fd)
  (h:∀(kV doc pm:Value) (an:Option Addr) (cdv ct:Value) (us:List Value),us.length=ps.length→bindArgs (W.fnOf x qual (m7 st) (j7 st) (d9 st) .none kV doc pm an cdv ct) ⟨us,[]⟩=pure (ps.zip us)):Binds K fd ps []:=by
 obtain⟨oc,od,kV,doc,pm,an,cdv,ct,osl,rfl,lk,hcd⟩:=F.ex
 exact .all (h kV doc pm an cdv ct)
theorem y6{x qual:Str}{st:Stmt}{f:Addr}{oc:Value}{od an:Option Addr}{osl:Array (Option Value)}{kV doc pm cdv ct:Value}(l:K.lookup f=some ⟨oc,od,.func (W.fnOf x qual (m7 st) (j7 st) (d9 st) .none kV doc pm an cdv ct),osl⟩)
  (c:W.codeIn K cdv qual=true) (k:W.keepIn K (.ref f)=true):Fun K x qual st f (W.fnOf x qual (m7 st) (j7 st) (d9 st) .none kV doc pm an cdv ct):=⟨⟨oc,od,kV,doc,pm,an,cdv,ct,osl,rfl,l,c⟩,k⟩
end
section
variable {X:Cx}
theorem pv(i:Nat){x:Str}{pos:Pos}(hN:X.N[i]? = some x:=by rfl)(hv:Vis X.env.scope x:=by first | exact Or.inl rfl | exact Or.inr (Or.inl rfl) | exact Or.inr (Or.inr rfl))(hd:(x == ("__debug__" : Str))=false:=by decide)
  (hcd:(x == ("__classdict__" : Str))=false:=by decide):PE X (.Name x pos) (D2 i):=b4x hN hv hd hcd
end
def Same(H H':Hp):Prop:=∀b o,H b=some o→H' b=some o
theorem Same.refl(H:Hp):Same H H:=fun _ _ h=>h
theorem Same.trans{H H1 H2:Hp}(a:Same H H1)(b:Same H1 H2):Same H H2:=fun c o h=>b c o (a c o h)
theorem Same.free{H H':Hp}(e:Same H H'){l:Addr}(h:H' l=Option.none):H l=Option.none:=by
 cases q:H l with
 | none=>rfl
 | some o =>
  rw[e l o q]at h
  cases h
theorem Same.seq{K:W.Frag}{H H':Hp}{a:Addr}{xs:List V}(e:Same H H')(h:SqL K H a xs):SqL K H' a xs:=by
 rcases h with(h | ⟨o,h⟩) | h
 ·exact .inl (.inl (e _ _ h))
 ·exact .inl (.inr ⟨o,e _ _ h⟩)
 ·exact .inr h
end L2
set_option maxHeartbeats 4000000
namespace L2
open PySem PySem.Spec PyProof.Rows
theorem ObjOk.there{P:Program}{w:World}{H:Hp}{h:Heap}{a:Addr}{o:HO}(x:ObjOk P w H h a o):∃ob,h.get? a=some ob:=by
 cases o with
 | lst xs=>obtain⟨_,_,_,_,e⟩:=x;exact⟨_,e⟩
 | tup xs=>obtain⟨_,_,_,p⟩:=x;obtain⟨o,e,_⟩:=p;exact⟨_,e⟩
 | dK kvs=>obtain⟨_,_,_,_,o,_,_,e,_⟩:=x;exact⟨_,e⟩
 | dT kvs=>obtain⟨_,_,_,_,o,_,_,e,_⟩:=x;exact⟨_,e⟩
 | set S n=>obtain⟨o,_,_,_,e,_⟩:=x;exact⟨_,e⟩
 | ins C dx fs=>obtain⟨_,_,_,e,_⟩:=x;exact⟨_,e⟩
 | own y=>obtain⟨_,e⟩:=x;exact⟨_,e⟩
 | xd fs=>obtain⟨_,⟨_,_,_,e,_⟩,_⟩:=x;exact⟨_,e⟩
 | rng lo hi=>obtain⟨_,_,_,e⟩:=x;exact⟨_,e⟩
 | frz ob u=>obtain⟨e,_⟩:=x;exact⟨_,e⟩
 | tbl ps=>obtain⟨_,e,_⟩:=x;exact⟨_,e⟩
 | met f y=>exact⟨_,(show h.get? a=some _ from x)⟩
 | ext φ=>obtain⟨_,⟨_,e⟩,_⟩:=x;exact⟨_,e⟩
def Imp(X:Cx)(pins:List (Addr×Obj))(H:Hp)(b:Addr):Prop:=H b≠none∨(b ∉ X.ex∧∃o,X.s₀.heap.get? b=some o)∨∃p∈X.pn++pins,p.1=b
def a27:Option Addr→Value
 | none=>.none
 | some n=>if n%2=0 then .ref (n/2)else .none
def a2a:Option Addr→Option Addr
 | none=>none
 | some n=>if n%2=0 then none else some (n/2)
def TrX(h B:Heap)(e:Addr)(cls:Value)(cx:Option Addr)(fl:Value):Prop :=
 ∃oe vs T oT ts,(h.get? e=some oe∧oe.cls=cls∧oe.data=.fields vs∧oe.dict=a2a cx)∧(vs[1]? = some (.ref T)∧vs[2]? = some (a27 cx))∧(B.get? T=none∧T≠e)∧h.get? T=some oT∧oT.data=.fields ts∧ts[3]? = some fl
theorem Obj.dict_mapF(o:Obj)(g:Array Value→Array Value):(Obj.mapFields g o).dict=o.dict:=by
 obtain⟨a,b,c,d⟩:=o
 cases c<;>rfl
theorem a0u(T:Addr):(Value.ref T != Value.none)=true:=by simp
inductive Ph where | new | fly | any
def XTr(B h:Heap)(a:Addr)(cls:Value)(cx:Option Addr):Ph→Prop
 | .new=>∃oe vs,h.get? a=some oe∧oe.cls=cls∧oe.data=.fields vs∧vs[1]? = some .none∧vs[2]? = some (a27 cx)∧oe.dict=a2a cx
 | .fly=>TrX h B a cls cx .none
 | .any=>∃fl,TrX h B a cls cx fl
theorem XTr.there{B h:Heap}{a:Addr}{cls:Value}{cx:Option Addr}{ph:Ph}(x:XTr B h a cls cx ph):∃oe vs,h.get? a=some oe∧oe.cls=cls∧oe.data=.fields vs∧vs[2]? = some (a27 cx)∧oe.dict=a2a cx:=by
 cases ph with
 | new=>obtain⟨oe,vs,h1,h2,h3,_,h4,h5⟩:=x;exact⟨oe,vs,h1,h2,h3,h4,h5⟩
 | fly=>obtain⟨oe,vs,_,_,_,⟨h1,h2,h3,h5⟩,⟨_,h4⟩,_⟩:=x;exact⟨oe,vs,h1,h2,h3,h4,h5⟩
 | any=>obtain⟨_,oe,vs,_,_,_,⟨h1,h2,h3,h5⟩,⟨_,h4⟩,_⟩:=x;exact⟨oe,vs,h1,h2,h3,h4,h5⟩
section
variable {M:Model}{A:Around}{E:Value→Shared→Prop}{s:Shared}
def a3F(B:Heap)(l:List Env)(e:Addr)(cls:Value)(cx:Option Addr)(fl:Value)(h h':Heap):Prop:=B.StaysIn h'∧h'.FunFrames B l∧TrX h' B e cls cx fl∧h.UpToSlots h'
theorem a7r{B:Heap}{env:Env}{outer:List Env}{L e:Addr}{oe:Obj}{vs:Array Value}{head:Value}{cx:Option Addr}{nx:Bool}{Q:Unit→Shared→Prop}(fr:A.frames=some (env::outer))(ff:s.heap.FunFrames B (env::outer))(hf:env.frame=some L)
  (ge:s.heap.get? e=some oe) (st:B.StaysIn s.heap) (be:B.get? e=none) (de:oe.data=.fields vs) (z1:1<vs.size) (z2:vs[2]? = some (a27 cx)) (z6:oe.dict=a2a cx) (q:∀h',a3F B (env::outer) e oe.cls cx (rawInt L) s.heap h'→Q () { s with heap:=h' }) :
  wpAny M A (do let a ← frameOf env;let pl ← entryPlaceOf L nx;let b ← EntryCells.newEntry head a .none (rawInt L) .none pl;setField (.ref e) 1 b) Q E s:=by
 have nf:∀b o,s.heap.get? b=some o→(∀ws,o.data≠.fields ws)→b≠e:=fun b o gb nb zb=>by subst zb;rw[ge]at gb;cases gb;exact nb vs de
 have out:e ∉ (env::outer).filterMap (·.frame):=fun m=>by obtain⟨_,o,go,no⟩:=ff.mem m;exact nf e o go no rfl
 refine wpAny_bind (wpAny_frameOf_fun fr ff hf fun h1 only=>wpAny_bind (wpAny_entryPlaceOf fun pl place=>?_))
 unfold EntryCells.newEntry newFields
 refine wpAny_bind (wpAny_newObj_type ?_ (place.sizeOk5 _ _ _ _ _))
 have ge1:h1.get? e=some oe:=(only.2.1 e out).trans ge
 have st1:B.StaysIn h1:=fun b o gb=>(only.2.1 b fun m=>by have:=(ff.mem m).1;rw[this]at gb;cases gb).trans (st b o gb)
 have ne1:h1.objs.size≠e:=fun z=>absurd (Heap.lt_size ge1) (by rw[z];exact Nat.lt_irrefl _)
 refine wpAny_setField (Heap.get?_push_of_some _ ge1) de z1 (q _ ?_)
 have far:∀{ob:Obj} {g:Obj→Obj} {b:Addr} {o:Obj},b≠e→h1.get? b=some o→((h1.push ob).update e g).get? b=some o:=fun ne gb=>(Heap.get?_update_other _ _ (Ne.symm ne)).trans (Heap.get?_push_of_some _ gb)
 refine⟨fun b o gb=>far (fun z=>by rw[z,be]at gb;cases gb) (st1 b o gb),ff.of_keeps fun b o gb nb=>?_,?_,fun b o gb nb=>?_⟩
 ·obtain⟨sl,g⟩:=only.2.2 b o gb;exact⟨_,far (nf b o gb nb) g,rfl⟩
 ·have dd:=Obj.data_mapFields de (·.setIfInBounds 1 (Value.ref h1.objs.size))
  refine⟨_,_,h1.objs.size,_,_,⟨Heap.get?_update_self _ (Heap.get?_push_of_some _ ge1) (Obj.isFreed_of_fields dd),Obj.cls_mapFields _ _,dd,(Obj.dict_mapF _ _).trans z6⟩,⟨by simp[z1],by rw[Array.getElem?_setIfInBounds_ne (by decide)];exact z2⟩,⟨st1.fresh,ne1⟩,(Heap.get?_update_other _ _ (Ne.symm ne1)).trans (Heap.get?_push_size h1 rfl),rfl,?_⟩
  first | (simp;done) | (rcases place with rfl | ⟨_,_,_,_,_,_,_,rfl⟩<;>simp)
 ·obtain⟨sl,g⟩:=only.2.2 b o gb;exact⟨sl,far (nf b o gb nb) g⟩
theorem a8p{B:Heap}{env:Env}{outer:List Env}{L e:Addr}{oe:Obj}{vs:Array Value}{cx:Option Addr}{Q:Unit→Shared→Prop}(fr:A.frames=some (env::outer))(ff:s.heap.FunFrames B (env::outer))(hf:env.frame=some L)
  (ge:s.heap.get? e=some oe) (st:B.StaysIn s.heap) (be:B.get? e=none) (de:oe.data=.fields vs) (z1:vs[1]? = some .none) (z2:vs[2]? = some (a27 cx)) (z6:oe.dict=a2a cx) (q:∀h',a3F B (env::outer) e oe.cls cx (rawInt L) s.heap h'→Q () { s with heap:=h' }):wpAny M A (noteFrame (.ref e) env) Q E s:=by
 unfold noteFrame
 simp only[hf]
 refine wpAny_bind (wpAny_field ge de z1 ?_)
 rw[if_neg (by decide)]
 exact a7r fr ff hf ge st be de (Array.getElem?_eq_some_iff.mp z1).1 z2 z6 q
theorem b2S{B:Heap}{env:Env}{outer:List Env}{L e:Addr}{cls:Value}{cx:Option Addr}{Q:Unit→Shared→Prop}(fr:A.frames=some (env::outer))(ff:s.heap.FunFrames B (env::outer))(hf:env.frame=some L)
  {fl:Value} (t:TrX s.heap B e cls cx fl) (nl:¬(fl == rawInt L)=true) (st:B.StaysIn s.heap) (be:B.get? e=none) (q:∀h',a3F B (env::outer) e cls cx (rawInt L) s.heap h'→Q () { s with heap:=h' }):wpAny M A (noteFrame (.ref e) env) Q E s:=by
 obtain⟨oe,vs,T,oT,ts,⟨ge,rfl,de,z6⟩,⟨z1,z2⟩,⟨bT,nT⟩,gT,dT,z3⟩:=t
 unfold noteFrame
 simp only[hf]
 refine wpAny_bind (wpAny_field ge de z1 ?_)
 rw[if_pos (a0u T)]
 refine wpAny_bind (wpAny_field gT dT z3 ?_)
 rw[if_neg nl]
 refine wpAny_bind (wpAny_setField gT dT (Array.getElem?_eq_some_iff.mp z3).1 ?_)
 have far:∀{g:Obj→Obj} b,b≠T→(s.heap.update T g).get? b=s.heap.get? b:=fun b ne=>Heap.get?_update_other _ _ (Ne.symm ne)
 have nf:∀b o,s.heap.get? b=some o→(∀ws,o.data≠.fields ws)→b≠T:=fun b o gb nb zb=>by subst zb;rw[gT]at gb;cases gb;exact nb ts dT
 refine a7r fr (ff.of_keeps fun b o gb nb=>⟨o,(far b (nf b o gb nb)).trans gb,rfl⟩) hf ((far e (Ne.symm nT)).trans ge) (fun b o gb=>(far b fun z=>by rw[z,bT]at gb;cases gb).trans (st b o gb)) be de (Array.getElem?_eq_some_iff.mp z1).1 z2 z6 fun h' x=>q h' ⟨x.1,x.2.1,x.2.2.1,fun b o gb nb=>?_⟩
 exact x.2.2.2 b o ((far b (nf b o gb nb)).trans gb) nb
theorem a8q{B:Heap}{env:Env}{L e:Addr}{cls:Value}{cx:Option Addr}{fl:Value}{Q:Unit→Shared→Prop}(hf:env.frame=some L)(t:TrX s.heap B e cls cx fl)(el:(fl == rawInt L)=true)(q:Q () s):wpAny M A (noteFrame (.ref e) env) Q E s:=by
 obtain⟨oe,vs,T,oT,ts,⟨ge,rfl,de,z6⟩,⟨z1,z2⟩,⟨bT,nT⟩,gT,dT,z3⟩:=t
 unfold noteFrame
 simp only[hf]
 refine wpAny_bind (wpAny_field ge de z1 ?_)
 rw[if_pos (a0u T)]
 refine wpAny_bind (wpAny_field gT dT z3 ?_)
 rw[if_pos el]
 exact wpAny_pure q
theorem b0P{B:Heap}{l:List Env}{e:Addr}{cls fl:Value}{cx fr:Option Addr}{Q:Unit→Shared→Prop}(st:B.StaysIn s.heap)(ff:s.heap.FunFrames B l)(t:TrX s.heap B e cls cx fl)
  (q:∀h',a3F B l e cls cx (fr.elim Value.none fun f=>rawInt f) s.heap h'→Q () { s with heap:=h' }):wpAny M A (setFlight (.ref e) fr) Q E s:=by
 obtain⟨oe,vs,T,oT,ts,⟨ge,rfl,de,z6⟩,⟨z1,z2⟩,⟨bT,nT⟩,gT,dT,z3⟩:=t
 have z4:3<ts.size:=(Array.getElem?_eq_some_iff.mp z3).1
 have far:∀{g:Obj→Obj} b,b≠T→(s.heap.update T g).get? b=s.heap.get? b:=fun b ne=>Heap.get?_update_other _ _ (Ne.symm ne)
 have nf:∀b o,s.heap.get? b=some o→(∀ws,o.data≠.fields ws)→b≠T:=fun b o gb nb zb=>by subst zb;rw[gT]at gb;cases gb;exact nb ts dT
 unfold setFlight
 refine wpAny_bind (wpAny_field ge de z1 ?_)
 rw[if_pos (a0u T)]
 refine wpAny_setField gT dT z4 (q _ ⟨fun b o gb=>(far b fun z=>by rw[z,bT]at gb;cases gb).trans (st b o gb),ff.of_keeps fun b o gb nb=>⟨o,(far b (nf b o gb nb)).trans gb,rfl⟩,?_,fun b o gb nb=>⟨o.slots,(far b (nf b o gb nb)).trans gb⟩⟩)
 have dd:=Obj.data_mapFields dT (·.setIfInBounds 3 (fr.elim Value.none fun f=>rawInt f))
 exact⟨oe,vs,T,_,_,⟨(far e (Ne.symm nT)).trans ge,rfl,de,z6⟩,⟨z1,z2⟩,⟨bT,nT⟩,Heap.get?_update_self _ gT (Obj.isFreed_of_fields dd),dd,by simp[z4]⟩
end
structure XAt(X:Cx)(pins:List (Addr×Obj))(H:Hp)(s:Shared)(a:Addr)(cls:Value)(cx:Option Addr)(B:Heap)(ph:Ph):Prop where
 free:H a=none
 stays:B.StaysIn s.heap
 fresh:B.get? a=none
 frames:s.heap.FunFrames B X.stack
 cov:∀b o,s.heap.get? b=some o→Imp X pins H b→b ∉ K9 X.stack→B.get? b=some o
 tr:XTr B s.heap a cls cx ph
section
variable {X:Cx}{pins:List (Addr×Obj)}{σ:St}{H:Hp}{s:Shared}{a:Addr}{cls:Value}{cx:Option Addr}{B h':Heap}{ph:Ph}
theorem Imp.there(I:Inv X pins σ H s){b:Addr}(i:Imp X pins H b):∃o,s.heap.get? b=some o:=by
 rcases i with i | ⟨hx,o,i⟩ | ⟨p,hp,e⟩
 ·cases q:H b with
  | none=>exact absurd q i
  | some u=>exact(I.hok b u q).there
 ·exact I.base.there b o i hx
 ·exact⟨p.2,by rw[← e];exact(I.pin p hp).1⟩
theorem Inv.exc(I:Inv X pins σ H s)(cov:∀b o,s.heap.get? b=some o→Imp X pins H b→b ∉ K9 X.stack→B.get? b=some o)(st:B.StaysIn h')(ups:s.heap.UpToSlots h') :
  Inv X pins σ H { s with heap:=h' }:=by
 have fr:∀b,b∈K9 X.stack→∀o,s.heap.get? b=some o→∃sl,h'.get? b=some { o with slots:=sl }:=fun b hb o e=>by
  obtain⟨_,o',e',d⟩:=I.stack.mem hb
  rw[e]at e';cases e'
  exact ups b o e d
 have nfr:∀b,b ∉ X.fs→b≠X.env.locals→b ∉ K9 X.stack:=fun b h1 h2 z=>(List.mem_cons.mp (I.stkSub b z)).elim h2 h1
 have neL:∀b o,X.s₀.heap.get? b=some o→b≠X.env.locals:=fun b o e=>Nat.ne_of_lt (Nat.lt_of_lt_of_le (Heap.lt_size e) I.ok.above)
 have cellK:∀c v,s.heap.IsCell c v→h'.IsCell c v:=fun c v ⟨o,ho,hd⟩=>by
  obtain⟨sl,q⟩:=ups c o ho (fun vs z=>by rw[hd]at z;cases z)
  exact⟨_,q,hd⟩
 refine⟨I.ok,I.os,I.bare,⟨fun b o e n hb hx=>?_,fun b o e n hb hx=>?_,I.base.free,fun b o e hx=>?_,I.base.tups,I.base.frzs,I.base.tbls⟩,?_,fun x c e=>?_,I.free,I.freeC,fun p hp=>?_,?_,I.len⟩
 ·exact st _ _ (cov b o (I.base.keep b o e n hb hx) (.inr (.inl ⟨hx,o,e⟩)) (nfr b hb (neL b o e)))
 ·obtain⟨sl,e1⟩:=I.base.slot b o e n hb hx
  have hb':b∈K9 X.stack:=by
   rcases I.ok.stk with q | ⟨q,hf⟩
   ·rw[q];exact hb
   ·rw[q];unfold K9;rw[List.filterMap_cons,hf];exact List.mem_cons_of_mem _ hb
  obtain⟨sl',e2⟩:=fr b hb' _ e1
  exact⟨sl',e2⟩
 ·obtain⟨o',e1⟩:=I.base.there b o e hx
  by_cases hb:b∈K9 X.stack
  ·obtain⟨sl,q⟩:=fr b hb _ e1
   exact⟨_,q⟩
  ·exact⟨o',st _ _ (cov b o' e1 (.inr (.inl ⟨hx,o,e⟩)) hb)⟩
 ·obtain⟨m,hn,hl⟩:=I.loc
  refine⟨m,ups.ns hn,fun i x v e1 e2 e3=>?_⟩
  obtain⟨u,r,l⟩:=hl i x v e1 e2 e3
  refine⟨u,r,?_⟩
  rcases l with l | ⟨k,c,e,z⟩
  ·exact .inl l
  ·exact .inr ⟨k,c,e,cellK c _ z⟩
 ·obtain⟨v,z⟩:=I.cell x c e
  exact⟨v,cellK c v z⟩
 ·obtain⟨e,n,ne,nf,d⟩:=I.pin p hp
  exact⟨st _ _ (cov p.1 p.2 e (.inr (.inr ⟨p,hp,rfl⟩)) (nfr p.1 nf ne)),n,ne,nf,d⟩
 ·intro b u e
  refine(I.hok b u e).stay (fun c v hc q=>?_) (fun _ q=>q) (fun _ _ q=>q) fun _ _ _ q=>q
  have hc':H c≠none:=by
   rcases hc with z | z
   ·rw[z,e];exact fun q=>nomatch q
   ·rw[z];exact fun q=>nomatch q
  exact st _ _ (cov c v q (.inl hc') fun z=>hc' (I.stkFree c z))
theorem XAt.cov'(x:XAt X pins H s a cls cx B ph)(I:Inv X pins σ H s)(st:B.StaysIn h'):∀b o,h'.get? b=some o→Imp X pins H b→b ∉ K9 X.stack→B.get? b=some o:=fun b o e i n=>by
 obtain⟨o1,e1⟩:=i.there I
 have q:=x.cov b o1 e1 i n
 have q2:=st _ _ q
 rw[e]at q2;cases q2
 exact q
variable {M:Model}{A:Around}{E:Value→Shared→Prop}{Q:Unit→Shared→Prop}
theorem b0Q{e:Value}{env env0:Env}(h:env0.frame=env.frame):noteFrame e env=noteFrame e env0:=by
 unfold noteFrame PySem.frameOf
 rw[h]
theorem a7s{env0:Env}{out0:List Env}{F:Addr}(hA:A.frames=some X.stack)(hs:X.stack=env0::out0)(h0:env0.frame=X.env.frame)(hf:X.env.frame=some F)(I:Inv X pins σ H s)(x:XAt X pins H s a cls cx B ph)
  (hQ:∀h',Inv X pins σ H { s with heap:=h' }→XAt X pins H { s with heap:=h' } a cls cx B .any→Q () { s with heap:=h' }):wpAny M A (noteFrame (.ref a) X.env) Q E s:=by
 have hfr:A.frames=some (env0::out0):=by rw[hA,hs]
 have hl:s.heap.FunFrames B (env0::out0):=by rw[← hs];exact x.frames
 rw[b0Q h0]
 have hf:env0.frame=some F:=h0.trans hf
 have fin:∀{fl:Value} h',a3F B (env0::out0) a cls cx fl s.heap h'→Q () { s with heap:=h' }:=fun h' ⟨k1,k2,k3,k4⟩ =>
  hQ h' (I.exc x.cov k1 k4) ⟨x.free,k1,x.fresh,by rw[hs];exact k2,x.cov' I k1,_,k3⟩
 have on:∀fl,TrX s.heap B a cls cx fl→wpAny M A (noteFrame (.ref a) env0) Q E s:=fun fl t=>by
  by_cases z:(fl == rawInt F)=true
  ·exact a8q hf t z (hQ s.heap I ⟨x.free,x.stays,x.fresh,x.frames,x.cov,fl,t⟩)
  ·exact b2S hfr hl hf t z x.stays x.fresh fin
 cases ph with
 | new =>
  obtain⟨oe,vs,he,hc,hd,h1,h2,h6⟩:=x.tr
  refine a8p hfr hl hf he x.stays x.fresh hd h1 h2 h6 fun h' hN=>?_
  rw[hc]at hN
  exact fin h' hN
 | fly=>exact on _ x.tr
 | any=>obtain⟨fl,t⟩:=x.tr;exact on fl t
theorem a4z(I:Inv X pins σ H s)(x:XAt X pins H s a cls cx B ph)(hn:ph≠.new)
  (hQ:∀h',Inv X pins σ H { s with heap:=h' }→XAt X pins H { s with heap:=h' } a cls cx B .fly→Q () { s with heap:=h' }):wpAny M A (setFlight (.ref a) none) Q E s:=by
 have go:∀fl,TrX s.heap B a cls cx fl→wpAny M A (setFlight (.ref a) none) Q E s:=fun fl ht =>
  b0P x.stays x.frames ht fun h' ⟨k1,k2,k3,k4⟩=>hQ h' (I.exc x.cov k1 k4) ⟨x.free,k1,x.fresh,k2,x.cov' I k1,k3⟩
 cases ph with
 | new=>exact absurd rfl hn
 | fly=>exact go _ x.tr
 | any=>obtain⟨fl,t⟩:=x.tr;exact go fl t
end
noncomputable def y8(P:Program)(w:World):CXT:=fun outer H s E e s' =>
 ∃(a:Addr) (cls:Value) (cx:Option Addr) (H':Hp) (B:Heap),e=.ref a∧s'.os=s.os∧AllBare s'.gens∧Un (K9 outer) [] H H' s.heap s'.heap∧HOk P w H' s'.heap∧B.StaysIn s'.heap∧B.get? a=none∧s'.heap.FunFrames B outer ∧
  TrX s'.heap B a cls cx .none∧H' a=none∧(∀b o,s'.heap.get? b=some o→(H' b≠none∨∃o',s.heap.get? b=some o')→b ∉ K9 outer→B.get? b=some o)∧E cls cx H'
def XAcc(X:Cx)(E:XK):Prop:=∀(pins:List (Addr×Obj)) (σ:St) (H:Hp) (s:Shared) (a:Addr) (cls:Value) (cx:Option Addr) (B:Heap) (ph:Ph),Inv X pins σ H s→XAt X pins H s a cls cx B ph→E cls cx H→X.xe (.ref a) s
theorem X3{P:Program}{w:World}{K:W.Frag}{mg:Str→Option Value}{base:Heap}{N:List Str}{qual:Str}{scope:Scope}{f:Addr}{cd:Value}{A:Around}{outer:List Env}{s:Shared}{H:Hp}{E:XK} :
  XAcc (S9 (y8 P w) P w K mg base N qual scope f cd A outer s H E) E:=by
 intro pins σ H1 s1 a cls cx B ph I x e
 show wpAny (model P w) (A.deeper (envOfC qual scope s.heap.objs.size f cd)) (leaving (envOfC qual scope s.heap.objs.size f cd) (.ref a)) _ _ s1
 unfold leaving
 refine wpAny_bind (a7s (X:=S9 (y8 P w) P w K mg base N qual scope f cd A outer s H E) I.ok.frames rfl rfl rfl I x fun h1 I1 x1=>?_)
 refine a4z I1 x1 (fun z=>nomatch z) fun h2 I2 x2=>?_
 refine⟨a,cls,cx,H1,B,rfl,I2.os,I2.bare,I2.base,I2.hok,x2.stays,x2.fresh,x2.frames.2.2,x2.tr,x2.free,fun b o e1 i n=>?_,e⟩
 have nl:b≠(envOfC qual scope s.heap.objs.size f cd).locals:=fun z=>by
  rcases i with i | ⟨o',i⟩
  ·exact i (by rw[z];exact I2.free)
  ·have:=Heap.lt_size i
   rw[z]at this
   exact absurd this (Nat.lt_irrefl _)
 refine x2.cov b o e1 (i.elim .inl fun z=>.inr (.inl ⟨List.not_mem_nil,z⟩)) fun z=>?_
 rcases List.mem_cons.mp (I2.stkSub b z)with q | q
 ·exact nl q
 ·exact n q
theorem XAcc.passes{X:Cx}{E:XK}(acc:XAcc X E):a0_ (y8 X.prog X.w) X E:=by
 intro pins σ H s e s' I h
 obtain⟨a,cls,cx,H',B,rfl,os,bare,un,hok,st,fr,ff,tr,free,cov,hE⟩:=h
 have I':Inv X pins σ H' s':=I.call' (ch:=[]) os un hok bare (fun b z=>absurd z (by simp))
 refine acc pins σ H' s' a cls cx B .fly I' ⟨free,st,fr,ff,fun b o e i n=>cov b o e ?_ n,tr⟩ hE
 rcases i with i | ⟨hx,o',i⟩ | ⟨p,hp,q⟩
 ·exact .inl i
 ·exact .inr (I.base.there b o' i hx)
 ·exact .inr ⟨p.2,by rw[← q];exact(I.pin p hp).1⟩
end L2
namespace PySem.W
open PySem PySem.Spec PySem.Calls PyProof.Rows
structure ExcT(K:Frag)(C:Addr):Prop where
 ga:findIn K (.ref C) "__getattribute__" = some (some (.builtin "BaseException.__getattribute__"))
 gt:findIn K (.ref C) "__getattr__" = some none
 cl:findIn K (.ref C) "__class__" = some (some (.builtin "object.__class__"))
 mo:mroIn K C (.type "object")=some true
 sb:subIn K (.ref C) (.type "BaseException")=some true
section
variable {prog:Program}{w:World}{A:Around}{E:Value→Shared→Prop}{h:Heap}{g:Array GenState}{d:Drawn}{t:Nat}{os:OsState}{K:Frag}{x C:Addr}{o:Obj}{R:Result→Shared→Prop}
theorem a5F{tp:Value}(X:K.In h)(hx:h.get? x=some o)(hc:o.cls=.ref C)(hm:mroIn K C (.type "object")=some true)
  (q:R (.ok (.ret (.ref C))) ⟨h,g,d,t,os⟩):codeAny (model prog w) A (.call (.builtin "getset_descriptor.__get__") ⟨[.builtin "object.__class__",.ref x,tp],[]⟩) R ⟨h,g,d,t,os⟩:=by
 have L0:Looks (model prog w) h (typeOf (.ref x)) (.ref C):=hc▸(Looks.ld hx).andThen .now
 have L1:=looks_mroIn (M:=model prog w) X hm
 refine codeAny_call_builtin KF.slot_gs.plain KF.entry_gs (KF.slot_gs.check _ _ _ _ _ _ _ _ KF.type_class (KF.args_gs _ _ _) ?_)
 unfold Builtin.«getset_descriptor.__get__» Builtin.Getset_descriptor.descrGet
 rw[dga_obj]
 refine wpAny_bind (wpAny_pure ?_)
 unfold Builtin.Getset_descriptor.descrGetter Builtin.Getset_descriptor.descrCheckInstance Builtin.Getset_descriptor.descrNameAndClass isInstance
 simp only[KF.owner_class]
 repeat lk
 refine⟨Code.quiet_builtin _ (by decide +kernel),codeAny_builtin KF.entry_class ?_⟩
 unfold Builtin.«object.__class__» shownTypeOf
 repeat lk
 exact q
theorem a3G{tk:Tok}{Q:Fin→Shared→Prop}(X:K.In h)(T:ExcT K C)(hx:h.get? x=some o)(hc:o.cls=.ref C)(q:Q (.done (.ret (.ref C))) ⟨h,g,d,t,os⟩) :
  wpAny (model prog w) A (Builtin.«object.__getattribute__» ⟨[.ref x,.str "__class__" tk],[]⟩) Q E ⟨h,g,d,t,os⟩:=by
 have L0:Looks (model prog w) h (typeOf (.ref x)) (.ref C):=hc▸(Looks.ld hx).andThen .now
 have L1:=looks_findIn (M:=model prog w) X T.cl
 have hT5:(⟨h,g,d,t,os⟩:Shared).TypeIs (.builtin "object.__class__") "getset_descriptor" := F.typeOf_object_class
 have f5:=F.typeOf_object_class
 have f6:=F.slot_gs_get.lookup
 have f7:=F.slot_gs_set.lookup
 repeat (any_goals (first | assumption | (with_reducible refine L0.at ?_) | (with_reducible refine wpAny_bind (L0.at ?_)) | (with_reducible refine L1.at ?_) | (with_reducible refine wpAny_bind (L1.at ?_)) | wp_step))
 refine a5F X hx hc T.mo ?_
 repeat (any_goals (first | assumption | wp_step))
theorem a2b{M:Model}{nameV:Value}{Q:Unit→Shared→Prop}(X:K.In h)(T:ExcT K C)(hx:h.get? x=some o)(hc:o.cls=.ref C)(hq:Q () ⟨h,g,d,t,os⟩):wpAny M A (checkBuiltinCall "BaseException.__getattribute__" ⟨[.ref x,nameV],[]⟩) Q E ⟨h,g,d,t,os⟩:=by
 have hk:builtinKind "BaseException.__getattribute__" = some .slot:=by decide +kernel
 have hsplit:splitId "BaseException.__getattribute__" = some ("BaseException","__getattribute__"):=by decide +kernel
 have L0:Looks M h (typeOf (.ref x)) (.ref C):=hc▸(Looks.ld hx).andThen .now
 have L1:=looks_subIn (M:=M) X T.sb
 have L2:Looks M h (isInstance (.ref x) (.type "BaseException")) true:=L0.andThen L1
 have ha:=F.args_bexc_ga (.ref x) nameV
 simp only[checkBuiltinCall,hk,hsplit]
 refine wpAny_bind (L2.at ?_)
 repeat (first | assumption | wp_step)
theorem a59{tk:Tok}{Q:Value→Shared→Prop}(X:K.In h)(T:ExcT K C)(hx:h.get? x=some o)(hc:o.cls=.ref C)(hq:Q (.ref C) ⟨h,g,d,t,os⟩):wpAny (model prog w) A (getAttrBy (.ref x) (.str "__class__" tk) false) Q E ⟨h,g,d,t,os⟩:=by
 have L0:Looks (model prog w) h (typeOf (.ref x)) (.ref C):=hc▸(Looks.ld hx).andThen .now
 have L1:=looks_findIn (M:=model prog w) X T.ga
 have L2:=looks_findIn (M:=model prog w) X T.gt
 have f3:=F.attr_ValueError.ga.bind (.ref x)
 have hx2:(Value.builtin "BaseException.__getattribute__" == Value.builtin "object.__getattribute__")=false:=by decide +kernel
 have hx1:(onTheHeap (Value.ref C) && Value.builtin "BaseException.__getattribute__" == Value.builtin "object.__getattribute__")=false:=by rw[hx2];rfl
 repeat (any_goals (first | assumption | (with_reducible refine L0.at ?_) | (with_reducible refine wpAny_bind (L0.at ?_)) | (with_reducible refine L1.at ?_) | (with_reducible refine wpAny_bind (L1.at ?_)) | (with_reducible refine L2.at ?_) | (with_reducible refine wpAny_bind (L2.at ?_)) | wp_step))
 refine codeAny_call_builtin F.attr_ValueError.ga.plain F.entry_bexc_ga (a2b X T hx hc (a3G X T hx hc ?_))
 repeat (any_goals (first | assumption | wp_step))
theorem a4A{Q:Option Value→Shared→Prop}(X:K.In h)(T:ExcT K C)(hx:h.get? x=some o)(hc:o.cls=.ref C)(hq:Q (some (.ref C)) ⟨h,g,d,t+1,os⟩):wpAny (model prog w) A (getAttr? (.ref x) "__class__") Q E ⟨h,g,d,t,os⟩:=by
 unfold getAttr? getAttrBy?
 repeat (any_goals (first | assumption | with_reducible apply a59 X T hx hc | wp_step))
end
def b4S(x C:Addr)(h:Heap):Prop:=∃o vs,h.get? x=some o∧o.cls=.ref C∧o.data=.fields vs
theorem kitx_exc{K:Frag}{x C:Addr}(T:ExcT K C):KitX K (.ref x) (.ref C) (b4S x C) where
 ty:=fun _ _ _ ⟨_,_,hx,hc,_⟩=>hc▸(Looks.ld hx).andThen .now
 it:=fun M h X _=>by
  have hm:=T.mo
  unfold mroIn at hm
  obtain⟨cd,hcd⟩:∃cd,clsIn K C=some cd:=by
   cases q:clsIn K C with
   | none=>rw[q]at hm;cases hm
   | some cd=>exact⟨cd,rfl⟩
  unfold clsIn at hcd
  split at hcd
  ·rename_i c' d' cd' sl' ho
   intro A' Q' E' s' k q
   unfold isType loadHead
   exact wpAny_bind (wpAny_loadPart (k _ _ (X _ _ ho)) (wpAny_pure q))
  ·cases hcd
 ne:=fun h tp dd its n sl X htp=>by
  have hm:=T.mo
  unfold mroIn at hm
  obtain⟨cd,hcd⟩:∃cd,clsIn K C=some cd:=by
   cases q:clsIn K C with
   | none=>rw[q]at hm;cases hm
   | some cd=>exact⟨cd,rfl⟩
  refine Bool.eq_false_iff.mpr fun q=>?_
  have e:C=tp:=Value.ref.inj (beq_iff_eq.mp q)
  subst e
  unfold clsIn at hcd
  split at hcd
  ·rename_i c' d' cd' sl' ho
   have z:=(X _ _ ho).symm.trans htp
   cases z
  ·cases hcd
 ca:=fun{_ _ _ _ _ s} X ⟨_,_,hx,hc,_⟩ k=>by
  obtain⟨h,g,d,t,os⟩:=s
  exact a4A X T hx hc k
end PySem.W
namespace L2
open PySem PySem.Spec PyProof.Rows
abbrev TJ:=St→Hp→Str→(Str→Hp→Prop)→Prop
def vErr:List Value:=[.type "ValueError",.type "Exception",.type "BaseException",.type "object"]
theorem b2T{K:W.Frag}{h₀:Heap}{C:Addr}(KX:K.In h₀)(q:W.excIn K C vErr "ValueError.__new__" = true) :
  ∃bm N nm q bs hdct sn sub ab col dd k0 k1 k2 k3 k5 mN,h₀.get? C=some (excClassObj nm q C N bs bm hdct sn sub ab col dd k0 k1 k2 k3 k5 "ValueError.__new__")∧h₀.Ns N mN∧mN "__init__" = none∧OwnTail h₀ vErr bm:=by
 unfold W.excIn at q
 split at q
 ·rename_i dd cd sl ho
  split at q
  ·rename_i C' bm k0 k1 k2 k3 n k5 hm hs
   simp only[Bool.and_eq_true,beq_iff_eq,Bool.not_eq_true']at q
   obtain⟨⟨⟨⟨⟨rfl,rfl⟩,hdel⟩,ht⟩,hok⟩,hni⟩:=q
   obtain⟨nm,bs,mro,ns,qn,hd,sn,sub,ab,col,del⟩:=cd
   dsimp only at hm hdel hok hni
   subst hm hdel
   have hsl:sl = #[k0,k1,k2,k3,some (.builtin "ValueError.__new__"),k5]:=by
    obtain⟨l⟩:=sl
    simp only at hs
    rw[hs]
   subst hsl
   exact⟨bm,ns,nm,qn,bs,hd,sn,sub,ab,col,dd,k0,k1,k2,k3,k5,_,KX _ _ ho,.of_isNs (W.isNs_of_in KX hok),W.nsMap_none_of_in KX hok hni,W.tail_of_in KX ht⟩
  ·cases q
 ·cases q
section
variable {X:Cx}{E:XK}
theorem XAt.first{pins:List (Addr×Obj)}{σ:St}{H:Hp}{s:Shared}{h':Heap}{a:Addr}{cls:Value}{cx:Option Addr}{oe:Obj}{vs:Array Value}(I:Inv X pins σ H s)(k:∀b o,s.heap.get? b=some o→h'.get? b=some o)
  (n:s.heap.get? a=none) (g:h'.get? a=some oe) (hc:oe.cls=cls) (hd:oe.data=.fields vs) (z1:vs[1]? = some .none) (z2:vs[2]? = some (a27 cx)) (z6:oe.dict=a2a cx) :
  Inv X pins σ H { s with heap:=h' }∧XAt X pins H { s with heap:=h' } a cls cx (W.hideAll s.heap (K9 X.stack)) .new:=by
 have I':Inv X pins σ H { s with heap:=h' }:=I.kept (t':=s.toks) k
 have fr:H a=none:=by
  cases q:H a with
  | none=>rfl
  | some u=>obtain⟨o,e⟩:=(I.hok a u q).there;rw[n]at e;cases e
 refine⟨I',fr,fun b o e=>k b o (W.of_hideAll _ e),?_,(W.funFrames_hide I.stack fun env he b hb=>List.mem_filterMap.mpr ⟨env,he,hb⟩).of_keeps fun b o e _=>⟨o,k b o e,rfl⟩,fun b o e i n=>?_,⟨oe,vs,g,hc,hd,z1,z2,z6⟩⟩
 ·cases q:(W.hideAll s.heap (K9 X.stack)).get? a with
  | none=>rfl
  | some o=>have:=W.of_hideAll _ q;rw[n]at this;cases this
 ·obtain⟨o1,e1⟩:=i.there I
  have e2:=k _ _ e1
  rw[e]at e2;cases e2
  exact W.hideAll_get _ e1 n
theorem XAt.made{pins:List (Addr×Obj)}{σ:St}{H:Hp}{s:Shared}{h':Heap}{a:Addr}{cls:Value}{vs:List Value}(I:Inv X pins σ H s)(m:Heap.MadeExcOf s.heap h' a cls vs) :
  Inv X pins σ H { s with heap:=h' }∧XAt X pins H { s with heap:=h' } a cls none (W.hideAll s.heap (K9 X.stack)) .new:=by
 obtain⟨t,he,_,_⟩:=m.there
 exact XAt.first I m.keeps m.new he rfl rfl rfl rfl rfl
def a9s(C:Addr)(E:XK)(ta:TA):TS:=fun _ σ H=>ta σ H fun vs H1=>vs.length≤sizeLine∧E (.ref C) none H1
theorem b0R{x:Str}{C:Addr}{e₀:Expr}{l7:List Expr}{np cpos pos:Pos}{ta:TA}(acc:XAcc X E)(q:W.excIn X.K C vErr "ValueError.__new__" = true)(hg:Gl X x)(hm:X.mg x=some (.ref C))(ha:PA X (e₀::l7) ta)
  (hc:X.calm=true:=by rfl) (hex:X.ex=[]:=by rfl)
  (he:starEach (e₀::l7) X.env=(false,eval e₀ X.env)::starEach l7 X.env:=by rfl) (hplain:(backTo cpos (starEach l7 X.env)).any (·.1)=false:=by rfl) (hd:(x == ("__debug__" : Str))=false:=by decide) :
  PS X (.Raise (some (.Call (.Name x np) (e₀::l7) [] cpos)) none pos) (a9s C E ta):=by
 intro pins s σ H D I h
 obtain⟨tl,N,nm,qn,bs,hdct,sn,sub,ab,col,dd,k0,k1,k2,k3,k5,mN,hC,hN,hni,T⟩:=b2T I.mod.kin q
 have hp:=ha cpos pins s σ H _ I h
 rw[he]at hp
 refine wpAny_Raise_call_subT (C:=C) (nm:=nm) (q:=qn) (N:=N) (bs:=bs) (bm:=tl) (hdct:=hdct) (sn:=sn) (sub:=sub) (ab:=ab) (col:=col) (dd:=dd) (k0:=k0) (k1:=k1) (k2:=k2) (k3:=k3) (k5:=k5)
  PySem.F.excBase_ValueError (mN:=mN) (T.hasType PySem.F.excBase_ValueError.hasBase) (I.ok.hd hc) (by rw[he];show(false || (backTo cpos (starEach l7 X.env)).any (·.1))=false;rw[hplain];rfl) hni (X0 I hg hm ⟨rfl,?_⟩ hd)
 rw[he]
 refine Calls.evalArgs_plain (m4 hp fun us s2 ⟨vs,H2,I2,rv,z,hE⟩=>⟨rfl,by rw[← rv.length];exact z,I2.bk _ _ hC,hN.keeps I2.bk,T.keeps I2.bk,fun h' e m=>?_⟩)
 obtain⟨I3,x3⟩:=XAt.made I2 m
 exact acc pins σ H2 _ e _ none _ .new I3 x3 hE
end
def Q1(a:Addr)(cls:Value)(cx:Option Addr):HO:=.ext fun h=>∃o vs,h.get? a=some o∧o.cls=cls∧o.data=.fields vs∧vs[2]? = some (a27 cx)∧o.dict=a2a cx
section
variable {X:Cx}{pins:List (Addr×Obj)}{σ:St}{H:Hp}{s:Shared}{a:Addr}{cls:Value}{cx:Option Addr}{B:Heap}{ph:Ph}
theorem XAt.nofr(x:XAt X pins H s a cls cx B ph):a ∉ K9 X.stack:=fun z=>by
 obtain⟨oe,vs,e,_,d,_⟩:=x.tr.there
 obtain⟨_,o,e',d'⟩:=x.frames.mem z
 rw[e]at e';cases e'
 exact d' vs d
theorem XAt.noimp(x:XAt X pins H s a cls cx B ph):¬Imp X pins H a:=fun i=>by
 obtain⟨oe,vs,e,_,d,_⟩:=x.tr.there
 have:=x.cov a oe e i x.nofr
 rw[x.fresh]at this;cases this
theorem Inv.track(I:Inv X pins σ H s)(x:XAt X pins H s a cls cx B ph):Inv X pins σ (upd H a (Q1 a cls cx)) s:=by
 obtain⟨oe,vs,e,hc,d,d2⟩:=x.tr.there
 have ni:=x.noimp
 refine⟨I.ok,I.os,I.bare,⟨I.base.keep,I.base.slot,fun b o e1 n hx=>?_,I.base.there,fun b xs q=>?_,fun b o u q=>?_,fun b ps q=>?_⟩,I.loc,I.cell,?_,fun y c q=>?_,fun p hp=>?_,fun b u q=>?_,I.len⟩
 ·rw[g5 (fun z=>ni (.inr (.inl ⟨by rw[← z];exact hx,o,by rw[← z];exact e1⟩)))]
  exact I.base.free b o e1 n hx
 ·have q1:=I.base.tups b xs q
  rw[g5 (j9 q1 x.free)];exact q1
 ·have q1:=I.base.frzs b o u q
  rw[g5 (j9 q1 x.free)];exact q1
 ·obtain⟨more,q1⟩:=I.base.tbls b ps q
  exact⟨more,by rw[g5 (j9 q1 x.free)];exact q1⟩
 ·rw[g5 fun z=>?_]
  ·exact I.free
  ·obtain⟨m,⟨o,es,ep,ho,hd,_⟩,_⟩:=I.loc
   rw[z,e]at ho;cases ho
   rw[d]at hd;cases hd
 ·rw[g5 fun z=>?_]
  ·exact I.freeC y c q
  ·obtain⟨v,o,ho,hd⟩:=I.cell y c q
   rw[z,e]at ho;cases ho
   rw[d]at hd;cases hd
 ·obtain⟨h1,h2,h3,h4,h5⟩:=I.pin p hp
  exact⟨h1,by rw[g5 (fun z=>ni (.inr (.inr ⟨p,hp,z⟩)))];exact h2,h3,h4,h5⟩
 ·by_cases hb:b=a
  ·subst hb
   rw[i8]at q;cases q
   exact⟨⟨oe,vs,e,hc,d,d2⟩,⟨oe,e⟩,fun h1 h2 ⟨o,ws,z1,z2,z3⟩ k=>⟨o,ws,k o z1,z2,z3⟩⟩
  ·rw[g5 hb]at q
   refine(I.hok b u q).stay (fun _ _ _ z=>z) (fun c z=>?_) (fun c xs z=>?_) fun c ob u z=>?_
   ·rw[g5 (j9 z x.free)];exact z
   ·rw[g5 (j9 z x.free)];exact z
   ·rw[g5 (j9 z x.free)];exact z
end
abbrev Cx.tryCx(X:Cx)(E2:Value→Shared→Prop)(pins:List (Addr×Obj)):Cx:={ X with xe:=E2,pn:=X.pn++pins }
abbrev Cx.inExc(X:Cx)(a:Addr):Cx:={ X with A:=X.A.mark (some (.ref a)),calm:=false }
section
variable {X:Cx}{pins:List (Addr×Obj)}{σ:St}{H:Hp}{s:Shared}{a:Addr}{E2:Value→Shared→Prop}
theorem Cx.Ok.tryCx(ok:X.Ok):(X.tryCx E2 pins).Ok:=⟨ok.mod,ok.kind,ok.glob,ok.blt,ok.above,ok.inj,ok.has,ok.cab,ok.hd,ok.frames,ok.stk,ok.exf,ok.bs,ok.bsz,ok.noex,ok.exfs,ok.funs,ok.frf⟩
theorem Cx.Ok.inExc(ok:X.Ok):(X.inExc a).Ok:=⟨ok.mod,ok.kind,ok.glob,ok.blt,ok.above,ok.inj,ok.has,ok.cab,(fun z=>nomatch z),ok.frames,ok.stk,ok.exf,ok.bs,ok.bsz,ok.noex,ok.exfs,ok.funs,ok.frf⟩
theorem Inv.toTry(I:Inv X pins σ H s):Inv (X.tryCx E2 pins) [] σ H s :=
 ⟨I.ok.tryCx,I.os,I.bare,I.base,I.loc,I.cell,I.free,I.freeC,fun p hp=>I.pin p (by rw[List.append_nil]at hp;exact hp),I.hok,I.len⟩
theorem Inv.ofTry{pins':List (Addr×Obj)}(ok:X.Ok)(I:Inv (X.tryCx E2 pins) pins' σ H s):Inv X pins σ H s :=
 ⟨ok,I.os,I.bare,I.base,I.loc,I.cell,I.free,I.freeC,fun p hp=>I.pin p (List.mem_append_left _ hp),I.hok,I.len⟩
theorem Inv.toExc(I:Inv X pins σ H s):Inv (X.inExc a) pins σ H s :=
 ⟨I.ok.inExc,I.os,I.bare,I.base,I.loc,I.cell,I.free,I.freeC,I.pin,I.hok,I.len⟩
theorem Inv.ofExc(ok:X.Ok)(I:Inv (X.inExc a) pins σ H s):Inv X pins σ H s :=
 ⟨ok,I.os,I.bare,I.base,I.loc,I.cell,I.free,I.freeC,I.pin,I.hok,I.len⟩
theorem SP.ofTry{pins':List (Addr×Obj)}{D:Ends}{f:Flow}{s':Shared}(ok:X.Ok)(h:SP (X.tryCx E2 pins) pins' D f s'):SP X pins D f s':=by
 cases f with
 | next=>obtain⟨σ',H',I,q⟩:=h;exact⟨σ',H',I.ofTry ok,q⟩
 | brk=>obtain⟨σ',H',I,q⟩:=h;exact⟨σ',H',I.ofTry ok,q⟩
 | cont=>obtain⟨σ',H',I,q⟩:=h;exact⟨σ',H',I.ofTry ok,q⟩
 | ret u=>obtain⟨v,σ',H',I,r,q⟩:=h;exact⟨v,σ',H',I.ofTry ok,r,q⟩
theorem SP.ofExc{D:Ends}{f:Flow}{s':Shared}(ok:X.Ok)(h:SP (X.inExc a) pins D f s'):SP X pins D f s':=by
 cases f with
 | next=>obtain⟨σ',H',I,q⟩:=h;exact⟨σ',H',I.ofExc ok,q⟩
 | brk=>obtain⟨σ',H',I,q⟩:=h;exact⟨σ',H',I.ofExc ok,q⟩
 | cont=>obtain⟨σ',H',I,q⟩:=h;exact⟨σ',H',I.ofExc ok,q⟩
 | ret u=>obtain⟨v,σ',H',I,r,q⟩:=h;exact⟨v,σ',H',I.ofExc ok,r,q⟩
theorem XAcc.inExc{E:XK}{a:Addr}(acc:XAcc X E)(ok:X.Ok):XAcc (X.inExc a) E:=fun pins σ H s b cls cx B ph I x e=>acc pins σ H s b cls cx B ph (I.ofExc ok) ⟨x.free,x.stays,x.fresh,x.frames,x.cov,x.tr⟩ e
end
section
variable {X:Cx}{pins:List (Addr×Obj)}{σ:St}{H:Hp}{s:Shared}{a:Addr}{E2:Value→Shared→Prop}
theorem Inv.nameGoes{M:Model}{A:Around}{E:Value→Shared→Prop}{n:Str}{i:Nat}{pos:Pos}{Q:Unit→Shared→Prop}(I:Inv X pins σ H s)(hN:X.N.Nodup)(hi:X.N[i]? = some n)(hl:X.env.scope.names.lookup n=some .local)
  (h:∀h',Inv X pins (σ.set i none) H { s with heap:=h',toks:=s.toks+1 }→Q () { s with heap:=h',toks:=s.toks+1 }):wpAny M A (do bindName X.env n .none;unbindBehindTheSuite X.env n pos) Q E s:=by
 obtain⟨m,hn,hlo⟩:=id I.loc
 have hcls:(X.env.scope.kind == .class || (X.env.scope.kind == .module && X.env.locals != X.env.globals))=false:=by rw[I.ok.kind];rfl
 refine wpAny_nameGoes_keeps hl hn hcls fun h' v hn' hs=>h h' ?_
 obtain⟨oL,_,_,hoL,_⟩:=id hn
 have cne:=I.cne
 have neL:∀b o,X.s₀.heap.get? b=some o→b≠X.env.locals:=fun b o e=>Nat.ne_of_lt (Nat.lt_of_lt_of_le (Heap.lt_size e) I.ok.above)
 refine⟨I.ok,I.os,I.bare,⟨fun b o e k hb hx=>(hs.2 b (neL b o e)).trans (I.base.keep b o e k hb hx),fun b o e k hb hx=>?_,I.base.free,fun b o e hx=>?_,I.base.tups,I.base.frzs,I.base.tbls⟩,⟨_,hn',fun j y v' e1 e2 e3=>?_⟩,fun y c e=>?_,I.free,I.freeC,fun p hp=>?_,?_,by simpa using I.len⟩
 ·obtain⟨sl,e1⟩:=I.base.slot b o e k hb hx
  exact⟨sl,(hs.2 b (neL b o e)).trans e1⟩
 ·obtain⟨o',e1⟩:=I.base.there b o e hx
  exact⟨o',(hs.2 b (neL b o e)).trans e1⟩
 ·by_cases hj:j=i
  ·subst hj
   by_cases hlt:j<σ.length
   ·rw[List.getElem?_set_self hlt]at e2;cases e2
   ·rw[List.getElem?_eq_none (by rw[List.length_set];omega)]at e2;cases e2
  ·rw[List.getElem?_set_ne (Ne.symm hj)]at e2
   obtain⟨u',r',q⟩:=hlo j y v' e1 e2 e3
   refine⟨u',r',?_⟩
   rcases q with⟨k,e⟩ | ⟨k,c,e,z⟩
   ·refine .inl ⟨k,?_⟩
    have:y≠n:=fun e=>hj (a25 hN e1 (e▸hi))
    simp[this,e]
   ·exact .inr ⟨k,c,e,z.sameBut hs (cne y c e)⟩
 ·obtain⟨w',z⟩:=I.cell y c e
  exact⟨w',z.sameBut hs (cne y c e)⟩
 ·obtain⟨e,n',ne,nf,d⟩:=I.pin p hp
  exact⟨(hs.2 p.1 ne).trans e,n',ne,nf,d⟩
 ·intro b ob e
  refine(I.hok b ob e).stay (fun c w' hc q=>(hs.2 c ?_).trans q) (fun _ q=>q) (fun _ _ q=>q) fun _ _ _ q=>q
  rintro rfl
  rcases hc with rfl | hc
  ·rw[I.free]at e;cases e
  ·rw[I.free]at hc;cases hc
end
theorem t6{X:Cx}{P:Program}{w:World}:a0_ (y8 P w) X E0:=fun _ _ _ _ _ _ _ h=>by
 obtain⟨_,_,_,_,_,_,_,_,_,_,_,_,_,_,_,_,hE⟩:=h
 exact hE.elim
section
variable {P:Program}{w:World}{K:W.Frag}{mg:Str→Option Value}{base:Heap}
theorem Fun.okE{x qual:Str}{st:Stmt}{f:Addr}{fd:FuncData}{N ps:List Str}{k:Nat}{sp:Sp}(F:Fun K x qual st f fd)(S:FnScope N ps (d9 st))(len:∀vs H Q E,sp vs H Q E→vs.length=ps.length)
  (hbody:∀(cdv:Value) (A:Around) (outer:List Env) (s:Shared) (H:Hp) (vs:List V) (Q:VK) (E:XK),Room k (A.deeper (envOfC qual (d9 st) s.heap.objs.size f cdv))→sp vs H Q E →
   ∃t,PSs (S9 (y8 P w) P w K mg base N qual (d9 st) f cdv A outer s H E) (j7 st) t∧t { nx:=fun _ H'=>Q .non H',rt:=Q } (start N vs) H):FnOk P w K mg base (y8 P w) (k+1) f fd ps sp:=by
 obtain⟨oc,od,kV,doc,pm,an,cdv,ct,osl,rfl,lk,hcd⟩:=F.ex
 exact a3C lk hcd S len fun A outer s H vs Q E hr hsp=>hbody cdv A outer s H vs Q E hr hsp
structure FunD(K:W.Frag)(x qual:Str)(st:Stmt)(dT:Addr)(f:Addr)(fd:FuncData):Prop where
 ex:∃(oc:Value) (od:Option Addr) (kV doc pm:Value) (an:Option Addr) (cdv ct:Value) (osl:Array (Option Value)),
  fd=W.fnOf x qual (m7 st) (j7 st) (d9 st) (.ref dT) kV doc pm an cdv ct∧K.lookup f=some ⟨oc,od,.func fd,osl⟩∧W.codeIn K cdv qual=true
 kp:W.keepIn K (.ref f)=true
theorem FunD.okE{x qual:Str}{st:Stmt}{dT f:Addr}{fd:FuncData}{N ps:List Str}{k:Nat}{sp:Sp}(F:FunD K x qual st dT f fd)(S:FnScope N ps (d9 st))(len:∀vs H Q E,sp vs H Q E→vs.length=ps.length)
  (hbody:∀(cdv:Value) (A:Around) (outer:List Env) (s:Shared) (H:Hp) (vs:List V) (Q:VK) (E:XK),Room k (A.deeper (envOfC qual (d9 st) s.heap.objs.size f cdv))→sp vs H Q E →
   ∃t,PSs (S9 (y8 P w) P w K mg base N qual (d9 st) f cdv A outer s H E) (j7 st) t∧t { nx:=fun _ H'=>Q .non H',rt:=Q } (start N vs) H):FnOk P w K mg base (y8 P w) (k+1) f fd ps sp:=by
 obtain⟨oc,od,kV,doc,pm,an,cdv,ct,osl,rfl,lk,hcd⟩:=F.ex
 exact a3C lk hcd S len fun A outer s H vs Q E hr hsp=>hbody cdv A outer s H vs Q E hr hsp
theorem FunD.binds{x qual:Str}{st:Stmt}{dT f:Addr}{fd:FuncData}{ps:List Str}{ds:List Value}{items:List Value}{o:Obj}{nn:Nat}(F:FunD K x qual st dT f fd)(ho:K.lookup dT=some o)(hs:o.data=.seq items.toArray nn)
  (h:∀(kV doc pm:Value) (an:Option Addr) (cdv ct:Value) (us:List Value),(us++ds).length=ps.length→∃k:Option (Array Value)→Sem (List (Str×Value)),
   bindArgs (W.fnOf x qual (m7 st) (j7 st) (d9 st) (.ref dT) kV doc pm an cdv ct) ⟨us,[]⟩=seqItems? (.ref dT) >>= k∧k (some items.toArray)=pure (ps.zip (us++ds))):Binds K fd ps ds:=by
 obtain⟨oc,od,kV,doc,pm,an,cdv,ct,osl,rfl,lk,hcd⟩:=F.ex
 intro s us KX hl
 obtain⟨k,h1,h2⟩:=h kV doc pm an cdv ct us hl
 exact W.binds_K KX rfl ho hs h1 h2
end
structure RoomW(k:Nat)(A:Around):Prop where
 dp:A.depth+3*k+5<recursionLimit
 un:A.units+16*k+200<cLine
theorem Room.w{k:Nat}{A:Around}(r:Room k A)(h:Option Value):RoomW k (A.mark h):=⟨r.dp,r.un⟩
theorem RoomW.deeper{k:Nat}{A:Around}(r:RoomW (k+1) A)(env:Env):RoomW k (A.deeper env) :=
 ⟨by have:=r.dp;show A.depth+1+3*k+5<_;omega,by have:=r.un;show A.units+3+16*k+200<_;omega⟩
structure FnOkW(P:Program)(w:World)(K:W.Frag)(mg:Str→Option Value)(base:Heap)(k:Nat)(f:Addr)(fd:FuncData)(ps:List Str)(sp:Sp):Prop where
 len:∀vs H Q E,sp vs H Q E→vs.length=ps.length
 run:∀(A:Around) (outer:List Env) (s:Shared) (H:Hp) (args:Args) (us:List Value) (vs:List V) (Q:VK),RoomW k A→Env0 P w K mg base A outer s H→BindsTo s fd args (ps.zip us)→Vals vs us→sp vs H Q E0 →
  codeAny (model P w) A (.call (.ref f) args) (CR CX0 outer P w H s Q E0) s
noncomputable abbrev a3H(P:Program)(w:World)(K:W.Frag)(mg:Str→Option Value)(base:Heap)(N:List Str)(qual:Str)(scope:Scope)(f:Addr)(cd:Value)(A:Around)(outer:List Env)(s:Shared)(H:Hp):Cx :=
 { S9 CX0 P w K mg base N qual scope f cd A outer s H E0 with calm:=false,xe:=fun _ _=>False }
theorem a8r{P:Program}{w:World}{K:W.Frag}{mg:Str→Option Value}{base:Heap}{N ps:List Str}{qual:Str}{scope:Scope}{f:Addr}{cd:Value}{A:Around}{outer:List Env}{s s1:Shared}{H:Hp}{us:List Value}{vs:List V}
  (S:FnScope N ps scope) (e0:Env0 P w K mg base A outer s H) (hl:vs.length=ps.length) (r:Vals vs us)
  (x:InCallC s s.heap.objs.size (bindL (envOfC qual scope s.heap.objs.size f cd).kindOf (ps.zip us) fun _=>none) (cellsFrom (s.heap.objs.size+1) scope.names []) (bindC (envOfC qual scope s.heap.objs.size f cd).kindOf (ps.zip us) fun _=>none) s1) :
  Inv (a3H P w K mg base N qual scope f cd A outer s H) [] (start N vs) H s1:=by
 have hpl:ps.length≤N.length:=by have:=congrArg List.length S.pre;rw[List.length_take]at this;omega
 obtain⟨h1,tk,rfl,hk⟩:=x.done
 have noA:∀b:Addr,b ∉ (a3H P w K mg base N qual scope f cd A outer s H).ex:=fun b z=>absurd (show b∈([]:List Addr)from z) (by simp)
 refine⟨⟨e0.mod,S.kind,rfl,rfl,Nat.le_refl _,fun y z c h1 h2=>?_,fun y hy=>?_,fun y c _ h=>?_,(fun z=>nomatch z),Around.frames_deeper e0.frames,.inr ⟨rfl,rfl⟩,fun b z=>absurd z (noA b),e0.bs,e0.bsz,fun b _ _=>noA b,fun b z=>absurd z (noA b),e0.funs,e0.frf⟩,
  rfl,e0.bare,Un.kept hk,⟨_,x.toInCall.ns,fun i y v h1 h2 h3=>?_⟩,fun y c h=>⟨_,x.cell y c h⟩,e0.hok.fresh (Nat.le_refl _),fun y c h=>?_,fun p hp=>absurd (show p∈([]:List (Addr×Obj))from hp) (by simp),e0.hok.kept hk,?_⟩
 ·exact name_of_addr x.apart (PySem.mem_of_lookup h1) (PySem.mem_of_lookup h2)
 ·have hy:scope.names.lookup y=some .cell∨scope.names.lookup y=some .free:=hy
  rcases hy with hy | hy
  ·exact a1q hy
  ·exact absurd rfl (S.nofree _ (PySem.mem_of_lookup hy))
 ·exact Nat.le_of_lt (x.above y c (PySem.mem_of_lookup h))
 ·have hi:i<vs.length:=by
   unfold start at h2
   by_cases hi:i<vs.length
   ·exact hi
   ·rw[List.getElem?_append_right (by simpa using hi)]at h2
    rw[List.getElem?_replicate]at h2
    split at h2<;>cases h2
  have ha:vs[i]? = some v:=by
   unfold start at h2
   rw[List.getElem?_append_left (by simpa using hi),List.getElem?_map]at h2
   cases e:vs[i]? with
   | none=>rw[e]at h2;cases h2
   | some a=>rw[e]at h2;cases h2;rfl
  obtain⟨u,hu,rv⟩:=r.get ha
  have hp:ps[i]? = some y:=by
   rw[← S.pre,List.getElem?_take_of_lt (by omega)];exact h1
  have ndP:ps.Nodup:=by rw[← S.pre];exact S.nd.sublist (List.take_sublist _ _)
  refine⟨u,rv,?_⟩
  rcases S.par y (List.mem_of_getElem? hp)with k | k
  ·exact .inl ⟨k,a19 ndP hp hu k⟩
  ·obtain⟨c,e⟩:=a1q (n:=s.heap.objs.size+1) k
   refine .inr ⟨.inl k,c,e,?_⟩
   have q:=x.cell y c e
   rw[a1_ ndP hp hu (by show scope.names.lookup y≠_;rw[k];decide)]at q
   exact q
 ·exact e0.hok.fresh (Nat.le_of_lt (x.above y c (PySem.mem_of_lookup h)))
 ·unfold start
  show _=N.length
  rw[List.length_append,List.length_map,List.length_replicate]
  omega
section
variable {P:Program}{w:World}{K:W.Frag}{mg:Str→Option Value}{base:Heap}
theorem Fun.okW{x qual:Str}{st:Stmt}{f:Addr}{fd:FuncData}{N ps:List Str}{k:Nat}{sp:Sp}(F:Fun K x qual st f fd)(S:FnScope N ps (d9 st))(len:∀vs H Q E,sp vs H Q E→vs.length=ps.length)
  (hbody:∀(cdv:Value) (A:Around) (outer:List Env) (s:Shared) (H:Hp) (vs:List V) (Q:VK),RoomW k (A.deeper (envOfC qual (d9 st) s.heap.objs.size f cdv))→sp vs H Q E0 →
   ∃t,PSs (a3H P w K mg base N qual (d9 st) f cdv A outer s H) (j7 st) t∧t { nx:=fun _ H'=>Q .non H',rt:=Q } (start N vs) H):FnOkW P w K mg base (k+1) f fd ps sp:=by
 obtain⟨oc,od,kV,doc,pm,an,cdv,ct,osl,rfl,lk,hcd⟩:=F.ex
 refine⟨len,fun A outer s H args us vs Q hr e0 hb r hsp=>?_⟩
 have hl:=len _ _ _ _ hsp
 have KX:K.In s.heap:=e0.mod.kin.keeps fun b o e=>(e0.bs b o e).1
 have lim:s.heap.NoLimit:=e0.mod.nolimit.keeps fun b o e=>(e0.bs b o e).1
 have hkind:∀y∈ps.zip us,(d9 st).names.lookup y.1=some .local∨((d9 st).names.lookup y.1=some .cell∧((cellsFrom (s.heap.objs.size+1) (d9 st).names []).lookup y.1).isSome=true):=fun⟨n,v⟩ hy=>by
  rcases S.par n (List.of_mem_zip hy).1 with q | q
  ·exact .inl q
  ·exact .inr ⟨q,W.cellsFrom_some _ _ _ (.inl q)⟩
 refine codeAny_call_function (by have:=hr.dp;omega) (KX _ _ lk) rfl S.co S.gen rfl (W.codeRec_of KX hcd) (hb _ _ _ _ ?_)
 refine wpAny_newFunctionEnv_cells S.kind hkind fun env he s1 x=>?_
 subst he
 refine⟨lim.keeps x.toInCall.keep,codeAny_func ?_⟩
 obtain⟨t,ht,hq⟩:=hbody cdv A outer s H vs Q (hr.deeper _) hsp
 have I:=a8r S e0 hl r x
 refine wpAny_mono (ht [] s1 (start N vs) H _ I hq) (fun fl s' hs=>?_) fun e s' hs=>hs.elim
 have fin:∀{σ':St} {H':Hp} {v:V} {u:Value},Inv (a3H P w K mg base N qual (d9 st) f cdv A outer s H) [] σ' H' s'→RelV v u→Q v H'→CE outer P w H s Q u s' :=
  fun{σ' H' v u} J rv q=>⟨v,H',J.os,J.bare,J.base,J.hok,rv,q⟩
 cases fl with
 | ret u =>
  obtain⟨v,σ',H',J,rv,q⟩:=hs
  exact fin J rv q
 | next =>
  obtain⟨σ',H',J,q⟩:=hs
  exact fin (v:=V.non) (u:=Value.none) J rfl q
 | brk =>
  obtain⟨_,_,_,q⟩:=hs
  exact False.elim q
 | cont =>
  obtain⟨_,_,_,q⟩:=hs
  exact False.elim q
end
section
variable {X:Cx}{k:Nat}{f:Addr}{fd:FuncData}{ps:List Str}{sp:Sp}{x:Str}{p pos:Pos}{e:Expr}{es:List Expr}{t:TA}
def a3I(sp:Sp)(t:TA):TE:=fun σ H Q=>t σ H fun vs H1=>sp vs H1 Q E0
theorem b0S(F:FnOkW X.prog X.w X.K X.mg X.base k f fd ps sp)(hr:RoomW k X.A)(hg:Gl X x)(hm:X.mg x=some (.ref f))(hk:W.keepIn X.K (.ref f)=true)(hb:Binds X.K fd ps [])
  (ha:PA X (e::es) t) (hdb:(x == ("__debug__" : Str))=false:=by decide) (he:starEach (e::es) X.env=(false,eval e X.env)::starEach es X.env:=by rfl) (hp:(backTo pos (starEach es X.env)).any (·.1)=false:=by rfl) :
  PE X (.Call (.Name x p) (e::es) [] pos) (a3I sp t):=by
 intro pins s σ H Q I hq
 refine wpAny_Call_Name_kw (X0 I hg hm ?_ hdb)
 refine W.callWith_K (h₀:=X.base) I.ok.mod.kin hk (m4 (ha pos pins s σ H _ I hq) fun us s1 ⟨vs,H1,I1,r,q⟩=>⟨I1.kIn,?_⟩) he hp
 have hl:us.length=ps.length:=by rw[← r.length];exact F.len _ _ _ _ q
 have hl':(us++([]:List Value)).length=ps.length:=by rw[List.append_nil];exact hl
 refine wpAny_call (codeAny_mono (F.run X.A X.stack s1 H1 ⟨us,[]⟩ us vs Q hr I1.env0 (by have:=hb s1 us I1.kIn hl';rw[List.append_nil]at this;exact this) r q) fun r s' hq=>?_)
 cases r with
 | error e=>exact False.elim hq
 | ok fl =>
  cases fl with
  | ret u=>exact I1.after hq
  | next=>exact False.elim hq
  | brk=>exact False.elim hq
  | cont=>exact False.elim hq
end
def a28:V→Option Value
 | .ty n=>some (.type n)
 | .ref a=>some (.ref a)
 | _=>none
theorem a7t{y:V}{c u:Value}(e:a28 y=some c)(r:RelV y u):u=c:=by
 cases y with
 | ty n=>cases e;exact r
 | ref a=>cases e;exact r
 | _=>cases e
theorem a5_:∀{ys:List V} {cs us:List Value},ys.mapM a28=some cs→Vals ys us→us=cs
 | [],cs,_,e,.nil=>by cases e;rfl
 | y::ys,cs,u::us,e,.cons r t=>by
  rw[List.mapM_cons]at e
  cases h1:a28 y with
  | none=>rw[h1]at e;cases e
  | some c =>
   cases h2:ys.mapM a28 with
   | none=>rw[h1,h2]at e;cases e
   | some cr =>
    rw[h1,h2]at e
    have e':c::cr=cs:=Option.some.inj e
    subst e'
    rw[a7t h1 r,a5_ h2 t]
inductive TyX(K:W.Frag)(H:Hp):V→Value→Prop where
 | of {x:V} {t:Value} (h:TyOf K H x t):TyX K H x t
 | exc {a C:Addr} {cx:Option Addr} (h:H a=some (Q1 a (.ref C) cx)) (T:W.ExcT K C):TyX K H (.ref a) (.ref C)
section
variable {X:Cx}{pins:List (Addr×Obj)}{σ:St}{H:Hp}{s:Shared}{A:Around}{E:Value→Shared→Prop}{Q:Value→Shared→Prop}
theorem TyX.kit{x:V}{u t:Value}(I:Inv X pins σ H s)(rx:RelV x u)(ty:TyX X.K H x t):∃Φ:Heap→Prop,W.KitX X.K u t Φ∧Φ s.heap∧u≠.builtin "__main__.__loader__#opaque" := by
 cases ty with
 | @exc a C cx h T =>
  cases (show u=Value.ref a from rx)
  obtain⟨⟨o,vs,h1,h2,h3,_⟩,_⟩:=(show ObjOk X.prog X.w H s.heap a (Q1 a (.ref C) cx)from I.hok a _ h)
  exact⟨_,W.kitx_exc T,⟨o,vs,h1,h2,h3⟩,fun z=>nomatch z⟩
 | of h =>
 cases h with
 | non=>cases (show u=Value.none from rx);exact⟨_,W.kitx_none,True.intro,fun z=>nomatch z⟩
 | bl y=>cases (show u=Value.bool y from rx);exact⟨_,W.kitx_bool,True.intro,fun z=>nomatch z⟩
 | int i=>obtain⟨t,q⟩:=(show ∃t,u=Value.int i t from rx);cases q;exact⟨_,W.kitx_int,True.intro,fun z=>nomatch z⟩
 | str y=>obtain⟨t,q⟩:=(show ∃t,u=Value.str y t from rx);cases q;exact⟨_,W.kitx_str,True.intro,fun z=>nomatch z⟩
 | flt y=>obtain⟨t,q⟩:=(show ∃t,u=Value.float y t from rx);cases q;exact⟨_,W.kitx_float,True.intro,fun z=>nomatch z⟩
 | @lst a xs ea =>
  cases (show u=Value.ref a from rx)
  obtain⟨_,_,n,_,h1⟩:=(show ObjOk X.prog X.w H s.heap a (.lst xs)from I.hok a _ ea)
  exact⟨_,W.kitx_list,⟨_,h1,rfl⟩,fun z=>nomatch z⟩
 | @frz a ob xs ea =>
  cases (show u=Value.ref a from rx)
  obtain⟨_,_,_,n,_,h1⟩:=(show ObjOk X.prog X.w H s.heap a (.frz ob (.lst xs))from I.hok a _ ea)
  exact⟨_,W.kitx_list,⟨_,h1,rfl⟩,fun z=>nomatch z⟩
 | @tup a xs ea =>
  cases (show u=Value.ref a from rx)
  obtain⟨_,_,_,p⟩:=(show ObjOk X.prog X.w H s.heap a (.tup xs)from I.hok a _ ea)
  obtain⟨o,h1,h2,_⟩:=p
  exact⟨_,W.kitx_tuple,⟨o,h1,h2⟩,fun z=>nomatch z⟩
 | @dK a kvs ea =>
  cases (show u=Value.ref a from rx)
  obtain⟨_,_,vs,_,p⟩:=(show ObjOk X.prog X.w H s.heap a (.dK kvs)from I.hok a _ ea)
  obtain⟨o,es,ep,h1,h2,_⟩:=p
  exact⟨_,W.kitx_dict,⟨o,h1,h2.1⟩,fun z=>nomatch z⟩
 | @dT a kvs ea =>
  cases (show u=Value.ref a from rx)
  obtain⟨_,_,xs,_,o,es,ep,h1,h2,_⟩:=(show ObjOk X.prog X.w H s.heap a (.dT kvs)from I.hok a _ ea)
  exact⟨_,W.kitx_dict,⟨o,h1,h2.1⟩,fun z=>nomatch z⟩
 | @ins a C dx fs ea cl ha hn htk hm =>
  cases (show u=Value.ref a from rx)
  obtain⟨mA,O,_⟩:=b2J I.hok ea
  obtain⟨od,J,_⟩:=O.look
  exact⟨_,W.kitx_own (cl.get _) cl.hd ha hn htk hm,J,fun z=>nomatch z⟩
def a6a(K:W.Frag):List V→Hp→VK→Prop:=fun xs H Q=>∃x y t c b,xs=[x,y]∧a28 y=some c∧TyX K H x t∧W.kitOne K t c=some b∧Q (.bl b) H
theorem b0T:T7 X (.builtin "isinstance") (a6a X.K):=by
 intro pins s σ H xs us Q I r h
 obtain⟨x,y,t,c,b,rfl,e1,e2,e3,q⟩:=h
 obtain⟨u,v,rfl,r1,r2⟩:=a8i r
 obtain rfl:=a7t e1 r2
 obtain⟨Φ,Z,p,n⟩:=e2.kit I r1
 exact W.kia_one Z I.kIn p e3 n fun tk=>⟨.bl b,H,I.tok _,rfl,q⟩
def a8s(K:W.Frag):List V→Hp→VK→Prop:=fun xs H Q=>∃x p ys t cs b,xs=[x,.ref p]∧H p=some (.tup ys)∧ys.mapM a28=some cs∧TyX K H x t∧W.kitAny K t cs=some b∧Q (.bl b) H
theorem a9t:T7 X (.builtin "isinstance") (a8s X.K):=by
 intro pins s σ H xs us Q I r h
 obtain⟨x,p,ys,t,cs,b,rfl,e0,e1,e2,e3,q⟩:=h
 obtain⟨u,v,rfl,r1,r2⟩:=a8i r
 cases (show v=Value.ref p from r2)
 obtain⟨_,its,rv,o,ho,hc,n,hd⟩:=(show ObjOk X.prog X.w H s.heap p (.tup ys)from I.hok p _ e0)
 obtain rfl:=a5_ e1 rv
 obtain⟨Φ,Z,pp,nn⟩:=e2.kit I r1
 obtain⟨oc,od,oda,osl⟩:=o
 dsimp only at hc hd
 subst hc hd
 exact W.kia_tup Z I.kIn pp ho e3 nn fun tk=>⟨.bl b,H,I.tok _,rfl,q⟩
end
def b0U:List V→List V→Bool
 | [],[]=>true
 | x::xs,y::ys=>eqV x y && b0U xs ys
 | _,_=>false
section
variable {X:Cx}{pins:List (Addr×Obj)}{σ:St}{H:Hp}{s:Shared}
theorem a1b:G7 X (binaryOp .Mult) (rI IntMulOk fun i j=>.int (i*j)):=opI fun _ _ _ _ _ _ _ hc q=>mul_int q hc
theorem E3:G7 X (binaryOp .FloorDiv) (rI (fun _ j=>0<j∧j.natAbs.log2<9000) fun i j=>.int (i/j)):=opI fun i j _ _ _ _ _ hc q=>by
 have h0:j≠0:=by have:=hc.1;omega
 refine floordiv_int h0 ?_ (.inl (PyProof.noPylong_of_log2 hc.2))
 rw[Int.fdiv_eq_ediv_of_nonneg _ (Int.le_of_lt hc.1)]
 exact q
end
open PySem.W PySem.Calls
theorem a63{ns:List Int}(h:WData.layableAll [WData.list (ns.map WData.int)]=true):∀n∈ns,Builtin.Int.intBits n≤2 ^ 20:=fun n hn=>by
 have h1:(WData.list (ns.map WData.int)).layable=true:=layableW_arg h _ (List.mem_singleton.mpr rfl)
 have h2:=layableW_item h1 (WData.int n) (List.mem_map.mpr ⟨n,hn,rfl⟩)
 have h3:=(layableW_iff.mp h2).2.2
 simpa only[WData.weight,Builtin.Int.intBits]using h3
theorem b52{P:Program}{w:World}{outer:List Env}(H:Hp)(s:Shared)(e:Value)(s':Shared)(h:y8 P w outer H s (fun _ _ _=>False) e s'):False:=by
 obtain⟨_,_,_,_,_,_,_,_,_,_,_,_,_,_,_,_,hE⟩:=h
 exact hE
structure Own(P:Program)(w:World)(K:W.Frag)(mg:Str→Option Value)(base:Heap)(k:Nat)(x:Str)(ps:List Str)(sp:Sp):Prop where
 ex:∃f fd,FnOk P w K mg base (y8 P w) k f fd ps sp∧Binds K fd ps []∧W.keepIn K (.ref f)=true∧mg x=some (.ref f)
structure OwnD(P:Program)(w:World)(K:W.Frag)(mg:Str→Option Value)(base:Heap)(k:Nat)(x:Str)(ps:List Str)(sp:Sp)(d:V):Prop where
 ex:∃f fd du,FnOk P w K mg base (y8 P w) k f fd ps sp∧Binds K fd ps []∧Binds K fd ps [du]∧RelV d du∧W.keepIn K (.ref f)=true∧mg x=some (.ref f)
structure OwnW(P:Program)(w:World)(K:W.Frag)(mg:Str→Option Value)(base:Heap)(k:Nat)(x:Str)(ps:List Str)(sp:Sp):Prop where
 ex:∃f fd,FnOkW P w K mg base k f fd ps sp∧Binds K fd ps []∧W.keepIn K (.ref f)=true∧mg x=some (.ref f)
section
variable {X:Cx}{k k':Nat}{ps:List Str}{sp:Sp}{x:Str}{p pos:Pos}{e:Expr}{es:List Expr}{t:TA}{E:XK}{d:V}
theorem m8(G:Own X.prog X.w X.K X.mg X.base k x ps sp)(hr:Room k' X.A)(hk:k≤k')(hx:a0_ (y8 X.prog X.w) X E)(ha:PA X (e::es) t)(hg:Gl X x:=by rfl)
  (hdb:(x == ("__debug__" : Str))=false:=by decide) (he:starEach (e::es) X.env=(false,eval e X.env)::starEach es X.env:=by rfl) (hpl:(backTo pos (starEach es X.env)).any (·.1)=false:=by rfl) :
  PE X (.Call (.Name x p) (e::es) [] pos) (T8 sp [] E t):=by
 obtain⟨f,fd,F,b,kp,m⟩:=G.ex
 exact b2L F (hr.mono hk) hg m kp b .nil hx ha hdb he hpl
theorem a7u(G:OwnW X.prog X.w X.K X.mg X.base k x ps sp)(hr:RoomW k' X.A)(ha:PA X (e::es) t)(hk:k≤k':=by decide)(hg:Gl X x:=by rfl)
  (hdb:(x == ("__debug__" : Str))=false:=by decide) (he:starEach (e::es) X.env=(false,eval e X.env)::starEach es X.env:=by rfl) (hpl:(backTo pos (starEach es X.env)).any (·.1)=false:=by rfl) :
  PE X (.Call (.Name x p) (e::es) [] pos) (a3I sp t):=by
 obtain⟨f,fd,F,b,kp,m⟩:=G.ex
 exact b0S F ⟨by have:=hr.dp;omega,by have:=hr.un;omega⟩ hg m kp b ha hdb he hpl
end
theorem a3J:bootBuiltins "int" = some (.type "int"):=by decide +kernel
theorem a4B:bootBuiltins "bool" = some (.type "bool"):=by decide +kernel
theorem a4C:bootBuiltins "list" = some (.type "list"):=by decide +kernel
theorem a6b:bootBuiltins "tuple" = some (.type "tuple"):=by decide +kernel
theorem a5G:bootBuiltins "ValueError" = some (.type "ValueError"):=by decide +kernel
theorem z7:bootBuiltins "isinstance" = some (.builtin "isinstance"):=by decide +kernel
theorem C0:bootBuiltins "len" = some (.builtin "len"):=by decide +kernel
theorem X4{H:Hp}{p:Addr}(h:H p=none)(o:HO):Same H (upd H p o):=fun b u q=>by rw[g5 (j9 q h)];exact q
def Scr(K:W.Frag)(H:Hp)(a:Addr)(xs:List V):Prop:=(∃o,H a=some (.frz o (.lst xs))) ∨
  ∃(o:Obj) (its:Array Value) (n:Nat),K.lookup a=some o∧o.cls=.type "list"∧o.dict=none∧o.data=.seq its n∧its.size≤sizeLine∧Vals xs its.toList
theorem Scr.seq{K:W.Frag}{H:Hp}{a:Addr}{xs:List V}(h:Scr K H a xs):SqL K H a xs:=h.elim (fun z=>.inl (.inr z)) .inr
theorem Scr.of{K:W.Frag}{H:Hp}{a:Addr}{xs:List V}(h:SqL K H a xs)(o:b6I H):Scr K H a xs:=by
 rcases h with(h | h) | h
 ·rcases o a with z | ⟨o,ys,z⟩
  ·rw[h]at z;cases z
  ·rw[h]at z;cases z
 ·exact .inl h
 ·exact .inr h
theorem Scr.same{K:W.Frag}{H H':Hp}{a:Addr}{xs:List V}(g:Same H H')(h:Scr K H a xs):Scr K H' a xs:=h.elim (fun⟨o,z⟩=>.inl ⟨o,g _ _ z⟩) .inr
theorem Scr.upd{K:W.Frag}{H:Hp}{a l:Addr}{xs ys:List V}{o:HO}(hl:H l=some (.lst ys))(h:Scr K H a xs):Scr K (L2.upd H l o) a xs:=h.elim (fun⟨ob,z⟩=>.inl ⟨ob,by rw[g5 (b1T z hl (by intro q;cases q))];exact z⟩) .inr
section
variable {prog:Program}{w:World}{A:Around}{R:Result→Shared→Prop}{s:Shared}
theorem a64{elt target iter:Expr}{ifs:List Expr}{scope:Scope}{pos:Pos}{it acc:Value}{env:Env}{N:Value→Shared→Prop}(hN:N=notedBy (model prog w) A env fun e s'=>R (.error e) s')(I:Nat→Shared→Prop)
  (turn:∀n s,I n s→wpAny (model prog w) A (pyNext it) (fun r s₁=>match r with
   | none=>R (.ok .next) s₁
   | some v=>wpAny (model prog w) A (letOwnedTupleGo target it v) (fun _ s₁'=>wpAny (model prog w) A (assign target env v) (fun _ s₂ =>
     wpAny (model prog w) A (forIn ifs true fun c r=>if r=true then do let ok ← isTrue c env (eval c env);pure (ForInStep.yield ok)else pure (ForInStep.yield r)) (fun ok s₃ =>
      if ok=true then wpAny (model prog w) A (eval elt env) (fun x s₄ =>
       wpAny (model prog w) A (call (.builtin "list.append") [acc,x]) (fun _ s₅=>∃m,m<n∧I m s₅) N s₄) N s₃
      else ∃m,m<n∧I m s₃) N s₂) N s₁') N s₁) N s)
  (n:Nat) (h:I n s) :
  codeAny (model prog w) A (.compLoop (.ListComp elt [⟨target,iter,ifs,0⟩] scope pos) 0 it acc env) R s:=by
 subst hN
 refine codeAny_loop rfl I (fun k z q=>?_) n h
 show wpAny _ A ((compTurn (.ListComp elt [⟨target,iter,ifs,0⟩] scope pos) 0 it acc env).onRaise (fun ex=>do noteFrame ex env;theTreesLotGoes ex)) _ _ z
 refine wpAny_noted ?_
 rw[compTurn_list]
 refine wpAny_bind (wpAny_standAt (wpAny_bind (m4 (turn k z q) fun r z1 q1=>?_)))
 cases r with
 | none=>exact wpAny_pure q1
 | some v =>
  refine wpAny_bind (m4 q1 fun _ z2 q2=>?_)
  refine wpAny_bind (m4 q2 fun _ z3 q3=>?_)
  refine wpAny_bind (m4 q3 fun ok z4 q4=>?_)
  cases ok with
  | false=>exact wpAny_pure ⟨rfl,q4⟩
  | true=>exact wpAny_bind (wpAny_bind (m4 q4 fun x z5 q5=>wpAny_bind (m4 q5 fun _ z6 q6=>wpAny_pure (wpAny_pure ⟨rfl,q6⟩))))
end
def G0(cells:List (Str×Addr)):List (Str×NameKind)→List (Str×Addr)→List (Str×Addr)
 | [],acc=>acc
 | (n,k)::r,acc=>if k == .free then(match cells.lookup n with
   | some c=>G0 cells r ((n,c)::acc)
   | none=>G0 cells r acc)else G0 cells r acc
theorem a0N{cells:List (Str×Addr)}{x:Str}{c:Addr}:∀{names:List (Str×NameKind)} {acc:List (Str×Addr)},(∀d,acc.lookup x=some d→cells.lookup x=some d)→(G0 cells names acc).lookup x=some c→cells.lookup x=some c
 | [],acc,h,e=>h c e
 | (n,k)::r,acc,h,e=>by
  unfold G0 at e
  split at e
  ·split at e
   ·rename_i c' hc'
    refine a0N (fun d q=>?_) e
    rw[List.lookup_cons]at q
    split at q
    ·rename_i hx
     have hx':x=n:=by simpa using hx
     cases q
     rw[hx'];exact hc'
    ·exact h d q
   ·exact a0N h e
  ·exact a0N h e
theorem Y9{cells:List (Str×Addr)}{x:Str}:∀{names:List (Str×NameKind)} {acc:List (Str×Addr)},(∃d,acc.lookup x=some d)→∃d,(G0 cells names acc).lookup x=some d
 | [],acc,h=>h
 | (n,k)::r,acc,h=>by
  unfold G0
  split
  ·split
   ·refine Y9 ?_
    rw[List.lookup_cons]
    split
    ·exact⟨_,rfl⟩
    ·exact h
   ·exact Y9 h
  ·exact Y9 h
theorem Q2{cells:List (Str×Addr)}{x:Str}:∀{names:List (Str×NameKind)} {acc:List (Str×Addr)},(x,NameKind.free)∈names→(∃c,cells.lookup x=some c)→∃d,(G0 cells names acc).lookup x=some d
 | [],acc,h,_=>by simp at h
 | (n,k)::r,acc,h,hc=>by
  unfold G0
  rcases List.mem_cons.mp h with e | h
  ·cases e
   obtain⟨c,hc⟩:=hc
   rw[if_pos (by rfl),hc]
   exact Y9 ⟨c,by simp[List.lookup_cons]⟩
  ·split
   ·split
    ·exact Q2 h hc
    ·exact Q2 h hc
   ·exact Q2 h hc
theorem a1r{env:Env}:∀(names:List (Str×NameKind)) (acc:List (Str×Addr)),(∀y∈names,y.2=.free→∃c,env.cells.lookup y.1=some c) →
  (forIn names acc fun(x:Str×NameKind) (cs:List (Str×Addr))=>if(x.2 == NameKind.free)=true then do let a ← cellOf env x.1;pure (ForInStep.yield ((x.1,a)::cs))else pure (ForInStep.yield cs):Sem (List (Str×Addr)))=pure (G0 env.cells names acc)
 | [],acc,_=>rfl
 | (n,k)::r,acc,h=>by
  rw[List.forIn_cons]
  unfold G0
  by_cases hk:(k == NameKind.free)=true
  ·obtain⟨c,hc⟩:=h (n,k) List.mem_cons_self (by simpa using hk)
   have e:cellOf env n=pure c:=by unfold cellOf;rw[hc]
   rw[if_pos hk,if_pos hk,hc,e]
   exact a1r r _ fun y hy=>h y (List.mem_cons_of_mem _ hy)
  ·rw[if_neg hk,if_neg hk]
   exact a1r r acc fun y hy=>h y (List.mem_cons_of_mem _ hy)
theorem a01{scope:Scope}{env:Env}(h:∀y∈scope.names,y.2=.free→∃c,env.cells.lookup y.1=some c):closureFor scope env=pure (G0 env.cells scope.names []):=by
 have:=a1r (env:=env) scope.names [] h
 unfold closureFor
 exact(congrArg (· >>= pure) this).trans (by first | rfl | simp)
theorem R6{env:Env}:∀{names:List (Str×NameKind)} {x:Str} {k':NameKind},
  (names.map fun(n,k)=>if(k == NameKind.free && env.scope.kind == .function && env.kindOf n == some .cell)then(n,NameKind.cell)else(n,k)).lookup x=some k' →
  ∃k,names.lookup x=some k∧(k'=k∨(k=.free∧k'=.cell))
 | [],_,_,h=>by simp at h
 | (n,k)::r,x,k',h=>by
  rw[List.map_cons]at h
  dsimp only at h
  by_cases hc:(k == NameKind.free && env.scope.kind == .function && env.kindOf n == some .cell)=true
  ·rw[if_pos hc,List.lookup_cons]at h
   rw[List.lookup_cons]
   split at h
   ·rename_i hx
    cases h
    have hk:k=.free:=by
     have:=(Bool.and_eq_true _ _▸(Bool.and_eq_true _ _▸hc).1).1
     simpa using this
    exact⟨k,rfl,.inr ⟨hk,rfl⟩⟩
   ·rename_i hx
    obtain⟨k2,q1,q2⟩:=R6 h
    exact⟨k2,q1,q2⟩
  ·rw[if_neg hc,List.lookup_cons]at h
   rw[List.lookup_cons]
   split at h
   ·rename_i hx
    cases h
    exact⟨k,rfl,.inl rfl⟩
   ·rename_i hx
    obtain⟨k2,q1,q2⟩:=R6 h
    exact⟨k2,q1,q2⟩
theorem P6{env:Env}:∀{names:List (Str×NameKind)} {x:Str},names.lookup x=some .free →
  (names.map fun(n,k)=>if(k == NameKind.free && env.scope.kind == .function && env.kindOf n == some .cell)then(n,NameKind.cell)else(n,k)).lookup x=some .cell ∨
  (names.map fun(n,k)=>if(k == NameKind.free && env.scope.kind == .function && env.kindOf n == some .cell)then(n,NameKind.cell)else(n,k)).lookup x=some .free
 | [],_,h=>by simp at h
 | (n,k)::r,x,h=>by
  rw[List.map_cons]
  dsimp only
  rw[List.lookup_cons]at h
  by_cases hc:(k == NameKind.free && env.scope.kind == .function && env.kindOf n == some .cell)=true
  ·rw[if_pos hc,List.lookup_cons]
   split at h
   ·rename_i hx
    left;rfl
   ·rename_i hx
    exact P6 (env:=env) h
  ·rw[if_neg hc,List.lookup_cons]
   split at h
   ·rename_i hx
    right;exact h
   ·rename_i hx
    exact P6 (env:=env) h
structure CompSc(Sc scope:Scope)(N Nc:List Str)(k:Nat)(js:List Nat):Prop where
 cell:∀y∈scope.names,y.2≠.cell
 kind:scope.kind=.function
 names:∀y∈scope.names,y.2=.local→scope.names.lookup y.1=some .local
 free:∀y∈scope.names,y.2=.free→Sc.names.lookup y.1=some .cell∨Sc.names.lookup y.1=some .free
 nd:Nc.Nodup
 len:Nc.length=k+js.length
 cap:(Nc.drop k).map some=js.map fun j=>N[j]?
 caps:∀x∈Nc.drop k,scope.names.lookup x=some .free
def z9(k:Nat)(js:List Nat)(σ:St):St:=List.replicate k none++js.map fun j=>(σ[j]?).getD none
theorem L8{names:List (Str×NameKind)}{x:Str}{k:NameKind}(h:names.lookup x=some k):(x,k)∈names:=PySem.mem_of_lookup h
abbrev D6(X:Cx)(scope:Scope)(Nc:List Str)(C:Addr)(s3:Shared)(H3:Hp)(fp:List Addr)(xe:Value→Shared→Prop):Cx :=
 { X with N:=Nc,s₀:=s3,H₀:=H3,env:=compEnvC scope (G0 X.env.cells scope.names []) C X.env,outer:=X.stack,ex:=fp,fn:=fun _=>false,pn:=[],xe:=xe }
section
variable {X:Cx}{pins:List (Addr×Obj)}{σ:St}{H3:Hp}{s3:Shared}{scope:Scope}{Nc:List Str}{k:Nat}{js:List Nat}{fp:List Addr}{xe:Value→Shared→Prop}{h₁:Heap}{m₀:Str→Option Value}{tk:Nat}
theorem a3K(I:Inv X pins σ H3 s3)(S:CompSc X.env.scope scope X.N Nc k js):∀y∈scope.names,y.2=.free→∃c,X.env.cells.lookup y.1=some c:=fun y hy hk=>I.ok.has y.1 (S.free y hy hk)
theorem G6{x:Str}{c:Addr}(e:(G0 X.env.cells scope.names []).lookup x=some c):X.env.cells.lookup x=some c:=a0N (fun d q=>by simp at q) e
theorem b0V(I:Inv X pins σ H3 s3)(S:CompSc X.env.scope scope X.N Nc k js)(hf:∀b∈fp,FpOk X pins H3 b)(hfo:∀b∈fp,b<s3.heap.objs.size)(hns:h₁.Ns s3.heap.objs.size m₀)(old:∀b o,s3.heap.get? b=some o→h₁.get? b=some o) :
  Inv (D6 X scope Nc s3.heap.objs.size s3 H3 fp xe) [] (z9 k js σ) H3 { s3 with heap:=h₁,toks:=tk }:=by
 have ok:=I.ok
 have hb0:∀b o,X.base.get? b=some o→b<X.s₀.heap.objs.size:=fun b o e=>Nat.lt_of_lt_of_le (Heap.lt_size e) ok.bsz
 refine⟨⟨ok.mod,S.kind,ok.glob,ok.blt,Nat.le_refl _,fun x y c h1 h2=>ok.inj x y c (G6 h1) (G6 h2),fun x hx=>?_,(fun x c z=>nomatch z),ok.hd,ok.frames,.inl rfl,fun b hb=>⟨Nat.ne_of_lt (hfo b hb),fun x c e=>(hf b hb).2.2.2.2.1 x c (G6 e)⟩,I.bs,Nat.le_trans ok.bsz I.sz,fun b o e hb=>?_,fun b hb z=>?_,I.stack,I.stkFree⟩,
  rfl,I.bare,Un.kept old,⟨m₀,hns,fun i x v e1 e2 e3=>?_⟩,fun x c e=>?_,I.hok.fresh (Nat.le_refl _),fun x c e=>I.freeC x c (G6 e),fun p hp=>absurd (show p∈([]:List (Addr×Obj))from hp) (by simp),I.hok.kept old,?_⟩
 ·have hx:(relabel scope X.env).names.lookup x=some .cell∨(relabel scope X.env).names.lookup x=some .free:=hx
  have hfree:scope.names.lookup x=some .free:=by
   rcases hx with hx | hx
   ·obtain⟨k2,q1,q2⟩:=R6 (env:=X.env) hx
    rcases q2 with q2 | ⟨q2,_⟩
    ·subst q2;exact absurd rfl (S.cell _ (L8 q1))
    ·rw[q2]at q1;exact q1
   ·obtain⟨k2,q1,q2⟩:=R6 (env:=X.env) hx
    rcases q2 with q2 | ⟨q2,q3⟩
    ·subst q2;exact q1
    ·cases q3
  exact Q2 (L8 hfree) (ok.has x (S.free _ (L8 hfree) rfl))
 ·rcases(hf b hb).2.2.2.1 with z | z
  ·exact ok.noex b o e z
  ·exact absurd (Nat.lt_of_lt_of_le (hb0 b o e) z) (Nat.lt_irrefl _)
 ·rcases List.mem_cons.mp (I.stkSub b z)with q | q
  ·exact(hf b hb).2.1 q
  ·exact(hf b hb).2.2.1 q
 ·have hlen:(List.replicate k (none:Option V)).length=k:=List.length_replicate
  by_cases hi:i<k
  ·unfold z9 at e2
   rw[List.getElem?_append_left (by omega),List.getElem?_replicate]at e2
   split at e2<;>cases e2
  ·unfold z9 at e2
   rw[List.getElem?_append_right (by omega),hlen,List.getElem?_map]at e2
   cases hj:js[i-k]? with
   | none=>rw[hj]at e2;cases e2
   | some j =>
    rw[hj]at e2
    have e2':(σ[j]?).getD none=some v:=Option.some.inj e2
    have hσ:σ[j]? = some (some v):=by
     cases q:σ[j]? with
     | none=>rw[q]at e2';cases e2'
     | some y=>rw[q]at e2';simp at e2';rw[e2']
    have hx:(Nc.drop k)[i-k]? = some x:=by rw[List.getElem?_drop];rw[show k+(i-k)=i by omega];exact e1
    have hNj:X.N[j]? = some x:=by
     have:=congrArg (fun l=>l[i-k]?) S.cap
     simp only[List.getElem?_map,hx,hj,Option.map_some]at this
     exact(Option.some.inj this).symm
    have hfr:scope.names.lookup x=some .free:=S.caps x (List.mem_of_getElem? hx)
    have hk:=S.free _ (L8 hfr) rfl
    obtain⟨m,hn,hl⟩:=I.loc
    obtain⟨u,r,l⟩:=hl j x v hNj hσ (.inr hk)
    refine⟨u,r,.inr ⟨P6 hfr,?_⟩⟩
    rcases l with⟨l1,_⟩ | ⟨_,c,hc,hcell⟩
    ·have l1:X.env.scope.names.lookup x=some .local:=l1
     rcases hk with hk | hk
     ·rw[l1]at hk;cases hk
     ·rw[l1]at hk;cases hk
    ·obtain⟨d,hd⟩:=Q2 (cells:=X.env.cells) (acc:=[]) (L8 hfr) ⟨c,hc⟩
     have:=G6 hd
     rw[hc]at this;cases this
     obtain⟨o,ho,hdd⟩:=hcell
     exact⟨c,hd,⟨o,old _ _ ho,hdd⟩⟩
 ·obtain⟨v,o,ho,hd⟩:=I.cell x c (G6 e)
  exact⟨v,o,old _ _ ho,hd⟩
 ·unfold z9
  rw[List.length_append,List.length_replicate,List.length_map]
  exact S.len.symm
end
def PF(X:Cx)(ifs:List Expr)(t:TT):Prop :=
 ∀(pins:List (Addr×Obj)) (s:Shared) (σ:St) (H:Hp) (Q:Bool→Hp→Prop),Inv X pins σ H s→t σ H Q →
  wpAny (model X.prog X.w) X.A (forIn ifs true fun c r=>if r=true then do let ok ← isTrue c X.env (eval c X.env);pure (ForInStep.yield ok)else pure (ForInStep.yield r)) (TP X pins σ Q) X.xe s
def b16:TT:=fun _ H Q=>Q true H
theorem a9u{X:Cx}:PF X [] b16:=fun pins s σ H Q I h=>wpAny_tests_nil ⟨H,I,h⟩
theorem b4T{X:Cx}{c:Expr}{t:TT}(h:PT X c t):PF X [c] t:=fun pins s σ H Q I q=>wpAny_tests_one (h pins s σ H Q I q)
def a2c(J:It)(g:TG)(tf:TT)(te:TE)(k:Nat)(σ0:St)(D:Addr)(Fin:Hp→Prop)(H1:Hp):Prop :=
 ∃W:Nat→Nat→List V→Hp→Prop,(∃m,W 0 m [] (upd H1 D (.lst [])))∧∀i m ys H,W i m ys H →
  (J.stop i H∧Fin H)∨(J.go i H∧∃N:List V→Hp→Prop,(∀ys' H',N ys' H'→∃m',m'<m∧W (i+1) m' ys' H')∧∀x H',J.yld i H x H'→g x σ0 H' fun σ2 H2=>(σ2.drop k=σ0.drop k∧σ2.length=σ0.length)∧tf σ2 H2 fun b H3 =>
   if b=true then te σ2 H3 fun y H4=>H4 D=some (.lst ys)∧ys.length<sizeLine∧N (ys++[y]) (upd H4 D (.lst (ys++[y])))else N ys H3)
section
variable {X:Cx}{pins:List (Addr×Obj)}{σ:St}{H:Hp}{s:Shared}{elt tg iter:Expr}{ifs:List Expr}{scope:Scope}{pos:Pos}{Nc:List Str}{k:Nat}{js:List Nat}{g:TG}{tf:TT}{te:TE}
theorem a3L{J:It}{fp:List Addr}{it:Addr}{tn:Nat→Heap→Prop}{E:Value→Shared→Prop}{RR:Value→Addr→Result→Shared→Prop}{Fin:Addr→Hp→Prop}(hc:X.calm=true)(S:CompSc X.env.scope scope X.N Nc k js)
  (hg:∀C s3 H3 fp xe,PG (D6 X scope Nc C s3 H3 fp xe) tg g) (hf:∀C s3 H3 fp xe,PF (D6 X scope Nc C s3 H3 fp xe) ifs tf)
  (he:∀C D H3,∃xe:Value→Shared→Prop,(∀e s',xe e s'→notedBy (model X.prog X.w) X.A (compEnvC scope (G0 X.env.cells scope.names []) C X.env) (fun e s'=>RR (.ref D) C (.error e) s') e s') ∧
   ∀s3,Inv X pins σ H3 s3→C=s3.heap.objs.size→(∀b∈fp,FpOk X pins H3 b)→PE (D6 X scope Nc C s3 H3 fp xe) elt te)
  (I2:Inv X pins σ H s) (T:Turn X.prog X.w X.K tg J fp it tn) (st2:tn 0 s.heap) (f2:∀b∈fp,FpOk X pins H b) (hR:∀D,H D=none→a2c J g tf te k (z9 k js σ) D (Fin D) H)
  (hRR:∀D C H' s' m',Inv X pins σ H' s'→s'.heap.Ns C m'→H' C=none→C≠X.env.locals→X.s₀.heap.objs.size≤C→(∀x c,X.env.cells.lookup x=some c→c≠C)→(∀p∈X.pn++pins,p.1≠C)→Fin D H'→RR (.ref D) C (.ok .next) s') :
  wpAny (model X.prog X.w) X.A (newList []) (fun acc s₃=>wpAny (model X.prog X.w) X.A (newFunctionEnv scope X.env.globals (G0 X.env.cells scope.names []) [] X.env.qual none .none (some X.env)) (fun cenv s₄ =>
   codeAny (model X.prog X.w) X.A (.compStart (.ListComp elt [⟨tg,iter,ifs,0⟩] scope pos) 0 (.ref it) acc { cenv with scope:=relabel scope X.env }) (RR acc cenv.locals) s₄) E s₃) E s:=by
 refine wpAny_newObj_type (wpAny_newFunctionEnv S.cell (by intro y hy;simp at hy) (fun h₁ hns₁ hsb₁=>?_) S.kind)
 dsimp only at hns₁ hsb₁ ⊢
 have I3:Inv X pins σ (upd H s.heap.objs.size (.lst [])) { s with heap:=s.heap.push { cls:=.type "list",data:=.seq ([]:List Value).toArray },toks:=s.toks }:=I2.lnew (its:=[]) .nil (Nat.zero_le _)
 have hDn:H s.heap.objs.size=none:=I2.fresh
 obtain⟨W,⟨m0,w0⟩,turn⟩:=hR _ hDn
 generalize hs3:({ s with heap:=s.heap.push { cls:=.type "list",data:=.seq ([]:List Value).toArray },toks:=s.toks }:Shared)=s3 at I3
 have e3:s3.heap=s.heap.push { cls:=.type "list",dict:=none,data:=.seq ([]:List Value).toArray }:=by rw[← hs3]
 rw[← e3]at hns₁ hsb₁ ⊢
 have fpo:∀b∈fp,b<s.heap.objs.size:=fun b hb=>by obtain⟨o,e,_⟩:=T.obj _ _ st2 b hb;exact Heap.lt_size e
 have sz3:s3.heap.objs.size=s.heap.objs.size+1:=by rw[e3,Heap.size_push]
 have fpo3:∀b∈fp,b<s3.heap.objs.size:=fun b hb=>by rw[sz3];exact Nat.lt_succ_of_lt (fpo b hb)
 have f3:∀b∈fp,FpOk X pins (upd H s.heap.objs.size (.lst [])) b:=fun b hb=>⟨by rw[g5 (Nat.ne_of_lt (fpo b hb))];exact(f2 b hb).1,(f2 b hb).2⟩
 have old:∀b o,s3.heap.get? b=some o→h₁.get? b=some o:=fun b o e=>hsb₁.extBut b o (Nat.ne_of_lt (Heap.lt_size e)) (Heap.get?_push_of_some _ e)
 have oldS:∀b o,s.heap.get? b=some o→h₁.get? b=some o:=fun b o e=>old b o (by rw[e3];exact Heap.get?_push_of_some _ e)
 obtain⟨xe,hxe,hel⟩:=he s3.heap.objs.size s.heap.objs.size (upd H s.heap.objs.size (.lst []))
 have hel:=hel s3 I3 rfl f3
 have I4:Inv (D6 X scope Nc s3.heap.objs.size s3 (upd H s.heap.objs.size (.lst [])) fp xe) [] (z9 k js σ) (upd H s.heap.objs.size (.lst [])) { s3 with heap:=h₁,toks:=s.toks+([]:List (Str×Value)).length } :=
  b0V I3 S f3 fpo3 hns₁ old
 have st4:tn 0 h₁:=T.keep _ _ _ st2 fun b hb o e=>oldS b o e
 have es3:({ s3 with heap:=h₁,toks:=s.toks+([]:List (Str×Value)).length }:Shared)={ s with heap:=h₁,toks:=s.toks+([]:List (Str×Value)).length }:=by rw[← hs3]
 rw[es3]at I4
 have ok:=I2.ok
 have lk:=I3.lt
 have hCL:s3.heap.objs.size≠X.env.locals:=Nat.ne_of_gt lk
 have stat:∀{H':Hp},(∀b∈fp,H' b=none)→∀b∈fp,FpOk (D6 X scope Nc s3.heap.objs.size s3 (upd H s.heap.objs.size (.lst [])) fp xe) [] H' b:=fun hn b hb =>
  ⟨hn b hb,Nat.ne_of_lt (fpo3 b hb),fun z=>(List.mem_cons.mp (I3.stkSub b z)).elim (fun q=>(f3 b hb).2.1 q) fun q=>(f3 b hb).2.2.1 q,.inl hb,fun x c e=>(f3 b hb).2.2.2.2.1 x c (G6 e),fun p hp=>absurd (show p∈([]:List (Addr×Obj))from hp) (by simp)⟩
 have loop:codeAny (model X.prog X.w) X.A (.compLoop (.ListComp elt [⟨tg,iter,ifs,0⟩] scope pos) 0 (.ref it) (.ref s.heap.objs.size) (compEnvC scope (G0 X.env.cells scope.names []) s3.heap.objs.size X.env))
    (RR (.ref s.heap.objs.size) s3.heap.objs.size) { s with heap:=h₁,toks:=s.toks+([]:List (Str×Value)).length }:=by
  refine a64 rfl (fun n s'=>∃i ys H',Inv (D6 X scope Nc s3.heap.objs.size s3 (upd H s.heap.objs.size (.lst [])) fp xe) [] (z9 k js σ) H' s'∧tn i s'.heap∧(∀b∈fp,H' b=none)∧W i n ys H') ?_ m0 ⟨0,[],_,I4,st4,fun b hb=>(f3 b hb).1,w0⟩
  rintro n s5 ⟨i,ys,H5,I5,st5,fr5,w5⟩
  rcases turn i n ys H5 w5 with⟨stop,fin⟩ | ⟨go,Nx,hNx,step⟩
  ·refine m4 (T.done (D6 X scope Nc s3.heap.objs.size s3 (upd H s.heap.objs.size (.lst [])) fp xe) rfl rfl rfl hc i [] s5 (z9 k js σ) H5 _ I5 (stat fr5) st5 stop) fun r s6 ⟨hr,I6⟩=>?_
   subst hr
   obtain⟨m6,hn6,_⟩:=I6.loc
   have J:Inv X pins σ H5 s6:=I3.call' (ch:=fp) (I6.os.trans rfl) I6.base I6.hok I6.bare fun b hb=>⟨(f3 b hb).2.2.2.1,(f3 b hb).2.1,(f3 b hb).2.2.2.2.1,(f3 b hb).2.2.2.2.2⟩
   refine hRR _ _ H5 s6 m6 J hn6 I6.free hCL (I3.sz) (fun x c e z=>?_) (fun p hp z=>?_) fin
   ·obtain⟨v,q⟩:=I3.cell x c e
    exact absurd q.lt (by rw[z];exact Nat.lt_irrefl _)
   ·exact absurd (Heap.lt_size (I3.pin p hp).1) (by rw[z];exact Nat.lt_irrefl _)
  ·refine m4 (T.item (D6 X scope Nc s3.heap.objs.size s3 (upd H s.heap.objs.size (.lst [])) fp xe) rfl rfl rfl hc i [] s5 (z9 k js σ) H5 _ I5 (stat fr5) st5 go) fun r s6 ⟨u,hr,h6⟩=>?_
   subst hr
   refine m4 h6 fun _ s7 ⟨x,H7,I7,r7,y7,st7,fr7⟩=>?_
   have I7':=I7.pinned (stat fr7) (T.obj _ _ st7)
   refine wpAny_mono (hg _ _ _ _ _ _ s7 _ H7 x u _ I7' r7 (step x H7 y7)) (fun _ s8 ⟨σ8,H8,I8,⟨d8,l8⟩,q8⟩=>?_) fun e s' z=>hxe e s' z
   refine wpAny_mono (hf _ _ _ _ _ _ s8 σ8 H8 _ I8 q8) (fun b s9 ⟨H9,I9,q9⟩=>?_) fun e s' z=>hxe e s' z
   have again:∀{H':Hp} {s':Shared} {ys':List V},Inv (D6 X scope Nc s3.heap.objs.size s3 (upd H s.heap.objs.size (.lst [])) fp xe) ([]++a17 fp s7.heap) σ8 H' s'→Nx ys' H' →
     ∃m,m<n∧∃i ys H',Inv (D6 X scope Nc s3.heap.objs.size s3 (upd H s.heap.objs.size (.lst [])) fp xe) [] (z9 k js σ) H' s'∧tn i s'.heap∧(∀b∈fp,H' b=none)∧W i m ys H':=fun{H' s' ys'} I' hw=>by
    obtain⟨m',hm,w'⟩:=hNx _ _ hw
    refine⟨m',hm,i+1,ys',H',(I'.unpinned).weak l8.symm fun j v e=>?_,T.keep _ _ _ st7 fun b hb o e=>(I'.pin (b,o) (List.mem_append_right _ (List.mem_append_right _ (a0f hb e)))).1,fun b hb=>?_,w'⟩
    ·by_cases hj:j<k
     ·unfold z9 at e
      rw[List.getElem?_append_left (by rw[List.length_replicate];exact hj),List.getElem?_replicate]at e
      split at e<;>cases e
     ·have e':((z9 k js σ).drop k)[j-k]? = some (some v):=by rw[List.getElem?_drop,show k+(j-k)=j by omega];exact e
      rw[← d8,List.getElem?_drop,show k+(j-k)=j by omega]at e'
      exact e'
    ·obtain⟨o,e,d⟩:=T.obj _ _ st7 b hb
     exact(I'.pin (b,o) (List.mem_append_right _ (List.mem_append_right _ (a0f hb e)))).2.1
   cases b with
   | false =>
    rw[if_neg Bool.false_ne_true]at q9 ⊢
    exact again I9 q9
   | true =>
    rw[if_pos rfl]at q9 ⊢
    refine wpAny_mono (hel _ s9 σ8 H9 _ I9 q9) (fun v s10 ⟨y,H10,I10,r10,hD,hz,w'⟩=>?_) fun e s' z=>hxe e s' z
    refine wpAny_mono (C9 (X:=D6 X scope Nc s3.heap.objs.size s3 (upd H s.heap.objs.size (.lst [])) fp xe) _ s10 σ8 H10 (.ref s.heap.objs.size) [y] (.ref s.heap.objs.size) [v] (fun _ H'=>H'=upd H10 s.heap.objs.size (.lst (ys++[y]))) I10 rfl (.cons r10 .nil)
     ⟨_,ys,y,rfl,rfl,hD,hz,rfl⟩) (fun _ s11 ⟨_,H11,I11,_,q11⟩=>?_) fun e s' z=>hxe e s' z
    subst q11
    exact again I11 w'
 exact codeAny_compStart_list loop (T.self _ 0 _ _ _ st4 loop)
end
def a5N(wi:TI)(g:TG)(tf:TT)(te:TE)(k:Nat)(js:List Nat):TE:=fun σ H Q=>wi σ H fun J H1=>∀D,H1 D=none→a2c J g tf te k (z9 k js σ) D (fun H'=>Q (.ref D) H') H1
def a6c(i:Nat)(wi:TI)(g:TG)(tf:TT)(te:TE)(k:Nat)(js:List Nat):TS:=fun N σ H=>wi σ H fun J H1=>∀D,H1 D=none→a2c J g tf te k (z9 k js σ) D (fun H'=>N.nx (σ.set i (some (.ref D))) H') H1
section
variable {X:Cx}{elt tg iter:Expr}{ifs:List Expr}{scope:Scope}{pos:Pos}{Nc:List Str}{k:Nat}{js:List Nat}{wi:TI}{g:TG}{tf:TT}{te:TE}
theorem b2U(hc:X.calm=true)(S:CompSc X.env.scope scope X.N Nc k js)(hi:PI X tg iter wi)(hg:∀C s3 H3 fp xe,PG (D6 X scope Nc C s3 H3 fp xe) tg g)(hf:∀C s3 H3 fp xe,PF (D6 X scope Nc C s3 H3 fp xe) ifs tf)
  (he:∀C s3 H3 fp xe,PE (D6 X scope Nc C s3 H3 fp xe) elt te) (hs:∀x,foldedSetIterable iter X.env x=pure x:=by intro _;rfl):PE X (.ListComp elt [⟨tg,iter,ifs,0⟩] scope pos) (a5N wi g tf te k js):=by
 intro pins s σ H Q I h
 rw[eval_ListComp]
 refine wpAny_comprehension_free (use:=none) rfl hs (a01 (a3K I S)) S.kind S.names (m4 (hi pins s σ H _ I h) fun v s1 h1=>m4 h1 fun itv s2 h2=>?_)
 obtain⟨it,fp,tn,J,H2,rfl,I2,T,st2,f2,hR⟩:=h2
 refine a3L (RR:=fun acc C=>compPost (model X.prog X.w) X.A X.xe none (EP X pins σ Q) acc C) (Fin:=fun D H'=>Q (.ref D) H') hc S hg hf (fun C D H3=>⟨fun _ _=>False,fun _ _ z=>z.elim,fun s3 _ _ _=>he _ _ _ _ _⟩) I2 T st2 f2 hR ?_
 intro D C H' s' m' I' hn hC hCL hsz hcl hpn q
 exact⟨m',hn,fun h' hs'=>⟨.ref D,H',I'.turned (t':=s'.toks) (fun b o hb e=>(hs'.2 b hb).trans e) hC hCL (.inr hsz) hcl hpn,rfl,q⟩⟩
theorem a3M{i:Nat}{y:Str}{py spos:Pos}(hc:X.calm=true)(S:CompSc X.env.scope scope X.N Nc k js)(hN:X.N.Nodup)(hy:X.N[i]? = some y)(hi:PI X tg iter wi)(hg:∀C s3 H3 fp xe,PG (D6 X scope Nc C s3 H3 fp xe) tg g)(hf:∀C s3 H3 fp xe,PF (D6 X scope Nc C s3 H3 fp xe) ifs tf)
  (he:∀C s3 H3 fp xe,PE (D6 X scope Nc C s3 H3 fp xe) elt te) (hl:X.env.scope.names.lookup y=some .local:=by rfl) (hs:∀x,foldedSetIterable iter X.env x=pure x:=by intro _;rfl)
  (hsw:swapsWith (.ListComp elt [⟨tg,iter,ifs,0⟩] scope pos) (some (.Name y py)) spos.line X.env=pure true:=by rfl):PS X (.Assign [.Name y py] (.ListComp elt [⟨tg,iter,ifs,0⟩] scope pos) spos) (a6c i wi g tf te k js):=by
 intro pins s σ H N I h
 rw[exec_Assign_Name_used _ _ _ _ hsw]
 refine wpAny_bind (wpAny_standAt (wpAny_bind ?_))
 show wpAny _ X.A (do let _ ← comprehension (.ListComp elt [⟨tg,iter,ifs,0⟩] scope pos) scope X.env _ (newList []) false (eval iter X.env) (some (assign (.Name y py) X.env))) _ _ s
 refine wpAny_bind (m4 (wpAny_comprehension_free (use:=some (assign (.Name y py) X.env)) (Q:=fun _ z=>SP X pins N .next z) rfl hs (a01 (a3K I S)) S.kind S.names
  (m4 (hi pins s σ H _ I h) fun v s1 h1=>m4 h1 fun itv s2 h2=>?_)) fun _ z hq=>wpAny_pure (wpAny_pure hq))
 obtain⟨it,fp,tn,J,H2,rfl,I2,T,st2,f2,hR⟩:=h2
 refine a3L (RR:=fun acc C=>compPost (model X.prog X.w) X.A X.xe (some (assign (.Name y py) X.env)) (fun _ z=>SP X pins N .next z) acc C) (Fin:=fun D H'=>N.nx (σ.set i (some (.ref D))) H') hc S hg hf
  (fun C D H3=>⟨fun _ _=>False,fun _ _ z=>z.elim,fun s3 _ _ _=>he _ _ _ _ _⟩) I2 T st2 f2 hR ?_
 intro D C H' s' m' I' hn hC hCL hsz hcl hpn q
 show wpAny _ X.A (assign (.Name y py) X.env (.ref D)) _ _ s'
 refine wpAny_assign_Name (a48 (v:=.ref D) I' hN hy (.inl hl) rfl (fun s'' I'' ⟨a,hsb,ha⟩=>?_) (.inr hl))
 have hCa:C≠a:=by
  rcases ha with ha | ha
  ·rw[ha];exact hCL
  ·exact fun z=>hcl y a ha z.symm
 exact⟨m',hn.sameBut hsb hCa,fun h' hs'=>⟨_,H',I''.turned (t':=s''.toks) (fun b o hb e=>(hs'.2 b hb).trans e) hC hCL (.inr hsz) hcl hpn,q⟩⟩
end
theorem a9v{K:W.Frag}{a:Addr}{xs:List V}{g:TG}{tf:TT}{te:TE}{k:Nat}{σ0:St}{D:Addr}{Fin:Hp→Prop}{H1:Hp}(Pv:Nat→List V→Hp→Prop)(h0:Pv 0 [] (upd H1 D (.lst [])))(hl:∀i ys H,i≤xs.length→Pv i ys H→SqL K H a xs)
  (hs:∀i x ys H,xs[i]? = some x→Pv i ys H→g x σ0 H fun σ2 H2=>(σ2.drop k=σ0.drop k∧σ2.length=σ0.length)∧tf σ2 H2 fun b H3 =>
   if b=true then te σ2 H3 fun y H4=>H4 D=some (.lst ys)∧ys.length<sizeLine∧Pv (i+1) (ys++[y]) (upd H4 D (.lst (ys++[y])))else Pv (i+1) ys H3)
  (hd:∀ys H,Pv xs.length ys H→Fin H):a2c (Itl K a) g tf te k σ0 D Fin H1:=by
 refine⟨fun i m ys H=>m=xs.length-i∧i≤xs.length∧Pv i ys H,⟨xs.length,by simp,Nat.zero_le _,h0⟩,?_⟩
 rintro i m ys H ⟨rfl,hi,p⟩
 have q:=hl i ys H hi p
 by_cases hlt:i<xs.length
 ·refine .inr ⟨⟨xs,xs[i],q,by simp[hlt]⟩,Pv (i+1),fun ys' H' z=>⟨xs.length-(i+1),by omega,rfl,hlt,z⟩,fun x H' y=>?_⟩
  obtain⟨e,y⟩:=y
  subst e
  exact hs i x ys _ (y xs q) p
 ·have e:i=xs.length:=by omega
  subst e
  exact .inl ⟨⟨xs,q,Nat.le_refl _⟩,hd ys H p⟩
section
variable {X:Cx}{pins:List (Addr×Obj)}{σ:St}{H:Hp}{s:Shared}
theorem Inv.turnedN{h':Heap}{t':Nat}{ch:List Addr}(I:Inv X pins σ H s)(k:∀b u,b ∉ ch→s.heap.get? b=some u→h'.get? b=some u)(hf:∀b∈ch,FpOk X pins H b):Inv X pins σ H { s with heap:=h',toks:=t' }:=by
 have nch:∀b u,H b=some u→b ∉ ch:=fun b u q z=>by rw[(hf b z).1]at q;cases q
 refine I.call (g':=s.gens) (d':=s.drawn) (ch:=ch) ⟨fun b u q _ _ hx=>k b u hx q,fun b u q _ _ hx=>⟨u.slots,k b u hx q⟩,fun b u q n _=>n,fun b u q hx=>⟨u,k b u hx q⟩,fun b xs q=>q,fun b u xs q=>q,fun b ps q=>⟨#[],by rw[q];simp⟩⟩ (fun b u q=>?_) I.bare
  fun b hb=>⟨(hf b hb).2.2.2.1,(hf b hb).2.1,(hf b hb).2.2.2.2.1,(hf b hb).2.2.2.2.2⟩
 refine(I.hok b u q).stay (fun c v hc r=>k c v ?_ r) (fun c z=>z) (fun c xs z=>z) fun c ob u z=>z
 rcases hc with hc | hc
 ·rw[hc];exact nch b u q
 ·exact nch c _ hc
end
section
variable {X:Cx}
theorem a9w:bootBuiltins "max" = some (.builtin "max"):=by decide +kernel
end
section
variable {X:Cx}{K:W.Frag}
theorem l5(hK:X.K=K:=by rfl):IxR X (b0J K):=hK▸b2O
theorem f9(hK:X.K=K:=by rfl):IxR X (b0K K):=hK▸b4M
theorem b0W(hK:X.K=K:=by rfl):SlR X (b0L K):=hK▸b2P
theorem a9x(hK:X.K=K:=by rfl):G7 X (compareOp .In) (rIn K false):=hK▸a9o
theorem a9y(hK:X.K=K:=by rfl):G7 X (compareOp .NotIn) (rIn K true):=hK▸a56
def a7v(K:W.Frag):List V→Hp→VK→Prop:=fun xs H Q=>∃p ys,xs=[.ref p]∧(SqL K H p ys∨SqT K H p ys)∧Q (.int ys.length) H
theorem k9(hK:X.K=K:=by rfl):T7 X (.builtin "len") (a7v K):=hK▸a57
def a7w(K:W.Frag):List V→Hp→VK→Prop:=fun xs H Q=>∃p ys,xs=[.ref p]∧(SqL K H p ys∨SqT K H p ys)∧∀l,H l=none→Q (.ref l) (upd H l (.lst ys))
theorem a1R(hK:X.K=K:=by rfl):T7 X (.type "list") (a7w K):=hK▸a58
theorem J0(hK:X.K=K:=by rfl):T7 X (.builtin "isinstance") (a6a K):=hK▸b0T
theorem a3N(hK:X.K=K:=by rfl):T7 X (.builtin "isinstance") (a8s K):=hK▸a9t
theorem P4{es:List Expr}{k:Nat}{t:TGs}{n:Nat}{pos:Pos}(hc:X.calm=true)(h:PGs X es t)(hK:X.K=K:=by rfl)(hn:(assignEach es X.env).length=n:=by rfl)(hst:(assignEach es X.env).findIdx? (·.1)=none:=by rfl) :
  PG X (.Tuple es k pos) (a50 K n t):=hK▸b4B hc h hn hst
variable {o e:Expr}{es:List Expr}{to:TE}{t:TA}{name:Str}{apos cpos:Pos}{T id:String}{r:V→List V→Hp→VK→Prop}
theorem a7x(pa:PlainAttrs T)(slot:Slot T name id)(hty:typeOf (.builtin id)=pure (.type "method_descriptor"))(hm:MtR X id r)(ho:PE X o to)(hK:X.K=K:=by rfl)
  (hbase:attributeBase o name X.env (eval o X.env)=eval o X.env:=by rfl) (hline:(apos.endLine == cpos.line)=true:=by rfl):PE X (.Call (.Attribute o name apos) [] [] cpos) (b0M K T r to):=hK▸b4N pa slot hty hm ho hbase hline
theorem M9(pa:PlainAttrs T)(slot:Slot T name id)(hty:typeOf (.builtin id)=pure (.type "method_descriptor"))(hm:MtR X id r)(ho:PE X o to)(ha:PA X (e::es) t)(hK:X.K=K:=by rfl)
  (hbase:attributeBase o name X.env (eval o X.env)=eval o X.env:=by rfl)
  (hfew:((backTo cpos (starEach (e::es) X.env)).all (fun x=>!x.1) && (backToKw cpos (keywordEach [] X.env)).all (fun x=>x.1.isSome)
   && decide ((e::es).length+([]:List Keyword).length+(if([]:List Keyword).isEmpty then 0 else 1)<30))=true:=by rfl)
  (hline:(apos.endLine == cpos.line)=true:=by rfl) (hs:starEach (e::es) X.env=(false,eval e X.env)::starEach es X.env:=by rfl) (hplain:(backTo cpos (starEach es X.env)).any (·.1)=false:=by rfl) :
  PE X (.Call (.Attribute o name apos) (e::es) [] cpos) (tBM K T r to t):=hK▸b51 pa slot hty hm ho ha hbase hfew hline hs hplain
end
theorem a3O{X:Cx}{x:Str}{j:Nat}{pos:Pos}{es:List Expr}{t:TA}(hr:PA X es t):PA X (.Constant (.str x) j pos::es) (L3 (tC (.str x)) t):=a6 w6 hr
def Gd(n:Nat)(lt:Nat→Nat→Bool){α:Type}:KasT α→(α→Prop)→Prop
 | .ret a,P=>P a
 | .ask i j k,P=>i<n∧j<n∧Gd n lt (k (lt i j)) P
theorem Gd.mono{n:Nat}{lt:Nat→Nat→Bool}{α:Type}{P P':α→Prop}(h:∀a,P a→P' a):∀{t:KasT α},Gd n lt t P→Gd n lt t P'
 | .ret a,g=>h a g
 | .ask i j k,g=>⟨g.1,g.2.1,Gd.mono h g.2.2⟩
theorem Gd.bind{n:Nat}{lt:Nat→Nat→Bool}{α β:Type}{P:β→Prop}{f:α→KasT β}:∀{t:KasT α},Gd n lt t (fun a=>Gd n lt (f a) P)→Gd n lt (t.bind f) P
 | .ret a,g=>g
 | .ask i j k,g=>⟨g.1,g.2.1,Gd.bind (t:=k (lt i j)) g.2.2⟩
theorem Gd.wp{n:Nat}{lt:Nat→Nat→Bool}{α:Type}{cmp:Nat→Nat→(Bool→Shared→Prop)→Shared→Prop}{s:Shared}(hc:∀i j C,i<n→j<n→C (lt i j) s→cmp i j C s){P:α→Prop}{Q:α→Shared→Prop}(q:∀a,P a→Q a s):∀{t:KasT α},Gd n lt t P→t.kasWp cmp Q s
 | .ret a,g=>q a g
 | .ask i j k,g=>hc i j _ g.1 g.2.1 (Gd.wp hc q (t:=k (lt i j)) g.2.2)
def ga(p:Array Nat)(k:Nat):Nat:=p.getD k 0
theorem a3P(p:Array Nat)(k:Nat):ga p k=(p[k]?).getD 0:=by
 unfold ga;simp[Array.getD_eq_getD_getElem?]
structure TPre(lt:Nat→Nat→Bool):Prop where
 irr:∀i,lt i i=false
 tr:∀i j k,lt j i=false→lt k j=false→lt k i=false
 asy:∀i j,lt i j=true→lt j i=false
section
variable {n:Nat}{lt:Nat→Nat→Bool}
def Up(lt:Nat→Nat→Bool)(p:Array Nat)(m:Nat):Prop:=∀i j,i≤j→j<m→lt (ga p j) (ga p i)=false
def Dn(lt:Nat→Nat→Bool)(p:Array Nat)(m:Nat):Prop:=∀i j,i≤j→j<m→lt (ga p i) (ga p j)=false
def Pmn(n:Nat)(p:Array Nat):Prop:=p.toList.Perm (List.range n)
theorem Pmn.size{p:Array Nat}(h:Pmn n p):p.size=n:=by have:=h.length_eq;simpa using this
theorem Pmn.bd{p:Array Nat}(h:Pmn n p){k:Nat}(hk:k<n):ga p k<n:=by
 have hs:=h.size
 have:ga p k∈p.toList:=by
  have e:ga p k=p[k]'(by omega):=by unfold ga;simp[Array.getD,hs,hk]
  rw[e];exact Array.getElem_mem_toList _
 exact List.mem_range.mp (h.mem_iff.mp this)
theorem Pmn.rev{p:Array Nat}(h:Pmn n p)(i j:Nat):Pmn n (kas_rev p i j):=((Array.perm_iff_toList_perm.mp (mirror_perm p i j _)).trans h)
theorem Pmn.bub{p:Array Nat}(h:Pmn n p)(i j:Nat):Pmn n (bubble p i j):=((Array.perm_iff_toList_perm.mp (bubble_perm p i j)).trans h)
theorem a2d{p:Array Nat}{i j:Nat}(hj:j≤p.size)(k:Nat):ga (kas_rev p i j) k=if i≤k∧k<j then ga p (i+j-1-k)else ga p k:=by
 rw[a3P,kas_rev,getElem?_mirror_all hj]
 split<;>rw[a3P]
theorem b4U{p:Array Nat}{src d:Nat}(hs:src<p.size)(hd:d≤src)(k:Nat):ga (bubble p src d) k=if k=src-d then ga p src else if src-d<k∧k≤src then ga p (k-1)else ga p k:=by
 rw[a3P,getElem?_bubble hs d hd]
 split
 ·rw[a3P]
 ·split<;>rw[a3P]
theorem a6d(T:TPre lt){p:Array Nat}(hp:Pmn n p):∀(f k:Nat),1≤k→k+f≤n→Up lt p k→Gd n lt (kas_asc p f k) (fun m=>k≤m∧m≤k+f∧Up lt p m∧(m<k+f→lt (ga p m) (ga p (m-1))=true))
 | 0,k,_,_,u=>⟨Nat.le_refl _,Nat.le_refl _,u,fun z=>absurd z (by omega)⟩
 | f+1,k,h1,h2,u=>by
  refine⟨hp.bd (by omega),hp.bd (by omega),?_⟩
  cases c:lt (p.getD k 0) (p.getD (k-1) 0)with
  | true=>simp only[if_true];exact⟨Nat.le_refl _,by omega,u,fun _=>c⟩
  | false =>
   simp only[Bool.false_eq_true,if_false]
   refine(a6d T hp f (k+1) (by omega) (by omega) fun i j hij hj=>?_).mono fun m h=>⟨by omega,by omega,h.2.2.1,fun z=>h.2.2.2 (by omega)⟩
   by_cases hjk:j<k
   ·exact u i j hij hjk
   ·have e:j=k:=by omega
    subst e
    by_cases hik:i=j
    ·subst hik;exact T.irr _
    ·exact T.tr _ _ _ (u i (j-1) (by omega) (by omega)) c
theorem a2D(T:TPre lt):∀(f:Nat) (p:Array Nat) (k q:Nat),Pmn n p→q+1≤k→k+f≤n→Dn lt p k→(∀i,k-(q+1)≤i→i<k→lt (ga p (k-1)) (ga p i)=false∧lt (ga p i) (ga p (k-1))=false) →
  Gd n lt (kas_desc f p k q) (fun r=>Pmn n r.1∧k≤r.2.1∧r.2.1≤k+f∧r.2.2+1≤r.2.1∧Dn lt r.1 r.2.1∧∀i,r.2.1-(r.2.2+1)≤i→i<r.2.1→lt (ga r.1 (r.2.1-1)) (ga r.1 i)=false∧lt (ga r.1 i) (ga r.1 (r.2.1-1))=false)
 | 0,p,k,q,hp,hq,hk,d,eq=>⟨hp,Nat.le_refl _,Nat.le_refl _,hq,d,eq⟩
 | f+1,p,k,q,hp,hq,hk,d,eq=>by
  refine⟨hp.bd (by omega),hp.bd (by omega),?_⟩
  have ext:∀p':Array Nat,Dn lt p' k→(lt (ga p' (k-1)) (ga p' k)=false)→Dn lt p' (k+1):=fun p' d' c i j hij hj=>by
   by_cases hjk:j<k
   ·exact d' i j hij hjk
   ·have e:j=k:=by omega
    subst e
    by_cases hik:i=j
    ·subst hik;exact T.irr _
    ·exact T.tr _ _ _ c (d' i (j-1) (by omega) (by omega))
  cases c:lt (p.getD k 0) (p.getD (k-1) 0)with
  | true =>
   simp only[if_true]
   have c':lt (ga p (k-1)) (ga p k)=false:=T.asy _ _ c
   have one:∀p':Array Nat,∀i,k+1-(0+1)≤i→i<k+1→lt (ga p' (k+1-1)) (ga p' i)=false∧lt (ga p' i) (ga p' (k+1-1))=false:=fun p' i h1 h2=>by
    have e:i=k+1-1:=by omega
    rw[e];exact⟨T.irr _,T.irr _⟩
   by_cases hq0:q > 0
   ·rw[if_pos hq0]
    have hps:=hp.size
    have gr:=a2d (p:=p) (i:=k-(q+1)) (j:=k) (by omega)
    have eqv:∀i,i<k→lt (ga (kas_rev p (k-(q+1)) k) i) (ga p i)=false∧lt (ga p i) (ga (kas_rev p (k-(q+1)) k) i)=false:=fun i hi=>by
     rw[gr]
     split
     ·rename_i z
      have a:=eq (k-(q+1)+k-1-i) (by omega) (by omega)
      have b:=eq i z.1 z.2
      exact⟨T.tr _ _ _ b.1 a.2,T.tr _ _ _ a.1 b.2⟩
     ·exact⟨T.irr _,T.irr _⟩
    have gk:ga (kas_rev p (k-(q+1)) k) k=ga p k:=by rw[gr,if_neg (by omega)]
    have dr:Dn lt (kas_rev p (k-(q+1)) k) k:=fun i j hij hj=>T.tr _ _ _ (T.tr _ _ _ (eqv j hj).2 (d i j hij hj)) (eqv i (by omega)).1
    exact(a2D T f _ (k+1) 0 (hp.rev _ _) (by omega) (by omega) (ext _ dr (by rw[gk];exact T.tr _ _ _ c' (eqv (k-1) (by omega)).1)) (one _)).mono fun r h=>⟨h.1,by omega,by omega,h.2.2.2⟩
   ·rw[if_neg hq0]
    exact(a2D T f _ (k+1) 0 hp (by omega) (by omega) (ext _ d c') (one _)).mono fun r h=>⟨h.1,by omega,by omega,h.2.2.2⟩
  | false =>
   simp only[Bool.false_eq_true,if_false]
   refine⟨hp.bd (by omega),hp.bd (by omega),?_⟩
   cases e:lt (p.getD (k-1) 0) (p.getD k 0)with
   | true=>simp only[if_true];exact⟨hp,Nat.le_refl _,Nat.le_add_right _ _,hq,d,eq⟩
   | false =>
    simp only[Bool.false_eq_true,if_false]
    refine(a2D T f p (k+1) (q+1) hp (by omega) (by omega) (ext _ d e) fun i h1 h2=>?_).mono fun r h=>⟨h.1,by omega,by omega,h.2.2.2⟩
    rw[Nat.add_sub_cancel]
    by_cases hik:i=k
    ·subst hik;exact⟨T.irr _,T.irr _⟩
    ·have a:=eq i (by omega) (by omega)
     exact⟨T.tr _ _ _ a.1 c,T.tr _ _ _ e a.2⟩
theorem a6e(T:TPre lt){p:Array Nat}{k:Nat}(hp:Pmn n p)(h1:1≤k)(hk:k≤n)(d:Dn lt p k):Gd n lt (kas_tail3 k n p) (fun r=>Pmn n r.2∧1≤r.1∧r.1≤n∧Up lt r.2 r.1):=by
 have hps:=hp.size
 have gr:=a2d (p:=p) (i:=0) (j:=k) (by omega)
 refine Gd.bind ((a6d T (hp.rev 0 k) (n-k) k h1 (by omega) fun i j hij hj=>?_).mono fun m h=>⟨hp.rev 0 k,by show 1≤m;omega,by show m≤n;omega,h.2.2.1⟩)
 rw[gr,gr,if_pos (by omega),if_pos (by omega)]
 exact d _ _ (by omega) (by omega)
theorem a2T(T:TPre lt){p:Array Nat}{k:Nat}(hp:Pmn n p)(hk:k+1≤n)(d:Dn lt p (k+1)):Gd n lt (kas_descPart k n p) (fun r=>Pmn n r.2∧1≤r.1∧r.1≤n∧Up lt r.2 r.1):=by
 refine Gd.bind ((a2D T (n-(k+1)) p (k+1) 0 hp (by omega) (by omega) d fun i h1 h2=>?_).mono fun r h=>?_)
 ·have e:i=k+1-1:=by omega
  rw[e];exact⟨T.irr _,T.irr _⟩
 ·obtain⟨p',m,q⟩:=r
  obtain⟨hp',hm1,hm2,hq,d',eq⟩:=h
  dsimp only at *
  have hps:=hp'.size
  split
  ·have gr:=a2d (p:=p') (i:=m-(q+1)) (j:=m) (by omega)
   have eqv:∀i,i<m→lt (ga (kas_rev p' (m-(q+1)) m) i) (ga p' i)=false∧lt (ga p' i) (ga (kas_rev p' (m-(q+1)) m) i)=false:=fun i hi=>by
    rw[gr]
    split
    ·rename_i z
     have a:=eq (m-(q+1)+m-1-i) (by omega) (by omega)
     have b:=eq i z.1 z.2
     exact⟨T.tr _ _ _ b.1 a.2,T.tr _ _ _ a.1 b.2⟩
    ·exact⟨T.irr _,T.irr _⟩
   exact a6e T (hp'.rev _ _) (by omega) (by omega) fun i j hij hj=>T.tr _ _ _ (T.tr _ _ _ (eqv j hj).2 (d' i j hij hj)) (eqv i (by omega)).1
  ·exact a6e T hp' (by omega) (by omega) d'
theorem b0X(T:TPre lt){p:Array Nat}(hp:Pmn n p)(h1:1≤n):Gd n lt (kas_count n p) (fun r=>Pmn n r.2∧1≤r.1∧r.1≤n∧Up lt r.2 r.1):=by
 have hps:=hp.size
 refine Gd.bind ((a6d T hp (n-1) 1 (Nat.le_refl _) (by omega) fun i j hij hj=>?_).mono fun m h=>?_)
 ·have e:i=j:=by omega
  rw[e];exact T.irr _
 ·obtain⟨hm1,hm2,u,z⟩:=h
  split
  ·exact⟨hp,hm1,by omega,u⟩
  ·rename_i ne
   have hlt:m<n:=by
    have:m≠n:=fun q=>ne (by rw[q];exact beq_self_eq_true _)
    omega
   have zl:=z (by omega)
   split
   ·rename_i m1
    refine⟨hp.bd (by omega),hp.bd (by omega),?_⟩
    cases c:lt (p.getD 0 0) (p.getD (m-1) 0)with
    | true=>simp only[if_true];exact⟨hp,hm1,by omega,u⟩
    | false =>
     simp only[Bool.false_eq_true,if_false]
     have gr:=a2d (p:=p) (i:=0) (j:=m) (by omega)
     refine a2T T (hp.rev 0 m) (by omega) fun i j hij hj=>?_
     have all:∀a b,a<m→b<m→lt (ga p a) (ga p b)=false:=fun a b ha hb =>
      T.tr _ _ _ (u b (m-1) (by omega) (by omega)) (T.tr _ _ _ c (u 0 a (by omega) ha))
     rw[gr,gr]
     by_cases hjm:j<m
     ·rw[if_pos (by omega),if_pos (by omega)];exact all _ _ (by omega) (by omega)
     ·have e:j=m:=by omega
      subst e
      rw[if_neg (show ¬(0≤j∧j<j) by omega)]
      by_cases hij':i=j
      ·subst hij';rw[if_neg (by omega)];exact T.irr _
      ·rw[if_pos (by omega)]
       exact T.tr _ _ _ (T.asy _ _ zl) (all _ _ (by omega) (by omega))
   ·rename_i m1
    have e:m=1:=by omega
    subst e
    refine a2T T hp (by omega) fun i j hij hj=>?_
    by_cases hij':i=j
    ·subst hij';exact T.irr _
    ·have e1:i=0:=by omega
     have e2:j=1:=by omega
     subst e1 e2
     exact T.asy _ _ zl
theorem a29(T:TPre lt){p:Array Nat}(hp:Pmn n p){k:Nat}(hk:k<n)(u:Up lt p k):∀(f l r:Nat),l≤r→r≤k→r-l≤f→(∀i,i<l→lt (ga p k) (ga p i)=false)→(∀i,r≤i→i<k→lt (ga p i) (ga p k)=false) →
  Gd n lt (kas_place p k f l r) (fun m=>m≤k∧(∀i,i<m→lt (ga p k) (ga p i)=false)∧∀i,m≤i→i<k→lt (ga p i) (ga p k)=false)
 | 0,l,r,h1,h2,h3,a,b=>⟨by omega,a,fun i hi=>b i (by omega)⟩
 | f+1,l,r,h1,h2,h3,a,b=>by
  show Gd n lt (if l≥r then _ else _) _
  split
  ·exact⟨by omega,a,fun i hi=>b i (by omega)⟩
  ·refine⟨hp.bd hk,hp.bd (by omega),?_⟩
   cases c:lt (p.getD k 0) (p.getD ((l+r)/2) 0)with
   | true =>
    simp only[if_true]
    refine a29 T hp hk u f l ((l+r)/2) (by omega) (by omega) (by omega) a fun i hi hik=>?_
    exact T.tr _ _ _ (T.asy _ _ c) (u ((l+r)/2) i hi hik)
   | false =>
    simp only[Bool.false_eq_true,if_false]
    refine a29 T hp hk u f ((l+r)/2+1) r (by omega) (by omega) (by omega) (fun i hi=>?_) b
    exact T.tr _ _ _ (u i ((l+r)/2) (by omega) (by omega)) c
theorem a9z(T:TPre lt):∀(f:Nat) (p:Array Nat) (k:Nat),Pmn n p→k+f=n→Up lt p k→Gd n lt (kas_bin f p k) (fun p'=>Pmn n p'∧Up lt p' n)
 | 0,p,k,hp,hk,u=>by
  have e:k=n:=by omega
  subst e;exact⟨hp,u⟩
 | f+1,p,k,hp,hk,u=>by
  have hps:=hp.size
  refine Gd.bind ((a29 T hp (by omega) u k 0 k (by omega) (by omega) (by omega) (fun i hi=>by omega) (fun i h1 h2=>by omega)).mono fun l h=>?_)
  obtain⟨hl,a,b⟩:=h
  have gb:=b4U (p:=p) (src:=k) (d:=k-l) (by omega) (by omega)
  refine a9z T f _ (k+1) (hp.bub _ _) (by omega) fun i j hij hj=>?_
  rw[gb,gb]
  have el:k-(k-l)=l:=by omega
  rw[el]
  by_cases e:i=j
  ·subst e;exact T.irr _
  by_cases hjl:j=l
  ·rw[if_pos hjl,if_neg (by omega),if_neg (by omega)];exact a i (by omega)
  ·rw[if_neg hjl]
   by_cases hil:i=l
   ·rw[if_pos hil,if_pos (by omega)];exact b (j-1) (by omega) (by omega)
   ·rw[if_neg hil]
    by_cases h1:l<j∧j≤k
    ·rw[if_pos h1]
     by_cases h2:l<i∧i≤k
     ·rw[if_pos h2];exact u _ _ (by omega) (by omega)
     ·rw[if_neg h2];exact u _ _ (by omega) (by omega)
    ·rw[if_neg h1,if_neg (by omega)];exact u _ _ hij (by omega)
theorem b2V(T:TPre lt)(h1:1≤n):Gd n lt (kas_sort n) (fun p=>Pmn n p∧Up lt p n):=by
 refine Gd.bind ((b0X T (p:=List.toArray (List.range n)) (by unfold Pmn;simp) h1).mono fun r h=>?_)
 obtain⟨hp,m1,m2,u⟩:=h
 split
 ·exact a9z T _ _ _ hp (by omega) (by rw[Nat.max_eq_left m1];exact u)
 ·have e:r.1=n:=by omega
  exact⟨hp,e▸u⟩
end
theorem a4D:∀a:List Int,HT.lexLt a a=false
 | []=>rfl
 | x::xs=>by rw[HT.lexLt_cons,if_pos rfl];exact a4D xs
theorem a4E:∀a b:List Int,HT.lexLt a b=true→HT.lexLt b a=false
 | [],[],h=>by cases h
 | [],_::_,_=>rfl
 | _::_,[],h=>by cases h
 | x::xs,y::ys,h=>by
  rw[HT.lexLt_cons]at h ⊢
  by_cases e:x=y
  ·rw[if_pos e]at h;rw[if_pos e.symm];exact a4E xs ys h
  ·rw[if_neg e]at h;rw[if_neg (Ne.symm e)]
   have:=of_decide_eq_true h
   exact decide_eq_false (by omega)
theorem a6f:∀a b c:List Int,HT.lexLt b a=false→HT.lexLt c b=false→HT.lexLt c a=false
 | [],[],_,_,h=>h
 | [],y::ys,[],_,h=>rfl
 | [],y::ys,z::zs,_,_=>rfl
 | x::xs,[],_,h,_=>by cases h
 | x::xs,y::ys,[],_,h=>by cases h
 | x::xs,y::ys,z::zs,h1,h2=>by
  rw[HT.lexLt_cons]at h1 h2 ⊢
  by_cases e1:y=x
  ·rw[if_pos e1]at h1
   by_cases e2:z=y
   ·rw[if_pos e2]at h2;rw[if_pos (e2.trans e1)];exact a6f xs ys zs h1 h2
   ·rw[if_neg e2]at h2;rw[if_neg (fun q=>e2 (q.trans e1.symm))];rw[← e1];exact h2
  ·rw[if_neg e1]at h1
   have:=of_decide_eq_false h1
   by_cases e2:z=y
   ·rw[if_neg (fun q=>e1 (e2.symm.trans q)),e2];exact h1
   ·rw[if_neg e2]at h2
    have:=of_decide_eq_false h2
    rw[if_neg (by omega)]
    exact decide_eq_false (by omega)
theorem b0Y(key:Nat→List Int):TPre (fun i j=>HT.lexLt (key i) (key j)):=⟨fun i=>a4D _,fun i j k h1 h2=>a6f _ _ _ h1 h2,fun i j h=>a4E _ _ h⟩
section
variable {prog:Program}{w:World}{A:Around}{E:Value→Shared→Prop}{s:Shared}{b fin:Bool}{Q:Bool→Shared→Prop}
theorem a2U:∀{vs ws:List Value} {ns ms:List Int} (i:Nat),IntsAre vs ns→IntsAre ws ms→fin=decide (ns.length<ms.length)→Q (HT.lexLt ns ms) s→KatLex prog w A true fin Q (vs.zip ws) i s
 | _,_,_,_,i,.nil,.nil,hf,h=>by rw[List.zip_nil_left];refine kat_nil ?_;rw[hf];exact h
 | _,_,_,_,i,.nil,.cons c u t,hf,h=>by
  rw[List.zip_nil_left];refine kat_nil ?_;rw[hf,decide_eq_true (by simp)];exact h
 | _,_,_,_,i,.cons a t r,.nil,hf,h=>by
  rw[List.zip_nil_right];refine kat_nil ?_;rw[hf,decide_eq_false (by simp)];exact h
 | _,_,_,_,i,.cons (ns:=ns) a t r,.cons (ns:=ms) c u r',hf,h=>by
  rw[List.zip_cons_cons]
  rw[HT.lexLt_cons]at h
  refine kat_cons (wpAny_eqBool_int (kat_go (fun e=>?_) fun e=>?_))
  ·rw[if_pos (by simpa using e)]at h
   exact kat_yes (a2U (i+1) r r' (by rw[hf];simp) h)
  ·rw[if_neg (by simpa using e)]at h
   refine kat_no ?_
   by_cases hi:i=0
   ·subst hi
    show wpAny _ _ (oneLt' true _ _) _ _ _
    exact oneLt_int h
   ·have e0:(true && i == 0)=false:=by simpa using hi
    rw[e0]
    exact kat_one _ _ (PyProof.Rows.lt_int h)
def TupKey(h:Heap)(v:Value)(k:List Int):Prop:=∃a o xs m,v=.ref a∧h.get? a=some o∧o.cls=.type "tuple"∧o.data=.seq xs m∧IntsAre xs.toList k∧k≠[]
theorem TupKey.keeps{h h':Heap}{v:Value}{k:List Int}(t:TupKey h v k)(kp:∀a o,h.get? a=some o→h'.get? a=some o):TupKey h' v k:=by
 obtain⟨a,o,xs,m,e,ho,r⟩:=t
 exact⟨a,o,xs,m,e,kp _ _ ho,r⟩
theorem TupKey.lt{v u:Value}{k l:List Int}{C:Bool→Shared→Prop}{E:Value→Shared→Prop}(t:TupKey s.heap v k)(t':TupKey s.heap u l)(h:C (HT.lexLt k l) s):wpAny (model prog w) A (keyLt' (tuples' true) v u) C E s:=by
 obtain⟨a,o,xs,m,rfl,ho,_,hd,hi,_⟩:=t
 obtain⟨a',o',xs',m',rfl,ho',_,hd',hi',_⟩:=t'
 have z1:xs.size=k.length:=by rw[← hi.length];simp
 have z2:xs'.size=l.length:=by rw[← hi'.length];simp
 exact kat_lt ho hd ho' hd' (a2U 0 hi hi' (by rw[z1,z2]) h)
def TKs(h:Heap):List Value→List (List Int)→Prop
 | [],[]=>True
 | v::vs,k::ks=>TupKey h v k∧TKs h vs ks
 | _,_=>False
theorem TKs.keeps{h h':Heap}(kp:∀a o,h.get? a=some o→h'.get? a=some o):∀{vs:List Value} {ks:List (List Int)},TKs h vs ks→TKs h' vs ks
 | [],[],_=>trivial
 | [],_::_,t=>t.elim
 | _::_,[],t=>t.elim
 | v::vs,k::ks,t=>⟨t.1.keeps kp,TKs.keeps kp t.2⟩
theorem TKs.len{h:Heap}:∀{vs:List Value} {ks:List (List Int)},TKs h vs ks→vs.length=ks.length
 | [],[],_=>rfl
 | [],_::_,t=>t.elim
 | _::_,[],t=>t.elim
 | v::vs,k::ks,t=>by simp[t.2.len]
theorem TKs.at{h:Heap}:∀{vs:List Value} {ks:List (List Int)} (i:Nat),TKs h vs ks→i<vs.length→TupKey h (vs.getD i Value.none) (ks.getD i [])
 | [],_,i,_,hi=>absurd hi (Nat.not_lt_zero _)
 | _::_,[],_,t,_=>t.elim
 | v::vs,k::ks,0,t,_=>t.1
 | v::vs,k::ks,i+1,t,hi=>TKs.at (vs:=vs) (ks:=ks) i t.2 (by simpa using hi)
end
theorem a5h:∀{ys:List V} {us:List Value} (p:List Nat),Vals ys us→(∀i∈p,i<ys.length)→Vals (p.map fun i=>ys.getD i .non) (p.map fun i=>us.getD i Value.none)
 | _,_,[],_,_=>.nil
 | ys,us,i::p,r,h=>by
  have hi:=h i (by simp)
  obtain⟨u,e,ru⟩:=r.get (List.getElem?_eq_getElem hi)
  refine .cons ?_ (a5h p r fun j hj=>h j (by simp[hj]))
  have e1:ys.getD i .non=ys[i]:=by simp[hi]
  have e2:us.getD i Value.none=u:=by simp[e]
  show RelV (ys.getD i .non) (us.getD i Value.none)
  rw[e1,e2];exact ru
namespace F'
end F'
open PySem PySem.Spec PyProof.Rows PySem.W
section
variable {X:Cx}{pins:List (Addr×Obj)}{σ:St}{H:Hp}{s:Shared}{a:Addr}
theorem Inv.trackO{oe:Obj}{vs:Array Value}{k:Nat}{u:HO}(I:Inv X pins σ H s)(ni:¬Imp X pins H a)(e:s.heap.get? a=some oe)(d:oe.data=.seq vs k)(new:ObjOk X.prog X.w (upd H a u) s.heap a u):Inv X pins σ (upd H a u) s:=by
 have fr:H a=none:=by
  cases q:H a with
  | none=>rfl
  | some v=>exact absurd (.inl (by rw[q];exact nofun)) ni
 refine⟨I.ok,I.os,I.bare,⟨I.base.keep,I.base.slot,fun b o e1 n hx=>?_,I.base.there,fun b xs q=>?_,fun b o u q=>?_,fun b ps q=>?_⟩,I.loc,I.cell,?_,fun y c q=>?_,fun p hp=>?_,fun b u q=>?_,I.len⟩
 ·rw[g5 (fun z=>ni (.inr (.inl ⟨by rw[← z];exact hx,o,by rw[← z];exact e1⟩)))]
  exact I.base.free b o e1 n hx
 ·have q1:=I.base.tups b xs q
  rw[g5 (j9 q1 fr)];exact q1
 ·have q1:=I.base.frzs b o u q
  rw[g5 (j9 q1 fr)];exact q1
 ·obtain⟨more,q1⟩:=I.base.tbls b ps q
  exact⟨more,by rw[g5 (j9 q1 fr)];exact q1⟩
 ·rw[g5 fun z=>?_]
  ·exact I.free
  ·obtain⟨m,⟨o,es,ep,ho,hd,_⟩,_⟩:=I.loc
   rw[z,e]at ho;cases ho
   rw[d]at hd;cases hd
 ·rw[g5 fun z=>?_]
  ·exact I.freeC y c q
  ·obtain⟨v,o,ho,hd⟩:=I.cell y c q
   rw[z,e]at ho;cases ho
   rw[d]at hd;cases hd
 ·obtain⟨h1,h2,h3,h4,h5⟩:=I.pin p hp
  exact⟨h1,by rw[g5 (fun z=>ni (.inr (.inr ⟨p,hp,z⟩)))];exact h2,h3,h4,h5⟩
 ·by_cases hb:b=a
  ·subst hb
   rw[i8]at q;cases q
   exact new
  ·rw[g5 hb]at q
   refine(I.hok b u q).stay (fun _ _ _ z=>z) (fun c z=>?_) (fun c xs z=>?_) fun c ob u z=>?_
   ·rw[g5 (j9 z fr)];exact z
   ·rw[g5 (j9 z fr)];exact z
   ·rw[g5 (j9 z fr)];exact z
end
abbrev TH:=Value→Option Addr→Addr→Ends→St→Hp→Prop
def PH(X:Cx)(hs:List ExceptHandler)(th:TH):Prop :=
 ∀(pins:List (Addr×Obj)) (s:Shared) (σ:St) (H:Hp) (a:Addr) (cls:Value) (cx:Option Addr) (B:Heap) (D:Ends),Inv X pins σ H s→XAt X pins H s a cls cx B .fly→th cls cx a D σ H→wpAny (model X.prog X.w) X.A (handleBy (.ref a) X.env hs) (SP X pins D) X.xe s
def b17:TH:=fun _ _ _ _ _ _=>False
noncomputable def b4V(K:W.Frag)(C:Addr)(i:Nat)(ts:Addr→TS)(l7:TH):TH:=fun cls cx a D σ H =>
 (W.exmOne K cls (.ref C)=some true∧ts a { nx:=fun σ' H2=>D.nx (σ'.set i none) H2,rt:=D.rt,bk:=fun σ' H2=>D.bk (σ'.set i none) H2,ct:=fun σ' H2=>D.ct (σ'.set i none) H2 } (σ.set i (some (.ref a))) (upd H a (Q1 a cls cx)))∨(W.exmOne K cls (.ref C)=some false∧l7 cls cx a D σ H)
section
variable {X:Cx}
theorem b4W:PH X [] b17:=fun _ _ _ _ _ _ _ _ _ _ _ h=>h.elim
theorem b53{x n:Str}{i:Nat}{C:Addr}{suite:List Stmt}{b₀:Stmt}{np hpos:Pos}{hs:List ExceptHandler}{ts:Addr→TS}{l7:TH}(hg:Gl X x)(hm:X.mg x=some (.ref C))(hN:X.N.Nodup)(hi:X.N[i]? = some n)(hh:∀a,PSs (X.inExc a).nox (b₀::suite) (ts a))(hr:PH X hs l7)
  (hl:X.env.scope.names.lookup n=some .local:=by rfl) (hd:(x == ("__debug__" : Str))=false:=by decide):PH X (.ExceptHandler (some (.Name x np)) (some n) (b₀::suite) hpos::hs) (b4V X.K C i ts l7):=by
 intro pins s σ H a cls cx B D I x4 h
 have ok:=I.ok
 refine wpAny_handleBy_cons (codeAny_handlers_test (X0 (I.toExc (a:=a)) hg hm ?_ hd)) (by intro q;cases q)
 obtain⟨oe,vs,e,hc,d,_⟩:=x4.tr.there
 have LT:W.Looks (model X.prog X.w) s.heap (typeOf (.ref a)) cls:=hc▸(W.Looks.ld e).andThen .now
 rcases h with⟨hx,hsu⟩ | ⟨hx,hn⟩
 ·refine(W.exm_one I.kIn LT hx).here ?_
  refine codeAny_handlers_suite_as ?_
  refine a4z I x4 (fun z=>nomatch z) fun h5 I5 x5=>?_
  have I6:=(I5.track x5).toExc (a:=a)
  refine a26 (X:=X.inExc a) (v:=.ref a) I6 hN hi (.inl hl) rfl (fun s6 I7=>?_) (.inr hl)
  refine wpAny_mono (hh a pins s6 _ _ _ (I7.wish _) hsu) (fun f s7 q=>?_) fun _ _ z=>z.elim
  have q:=(q.unwish).ofExc ok
  cases f with
  | next =>
   obtain⟨σ7,H7,I8,q⟩:=q
   exact I8.nameGoes hN hi hl fun h8 I9=>⟨_,H7,I9,q⟩
  | brk =>
   obtain⟨σ7,H7,I8,q⟩:=q
   exact I8.nameGoes hN hi hl fun h8 I9=>⟨_,H7,I9,q⟩
  | cont =>
   obtain⟨σ7,H7,I8,q⟩:=q
   exact I8.nameGoes hN hi hl fun h8 I9=>⟨_,H7,I9,q⟩
  | ret u =>
   obtain⟨v7,σ7,H7,I8,r,q⟩:=q
   exact I8.nameGoes hN hi hl fun h8 I9=>⟨v7,_,H7,I9,r,q⟩
 ·refine(W.exm_one I.kIn LT hx).here ?_
  exact hr pins s σ H a cls cx B D I x4 hn
def XAccAt(X:Cx)(σ:St)(E:XK):Prop:=∀(pins:List (Addr×Obj)) (H:Hp) (s:Shared) (a:Addr) (cls:Value) (cx:Option Addr) (B:Heap) (ph:Ph),Inv X pins σ H s→XAt X pins H s a cls cx B ph→E cls cx H→X.xe (.ref a) s
theorem XAccAt.passes{σ:St}{E:XK}(acc:XAccAt X σ E):∀(pins:List (Addr×Obj)) (H:Hp) (s:Shared) (e:Value) (s':Shared),Inv X pins σ H s→y8 X.prog X.w X.stack H s E e s'→X.xe e s':=by
 intro pins H s e s' I h
 obtain⟨a,cls,cx,H',B,rfl,os,bare,un,hok,st,fr,ff,tr,free,cov,hE⟩:=h
 have I':Inv X pins σ H' s':=I.call' (ch:=[]) os un hok bare (fun b z=>absurd z (by simp))
 refine acc pins H' s' a cls cx B .fly I' ⟨free,st,fr,ff,fun b o e i n=>cov b o e ?_ n,tr⟩ hE
 rcases i with i | ⟨hx,o',i⟩ | ⟨p,hp,q⟩
 ·exact .inl i
 ·exact .inr (I.base.there b o' i hx)
 ·exact .inr ⟨p.2,by rw[← q];exact(I.pin p hp).1⟩
theorem b2W{k k':Nat}{ps:List Str}{sp:Sp}{x:Str}{p pos:Pos}{e:Expr}{es:List Expr}{t:TA}{E:XK}{σ:St}(G:Own X.prog X.w X.K X.mg X.base k x ps sp)(hr:Room k' X.A)(hk:k≤k')(acc:XAccAt X σ E)(ha:PA X (e::es) t)(hg:Gl X x)
  (hdb:(x == ("__debug__" : Str))=false:=by decide) (he:starEach (e::es) X.env=(false,eval e X.env)::starEach es X.env:=by rfl) (hpl:(backTo pos (starEach es X.env)).any (·.1)=false:=by rfl)
  {pins:List (Addr×Obj)} {s:Shared} {H:Hp} {Q:VK} (I:Inv X pins σ H s) (h:T8 sp [] E t σ H Q):wpAny (model X.prog X.w) X.A (eval (.Call (.Name x p) (e::es) [] pos) X.env) (EP X pins σ Q) X.xe s:=by
 obtain⟨f,fd,F,b,kp,m⟩:=G.ex
 refine wpAny_Call_Name_kw (X0 I hg m ?_ hdb)
 refine W.callWith_K (h₀:=X.base) I.ok.mod.kin kp (m4 (ha pos pins s σ H _ I h) fun us s1 ⟨vs,H1,I1,r,q⟩=>⟨I1.kIn,?_⟩) he hpl
 have q:sp (vs++[]) H1 Q E:=q
 rw[List.append_nil]at q
 have hl:us.length=ps.length:=by rw[← r.length];exact F.len _ _ _ _ q
 have hb:=b s1 us I1.kIn (by rw[List.append_nil];exact hl)
 rw[List.append_nil]at hb
 refine wpAny_call (codeAny_mono (F.run X.A X.stack s1 H1 ⟨us,[]⟩ us vs Q E (hr.mono hk) I1.env0 hb r q) fun r s' hq=>?_)
 cases r with
 | error e=>exact acc.passes pins H1 s1 e s' I1 hq
 | ok fl =>
  cases fl with
  | ret u=>exact I1.after hq
  | next=>exact False.elim hq
  | brk=>exact False.elim hq
  | cont=>exact False.elim hq
def b18(sp:Sp)(t:TA)(th:TH):TS:=fun D σ H=>∃Eh:XK,T8 sp [] Eh t σ H (fun _ H2=>D.nx σ H2)∧∀cls cx H',Eh cls cx H'→∀a,H' a=none→th cls cx a D σ H'
theorem b2X{k k':Nat}{ps:List Str}{sp:Sp}{x:Str}{p cpos epos:Pos}{e:Expr}{es:List Expr}{t:TA}{h₀:ExceptHandler}{hs:List ExceptHandler}{pos:Pos}{th:TH}
  (G:Own X.prog X.w X.K X.mg X.base k x ps sp) (hr:Room k' X.A) (hk:k≤k') (ha:∀(E2:Value→Shared→Prop) (pins:List (Addr×Obj)),PA (X.tryCx E2 pins) (e::es) t) (hh:PH X (h₀::hs) th) (hg:Gl X x:=by rfl)
  (hdb:(x == ("__debug__" : Str))=false:=by decide) (he:starEach (e::es) X.env=(false,eval e X.env)::starEach es X.env:=by rfl) (hpl:(backTo cpos (starEach es X.env)).any (·.1)=false:=by rfl)
  (hsw:swapsWith (.Call (.Name x p) (e::es) [] cpos) none epos.line X.env=pure false:=by rfl)
  (hst:X.stack=X.env::X.outer:=by rfl) (hf:X.env.frame=some X.env.locals:=by rfl) (hex:X.ex=[]:=by rfl) :
  PS X (.Try [.Expr (.Call (.Name x p) (e::es) [] cpos) epos] (h₀::hs) [] [] pos) (b18 sp t th):=by
 intro pins s σ H D I h
 obtain⟨Eh,h1,h2⟩:=h
 refine wpAny_Try_except ?_
 have ok:=I.ok
 have acc:XAccAt (X.tryCx (fun e s₁=>wpAny (model X.prog X.w) X.A (noteFrame e X.env) (fun _ s₂=>wpAny (model X.prog X.w) X.A (setFlight e none) (fun _ s₃ =>
   wpAny (model X.prog X.w) X.A (handleBy e X.env (h₀::hs)) (SP X pins D) X.xe s₃) X.xe s₂) X.xe s₁) pins) σ Eh:=by
  intro pins' H' s1 a cls cx B ph I1 x1 hE
  have I2:Inv X pins σ H' s1:=I1.ofTry ok
  have x2:XAt X pins H' s1 a cls cx B ph:=⟨x1.free,x1.stays,x1.fresh,x1.frames,fun b o e i n=>x1.cov b o e (i.elim .inl fun z=>.inr (z.elim .inl fun⟨p,hp,q⟩=>.inr ⟨p,List.mem_append_left _ hp,q⟩)) n,x1.tr⟩
  refine a7s ok.frames hst rfl hf I2 x2 fun h3 I3 x3=>?_
  refine a4z I3 x3 (fun z=>nomatch z) fun h4 I4 x4=>?_
  exact hh pins _ _ _ a cls cx B D I4 x4 (h2 cls cx H' hE a x4.free)
 have It:=I.toTry (pins:=pins) (E2:=fun e s₁=>wpAny (model X.prog X.w) X.A (noteFrame e X.env) (fun _ s₂=>wpAny (model X.prog X.w) X.A (setFlight e none) (fun _ s₃ =>
   wpAny (model X.prog X.w) X.A (handleBy e X.env (h₀::hs)) (SP X pins D) X.xe s₃) X.xe s₂) X.xe s₁)
 refine wpAny_mono (wpAny_execs_cons (Q:=fun f s1=>f=.next∧∃H',Inv X pins σ H' s1∧D.nx σ H') (wpAny_Expr_any (m4 (b2W (X:=X.tryCx _ pins) G hr hk acc (ha _ pins) hg hdb he hpl It h1) fun v s1 ⟨x,H1,I1,r1,q1⟩=>?_) It.quiet hsw)) (fun f s1 q=>?_) fun e s1 q=>q
 ·exact wpAny_execs_nil ⟨rfl,H1,I1.ofTry ok,q1⟩
 ·obtain⟨rfl,H',I',q⟩:=q
  exact wpAny_execs_nil ⟨σ,H',I',q⟩
end
section
variable {prog:Program}{w:World}{A:Around}{E:Value→Shared→Prop}{s:Shared}{fin:Bool}{Q:Bool→Shared→Prop}
theorem b2Y{v:Value}(hv:(v == v)=true){E:Value→Shared→Prop}(h:Q true s):wpAny (model prog w) A (eqBool v v) Q E s:=by
 unfold eqBool
 refine wpAny_holding ?_
 rw[if_pos hv]
 exact wpAny_bind (wpAny_rule (wpAny_pure h))
theorem a2V:∀{vs:List Value} (i:Nat),(∀v∈vs,(v == v)=true)→Q fin s→KatLex prog w A true fin Q (vs.zip vs) i s
 | [],i,_,h=>by rw[List.zip_nil_left];exact kat_nil h
 | v::vs,i,hv,h=>by
  rw[List.zip_cons_cons]
  exact kat_cons (b2Y (hv v (by simp)) (kat_yes (a2V (i+1) (fun u hu=>hv u (by simp[hu])) h)))
theorem a3Q{rs rs':List Value}:∀{vs ws:List Value} {ns ms:List Int} (i:Nat),IntsAre vs ns→IntsAre ws ms→ns.length=ms.length→ns≠ms→Q (HT.lexLt ns ms) s→KatLex prog w A true fin Q ((vs++rs).zip (ws++rs')) i s
 | _,_,_,_,i,.nil,.nil,_,hn,_=>absurd rfl hn
 | _,_,_,_,i,.nil,.cons c u t,hf,_,_=>by simp at hf
 | _,_,_,_,i,.cons a t r,.nil,hf,_,_=>by simp at hf
 | _,_,_,_,i,.cons (ns:=ns) a t r,.cons (ns:=ms) c u r',hf,hn,h=>by
  rw[List.cons_append,List.cons_append,List.zip_cons_cons]
  rw[HT.lexLt_cons]at h
  refine kat_cons (wpAny_eqBool_int (kat_go (fun e=>?_) fun e=>?_))
  ·have e':a=c:=by simpa using e
   rw[if_pos e']at h
   exact kat_yes (a3Q (i+1) r r' (by simpa using hf) (fun z=>hn (by rw[e',z])) h)
  ·rw[if_neg (by simpa using e)]at h
   refine kat_no ?_
   by_cases hi:i=0
   ·subst hi
    show wpAny _ _ (oneLt' true _ _) _ _ _
    exact oneLt_int h
   ·have e0:(true && i == 0)=false:=by simpa using hi
    rw[e0]
    exact kat_one _ _ (PyProof.Rows.lt_int h)
def TupPre(h:Heap)(v:Value)(k:List Int):Prop:=∃a o xs m vs rs,v=.ref a∧h.get? a=some o∧o.cls=.type "tuple"∧o.data=.seq xs m∧xs.toList=vs++rs∧IntsAre vs k∧k≠[]∧∀u∈xs.toList,(u == u)=true
theorem TupPre.keeps{h h':Heap}{v:Value}{k:List Int}(t:TupPre h v k)(kp:∀a o,h.get? a=some o→h'.get? a=some o):TupPre h' v k:=by
 obtain⟨a,o,xs,m,vs,rs,e,ho,r⟩:=t
 exact⟨a,o,xs,m,vs,rs,e,kp _ _ ho,r⟩
theorem TupPre.lt{v u:Value}{k l:List Int}{C:Bool→Shared→Prop}(t:TupPre s.heap v k)(t':TupPre s.heap u l)(hl:k.length=l.length)(hn:k≠l)(h:C (HT.lexLt k l) s):wpAny (model prog w) A (keyLt' (tuples' true) v u) C E s:=by
 obtain⟨a,o,xs,m,vs,rs,rfl,ho,_,hd,hx,hi,_⟩:=t
 obtain⟨a',o',xs',m',vs',rs',rfl,ho',_,hd',hx',hi',_⟩:=t'
 refine kat_lt ho hd ho' hd' ?_
 rw[hx,hx']
 exact a3Q 0 hi hi' hl hn h
theorem TupPre.lt_self{v:Value}{k:List Int}{C:Bool→Shared→Prop}(t:TupPre s.heap v k)(h:C false s):wpAny (model prog w) A (keyLt' (tuples' true) v v) C E s:=by
 obtain⟨a,o,xs,m,vs,rs,rfl,ho,_,hd,hx,hi,_,hv⟩:=t
 refine kat_lt ho hd ho hd (a2V 0 hv ?_)
 rw[decide_eq_false (Nat.lt_irrefl _)]
 exact h
def TPs(h:Heap):List Value→List (List Int)→Prop
 | [],[]=>True
 | v::vs,k::ks=>TupPre h v k∧TPs h vs ks
 | _,_=>False
theorem TPs.keeps{h h':Heap}(kp:∀a o,h.get? a=some o→h'.get? a=some o):∀{vs:List Value} {ks:List (List Int)},TPs h vs ks→TPs h' vs ks
 | [],[],_=>trivial
 | [],_::_,t=>t.elim
 | _::_,[],t=>t.elim
 | v::vs,k::ks,t=>⟨t.1.keeps kp,TPs.keeps kp t.2⟩
theorem TPs.at{h:Heap}:∀{vs:List Value} {ks:List (List Int)} (i:Nat),TPs h vs ks→i<vs.length→TupPre h (vs.getD i Value.none) (ks.getD i [])
 | [],_,i,_,hi=>absurd hi (Nat.not_lt_zero _)
 | _::_,[],_,t,_=>t.elim
 | v::vs,k::ks,0,t,_=>t.1
 | v::vs,k::ks,i+1,t,hi=>TPs.at (vs:=vs) (ks:=ks) i t.2 (by simpa using hi)
theorem a7y:∀{h:Heap} {vs:List Value} {ks:List (List Int)},TPs h vs ks→∃fs,KatTups h vs fs∧fs.length=vs.length∧∀v∈fs,∃i t,v=Value.int i t
 | _,[],[],_=>⟨[],.nil,rfl,fun v h=>by cases h⟩
 | _,[],_::_,t=>t.elim
 | _,_::_,[],t=>t.elim
 | h,v::vs,k::ks,⟨t,r⟩=>by
  obtain⟨fs,h1,h2,h3⟩:=a7y r
  obtain⟨a,o,xs,m,us,rs,rfl,ho,hc,hd,hx,hi,hn,_⟩:=t
  obtain⟨xl⟩:=xs
  cases hi with
  | nil=>exact absurd rfl hn
  | cons n tk hr =>
   simp only at hx
   subst hx
   exact⟨.int n tk::fs,.cons ho hc hd (by simp) h1,by simp[h2],fun v hv=>by
    rcases List.mem_cons.mp hv with rfl | hv
    ·exact⟨n,tk,rfl⟩
    ·exact h3 v hv⟩
end
def VPs(K:W.Frag)(H:Hp):List V→List (List Int)→Prop
 | [],[]=>True
 | v::vs,k::ks=>(∃a rs,v=.ref a∧SqT K H a (k.map V.int++rs)∧k≠[]∧∀r∈rs,∃b,r=.ref b)∧VPs K H vs ks
 | _,_=>False
theorem a3R:∀{k:List Int} {rs:List V} {us:List Value},Vals (k.map V.int++rs) us→∃vs ws,us=vs++ws∧IntsAre vs k∧Vals rs ws
 | [],rs,us,r=>⟨[],us,rfl,.nil,r⟩
 | n::k,rs,_,.cons r t=>by
  obtain⟨vs,ws,e,h1,h2⟩:=a3R (k:=k) t
  obtain⟨tk,e2⟩:=r
  exact⟨.int n tk::vs,ws,by rw[e,e2];rfl,.cons n tk h1,h2⟩
theorem a2W:∀{vs:List Value} {ns:List Int},IntsAre vs ns→∀u∈vs,∃m t,u=Value.int m t
 | _,_,.nil,u,hu=>by cases hu
 | _,_,.cons m t r,u,hu=>by
  rcases List.mem_cons.mp hu with rfl | hu
  ·exact⟨m,t,rfl⟩
  ·exact a2W r u hu
theorem b0Z(n:Int)(t:Tok):(Value.int n t == Value.int n t)=true:=by simp
theorem b00(a:Addr):(Value.ref a == Value.ref a)=true:=by simp
section
variable {X:Cx}
theorem a7A{pins:List (Addr×Obj)}{σ:St}{H:Hp}{s:Shared}(I:Inv X pins σ H s):∀{ys:List V} {us:List Value} {ks:List (List Int)},Vals ys us→VPs X.K H ys ks→TPs s.heap us ks
 | [],_,[],.nil,_=>trivial
 | [],_,_::_,_,h=>h.elim
 | _::_,_,[],_,h=>h.elim
 | v::ys,_,k::ks,.cons r rs,⟨⟨a,zs,e,hq,hn,hz⟩,h⟩=>by
  refine⟨?_,a7A I rs h⟩
  subst e
  obtain⟨its,rv,⟨o,ho,hc,n,hd⟩,_⟩:=I.tuple hq
  obtain⟨vs,ws,e,hi,hw⟩:=a3R rv
  refine⟨a,o,_,n,vs,ws,r,ho,hc,hd,by simpa using e,hi,hn,?_⟩
  intro u hu
  have hu:u∈its:=by simpa using hu
  rw[e]at hu
  rcases List.mem_append.mp hu with hu | hu
  ·obtain⟨m,t,rfl⟩:=a2W hi u hu
   exact b0Z m t
  ·obtain⟨j,hj,e2⟩:=List.mem_iff_getElem.mp hu
   have hl:=hw.length
   have hj2:j<zs.length:=by omega
   obtain⟨w',q1,q2⟩:=hw.get (List.getElem?_eq_getElem hj2)
   obtain⟨b,eb⟩:=hz zs[j] (List.getElem_mem hj2)
   rw[eb]at q2
   rw[List.getElem?_eq_getElem hj,e2]at q1
   cases q1
   cases q2
   exact b00 b
end
theorem a5H{pos:Pos}{a b:Int}{c cv:Value}(l:List Value)(h:TriplesOk l)(e:codeAmong pos (l++[rawInt a,rawInt b,c])=some cv):codeAmong pos l=some cv∨cv=c:=by
 fun_induction TriplesOk l with
 | case1 =>
  simp only[List.nil_append,codeAmong,rawInt]at e
  split at e
  ·exact .inr (Option.some.inj e).symm
  ·cases e
 | case2 a t b u x l7 ih =>
  simp only[List.cons_append,codeAmong]at e ⊢
  split at e
  ·exact .inl (by rename_i z;rw[if_pos z];exact e)
  ·rename_i z;rw[if_neg z];exact ih h e
 | case3=>exact h.elim
def a2E(oc:Obj)(q:Str):Prop:=∃vs t,oc.data=.fields vs∧vs[1]? = some (.str q t)
section
variable {X:Cx}{pins:List (Addr×Obj)}{σ:St}{H:Hp}{s:Shared}{params:Arguments}{body:Expr}{scope:Scope}{lpos:Pos}{c P:Addr}{q:Str}{tq:Tok}{qs:Array Value}{Q:Value→Shared→Prop}{E:Value→Shared→Prop}
abbrev a02(X:Cx)(params:Arguments)(body:Expr)(scope:Scope)(q:Str)(c':Addr)(pm ctv:Value):Obj:=kla_obj "<lambda>" q params body scope (G0 X.env.cells scope.names []) pm c' ctv
theorem Inv.grown{h':Heap}{tk:Nat}{c':Addr}{oc:Obj}{ps:Array Value}{a b:Int}(I:Inv X pins σ H s)(hT:H P=some (.tbl qs))(hqs:qs[0]? = some (Value.str q tq))(eP:s.heap.get? P=some (tabObj ps))(tr:TriplesOk ps.toList)
  (al:∀pos cv,codeAmong pos ps.toList=some cv→∃c oc u,cv=Value.ref c∧H c=some (.frz oc u)∧∃vs q' t t2,oc.data=.fields vs∧vs[1]? = some (Value.str q' t2)∧qs[0]? = some (Value.str q' t))
  (hx:Heap.ExtBut P s.heap h') (hge:s.heap.objs.size≤c') (hoc:h'.get? c'=some oc) (hq:a2E oc q) (htb:h'.get? P=some (tabObj (ps ++ #[rawInt a,rawInt b,.ref c']))) :
  Inv X pins σ (upd H c' (.frz oc (.own c'))) { s with heap:=h',toks:=tk }:=by
 have hn:H c'=none:=I.hok.fresh hge
 have neP:∀b',H b'=none→b'≠P:=fun b' n z=>by rw[z,hT]at n;cases n
 refine I.un (t':=tk) ⟨fun b o e n _ _=>hx b o (neP b n) e,fun b o e n _ _=>⟨o.slots,hx b o (neP b n) e⟩,fun b o e n _=>by rw[g5 (Nat.ne_of_lt (Nat.lt_of_lt_of_le (Heap.lt_size e) hge))];exact n,fun b o e _=>?_,fun b xs e=>by rw[g5 (j9 e hn)];exact e,fun b o u e=>by rw[g5 (j9 e hn)];exact e,fun b qs e=>⟨#[],by rw[g5 (j9 e hn),e];simp⟩⟩ fun b u e=>?_
 ·by_cases z:b=P
  ·rw[z];exact⟨_,htb⟩
  ·exact⟨o,hx b o z e⟩
 ·by_cases z:b=c'
  ·subst z
   rw[i8]at e;cases e
   exact⟨hoc,oc,hoc⟩
  ·rw[g5 z]at e
   by_cases y:b=P
   ·subst y
    rw[hT]at e;cases e
    refine⟨_,htb,by rw[Array.toList_append];exact TriplesOk_snoc _ _ _ _ tr,fun pos cv e=>?_⟩
    rw[Array.toList_append]at e
    rcases a5H _ tr e with e | rfl
    ·obtain⟨c,o,u,e1,e2,r⟩:=al pos cv e
     exact⟨c,o,u,e1,by rw[g5 (j9 e2 hn)];exact e2,r⟩
    ·obtain⟨vs,t,d1,d2⟩:=hq
     exact⟨c',oc,.own c',rfl,i8,vs,q,tq,t,d1,d2,hqs⟩
   ·refine(I.hok b u e).stay (fun d v hd r=>hx d v ?_ r) (fun d r=>by rw[g5 (j9 r hn)];exact r) (fun d xs r=>by rw[g5 (j9 r hn)];exact r) fun d o u r=>by rw[g5 (j9 r hn)];exact r
    rcases hd with rfl | hd
    ·exact y
    ·intro z;rw[z,hT]at hd;cases hd
theorem b01(I:Inv X pins σ H s)(hd:defaultsOf params X.env=([],[]))(hcode:X.env.code=.ref c)(C:CodeHd X.base c P)(hbl:X.base.BuiltinsAt X.mg P)(hT:H P=some (.tbl qs))(hqs:qs[0]? = some (Value.str q tq))(hq:q=X.env.qual ++ "<lambda>")
  (hfree:∀y∈scope.names,y.2=.free→X.env.scope.names.lookup y.1=some .cell∨X.env.scope.names.lookup y.1=some .free)
  (h:∀f c' oc u pm ctv H' s',Inv X pins σ H' s'→(∀a o,H a=some o→H' a=some o)→H' f=some (.frz (a02 X params body scope q c' pm ctv) (.own f))→H' c'=some (.frz oc u)→a2E oc q→Q (.ref f) s') :
  wpAny (model X.prog X.w) X.A (eval (.Lambda params body scope lpos) X.env) Q E s:=by
 refine kla_eval hd ?_
 subst hq
 obtain⟨ps,eP,tr,al⟩:=I.hok P _ hT
 have hcl:=a01 (scope:=scope) (env:=X.env) fun y hy hk=>I.ok.has y.1 (hfree y hy hk)
 have hg:s.heap.Ns mainGlobals X.mg:=I.mod.glob.keeps I.bk
 obtain⟨bm,ob,b1,b2,b3,b4,b5,b6,b7,b8⟩:=hbl
 have hb:s.heap.BuiltinsAt X.mg P:=⟨bm,ob,b1,b2,b3,b4,I.bk _ _ b5,b6,b7,b8⟩
 have lay:∀(H1:Hp) (h1:Heap) (tk:Nat) (c':Addr) (oc:Obj) (u:HO) (pm ctv:Value),Inv X pins σ H1 { s with heap:=h1,toks:=tk }→(∀a o,H a=some o→H1 a=some o)→H1 c'=some (.frz oc u)→a2E oc (X.env.qual ++ "<lambda>")→Q (.ref h1.objs.size) { s with heap:=h1.push (a02 X params body scope (X.env.qual ++ "<lambda>") c' pm ctv),toks:=tk }:=by
  intro H1 h1 tk c' oc u pm ctv I1 ex e3 e4
  have hf:H1 h1.objs.size=none:=I1.hok.fresh (Nat.le_refl _)
  have hgt:(h1.push (a02 X params body scope (X.env.qual ++ "<lambda>") c' pm ctv)).get? h1.objs.size=some (a02 X params body scope (X.env.qual ++ "<lambda>") c' pm ctv):=Heap.get?_push_size _ rfl
  have I2:=I1.laid (a:=h1.objs.size) (o:=.frz (a02 X params body scope (X.env.qual ++ "<lambda>") c' pm ctv) (.own h1.objs.size)) (t':=tk) (fun b o e=>Heap.get?_push_of_some (a02 X params body scope (X.env.qual ++ "<lambda>") c' pm ctv) e) (Nat.le_refl _) ⟨hgt,_,hgt⟩
  refine h _ c' oc u pm ctv _ _ I2 (fun a o e=>?_) i8 ?_ e4
  ·rw[g5 (j9 (ex a o e) hf)];exact ex a o e
  ·rw[g5 (j9 e3 hf)];exact e3
 cases e:codeAmong lpos ps.toList with
 | some cv =>
  obtain⟨c',oc,u,rfl,hc',vs,q',t,t2,d1,d2,d3⟩:=al lpos cv e
  have hq:q'=X.env.qual ++ "<lambda>" := by
   rw[hqs]at d3
   injection d3 with d3
   injection d3 with d3
   exact d3.symm
  subst hq
  refine kla_makeFunctionHit (mg:=X.mg) hcl I.ok.glob hg hcode (C.keeps I.bk) eP tr e hb fun ctv h' tk hk hsz=>?_
  exact lay H h' tk c' oc u _ ctv (I.kept hk) (fun _ _ e=>e) hc' ⟨vs,t2,d1,d2⟩
 | none =>
  have hgP:mainGlobals≠P:=fun z=>by
   obtain⟨o,es,ep,e1,hd,_⟩:=hg
   rw[z,eP]at e1;cases e1;cases hd
  refine kla_makeFunction (mg:=X.mg) hcl I.ok.glob hg hcode (C.keeps I.bk) eP tr e hgP hb fun c' ctv h' tk hx hge hlt hrec htb=>?_
  obtain⟨c2,oc,vs,t,e2,hoc,hd,hv⟩:=hrec
  cases e2
  exact lay _ h' tk c' oc (.own c') _ ctv (I.grown (tk:=tk) hT hqs eP tr al hx hge hoc ⟨vs,t,hd,hv⟩ htb) (fun a o e=>by rw[g5 (j9 e (I.hok.fresh hge))];exact e) i8 ⟨vs,t,hd,hv⟩
end
abbrev a6g(X:Cx)(scope:Scope)(q:Str)(L f c':Addr):Env:=envX q scope L f (.ref c') (G0 X.env.cells scope.names [])
noncomputable abbrev a8t(X:Cx)(A':Around)(scope:Scope)(q:Str)(Nc:List Str)(f c':Addr)(s:Shared)(H:Hp):Cx :=
 { X with A:=A'.deeper (a6g X scope q s.heap.objs.size f c'),N:=Nc,s₀:=s,H₀:=H,env:=a6g X scope q s.heap.objs.size f c',outer:=X.stack,stack:=a6g X scope q s.heap.objs.size f c'::X.stack,ex:=[],fn:=fun _=>false,calm:=true,pn:=[],xe:=fun _ _=>False }
def a5O(js:List Nat)(σ:St)(x:V):St:=some x::js.map fun j=>(σ[j]?).getD none
section
variable {X:Cx}{pins:List (Addr×Obj)}{σ:St}{H:Hp}{s:Shared}{A':Around}{params:Arguments}{body:Expr}{scope:Scope}{q kn:Str}{f c':Addr}{Nc:List Str}{js:List Nat}{h₁:Heap}{tk:Nat}{v:Value}{x:V}
theorem b2Z(I:Inv X pins σ H s)(hA:A'.frames=some X.stack)(hh:A'.handled=none)(S:CompSc X.env.scope scope X.N Nc 1 js)(hk0:Nc[0]? = some kn)(hloc:scope.names.lookup kn=some .local)
  (hns:h₁.Ns s.heap.objs.size (fun y=>([(kn,v)]:List (Str×Value)).reverse.lookup y)) (old:∀b o,s.heap.get? b=some o→h₁.get? b=some o) (rv:RelV x v) :
  Inv (a8t X A' scope q Nc f c' s H) [] (a5O js σ x) H { s with heap:=h₁,toks:=tk }:=by
 have ok:=I.ok
 refine⟨⟨ok.mod,S.kind,rfl,rfl,Nat.le_refl _,fun x y c h1 h2=>ok.inj x y c (G6 h1) (G6 h2),fun y hy=>?_,(fun x c z=>nomatch z),fun _=>hh,Around.frames_deeper hA,.inr ⟨rfl,rfl⟩,fun b hb=>absurd (show b∈([]:List Addr)from hb) (by simp),I.bs,Nat.le_trans ok.bsz I.sz,fun b o e hb=>absurd (show b∈([]:List Addr)from hb) (by simp),fun b hb=>absurd (show b∈([]:List Addr)from hb) (by simp),I.stack,I.stkFree⟩,
  rfl,I.bare,Un.kept old,⟨_,hns,fun i y w e1 e2 e3=>?_⟩,fun y c e=>?_,I.hok.fresh (Nat.le_refl _),fun y c e=>I.freeC y c (G6 e),fun p hp=>absurd (show p∈([]:List (Addr×Obj))from hp) (by simp),I.hok.kept old,?_⟩
 ·have hy:scope.names.lookup y=some .cell∨scope.names.lookup y=some .free:=hy
  rcases hy with hy | hy
  ·exact absurd rfl (S.cell _ (L8 hy))
  ·exact Q2 (L8 hy) (ok.has y (S.free _ (L8 hy) rfl))
 ·cases i with
  | zero =>
   have e1:Nc[0]? = some y:=e1
   rw[hk0]at e1;cases e1
   have e2:some (some x)=some (some w):=e2
   cases e2
   refine⟨v,rv,.inl ⟨hloc,?_⟩⟩
   show([(kn,v)]:List (Str×Value)).reverse.lookup kn=some v
   simp
  | succ i =>
   have e2:(js.map fun j=>(σ[j]?).getD none)[i]? = some (some w):=e2
   rw[List.getElem?_map]at e2
   cases hj:js[i]? with
   | none=>rw[hj]at e2;cases e2
   | some j =>
    rw[hj]at e2
    have e2':(σ[j]?).getD none=some w:=Option.some.inj e2
    have hσ:σ[j]? = some (some w):=by
     cases z:σ[j]? with
     | none=>rw[z]at e2';cases e2'
     | some y=>rw[z]at e2';simp at e2';rw[e2']
    have e1:Nc[i+1]? = some y:=e1
    have hx:(Nc.drop 1)[i]? = some y:=by rw[List.getElem?_drop,show 1+i=i+1 by omega];exact e1
    have hNj:X.N[j]? = some y:=by
     have:=congrArg (fun l=>l[i]?) S.cap
     simp only[List.getElem?_map,hx,hj,Option.map_some]at this
     exact(Option.some.inj this).symm
    have hfr:scope.names.lookup y=some .free:=S.caps y (List.mem_of_getElem? hx)
    have hk:=S.free _ (L8 hfr) rfl
    obtain⟨m,hn,hl⟩:=I.loc
    obtain⟨u,r,l⟩:=hl j y w hNj hσ (.inr hk)
    refine⟨u,r,.inr ⟨.inr hfr,?_⟩⟩
    rcases l with⟨l1,_⟩ | ⟨_,c,hc,hcell⟩
    ·have l1:X.env.scope.names.lookup y=some .local:=l1
     rcases hk with hk | hk
     ·rw[l1]at hk;cases hk
     ·rw[l1]at hk;cases hk
    ·obtain⟨d,hd⟩:=Q2 (cells:=X.env.cells) (acc:=[]) (L8 hfr) ⟨c,hc⟩
     have:=G6 hd
     rw[hc]at this;cases this
     obtain⟨o,ho,hdd⟩:=hcell
     exact⟨c,hd,⟨o,old _ _ ho,hdd⟩⟩
 ·obtain⟨w,o,ho,hd⟩:=I.cell y c (G6 e)
  exact⟨w,o,old _ _ ho,hd⟩
 ·unfold a5O
  rw[List.length_cons,List.length_map]
  have:=S.len
  show _=Nc.length
  omega
theorem b02{oc:Obj}{u u':HO}{pm ctv:Value}{te:TE}{Qk:VK}(I:Inv X pins σ H s)(hA:A'.frames=some X.stack)(hh:A'.handled=none)(hdp:A'.depth<recursionLimit)(S:CompSc X.env.scope scope X.N Nc 1 js)(hk0:Nc[0]? = some kn)(hloc:scope.names.lookup kn=some .local)
  (hf:H f=some (.frz (a02 X params body scope q c' pm ctv) u')) (hc:H c'=some (.frz oc u)) (hq:a2E oc q) (hbind:bindArgs (kla_fn "<lambda>" q params body scope (G0 X.env.cells scope.names []) pm (.ref c') ctv) ⟨[v],[]⟩=pure [(kn,v)])
  (hco:scope.isCoroutine=false) (hgen:scope.isGenerator=false) (hbody:PE (a8t X A' scope q Nc f c' s H) body te) (rv:RelV x v) (ht:te (a5O js σ x) H Qk) :
  wpAny (model X.prog X.w) A' (call (.ref f) [v]) (fun w s'=>∃y H2,Inv X pins σ H2 s'∧RelV y w∧Qk y H2∧Un (K9 X.stack) [] H H2 s.heap s'.heap) (fun _ _=>False) s:=by
 have ef:s.heap.get? f=some (a02 X params body scope q c' pm ctv):=(I.hok f _ hf).1
 have ec:s.heap.get? c'=some oc:=(I.hok c' _ hc).1
 obtain⟨vs,t,d1,d2⟩:=hq
 refine wpAny_call (kla_callFunE hdp ef rfl hco hgen rfl ⟨c',oc,vs,t,rfl,ec,d1,d2⟩ ?_)
 rw[hbind]
 refine wpAny_pure (wpAny_newFunctionEnv S.cell (by
  intro y hy
  rw[List.mem_singleton.mp hy]
  exact hloc) (fun h₁ hns hsb=>⟨I.nolimit.fresh _ hsb,?_⟩) S.kind)
 have old:∀b o,s.heap.get? b=some o→h₁.get? b=some o:=fun b o e=>hsb.extBut b o (Nat.ne_of_lt (Heap.lt_size e)) (Heap.get?_push_of_some _ e)
 have J:=b2Z (q:=q) (f:=f) (c':=c') (tk:=s.toks+([(kn,v)]:List (Str×Value)).length) I hA hh S hk0 hloc hns old rv
 refine kla_codeExpr (wpAny_mono (hbody [] _ _ H _ J ht) (fun w s' hw=>?_) fun _ _ z=>z.elim)
 obtain⟨y,H2,I2,ry,q2⟩:=hw
 exact⟨y,H2,I.call' (ch:=[]) (I2.os.trans rfl) I2.base I2.hok I2.bare (fun b hb=>absurd hb (by simp)),ry,q2,I2.base⟩
end
section
variable {X:Cx}{pins:List (Addr×Obj)}{σ:St}{H:Hp}{s:Shared}{A':Around}{E:Value→Shared→Prop}
theorem FpOk.nstk{H':Hp}{b:Addr}(I:Inv X pins σ H s)(f:FpOk X pins H' b):b ∉ K9 X.stack:=fun z=>by
 rcases List.mem_cons.mp (I.stkSub b z)with q | q
 ·exact f.2.1 q
 ·exact f.2.2.1 q
theorem FpOk.to{H':Hp}{b:Addr}(f:FpOk X pins H b)(n:H' b=none):FpOk X pins H' b:=⟨n,f.2⟩
theorem b20{xs:List V}{vs:List Value}(r:Vals xs vs){j:Nat}{u:Value}(h:vs[j]? = some u):∃x,xs[j]? = some x∧RelV x u:=by
 have hj:=(List.getElem?_eq_some_iff.mp h).1
 have hl:=r.length
 obtain⟨u',e,q⟩:=r.get (List.getElem?_eq_getElem (l:=xs) (i:=j) (by omega))
 rw[h]at e;cases e
 exact⟨_,List.getElem?_eq_getElem (by omega),q⟩
theorem a3S{D kS:Addr}{vs:List Value}{xs:List V}{e1 e2:Nat}{kA:Array Value}{st:SortSt}{p:List Nat}{P:PySem.Fin→Shared→Prop}(I:Inv X pins σ H s)(fD:FpOk X pins H D)(fk:FpOk X pins H kS)(ne:kS≠D)(hD:s.heap.get? D=some (seqObj "list" #[] e1))(hk:s.heap.get? kS=some (seqObj "list" kA e2))(rv:Vals xs vs)(h64:vs.length<64)(hkA:kA.size≤vs.length)
  (hout:(arrOf st).map (·.2)=(p.map fun i=>vs.getD i Value.none).toArray) (hf:failedOf st=none) (hp:p.Perm (List.range xs.length))
  (h:∀s',Inv X pins σ (upd H D (.lst (p.map fun i=>xs.getD i .non))) s'→P (.done (.ret .none)) s'):wpAny (model X.prog X.w) A' (ksk_tail D false e1 (.ref kS) st) P E s:=by
 have hlen:=rv.length
 have hsz3:((p.map fun i=>vs.getD i Value.none).toArray).size=vs.length:=by rw[List.size_toArray,List.length_map,hp.length_eq,List.length_range,hlen]
 have s1:=Heap.SameBut.update s.heap kS (Obj.mapSeq fun _=>(#[]:Array Value))
 have na1:(s.heap.update kS (Obj.mapSeq fun _=>(#[]:Array Value))).get? D=some (seqObj "list" #[] e1):=(s1.2 D (Ne.symm ne)).trans hD
 have s2:=Heap.SameBut.update (s.heap.update kS (Obj.mapSeq fun _=>(#[]:Array Value))) D (Obj.mapSeq fun _=>(p.map fun i=>vs.getD i Value.none).toArray)
 obtain⟨c2,hc2⟩:∃c2,((s.heap.update kS (Obj.mapSeq fun _=>(#[]:Array Value))).update D (Obj.mapSeq fun _=>(p.map fun i=>vs.getD i Value.none).toArray)).get? D=some (seqObj "list" (p.map fun i=>vs.getD i Value.none).toArray c2):=⟨_,get?_update_seq na1 fun _=>_⟩
 unfold ksk_tail
 rw[hout,hf]
 dsimp only
 refine wpAny_bind (listUpdate_at hk rfl ?_ (by rw[sizeLine_eq];omega) (Nat.zero_le _))
 refine wpAny_bind (wpAny_letGo ?_)
 refine wpAny_bind (seqEpoch_at na1 rfl ?_)
 refine wpAny_bind (listUpdate_at na1 rfl ?_ (Nat.zero_le _) (Nat.le_trans (Nat.le_of_eq hsz3) (by rw[sizeLine_eq];omega)))
 simp only[bne_self_eq_false,Bool.false_eq_true,if_false]
 refine wpAny_pure (h _ ?_)
 have I2:=I.turnedN (t':=s.toks) (ch:=[kS,D]) (h':=((s.heap.update kS (Obj.mapSeq fun _=>(#[]:Array Value))).update D (Obj.mapSeq fun _=>(p.map fun i=>vs.getD i Value.none).toArray))) (fun b u hb e=>by
  simp only[List.mem_cons,List.not_mem_nil,or_false,not_or]at hb
  exact(s2.2 b hb.2).trans ((s1.2 b hb.1).trans e)) (fun b hb=>by
  simp only[List.mem_cons,List.not_mem_nil,or_false]at hb
  rcases hb with rfl | rfl
  ·exact fk
  ·exact fD)
 refine I2.trackO ?_ hc2 rfl ?_
 ·rintro(z | ⟨z,o,e⟩ | ⟨q,hq,e⟩)
  ·exact z fD.1
  ·rcases fD.2.2.2.1 with y | y
   ·exact z y
   ·exact absurd (Heap.lt_size e) (Nat.not_lt.mpr y)
  ·exact fD.2.2.2.2.2 q hq e
 ·refine⟨?_,p.map fun i=>vs.getD i Value.none,c2,a5h p rv fun i hi=>List.mem_range.mp (hp.mem_iff.mp hi),hc2⟩
  rw[List.length_map,hp.length_eq,List.length_range,hlen,sizeLine_eq]
  omega
end
section
variable {X:Cx}{pins:List (Addr×Obj)}{σ:St}{H:Hp}{s:Shared}{A':Around}{E:Value→Shared→Prop}
theorem a9A{D kS:Addr}{vs keys:List Value}{xs ys:List V}{ks:List (List Int)}{e1 e2:Nat}{P:PySem.Fin→Shared→Prop}(I:Inv X pins σ H s)(fD:FpOk X pins H D)(fk:FpOk X pins H kS)(ne:kS≠D)(hD:s.heap.get? D=some (seqObj "list" #[] e1))(hk:s.heap.get? kS=some (seqObj "list" keys.toArray e2))(rv:Vals xs vs)(rk:Vals ys keys)(hl:keys.length=vs.length)(h64:vs.length<64)
  (vp:VPs X.K H ys ks) (hd:∀i j,i<ys.length→j<ys.length→i≠j→(ks.getD i []).length=(ks.getD j []).length∧ks.getD i []≠ks.getD j [])
  (h:∀(p:List Nat) s',p.Perm (List.range xs.length)→p.Pairwise (fun i j=>HT.lexLt (ks.getD j []) (ks.getD i [])=false)→Inv X pins σ (upd H D (.lst (p.map fun i=>xs.getD i .non))) s'→P (.done (.ret .none)) s') :
  wpAny (model X.prog X.w) A' (ksk_end D false vs.toArray e1 (.ref kS) keys.toArray) P E s:=by
 have hxl:=rv.length
 have hyl:=rk.length
 have tp:TPs s.heap keys ks:=a7A I rk vp
 unfold ksk_end
 simp only[Bool.false_eq_true,if_false]
 by_cases h2':vs.toArray.size<2
 ·rw[if_pos h2',if_pos h2']
  refine wpAny_bind (wpAny_pure ?_)
  rw[StateT.run_pure]
  refine wpAny_bind (wpAny_pure ?_)
  have hlen:vs.length<2:=by simpa using h2'
  refine a3S (st:=SortSt.mk' general' (keys.toArray.zip vs.toArray) #[] 7 none) (p:=List.range xs.length) I fD fk ne hD hk rv h64 (by simp;omega) ?_ rfl (List.Perm.refl _) fun s' J=>h _ s' (List.Perm.refl _) ?_ J
  ·show(keys.toArray.zip vs.toArray).map (·.2)=_
   rw[hxl]
   match vs,keys,hl,hlen with
   | [],[],_,_=>simp
   | [_],[_],_,_=>simp
  ·match hn:xs.length,(show xs.length<2 by omega)with
   | 0,_=>exact .nil
   | 1,_=>exact List.pairwise_singleton _ _
 ·rw[if_neg h2',if_neg h2']
  have hlen:2≤vs.length:=by simp at h2';omega
  obtain⟨fs,t1,t2,t3⟩:=a7y tp
  refine wpAny_bind (kat_kind (T:=.type "int") t1 (by omega) (fun v hv=>by obtain⟨i,t,rfl⟩:=t3 v hv;exact .of_pure rfl) (by decide) ?_)
  have eb:(Value.type "int" != Value.type "tuple")=true:=by decide +kernel
  rw[eb]
  have T:=b0Y fun i=>ks.getD i []
  have gd:=b2V (n:=vs.length) T (by omega)
  refine wpAny_bind (wpAny_mono (kat_run (κ:=tuples' true) (vs:=vs) (ks:=keys) (Q:=fun st' s'=>∃p:Array Nat,p.size=vs.length∧arrOf st'=p.map (kas_item (keys.toArray.zip vs.toArray))∧failedOf st'=none∧s'=s∧Pmn vs.length p∧Up (fun i j=>HT.lexLt (ks.getD i []) (ks.getD j [])) p vs.length)
   (G:=fun p s'=>s'=s∧Pmn vs.length p∧Up (fun i j=>HT.lexLt (ks.getD i []) (ks.getD j [])) p vs.length)
   hl hlen h64 (fun p' st' s' a1 a2 a3 a4=>⟨p',a1,a2,a3,a4⟩) (gd.wp (fun i j C hi hj hC=>?_) fun p hp=>⟨rfl,hp⟩)) ?_ fun _ _ x=>x)
  ·by_cases z:i=j
   ·subst z
    refine TupPre.lt_self (tp.at i (by omega)) ?_
    rw[a4D]at hC
    exact hC
   ·obtain⟨e,n⟩:=hd i j (by omega) (by omega) z
    exact TupPre.lt (tp.at i (by omega)) (tp.at j (by omega)) e n hC
  ·rintro⟨⟨⟩,st'⟩ s' ⟨p,hp,har,hf,rfl,hP,hU⟩
   have hPx:p.toList.Perm (List.range xs.length):=by rw[hxl];exact hP
   refine a3S (p:=p.toList) I fD fk ne hD hk rv h64 (by simp;omega) (kat_snds hl har) hf hPx fun s' J=>h _ s' hPx ?_ J
   rw[List.pairwise_iff_getElem]
   intro i j hi hj hij
   have hU':=hU i j (by omega) (by rw[← hp];simpa using hj)
   simp only[Array.length_toList]at hi hj
   have e1:ga p i=p[i]:=by unfold ga;simp[Array.getD,hi]
   have e2:ga p j=p[j]:=by unfold ga;simp[Array.getD,hj]
   rw[e1,e2]at hU'
   simpa using hU'
theorem a9B{D f:Addr}{vs:List Value}{xs:List V}{n0:Nat}{W:Nat→List V→Hp→Prop}{P:PySem.Fin→Shared→Prop}(I:Inv X pins σ H s)(hD:s.heap.get? D=some (seqObj "list" vs.toArray n0))(fD:FpOk X pins H D)(rv:Vals xs vs)(h64:vs.length<64)(w0:W 0 [] H)
  (turn:∀i x v ys H' s',xs[i]? = some x→RelV x v→W i ys H'→Inv X pins σ H' s'→(∀b o u,H b=some (.frz o u)→H' b=some (.frz o u))→wpAny (model X.prog X.w) A' (call (.ref f) [v]) (fun w s''=>∃y H2,Inv X pins σ H2 s''∧RelV y w∧W (i+1) (ys++[y]) H2∧Un (K9 X.stack) [] H' H2 s'.heap s''.heap) (fun _ _=>False) s')
  (fin:∀ys H',ys.length=xs.length→W xs.length ys H'→H' D=none→∃ks,VPs X.K H' ys ks∧(∀i j,i<ys.length→j<ys.length→i≠j→(ks.getD i []).length=(ks.getD j []).length∧ks.getD i []≠ks.getD j []) ∧
   ∀(p:List Nat) s',p.Perm (List.range xs.length)→p.Pairwise (fun i j=>HT.lexLt (ks.getD j []) (ks.getD i [])=false)→Inv X pins σ (upd H' D (.lst (p.map fun i=>xs.getD i .non))) s'→P (.done (.ret .none)) s') :
  wpAny (model X.prog X.w) A' (ksk_tree D (.ref f) false) P E s:=by
 have ha:D<s.heap.objs.size:=Heap.lt_size hD
 have s1:=Heap.SameBut.update s.heap D (Obj.mapSeq fun _=>(#[]:Array Value))
 obtain⟨e1,ho1⟩:∃e1,(s.heap.update D (Obj.mapSeq fun _=>(#[]:Array Value))).get? D=some (seqObj "list" #[] e1):=⟨_,get?_update_seq hD fun _ => #[]⟩
 have hkS:((s.heap.update D (Obj.mapSeq fun _=>(#[]:Array Value))).push (seqObj "tuple" vs.toArray 0)).objs.size=s.heap.objs.size+1:=by rw[size_push',Heap.size_update]
 have hxl:=rv.length
 unfold ksk_tree
 refine wpAny_bind (listItems_at hD rfl ?_)
 refine wpAny_bind (listUpdate_at hD rfl ?_ (by rw[List.size_toArray,sizeLine_eq];omega) (Nat.zero_le _))
 refine wpAny_bind (seqEpoch_at ho1 rfl ?_)
 refine wpAny_bind (wpAny_newTuple ?_ (by show vs.length≤_;rw[sizeLine_eq];omega))
 refine wpAny_bind (wpAny_newList ?_ (Nat.zero_le _))
 refine wpAny_holding ?_
 show wpAny (model X.prog X.w) A' (ksk_rest D (.ref f) false vs.toArray e1 (.ref ((s.heap.update D (Obj.mapSeq fun _=>(#[]:Array Value))).push (seqObj "tuple" vs.toArray 0)).objs.size)) P E { s with heap:=((s.heap.update D (Obj.mapSeq fun _=>(#[]:Array Value))).push (seqObj "tuple" vs.toArray 0)).push (seqObj "list" #[] 0) }
 have hkO:(((s.heap.update D (Obj.mapSeq fun _=>(#[]:Array Value))).push (seqObj "tuple" vs.toArray 0)).push (seqObj "list" #[] 0)).get? ((s.heap.update D (Obj.mapSeq fun _=>(#[]:Array Value))).push (seqObj "tuple" vs.toArray 0)).objs.size=some (seqObj "list" #[] 0):=Heap.get?_push_size _ rfl
 have hDO:(((s.heap.update D (Obj.mapSeq fun _=>(#[]:Array Value))).push (seqObj "tuple" vs.toArray 0)).push (seqObj "list" #[] 0)).get? D=some (seqObj "list" #[] e1):=Heap.get?_push_of_some _ (Heap.get?_push_of_some _ ho1)
 have I2:=I.turnedN (t':=s.toks) (ch:=[D]) (h':=((s.heap.update D (Obj.mapSeq fun _=>(#[]:Array Value))).push (seqObj "tuple" vs.toArray 0)).push (seqObj "list" #[] 0)) (fun b u hb e=>Heap.get?_push_of_some _ (Heap.get?_push_of_some _ ((s1.2 b (fun z=>hb (by simp[z]))).trans e))) (fun b hb=>by
  simp only[List.mem_singleton]at hb;rw[hb];exact fD)
 rw[hkS]at hkO ⊢
 have fk:FpOk X pins H (s.heap.objs.size+1):=I.fpOk (Nat.le_succ _) (I.hok.fresh (Nat.le_succ _))
 have ne:s.heap.objs.size+1≠D:=Nat.ne_of_gt (Nat.lt_succ_of_lt ha)
 generalize ((s.heap.update D (Obj.mapSeq fun _=>(#[]:Array Value))).push (seqObj "tuple" vs.toArray 0)).push (seqObj "list" #[] 0)=h2 at *
 generalize s.heap.objs.size+1=kS at *
 have nD:=fD.nstk I
 have nk:=fk.nstk I
 unfold ksk_rest
 refine wpAny_bind (wpAny_rule ?_)
 first
  | rw[List.forIn_toArray]
  | (rw[← Array.forIn_toList];simp only[List.toList_toArray])
  | rw[← Array.forIn_toList]
 refine wpAny_bind (ksk_fold (fun i s'=>∃H' ys kA e,Inv X pins σ H' s'∧W i ys H'∧Vals ys kA∧ys.length=i∧s'.heap.get? kS=some (seqObj "list" kA.toArray e)∧s'.heap.get? D=some (seqObj "list" #[] e1)∧H' kS=none∧H' D=none∧∀b o u,H b=some (.frz o u)→H' b=some (.frz o u)) vs 0 { s with heap:=h2 }
  ⟨H,[],[],0,I2,w0,.nil,rfl,hkO,hDO,fk.1,fD.1,fun _ _ _ e=>e⟩ ?step ?done)
 case step =>
  rintro j v s' hv ⟨H',ys,kA,e,I',wj,rk,ly,ok,od,nk',nd',fz⟩
  simp only[Nat.zero_add]at wj ly ⊢
  obtain⟨x,hx,rx⟩:=b20 rv hv
  have hj:j<vs.length:=(List.getElem?_eq_some_iff.mp hv).1
  have hz:=rk.length
  refine wpAny_bind (wpAny_attempt (wpAny_mono (turn j x v ys H' s' hx rx wj I' fz) (fun u s'' hu=>?_) fun _ _ z=>z.elim))
  obtain⟨y,H3,I3,ry,w3,un⟩:=hu
  have ok3:=un.keep kS _ ok nk' nk (by simp)
  have od3:=un.keep D _ od nd' nD (by simp)
  have s3:=Heap.SameBut.update s''.heap kS (Obj.mapSeq (·.push u))
  obtain⟨c2,hc2⟩:∃c2,(s''.heap.update kS (Obj.mapSeq (·.push u))).get? kS=some (seqObj "list" (kA.toArray.push u) c2):=⟨_,get?_update_seq ok3 (·.push u)⟩
  have nk3:=un.free kS _ ok nk' (by simp)
  have nd3:=un.free D _ od nd' (by simp)
  refine wpAny_bind (listUpdate_at ok3 rfl ?_ (by rw[List.size_toArray,sizeLine_eq];omega) (Nat.le_trans (Nat.le_of_eq (Array.size_push ..)) (by rw[List.size_toArray,sizeLine_eq];omega)))
  refine wpAny_pure ⟨rfl,H3,ys++[y],kA++[u],c2,I3.turnedN (ch:=[kS]) (fun b o hb e=>(s3.2 b (fun z=>hb (by simp[z]))).trans e) (fun b hb=>by
   simp only[List.mem_singleton]at hb;rw[hb];exact fk.to nk3),w3,?_,by rw[List.length_append,ly];rfl,?_,(s3.2 D (Ne.symm ne)).trans od3,nk3,nd3,fun b o u e=>un.frzs _ _ _ (fz b o u e)⟩
  ·exact rk.append (.cons ry .nil)
  ·rw[show(kA++[u]).toArray=kA.toArray.push u by simp];exact hc2
 case done =>
  rintro s' ⟨H',ys,kA,e,I',wj,rk,ly,ok,od,nk',nd',fz⟩
  rw[Nat.zero_add]at wj ly
  rw[← hxl]at wj ly
  obtain⟨ks,vp,hd,q⟩:=fin ys H' ly wj nd'
  refine wpAny_bind (listItems_at ok rfl ?_)
  have:=rk.length
  exact a9A I' (fD.to nd') (fk.to nk') ne od ok rv rk (by omega) h64 vp hd q
end
def TbAt(P:Addr)(q:Str)(H:Hp):Prop:=∃(qs:Array Value) (t:Tok),H P=some (.tbl qs)∧qs[0]? = some (Value.str q t)
theorem TbAt.now{P:Addr}{q:Str}{fs ex:List Addr}{H H':Hp}{h h':Heap}(t:TbAt P q H)(u:Un fs ex H H' h h'):TbAt P q H':=by
 obtain⟨qs,t,e,e2⟩:=t
 obtain⟨more,e3⟩:=u.tbls _ _ e
 refine⟨_,t,e3,?_⟩
 have h0:0<qs.size:=by
  by_cases z:0<qs.size
  ·exact z
  ·rw[Array.getElem?_eq_none (by omega)]at e2;cases e2
 rw[Array.getElem?_append_left h0];exact e2
section
variable {X:Cx}
theorem a65:bootBuiltins "sorted" = some (.builtin "sorted"):=by decide +kernel
end
def N8(TB:List (Addr×Str))(H:Hp):Hp:=fun b=>match TB.lookup b with
 | some q=>some (.tbl #[.str q 0])
 | none=>H b
def TbAll(TB:List (Addr×Str))(H:Hp):Prop:=∀P q,TB.lookup P=some q→TbAt P q H
theorem TbAll.now{TB:List (Addr×Str)}{fs ex:List Addr}{H H':Hp}{h h':Heap}(t:TbAll TB H)(u:Un fs ex H H' h h'):TbAll TB H':=fun P q e=>(t P q e).now u
theorem b21(TB:List (Addr×Str))(H:Hp):TbAll TB (N8 TB H):=fun P q e=>⟨#[.str q 0],0,by unfold N8;rw[e],rfl⟩
theorem a9C{P:Program}{w:World}{K:W.Frag}{mg mb:Str→Option Value}{CX:CXT}{k:Nat}{fa a:Addr}{fd:FuncData}{x:Str}{sp:Sp}{s₁:Shared}{vs:List Value}{ns:List Int}{TB:List (Addr×Str)}
  (KX:K.In s₁.heap) (hns:s₁.heap.Ns mainGlobals mg) (hb:s₁.heap.Ns builtinsNs mb) (hbb:∀x:Str,x≠"__name__"→mb x=bootBuiltins x) (hlim:s₁.heap.NoLimit) (hg:s₁.gens = #[])
  (ha:s₁.heap.get? a=some { cls:=.type "list",data:=.seq vs.toArray }) (hi:IntsAre vs ns) (hl:ns.length≤sizeLine) (hr:Room k callerA)
  (hT:∀Pa q,TB.lookup Pa=some q→(∃c,s₁.heap.TableAt c Pa #[])∧K.lookup Pa=none)
  (F:∀base:Heap,K.In base→base.Ns mainGlobals mg→(∀b o,s₁.heap.get? b=some o→TB.lookup b=none→b≠a→base.get? b=some o)→FnOk P w K mg base CX k fa fd [x] sp) (hbind:∀(s:Shared) (u:Value),BindsTo s fd ⟨[u],[]⟩ [(x,u)])
  (hsp:∀H:Hp,TbAll TB H→Scr K H a (ns.map V.int)→sp [.ref a] H (fun v _=>v=.bl true) fun _ _ _=>False)
  (hCX:∀H e s',CX [] H s₁ (fun _ _ _=>False) e s'→False) :
  codeAny (model P w) callerA (.call (.ref fa) ⟨[.ref a],[]⟩) (fun r s'=>r=.ok (.ret (.bool true))∧OldK s₁.heap s'.heap∧s'.os=s₁.os∧AllBare s'.gens) s₁:=by
 have rv:=a5g hi
 have lenV:=hi.length
 have tabA:∀{Pa q},TB.lookup Pa=some q→s₁.heap.get? Pa=some (tabObj #[]):=fun{Pa q} e=>by
  obtain⟨⟨c,_,e2⟩,_⟩:=hT Pa q e
  exact e2
 have neA:TB.lookup a=none:=by
  cases e:TB.lookup a with
  | none=>rfl
  | some q=>have:=tabA e;rw[ha]at this;cases this
 have core:∀H0:Hp,Scr K (N8 TB H0) a (ns.map V.int)→HOk P w (N8 TB H0) s₁.heap→(∀b,H0 b=none∨∃o xs,H0 b=some (.frz o (.lst xs)))→(∀b,H0 b≠none→b=a)→(H0 a≠none→K.lookup a=none) →
   codeAny (model P w) callerA (.call (.ref fa) ⟨[.ref a],[]⟩) (fun r s'=>r=.ok (.ret (.bool true))∧OldK s₁.heap s'.heap∧s'.os=s₁.os∧AllBare s'.gens) s₁:=by
  intro H0 hS hok hO hA hK
  have cs:∀b,(∃q,TB.lookup b=some q∧N8 TB H0 b=some (.tbl #[.str q 0]))∨(TB.lookup b=none∧N8 TB H0 b=H0 b):=fun b=>by
   unfold N8
   cases e:TB.lookup b with
   | none=>exact .inr ⟨rfl,rfl⟩
   | some q=>exact .inl ⟨q,rfl,rfl⟩
  have base_of:∀{b:Addr} {o:Obj},s₁.heap.get? b=some o→N8 TB H0 b=none→(a0Z s₁.heap (N8 TB H0)).get? b=some o:=fun e n=>b0y e n
  have noA:∀{b:Addr} {o:Obj} {es:Array DictEntry} {ep:Nat},s₁.heap.get? b=some o→o.data=.dict es ep→N8 TB H0 b=none:=fun{b o es ep} e d=>by
   rcases cs b with⟨q,e1,_⟩ | ⟨e1,e2⟩
   ·have:=tabA e1;rw[e]at this;cases this;cases d
   ·rw[e2]
    cases q:H0 b with
    | none=>rfl
    | some u =>
     have e':b=a:=hA b (by rw[q];simp)
     subst e'
     rw[ha]at e;cases e
     cases d
  have nsK:∀{b:Addr} {m:Str→Option Value},s₁.heap.Ns b m→(a0Z s₁.heap (N8 TB H0)).Ns b m:=fun{b m} ⟨o,es,ep,e,d,r⟩=>⟨o,es,ep,base_of e (noA e d),d,r⟩
  have hKb:K.In (a0Z s₁.heap (N8 TB H0)):=fun b o e=>base_of (KX b o e) (by
   rcases cs b with⟨q,e1,_⟩ | ⟨e1,e2⟩
   ·rw[(hT b q e1).2]at e;cases e
   ·rw[e2]
    cases q:H0 b with
    | none=>rfl
    | some u =>
     have e':b=a:=hA b (by rw[q];simp)
     subst e'
     rw[hK (by rw[q];simp)]at e;cases e)
  have hM:Mod K mg (a0Z s₁.heap (N8 TB H0)):=⟨hKb,nsK hns,⟨mb,nsK hb,hbb⟩,let ⟨mc,h1,h2⟩:=hlim; ⟨mc,nsK h1,h2⟩⟩
  have e0:Env0 P w K mg (a0Z s₁.heap (N8 TB H0)) callerA [] s₁ (N8 TB H0):=⟨rfl,hM,fun b o e=>b2F e,Nat.le_of_eq (a8_ _ _),trivial,fun b hb=>absurd (show b∈([]:List Addr)from hb) (by simp),hok,.of_eq hg⟩
  have bk:∀b o,s₁.heap.get? b=some o→TB.lookup b=none→b≠a→(a0Z s₁.heap (N8 TB H0)).get? b=some o:=fun b o e n na=>base_of e (by
   rcases cs b with⟨q,e1,_⟩ | ⟨e1,e2⟩
   ·rw[n]at e1;cases e1
   ·rw[e2]
    cases q:H0 b with
    | none=>rfl
    | some u=>exact absurd (hA b (by rw[q];simp)) na)
  refine codeAny_mono ((F _ hKb (nsK hns) bk).run callerA [] s₁ (N8 TB H0) ⟨[.ref a],[]⟩ [.ref a] [.ref a] _ _ hr e0 (hbind s₁ (.ref a)) (.cons rfl .nil) (hsp _ (b21 TB H0) hS)) fun r s' h=>?_
  cases r with
  | error e=>exact(hCX _ e s' h).elim
  | ok fl =>
   cases fl with
   | next=>exact False.elim h
   | brk=>exact False.elim h
   | cont=>exact False.elim h
   | ret u =>
    obtain⟨v,H',os,bare,un,hok',r',q⟩:=h
    have q':v=.bl true:=q
    subst q'
    obtain rfl:u=Value.bool true:=r'
    refine⟨rfl,?_,os,bare⟩
    have kpt:∀b o,s₁.heap.get? b=some o→TB.lookup b=none→s'.heap.get? b=some o:=fun b o e n=>by
     rcases cs b with⟨q,e1,_⟩ | ⟨_,e2⟩
     ·rw[n]at e1;cases e1
     ·cases q:H0 b with
      | none=>exact un.keep b o e (by rw[e2,q]) (by intro z;exact absurd (show b∈([]:List Addr)from z) (by simp)) (by simp)
      | some u =>
       rcases hO b with z | ⟨ob,xs,z⟩
       ·rw[q]at z;cases z
       ·rw[← e2]at z
        have z2:=un.frzs b ob _ z
        obtain⟨e1,_⟩:=hok b _ z
        obtain⟨e2,_⟩:=hok' b _ z2
        rw[e]at e1;cases e1
        exact e2
    have tbt:∀b q,TB.lookup b=some q→∃ps,s'.heap.get? b=some (tabObj ps):=fun b q e=>by
     rcases cs b with⟨q',e1,e2⟩ | ⟨e1,_⟩
     ·obtain⟨more,e3⟩:=un.tbls b _ e2
      obtain⟨ps,e4,_⟩:=hok' b _ e3
      exact⟨ps,e4⟩
     ·rw[e]at e1;cases e1
    refine⟨fun b o e=>?_,fun b o e=>?_⟩
    ·cases n:TB.lookup b with
     | none=>exact .inl (kpt b o e n)
     | some q =>
      obtain⟨ps,e4⟩:=tbt b q n
      have e5:=tabA n
      rw[e]at e5;cases e5
      obtain⟨⟨c,ht⟩,_⟩:=hT b q n
      exact .inr (.inl ⟨ht.isCodeTable,rfl,#[],ps,rfl,by rw[e4];simp⟩)
    ·cases n:TB.lookup b with
     | none=>exact⟨o,kpt b o e n⟩
     | some q=>obtain⟨ps,e4⟩:=tbt b q n;exact⟨_,e4⟩
 have tabOk:∀H0 b u,TB.lookup b≠none→N8 TB H0 b=some u→ObjOk P w (N8 TB H0) s₁.heap b u:=fun H0 b u n e=>by
  cases q:TB.lookup b with
  | none=>exact absurd q n
  | some q' =>
   have e':N8 TB H0 b=some (.tbl #[.str q' 0]):=by unfold N8;rw[q]
   rw[e']at e;cases e
   exact⟨#[],tabA q,trivial,fun pos cv z=>by cases z⟩
 cases hk:K.lookup a with
 | some o =>
  have e:=KX a o hk
  rw[ha]at e
  cases e
  refine core (fun _=>none) (.inr ⟨_,vs.toArray,_,hk,rfl,rfl,rfl,by rw[List.size_toArray,lenV];exact hl,by simpa using rv⟩) (fun b u z=>?_) (fun _=>.inl rfl) (fun b z=>absurd rfl z) fun z=>absurd rfl z
  cases n:TB.lookup b with
  | none =>
   have z':N8 TB (fun _=>none) b=none:=by unfold N8;rw[n]
   rw[z']at z;cases z
  | some q=>exact tabOk _ b u (by rw[n];simp) z
 | none =>
  refine core (fun b=>if b=a then some (.frz { cls:=.type "list",data:=.seq vs.toArray } (.lst (ns.map V.int)))else none) (.inl ⟨{ cls:=.type "list",data:=.seq vs.toArray },by unfold N8;rw[neA];exact if_pos rfl⟩) (fun b u z=>?_) (fun b=>?_) (fun b z=>?_) fun _=>hk
  ·cases n:TB.lookup b with
   | some q=>exact tabOk _ b u (by rw[n];simp) z
   | none =>
    have z':N8 TB (fun b=>if b=a then some (.frz { cls:=.type "list",data:=.seq vs.toArray } (.lst (ns.map V.int)))else none) b=(if b=a then some (.frz { cls:=.type "list",data:=.seq vs.toArray } (.lst (ns.map V.int)))else none):=by unfold N8;rw[n]
    rw[z']at z
    by_cases hb:b=a
    ·rw[if_pos hb]at z
     cases z
     subst hb
     exact⟨ha,by rw[List.length_map];exact hl,vs,_,rv,ha⟩
    ·rw[if_neg hb]at z;cases z
  ·by_cases hb:b=a
   ·exact .inr ⟨_,_,if_pos hb⟩
   ·exact .inl (if_neg hb)
  ·by_cases hb:b=a
   ·exact hb
   ·exact absurd (if_neg hb) z
def spT(TB:List (Addr×Str))(sp:Sp):Sp:=fun vs H Q E=>TbAll TB H∧sp vs H Q E
theorem walk_ofT{l:OpenLaw}{n k:Nat}{q:Program}{loose:List Str}{XP:(Str→Option Value)→Heap→Prop}{YP:World→Heap→Prop}{d:DefRec}{K:Params→Frag}{CX:World→CXT}{sp:World→Sp}{x:Str}
  (hn:l.most=some n) (hn2:n≤sizeLine) (hdf:d.params.defaults=[]) (hr:Room k callerA)
  (hY:∀(w:World) (h:Heap),YP w h→(K w.params).In h)
  (F:∀(w:World) (mg mb:Str→Option Value) (fa:Addr) (h:Heap) (mean:ExcName→Option Value),(K w.params).In h→h.Ns mainGlobals mg→mg d.name=some (.ref fa)→Top q (looseW q loose) mean mg mb h →
   ∃(fd:FuncData) (TB:List (Addr×Str)),(∀(s:Shared) (u:Value),BindsTo s fd ⟨[u],[]⟩ [(x,u)])∧(∀Pa qq,TB.lookup Pa=some qq→(∃c,h.TableAt c Pa #[])∧(K w.params).lookup Pa=none) ∧
    ∀base:Heap,(K w.params).In base→base.Ns mainGlobals mg→(∀b o,h.get? b=some o→o.cls≠.none→o.cls≠.type "list"→base.get? b=some o)→FnOk l.prog w (K w.params) mg base (CX w) k fa fd [x] (spT TB (sp w)))
  (hsp:∀(w:World) (H:Hp) (a:Addr) (ns:List Int),ns.length≤n→(∀m∈ns,Builtin.Int.intBits m≤2 ^ 20)→Scr (K w.params) H a (ns.map V.int)→sp w [.ref a] H (fun v _=>v=.bl true) fun _ _ _=>False)
  (hCX:∀(w:World) (H:Hp) (s:Shared) (e:Value) (s':Shared),CX w [] H s (fun _ _ _=>False) e s'→False) :
  WalkO q loose XP YP l.row.toRowW d [] (fun f vs=>PySem.call f vs):=by
 intro w s₀ s₁ mg mb G Y fa o pm cd doc dV kV ho hd hcd hD hmg hg args vals as hpre hlay hrd hwl hlo
 obtain rfl:dV=.none:=Dflts.none hD hdf
 obtain rfl:kV=.none:=Dflts.noKw hD
 obtain⟨a,vs,ns,rfl,rfl,hobj,hints,hlen⟩:=Att.script_of hn hpre hwl
 have KX:=hY w _ Y
 obtain⟨fd,TB,hb,hT,hF⟩:=F w mg mb fa _ _ KX G.T.g hmg G.T
 refine enter_call (codeAny_mono (a9C (TB:=TB) KX G.T.g G.T.b G.T.builtins G.T.nolimit hg hobj hints (Nat.le_trans hlen hn2) hr hT (fun base k1 k2 k3=>hF base k1 k2 fun b o e c1 c2=>k3 b o e (by
  cases z:TB.lookup b with
  | none=>rfl
  | some q' =>
   obtain⟨⟨c,_,e2⟩,_⟩:=hT b q' z
   rw[e]at e2;cases e2;exact absurd rfl c1) (fun z=>by rw[z,hobj]at e;cases e;exact absurd rfl c2)) hb (fun H hO hS=>⟨hO,hsp w H a ns hlen (a63 hlay) hS⟩) fun H e s'=>hCX w H s₁ e s') fun r s' hq=>?_)
 obtain⟨rfl,h2,h3,h4⟩:=hq
 exact⟨.inl ⟨.bool true,.bool true,[],rfl,fun _=>rfl,.bool true,Att.post_true l _,fun _=>⟨List.Pairwise.nil,fun _ hm=>(nomatch hm)⟩⟩,h2,h3,h4⟩
theorem b4X{q:Program}{loose:List Str}{mean:ExcName→Option Value}{mg mb:Str→Option Value}{h:Heap}{K:Frag}{x:Str}{f c:Addr}{oc oc':Value}{od od':Option Addr}{fd:FuncData}{osl osl':Array (Option Value)}{vs:Array Value}{P:Addr}(T:Top q loose mean mg mb h)(KX:K.In h)(hrec:(recsOf q).any (fun d=>d.name == x)=true)(hm:mg x=some (.ref f))(lk:K.lookup f=some ⟨oc,od,.func fd,osl⟩)(hc:fd.code=.ref c)(lc:K.lookup c=some ⟨oc',od',.fields vs,osl'⟩)(hP:vs.getD 11 .none=.ref P) :
  h.TableAt c P #[]∧∀base:Heap,(∀b o,h.get? b=some o→o.cls≠.none→o.cls≠.type "list"→base.get? b=some o)→CodeHd base c P∧base.BuiltinsAt mg P:=by
 obtain⟨d,hd,e⟩:=List.any_eq_true.mp hrec
 have e:d.name=x:=by simpa using e
 subst e
 obtain⟨a,o,fd',c',P',h1,h2,h3,h4,h5,h6⟩:=T.tab d hd
 rw[hm]at h1;cases h1
 rw[KX _ _ lk]at h2;cases h2
 have h3:Data.func fd=Data.func fd':=h3
 cases h3
 rw[hc]at h4;cases h4
 have C:=CodeHd.of h5 h6
 obtain⟨o,vs',file,tf,flags,tg,inF,text,tt,c1,c2,c3,c4,c5,cr⟩:=C
 have hPP:P'=P:=by
  rw[KX _ _ lc]at c1;cases c1
  have c3:Data.fields vs=Data.fields vs':=c3
  cases c3
  rw[hP]at c5;cases c5;rfl
 subst hPP
 refine⟨h6,fun base kp=>⟨⟨o,vs',file,tf,flags,tg,inF,text,tt,kp _ _ c1 (by rw[c2];decide) (by rw[c2];decide),c2,c3,c4,c5,cr⟩,?_⟩⟩
 obtain⟨bm,ob,b1,b2,b3,b4,b5,b6⟩:=T.bmain
 refine⟨bm,ob,b1,b2,fun z=>?_,fun z=>?_,kp _ _ b3 (by rw[b4];decide) (by rw[b4];decide),b4,b5,b6⟩
 ·obtain⟨o',es,ep,e,hd,_⟩:=T.g
  rw[z,e]at b3;cases b3;rw[hd]at b6;cases b6
 ·rw[z,h6.2]at b3;cases b3;cases b4
end L2
namespace HT
open PySem PyProof.Rows
end HT
namespace L2
open PySem PySem.Spec PyProof.Rows
open PySem.W
def Rise(a:Array Nat):Prop:=a.toList.Pairwise (· < ·)
theorem Rise.lt{a:Array Nat}(h:Rise a){i j:Nat}(hij:i<j)(hj:j<a.size):a.getD i 0<a.getD j 0:=by
 have hi:i<a.size:=Nat.lt_trans hij hj
 have:=List.pairwise_iff_getElem.mp h i j (by simpa using hi) (by simpa using hj) hij
 simpa [Array.getD,hi,hj]using this
structure TbR(led:Bool)(t:SetTable):Prop where
 rise:Rise t.place
 dum:t.dummies = #[]
 led:t.led=led
def b4Y(e:Int×Value):Int:=match e.2 with
 | .int k _=>k
 | _=>0
def IsI(e:Int×Value):Prop:=∃k t,e=(hashInt k,Value.int k t)
structure SetR(w:World)(h:Heap)(a:Addr)(L:List Int):Prop where
 ex:∃o es ep t,h.get? a=some o∧o.ExactSet∧o.data=.set es ep t∧(∀e∈es.toList,IsI e)∧(es.toList.map b4Y).Nodup∧(∀k,k∈es.toList.map b4Y↔k∈L)∧es.size<scanBound∧t.fits es.size=true∧TbR (!w.params.followText "set-order") t
theorem nodup_le:∀(es L:List Int),es.Nodup→(∀x∈es,x∈L)→es.length≤L.length
 | [],L,_,_=>Nat.zero_le _
 | x::es,L,h,m=>by
  rw[List.nodup_cons]at h
  have hx:=m x List.mem_cons_self
  have:=nodup_le es (L.erase x) h.2 fun y hy=>(List.mem_erase_of_ne (show y≠x from fun z=>h.1 (by rw[← z];exact hy))).mpr (m y (List.mem_cons_of_mem _ hy))
  rw[List.length_erase_of_mem hx]at this
  have:0<L.length:=List.length_pos_of_mem hx
  rw[List.length_cons]
  omega
section
variable {prog:Program}{w:World}{A:Around}{E:Value→Shared→Prop}{s:Shared}
theorem SetR.frame{h h':Heap}{a:Addr}{L:List Int}(S:SetR w h a L)(e:∀o,h.get? a=some o→h'.get? a=some o):SetR w h' a L:=by
 obtain⟨o,es,ep,t,ho,r⟩:=S.ex
 exact⟨o,es,ep,t,e o ho,r⟩
end
end L2
namespace HT
open PySem PyProof.Rows
inductive IB:List Value→List Value→List Int→List Int→Prop
 | nil:IB [] [] [] []
 | int (a:Int) (t:Tok) (c:Int) (u:Tok) {vs ws:List Value} {ns ms:List Int} (h:IB vs ws ns ms):IB (.int a t::vs) (.int c u::ws) (a::ns) (c::ms)
 | bl (p q:Bool) {vs ws:List Value} {ns ms:List Int} (h:IB vs ws ns ms):IB (.bool p::vs) (.bool q::ws) (b2i p::ns) (b2i q::ms)
theorem IB.len{vs ws:List Value}{ns ms:List Int}(h:IB vs ws ns ms):vs.length=ws.length:=by
 induction h with
 | nil=>rfl
 | int _ _ _ _ _ ih=>simp[ih]
 | bl _ _ _ ih=>simp[ih]
end HT
namespace L2
open PySem PySem.Spec PyProof.Rows
open PySem.W
section
variable {n:Nat}{lt:Nat→Nat→Bool}
def Prx(n:Nat)(p:Array Nat)(m:Nat):Prop:=(∀i,i<m→ga p i<m)∧∀i,m≤i→i<n→ga p i=i
theorem Prx.up{p:Array Nat}{m k:Nat}(h:Prx n p m)(hk:m≤k)(hn:k≤n):Prx n p k:=by
 refine⟨fun i hi=>?_,fun i h1 h2=>h.2 i (by omega) h2⟩
 by_cases z:i<m
 ·have:=h.1 i z;omega
 ·rw[h.2 i (by omega) (by omega)];exact hi
structure DR(n:Nat)(lt:Nat→Nat→Bool)(p:Array Nat)(k:Nat):Prop where
 pre:Prx n p k
 d1:∀i j,i<j→j<k→lt (ga p i) (ga p j)=false
 d2:∀i j,i<j→j<k→lt (ga p j) (ga p i)=false→ga p j<ga p i
structure DG(n:Nat)(lt:Nat→Nat→Bool)(p:Array Nat)(k q:Nat):Prop where
 pre:Prx n p (k-(q+1))
 d1:∀i j,i<j→j<k→lt (ga p i) (ga p j)=false
 d2:∀i j,i<j→j<k-(q+1)→lt (ga p j) (ga p i)=false→ga p j<ga p i
 d3:∀i,i<k-(q+1)→lt (ga p (k-1)) (ga p i)=true
 d4:∀i,k-(q+1)≤i→i<k→lt (ga p (k-1)) (ga p i)=false
theorem DR.snoc{p:Array Nat}{k:Nat}(T:TPre lt)(d:DR n lt p k)(h:∀i,i<k→lt (ga p k) (ga p i)=true)(hk:k<n):DG n lt p (k+1) 0:=by
 have e:k+1-(0+1)=k:=by omega
 refine⟨by rw[e];exact d.pre,fun i j hij hj=>?_,fun i j hij hj=>by rw[e]at hj;exact d.d2 i j hij hj,fun i hi=>by rw[e]at hi;rw[Nat.add_sub_cancel];exact h i hi,fun i h1 h2=>?_⟩
 ·by_cases z:j<k
  ·exact d.d1 i j hij z
  ·have e:j=k:=by omega
   subst e
   exact T.asy _ _ (h i hij)
 ·have e:i=k:=by omega
  subst e
  rw[Nat.add_sub_cancel];exact T.irr _
theorem DG.alike{p:Array Nat}{k q:Nat}(T:TPre lt)(d:DG n lt p k q)(hq:q+1≤k){i j:Nat}(h1:k-(q+1)≤i)(h2:i<k)(h3:k-(q+1)≤j)(h4:j<k):lt (ga p i) (ga p j)=false:=by
 have a:lt (ga p i) (ga p (k-1))=false:=by
  by_cases z:i=k-1
  ·rw[z];exact T.irr _
  ·exact d.d1 i (k-1) (by omega) (by omega)
 exact T.tr _ _ _ (d.d4 j h3 h4) a
theorem DG.rev{p:Array Nat}{k q:Nat}(T:TPre lt)(hp:Pmn n p)(d:DG n lt p k q)(hq:q+1≤k)(hk:k≤n):DR n lt (kas_rev p (k-(q+1)) k) k:=by
 have hps:=hp.size
 have gr:=a2d (p:=p) (i:=k-(q+1)) (j:=k) (by omega)
 have pi:∀i,k-(q+1)≤i→i<n→ga p i=i:=d.pre.2
 refine⟨⟨fun i hi=>?_,fun i h1 h2=>?_⟩,fun i j hij hj=>?_,fun i j hij hj=>?_⟩
 ·rw[gr]
  split
  ·rw[pi _ (by omega) (by omega)];omega
  ·have:=d.pre.1 i (by omega);omega
 ·rw[gr,if_neg (by omega)];exact pi i (by omega) h2
 ·rw[gr,gr]
  by_cases zj:k-(q+1)≤j
  ·rw[if_pos (show k-(q+1)≤j∧j<k by omega)]
   by_cases zi:k-(q+1)≤i
   ·rw[if_pos (by omega)]
    exact d.alike T hq (by omega) (by omega) (by omega) (by omega)
   ·rw[if_neg (by omega)]
    exact d.d1 _ _ (by omega) (by omega)
  ·rw[if_neg (show ¬(k-(q+1)≤j∧j<k) by omega),if_neg (by omega)]
   exact d.d1 _ _ hij hj
 ·rw[gr,gr]
  by_cases zj:k-(q+1)≤j
  ·rw[if_pos (show k-(q+1)≤j∧j<k by omega)]
   by_cases zi:k-(q+1)≤i
   ·rw[if_pos (by omega)]
    intro _
    rw[pi _ (by omega) (by omega),pi _ (by omega) (by omega)]
    omega
   ·rw[if_neg (by omega)]
    intro z
    have a:=d.alike T hq (i:=k-1) (j:=k-(q+1)+k-1-j) (by omega) (by omega) (by omega) (by omega)
    have b:=T.tr _ _ _ z a
    rw[d.d3 i (by omega)]at b
    cases b
  ·rw[if_neg (show ¬(k-(q+1)≤j∧j<k) by omega),if_neg (by omega)]
   exact d.d2 _ _ hij (by omega)
theorem DG.one{p:Array Nat}{k:Nat}(T:TPre lt)(d:DG n lt p k 0)(hk1:1≤k)(hk:k≤n):DR n lt p k:=by
 refine⟨d.pre.up (by omega) hk,d.d1,fun i j hij hj z=>?_⟩
 by_cases e:j=k-1
 ·subst e
  rw[d.d3 i (by omega)]at z
  cases z
 ·exact d.d2 i j hij (by omega) z
end
theorem SqL.ext{K:W.Frag}{H1 H2:Hp}{a:Addr}{xs:List V}(h:SqL K H1 a xs)(ex:∀a o,H1 a=some o→H2 a=some o):SqL K H2 a xs:=by
 rcases h with(h | ⟨o,h⟩) | h
 ·exact .inl (.inl (ex _ _ h))
 ·exact .inl (.inr ⟨o,ex _ _ h⟩)
 ·exact .inr h
structure CompS1(Sc scope:Scope)(N Nc:List Str)(k:Nat)(js:List Nat)(z0:Str):Prop where
 cf:∀n acc,cellsFrom n scope.names acc=(z0,n)::acc
 pc:∀h:Heap,pushCells h scope.names=h.push { cls:=.type "cell",data:=.cell none }
 cell:∀y∈scope.names,y.2=.cell→y.1=z0
 cel:scope.names.lookup z0=some .cell
 kind:scope.kind=.function
 names:∀y∈scope.names,y.2=.local→scope.names.lookup y.1=some .local
 free:∀y∈scope.names,y.2=.free→Sc.names.lookup y.1=some .cell∨Sc.names.lookup y.1=some .free
 nd:Nc.Nodup
 len:Nc.length=k+js.length
 cap:(Nc.drop k).map some=js.map fun j=>N[j]?
 caps:∀x∈Nc.drop k,scope.names.lookup x=some .free
theorem CompS1.nz{Sc scope:Scope}{N Nc:List Str}{k:Nat}{js:List Nat}{z0 x:Str}(S:CompS1 Sc scope N Nc k js z0)(h:scope.names.lookup x=some .free):x≠z0:=fun e=>by
 rw[e,S.cel]at h;cases h
def Srt(lt:Keyed→Keyed→Bool)(l:List Keyed):Prop:=l.Pairwise fun x y=>lt y x=false
section
variable {lt:Keyed→Keyed→Bool}{aL bL o ra rb u:List Keyed}{x y:Keyed}
theorem Srt.drop{l:List Keyed}(h:Srt lt l)(n:Nat):Srt lt (l.drop n):=List.Pairwise.sublist (List.drop_sublist n l) h
end
def SameG(st st':SortSt):Prop:=kindOf st'=kindOf st∧arrOf st'=arrOf st∧pendingOf st'=pendingOf st∧failedOf st'=failedOf st
theorem SameG.refl(st:SortSt):SameG st st:=⟨rfl,rfl,rfl,rfl⟩
theorem SameG.trans{a b c:SortSt}(h:SameG a b)(g:SameG b c):SameG a c:=⟨g.1.trans h.1,g.2.1.trans h.2.1,g.2.2.1.trans h.2.2.1,g.2.2.2.trans h.2.2.2⟩
section
variable {lt:Keyed→Keyed→Bool}{aL bL o ra rb u:List Keyed}{x y:Keyed}
theorem Srt.left{l m:List Keyed}(h:Srt lt (l++m)):Srt lt l:=(List.pairwise_append.mp h).1
end
section
variable {lt:Keyed→Keyed→Bool}{Dm:Keyed→Prop}{a b out:Array Keyed}{na nb:Nat}{x y:Keyed}
theorem Srt.take{l:List Keyed}(h:Srt lt l)(n:Nat):Srt lt (l.take n):=List.Pairwise.sublist (List.take_sublist n l) h
end
section
variable {prog:Program}{w:World}{A:Around}{E:Value→Shared→Prop}{s:Shared}{κ:SortKind}{lt:Keyed→Keyed→Bool}{Dm:Keyed→Prop}{st:SortSt}
theorem Srt.right{l m:List Keyed}(h:Srt lt (l++m)):Srt lt m:=(List.pairwise_append.mp h).2.1
end
def gk(p:Array Keyed)(k:Nat):Keyed:=p.getD k (Value.none,Value.none)
theorem a3T(p:Array Keyed)(k:Nat):gk p k=(p[k]?).getD (Value.none,Value.none):=by unfold gk;simp[Array.getD_eq_getD_getElem?]
abbrev a8u(p:Array Keyed)(i j:Nat):Array Keyed:=mirror p i j ((j-i)/2)
theorem b4Z{p:Array Keyed}{i j:Nat}(hj:j≤p.size)(k:Nat):gk (a8u p i j) k=if i≤k∧k<j then gk p (i+j-1-k)else gk p k:=by
 rw[a3T,a8u,getElem?_mirror_all hj]
 split<;>rw[a3T]
theorem b40{p:Array Keyed}{src d:Nat}(hs:src<p.size)(hd:d≤src)(k:Nat):gk (bubble p src d) k=if k=src-d then gk p src else if src-d<k∧k≤src then gk p (k-1)else gk p k:=by
 rw[a3T,getElem?_bubble hs d hd]
 split
 ·rw[a3T]
 ·split<;>rw[a3T]
structure Rst(a0:Array Keyed)(lo hi:Nat)(a:Array Keyed):Prop where
 pm:a.Perm a0
 out:∀x,(x<lo∨hi≤x)→gk a x=gk a0 x
theorem Rst.refl(a:Array Keyed)(lo hi:Nat):Rst a lo hi a:=⟨.refl _,fun _ _=>rfl⟩
theorem Rst.size{a0 a:Array Keyed}{lo hi:Nat}(h:Rst a0 lo hi a):a.size=a0.size:=h.pm.size_eq
theorem Rst.rev{a0 a:Array Keyed}{lo hi i j:Nat}(h:Rst a0 lo hi a)(hi':lo≤i)(hj:j≤hi)(hs:hi≤a0.size):Rst a0 lo hi (a8u a i j) :=
 ⟨(mirror_perm _ _ _ _).trans h.pm,fun x hx=>by rw[b4Z (by rw[h.size];omega),if_neg (by omega)];exact h.out x hx⟩
theorem Rst.bub{a0 a:Array Keyed}{lo hi src d:Nat}(h:Rst a0 lo hi a)(h1:lo≤src-d)(hd:d≤src)(h2:src<hi)(hs:hi≤a0.size):Rst a0 lo hi (bubble a src d) :=
 ⟨(bubble_perm _ _ _).trans h.pm,fun x hx=>by rw[b40 (by rw[h.size];omega) hd,if_neg (by omega),if_neg (by omega)];exact h.out x hx⟩
structure StR(st0:SortSt)(lo hi:Nat)(st:SortSt):Prop where
 k:kindOf st=kindOf st0
 p:pendingOf st=pendingOf st0
 f:failedOf st=failedOf st0
 r:Rst (arrOf st0) lo hi (arrOf st)
section
variable {prog:Program}{w:World}{A:Around}{E:Value→Shared→Prop}{s:Shared}{κ:SortKind}{lt:Keyed→Keyed→Bool}{Dm:Keyed→Prop}{st0 st:SortSt}{lo n m:Nat}
theorem StR.rev{hi i j:Nat}(R:StR st0 lo hi st)(h1:lo≤i)(h2:j≤hi)(hs:hi≤(arrOf st0).size):StR st0 lo hi (setArr st (a8u (arrOf st) i j)):=⟨R.k,R.p,R.f,R.r.rev h1 h2 hs⟩
end
def PRun(lt:Keyed→Keyed→Bool):List (Nat×Nat×Nat)→List (List Keyed)→Nat→Prop
 | [],[],_=>True
 | p::ps,S::ss,o=>p.1=o∧p.2.1=S.length∧1≤S.length∧Srt lt S∧PRun lt ps ss (o+S.length)
 | _,_,_=>False
section
variable {lt:Keyed→Keyed→Bool}
theorem PRun.len:∀{pl:List (Nat×Nat×Nat)} {segs:List (List Keyed)} {o:Nat},PRun lt pl segs o→pl.length=segs.length∧pl.length≤segs.flatten.length
 | [],[],_,_=>⟨rfl,Nat.le_refl _⟩
 | p::ps,S::ss,o,h=>by
  obtain⟨_,_,h1,_,h2⟩:=h
  have:=PRun.len h2
  simp only[List.length_cons,List.flatten_cons,List.length_append]
  omega
 | [],_::_,_,h=>h.elim
 | _::_,[],_,h=>h.elim
theorem PRun.snoc:∀{pl:List (Nat×Nat×Nat)} {segs:List (List Keyed)} {o:Nat} {c:Nat×Nat×Nat} {S:List Keyed},PRun lt pl segs o→c.1=o+segs.flatten.length→c.2.1=S.length→1≤S.length→Srt lt S→PRun lt (pl++[c]) (segs++[S]) o
 | [],[],o,c,S,_,h1,h2,h3,h4=>⟨by simpa using h1,h2,h3,h4,trivial⟩
 | p::ps,U::ss,o,c,S,h,h1,h2,h3,h4=>by
  obtain⟨a1,a2,a3,a4,a5⟩:=h
  refine⟨a1,a2,a3,a4,PRun.snoc a5 ?_ h2 h3 h4⟩
  rw[h1];simp only[List.flatten_cons,List.length_append];omega
 | [],_::_,_,_,_,h,_,_,_,_=>h.elim
 | _::_,[],_,_,_,h,_,_,_,_=>h.elim
theorem PRun.split:∀{pl:List (Nat×Nat×Nat)} {segs:List (List Keyed)} {o i:Nat},PRun lt pl segs o→i+1<pl.length→∃p1 a b p2 s1 U V s2,pl=p1++a::b::p2∧p1.length=i∧segs=s1++U::V::s2∧a.1=o+s1.flatten.length∧a.2.1=U.length∧b.1=a.1+U.length∧b.2.1=V.length∧1≤U.length∧1≤V.length∧Srt lt U∧Srt lt V ∧
  ∀(W:List Keyed) (c:Nat×Nat×Nat),W.length=U.length+V.length→Srt lt W→c.1=a.1→c.2.1=W.length→PRun lt (p1++c::p2) (s1++W::s2) o
 | p::q::ps,S::S'::ss,o,0,h,_=>by
  obtain⟨a1,a2,a3,a4,b1,b2,b3,b4,b5⟩:=h
  refine⟨[],p,q,ps,[],S,S',ss,rfl,rfl,rfl,by simpa using a1,a2,by omega,b2,a3,b3,a4,b4,fun W c hW hs h1 h2=>⟨by rw[h1];exact a1,h2,by omega,hs,?_⟩⟩
  rw[hW,← Nat.add_assoc]
  exact b5
 | p::ps,S::ss,o,i+1,h,hi=>by
  obtain⟨a1,a2,a3,a4,a5⟩:=h
  obtain⟨p1,a,b,p2,s1,U,V,s2,e1,e2,e3,e4,e5,e6,e7,e8,e9,e10,e11,e12⟩:=PRun.split a5 (i:=i) (by rw[List.length_cons]at hi;omega)
  refine⟨p::p1,a,b,p2,S::s1,U,V,s2,by rw[e1];rfl,by rw[List.length_cons,e2],by rw[e3];rfl,by rw[e4];simp only[List.flatten_cons,List.length_append];omega,e5,e6,e7,e8,e9,e10,e11,fun W c hW hs h1 h2=>⟨a1,a2,a3,a4,e12 W c hW hs h1 h2⟩⟩
 | [p],[S],o,0,h,hi=>by simp at hi
 | [p],S::S'::ss,o,0,h,hi=>by simp at hi
 | p::q::ps,[S],o,0,h,_=>by obtain⟨_,_,_,_,h⟩:=h;exact h.elim
 | [],[],_,_,_,hi=>by simp at hi
 | [],_::_,_,_,h,_=>h.elim
 | _::_,[],_,_,h,_=>h.elim
end
structure SI(lt:Keyed→Keyed→Bool)(st0 st:SortSt)(lo:Nat)(l7:List Keyed):Prop where
 k:kindOf st=kindOf st0
 f:failedOf st=none
 pm:(arrOf st).Perm (arrOf st0)
 run:∃segs,(arrOf st).toList=segs.flatten++l7∧segs.flatten.length=lo∧PRun lt (pendingOf st).toList segs 0
section
variable {prog:Program}{w:World}{A:Around}{E:Value→Shared→Prop}{s:Shared}{κ:SortKind}{lt:Keyed→Keyed→Bool}{Dm:Keyed→Prop}{st0 st:SortSt}{lo:Nat}{l7:List Keyed}
theorem SI.psz(I:SI lt st0 st lo l7):(pendingOf st).size≤lo:=by
 obtain⟨segs,_,e2,pr⟩:=I.run
 have:=pr.len.2
 rw[Array.length_toList]at this
 omega
end
section
variable {prog:Program}{w:World}{A:Around}{E:Value→Shared→Prop}{s:Shared}{κ:SortKind}{lt:Keyed→Keyed→Bool}{Dm:Keyed→Prop}{st0 st:SortSt}{lo n:Nat}{l7:List Keyed}
theorem SI.push{S:List Keyed}{pw:Nat}(I:SI lt st0 st lo (S++l7))(hn:S.length=n)(h1:1≤n)(hs:Srt lt S):SI lt st0 (setPending st ((pendingOf st).push (lo,n,pw))) (lo+n) l7:=by
 obtain⟨segs,e1,e2,pr⟩:=I.run
 refine⟨I.k,I.f,I.pm,segs++[S],by show(arrOf st).toList=_;rw[e1];simp,by simp only[List.flatten_append,List.flatten_cons,List.flatten_nil,List.length_append,List.length_nil];omega,?_⟩
 show PRun lt ((pendingOf st).push (lo,n,pw)).toList _ 0
 rw[Array.toList_push]
 exact pr.snoc (by show lo=_;omega) (by show n=_;omega) (by omega) hs
end
section
variable {κ:Type} [DecidableEq κ]
def U1(kvs:List (κ×V))(k:κ):Option V:=(kvs.find? fun kv=>decide (kv.1=k)).map (·.2)
def V5(kvs:List (κ×V))(k:κ)(v:V):List (κ×V) :=
 if(kvs.any fun kv=>decide (kv.1=k))=true then kvs.map (fun kv=>if kv.1=k then(kv.1,v)else kv)else kvs++[(k,v)]
def b19(kvs:List (κ×V))(k:κ):List (κ×V):=kvs.filter fun kv=>decide (kv.1≠k)
theorem a1s{p:κ×V}{r:List (κ×V)}{k:κ}(e:p.1=k):U1 (p::r) k=some p.2:=by simp[U1,List.find?_cons,e]
theorem a1t{p:κ×V}{r:List (κ×V)}{k:κ}(e:¬p.1=k):U1 (p::r) k=U1 r k:=by simp[U1,List.find?_cons,e]
theorem a6h(k:κ):∀kvs:List (κ×V),(kvs.any fun kv=>decide (kv.1=k))=(U1 kvs k).isSome
 | []=>rfl
 | p::r=>by
  rw[List.any_cons]
  by_cases e:p.1=k
  ·simp only[a1s e,decide_eq_true e,Bool.true_or,Option.isSome_some]
  ·rw[a1t e,decide_eq_false e,Bool.false_or];exact a6h k r
theorem a2X(kvs:List (κ×V))(k:κ)(v:V):(V5 kvs k v).length≤kvs.length+1:=by
 unfold V5
 split
 ·rw[List.length_map];omega
 ·rw[List.length_append,List.length_cons,List.length_nil];omega
theorem RelO.isSome_eq{o:Option V}{u:Option Value}(r:RelO o u):o.isSome=u.isSome:=by
 cases o with
 | none=>cases u with
  | none=>rfl
  | some _=>exact(show False from r).elim
 | some _=>cases u with
  | none=>exact(show False from r).elim
  | some _=>rfl
theorem RelO.getD{o:Option V}{u:Option Value}{d:V}{d':Value}(r:RelO o u)(rd:RelV d d'):RelV (o.getD d) (u.getD d'):=by
 cases o with
 | none=>cases u with
  | none=>exact rd
  | some _=>exact(show False from r).elim
 | some _=>cases u with
  | none=>exact(show False from r).elim
  | some _=>exact r
theorem KV.val{kvs:List (κ×V)}{vs:List (κ×Value)}(r:KV kvs vs)(k:κ):RelO (U1 kvs k) (valueAt vs k):=by
 unfold KV at r
 induction r with
 | nil=>exact True.intro
 | @cons p q ps qs h t ih =>
  obtain⟨h1,h2⟩:=h
  by_cases e:p.1=k
  ·have e':q.1=k:=h1.symm.trans e
   have b:valueAt (q::qs) k=some q.2:=by simp[valueAt,List.find?_cons,e']
   rw[a1s e,b];exact h2
  ·have e':¬q.1=k:=fun z=>e (h1.trans z)
   have b:valueAt (q::qs) k=valueAt qs k:=by simp[valueAt,List.find?_cons,e']
   rw[a1t e,b];exact ih
theorem KV.any{kvs:List (κ×V)}{vs:List (κ×Value)}(r:KV kvs vs)(k:κ):(kvs.any fun kv=>decide (kv.1=k))=vs.any fun kv=>decide (kv.1=k):=by
 unfold KV at r
 induction r with
 | nil=>rfl
 | cons h t ih=>rw[List.any_cons,List.any_cons,ih,h.1]
theorem KV.repl{kvs:List (κ×V)}{vs:List (κ×Value)}(r:KV kvs vs)(k:κ){y:V}{u:Value}(ry:RelV y u) :
  KV (kvs.map fun kv=>if kv.1=k then(kv.1,y)else kv) (vs.map fun kv=>if kv.1=k then(kv.1,u)else kv):=by
 unfold KV at r ⊢
 induction r with
 | nil=>exact .nil
 | @cons p q ps qs h t ih =>
  rw[List.map_cons,List.map_cons]
  refine .cons ?_ ih
  obtain⟨h1,h2⟩:=h
  by_cases e:p.1=k
  ·rw[if_pos e,if_pos (h1.symm.trans e)];exact⟨h1,ry⟩
  ·rw[if_neg e,if_neg (fun z=>e (h1.trans z))];exact⟨h1,h2⟩
theorem KV.put{kvs:List (κ×V)}{vs:List (κ×Value)}(r:KV kvs vs)(k:κ){y:V}{u:Value}(ry:RelV y u):KV (V5 kvs k y) (stored vs k u):=by
 unfold V5 stored
 rw[r.any k]
 by_cases e:(vs.any fun kv=>decide (kv.1=k))=true
 ·rw[if_pos e,if_pos e];exact r.repl k ry
 ·rw[if_neg e,if_neg e];exact Paired.snoc r ⟨rfl,ry⟩
theorem KV.drop{kvs:List (κ×V)}{vs:List (κ×Value)}(r:KV kvs vs)(k:κ):KV (b19 kvs k) (without vs k):=by
 unfold KV at r ⊢
 unfold b19 without
 induction r with
 | nil=>exact .nil
 | @cons p q ps qs h t ih =>
  obtain⟨h1,h2⟩:=h
  rw[List.filter_cons,List.filter_cons]
  by_cases e:p.1=k
  ·have a:¬decide (p.1≠k)=true:=by simp[e]
   have b:¬decide (q.1≠k)=true:=by simp[h1.symm.trans e]
   rw[if_neg a,if_neg b];exact ih
  ·have e':¬q.1=k:=fun z=>e (h1.trans z)
   have a:decide (p.1≠k)=true:=by simp[e]
   have b:decide (q.1≠k)=true:=by simp[e']
   rw[if_pos a,if_pos b];exact .cons ⟨h1,h2⟩ ih
theorem KV.keys{kvs:List (κ×V)}{vs:List (κ×Value)}(r:KV kvs vs):kvs.map (·.1)=vs.map (·.1):=by
 unfold KV at r
 induction r with
 | nil=>rfl
 | cons h t ih=>rw[List.map_cons,List.map_cons,ih,h.1]
theorem KV.length{kvs:List (κ×V)}{vs:List (κ×Value)}(r:KV kvs vs):kvs.length=vs.length:=Paired.length r
end
theorem a5P{P:Program}{w:World}{k:v9}{u:Value}(r:RelV (kV k) u):(J5 P w).is k u=true:=by
 cases k with
 | inl i=>obtain⟨t,e⟩:=(show ∃t,u=Value.int i t from r);subst e;exact a60 P w i t
 | inr x=>obtain⟨t,e⟩:=(show ∃t,u=Value.str x t from r);subst e;exact a61 P w x t
theorem a5i{P:Program}{w:World}:∀{ks:List v9} {us:List Value},Vals (ks.map kV) us→ItemsAre (J5 P w) ks us
 | [],_,r=>by rw[List.map_nil]at r;cases r;exact .nil
 | k::ks,_,r=>by
  rw[List.map_cons]at r
  cases r with
  | cons h t=>exact .cons (a5P h) (a5i t)
abbrev KT(H:Hp):List (List v9×V)→List (List v9×Addr×Value)→Prop:=Paired fun p q=>p.1=q.1∧H q.2.1=some (.tup (p.1.map kV))∧RelV p.2 q.2.2
theorem KT.val{H:Hp}{kvs:List (List v9×V)}{xs:List (List v9×Addr×Value)}(r:KT H kvs xs)(k:List v9):RelO (U1 kvs k) ((atKey xs k).map (·.2)):=by
 induction r with
 | nil=>exact True.intro
 | @cons p q ps qs h t ih =>
  obtain⟨h1,_,h2⟩:=h
  by_cases e:p.1=k
  ·have e':q.1=k:=h1.symm.trans e
   have b:atKey (q::qs) k=some q.2:=by simp[atKey,List.find?_cons,e']
   rw[a1s e,b];exact h2
  ·have e':¬q.1=k:=fun z=>e (h1.trans z)
   have b:atKey (q::qs) k=atKey qs k:=by simp[atKey,List.find?_cons,e']
   rw[a1t e,b];exact ih
theorem KT.repl{H:Hp}{kvs:List (List v9×V)}{xs:List (List v9×Addr×Value)}(r:KT H kvs xs)(k:List v9){y:V}{u:Value}(ry:RelV y u) :
  KT H (kvs.map fun kv=>if kv.1=k then(kv.1,y)else kv) (xs.map (putAt k u)):=by
 induction r with
 | nil=>exact .nil
 | @cons p q ps qs h t ih =>
  rw[List.map_cons,List.map_cons]
  refine .cons ?_ ih
  obtain⟨h1,h2,h3⟩:=h
  unfold putAt
  by_cases e:p.1=k
  ·rw[if_pos e,if_pos (h1.symm.trans e)];exact⟨h1,h2,ry⟩
  ·rw[if_neg e,if_neg (fun z=>e (h1.trans z))];exact⟨h1,h2,h3⟩
theorem KT.put{H:Hp}{kvs:List (List v9×V)}{xs:List (List v9×Addr×Value)}(r:KT H kvs xs)(k:List v9){b:Addr}{y:V}{u:Value}(hb:H b=some (.tup (k.map kV)))(ry:RelV y u) :
  KT H (V5 kvs k y) (storedH xs k b u):=by
 have e:(kvs.any fun kv=>decide (kv.1=k))=(atKey xs k).isSome:=by
  rw[a6h,(r.val k).isSome_eq,Option.isSome_map]
 unfold V5 storedH
 rw[e]
 by_cases q:(atKey xs k).isSome=true
 ·rw[if_pos q,if_pos q];exact r.repl k ry
 ·rw[if_neg q,if_neg q];exact Paired.snoc r ⟨rfl,hb,ry⟩
theorem KT.keeps{H H':Hp}{kvs:List (List v9×V)}{xs:List (List v9×Addr×Value)}(r:KT H kvs xs)(ht:∀b ys,H b=some (.tup ys)→H' b=some (.tup ys)):KT H' kvs xs :=
 Paired.mapP r fun _ _ z=>⟨z.1,ht _ _ z.2.1,z.2.2⟩
section
variable {P:Program}{w:World}{H:Hp}{h:Heap}{a:Addr}
theorem b1_{u:HO}(ok:HOk P w H h)(e:Rd H a u):ObjOk P w H h a u:=e.ok ok
theorem a8v{kvs:List (v9×V)}(ok:HOk P w H h)(e:Rd H a (.dK kvs)):kvs.length≤sizeLine∧(a == sysModules)=false∧∃vs,KV kvs vs∧h.DictOf (J5 P w) a vs :=
 show ObjOk P w H h a (.dK kvs)from b1_ ok e
theorem b54{kvs:List (v9×V)}(ok:HOk P w H h)(e:H a=some (.dK kvs)):kvs.length≤sizeLine∧(a == sysModules)=false∧∃vs,KV kvs vs∧h.DictOf (J5 P w) a vs:=a8v ok (.inl e)
theorem a3U{ks:List v9}(ok:HOk P w H h)(e:H a=some (.tup (ks.map kV))):(tupleKind (J5 P w)).is h ks a:=by
 obtain⟨_,its,r,o,h1,h2,n,h3⟩:=(show ObjOk P w H h a (.tup (ks.map kV))from ok a _ e)
 exact⟨o,its.toArray,n,h1,h2,h3,by simpa using a5i r⟩
theorem a8w{kvs:List (List v9×V)}(ok:HOk P w H h)(e:Rd H a (.dT kvs)):kvs.length≤sizeLine∧(a == sysModules)=false ∧
  ∃xs,KT H kvs xs∧h.DictOfH (tupleKind (J5 P w)) a xs:=by
 obtain⟨z,y,xs,r,o,es,ep,h1,h2,h3,h4,h5⟩:=(show ObjOk P w H h a (.dT kvs)from b1_ ok e)
 refine⟨z,y,xs,r,o,es,ep,h1,h2,h3,h4,fun x hx=>?_,h5⟩
 have all:∀{l:List (List v9×V)} {m:List (List v9×Addr×Value)},KT H l m→∀x∈m,(tupleKind (J5 P w)).is h x.1 x.2.1:=by
  intro l m q
  induction q with
  | nil=>intro x hx;exact nomatch hx
  | @cons p q ps qs hq t ih =>
   intro x hx
   rcases List.mem_cons.mp hx with e | hx
   ·subst e
    exact a3U ok (by rw[← hq.1];exact hq.2.1)
   ·exact ih x hx
 exact all r x hx
theorem b55{kvs:List (List v9×V)}(ok:HOk P w H h)(e:H a=some (.dT kvs)):kvs.length≤sizeLine∧(a == sysModules)=false ∧
  ∃xs,KT H kvs xs∧h.DictOfH (tupleKind (J5 P w)) a xs:=a8w ok (.inl e)
end
def DGet(H:Hp)(a:Addr)(y:V)(r:Option V):Prop :=
 (∃kvs k,Rd H a (.dK kvs)∧y=kV k∧r=U1 kvs k)∨∃kvs k b,Rd H a (.dT kvs)∧y=.ref b∧H b=some (.tup (k.map kV))∧r=U1 kvs k
def DPut(H:Hp)(a:Addr)(y v:V)(H':Hp):Prop :=
 (∃kvs k,H a=some (.dK kvs)∧y=kV k∧kvs.length<sizeLine∧H'=upd H a (.dK (V5 kvs k v))) ∨
 ∃kvs k b,H a=some (.dT kvs)∧y=.ref b∧H b=some (.tup (k.map kV))∧kvs.length<sizeLine∧H'=upd H a (.dT (V5 kvs k v))
theorem DGet.k{H:Hp}{a:Addr}{kvs:List (v9×V)}{k:v9}(e:H a=some (.dK kvs)):DGet H a (kV k) (U1 kvs k):=.inl ⟨kvs,k,.inl e,rfl,rfl⟩
theorem DGet.t{H:Hp}{a b:Addr}{kvs:List (List v9×V)}{k:List v9}(e:H a=some (.dT kvs))(eb:H b=some (.tup (k.map kV))):DGet H a (.ref b) (U1 kvs k):=.inr ⟨kvs,k,b,.inl e,rfl,eb,rfl⟩
theorem DPut.k{H:Hp}{a:Addr}{kvs:List (v9×V)}{k:v9}{v:V}(e:H a=some (.dK kvs))(hl:kvs.length<sizeLine):DPut H a (kV k) v (upd H a (.dK (V5 kvs k v))):=.inl ⟨kvs,k,e,rfl,hl,rfl⟩
theorem DPut.t{H:Hp}{a b:Addr}{kvs:List (List v9×V)}{k:List v9}{v:V}(e:H a=some (.dT kvs))(eb:H b=some (.tup (k.map kV)))(hl:kvs.length<sizeLine) :
  DPut H a (.ref b) v (upd H a (.dT (V5 kvs k v))):=.inr ⟨kvs,k,b,e,rfl,eb,hl,rfl⟩
section
variable {X:Cx}{pins:List (Addr×Obj)}{σ:St}{H:Hp}{s:Shared}{a:Addr}{y v:V}{u r:Value}{o:Option V}{A:Around}{E:Value→Shared→Prop}
theorem Inv.big(I:Inv X pins σ H s):sysModules<s.heap.objs.size:=by
 have h:mainGlobals<s.heap.objs.size:=(I.mod.glob.keeps I.bk).lt
 exact Nat.lt_trans (by decide) h
theorem b6J{Q:Value→Shared→Prop}(hu:A.units+1<cLine)(I:Inv X pins σ H s)(g:DGet H a y o)(ry:RelV y u)(h:∀s',Inv X pins σ H s'→Q (.bool o.isSome) s') :
  wpAny (model X.prog X.w) A (compareOp .In u (.ref a)) Q E s:=by
 rcases g with⟨kvs,k,e,ey,l⟩ | ⟨kvs,k,b,e,ey,eb,l⟩
 ·subst ey
  obtain⟨z,hd,vs,rel,dd⟩:=a8v I.hok e
  refine wpAny_in_of (a5P ry) hd dd.mapOf ?_
  rw[← (rel.val k).isSome_eq,← l]
  exact h _ (I.tok _)
 ·subst ey
  cases (show u=Value.ref b from ry)
  obtain⟨z,hd,xs,rel,dd⟩:=a8w I.hok e
  refine wpAny_in_heap (tupleKind_room_in1 hu) (a3U I.hok eb) hd dd ?_
  have q:=(rel.val k).isSome_eq
  rw[Option.isSome_map]at q
  rw[← q,← l]
  exact h _ (I.tok _)
theorem b22{Q:Value→Shared→Prop}(hu:A.units+1<cLine)(I:Inv X pins σ H s)(g:DGet H a y o)(ry:RelV y u)(h:∀s',Inv X pins σ H s'→Q (.bool (!o.isSome)) s') :
  wpAny (model X.prog X.w) A (compareOp .NotIn u (.ref a)) Q E s:=by
 rcases g with⟨kvs,k,e,ey,l⟩ | ⟨kvs,k,b,e,ey,eb,l⟩
 ·subst ey
  obtain⟨z,hd,vs,rel,dd⟩:=a8v I.hok e
  refine wpAny_notIn_of (a5P ry) hd dd.mapOf ?_
  rw[← (rel.val k).isSome_eq,← l]
  exact h _ (I.tok _)
 ·subst ey
  cases (show u=Value.ref b from ry)
  obtain⟨z,hd,xs,rel,dd⟩:=a8w I.hok e
  refine wpAny_notIn_heap (tupleKind_room_in1 hu) (a3U I.hok eb) hd dd ?_
  have q:=(rel.val k).isSome_eq
  rw[Option.isSome_map]at q
  rw[← q,← l]
  exact h _ (I.tok _)
theorem a7B{h':Heap}{t':Nat}{ob:HO}(I:Inv X pins σ H s)(mu:Mut (H a))(hs:Heap.SameBut a s.heap h')(he:∃q,h'.get? a=some q)(new:ObjOk X.prog X.w (upd H a ob) h' a ob) :
  Inv X pins σ (upd H a ob) { s with heap:=h',toks:=t' } :=
 I.write (x:=a) (e:=a) mu (.inl rfl) (fun b q hb z=>(hs.2 b hb).trans z) he new
theorem b41{P:Program}{w:World}{H':Hp}{h':Heap}{kvs:List (v9×V)}{vs:List (v9×Value)}(z:kvs.length≤sizeLine)(hd:(a == sysModules)=false)(rel:KV kvs vs)(dd:h'.DictOf (J5 P w) a vs) :
  ObjOk P w H' h' a (.dK kvs):=⟨z,hd,vs,rel,dd⟩
theorem a9D{H':Hp}{Q:Unit→Shared→Prop}(hu:A.units+1<cLine)(I:Inv X pins σ H s)(g:DPut H a y v H')(ry:RelV y u)(rv:RelV v r)(h:∀s',Inv X pins σ H' s'→Q () s') :
  wpAny (model X.prog X.w) A (setItem (.ref a) u r) Q E s:=by
 rcases g with⟨kvs,k,e,ey,l,eH⟩ | ⟨kvs,k,b,e,ey,eb,l,eH⟩
 ·subst ey eH
  obtain⟨z,hd,vs,rel,dd⟩:=b54 I.hok e
  have hz:vs.length≤sizeLine:=by rw[← rel.length];exact z
  have hl:(V5 kvs k v).length≤sizeLine:=by have:=a2X kvs k v;omega
  refine wpAny_setItem_pairs (hsz:=hz) (a5P ry) dd fun h' dd' hs=>h _ ?_
  have he:∃q,h'.get? a=some q:=let ⟨q,_,_,hq,_⟩:=dd'; ⟨q,hq⟩
  exact a7B I (by rw[e];exact True.intro) hs he (b41 hl hd (rel.put k rv) dd')
 ·subst ey eH
  cases (show u=Value.ref b from ry)
  obtain⟨z,hd,xs,rel,dd⟩:=b55 I.hok e
  have hz:xs.length≤sizeLine:=by rw[← Paired.length rel];exact z
  have hl:(V5 kvs k v).length≤sizeLine:=by have:=a2X kvs k v;omega
  refine wpAny_setItem_heap (hsz:=hz) (tupleKind_room_in1 hu) (a3U I.hok eb) dd fun h' dd' hs=>h _ ?_
  obtain⟨q,es,ep,hq,h2,h3,h4,_,h5⟩:=dd'
  refine a7B I (by rw[e];exact True.intro) hs ⟨q,hq⟩ ⟨hl,hd,_,(rel.put k eb rv).keeps fun c ys ec=>?_,q,es,ep,hq,h2,h3,h4,h5⟩
  rw[g5 (b1T ec e (fun z=>nomatch z))]
  exact ec
end
def b2a(td ty tv:TE):TS:=fun D σ H=>tv σ H fun v H1=>td σ H1 fun x H2=>ty σ H2 fun y H3=>∃a H4,x=.ref a∧DPut H3 a y v H4∧D.nx σ H4
section
variable {X:Cx}{o i e value:Expr}{pos pos' tpos:Pos}{td ty tv:TE}
theorem b23(hu:X.A.units+1<cLine)(ho:PE X o td)(hi:PE X i ty)(hv:PE X value tv)(hs:swapsWith value (some (.Subscript o i pos')) pos.line X.env=pure false) :
  PS X (.Assign [.Subscript o i pos'] value pos) (b2a td ty tv):=by
 intro pins s σ H D I h
 refine wpAny_Assign_Subscript (m4 (hv pins s σ H _ I h) fun r s1 ⟨v,H1,I1,rv,q1⟩=>m4 (ho pins s1 σ H1 _ I1 q1) fun u s2 ⟨x,H2,I2,rx,q2⟩=>m4 (hi pins s2 σ H2 _ I2 q2) fun iv s3 ⟨y,H3,I3,ry,a,H4,ex,g,q3⟩=>?_) hs
 subst ex
 obtain rfl:u=Value.ref a:=rx
 exact a9D hu I3 g ry rv fun s4 I4=>⟨σ,H4,I4,q3⟩
end
theorem b03{P:Program}{w:World}{H:Hp}(h:Heap)(hb:sysModules<h.objs.size):ObjOk P w H (h.push { cls:=.type "dict",data:=.dict #[] }) h.objs.size (.dK []) :=
 ⟨Nat.zero_le _,beq_eq_false_iff_ne.mpr (Ne.symm (Nat.ne_of_lt hb)),[],.nil,Heap.DictOf.new h⟩
def a9E:TE:=fun _ H Q=>∀p,H p=none→Q (.ref p) (upd H p (.dK []))
section
variable {X:Cx}{pos:Pos}
theorem b04:PE X (.Dict [] [] pos) a9E:=fun pins s σ H Q I h =>
 wpAny_Dict_empty ⟨.ref s.heap.objs.size,_,I.laid (a:=s.heap.objs.size) (o:=.dK []) (t':=s.toks) (fun _ _ q=>Heap.get?_push_of_some _ q) (Nat.le_refl _) (b03 s.heap I.big),rfl,h _ (I.hok.fresh (Nat.le_refl _))⟩
end
end L2
namespace PySem.W
open PySem PySem.Spec PySem.Calls PyProof.Rows
def onlyVE:List Value→Bool
 | .ref _::r=>onlyVE r
 | l=>l == L2.vErr
theorem a5j(self:Value):∀l:List Value,onlyVE l=true→refuseLoop self "__setattr__" l=pure ()
 | [],e=>by cases (show([] == L2.vErr)=true from e)
 | y::r,e=>by
  unfold onlyVE at e
  split at e
  ·rename_i c r' q
   cases q
   rw[refuseLoop_ref]
   exact a5j self _ e
  ·rw[beq_iff_eq.mp e]
   exact PySem.F.store_ValueError.passes self
structure ExcS(K:Frag)(C:Addr)(f:Str):Prop where
 sa:findIn K (.ref C) "__setattr__" = some (some (.builtin "object.__setattr__"))
 mr:((clsIn K C).any fun cd=>onlyVE cd.mro)=true
 mo:mroIn K C (.type "object")=some true
 hd:hasDictIn K C=true
 na:findIn K (.ref C) f=some none
section
variable {prog:Program}{w:World}{A:Around}{E:Value→Shared→Prop}{s:Shared}{K:Frag}{x C:Addr}{o:Obj}{vs:Array Value}{f:Str}{v:Value}
theorem b24{tk:Tok}{R:Result→Shared→Prop}(X:K.In s.heap)(T:ExcS K C f)(hx:s.heap.get? x=some o)(hc:o.cls=.ref C)(hd:o.dict=none)(hf:o.data=.fields vs)
  (q:∀h' tk',h'.get? x=some { o with dict:=some s.heap.objs.size }→h'.Ns1 s.heap.objs.size (fun y=>if y=f then some v else none)→(∀b ob,b≠x→s.heap.get? b=some ob→h'.get? b=some ob)→R (.ok (.ret .none)) { s with heap:=h',toks:=tk' }) :
  codeAny (model prog w) A (.call (.builtin "object.__setattr__") ⟨[.ref x,.str f tk,v],[]⟩) R s:=by
 obtain⟨cd,hcd,ho⟩:=any_some T.mr
 obtain⟨cd',hcd',hhd⟩:=any_some T.hd
 rw[hcd]at hcd';cases hcd'
 have LT:Looks (model prog w) s.heap (typeOf (.ref x)) (.ref C):=hc▸(Looks.ld hx).andThen .now
 have SF:=PySem.F.store_object
 have sub:Looks (model prog w) s.heap (isInstance (.ref x) (.type "object")) true:=LT.andThen (looks_mroIn X T.mo)
 have hm:Looks (model prog w) s.heap (mroOf (.ref C)) cd.mro:=(looks_clsIn X hcd).andThen .now
 refine codeAny_call_builtin SF.slot.plain SF.entry (@check_slot (model prog w) _ _ s "object.__setattr__" "object" "__setattr__" (.ref x) [.str f tk,v] [] _ SF.kind SF.split sub (SF.args (.ref x) (.str f tk) v) ?_)
 show wpAny _ _ (Builtin.«object.__setattr__» ⟨[.ref x,.str f tk,v],[]⟩) _ _ _
 rw[osa_eq,refuse_eq]
 refine wpAny_bind (wpAny_bind (LT.here (wpAny_bind (hm.here ?_))))
 rw[a5j _ _ ho]
 refine wpAny_pure (wpAny_bind (LT.here (wpAny_bind ((looks_findIn X T.na).here (wpAny_bind (wpAny_pure ?_))))))
 show wpAny _ _ (Builtin.ObjectAttr.storeInOwnDict (.ref x) (.ref C) (.str f tk) f v false) _ _ _
 refine wpAny_bind (wpAny_pure (wpAny_bind ?_))
 unfold Builtin.ObjectAttr.ownDictForStores instanceDict
 refine wpAny_bind (wpAny_loadPart hx ?_)
 rw[hc]
 refine wpAny_bind ((looks_clsIn X hcd).here ?_)
 rw[if_neg (by rw[hhd];decide)]
 dsimp only
 rw[hd]
 dsimp only
 rw[if_neg (by simp[typeHasDict]),hf]
 dsimp only
 have hx₁:(s.heap.push { cls:=.type "dict",data:=.dict #[] }).get? x=some o:=Heap.get?_push_of_some _ hx
 have hxs:x≠s.heap.objs.size:=Nat.ne_of_lt (Heap.lt_size hx)
 refine wpAny_bind (wpAny_alloc' ?_)
 refine wpAny_bind (wpAny_update' hx₁ ?_)
 refine wpAny_pure ?_
 have hgd:((s.heap.push { cls:=.type "dict",data:=.dict #[] }).update x fun o=>{ cls:=o.cls,dict:=some s.heap.objs.size,data:=o.data,slots:=o.slots }).get? s.heap.objs.size
   = some { cls:=.type "dict",data:=.dict #[] } :=
  (Heap.get?_update_ne _ _ _ _ hxs.symm).trans (Heap.get?_push_at rfl rfl)
 have hnd:((s.heap.push { cls:=.type "dict",data:=.dict #[] }).update x fun o=>{ cls:=o.cls,dict:=some s.heap.objs.size,data:=o.data,slots:=o.slots }).Ns s.heap.objs.size (fun _=>none) :=
  ⟨_,#[],_,hgd,rfl,fun e he=>absurd he (by simp),fun _=>rfl⟩
 show wpAny _ _ (Builtin.ObjectAttr.storeInDict s.heap.objs.size (.str f tk) f v) _ _ _
 unfold Builtin.ObjectAttr.storeInDict Builtin.ObjectAttr.newKeyGuard
 refine wpAny_bind (wpAny_pure (wpAny_bind (wpAny_nsSet1 (Heap.Ns1.of_empty hnd) fun h' hn' hs=>?_)))
 obtain⟨oD,esD,epD,hoD,hdD,hcD⟩:=hn'.count (Within.cons f v Within.nil)
 refine wpAny_bind (wpAny_lookBehind hoD (by rw[hdD];exact pastItsLine_dict (Nat.le_trans hcD (by rw[List.length_cons,List.length_nil,sizeLine_eq];omega))) ?_)
 refine wpAny_pure (q h' _ ?_ hn' fun b ob hb e=>?_)
 ·refine(hs.2 x hxs).trans (Heap.get?_update_self _ hx₁ ?_)
  rw[show({ cls:=o.cls,dict:=some s.heap.objs.size,data:=o.data,slots:=o.slots }:Obj).isFreed=false from Obj.isFreed_of_fields hf]
 ·exact(hs.2 b (Nat.ne_of_lt (Heap.lt_size e))).trans ((Heap.get?_update_ne _ _ _ _ hb).trans (Heap.get?_push_of_some _ e))
theorem exc_setattr{Q:Unit→Shared→Prop}(X:K.In s.heap)(T:ExcS K C f)(hx:s.heap.get? x=some o)(hc:o.cls=.ref C)(hd:o.dict=none)(hf:o.data=.fields vs)
  (q:∀h' tk',h'.get? x=some { o with dict:=some s.heap.objs.size }→h'.Ns1 s.heap.objs.size (fun y=>if y=f then some v else none)→(∀b ob,b≠x→s.heap.get? b=some ob→h'.get? b=some ob)→Q () { s with heap:=h',toks:=tk' }) :
  wpAny (model prog w) A (setAttr (.ref x) f v) Q E s:=by
 have I:InstAt s.heap x o C none:=⟨hx,hc,by unfold notCls;rw[hf],by rw[hd];trivial⟩
 exact set_plain X I T.sa (b24 (s:={ s with toks:=s.toks+1 }) X T hx hc hd hf q)
end
end PySem.W
namespace PySem.W
open PySem PySem.Spec PySem.Calls PyProof.Rows
section
variable {prog:Program}{w:World}{A:Around}{E:Value→Shared→Prop}{h:Heap}{g:Array GenState}{d:Drawn}{t:Nat}{os:OsState}{K:Frag}
variable {nm q:Str}{C N:Addr}{bs bm bmB:List Value}{hdct:Bool}{sn:List Str}{sub:List Value}{ab:Bool}{col:Option Bool}{dd:Option Addr}{k0 k1 k2 k3 k5:Option Value}{B newId initId:String}
abbrev a4F(C tu:Addr):Obj:={ cls:=.ref C,data:=.fields #[.ref tu,.none,.none,.none,.bool false,.none] }
theorem a4G(X:K.In h)(F:ExcBaseFacts B newId initId bmB)(T:OwnTail h bmB bm){l7:List Value}{fI:Addr}{Q:Fin→Shared→Prop}
  (hC:h.get? C=some (excClassObj nm q C N bs bm hdct sn sub ab col dd k0 k1 k2 k3 k5 newId)) (hi:findIn K (.ref C) "__init__" = some (some (.ref fI))) (hf:typeIn K (.ref fI)=some (.type "function"))
  (hq:∀h' e,Heap.MadeExcOf h h' e (.ref C) l7→h.objs.size≤e→wpAny (model prog w) A (call (.ref fI) (.ref e::l7)) (fun r s'=>r=.none∧Q (.done (.ret (.ref e))) s') E ⟨h',g,d,t,os⟩) (hrest:l7.length≤sizeLine) :
  wpAny (model prog w) A (Builtin.«type.__call__» ⟨.ref C::l7,[]⟩) Q E ⟨h,g,d,t,os⟩:=by
 repeat (first | with_reducible refine wpAny_loadPart_at hC ?_ | with_reducible refine wpAny_madeBy_exc hC ?_ | wp_step)
 refine codeAny_call_builtin_code (Code.quiet_builtin _ F.quiet) (wpAny_check_new_subT F T hC ?_)
 refine codeAny_exc_new_subT F T hC ?_ hrest
 show wpAny _ _ _ _ _ _
 have kp:∀b o,h.get? b=some o→((h.push { cls:=.type "tuple",data:=.seq l7.toArray }).push (a4F C h.objs.size)).get? b=some o:=fun b o e=>Heap.get?_push_of_some _ (Heap.get?_push_of_some _ e)
 have hC₁:=kp _ _ hC
 have X₁:=X.keeps kp
 have hget:((h.push { cls:=.type "tuple",data:=.seq l7.toArray }).push (a4F C h.objs.size)).get? (h.objs.size+1)=some (a4F C h.objs.size):=by heap_get
 have hcC:(Value.ref C::bm).contains (.ref C)=true:=by simp
 unfold isInstance
 repeat (first | with_reducible refine wpAny_loadPart_at hget ?_ | (with_reducible refine wpAny_isSubtype_exc hC₁ ?_;rw[hcC]) | wp_step)
 show wpAny _ _ (typeLookup (.ref C) _) _ _ _
 refine Looks.here (s:=⟨_,g,d,t,os⟩) (looks_findIn X₁ hi) ?_
 refine wpAny_holding (wpAny_bind (Looks.here (s:=⟨_,g,d,t,os⟩) (bind_fn X₁ _ hf) ?_))
 refine wpAny_bind (wpAny_mono (hq _ (h.objs.size+1) ⟨kp,Heap.get?_none_of_le (Nat.le_succ _),h.objs.size,hget,Heap.get?_none_of_le (Nat.le_refl _),?_⟩ (Nat.le_succ _)) (fun r s' hr=>?_) fun _ _ x=>x)
 ·exact Heap.get?_push_of_some _ (Heap.get?_push_at rfl rfl)
 ·obtain⟨rfl,hQ⟩:=hr
  wp_walk
  exact hQ
theorem call_excI(X:K.In h)(F:ExcBaseFacts B newId initId bmB)(T:OwnTail h bmB bm){l7:List Value}{fI:Addr}{Q:Value→Shared→Prop}
  (hC:h.get? C=some (excClassObj nm q C N bs bm hdct sn sub ab col dd k0 k1 k2 k3 k5 newId)) (hi:findIn K (.ref C) "__init__" = some (some (.ref fI))) (hf:typeIn K (.ref fI)=some (.type "function"))
  (hq:∀h' e,Heap.MadeExcOf h h' e (.ref C) l7→h.objs.size≤e→wpAny (model prog w) (A.under (.builtin "type.__call__" ⟨.ref C::l7,[]⟩)) (call (.ref fI) (.ref e::l7)) (fun r s'=>r=.none∧Q (.ref e) s') E ⟨h',g,d,t,os⟩) (hrest:l7.length≤sizeLine) :
  wpAny (model prog w) A (call (.ref C) l7) Q E ⟨h,g,d,t,os⟩:=by
 have f1:=tc_lookup
 have f2:=tc_bind (.ref C)
 have hT:(⟨h,g,d,t,os⟩:Shared).TypeIs (.ref C) "type" := ⟨_,hC,rfl⟩
 refine wpAny_call (codeAny_of_tree ?_)
 show wpAny _ _ (callAny (.ref C) _) _ _ _
 repeat (any_goals (first | assumption | with_reducible refine wpAny_loadPart_at hC ?_ | wp_step))
 refine⟨rfl,?_⟩
 exact codeAny_call_builtin_at (Code.quiet_builtin _ (by decide +kernel)) entry_typeCall (wpAny_check_type_call_sub hC (a4G X F T hC hi hf (fun h' e hm he=>hq h' e hm he) hrest))
theorem raise_madeI{M:Model}{env:Env}{s:Shared}{x:Sem Value}{Q:Flow→Shared→Prop}(hbase:bm.contains (.type "BaseException")=true)(hh:A.handled=none)
  (hx:wpAny M A x (fun v s₁=>∃e oe,v=.ref e∧s₁.heap.get? C=some (excClassObj nm q C N bs bm hdct sn sub ab col dd k0 k1 k2 k3 k5 newId)∧s₁.heap.get? e=some oe∧oe.cls=.ref C∧(∃tu,oe.data=.fields #[.ref tu,.none,.none,.none,.bool false,.none])∧E (.ref e) s₁) E s) :
  wpAny M A (raiseStmt env (some x) none) Q E s:=by
 have hcB:(Value.ref C::bm).contains (.type "BaseException")=true:=by rw[List.contains_cons,hbase,Bool.or_true]
 unfold raiseStmt
 refine wpAny_bind (wpAny_mono hx (fun v s₁ h₁=>?_) fun _ _ x=>x)
 obtain⟨e,oe,rfl,hC,he,hc,⟨tu,hdt⟩,hE⟩:=h₁
 obtain⟨oc,od,odt,osl⟩:=oe
 dsimp only at hc hdt
 subst hc hdt
 obtain⟨hp,g,d,tk,os⟩:=s₁
 repeat (first | with_reducible refine wpAny_loadPart_at he ?_ | with_reducible refine wpAny_loadPart_at hC ?_ | (with_reducible refine wpAny_isSubtype_exc hC ?_;rw[hcB]) | wp_step)
 exact wpAny_raiseNew_none hh hE
end
end PySem.W
namespace L2
open PySem PySem.Spec PyProof.Rows
def U2(a C:Addr)(od:Option Addr):HO:=.ext fun h=>∃o tu,h.get? a=some o∧o.cls=.ref C∧o.dict=od∧o.data=.fields #[.ref tu,.none,.none,.none,.bool false,.none]
section
variable {X:Cx}{pins:List (Addr×Obj)}{σ:St}{H:Hp}{s:Shared}{a C:Addr}{f:Str}
theorem a7C{P:Program}{w:World}{H:Hp}{h:Heap}{o:Obj}{tu:Addr}{od:Option Addr}(e:h.get? a=some o)(hc:o.cls=.ref C)(hd:o.dict=od)(hf:o.data=.fields #[.ref tu,.none,.none,.none,.bool false,.none]):ObjOk P w H h a (U2 a C od) :=
 ⟨⟨o,tu,e,hc,hd,hf⟩,⟨o,e⟩,fun h1 h2 ⟨o1,t1,z1,z2,z3,z4⟩ k=>⟨o1,t1,k o1 z1,z2,z3,z4⟩⟩
theorem b25{y:V}{u:Value}{A:Around}{E:Value→Shared→Prop}{Q:Unit→Shared→Prop}(I:Inv X pins σ H s)(e:H a=some (U2 a C none))(T:W.ExcS X.K C f)(ry:RelV y u)
  (h:∀dx s',H dx=none→dx≠a→Inv X pins σ (upd (upd H a (U2 a C (some dx))) dx (.xd [(f,y)])) s'→Q () s'):wpAny (model X.prog X.w) A (setAttr (.ref a) f u) Q E s:=by
 obtain⟨⟨o,tu,hx,hc,hd,hf⟩,_⟩:=(show ObjOk X.prog X.w H s.heap a (U2 a C none)from I.hok a _ e)
 refine W.exc_setattr I.kIn T hx hc hd hf fun h' tk' g1 g2 g3=>?_
 have ns:s.heap.objs.size≠a:=fun z=>absurd (Heap.lt_size hx) (by rw[z];exact Nat.lt_irrefl _)
 refine h s.heap.objs.size _ (I.hok.fresh (Nat.le_refl _)) ns ?_
 have hfr:({ o with dict:=some s.heap.objs.size }:Obj).isFreed=false:=Obj.isFreed_of_fields hf
 have u1:=Heap.get?_update_self (h:=s.heap) (fun o=>{ o with dict:=some s.heap.objs.size }) hx hfr
 have far:∀b,b≠a→(s.heap.update a fun o=>{ o with dict:=some s.heap.objs.size }).get? b=s.heap.get? b:=fun b n=>Heap.get?_update_other _ _ (Ne.symm n)
 have I1:Inv X pins σ (upd H a (U2 a C (some s.heap.objs.size))) { s with heap:=s.heap.update a fun o=>{ o with dict:=some s.heap.objs.size } } :=
  I.write (x:=a) (e:=a) (t':=s.toks) (by rw[e];exact True.intro) (.inl rfl) (fun b q hb z=>(far b hb).trans z) ⟨_,u1⟩ (a7C u1 hc rfl hf)
 refine I1.laid (a:=s.heap.objs.size) (t':=tk') (fun b q z=>?_) ?_ ⟨_,g2,fun g=>?_⟩
 ·by_cases hb:b=a
  ·subst hb;rw[u1]at z;cases z;exact g1
  ·rw[far b hb]at z;exact g3 b q hb z
 ·exact Nat.le_of_eq (by simp[Heap.update])
 ·show RelO ([(f,y)].lookup g) (if g=f then some u else none)
  by_cases z:g=f
  ·subst z
   rw[if_pos rfl,List.lookup_cons,beq_self_eq_true]
   exact ry
  ·rw[if_neg z,List.lookup_cons,beq_false_of_ne z]
   exact True.intro
def sXF(K:W.Frag)(ta tv:TE)(f:Str):TS:=fun D σ H=>tv σ H fun y H1=>ta σ H1 fun x H2=>∃a C,x=.ref a∧H2 a=some (U2 a C none)∧W.ExcS K C f∧∀dx,H2 dx=none→dx≠a→D.nx σ (upd (upd H2 a (U2 a C (some dx))) dx (.xd [(f,y)]))
theorem b56{o value:Expr}{pos pos':Pos}{ta tv:TE}(ha:PE X o ta)(hv:PE X value tv)(hs:swapsWith value (some (.Attribute o f pos')) pos.line X.env=pure false):PS X (.Assign [.Attribute o f pos'] value pos) (sXF X.K ta tv f):=by
 intro pins s σ H D I h
 refine plainObj_wpAny_Assign_Attribute (m4 (hv pins s σ H _ I h) fun u s1 ⟨y,H1,I1,ry,q⟩=>m4 (ha pins s1 σ H1 _ I1 q) fun ov s2 ⟨x,H2,I2,rx,a,C,ex,ea,T,q2⟩=>?_) hs
 subst ex
 obtain rfl:ov=Value.ref a:=rx
 exact b25 I2 ea T ry fun dx s3 n1 n2 I3=>⟨σ,_,I3,q2 dx n1 n2⟩
def a1u(H:Hp)(a:Addr):Hp:=fun b=>if b=a then none else H b
theorem Inv.untrack{φ:Heap→Prop}(I:Inv X pins σ H s)(e:H a=some (.ext φ)):Inv X pins σ (a1u H a) s:=by
 have ne:∀{b:Addr} {o:HO},H b=some o→(∀ψ,o≠.ext ψ)→a1u H a b=some o:=fun{b o} q n=>by
  unfold a1u
  rw[if_neg (fun z=>by rw[z,e]at q;cases q;exact n φ rfl)]
  exact q
 have none':∀{b:Addr},H b=none→a1u H a b=none:=fun{b} q=>by unfold a1u;split<;>first | rfl | exact q
 refine⟨I.ok,I.os,I.bare,⟨I.base.keep,I.base.slot,fun b o e1 n hx=>none' (I.base.free b o e1 n hx),I.base.there,fun b xs q=>ne (I.base.tups b xs q) (fun _ z=>nomatch z),fun b o u q=>ne (I.base.frzs b o u q) (fun _ z=>nomatch z),fun b ps q=>?_⟩,I.loc,I.cell,none' I.free,fun y c q=>none' (I.freeC y c q),fun p hp=>?_,fun b u q=>?_,I.len⟩
 ·obtain⟨more,q1⟩:=I.base.tbls b ps q
  exact⟨more,ne q1 (fun _ z=>nomatch z)⟩
 ·obtain⟨h1,h2,h3,h4,h5⟩:=I.pin p hp
  exact⟨h1,none' h2,h3,h4,h5⟩
 ·have q1:H b=some u:=by
   unfold a1u at q
   split at q
   ·cases q
   ·exact q
  exact(I.hok b u q1).stay (fun _ _ _ z=>z) (fun c z=>ne z (fun _ z=>nomatch z)) (fun c xs z=>ne z (fun _ z=>nomatch z)) fun c ob u z=>ne z (fun _ z=>nomatch z)
end
def a3V(K:W.Frag)(C:Addr):Bool:=match K.lookup C with
 | some ⟨.type "type",_,.cls cd,sl⟩=>(match cd.mro,sl.toList with
  | .ref C'::bm,[_,_,_,_,some (.builtin n),_]=>C' == C && n == "ValueError.__new__" && !cd.hasDel && W.tailIn K vErr bm
  | _,_=>false)
 | _=>false
theorem b05{K:W.Frag}{h₀:Heap}{C:Addr}(KX:K.In h₀)(q:a3V K C=true) :
  ∃bm N nm q bs hdct sn sub ab col dd k0 k1 k2 k3 k5,h₀.get? C=some (excClassObj nm q C N bs bm hdct sn sub ab col dd k0 k1 k2 k3 k5 "ValueError.__new__")∧OwnTail h₀ vErr bm:=by
 unfold a3V at q
 split at q
 ·rename_i dd cd sl ho
  split at q
  ·rename_i C' bm k0 k1 k2 k3 n k5 hm hs
   simp only[Bool.and_eq_true,beq_iff_eq,Bool.not_eq_true']at q
   obtain⟨⟨⟨rfl,rfl⟩,hdel⟩,ht⟩:=q
   obtain⟨nm,bs,mro,ns,qn,hd,sn,sub,ab,col,a1u⟩:=cd
   dsimp only at hm hdel
   subst hm hdel
   have hsl:sl = #[k0,k1,k2,k3,some (.builtin "ValueError.__new__"),k5]:=by
    obtain⟨l⟩:=sl
    simp only at hs
    rw[hs]
   subst hsl
   exact⟨bm,ns,nm,qn,bs,hd,sn,sub,ab,col,dd,k0,k1,k2,k3,k5,KX _ _ ho,W.tail_of_in KX ht⟩
  ·cases q
 ·cases q
def a4H(C:Addr)(f:Str):Sp:=fun vs H Q _=>∃a v,vs=[.ref a,v]∧H a=some (U2 a C none)∧∀dx,H dx=none→dx≠a→Q .non (upd (upd H a (U2 a C (some dx))) dx (.xd [(f,v)]))
structure MkX(K:W.Frag)(C fI:Addr):Prop where
 obj:a3V K C=true
 init:W.findIn K (.ref C) "__init__" = some (some (.ref fI))
 fn:W.typeIn K (.ref fI)=some (.type "function")
section
variable {X:Cx}{E:XK}{k:Nat}
def a4I(C:Addr)(f:Str)(E:XK)(ta:TA):TS:=fun _ σ H=>ta σ H fun vs H1=>∃v,vs=[v]∧∀dx,H1 dx=none→E (.ref C) (some (2*dx+1)) (upd H1 dx (.xd [(f,v)]))
theorem a9F{x f:Str}{C fI:Addr}{fd:FuncData}{ps:List Str}{e₀:Expr}{l7:List Expr}{np cpos pos:Pos}{ta:TA}(acc:XAcc X E)(M:MkX X.K C fI)(F:FnOk X.prog X.w X.K X.mg X.base (y8 X.prog X.w) k fI fd ps (a4H C f))(hr:Room (k+1) X.A)(hb:Binds X.K fd ps [])
  (hg:Gl X x) (hm:X.mg x=some (.ref C)) (ha:PA X (e₀::l7) ta)
  (hc:X.calm=true:=by rfl) (hex:X.ex=[]:=by rfl)
  (he:starEach (e₀::l7) X.env=(false,eval e₀ X.env)::starEach l7 X.env:=by rfl) (hplain:(backTo cpos (starEach l7 X.env)).any (·.1)=false:=by rfl) (hd:(x == ("__debug__" : Str))=false:=by decide) :
  PS X (.Raise (some (.Call (.Name x np) (e₀::l7) [] cpos)) none pos) (a4I C f E ta):=by
 intro pins s σ H D I h
 obtain⟨tl,N,nm,qn,bs,hdct,sn,sub,ab,col,dd,k0,k1,k2,k3,k5,hC,T⟩:=b05 I.mod.kin M.obj
 have hp:=ha cpos pins s σ H _ I h
 rw[he]at hp
 have pl:(backTo cpos (starEach (e₀::l7) X.env)).any (·.1)=false:=by rw[he];show(false || (backTo cpos (starEach l7 X.env)).any (·.1))=false;rw[hplain];rfl
 rw[arm_exec_Raise]
 simp only[evalOpt,Option.map]
 refine wpAny_bind (wpAny_standAt (W.raise_madeI (C:=C) (nm:=nm) (q:=qn) (N:=N) (bs:=bs) (bm:=tl) (hdct:=hdct) (sn:=sn) (sub:=sub) (ab:=ab) (col:=col) (dd:=dd) (k0:=k0) (k1:=k1) (k2:=k2) (k3:=k3) (k5:=k5) (newId := "ValueError.__new__") (T.hasType PySem.F.excBase_ValueError.hasBase) (I.ok.hd hc) ?_))
 refine wpAny_bind (wpAny_mono (wpAny_Call_ofName (wpAny_mono (X0 I hg hm (Q:=fun f s1=>f=.ref C∧s1=s) ⟨rfl,rfl⟩ hd) (fun f s1 h1=>?_) fun _ _ x=>x)) (fun v s3 h3=>wpAny_bind (wpAny_standAt (wpAny_pure h3))) fun _ _ x=>x)
 obtain⟨rfl,rfl⟩:=h1
 unfold callWith
 refine wpAny_bind (wpAny_holding (wpAny_mono (Q:=fun us s2=>∃v H2,us.kw=[]∧Inv X pins σ H2 s2∧Vals [v] us.pos∧∀dx,H2 dx=none→E (.ref C) (some (2*dx+1)) (upd H2 dx (.xd [(f,v)]))) ?_ (fun us s2 h2=>wpAny_bind (wpAny_standAt ?_)) fun _ _ x=>x))
 ·rw[he]
  exact Calls.evalArgs_plain (m4 hp fun us s2 ⟨vs,H2,I2,rv,v,ev,hE⟩=>⟨v,H2,rfl,I2,by rw[← ev];exact rv,hE⟩)
 obtain⟨upos,ukw⟩:=us
 obtain⟨v,H2,ekw,I2,rv,hE⟩:=h2
 obtain rfl:ukw=[]:=ekw
 have C2:=I2.bk _ _ hC
 have T2:=T.keeps I2.bk
 have hlen:upos.length≤sizeLine:=by rw[← rv.length,sizeLine_eq];show 1≤_;omega
 have K2:=I2.kIn
 obtain⟨hp2,g2,d2,tk2,os2⟩:=s2
 simp only[pl]
 refine wpAny_bind (wpAny_keeperOf_exc C2 ?_)
 refine wpAny_bind (W.call_excI (K:=X.K) K2 PySem.F.excBase_ValueError T2 C2 M.init M.fn (fun h' e m me=>?_) hlen)
 obtain⟨tu,ht,_,_⟩:=m.there
 have fe:H2 e=none:=I2.hok.fresh me
 have I3:Inv X pins σ (upd H2 e (U2 e C none)) ⟨h',g2,d2,tk2,os2⟩:=I2.laid (a:=e) (t':=tk2) m.keeps me (a7C ht rfl rfl rfl)
 have sp3:a4H C f [.ref e,v] (upd H2 e (U2 e C none)) (fun r H'=>r=.non∧∃dx,H2 dx=none∧dx≠e∧H'=upd (upd (upd H2 e (U2 e C none)) e (U2 e C (some dx))) dx (.xd [(f,v)])) E :=
  ⟨e,v,rfl,i8,fun dx n1 n2=>⟨rfl,dx,by rw[g5 n2]at n1;exact n1,n2,rfl⟩⟩
 have r3:Vals [V.ref e,v] (Value.ref e::upos):=.cons rfl rv
 have hl:(Value.ref e::upos++[]).length=ps.length:=by
  have z:=r3.length
  rw[F.len _ _ _ _ sp3]at z
  rw[List.append_nil]
  exact z.symm
 have hb3:=hb ⟨h',g2,d2,tk2,os2⟩ (Value.ref e::upos) I3.kIn hl
 rw[List.append_nil]at hb3
 refine wpAny_call (codeAny_mono (F.run _ X.stack _ _ ⟨Value.ref e::upos,[]⟩ (Value.ref e::upos) _ _ E (hr.make C upos []) (I3.env0.make C upos []) hb3 r3 sp3) fun r s' hq'=>?_)
 cases r with
 | error e'=>exact acc.passes pins σ _ _ e' s' I3 hq'
 | ok fl =>
  cases fl with
  | next=>exact False.elim hq'
  | brk=>exact False.elim hq'
  | cont=>exact False.elim hq'
  | ret u =>
   obtain⟨v0,H',I4,rv0,ev,dx,n1,n2,eH⟩:=I3.after hq'
   subst ev
   refine⟨rv0,wpAny_bind (wpAny_holding (wpAny_point (wpAny_pure ?_)))⟩
   have He:H' e=some (U2 e C (some dx)):=by rw[eH,g5 (Ne.symm n2),i8]
   have I5:=I4.untrack He
   have eD:a1u H' e=upd H2 dx (.xd [(f,v)]):=by
    funext b
    unfold a1u
    by_cases z:b=e
    ·rw[if_pos z,z,g5 (Ne.symm n2)];exact fe.symm
    ·rw[if_neg z,eH]
     by_cases z2:b=dx
     ·rw[z2,i8,i8]
     ·rw[g5 z2,g5 z2,g5 z,g5 z]
   rw[eD]at I5
   obtain⟨⟨oe,tu',ge,gc,gd,gf⟩,_⟩:=(show ObjOk X.prog X.w H' s'.heap e (U2 e C (some dx))from I4.hok e _ He)
   refine⟨e,oe,rfl,I4.bk _ _ hC,ge,gc,⟨tu',gf⟩,?_⟩
   have odd:¬(2*dx+1)%2=0:=by
    show ¬(2*dx+1:Nat)%2=0
    rw[Nat.mul_add_mod];decide
   refine acc pins σ _ s' e (.ref C) (some (2*dx+1)) (W.hideAll s'.heap (e::K9 X.stack)) .new I5 ⟨by rw[g5 (Ne.symm n2)];exact fe,fun b o q=>W.of_hideAll _ q,W.hideAll_none _ List.mem_cons_self,W.funFrames_hide I5.stack fun env he b hb=>List.mem_cons_of_mem _ (List.mem_filterMap.mpr ⟨env,he,hb⟩),fun b o q i n=>?_,⟨oe,_,ge,gc,gf,rfl,?_,?_⟩⟩ (hE dx n1)
   ·refine W.hideAll_get _ q fun z=>?_
    rcases List.mem_cons.mp z with z | z
    ·subst z
     have gone:∀o',(⟨hp2,g2,d2,tk2,os2⟩:Shared).heap.get? b=some o'→False:=fun o' w=>absurd (Heap.lt_size w) (Nat.not_lt.mpr me)
     rcases i with i | ⟨hx,o',i⟩ | ⟨p,hp',w⟩
     ·exact i (by rw[g5 (Ne.symm n2)];exact fe)
     ·obtain⟨o2,w⟩:=I2.base.there b o' i hx
      exact gone _ w
     ·exact gone _ (by rw[← w];exact(I2.pin p hp').1)
    ·exact n z
   ·show some Value.none=some (if(2*dx+1)%2=0 then _ else Value.none)
    rw[if_neg odd]
   ·show oe.dict=(if(2*dx+1)%2=0 then none else some ((2*dx+1)/2))
    rw[if_neg odd,gd]
    congr 1
    show dx=(2*dx+1:Nat)/2
    rw[Nat.mul_add_div (by decide)]
    simp
end
end L2
namespace PySem.W
open PySem PySem.Spec PySem.Calls PyProof.Rows
section
variable {prog:Program}{w:World}{A:Around}{E:Value→Shared→Prop}{h:Heap}{g:Array GenState}{d:Drawn}{t:Nat}{os:OsState}{K:Frag}{x C:Addr}{o od:Obj}{f:Str}{v:Value}
theorem a6i{tk:Tok}{Q:Fin→Shared→Prop}(X:K.In h)(I:InstAt h x o C (some od))(hf:findObj K C (some od) f=some (.value v))(q:Q (.done (.ret v)) ⟨h,g,d,t,os⟩) :
  wpAny (model prog w) A (Builtin.«object.__getattribute__» ⟨[.ref x,.str f tk],[]⟩) Q E ⟨h,g,d,t,os⟩:=by
 have L0:=I.type (M:=model prog w)
 have L1:=looks_find (M:=model prog w) X I hf
 refine wpAny_bind (wpAny_pure (wpAny_bind (wpAny_pure (wpAny_bind (L0.at (wpAny_bind (L1.at ?_)))))))
 exact wpAny_pure q
theorem exc_at_by{tk:Tok}{b b2:Bool}{Q:Value→Shared→Prop}(X:K.In h)(T:ExcT K C)(I:InstAt h x o C (some od))(hf:findObj K C (some od) f=some (.value v))(hh:handedIn v=true)(hq:Q v ⟨h,g,d,t,os⟩):wpAny (model prog w) A (getAttrBy (.ref x) (.str f tk) b b2) Q E ⟨h,g,d,t,os⟩:=by
 have L0:=I.type (M:=model prog w)
 have L1:=looks_findIn (M:=model prog w) X T.ga
 have L2:=looks_findIn (M:=model prog w) X T.gt
 have f3:=F.attr_ValueError.ga.bind (.ref x)
 have hx2:(Value.builtin "BaseException.__getattribute__" == Value.builtin "object.__getattribute__")=false:=by decide +kernel
 have hx1:(onTheHeap (Value.ref C) && Value.builtin "BaseException.__getattribute__" == Value.builtin "object.__getattribute__")=false:=by rw[hx2];rfl
 have hd:=handedOut_of hh
 have hx3:¬(b2 && onTheHeap (Value.builtin "BaseException.__getattribute__"))=true:=by cases b2<;>exact Bool.false_ne_true
 repeat (any_goals (first | assumption | (with_reducible refine L0.at ?_) | (with_reducible refine wpAny_bind (L0.at ?_)) | (with_reducible refine L1.at ?_) | (with_reducible refine wpAny_bind (L1.at ?_)) | (with_reducible refine L2.at ?_) | (with_reducible refine wpAny_bind (L2.at ?_)) | wp_step))
 refine codeAny_call_builtin F.attr_ValueError.ga.plain F.entry_bexc_ga (a2b X T I.at_ I.cls (a6i X I hf ?_))
 show wpAny (model prog w) A (handedOut v) Q E _
 rw[hd]
 exact wpAny_pure hq
end
end PySem.W
namespace L2
open PySem PySem.Spec PyProof.Rows
def b42(K:W.Frag)(ta:TE)(f:Str):TE:=fun σ H Q=>ta σ H fun x H1=>∃a C dx y,x=.ref a∧H1 a=some (Q1 a (.ref C) (some (2*dx+1)))∧H1 dx=some (.xd [(f,y)])∧W.ExcT K C∧W.hasDictIn K C=true∧W.findIn K (.ref C) f=some none∧Q y H1
section
variable {X:Cx}{e:Expr}{f:Str}{pos:Pos}{ta:TE}
theorem b06(dx:Nat):a2a (some (2*dx+1))=some dx:=by
 show(if(2*dx+1)%2=0 then none else some ((2*dx+1)/2))=some dx
 rw[if_neg (by rw[Nat.mul_add_mod];decide),Nat.mul_add_div (by decide)]
 simp
theorem a3W(he:PE X e ta)(hb:attributeBase e f X.env (eval e X.env)=eval e X.env):PE X (.Attribute e f pos) (b42 X.K ta f):=by
 intro pins s σ H Q I h
 refine b2K hb (m4 (he pins s σ H _ I h) fun u s1 ⟨x,H1,I1,rx,a,C,dx,y,ex,ea,ed,T,hh,hn,q⟩=>?_)
 subst ex
 obtain rfl:u=Value.ref a:=rx
 obtain⟨⟨o,vs,hx,hc,hdt,_,hdi⟩,_⟩:=(show ObjOk X.prog X.w H1 s1.heap a (Q1 a (.ref C) (some (2*dx+1)))from I1.hok a _ ea)
 obtain⟨mA,hns,r⟩:=(show ObjOk X.prog X.w H1 s1.heap dx (.xd [(f,y)])from I1.hok dx _ ed)
 rw[b06]at hdi
 obtain⟨u,hu,ru⟩:=RelO.some_of (v:=y) (o:=mA f) (by have:=r f;rw[List.lookup_cons,beq_self_eq_true]at this;exact this)
 obtain⟨od,god,hl⟩:=a5b hns
 have J:W.InstAt s1.heap a o C (some od):=⟨hx,hc,by unfold W.notCls;rw[hdt],by rw[hdi];exact god⟩
 have K1:=I1.kIn
 obtain⟨hp,g,d,t,os⟩:=s1
 unfold getAttr
 refine wpAny_bind (wpAny_mkText ?_)
 refine W.exc_at_by K1 T J (W.findObj_own hh hn rfl (by rw[hl,hu])) (a9i ru) ?_
 exact⟨y,H1,I1.tok _,ru,q⟩
end
open PySem.W
def a9G(K:PySem.W.Frag)(te:TE)(js:List Nat)(σ:St)(Q:VK)(vs:List V)(H1:Hp):Prop:=∃(a:Addr) (xs:List V),vs=[.ref a]∧SqL K H1 a xs∧xs.length<64 ∧
 ∀H2:Hp,(∀a o,H1 a=some o→H2 a=some o)→∃W:Nat→List V→Hp→Prop,W 0 [] H2∧(∀i x ys H',xs[i]? = some x→W i ys H'→te (a5O js σ x) H' fun y H''=>W (i+1) (ys++[y]) H'') ∧
  ∀ys H',ys.length=xs.length→W xs.length ys H'→∃ks,VPs K H' ys ks∧(∀i j,i<ys.length→j<ys.length→i≠j→(ks.getD i []).length=(ks.getD j []).length∧ks.getD i []≠ks.getD j []) ∧
   ∀l (p:List Nat),H' l=none→p.Perm (List.range xs.length)→p.Pairwise (fun i j=>HT.lexLt (ks.getD j []) (ks.getD i [])=false)→Q (.ref l) (upd H' l (.lst (p.map fun i=>xs.getD i .non)))
def a9H(K:W.Frag)(ta:TA)(te:TE)(js:List Nat):TE:=fun σ H Q=>ta σ H fun xs H1=>a9G K te js σ Q xs H1
section
variable {X:Cx}
theorem b07{k:Nat}{e body:Expr}{params:Arguments}{scope:Scope}{p pos lpos kpos:Pos}{ta:TA}{te:TE}{c P:Addr}{q kn:Str}{Nc:List Str}{js:List Nat}(hr:Room k X.A)(hcalm:X.calm=true)(hg:Gl X "sorted")(hm:X.mg "sorted" = none)(har:PA X [e] ta)
  (hd:defaultsOf params X.env=([],[])) (hcode:X.env.code=.ref c) (C:CodeHd X.base c P) (hbl:X.base.BuiltinsAt X.mg P) (hq:q=X.env.qual ++ "<lambda>") (hT0:TbAt P q X.H₀) (S:CompSc X.env.scope scope X.N Nc 1 js) (hk0:Nc[0]? = some kn) (hloc:scope.names.lookup kn=some .local)
  (hbd:∀cl pm cv ctv v,bindArgs (kla_fn "<lambda>" q params body scope cl pm cv ctv) ⟨[v],[]⟩=pure [(kn,v)]) (hco:scope.isCoroutine=false) (hgen:scope.isGenerator=false)
  (hbody:∀f c' s' H',PE (a8t X X.A.in1.in1 scope q Nc f c' s' H') body te)
  (he:backTo pos (starEach [e] X.env)=(false,eval e X.env)::backTo pos (starEach [] X.env):=by rfl) (hplain:(backTo pos (starEach [e] X.env)).any (·.1)=false:=by rfl) :
  PE X (.Call (.Name "sorted" p) [e] [⟨some "key",.Lambda params body scope lpos,kpos⟩] pos) (a9H X.K ta te js):=by
 intro pins s σ H Q I h
 have hlam:PE X (.Lambda params body scope lpos) (fun σ H Q=>∀f c' oc u pm ctv H',(∀a o,H a=some o→H' a=some o)→H' f=some (.frz (a02 X params body scope q c' pm ctv) (.own f))→H' c'=some (.frz oc u)→a2E oc q→Q (.ref f) H'):=by
  intro pins s σ H Q I h
  obtain⟨qs,tq,hT,hqs⟩:=hT0.now I.base
  exact b01 I hd hcode C hbl hT hqs hq S.free fun f c' oc u pm ctv H' s' I' ex h1 h2 h3=>⟨.ref f,H',I',rfl,h f c' oc u pm ctv H' ex h1 h2 h3⟩
 have hk:=b2M (nm:=some "key") (kpos:=kpos) hlam (b4K (X:=X))
 refine wpAny_Call_Name_kw (a12 I hg hm a65 ?_)
 refine callWith_kw (m4 (har pos pins s σ H (a9G X.K te js σ Q) I h) fun us s1 ⟨vs,H1,I1,r1,q1⟩=>?_) he hplain
 obtain⟨a,xs,rfl,hsq,h64,q2⟩:=q1
 refine m4 (hk pos pins s1 σ H1 (fun zs H2=>∃f c' oc u pm ctv,zs=[.ref f]∧(∀a o,H1 a=some o→H2 a=some o)∧H2 f=some (.frz (a02 X params body scope q c' pm ctv) (.own f))∧H2 c'=some (.frz oc u)∧a2E oc q) I1 fun f c' oc u pm ctv H' ex h1 h2 h3=>⟨f,c',oc,u,pm,ctv,rfl,ex,h1,h2,h3⟩) fun ws s2 ⟨zs,H2,I2,r2,q3⟩=>?_
 obtain⟨f,c',oc,u,pm,ctv,rfl,ex,hf,hc',hcq⟩:=q3
 obtain⟨W,w0,step,fin⟩:=q2 H2 ex
 obtain⟨u1,rfl,ru⟩:=r1.one
 obtain⟨u2,rfl,ru2⟩:=r2.one
 cases (show u1=Value.ref a from ru)
 cases (show u2=Value.ref f from ru2)
 obtain⟨its,rv,pl,hz⟩:=I2.list (hsq.ext ex)
 obtain⟨lo,ho,hcl,ln,hdt⟩:=pl.isList
 have hil:=rv.length
 have hh:X.A.handled=none:=I.ok.hd hcalm
 refine call_function_entry_kw kind_sorted plain_sorted entry_sorted (ksk_s1 _ _) ?_
 unfold Builtin.«sorted»
 refine wpAny_bind (m:=checkCount "sorted" 1 1 _) (wpAny_pure ?_)
 refine wpAny_bind (wpAny_collect_seq (A:=X.A.in1) a (.inl rfl) ho hcl hdt (fun h' kp=>?_) (by simp only[List.size_toArray];rw[sizeLine_eq];omega))
 refine wpAny_bind (wpAny_newList ?_ (by show its.length≤_;rw[sizeLine_eq];omega))
 have I3:Inv X pins σ H2 { s2 with heap:=h' }:=I2.kept kp
 have hD:(h'.push (seqObj "list" its.toArray 0)).get? h'.objs.size=some (seqObj "list" its.toArray 0):=Heap.get?_push_size _ rfl
 have fD:FpOk X pins H2 h'.objs.size:=I3.fpOk (Nat.le_refl _) (I3.hok.fresh (Nat.le_refl _))
 have I4:Inv X pins σ H2 { s2 with heap:=h'.push (seqObj "list" its.toArray 0) }:=I3.kept (t':=s2.toks) fun b o e=>Heap.get?_push_of_some (seqObj "list" its.toArray 0) e
 show wpAny _ _ _ _ _ { s2 with heap:=h'.push (seqObj "list" its.toArray 0) }
 refine wpAny_bind (wpAny_holding (wpAny_call_entry_kw slot_list_sort ⟨_,hD,rfl⟩ entry_list_sort ?body (ksk_l1 _ _)))
 case body =>
  show wpAny (model X.prog X.w) X.A.in1.in1 (Builtin.«list.sort» ⟨[.ref h'.objs.size],[(Str.ofString "key",.ref f)]⟩) _ _ _
  rw[ksk_t1]
  have hfr:X.A.in1.in1.frames=some X.stack:=I.ok.frames
  have hdp:X.A.in1.in1.depth<recursionLimit:=by have:=hr.dp;show X.A.depth<_;omega
  refine a9B (W:=W) (xs:=xs) I4 hD fD rv (by omega) w0 (fun i x v ys H' s' hx rx wi I' fz=>?_) (fun ys H' hl wn hnD=>?_)
  ·exact b02 I' hfr hh hdp S hk0 hloc (fz _ _ _ hf) (fz _ _ _ hc') hcq (hbd _ _ _ _ _) hco hgen (hbody f c' s' H') rx (step i x ys H' hx wi)
  ·obtain⟨ks,vp,hd2,q⟩:=fin ys H' hl wn
   exact⟨ks,vp,hd2,fun p s' hp hs J=>⟨_,rfl,wpAny_pure ⟨_,rfl,.ref h'.objs.size,_,J,rfl,q _ p hnD hp hs⟩⟩⟩
end
abbrev DK:=Sum (List v9) (List (List v9))
def W8(ks:DK)(xs:List V):HO:=match ks with
 | .inl ks=>.dK (ks.zip xs)
 | .inr ks=>.dT (ks.zip xs)
def dkN:DK→Nat
 | .inl ks=>ks.length
 | .inr ks=>ks.length
theorem a2F{ks:DK}{xs ys:List V}:W8 ks xs≠.lst ys:=by cases ks<;>exact fun z=>nomatch z
inductive D where
 | non | bl (b:Bool) | int (i:Int) | str (x:Str) | ty (n:String) | cls (n:Str) | tup (ds:List D) | lst (ds:List D) | scr (ns:List Int) | exc (c:Str) | obj (c:Str) (ns:List Str) (ds:List D) | dic (ks:DK) (ds:List D) | exv (c f:Str) (d:D)
mutual
def Rp(K:W.Frag)(cl:Str→Addr)(F:Hp):D→V→Prop
 | .non,v=>v=.non
 | .bl b,v=>v=.bl b
 | .int i,v=>v=.int i
 | .str x,v=>v=.str x
 | .ty n,v=>v=.ty n
 | .cls n,v=>v=.ref (cl n)
 | .tup ds,v=>∃a xs,v=.ref a∧F a=some (.tup xs)∧Rps K cl F ds xs
 | .lst ds,v=>∃a xs,v=.ref a∧F a=some (.lst xs)∧Rps K cl F ds xs
 | .scr ns,v=>∃a,v=.ref a∧Scr K F a (ns.map V.int)
 | .exc c,v=>∃a cx,v=.ref a∧F a=some (Q1 a (.ref (cl c)) cx)
 | .obj c ns ds,v=>∃a dx xs,v=.ref a∧F a=some (.ins (cl c) dx (ns.zip xs))∧ns.length=xs.length∧Rps K cl F ds xs
 | .dic ks ds,v=>∃a xs,v=.ref a∧F a=some (W8 ks xs)∧dkN ks=xs.length∧Rps K cl F ds xs
 | .exv c f d,v=>∃a dx y,v=.ref a∧F a=some (Q1 a (.ref (cl c)) (some (2*dx+1)))∧F dx=some (.xd [(f,y)])∧Rp K cl F d y
def Rps(K:W.Frag)(cl:Str→Addr)(F:Hp):List D→List V→Prop
 | [],vs=>vs=[]
 | d::ds,vs=>∃v r,vs=v::r∧Rp K cl F d v∧Rps K cl F ds r
end
section
variable {K:W.Frag}{cl:Str→Addr}{F F' H H':Hp}
mutual
theorem Rp.mono(g:Same F F'):∀(d:D) (v:V),Rp K cl F d v→Rp K cl F' d v
 | .non,_,h=>by simpa only[Rp]using h
 | .bl _,_,h=>by simpa only[Rp]using h
 | .int _,_,h=>by simpa only[Rp]using h
 | .str _,_,h=>by simpa only[Rp]using h
 | .ty _,_,h=>by simpa only[Rp]using h
 | .cls _,_,h=>by simpa only[Rp]using h
 | .tup ds,v,h=>by
  simp only[Rp]at h ⊢
  obtain⟨a,xs,e,h1,h2⟩:=h
  exact⟨a,xs,e,g _ _ h1,Rps.mono g ds xs h2⟩
 | .lst ds,v,h=>by
  simp only[Rp]at h ⊢
  obtain⟨a,xs,e,h1,h2⟩:=h
  exact⟨a,xs,e,g _ _ h1,Rps.mono g ds xs h2⟩
 | .scr ns,v,h=>by
  simp only[Rp]at h ⊢
  obtain⟨a,e,h1⟩:=h
  exact⟨a,e,h1.same g⟩
 | .exc c,v,h=>by
  simp only[Rp]at h ⊢
  obtain⟨a,cx,e,h1⟩:=h
  exact⟨a,cx,e,g _ _ h1⟩
 | .obj c ns ds,v,h=>by
  simp only[Rp]at h ⊢
  obtain⟨a,dx,xs,e,h1,hl,h2⟩:=h
  exact⟨a,dx,xs,e,g _ _ h1,hl,Rps.mono g ds xs h2⟩
 | .dic ks ds,v,h=>by
  simp only[Rp]at h ⊢
  obtain⟨a,xs,e,h1,hl,h2⟩:=h
  exact⟨a,xs,e,g _ _ h1,hl,Rps.mono g ds xs h2⟩
 | .exv c f d,v,h=>by
  simp only[Rp]at h ⊢
  obtain⟨a,dx,y,e,h1,h2,h3⟩:=h
  exact⟨a,dx,y,e,g _ _ h1,g _ _ h2,Rp.mono g d y h3⟩
theorem Rps.mono(g:Same F F'):∀(ds:List D) (vs:List V),Rps K cl F ds vs→Rps K cl F' ds vs
 | [],_,h=>by simpa only[Rps]using h
 | d::ds,vs,h=>by
  simp only[Rps]at h ⊢
  obtain⟨v,r,e,h1,h2⟩:=h
  exact⟨v,r,e,Rp.mono g d v h1,Rps.mono g ds r h2⟩
end
theorem Rps.nil:Rps K cl F [] []:=by simp only[Rps]
theorem Rps.cons{d:D}{v:V}{ds:List D}{vs:List V}(h:Rp K cl F d v)(t:Rps K cl F ds vs):Rps K cl F (d::ds) (v::vs):=by simp only[Rps];exact⟨v,vs,rfl,h,t⟩
theorem Rps.inv{d:D}{ds:List D}{vs:List V}(h:Rps K cl F (d::ds) vs):∃v r,vs=v::r∧Rp K cl F d v∧Rps K cl F ds r:=by simpa only[Rps]using h
theorem Rps.inv0{vs:List V}(h:Rps K cl F [] vs):vs=[]:=by simpa only[Rps]using h
theorem Rps.length:∀{ds:List D} {vs:List V},Rps K cl F ds vs→ds.length=vs.length
 | [],vs,h=>by rw[h.inv0];rfl
 | d::ds,vs,h=>by obtain⟨v,r,rfl,_,t⟩:=h.inv;simp[t.length]
theorem Rps.get:∀{ds:List D} {vs:List V} {i:Nat} {d:D},Rps K cl F ds vs→ds[i]? = some d→∃v,vs[i]? = some v∧Rp K cl F d v
 | [],_,_,_,_,e=>by simp at e
 | d::ds,vs,0,x,h,e=>by
  obtain⟨v,r,rfl,h1,_⟩:=h.inv
  simp at e;subst e
  exact⟨v,rfl,h1⟩
 | d::ds,vs,i+1,x,h,e=>by
  obtain⟨v,r,rfl,_,t⟩:=h.inv
  obtain⟨u,h1,h2⟩:=t.get (i:=i) (d:=x) (by simpa using e)
  exact⟨u,by simpa using h1,h2⟩
theorem Rps.get'{ds:List D}{vs:List V}{i:Nat}{v:V}(h:Rps K cl F ds vs)(e:vs[i]? = some v):∃d,ds[i]? = some d∧Rp K cl F d v:=by
 have hi:i<ds.length:=by
  have:=(List.getElem?_eq_some_iff.mp e).1
  rw[h.length];exact this
 obtain⟨u,h1,h2⟩:=h.get (List.getElem?_eq_getElem hi)
 rw[e]at h1;cases h1
 exact⟨_,List.getElem?_eq_getElem hi,h2⟩
theorem Rps.append:∀{ds es:List D} {vs us:List V},Rps K cl F ds vs→Rps K cl F es us→Rps K cl F (ds++es) (vs++us)
 | [],_,_,_,h,t=>by rw[h.inv0];exact t
 | d::ds,_,_,_,h,t=>by obtain⟨v,r,rfl,h1,h2⟩:=h.inv;exact .cons h1 (h2.append t)
theorem Rps.one{d:D}{v:V}(h:Rp K cl F d v):Rps K cl F [d] [v]:=.cons h .nil
theorem Rps.set{d:D}{v:V}(r:Rp K cl F d v):∀{ds:List D} {vs:List V} (i:Nat),Rps K cl F ds vs→Rps K cl F (ds.set i d) (vs.set i v)
 | [],_,_,h=>by rw[h.inv0];exact .nil
 | _::_,_,0,h=>by obtain⟨_,_,rfl,_,h2⟩:=h.inv;exact .cons r h2
 | _::_,_,i+1,h=>by obtain⟨_,_,rfl,h1,h2⟩:=h.inv;exact .cons h1 (h2.set r i)
theorem Rps.drop:∀{ds:List D} {vs:List V} (n:Nat),Rps K cl F ds vs→Rps K cl F (ds.drop n) (vs.drop n)
 | _,_,0,h=>h
 | [],_,_+1,h=>by rw[h.inv0];exact .nil
 | _::_,_,n+1,h=>by obtain⟨_,_,rfl,_,h2⟩:=h.inv;exact h2.drop n
theorem Rps.take:∀{ds:List D} {vs:List V} (n:Nat),Rps K cl F ds vs→Rps K cl F (ds.take n) (vs.take n)
 | _,_,0,h=>.nil
 | [],_,_+1,h=>by rw[h.inv0];exact .nil
 | _::_,_,n+1,h=>by obtain⟨_,_,rfl,h1,h2⟩:=h.inv;exact .cons h1 (h2.take n)
theorem Rps.ints:∀{ns:List Int} {vs:List V},Rps K cl F (ns.map D.int) vs→vs=ns.map V.int
 | [],_,h=>h.inv0
 | n::ns,_,h=>by
  obtain⟨v,r,rfl,h1,h2⟩:=h.inv
  rw[h2.ints]
  simp only[Rp]at h1
  rw[h1];rfl
theorem Rps.ofInts:∀{ns:List Int},Rps K cl F (ns.map D.int) (ns.map V.int)
 | []=>.nil
 | _::_=>.cons (by simp only[Rp]) Rps.ofInts
theorem Rps.strs:∀{bs:List Str} {vs:List V},Rps K cl F (bs.map D.str) vs→vs=bs.map V.str
 | [],_,h=>h.inv0
 | n::ns,_,h=>by
  obtain⟨v,r,rfl,h1,h2⟩:=h.inv
  rw[h2.strs]
  simp only[Rp]at h1
  rw[h1];rfl
end
inductive Sl where | no | fz (d:D) | ow (ds:List D) | hd (ds:List D) | od (ks:DK) (ds:List D) | hk (ks:DK) (ds:List D)
abbrev DE:=List Sl
def Mu(env:DE)(i:Nat):Prop:=∃ds:List D,env[i]? = some (.ow ds)∨env[i]? = some (.hd ds)
def isO:Sl→Prop
 | .ow _=>True
 | .od _ _=>True
 | _=>False
def Q3:Sl→DK→List D→Prop
 | .od ks ds,ks',ds'=>ks=ks'∧ds=ds'
 | .hk ks ds,ks',ds'=>ks=ks'∧ds=ds'
 | _,_,_=>False
def Ow(σ:St)(env:DE)(a:Addr):Prop:=∃(i:Nat) (s:Sl),isO s∧env[i]? = some s∧σ[i]? = some (some (V.ref a))
structure RelOd(K:W.Frag)(cl:Str→Addr)(σ:St)(H F:Hp)(env:DE):Prop where
 at_:∀(i:Nat) (s:Sl) (ks:DK) (ds:List D),env[i]? = some s→Q3 s ks ds→∃a xs,σ[i]? = some (some (.ref a))∧H a=some (W8 ks xs)∧F a=none∧dkN ks=xs.length∧Rps K cl F ds xs
 inj:∀(i j:Nat) (s t:Sl) (ks ls:DK) (ds es:List D) (a:Addr),env[i]? = some s→Q3 s ks ds→env[j]? = some t→Q3 t ls es→σ[i]? = some (some (.ref a))→σ[j]? = some (some (.ref a))→i=j
structure Rel(K:W.Frag)(cl:Str→Addr)(σ:St)(H F:Hp)(env:DE):Prop where
 sub:Same F H
 len:σ.length=env.length
 fz:∀(i:Nat) (d:D),env[i]? = some (.fz d)→∃v,σ[i]? = some (some v)∧Rp K cl F d v
 mu:∀(i:Nat) (ds:List D),(env[i]? = some (.ow ds)∨env[i]? = some (.hd ds))→∃a xs,σ[i]? = some (some (.ref a))∧H a=some (.lst xs)∧F a=none∧Rps K cl F ds xs
 inj:∀(i j:Nat) (a:Addr),Mu env i→Mu env j→σ[i]? = some (some (.ref a))→σ[j]? = some (some (.ref a))→i=j
 od:RelOd K cl σ H F env
structure Frm(σ:St)(H F:Hp)(env:DE)(σ':St)(H' F':Hp)(env':DE):Prop where
 fz:Same F F'
 hid:∀a o,H a=some o→F a=none→¬Ow σ env a→H' a=some o∧F' a=none∧¬Ow σ' env' a
 keep:∀(i:Nat) (ds:List D),env[i]? = some (.hd ds)→env'[i]? = some (.hd ds)∧σ'[i]? = σ[i]?
 dom:∀a,H' a=none→H a=none
structure Gr(H F H' F':Hp):Prop where
 fz:Same F F'
 sub:Same F' H'
 hid:∀a o,H a=some o→F a=none→H' a=some o∧F' a=none
section
variable {K:W.Frag}{cl:Str→Addr}{σ σ' σ'':St}{H H' H'' F F' F'':Hp}{env env' env'':DE}
theorem RelOd.to(R:RelOd K cl σ H F env)(he:∀(i:Nat) (s:Sl) (ks:DK) (ds:List D),env'[i]? = some s→Q3 s ks ds→∃t,env[i]? = some t∧Q3 t ks ds∧σ'[i]? = σ[i]?)
  (hh:∀(i:Nat) (a:Addr) (ks:DK) (xs:List V),σ[i]? = some (some (.ref a))→H a=some (W8 ks xs)→F a=none→H' a=some (W8 ks xs)∧F' a=none) (sF:Same F F'):RelOd K cl σ' H' F' env' :=
 ⟨fun i s ks ds h d=>by
  obtain⟨t,h1,d1,e1⟩:=he i s ks ds h d
  obtain⟨a,xs,e,hH,hF,hn,r⟩:=R.at_ i t ks ds h1 d1
  obtain⟨h2,f2⟩:=hh i a ks xs e hH hF
  exact⟨a,xs,by rw[e1];exact e,h2,f2,hn,r.mono sF⟩,
  fun i j s t ks ls ds es a hi di hj dj ei ej=>by
  obtain⟨s1,h1,d1,e1⟩:=he i s ks ds hi di
  obtain⟨t1,h2,d2,e2⟩:=he j t ls es hj dj
  exact R.inj i j s1 t1 ks ls ds es a h1 d1 h2 d2 (by rw[← e1];exact ei) (by rw[← e2];exact ej)⟩
theorem RelOd.gr(R:RelOd K cl σ H F env)(g:Gr H F H' F'):RelOd K cl σ H' F' env:=R.to (fun i s ks ds h d=>⟨s,h,d,rfl⟩) (fun _ a ks xs _ h f=>g.hid a _ h f) g.fz
theorem RelOd.set{i:Nat}{s:Sl}{v:Option V}(R:RelOd K cl σ H F env)(n:∀ks ds,¬Q3 s ks ds):RelOd K cl (σ.set i v) H F (env.set i s) :=
 R.to (fun j t ks ds h d=>by
  by_cases z:j=i
  ·subst z
   have hj:j<env.length:=by have:=(List.getElem?_eq_some_iff.mp h).1;rwa [List.length_set]at this
   rw[List.getElem?_set_self hj]at h;cases h;exact absurd d (n ks ds)
  ·rw[List.getElem?_set_ne (Ne.symm z)]at h
   exact⟨t,h,d,List.getElem?_set_ne (Ne.symm z)⟩) (fun _ a ks xs _ h f=>⟨h,f⟩) (Same.refl _)
theorem RelOd.setE{i:Nat}{s:Sl}(R:RelOd K cl σ H F env)(n:∀ks ds,¬Q3 s ks ds):RelOd K cl σ H F (env.set i s) :=
 R.to (fun j t ks ds h d=>by
  by_cases z:j=i
  ·subst z
   have hj:j<env.length:=by have:=(List.getElem?_eq_some_iff.mp h).1;rwa [List.length_set]at this
   rw[List.getElem?_set_self hj]at h;cases h;exact absurd d (n ks ds)
  ·rw[List.getElem?_set_ne (Ne.symm z)]at h
   exact⟨t,h,d,rfl⟩) (fun _ a ks xs _ h f=>⟨h,f⟩) (Same.refl _)
theorem RelOd.lst(R:RelOd K cl σ H F env)(hh:∀(a:Addr) (o:HO),(∀xs,o≠.lst xs)→H a=some o→F a=none→H' a=some o∧F' a=none)(sF:Same F F'):RelOd K cl σ H' F' env :=
 R.to (fun i s ks ds h d=>⟨s,h,d,rfl⟩) (fun _ a ks xs _ h f=>hh a _ (fun _=>a2F) h f) sF
theorem RelOd.own(R:RelOd K cl σ H F env)(hh:∀(i:Nat) (s:Sl) (ks:DK) (ds:List D) (a:Addr) (xs:List V),env[i]? = some s→Q3 s ks ds→σ[i]? = some (some (.ref a))→H a=some (W8 ks xs)→F a=none→H' a=some (W8 ks xs)∧F' a=none)(sF:Same F F'):RelOd K cl σ H' F' env :=
 ⟨fun i s ks ds h d=>by
  obtain⟨a,xs,e,hH,hF,hn,r⟩:=R.at_ i s ks ds h d
  obtain⟨h2,f2⟩:=hh i s ks ds a xs h d e hH hF
  exact⟨a,xs,e,h2,f2,hn,r.mono sF⟩,R.inj⟩
theorem RelOd.frzL{a:Addr}{xs:List V}{o:HO}(R:RelOd K cl σ H F env)(hH:H a=some (.lst xs))(hF:F a=none):RelOd K cl σ H (upd F a o) env :=
 R.lst (fun c u n h f=>⟨h,by rw[g5 (fun z=>by rw[z,hH]at h;exact n xs (Option.some.inj h).symm)];exact f⟩) (X4 hF _)
theorem RelOd.updL{a:Addr}{xs:List V}{o:HO}(R:RelOd K cl σ H F env)(hH:H a=some (.lst xs)):RelOd K cl σ (upd H a o) F env :=
 R.lst (fun c u n h f=>⟨by rw[g5 (fun z=>by rw[z,hH]at h;exact n xs (Option.some.inj h).symm)];exact h,f⟩) (Same.refl _)
theorem RelOd.newO{a:Addr}{o:HO}(R:RelOd K cl σ H F env)(hH:H a=none):RelOd K cl σ (upd H a o) F env :=
 R.lst (fun c u n h f=>⟨by rw[g5 (fun z=>by rw[z,hH]at h;cases h)];exact h,f⟩) (Same.refl _)
theorem RelOd.none(n:∀(i:Nat) (s:Sl) ks ds,env[i]? = some s→¬Q3 s ks ds):RelOd K cl σ H F env:=⟨fun i s ks ds h d=>absurd d (n i s ks ds h),fun i j s t ks ls ds es a h d=>absurd d (n i s ks ds h)⟩
theorem a3X{d:D}:∀ks ds,¬Q3 (.fz d) ks ds:=fun _ _ h=>h
theorem a1v{d:List D}:∀ks ds,¬Q3 (.ow d) ks ds:=fun _ _ h=>h
theorem a3Y{d:List D}:∀ks ds,¬Q3 (.hd d) ks ds:=fun _ _ h=>h
theorem a8x:∀ks ds,¬Q3 .no ks ds:=fun _ _ h=>h
theorem Frm.refl:Frm σ H F env σ H F env:=⟨Same.refl _,fun _ _ h f o=>⟨h,f,o⟩,fun _ _ h=>⟨h,rfl⟩,fun _ h=>h⟩
theorem Frm.trans(a:Frm σ H F env σ' H' F' env')(b:Frm σ' H' F' env' σ'' H'' F'' env''):Frm σ H F env σ'' H'' F'' env'' :=
 ⟨a.fz.trans b.fz,fun x o h f w=>by obtain⟨h1,f1,w1⟩:=a.hid x o h f w;exact b.hid x o h1 f1 w1,
  fun i ds h=>by obtain⟨h1,e1⟩:=a.keep i ds h;obtain⟨h2,e2⟩:=b.keep i ds h1;exact⟨h2,e2.trans e1⟩,fun x h=>a.dom x (b.dom x h)⟩
theorem Gr.dom(g:Gr H F H' F')(a:Addr)(h:H' a=none):H a=none:=by
 cases e:H a with
 | none=>rfl
 | some o =>
  cases f:F a with
  | none=>rw[(g.hid a o e f).1]at h;cases h
  | some u=>rw[g.sub _ _ (g.fz _ _ f)]at h;cases h
theorem Rel.gr(R:Rel K cl σ H F env)(g:Gr H F H' F'):Rel K cl σ H' F' env :=
 ⟨g.sub,R.len,fun i d h=>by obtain⟨v,e,r⟩:=R.fz i d h;exact⟨v,e,r.mono g.fz⟩,
  fun i ds h=>by obtain⟨a,xs,e,hH,hF,r⟩:=R.mu i ds h;obtain⟨h1,f1⟩:=g.hid a _ hH hF;exact⟨a,xs,e,h1,f1,r.mono g.fz⟩,R.inj,R.od.gr g⟩
theorem Rel.frm(R:Rel K cl σ H F env)(g:Gr H F H' F'):Frm σ H F env σ H' F' env :=
 ⟨g.fz,fun a o h f w=>by obtain⟨h1,f1⟩:=g.hid a o h f;exact⟨h1,f1,w⟩,fun _ _ h=>⟨h,rfl⟩,g.dom⟩
theorem Gr.refl(s:Same F H):Gr H F H F:=⟨Same.refl _,s,fun _ _ h f=>⟨h,f⟩⟩
theorem Gr.trans(a:Gr H F H' F')(b:Gr H' F' H'' F''):Gr H F H'' F'':=⟨a.fz.trans b.fz,b.sub,fun x o h f=>by obtain⟨h1,f1⟩:=a.hid x o h f;exact b.hid x o h1 f1⟩
theorem Gr.new{p:Addr}{o:HO}(s:Same F H)(hp:H p=none):Gr H F (upd H p o) (upd F p o):=by
 have fp:F p=none:=s.free hp
 refine⟨X4 fp o,fun b u e=>?_,fun a u e f=>?_⟩
 ·by_cases z:b=p
  ·subst z;rw[i8]at e ⊢;exact e
  ·rw[g5 z]at e ⊢;exact s _ _ e
 ·have z:a≠p:=fun z=>by rw[z,hp]at e;cases e
  rw[g5 z,g5 z];exact⟨e,f⟩
theorem Rel.freeze{i:Nat}{ds:List D}(R:Rel K cl σ H F env)(h:env[i]? = some (.ow ds)):∃a F',σ[i]? = some (some (.ref a))∧Frm σ H F env σ H F' (env.set i (.fz (.lst ds)))∧Rel K cl σ H F' (env.set i (.fz (.lst ds)))∧Rp K cl F' (.lst ds) (.ref a):=by
 obtain⟨a,xs,e,hH,hF,r⟩:=R.mu i ds (.inl h)
 have hi:i<env.length:=(List.getElem?_eq_some_iff.mp h).1
 have sF:Same F (upd F a (.lst xs)):=X4 hF _
 have oth:∀j,j≠i→(env.set i (.fz (.lst ds)))[j]? = env[j]?:=fun j hj=>List.getElem?_set_ne (Ne.symm hj)
 have self:(env.set i (.fz (.lst ds)))[i]? = some (.fz (.lst ds)):=List.getElem?_set_self hi
 have mui:∀j,Mu (env.set i (.fz (.lst ds))) j→j≠i∧Mu env j:=fun j ⟨es,q⟩=>by
  by_cases z:j=i
  ·subst z;rw[self]at q;rcases q with q | q<;>cases q
  ·rw[oth j z]at q;exact⟨z,es,q⟩
 have rl:Rp K cl (upd F a (.lst xs)) (.lst ds) (.ref a):=by simp only[Rp];exact⟨a,xs,rfl,i8,r.mono sF⟩
 refine⟨a,upd F a (.lst xs),e,⟨sF,fun b o hb fb w=>?_,fun j es q=>?_,fun _ h=>h⟩,⟨fun b o q=>?_,by rw[List.length_set];exact R.len,fun j d q=>?_,fun j es q=>?_,fun j k b hj hk e1 e2=>R.inj j k b (mui j hj).2 (mui k hk).2 e1 e2,(R.od.lst (fun c u n h f=>⟨h,by rw[g5 (fun z=>by rw[z,hH]at h;exact n xs (Option.some.inj h).symm)];exact f⟩) sF).setE a3X⟩,rl⟩
 ·have z:b≠a:=fun z=>w ⟨i,.ow ds,True.intro,h,by rw[z];exact e⟩
  refine⟨hb,by rw[g5 z];exact fb,fun⟨j,es,oo,q,e1⟩=>?_⟩
  by_cases y:j=i
  ·subst y;rw[self]at q;cases q;exact oo
  ·rw[oth j y]at q;exact w ⟨j,es,oo,q,e1⟩
 ·have z:j≠i:=fun z=>by subst z;rw[h]at q;cases q
  exact⟨by rw[oth j z];exact q,rfl⟩
 ·by_cases z:b=a
  ·subst z;rw[i8]at q;cases q;exact hH
  ·rw[g5 z]at q;exact R.sub _ _ q
 ·by_cases z:j=i
  ·subst z;rw[self]at q;cases q;exact⟨_,e,rl⟩
  ·rw[oth j z]at q;obtain⟨v,e1,r1⟩:=R.fz j d q;exact⟨v,e1,r1.mono sF⟩
 ·have z:j≠i:=(mui j ⟨es,q⟩).1
  rw[oth j z]at q
  obtain⟨b,ys,e1,h1,f1,r1⟩:=R.mu j es q
  have nb:b≠a:=fun y=>z (R.inj j i b ⟨es,q⟩ ⟨ds,.inl h⟩ e1 (by rw[y];exact e))
  exact⟨b,ys,e1,h1,by rw[g5 nb];exact f1,r1.mono sF⟩
theorem Rel.put{i:Nat}{d:D}{v:V}(R:Rel K cl σ H F env)(hi:i<env.length)(nh:∀ds,env[i]?≠some (.hd ds))(r:Rp K cl F d v):Rel K cl (σ.set i (some v)) H F (env.set i (.fz d)):=by
 refine⟨R.sub,by rw[List.length_set,List.length_set];exact R.len,fun j e q=>?_,fun j es q=>?_,fun j k b hj hk e1 e2=>?_,R.od.set a3X⟩
 ·by_cases z:j=i
  ·subst z
   rw[List.getElem?_set_self hi]at q;cases q
   exact⟨v,List.getElem?_set_self (by rw[R.len];exact hi),r⟩
  ·rw[List.getElem?_set_ne (Ne.symm z)]at q
   obtain⟨u,e1,r1⟩:=R.fz j e q
   exact⟨u,by rw[List.getElem?_set_ne (Ne.symm z)];exact e1,r1⟩
 ·have z:j≠i:=fun z=>by
   subst z
   rw[List.getElem?_set_self hi]at q
   rcases q with q | q<;>cases q
  rw[List.getElem?_set_ne (Ne.symm z)]at q
  obtain⟨a,xs,e1,h1,f1,r1⟩:=R.mu j es q
  exact⟨a,xs,by rw[List.getElem?_set_ne (Ne.symm z)];exact e1,h1,f1,r1⟩
 ·have nz:∀j,Mu (env.set i (.fz d)) j→j≠i∧Mu env j:=fun j ⟨es,q⟩=>by
   by_cases z:j=i
   ·subst z
    rw[List.getElem?_set_self hi]at q
    rcases q with q | q<;>cases q
   ·rw[List.getElem?_set_ne (Ne.symm z)]at q;exact⟨z,es,q⟩
  obtain⟨zj,mj⟩:=nz j hj
  obtain⟨zk,mk⟩:=nz k hk
  rw[List.getElem?_set_ne (Ne.symm zj)]at e1
  rw[List.getElem?_set_ne (Ne.symm zk)]at e2
  exact R.inj j k b mj mk e1 e2
theorem Rel.putO{i:Nat}{ds:List D}{a:Addr}{xs:List V}(R:Rel K cl σ H F env)(hi:i<env.length)(hH:H a=some (.lst xs))(hF:F a=none)(na:∀j,Mu env j→σ[j]?≠some (some (.ref a)))(r:Rps K cl F ds xs):Rel K cl (σ.set i (some (.ref a))) H F (env.set i (.ow ds)):=by
 have his:i<σ.length:=by rw[R.len];exact hi
 have nz:∀j,j≠i→Mu (env.set i (.ow ds)) j→Mu env j:=fun j z ⟨es,q⟩=>by
  rw[List.getElem?_set_ne (Ne.symm z)]at q;exact⟨es,q⟩
 refine⟨R.sub,by rw[List.length_set,List.length_set];exact R.len,fun j e q=>?_,fun j es q=>?_,fun j k b hj hk e1 e2=>?_,R.od.set a1v⟩
 ·have z:j≠i:=fun z=>by subst z;rw[List.getElem?_set_self hi]at q;cases q
  rw[List.getElem?_set_ne (Ne.symm z)]at q
  obtain⟨u,e1,r1⟩:=R.fz j e q
  exact⟨u,by rw[List.getElem?_set_ne (Ne.symm z)];exact e1,r1⟩
 ·by_cases z:j=i
  ·subst z
   rw[List.getElem?_set_self hi]at q
   rcases q with q | q
   ·cases q;exact⟨a,xs,List.getElem?_set_self his,hH,hF,r⟩
   ·cases q
  ·rw[List.getElem?_set_ne (Ne.symm z)]at q
   obtain⟨b,ys,e1,h1,f1,r1⟩:=R.mu j es q
   exact⟨b,ys,by rw[List.getElem?_set_ne (Ne.symm z)];exact e1,h1,f1,r1⟩
 ·by_cases zj:j=i
  ·by_cases zk:k=i
   ·rw[zj,zk]
   ·subst zj
    rw[List.getElem?_set_self his]at e1
    rw[List.getElem?_set_ne (Ne.symm zk)]at e2
    cases e1
    exact absurd e2 (na k (nz k zk hk))
  ·rw[List.getElem?_set_ne (Ne.symm zj)]at e1
   by_cases zk:k=i
   ·subst zk
    rw[List.getElem?_set_self his]at e2
    cases e2
    exact absurd e1 (na j (nz j zj hj))
   ·rw[List.getElem?_set_ne (Ne.symm zk)]at e2
    exact R.inj j k b (nz j zj hj) (nz k zk hk) e1 e2
theorem Frm.put{i:Nat}{d:D}{x:Option V}(nh:∀ds,env[i]?≠some (.hd ds)):Frm σ H F env (σ.set i x) H F (env.set i (.fz d)):=by
 refine⟨Same.refl _,fun a o h f w=>⟨h,f,fun⟨j,ds,oo,q,e⟩=>?_⟩,fun j ds q=>?_,fun _ h=>h⟩
 ·by_cases z:j=i
  ·subst z
   have hj:j<env.length:=by have:=(List.getElem?_eq_some_iff.mp q).1;rwa [List.length_set]at this
   rw[List.getElem?_set_self hj]at q
   cases q;exact oo
  ·rw[List.getElem?_set_ne (Ne.symm z)]at q e
   exact w ⟨j,ds,oo,q,e⟩
 ·have z:j≠i:=fun z=>by subst z;exact nh ds q
  rw[List.getElem?_set_ne (Ne.symm z),List.getElem?_set_ne (Ne.symm z)]
  exact⟨q,rfl⟩
theorem Frm.putO{i:Nat}{s0:Sl}{a:Addr}(f:Frm σ H F env σ' H' F' env')(ha:H a=none)(nh:∀ds,env'[i]?≠some (.hd ds)):Frm σ H F env (σ'.set i (some (.ref a))) H' F' (env'.set i s0):=by
 refine⟨f.fz,fun b o h g w=>?_,fun j ds q=>?_,f.dom⟩
 ·obtain⟨h1,f1,w1⟩:=f.hid b o h g w
  refine⟨h1,f1,fun⟨j,ds,oo,q,e⟩=>?_⟩
  by_cases z:j=i
  ·subst z
   have hj:j<σ'.length:=by have:=(List.getElem?_eq_some_iff.mp e).1;rwa [List.length_set]at this
   rw[List.getElem?_set_self hj]at e
   cases e
   rw[ha]at h;cases h
  ·rw[List.getElem?_set_ne (Ne.symm z)]at q e
   exact w1 ⟨j,ds,oo,q,e⟩
 ·obtain⟨q1,e1⟩:=f.keep j ds q
  have z:j≠i:=fun z=>by subst z;exact nh ds q1
  rw[List.getElem?_set_ne (Ne.symm z),List.getElem?_set_ne (Ne.symm z)]
  exact⟨q1,e1⟩
end
inductive XN where | p (c:Str) | v (c f:Str) (d:D)
instance:Coe Str XN:=⟨.p⟩
def XN.nm:XN→Str
 | .p c=>c
 | .v c _ _=>c
def XN.d:XN→D
 | .p c=>.exc c
 | .v c f d=>.exv c f d
def Xf(K:W.Frag)(cl:Str→Addr)(F:Hp):XN→Option Addr→Prop
 | .p _,cx=>cx=none
 | .v _ f d,cx=>∃dx y,cx=some (2*dx+1)∧F dx=some (.xd [(f,y)])∧Rp K cl F d y
inductive R(α:Type) where | ok (a:α) (e:DE) | ex (c:XN)
inductive RS where | nx (e:DE) | rt (d:D) | ro (ds:List D) | rz (dss:List (List D)) | rp (n:Int) (ds:List D) | bk (e:DE) | ct (e:DE) | ex (c:XN)
def bnd{α β:Type}(x:Option (R α))(k:α→DE→Option (R β)):Option (R β):=match x with
 | none=>none
 | some (.ok a e)=>k a e
 | some (.ex c)=>some (.ex c)
def M3{α:Type}(x:Option (R α))(k:α→DE→Option RS):Option RS:=match x with
 | none=>none
 | some (.ok a e)=>k a e
 | some (.ex c)=>some (.ex c)
def opt{α:Type}(x:Option α)(e:DE):Option (R α):=match x with
 | none=>none
 | some a=>some (.ok a e)
@[simp] theorem a2e{α β:Type}(a:α)(e:DE)(k:α→DE→Option (R β)):bnd (some (.ok a e)) k=k a e:=rfl
@[simp] theorem b43{α β:Type}(c:XN)(k:α→DE→Option (R β)):bnd (some (.ex c)) k=some (.ex c):=rfl
@[simp] theorem b44{α β:Type}(k:α→DE→Option (R β)):bnd (none:Option (R α)) k=none:=rfl
@[simp] theorem T5{α:Type}(a:α)(e:DE)(k:α→DE→Option RS):M3 (some (.ok a e)) k=k a e:=rfl
@[simp] theorem b45{α:Type}(c:XN)(k:α→DE→Option RS):M3 (some (.ex c)) k=some (.ex c):=rfl
@[simp] theorem b46{α:Type}(k:α→DE→Option RS):M3 (none:Option (R α)) k=none:=rfl
@[simp] theorem a1w{α:Type}(a:α)(e:DE):opt (some a) e=some (.ok a e):=rfl
@[simp] theorem a1x{α:Type}(e:DE):opt (none:Option α) e=none:=rfl
structure FX(σ:St)(H F:Hp)(env:DE)(H' F':Hp):Prop where
 fz:Same F F'
 sub:Same F' H'
 hid:∀a o,H a=some o→F a=none→¬Ow σ env a→H' a=some o∧F' a=none
 dom:∀a,H' a=none→H a=none
section
variable {K:W.Frag}{cl:Str→Addr}{E:XK}{σ σ':St}{H H' H1 F F' F1:Hp}{env env' env1:DE}{α β γ δ:Type}
theorem Frm.fx{H2 F2:Hp}(a:Frm σ H F env σ' H1 F1 env1)(b:FX σ' H1 F1 env1 H2 F2):FX σ H F env H2 F2 :=
 ⟨a.fz.trans b.fz,b.sub,fun x o h f w=>by obtain⟨h1,f1,w1⟩:=a.hid x o h f w;exact b.hid x o h1 f1 w1,fun x h=>a.dom x (b.dom x h)⟩
theorem Frm.toFX(a:Frm σ H F env σ' H1 F1 env1)(s:Same F1 H1):FX σ H F env H1 F1:=⟨a.fz,s,fun x o h f w=>by obtain⟨h1,f1,_⟩:=a.hid x o h f w;exact⟨h1,f1⟩,a.dom⟩
abbrev Py(α β:Type):=α→St→Hp→Hp→Hp→DE→β→Prop
def PM(P:Py α β):Prop:=∀a σ H0 H1 H' F' e b,(∀x:Addr,H1 x=none→H0 x=none)→P a σ H1 H' F' e b→P a σ H0 H' F' e b
def Ct(K:W.Frag)(cl:Str→Addr)(E:XK)(P:Py α β)(r:Option (R α))(σ:St)(H F:Hp)(env:DE)(Q:β→Hp→Prop):Prop:=match r with
 | none=>False
 | some (.ok a e)=>∀b H' F',Frm σ H F env σ H' F' e→Rel K cl σ H' F' e→P a σ H H' F' e b→Q b H'
 | some (.ex c)=>∀H' F',FX σ H F env H' F'→∀cx,Xf K cl F' c cx→E (.ref (cl c.nm)) cx H'
def Rz(K:W.Frag)(cl:Str→Addr)(F' H':Hp)(nw:Addr→Prop)(dss:List (List D))(as:List Addr):Prop:=as.Nodup∧as.length=dss.length∧∀(k:Nat) (a:Addr) (ds:List D),as[k]? = some a→dss[k]? = some ds→∃xs,H' a=some (.lst xs)∧F' a=none∧nw a∧Rps K cl F' ds xs
theorem Rz.imp{nw nw':Addr→Prop}{dss:List (List D)}{as:List Addr}(h:Rz K cl F' H' nw dss as)(i:∀a xs,H' a=some (.lst xs)→F' a=none→nw a→nw' a):Rz K cl F' H' nw' dss as :=
 ⟨h.1,h.2.1,fun k a ds e1 e2=>by obtain⟨xs,h1,h2,h3,h4⟩:=h.2.2 k a ds e1 e2;exact⟨xs,h1,h2,i a xs h1 h2 h3,h4⟩⟩
def Cs(K:W.Frag)(cl:Str→Addr)(E:XK)(r:Option RS)(σ:St)(H F:Hp)(env:DE)(N:Ends):Prop:=match r with
 | none=>False
 | some (.nx e)=>∀σ' H' F',Frm σ H F env σ' H' F' e→Rel K cl σ' H' F' e→N.nx σ' H'
 | some (.bk e)=>∀σ' H' F',Frm σ H F env σ' H' F' e→Rel K cl σ' H' F' e→N.bk σ' H'
 | some (.ct e)=>∀σ' H' F',Frm σ H F env σ' H' F' e→Rel K cl σ' H' F' e→N.ct σ' H'
 | some (.rt d)=>∀v H' F',FX σ H F env H' F'→Rp K cl F' d v→N.rt v H'
 | some (.ro ds)=>∀a xs H' F',FX σ H F env H' F'→H' a=some (.lst xs)→F' a=none→(∀o,H a=some o→Ow σ env a)→Rps K cl F' ds xs→N.rt (.ref a) H'
 | some (.rz dss)=>∀p as H' F',FX σ H F env H' F'→H p=none→H' p=some (.tup (as.map V.ref))→F' p=none→Rz K cl F' H' (fun a=>∀o,H a=some o→Ow σ env a) dss as→N.rt (.ref p) H'
 | some (.rp n ds)=>∀p a xs H' F',FX σ H F env H' F'→H p=none→H' p=some (.tup [.int n,.ref a])→F' p=none→H' a=some (.lst xs)→F' a=none→(∀o,H a=some o→Ow σ env a)→Rps K cl F' ds xs→N.rt (.ref p) H'
 | some (.ex c)=>∀H' F',FX σ H F env H' F'→∀cx,Xf K cl F' c cx→E (.ref (cl c.nm)) cx H'
theorem Ct.mono{P:Py α β}{r:Option (R α)}{Q Q':β→Hp→Prop}(h:Ct K cl E P r σ H F env Q)(q:∀b H',Q b H'→Q' b H'):Ct K cl E P r σ H F env Q':=by
 unfold Ct at h ⊢
 split at h
 ·exact h
 ·exact fun b H' F' f R p=>q _ _ (h b H' F' f R p)
 ·exact h
theorem Ct.from{P2:Py γ δ}{r:Option (R γ)}{Q:δ→Hp→Prop}(f:Frm σ H F env σ H1 F1 env1)(pm:PM P2)(h:Ct K cl E P2 r σ H F env Q):Ct K cl E P2 r σ H1 F1 env1 Q:=by
 unfold Ct at h ⊢
 split at h
 ·exact h
 ·exact fun b H' F' f2 R2 p2=>h b H' F' (f.trans f2) R2 (pm _ _ _ _ _ _ _ _ f.dom p2)
 ·exact fun H' F' x=>h H' F' (f.fx x)
theorem Ct.bnd{P1:Py α β}{P2:Py γ δ}{r:Option (R α)}{k:α→DE→Option (R γ)}{Q:δ→Hp→Prop}(h:Ct K cl E P2 (bnd r k) σ H F env Q)(pm:PM P2) :
  Ct K cl E P1 r σ H F env fun b H1=>∃F1 env1 a,Same F F1∧Rel K cl σ H1 F1 env1∧P1 a σ H H1 F1 env1 b∧Ct K cl E P2 (k a env1) σ H1 F1 env1 Q:=by
 unfold Ct
 rcases r with _ | ⟨a,e⟩ | c
 ·exact h
 ·intro b H1 F1 f R p
  refine⟨F1,e,a,f.fz,R,p,?_⟩
  have h:Ct K cl E P2 (k a e) σ H F env Q:=h
  exact Ct.from f pm h
 ·exact h
theorem Cs.from{r:Option RS}{N:Ends}(f:Frm σ H F env σ' H1 F1 env1)(h:Cs K cl E r σ H F env N):Cs K cl E r σ' H1 F1 env1 N:=by
 unfold Cs at h ⊢
 split at h
 ·exact h
 ·exact fun σ' H' F' f2 R2=>h σ' H' F' (f.trans f2) R2
 ·exact fun σ' H' F' f2 R2=>h σ' H' F' (f.trans f2) R2
 ·exact fun σ' H' F' f2 R2=>h σ' H' F' (f.trans f2) R2
 ·exact fun v H' F' x p=>h v H' F' (f.fx x) p
 ·refine fun a xs H' F' x ha fa nw p=>h a xs H' F' (f.fx x) ha fa (fun o e=>?_) p
  refine Classical.byContradiction fun w=>?_
  cases q:F a with
  | none =>
   obtain⟨h1,f1,w1⟩:=f.hid a o e q w
   exact w1 (nw o h1)
  | some u=>rw[x.fz _ _ (f.fz _ _ q)]at fa;cases fa
 ·refine fun p as H' F' x hp ht fp rz=>h p as H' F' (f.fx x) (f.dom p hp) ht fp (rz.imp fun a xs ha fa nw o e=>?_)
  refine Classical.byContradiction fun w=>?_
  cases q:F a with
  | none =>
   obtain⟨h1,f1,w1⟩:=f.hid a o e q w
   exact w1 (nw o h1)
  | some u=>rw[x.fz _ _ (f.fz _ _ q)]at fa;cases fa
 ·refine fun p a xs H' F' x hp ht fp ha fa nw r=>h p a xs H' F' (f.fx x) (f.dom p hp) ht fp ha fa (fun o e=>?_) r
  refine Classical.byContradiction fun w=>?_
  cases q:F a with
  | none =>
   obtain⟨h1,f1,w1⟩:=f.hid a o e q w
   exact w1 (nw o h1)
  | some u=>rw[x.fz _ _ (f.fz _ _ q)]at fa;cases fa
 ·exact fun H' F' x=>h H' F' (f.fx x)
theorem Cs.bnd{P1:Py α β}{r:Option (R α)}{k:α→DE→Option RS}{N:Ends}(h:Cs K cl E (M3 r k) σ H F env N) :
  Ct K cl E P1 r σ H F env fun b H1=>∃F1 env1 a,Frm σ H F env σ H1 F1 env1∧Rel K cl σ H1 F1 env1∧P1 a σ H H1 F1 env1 b∧Cs K cl E (k a env1) σ H F env N:=by
 unfold Ct
 rcases r with _ | ⟨a,e⟩ | c
 ·exact h
 ·intro b H1 F1 f R p
  exact⟨F1,e,a,f,R,p,h⟩
 ·exact h
end
def PZ(K:W.Frag)(cl:Str→Addr):Py D V:=fun d _ _ _ F' _ v=>Rp K cl F' d v
def PAs(K:W.Frag)(cl:Str→Addr):Py (List D) (List V):=fun ds _ _ _ F' _ vs=>Rps K cl F' ds vs
def PB:Py Bool Bool:=fun b _ _ _ _ _ c=>c=b
def PI':Py (Option Int) (Option Int):=fun b _ _ _ _ _ c=>c=b
def PN(K:W.Frag)(cl:Str→Addr):Py (List D) V:=fun ds σ H H' F' e v=>∃a xs,v=.ref a∧H a=none∧H' a=some (.lst xs)∧F' a=none∧(∀j,Mu e j→σ[j]?≠some (some (.ref a)))∧Rps K cl F' ds xs
theorem N3{K cl}:PM (PZ K cl):=fun _ _ _ _ _ _ _ _ _ h=>h
theorem b47{K cl}:PM (PAs K cl):=fun _ _ _ _ _ _ _ _ _ h=>h
theorem a8y:PM PB:=fun _ _ _ _ _ _ _ _ _ h=>h
theorem b6K:PM PI':=fun _ _ _ _ _ _ _ _ _ h=>h
theorem a2_{K cl}:PM (PN K cl):=fun _ _ _ _ _ _ _ _ g ⟨a,xs,e,h,r⟩=>⟨a,xs,e,g a h,r⟩
abbrev ZF:=DE→Option (R D)
abbrev NF:=DE→Option (R (List D))
abbrev AF:=DE→Option (R (List D))
abbrev BF:=DE→Option (R Bool)
abbrev OF:=DE→Option (R (Option Int))
abbrev SF:=DE→Option RS
section
variable (K:W.Frag)(cl:Str→Addr)(E:XK)
def u5(t:TE)(f:ZF):Prop:=∀σ H Q env F,Rel K cl σ H F env→Ct K cl E (PZ K cl) (f env) σ H F env Q→t σ H Q
def RfN(t:TE)(f:NF):Prop:=∀σ H Q env F,Rel K cl σ H F env→Ct K cl E (PN K cl) (f env) σ H F env Q→t σ H Q
def V6(t:TA)(f:AF):Prop:=∀σ H Q env F,Rel K cl σ H F env→Ct K cl E (PAs K cl) (f env) σ H F env Q→t σ H Q
def T6(t:TT)(f:BF):Prop:=∀σ H Q env F,Rel K cl σ H F env→Ct K cl E PB (f env) σ H F env Q→t σ H Q
def RfO(t:TO)(f:OF):Prop:=∀σ H Q env F,Rel K cl σ H F env→Ct K cl E PI' (f env) σ H F env Q→t σ H Q
def RfS(t:TS)(f:SF):Prop:=∀(N:Ends) σ H env F,Rel K cl σ H F env→Cs K cl E (f env) σ H F env N→t N σ H
end
def eC(d:D):ZF:=fun e=>some (.ok d e)
def eV(i:Nat):ZF:=fun e=>match e[i]? with
 | some (.fz d)=>some (.ok d e)
 | some (.ow ds)=>some (.ok (.lst ds) (e.set i (.fz (.lst ds))))
 | _=>none
def look(e:DE)(i:Nat):Option D:=match e[i]? with
 | some (.fz d)=>some d
 | some (.ow ds)=>some (.lst ds)
 | some (.hd ds)=>some (.lst ds)
 | _=>none
def Rb(K:W.Frag)(cl:Str→Addr)(F H:Hp)(d:D)(v:V):Prop:=Rp K cl F d v∨∃a xs ds,v=.ref a∧d=.lst ds∧H a=some (.lst xs)∧Rps K cl F ds xs
section
variable {K:W.Frag}{cl:Str→Addr}{E:XK}{σ:St}{H F:Hp}{env:DE}
theorem Rel.look{i:Nat}{d:D}(R:Rel K cl σ H F env)(h:look env i=some d):∃v,σ[i]? = some (some v)∧Rb K cl F H d v:=by
 unfold L2.look at h
 split at h
 ·rename_i q;cases h;obtain⟨v,e,r⟩:=R.fz i d q;exact⟨v,e,.inl r⟩
 ·rename_i ds q;cases h;obtain⟨a,xs,e,hH,_,r⟩:=R.mu i ds (.inl q);exact⟨_,e,.inr ⟨a,xs,ds,rfl,rfl,hH,r⟩⟩
 ·rename_i ds q;cases h;obtain⟨a,xs,e,hH,_,r⟩:=R.mu i ds (.inr q);exact⟨_,e,.inr ⟨a,xs,ds,rfl,rfl,hH,r⟩⟩
 ·cases h
theorem b9{v:V}{d:D}(h:∀F,Rp K cl F d v:=by intro F;simp only[Rp]):u5 K cl E (tC v) (eC d):=fun σ H Q env F R h'=>h' v H F Frm.refl R (h F)
theorem a8{i:Nat}:u5 K cl E (D2 i) (eV i):=by
 intro σ H Q env F R h
 unfold eV at h
 split at h
 ·rename_i d q
  obtain⟨v,e,r⟩:=R.fz i d q
  exact⟨v,e,h v H F Frm.refl R r⟩
 ·rename_i ds q
  obtain⟨a,F',e,fr,R',r⟩:=R.freeze q
  exact⟨_,e,h _ H F' fr R' r⟩
 ·exact h.elim
end
def OpOk(K:W.Frag)(cl:Str→Addr)(r:R2)(g:D→D→Option D):Prop:=∀x y d e z H F Q,Same F H→Rb K cl F H d x→Rb K cl F H e y→g d e=some z→(∀v H' F',Gr H F H' F'→Rp K cl F' z v→Q v H')→r x y H Q
def eB(g:D→D→Option D)(f k:ZF):ZF:=fun e=>bnd (f e) fun d e1=>bnd (k e1) fun d' e2=>opt (g d d') e2
def t5(g:D→D→Option D)(i:Nat)(k:ZF):ZF:=fun e=>match look e i with
 | none=>none
 | some _=>bnd (k e) fun d' e2=>match look e2 i with
  | some d=>opt (g d d') e2
  | none=>none
def eBW(g:D→D→Option D)(f:ZF)(j:Nat):ZF:=fun e=>bnd (f e) fun d e2=>match look e2 j with
 | some d'=>opt (g d d') e2
 | none=>none
def a3a(g:D→D→Option D)(i j:Nat):ZF:=fun e=>match look e i,look e j with
 | some d,some d'=>opt (g d d') e
 | _,_=>none
section
variable {K:W.Frag}{cl:Str→Addr}{E:XK}{r:R2}{g:D→D→Option D}{ta tb:TE}{f k:ZF}{i j:Nat}
theorem OpOk.fin{σ:St}{H F:Hp}{env:DE}{x y:V}{d e:D}{Q:VK}(ok:OpOk K cl r g)(R:Rel K cl σ H F env)(hx:Rb K cl F H d x)(hy:Rb K cl F H e y)(h:Ct K cl E (PZ K cl) (opt (g d e) env) σ H F env Q):r x y H Q:=by
 cases hz:g d e with
 | none=>rw[hz]at h;exact h.elim
 | some z =>
  rw[hz]at h
  exact ok x y d e z H F Q R.sub hx hy hz fun v H' F' gr p=>h v H' F' (R.frm gr) (R.gr gr) p
theorem b0(ok:OpOk K cl r g)(ha:u5 K cl E ta f)(hb:u5 K cl E tb k):u5 K cl E (tOp r ta tb) (eB g f k):=by
 intro σ H Q env F R h
 refine ha σ H _ env F R ((Ct.bnd h N3).mono fun x H1 ⟨F1,e1,d,s1,R1,p1,h1⟩=>?_)
 refine hb σ H1 _ e1 F1 R1 ((Ct.bnd h1 N3).mono fun y H2 ⟨F2,e2,e,s2,R2,p2,h2⟩=>?_)
 exact ok.fin R2 (.inl (Rp.mono s2 _ _ p1)) (.inl p2) h2
theorem t9(ok:OpOk K cl r g)(hb:u5 K cl E tb k):u5 K cl E (tOp r (D2 i) tb) (t5 g i k):=by
 intro σ H Q env F R h
 unfold t5 at h
 cases q:look env i with
 | none=>rw[q]at h;exact h.elim
 | some d0 =>
  rw[q]at h
  obtain⟨x,e0,_⟩:=R.look q
  refine⟨x,e0,hb σ H _ env F R ((Ct.bnd h N3).mono fun y H2 ⟨F2,e2,e,s2,R2,p2,h2⟩=>?_)⟩
  cases q2:look e2 i with
  | none=>rw[q2]at h2;exact h2.elim
  | some d =>
   rw[q2]at h2
   obtain⟨x',e',rb⟩:=R2.look q2
   rw[e0]at e';cases e'
   exact ok.fin R2 rb (.inl p2) h2
theorem a9I(ok:OpOk K cl r g)(ha:u5 K cl E ta f):u5 K cl E (tOp r ta (D2 j)) (eBW g f j):=by
 intro σ H Q env F R h
 refine ha σ H _ env F R ((Ct.bnd h N3).mono fun x H1 ⟨F1,e1,d,s1,R1,p1,h1⟩=>?_)
 cases q:look e1 j with
 | none=>rw[q]at h1;exact h1.elim
 | some d' =>
  rw[q]at h1
  obtain⟨y,e,rb⟩:=R1.look q
  exact⟨y,e,ok.fin R1 (.inl p1) rb h1⟩
theorem a7E(ok:OpOk K cl r g):u5 K cl E (tOp r (D2 i) (D2 j)) (a3a g i j):=by
 intro σ H Q env F R h
 unfold a3a at h
 cases q:look env i with
 | none=>rw[q]at h;exact h.elim
 | some d =>
  cases q2:look env j with
  | none=>rw[q,q2]at h;exact h.elim
  | some d' =>
   rw[q,q2]at h
   obtain⟨x,e,rb⟩:=R.look q
   obtain⟨y,e',rb'⟩:=R.look q2
   exact⟨x,e,y,e',ok.fin R rb rb' h⟩
end
section
variable {K:W.Frag}{cl:Str→Addr}{E:XK}
theorem Rb.int{F H:Hp}{i:Int}{v:V}(h:Rb K cl F H (.int i) v):v=.int i:=by
 rcases h with h | ⟨_,_,_,_,z,_⟩
 ·simpa only[Rp]using h
 ·cases z
theorem Rb.bl{F H:Hp}{i:Bool}{v:V}(h:Rb K cl F H (.bl i) v):v=.bl i:=by
 rcases h with h | ⟨_,_,_,_,z,_⟩
 ·simpa only[Rp]using h
 ·cases z
theorem Rb.str{F H:Hp}{i:Str}{v:V}(h:Rb K cl F H (.str i) v):v=.str i:=by
 rcases h with h | ⟨_,_,_,_,z,_⟩
 ·simpa only[Rp]using h
 ·cases z
theorem Rb.non{F H:Hp}{v:V}(h:Rb K cl F H .non v):v=.non:=by
 rcases h with h | ⟨_,_,_,_,z,_⟩
 ·simpa only[Rp]using h
 ·cases z
theorem Rb.lst{F H:Hp}{ds:List D}{v:V}(s:Same F H)(h:Rb K cl F H (.lst ds) v):∃a xs,v=.ref a∧H a=some (.lst xs)∧Rps K cl F ds xs:=by
 rcases h with h | ⟨a,xs,ds',e,z,h,r⟩
 ·simp only[Rp]at h
  obtain⟨a,xs,e,h,r⟩:=h
  exact⟨a,xs,e,s _ _ h,r⟩
 ·cases z;exact⟨a,xs,e,h,r⟩
theorem Rb.tup{F H:Hp}{ds:List D}{v:V}(s:Same F H)(h:Rb K cl F H (.tup ds) v):∃a xs,v=.ref a∧H a=some (.tup xs)∧Rps K cl F ds xs:=by
 rcases h with h | ⟨_,_,_,_,z,_⟩
 ·simp only[Rp]at h
  obtain⟨a,xs,e,h,r⟩:=h
  exact⟨a,xs,e,s _ _ h,r⟩
 ·cases z
theorem Rb.scr{F H:Hp}{ns:List Int}{v:V}(s:Same F H)(h:Rb K cl F H (.scr ns) v):∃a,v=.ref a∧Scr K H a (ns.map V.int):=by
 rcases h with h | ⟨_,_,_,_,z,_⟩
 ·simp only[Rp]at h
  obtain⟨a,e,h⟩:=h
  exact⟨a,e,h.same s⟩
 ·cases z
def gI(C:Int→Int→Prop) [∀i j,Decidable (C i j)] (g:Int→Int→D):D→D→Option D
 | .int i,.int j=>if C i j then some (g i j)else none
 | _,_=>none
def gI0(g:Int→Int→D):D→D→Option D
 | .int i,.int j=>some (g i j)
 | _,_=>none
theorem a8z{C:Int→Int→Prop} [∀i j,Decidable (C i j)] {g:Int→Int→V} {g':Int→Int→D} (hg:∀F i j,Rp K cl F (g' i j) (g i j)):OpOk K cl (rI C g) (gI C g'):=by
 intro x y d e z H F Q s hx hy h q
 unfold gI at h
 split at h
 ·rename_i i j
  split at h
  ·rename_i c;cases h
   exact⟨i,j,hx.int,hy.int,c,q _ H F (.refl s) (hg F i j)⟩
  ·cases h
 ·cases h
theorem a2G{g:Int→Int→V}{g':Int→Int→D}(hg:∀F i j,Rp K cl F (g' i j) (g i j)):OpOk K cl (rI0 g) (gI0 g'):=by
 intro x y d e z H F Q s hx hy h q
 unfold gI0 at h
 split at h
 ·rename_i i j
  cases h
  exact⟨i,j,hx.int,hy.int,q _ H F (.refl s) (hg F i j)⟩
 ·cases h
end
section
variable {K:W.Frag}{cl:Str→Addr}{E:XK}{σ:St}{H F:Hp}{env:DE}
theorem Rel.newN{p:Addr}{o:HO}(R:Rel K cl σ H F env)(hp:H p=none):Rel K cl σ (upd H p o) F env∧Frm σ H F env σ (upd H p o) F env:=by
 have fp:F p=none:=R.sub.free hp
 have ne:∀a u,H a=some u→a≠p:=fun a u h z=>by rw[z,hp]at h;cases h
 refine⟨⟨R.sub.trans (X4 hp _),R.len,R.fz,fun i ds h=>?_,R.inj,R.od.newO hp⟩,⟨Same.refl _,fun a u h f w=>?_,fun _ _ h=>⟨h,rfl⟩,fun a h=>?_⟩⟩
 ·obtain⟨a,xs,e,hH,hF,r⟩:=R.mu i ds h
  exact⟨a,xs,e,by rw[g5 (ne _ _ hH)];exact hH,hF,r⟩
 ·exact⟨by rw[g5 (ne _ _ h)];exact h,f,w⟩
 ·by_cases z:a=p
  ·rw[z];exact hp
  ·rw[g5 z]at h;exact h
theorem Ct.newN{p:Addr}{xs:List V}{ds:List D}{Q:VK}(R:Rel K cl σ H F env)(hp:H p=none)(r:Rps K cl F ds xs)(h:Ct K cl E (PN K cl) (some (.ok ds env)) σ H F env Q):Q (.ref p) (upd H p (.lst xs)):=by
 obtain⟨R',f⟩:=R.newN (o:=.lst xs) hp
 refine h _ _ F f R' ⟨p,xs,rfl,hp,i8,R.sub.free hp,fun j mj e=>?_,r⟩
 obtain⟨ds',q⟩:=mj
 obtain⟨a,ys,e1,hH,_⟩:=R.mu j ds' q
 rw[e]at e1;cases e1
 rw[hp]at hH;cases hH
def zN(f:NF):ZF:=fun e=>bnd (f e) fun ds e1=>some (.ok (.lst ds) e1)
theorem b2b{t:TE}{f:NF}(h:RfN K cl E t f):u5 K cl E t (zN f):=by
 intro σ H Q env F R q
 refine h σ H Q env F R ?_
 unfold zN at q
 rcases hf:f env with _ | ⟨ds,e1⟩ | c
 ·rw[hf]at q;exact q
 ·rw[hf]at q
  rintro b H' F' fr R' ⟨a,xs,rfl,hn,hH,hF,nm,r⟩
  have sF:Same F' (upd F' a (.lst xs)):=X4 hF _
  refine q _ H' (upd F' a (.lst xs)) ⟨fr.fz.trans sF,fun b o hb fb w=>?_,fr.keep,fr.dom⟩ ⟨fun b o z=>?_,R'.len,fun i d z=>?_,fun i es z=>?_,R'.inj,R'.od.frzL hH hF⟩ (by show Rp K cl _ (.lst ds) _;simp only[Rp];exact⟨a,xs,rfl,i8,r.mono sF⟩)
  ·obtain⟨h1,f1,w1⟩:=fr.hid b o hb fb w
   have nb:b≠a:=fun z=>by rw[z,hn]at hb;cases hb
   exact⟨h1,by rw[g5 nb];exact f1,w1⟩
  ·by_cases y:b=a
   ·subst y;rw[i8]at z;cases z;exact hH
   ·rw[g5 y]at z;exact R'.sub _ _ z
  ·obtain⟨v,e,r1⟩:=R'.fz i d z
   exact⟨v,e,r1.mono sF⟩
  ·obtain⟨b,ys,e,h1,f1,r1⟩:=R'.mu i es z
   have nb:b≠a:=fun y=>nm i ⟨es,z⟩ (by rw[e,y])
   exact⟨b,ys,e,h1,by rw[g5 nb];exact f1,r1.mono sF⟩
 ·rw[hf]at q;exact q
def aN:AF:=fun e=>some (.ok [] e)
def aC(f:ZF)(k:AF):AF:=fun e=>bnd (f e) fun d e1=>bnd (k e1) fun ds e2=>some (.ok (d::ds) e2)
theorem g7:V6 K cl E a0r aN:=fun σ H Q env F R h=>h [] H F Frm.refl R .nil
theorem a7{te:TE}{ta:TA}{f:ZF}{k:AF}(hf:u5 K cl E te f)(hk:V6 K cl E ta k):V6 K cl E (L3 te ta) (aC f k):=by
 intro σ H Q env F R h
 refine hf σ H _ env F R ((Ct.bnd h b47).mono fun x H1 ⟨F1,e1,d,s1,R1,p1,h1⟩=>?_)
 refine hk σ H1 _ e1 F1 R1 ((Ct.bnd h1 b47).mono fun xs H2 ⟨F2,e2,ds,s2,R2,p2,h2⟩=>?_)
 exact h2 (x::xs) H2 F2 Frm.refl R2 (.cons (Rp.mono s2 _ _ p1) p2)
def eT(f:AF):ZF:=fun e=>bnd (f e) fun ds e1=>if ds.length≤sizeLine then some (.ok (.tup ds) e1)else none
def eL(f:AF):NF:=fun e=>bnd (f e) fun ds e1=>if ds.length≤sizeLine then some (.ok ds e1)else none
theorem l9{ta:TA}{f:AF}(hf:V6 K cl E ta f):u5 K cl E (a8l ta) (eT f):=by
 intro σ H Q env F R h
 refine hf σ H _ env F R ((Ct.bnd h N3).mono fun xs H1 ⟨F1,e1,ds,s1,R1,p1,h1⟩=>?_)
 have hl:ds.length=xs.length:=Rps.length p1
 split at h1
 ·rename_i z
  refine⟨by rw[← hl];exact z,fun p hp=>?_⟩
  have g:Gr H1 F1 (upd H1 p (.tup xs)) (upd F1 p (.tup xs)):=.new R1.sub hp
  exact h1 _ _ _ (R1.frm g) (R1.gr g) (by show Rp K cl _ (.tup ds) _;simp only[Rp];exact⟨p,xs,rfl,i8,Rps.mono g.fz _ _ p1⟩)
 ·exact h1.elim
theorem a03{ta:TA}{f:AF}(hf:V6 K cl E ta f):RfN K cl E (b4I ta) (eL f):=by
 intro σ H Q env F R h
 refine hf σ H _ env F R ((Ct.bnd h a2_).mono fun xs H1 ⟨F1,e1,ds,s1,R1,p1,h1⟩=>?_)
 have hl:ds.length=xs.length:=Rps.length p1
 split at h1
 ·rename_i z
  exact⟨by rw[← hl];exact z,fun p hp=>Ct.newN R1 hp p1 h1⟩
 ·exact h1.elim
def bZ(f:ZF):BF:=fun e=>bnd (f e) fun d e1=>match d with
 | .bl b=>some (.ok b e1)
 | _=>none
theorem B8{t:TE}{f:ZF}(hf:u5 K cl E t f):T6 K cl E (tB t) (bZ f):=by
 intro σ H Q env F R h
 refine hf σ H _ env F R ((Ct.bnd h a8y).mono fun x H1 ⟨F1,e1,d,s1,R1,p1,h1⟩=>?_)
 split at h1
 ·rename_i b
  have:x=.bl b:=by have:=(show Rp K cl F1 (.bl b) x from p1);simpa only[Rp]using this
  exact⟨b,this,h1 b H1 F1 Frm.refl R1 rfl⟩
 ·exact h1.elim
theorem v8{t:TE}{f:ZF}(hf:u5 K cl E t f):T6 K cl E (a8h t) (bZ f):=B8 hf
def B4(f:BF):BF:=fun e=>bnd (f e) fun b e1=>some (.ok (!b) e1)
def Z9(f k:BF):BF:=fun e=>bnd (f e) fun b e1=>if b=true then k e1 else some (.ok false e1)
def S7(f k:BF):BF:=fun e=>bnd (f e) fun b e1=>if b=true then some (.ok true e1)else k e1
theorem C5{t:TT}{f:BF}(hf:T6 K cl E t f):T6 K cl E (b4z t) (B4 f):=by
 intro σ H Q env F R h
 refine hf σ H _ env F R ((Ct.bnd h a8y).mono fun x H1 ⟨F1,e1,d,s1,R1,p1,h1⟩=>?_)
 cases (show x=d from p1)
 exact h1 _ H1 F1 Frm.refl R1 rfl
theorem a1c{t u:TT}{f k:BF}(hf:T6 K cl E t f)(hk:T6 K cl E u k):T6 K cl E (b4y t u) (Z9 f k):=by
 intro σ H Q env F R h
 refine hf σ H _ env F R ((Ct.bnd h a8y).mono fun x H1 ⟨F1,e1,d,s1,R1,p1,h1⟩=>?_)
 cases (show x=d from p1)
 by_cases z:x=true
 ·rw[if_pos z]at h1 ⊢;exact hk σ H1 Q e1 F1 R1 h1
 ·rw[if_neg z]at h1 ⊢;exact h1 _ H1 F1 Frm.refl R1 rfl
theorem Q4{t u:TT}{f k:BF}(hf:T6 K cl E t f)(hk:T6 K cl E u k):T6 K cl E (tOr t u) (S7 f k):=by
 intro σ H Q env F R h
 refine hf σ H _ env F R ((Ct.bnd h a8y).mono fun x H1 ⟨F1,e1,d,s1,R1,p1,h1⟩=>?_)
 cases (show x=d from p1)
 by_cases z:x=true
 ·rw[if_pos z]at h1 ⊢;exact h1 _ H1 F1 Frm.refl R1 rfl
 ·rw[if_neg z]at h1 ⊢;exact hk σ H1 Q e1 F1 R1 h1
def a4J(f:ZF):ZF:=fun e=>bnd (f e) fun d e1=>match d with
 | .bl b=>some (.ok (.bl (!b)) e1)
 | _=>none
def a2g(f k:ZF):ZF:=fun e=>bnd (f e) fun d e1=>match d with
 | .bl b=>if b=true then k e1 else some (.ok (.bl false) e1)
 | _=>none
def eIf(c:BF)(f k:ZF):ZF:=fun e=>bnd (c e) fun b e1=>if b=true then f e1 else k e1
theorem a6j{t:TE}{f:ZF}(hf:u5 K cl E t f):u5 K cl E (b1X t) (a4J f):=by
 intro σ H Q env F R h
 refine hf σ H _ env F R ((Ct.bnd h N3).mono fun x H1 ⟨F1,e1,d,s1,R1,p1,h1⟩=>?_)
 split at h1
 ·rename_i b
  have:x=.bl b:=by have:=(show Rp K cl F1 (.bl b) x from p1);simpa only[Rp]using this
  exact⟨b,this,h1 _ H1 F1 Frm.refl R1 (by show Rp K cl F1 (.bl _) _;simp only[Rp])⟩
 ·exact h1.elim
theorem a2h{t u:TE}{f k:ZF}(hf:u5 K cl E t f)(hk:u5 K cl E u k):u5 K cl E (b1W t u) (a2g f k):=by
 intro σ H Q env F R h
 refine hf σ H _ env F R ((Ct.bnd h N3).mono fun x H1 ⟨F1,e1,d,s1,R1,p1,h1⟩=>?_)
 split at h1
 ·rename_i b
  have:x=.bl b:=by have:=(show Rp K cl F1 (.bl b) x from p1);simpa only[Rp]using this
  refine⟨b,this,?_⟩
  by_cases z:b=true
  ·rw[if_pos z]at h1 ⊢;exact hk σ H1 Q e1 F1 R1 h1
  ·rw[if_neg z]at h1 ⊢;exact h1 _ H1 F1 Frm.refl R1 (by show Rp K cl F1 (.bl _) _;simp only[Rp])
 ·exact h1.elim
theorem b57{c:TT}{t u:TE}{b:BF}{f k:ZF}(hc:T6 K cl E c b)(hf:u5 K cl E t f)(hk:u5 K cl E u k):u5 K cl E (tIf c t u) (eIf b f k):=by
 intro σ H Q env F R h
 refine hc σ H _ env F R ((Ct.bnd h N3).mono fun x H1 ⟨F1,e1,d,s1,R1,p1,h1⟩=>?_)
 cases (show x=d from p1)
 by_cases z:x=true
 ·rw[if_pos z]at h1 ⊢;exact hf σ H1 Q e1 F1 R1 h1
 ·rw[if_neg z]at h1 ⊢;exact hk σ H1 Q e1 F1 R1 h1
def b08(K:W.Frag)(cl:Str→Addr)(r:V→Hp→VK→Prop)(g:D→Option D):Prop:=∀x d z H F Q,Same F H→Rb K cl F H d x→g d=some z→(∀v H' F',Gr H F H' F'→Rp K cl F' z v→Q v H')→r x H Q
def eU(g:D→Option D)(f:ZF):ZF:=fun e=>bnd (f e) fun d e1=>opt (g d) e1
theorem a8A{r:V→Hp→VK→Prop}{g:D→Option D}{t:TE}{f:ZF}(ok:b08 K cl r g)(hf:u5 K cl E t f):u5 K cl E (tUn r t) (eU g f):=by
 intro σ H Q env F R h
 refine hf σ H _ env F R ((Ct.bnd h N3).mono fun x H1 ⟨F1,e1,d,s1,R1,p1,h1⟩=>?_)
 cases hz:g d with
 | none=>rw[hz]at h1;exact h1.elim
 | some z =>
  rw[hz]at h1
  exact ok x d z H1 F1 Q R1.sub (.inl p1) hz fun v H' F' gr p=>h1 v H' F' (R1.frm gr) (R1.gr gr) p
def a0v:D→Option D
 | .int i=>some (.int (-i))
 | _=>none
theorem a6k:b08 K cl (rU fun i=>.int (-i)) a0v:=by
 intro x d z H F Q s hx h q
 unfold a0v at h
 split at h
 ·rename_i i;cases h
  exact⟨i,hx.int,q _ H F (.refl s) (by simp only[Rp])⟩
 ·cases h
def a4K(K:W.Frag)(cl:Str→Addr)(r:List V→Hp→VK→Prop)(g:List D→Option D):Prop:=∀xs ds z H F Q,Same F H→Rps K cl F ds xs→g ds=some z→(∀v H' F',Gr H F H' F'→Rp K cl F' z v→Q v H')→r xs H Q
def CbOk1(K:W.Frag)(cl:Str→Addr)(r:List V→Hp→VK→Prop)(g:D→Option D):Prop:=∀x d z H F Q,Same F H→Rb K cl F H d x→g d=some z→(∀v H' F',Gr H F H' F'→Rp K cl F' z v→Q v H')→r [x] H Q
def V7(g:List D→Option D)(f:AF):ZF:=fun e=>bnd (f e) fun ds e1=>opt (g ds) e1
def B5(g:D→Option D)(i:Nat):ZF:=fun e=>match look e i with
 | some d=>opt (g d) e
 | none=>none
theorem V8{r:List V→Hp→VK→Prop}{g:List D→Option D}{t:TA}{f:AF}(ok:a4K K cl r g)(hf:V6 K cl E t f):u5 K cl E (tCB r t) (V7 g f):=by
 intro σ H Q env F R h
 refine hf σ H _ env F R ((Ct.bnd h N3).mono fun x H1 ⟨F1,e1,d,s1,R1,p1,h1⟩=>?_)
 cases hz:g d with
 | none=>rw[hz]at h1;exact h1.elim
 | some z =>
  rw[hz]at h1
  exact ok x d z H1 F1 Q R1.sub p1 hz fun v H' F' gr p=>h1 v H' F' (R1.frm gr) (R1.gr gr) p
theorem E8{r:List V→Hp→VK→Prop}{g:D→Option D}{i:Nat}(ok:CbOk1 K cl r g):u5 K cl E (tCB r (L3 (D2 i) a0r)) (B5 g i):=by
 intro σ H Q env F R h
 unfold B5 at h
 cases q:look env i with
 | none=>rw[q]at h;exact h.elim
 | some d =>
  rw[q]at h
  obtain⟨x,e,rb⟩:=R.look q
  refine⟨x,e,?_⟩
  cases hz:g d with
  | none=>simp only[hz,a1x]at h;exact h.elim
  | some z =>
   simp only[hz,a1w]at h
   exact ok x d z H F Q R.sub rb hz fun v H' F' gr p=>h v H' F' (R.frm gr) (R.gr gr) p
def g1(g:D→Option D):List D→Option D
 | [d]=>g d
 | _=>none
theorem CbOk1.cb{r:List V→Hp→VK→Prop}{g:D→Option D}(ok:CbOk1 K cl r g):a4K K cl r (g1 g):=by
 intro xs ds z H F Q s hx h q
 unfold g1 at h
 split at h
 ·obtain⟨v,r,rfl,h1,h2⟩:=hx.inv
  rw[h2.inv0]
  exact ok v _ z H F Q s (.inl h1) h q
 ·cases h
def b4_(K:W.Frag)(cl:Str→Addr)(r:List V→Hp→VK→Prop)(g:D→Option (List D)):Prop:=∀x d zs H F Q,Same F H→Rb K cl F H d x→g d=some zs→(∀p xs,H p=none→Rps K cl F zs xs→Q (.ref p) (upd H p (.lst xs)))→r [x] H Q
def nCV(g:D→Option (List D))(i:Nat):NF:=fun e=>match look e i with
 | some d=>opt (g d) e
 | none=>none
theorem a9J{r:List V→Hp→VK→Prop}{g:D→Option (List D)}{i:Nat}(ok:b4_ K cl r g):RfN K cl E (tCB r (L3 (D2 i) a0r)) (nCV g i):=by
 intro σ H Q env F R h
 unfold nCV at h
 cases q:look env i with
 | none=>rw[q]at h;exact h.elim
 | some d =>
  rw[q]at h
  obtain⟨x,e,rb⟩:=R.look q
  refine⟨x,e,?_⟩
  cases hz:g d with
  | none=>simp only[hz,a1x]at h;exact h.elim
  | some z =>
   simp only[hz,a1w]at h
   exact ok x d z H F Q R.sub rb hz fun p xs hp r=>Ct.newN R hp r h
def b5a(K:W.Frag)(cl:Str→Addr)(r:R2)(g:D→D→Option (List D)):Prop:=∀x y d e zs H F Q,Same F H→Rb K cl F H d x→Rb K cl F H e y→g d e=some zs→(∀p xs,H p=none→Rps K cl F zs xs→Q (.ref p) (upd H p (.lst xs)))→r x y H Q
def nB(g:D→D→Option (List D))(f k:ZF):NF:=fun e=>bnd (f e) fun d e1=>bnd (k e1) fun d' e2=>opt (g d d') e2
theorem b58{r:R2}{g:D→D→Option (List D)}{ta tb:TE}{f k:ZF}(ok:b5a K cl r g)(ha:u5 K cl E ta f)(hb:u5 K cl E tb k):RfN K cl E (tOp r ta tb) (nB g f k):=by
 intro σ H Q env F R h
 refine ha σ H _ env F R ((Ct.bnd h a2_).mono fun x H1 ⟨F1,e1,d,s1,R1,p1,h1⟩=>?_)
 refine hb σ H1 _ e1 F1 R1 ((Ct.bnd h1 a2_).mono fun y H2 ⟨F2,e2,e,s2,R2,p2,h2⟩=>?_)
 cases hz:g d e with
 | none=>rw[hz]at h2;exact h2.elim
 | some z =>
  rw[hz]at h2
  exact ok x y d e z H2 F2 Q R2.sub (.inl (Rp.mono s2 _ _ p1)) (.inl p2) hz fun p xs hp r=>Ct.newN R2 hp r h2
end
section
variable {K:W.Frag}{cl:Str→Addr}{E:XK}{σ:St}{H F:Hp}{env:DE}
instance decMul(i j:Int):Decidable (IntMulOk i j):=by unfold IntMulOk;infer_instance
instance decPow(i j:Int):Decidable (a00 i j):=by unfold a00;infer_instance
abbrev w4:=gI0 fun i j=>.int (i+j)
abbrev w9:=gI0 fun i j=>.int (i-j)
abbrev a0a:=gI IntMulOk fun i j=>.int (i*j)
abbrev D4:=gI (fun _ j=>0<j∧j.natAbs.log2<9000) fun i j=>.int (i/j)
abbrev t8:=gI (fun _ j=>0<j) fun i j=>.int (i%j)
abbrev V9:=gI a00 fun i j=>.int (i ^ j.toNat)
abbrev gLt:=gI0 fun i j=>.bl (decide (i<j))
abbrev gLe:=gI0 fun i j=>.bl (decide (i≤j))
abbrev gGt:=gI0 fun i j=>.bl (decide (j<i))
abbrev gGe:=gI0 fun i j=>.bl (decide (j≤i))
theorem A9:OpOk K cl (rI0 fun i j=>.int (i+j)) w4:=a2G fun F i j=>by simp only[Rp]
theorem F8:OpOk K cl (rI0 fun i j=>.int (i-j)) w9:=a2G fun F i j=>by simp only[Rp]
theorem a2j:OpOk K cl (rI IntMulOk fun i j=>.int (i*j)) a0a:=a8z fun F i j=>by simp only[Rp]
theorem N4:OpOk K cl (rI (fun _ j=>0<j∧j.natAbs.log2<9000) fun i j=>.int (i/j)) D4:=a8z fun F i j=>by simp only[Rp]
theorem B1:OpOk K cl (rI (fun _ j=>0<j) fun i j=>.int (i%j)) t8:=a8z fun F i j=>by simp only[Rp]
theorem a3Z:OpOk K cl (rI a00 fun i j=>.int (i ^ j.toNat)) V9:=a8z fun F i j=>by simp only[Rp]
theorem a1y:OpOk K cl (rI0 fun i j=>.bl (decide (i<j))) gLt:=a2G fun F i j=>by simp only[Rp]
theorem b59:OpOk K cl (rI0 fun i j=>.bl (decide (i≤j))) gLe:=a2G fun F i j=>by simp only[Rp]
theorem a30:OpOk K cl (rI0 fun i j=>.bl (decide (j<i))) gGt:=a2G fun F i j=>by simp only[Rp]
theorem a8B:OpOk K cl (rI0 fun i j=>.bl (decide (j≤i))) gGe:=a2G fun F i j=>by simp only[Rp]
def toV:D→Option V
 | .non=>some .non
 | .bl b=>some (.bl b)
 | .int i=>some (.int i)
 | .str x=>some (.str x)
 | _=>none
theorem Rb.toV{d:D}{v u:V}(h:Rb K cl F H d v)(e:toV d=some u):v=u:=by
 cases d with
 | non=>cases e;exact h.non
 | bl b=>cases e;exact h.bl
 | int i=>cases e;exact h.int
 | str x=>cases e;exact h.str
 | _=>cases e
noncomputable def u6(neg:Bool)(d e:D):Option D:=match toV d,toV e with
 | some x,some y=>if a54 x y=true then some (.bl (if neg then !decide (x=y)else decide (x=y)))else none
 | _,_=>none
theorem G9:OpOk K cl rEq (u6 false):=by
 intro x y d e z H F Q s hx hy h q
 unfold u6 at h
 split at h
 ·rename_i u w hu hw
  split at h
  ·rename_i c;cases h
   rw[hx.toV hu,hy.toV hw]
   exact⟨c,q _ H F (.refl s) (by simp only[Rp];rfl)⟩
  ·cases h
 ·cases h
theorem a31:OpOk K cl rNe (u6 true):=by
 intro x y d e z H F Q s hx hy h q
 unfold u6 at h
 split at h
 ·rename_i u w hu hw
  split at h
  ·rename_i c;cases h
   rw[hx.toV hu,hy.toV hw]
   exact⟨c,q _ H F (.refl s) (by simp only[Rp];rfl)⟩
  ·cases h
 ·cases h
@[simp] theorem a7F(neg:Bool)(a b:Int):u6 neg (.int a) (.int b)=some (.bl (if neg then !decide (a=b)else decide (a=b))):=by
 unfold u6 toV
 simp only[a54,if_true,V.int.injEq]
@[simp] theorem b26(neg:Bool)(a b:Str):u6 neg (.str a) (.str b)=some (.bl (if neg then !decide (a=b)else decide (a=b))):=by
 unfold u6 toV
 simp only[a54,if_true,V.str.injEq]
def J9(neg:Bool)(d e:D):Option D:=match d,e with
 | .non,.non=>some (.bl (!neg))
 | _,.non=>some (.bl neg)
 | _,_=>none
theorem Rb.notNon{d:D}{v:V}(h:Rb K cl F H d v)(n:d≠.non):v≠.non:=by
 rcases h with h | ⟨_,_,_,rfl,_⟩
 ·cases d<;>simp only[Rp]at h
  ·exact absurd rfl n
  all_goals first | (rw[h];intro z;cases z) | (obtain⟨_,_,rfl,_⟩:=h;intro z;cases z) | (obtain⟨_,rfl,_⟩:=h;intro z;cases z) | (obtain⟨_,_,_,rfl,_⟩:=h;intro z;cases z)
 ·intro z;cases z
theorem a9K:OpOk K cl (fun x y H Q=>y=.non∧Q (.bl (decide (x=.non))) H) (J9 false):=by
 intro x y d e z H F Q s hx hy h q
 unfold J9 at h
 split at h
 ·cases h;rw[hx.non];exact⟨hy.non,q _ H F (.refl s) (by simp[Rp])⟩
 ·rename_i n;cases h
  exact⟨hy.non,q _ H F (.refl s) (by simp only[Rp];rw[decide_eq_false (hx.notNon n)])⟩
 ·cases h
theorem a4L:OpOk K cl (fun x y H Q=>y=.non∧Q (.bl (!decide (x=.non))) H) (J9 true):=by
 intro x y d e z H F Q s hx hy h q
 unfold J9 at h
 split at h
 ·cases h;rw[hx.non];exact⟨hy.non,q _ H F (.refl s) (by simp[Rp])⟩
 ·rename_i n;cases h
  exact⟨hy.non,q _ H F (.refl s) (by simp only[Rp];rw[decide_eq_false (hx.notNon n)];rfl)⟩
 ·cases h
theorem Rps.atI{ds:List D}{xs:List V}{i:Int}{d:D}(h:Rps K cl F ds xs)(e:atI ds i=some d):∃v,L2.atI xs i=some v∧Rp K cl F d v:=by
 unfold L2.atI at e ⊢
 rw[← h.length]
 cases q:P9 ds.length i with
 | none=>rw[q]at e;cases e
 | some j=>rw[q]at e;exact h.get e
def k8(d e:D):Option D:=match d,e with
 | .lst ds,.int i=>atI ds i
 | .scr ns,.int i=>(atI ns i).map .int
 | _,_=>none
def d6(d e:D):Option D:=match d,e with
 | .tup ds,.int i=>atI ds i
 | _,_=>none
theorem b27{α β:Type}(f:α→β)(xs:List α)(i:Int):atI (xs.map f) i=(atI xs i).map f:=by
 unfold L2.atI
 rw[List.length_map]
 cases P9 xs.length i with
 | none=>rfl
 | some j=>simp
theorem u0:OpOk K cl (b0J K) k8:=by
 intro x y d e z H F Q s hx hy h q
 unfold k8 at h
 split at h
 ·obtain⟨a,xs,rfl,hH,r⟩:=hx.lst s
  obtain⟨v,e,p⟩:=r.atI h
  exact⟨a,xs,_,v,rfl,hy.int,.of hH,e,q v H F (.refl s) p⟩
 ·rename_i ns i
  obtain⟨a,rfl,hS⟩:=hx.scr s
  cases hz:atI ns i with
  | none=>rw[hz]at h;cases h
  | some n =>
   rw[hz]at h;cases h
   exact⟨a,_,_,.int n,rfl,hy.int,hS.seq,by rw[b27,hz];rfl,q _ H F (.refl s) (by simp only[Rp])⟩
 ·cases h
theorem g6:OpOk K cl (b0K K) d6:=by
 intro x y d e z H F Q s hx hy h q
 unfold d6 at h
 split at h
 ·obtain⟨a,xs,rfl,hH,r⟩:=hx.tup s
  obtain⟨v,e,p⟩:=r.atI h
  exact⟨a,xs,_,v,rfl,hy.int,.of hH,e,q v H F (.refl s) p⟩
 ·cases h
def U8:D→D→Bool
 | .non,.non=>true
 | .bl a,.bl b=>a == b
 | .bl a,.int b=>(if a then 1 else 0) == b
 | .int a,.bl b=>a == (if b then 1 else 0)
 | .int a,.int b=>a == b
 | .str a,.str b=>a == b
 | _,_=>false
def a8C:List D→List D→Bool
 | [],[]=>true
 | x::xs,y::ys=>U8 x y && a8C xs ys
 | _,_=>false
def n9:D→Bool
 | .non=>true
 | .bl _=>true
 | .int _=>true
 | .str _=>true
 | _=>false
theorem Rp.flat{d:D}{v:V}(h:Rp K cl F d v)(f:n9 d=true):toV d=some v∧Y8 v=true:=by
 cases d<;>simp only[Rp]at h<;>first | (subst h;exact⟨rfl,rfl⟩) | cases f
theorem Rps.flat:∀{ds:List D} {vs:List V},Rps K cl F ds vs→ds.all n9=true→vs.all Y8=true
 | [],_,h,_=>by rw[h.inv0];rfl
 | d::ds,_,h,f=>by
  obtain⟨v,r,rfl,h1,h2⟩:=h.inv
  rw[List.all_cons,Bool.and_eq_true]at f
  rw[List.all_cons,(h1.flat f.1).2,h2.flat f.2];rfl
theorem Rp.eq{d e:D}{v u:V}(h:Rp K cl F d v)(g:Rp K cl F e u)(fd:n9 d=true)(fe:n9 e=true):eqV v u=U8 d e:=by
 have h1:=(h.flat fd).1
 have h2:=(g.flat fe).1
 cases d<;>cases e<;>first | (cases h1;cases h2;rfl) | (cases fd;done) | (cases fe;done)
theorem Rps.eq:∀{ds es:List D} {vs us:List V},Rps K cl F ds vs→Rps K cl F es us→ds.all n9=true→es.all n9=true→b0U vs us=a8C ds es
 | [],[],_,_,h,g,_,_=>by rw[h.inv0,g.inv0];rfl
 | [],_::_,_,_,h,g,_,_=>by rw[h.inv0];obtain⟨_,_,rfl,_,_⟩:=g.inv;rfl
 | _::_,[],_,_,h,g,_,_=>by rw[g.inv0];obtain⟨_,_,rfl,_,_⟩:=h.inv;rfl
 | d::ds,e::es,_,_,h,g,fd,fe=>by
  obtain⟨v,r,rfl,h1,h2⟩:=h.inv
  obtain⟨u,r',rfl,g1,g2⟩:=g.inv
  rw[List.all_cons,Bool.and_eq_true]at fd fe
  unfold b0U a8C
  rw[h1.eq g1 fd.1 fe.1,h2.eq g2 fd.2 fe.2]
theorem Rps.rep{ds:List D}{xs:List V}(h:Rps K cl F ds xs):∀n:Nat,Rps K cl F (List.replicate n ds).flatten (List.replicate n xs).flatten
 | 0=>.nil
 | n+1=>by rw[List.replicate_succ,List.replicate_succ,List.flatten_cons,List.flatten_cons];exact h.append (h.rep n)
def a3b(d e:D):Option (List D):=match d,e with
 | .lst ds,.int k=>if -(2 ^ 63)≤k∧k<2 ^ 63∧ds.length*k.toNat≤sizeLine then some (List.replicate k.toNat ds).flatten else none
 | _,_=>none
theorem b5b:b5a K cl b4Q a3b:=by
 intro x y d e zs H F Q s hx hy h q
 unfold a3b at h
 split at h
 ·split at h
  ·rename_i ds k c;cases h
   obtain⟨a,xs,rfl,hH,r⟩:=hx.lst s
   exact⟨a,k,xs,rfl,hy.int,hH,c.1,c.2.1,by rw[← r.length];exact c.2.2,fun p hp=>q p _ hp (r.rep _)⟩
  ·cases h
 ·cases h
def v5:D→Option D
 | .lst ds=>some (.int ds.length)
 | .tup ds=>some (.int ds.length)
 | .scr ns=>some (.int ns.length)
 | _=>none
theorem C1:CbOk1 K cl (a7v K) v5:=by
 intro x d z H F Q s hx h q
 unfold v5 at h
 split at h
 ·cases h
  obtain⟨a,xs,rfl,hH,r⟩:=hx.lst s
  exact⟨a,xs,rfl,.inl (.of hH),q _ H F (.refl s) (by simp only[Rp];rw[r.length])⟩
 ·cases h
  obtain⟨a,xs,rfl,hH,r⟩:=hx.tup s
  exact⟨a,xs,rfl,.inr (.of hH),q _ H F (.refl s) (by simp only[Rp];rw[r.length])⟩
 ·cases h
  obtain⟨a,rfl,hS⟩:=hx.scr s
  exact⟨a,_,rfl,.inl hS.seq,q _ H F (.refl s) (by simp only[Rp];rw[List.length_map])⟩
 ·cases h
def a1z:D→Option (List D)
 | .lst ds=>some ds
 | .tup ds=>some ds
 | .scr ns=>some (ns.map .int)
 | _=>none
theorem a7G:b4_ K cl (a7w K) a1z:=by
 intro x d zs H F Q s hx h q
 unfold a1z at h
 split at h
 ·cases h
  obtain⟨a,xs,rfl,hH,r⟩:=hx.lst s
  exact⟨a,xs,rfl,.inl (.of hH),fun p hp=>q p _ hp r⟩
 ·cases h
  obtain⟨a,xs,rfl,hH,r⟩:=hx.tup s
  exact⟨a,xs,rfl,.inr (.of hH),fun p hp=>q p _ hp r⟩
 ·cases h
  obtain⟨a,rfl,hS⟩:=hx.scr s
  exact⟨a,_,rfl,.inl hS.seq,fun p hp=>q p _ hp Rps.ofInts⟩
 ·cases h
end
inductive R1 where | ret (d:D) | own (ds:List D) | owz (dss:List (List D)) | owp (n:Int) (ds:List D) | ex (c:XN)
noncomputable def i9(K:W.Frag)(cl:Str→Addr)(g:List D→Option R1):Sp:=fun vs H Q E=>∃ds F,Same F H∧Rps K cl F ds vs∧match g ds with
 | none=>False
 | some (.ret d)=>∀v H' F',Gr H F H' F'→Rp K cl F' d v→Q v H'
 | some (.own es)=>∀a xs H' F',Gr H F H' F'→H a=none→H' a=some (.lst xs)→F' a=none→Rps K cl F' es xs→Q (.ref a) H'
 | some (.owz dss)=>∀p as H' F',Gr H F H' F'→H p=none→H' p=some (.tup (as.map V.ref))→F' p=none→Rz K cl F' H' (fun a=>H a=none) dss as→Q (.ref p) H'
 | some (.owp n es)=>∀p a xs H' F',Gr H F H' F'→H p=none→H' p=some (.tup [.int n,.ref a])→F' p=none→H a=none→H' a=some (.lst xs)→F' a=none→Rps K cl F' es xs→Q (.ref p) H'
 | some (.ex c)=>∀H' F',Gr H F H' F'→∀cx,Xf K cl F' c cx→E (.ref (cl c.nm)) cx H'
def toZ(r:Option R1)(e:DE):Option (R D):=match r with
 | none=>none
 | some (.ret d)=>some (.ok d e)
 | some (.own ds)=>some (.ok (.lst ds) e)
 | some (.owz _)=>none
 | some (.owp _ _)=>none
 | some (.ex c)=>some (.ex c)
def a1A(r:Option R1)(e:DE):Option (R D):=match r with
 | some (.ret d)=>some (.ok d e)
 | some (.own ds)=>some (.ok (.lst ds) e)
 | _=>none
def Z0(g:List D→Option R1)(f:AF):ZF:=fun e=>bnd (f e) fun ds e1=>toZ (g ds) e1
def h9(g:List D→Option R1)(f:AF):ZF:=fun e=>bnd (f e) fun ds e1=>a1A (g ds) e1
def put(i:Nat)(s:Sl)(e:DE):Option RS:=match e[i]? with
 | none=>none
 | some (.hd _)=>none
 | some _=>some (.nx (e.set i s))
def a32(i:Nat)(r:Option R1)(e:DE):Option RS:=match r with
 | none=>none
 | some (.ret d)=>put i (.fz d) e
 | some (.own ds)=>put i (.ow ds) e
 | some (.owz _)=>none
 | some (.owp _ _)=>none
 | some (.ex c)=>some (.ex c)
def a1d(i:Nat)(r:Option R1)(e:DE):Option RS:=match r with
 | some (.ret d)=>put i (.fz d) e
 | some (.own ds)=>put i (.ow ds) e
 | _=>none
def a5Q(r:Option R1):Option RS:=match r with
 | none=>none
 | some (.ret d)=>some (.rt d)
 | some (.own ds)=>some (.ro ds)
 | some (.owz dss)=>some (.rz dss)
 | some (.owp n ds)=>some (.rp n ds)
 | some (.ex c)=>some (.ex c)
def a9L(r:Option R1):Option RS:=match r with
 | some (.ret d)=>some (.rt d)
 | some (.own ds)=>some (.ro ds)
 | _=>none
def r9:SF:=fun e=>some (.nx e)
def g0(f k:SF):SF:=fun e=>match f e with
 | some (.nx e1)=>k e1
 | r=>r
def m9(i:Nat)(f:ZF):SF:=fun e=>M3 (f e) fun d e1=>put i (.fz d) e1
def w8(i:Nat)(f:NF):SF:=fun e=>M3 (f e) fun ds e1=>put i (.ow ds) e1
def a33(i:Nat)(g:List D→Option R1)(f:AF):SF:=fun e=>M3 (f e) fun ds e1=>a32 i (g ds) e1
def K0(i:Nat)(g:List D→Option R1)(f:AF):SF:=fun e=>M3 (f e) fun ds e1=>a1d i (g ds) e1
def j0(f:ZF):SF:=fun e=>M3 (f e) fun d _=>some (.rt d)
def a8D(f:NF):SF:=fun e=>M3 (f e) fun ds _=>some (.ro ds)
def Z1(i:Nat):SF:=fun e=>match e[i]? with
 | some (.fz d)=>some (.rt d)
 | some (.ow ds)=>some (.ro ds)
 | _=>none
def n8(c:BF)(f k:SF):SF:=fun e=>M3 (c e) fun b e1=>if b=true then f e1 else k e1
def a6o(c:Str)(f:AF):SF:=fun e=>M3 (f e) fun ds _=>if ds.length≤sizeLine then some (.ex (.p c))else none
def E4(i:Nat)(f:ZF):SF:=fun e=>match look e i with
 | some (.lst _)=>M3 (f e) fun d e1=>match e1[i]? with
  | some (.ow ds)=>if ds.length<sizeLine then some (.nx (e1.set i (.ow (ds++[d]))))else none
  | _=>none
 | _=>none
def a04(i:Nat)(k:ZF)(f:ZF):SF:=fun e=>M3 (f e) fun d e1=>match look e1 i with
 | none=>none
 | some _=>M3 (k e1) fun j e2=>match e2[i]?,j with
  | some (.ow ds),.int j=>match P9 ds.length j with
   | some n=>some (.nx (e2.set i (.ow (ds.set n d))))
   | none=>none
  | _,_=>none
section
variable {K:W.Frag}{cl:Str→Addr}{E:XK}{σ:St}{H F:Hp}{env:DE}
theorem Gr.fx{H' F':Hp}(g:Gr H F H' F'):FX σ H F env H' F':=⟨g.fz,g.sub,fun a o h f _=>g.hid a o h f,g.dom⟩
theorem a6p{g:List D→Option R1}{ds:List D}{vs:List V}{Q:VK}(R:Rel K cl σ H F env)(p:Rps K cl F ds vs)(h:Ct K cl E (PZ K cl) (toZ (g ds) env) σ H F env Q):i9 K cl g (vs++[]) H Q E:=by
 rw[List.append_nil]
 refine⟨ds,F,R.sub,p,?_⟩
 unfold toZ at h
 split at h
 ·exact h.elim
 ·exact fun v H' F' gr r=>h v H' F' (R.frm gr) (R.gr gr) r
 ·rename_i es _
  intro a xs H' F' gr ha hH hF r
  have sF:Same F' (upd F' a (.lst xs)):=X4 hF _
  have gr':Gr H F H' (upd F' a (.lst xs)):=by
   refine⟨gr.fz.trans sF,fun b o z=>?_,fun b o hb fb=>?_⟩
   ·by_cases y:b=a
    ·subst y;rw[i8]at z;cases z;exact hH
    ·rw[g5 y]at z;exact gr.sub _ _ z
   ·obtain⟨h1,f1⟩:=gr.hid b o hb fb
    have nb:b≠a:=fun z=>by rw[z,ha]at hb;cases hb
    exact⟨h1,by rw[g5 nb];exact f1⟩
  exact h _ H' _ (R.frm gr') (R.gr gr') (by show Rp K cl _ (.lst es) _;simp only[Rp];exact⟨a,xs,rfl,i8,r.mono sF⟩)
 ·exact h.elim
 ·exact h.elim
 ·exact fun H' F' gr=>h H' F' gr.fx
theorem a7H{r:Option R1}{e:DE}{P:Py D V}{Q:VK}(h:Ct K cl E P (a1A r e) σ H F env Q):toZ r e=a1A r e∧∀c,r≠some (.ex c):=by
 unfold a1A at h
 split at h
 ·exact⟨rfl,fun c z=>by cases z⟩
 ·exact⟨rfl,fun c z=>by cases z⟩
 ·exact h.elim
theorem a2H{g:List D→Option R1}{t:TA}{f:AF}(hf:V6 K cl E t f):u5 K cl E (T8 (i9 K cl g) [] E t) (Z0 g f):=by
 intro σ H Q env F R h
 refine hf σ H _ env F R ((Ct.bnd h N3).mono fun vs H1 ⟨F1,e1,ds,s1,R1,p1,h1⟩=>a6p R1 p1 h1)
theorem r6{g:List D→Option R1}{t:TA}{f:AF}(hf:V6 K cl E t f):u5 K cl E (T8 (i9 K cl g) [] E0 t) (h9 g f):=by
 intro σ H Q env F R h
 refine hf σ H _ env F R ((Ct.bnd h N3).mono fun vs H1 ⟨F1,e1,ds,s1,R1,p1,h1⟩=>?_)
 refine a6p R1 p1 ?_
 obtain⟨z,n⟩:=a7H h1
 rw[z]
 unfold Ct at h1 ⊢
 split at h1
 ·exact h1
 ·exact h1
 ·rename_i c q
  exact absurd q (by unfold a1A;split<;>intro y<;>cases y)
theorem u3:RfS K cl E a79 r9:=fun N σ H env F R h=>h σ H F Frm.refl R
theorem g9{t u:TS}{f k:SF}(hf:RfS K cl E t f)(hk:RfS K cl E u k):RfS K cl E (b0A t u) (g0 f k):=by
 intro N σ H env F R h
 refine hf _ σ H env F R ?_
 unfold g0 at h
 split at h
 ·rename_i e1 q
  rw[q]
  intro σ' H' F' fr R'
  exact hk N σ' H' e1 F' R' (h.from fr)
 ·rename_i n
  unfold Cs at h ⊢
  split at h
  ·exact h
  ·rename_i e q;exact absurd q (n e)
  all_goals exact h
theorem a0w{i:Nat}{s:Sl}{e:DE}{N:Ends}{σ0:St}{H0 F0:Hp}{env0:DE}(h:Cs K cl E (put i s e) σ0 H0 F0 env0 N):i<e.length∧(∀ds,e[i]?≠some (.hd ds))∧Cs K cl E (some (.nx (e.set i s))) σ0 H0 F0 env0 N:=by
 unfold put at h
 split at h
 ·exact h.elim
 ·exact h.elim
 ·rename_i z n q
  exact⟨(List.getElem?_eq_some_iff.mp q).1,fun ds y=>by rw[q]at y;cases y;exact n ds rfl,h⟩
theorem x9{i:Nat}{t:TE}{f:ZF}(hf:u5 K cl E t f):RfS K cl E (X1 t (P8 i)) (m9 i f):=by
 intro N σ H env F R h
 refine hf σ H _ env F R ((Cs.bnd h).mono fun x H1 ⟨F1,e1,d,fr,R1,p1,h1⟩=>?_)
 obtain⟨hi,nh,h2⟩:=a0w h1
 exact h2 _ H1 F1 (fr.trans (Frm.put nh)) (R1.put hi nh p1)
theorem G1{i:Nat}{t:TE}{f:NF}(hf:RfN K cl E t f):RfS K cl E (X1 t (P8 i)) (w8 i f):=by
 intro N σ H env F R h
 refine hf σ H _ env F R ((Cs.bnd h).mono fun x H1 ⟨F1,e1,ds,fr,R1,p1,h1⟩=>?_)
 obtain⟨a,xs,rfl,hn,hH,hF,nm,r⟩:=p1
 obtain⟨hi,nh,h2⟩:=a0w h1
 exact h2 _ H1 F1 (fr.putO hn nh) (R1.putO hi hH hF nm r)
theorem j8{t:TE}{f:ZF}(hf:u5 K cl E t f):RfS K cl E (a4w t) (j0 f):=by
 intro N σ H env F R h
 exact hf σ H _ env F R ((Cs.bnd h).mono fun x H1 ⟨F1,e1,d,fr,R1,p1,h1⟩=>h1 x H1 F1 (fr.toFX R1.sub) p1)
theorem b28{t:TE}{f:NF}(hf:RfN K cl E t f):RfS K cl E (a4w t) (a8D f):=by
 intro N σ H env F R h
 refine hf σ H _ env F R ((Cs.bnd h).mono fun x H1 ⟨F1,e1,ds,fr,R1,p1,h1⟩=>?_)
 obtain⟨a,xs,rfl,hn,hH,hF,nm,r⟩:=p1
 exact h1 a xs H1 F1 (fr.toFX R1.sub) hH hF (fun o e=>by rw[hn]at e;cases e) r
theorem a4M{i:Nat}:RfS K cl E (a4w (D2 i)) (Z1 i):=by
 intro N σ H env F R h
 unfold Z1 at h
 split at h
 ·rename_i d q
  obtain⟨v,e,r⟩:=R.fz i d q
  exact⟨v,e,h v H F (Frm.refl.toFX R.sub) r⟩
 ·rename_i ds q
  obtain⟨a,xs,e,hH,hF,r⟩:=R.mu i ds (.inl q)
  exact⟨_,e,h a xs H F (Frm.refl.toFX R.sub) hH hF (fun o _=>⟨i,.ow ds,True.intro,q,e⟩) r⟩
 ·exact h.elim
theorem m3{c:TT}{t u:TS}{b:BF}{f k:SF}(hc:T6 K cl E c b)(hf:RfS K cl E t f)(hk:RfS K cl E u k):RfS K cl E (b0B c t u) (n8 b f k):=by
 intro N σ H env F R h
 refine hc σ H _ env F R ((Cs.bnd h).mono fun x H1 ⟨F1,e1,d,fr,R1,p1,h1⟩=>?_)
 cases (show x=d from p1)
 by_cases z:x=true
 ·rw[if_pos z]at h1 ⊢;exact hf N σ H1 e1 F1 R1 (h1.from fr)
 ·rw[if_neg z]at h1 ⊢;exact hk N σ H1 e1 F1 R1 (h1.from fr)
theorem b09{c:Str}{t:TA}{f:AF}(hf:V6 K cl E t f):RfS K cl E (a9s (cl c) E t) (a6o c f):=by
 intro N σ H env F R h
 refine hf σ H _ env F R ((Cs.bnd h).mono fun xs H1 ⟨F1,e1,ds,fr,R1,p1,h1⟩=>?_)
 have hl:ds.length=xs.length:=Rps.length p1
 split at h1
 ·rename_i z
  exact⟨by rw[← hl];exact z,h1 H1 F1 (fr.toFX R1.sub) none rfl⟩
 ·exact h1.elim
theorem b29{i:Nat}{g:List D→Option R1}{t:TA}{f:AF}(hf:V6 K cl E t f):RfS K cl E (X1 (T8 (i9 K cl g) [] E t) (P8 i)) (a33 i g f):=by
 intro N σ H env F R h
 refine hf σ H _ env F R ((Cs.bnd h).mono fun vs H1 ⟨F1,e1,ds,fr,R1,p1,h1⟩=>?_)
 show i9 K cl g (vs++[]) H1 _ E
 rw[List.append_nil]
 refine⟨ds,F1,R1.sub,p1,?_⟩
 unfold a32 at h1
 split at h1
 ·exact h1.elim
 ·obtain⟨hi,nh,h2⟩:=a0w h1
  exact fun v H' F' gr r=>h2 _ H' F' ((fr.trans (R1.frm gr)).trans (Frm.put nh)) ((R1.gr gr).put hi nh r)
 ·obtain⟨hi,nh,h2⟩:=a0w h1
  intro a xs H' F' gr ha hH hF r
  refine h2 _ H' F' ((fr.trans (R1.frm gr)).putO (fr.dom a ha) nh) ((R1.gr gr).putO hi hH hF (fun j mj e=>?_) r)
  obtain⟨es,q⟩:=mj
  obtain⟨b,ys,e',hb,_⟩:=R1.mu j es q
  rw[e]at e';cases e'
  rw[ha]at hb;cases hb
 ·exact h1.elim
 ·exact h1.elim
 ·exact fun H' F' gr=>h1 H' F' (fr.fx gr.fx)
theorem a1B{i:Nat}{g:List D→Option R1}{t:TA}{f:AF}(hf:V6 K cl E t f):RfS K cl E (X1 (T8 (i9 K cl g) [] E0 t) (P8 i)) (K0 i g f):=by
 intro N σ H env F R h
 refine hf σ H _ env F R ((Cs.bnd h).mono fun vs H1 ⟨F1,e1,ds,fr,R1,p1,h1⟩=>?_)
 show i9 K cl g (vs++[]) H1 _ E0
 rw[List.append_nil]
 refine⟨ds,F1,R1.sub,p1,?_⟩
 unfold a1d at h1
 split at h1
 ·rename_i q;rw[q]
  obtain⟨hi,nh,h2⟩:=a0w h1
  exact fun v H' F' gr r=>h2 _ H' F' ((fr.trans (R1.frm gr)).trans (Frm.put nh)) ((R1.gr gr).put hi nh r)
 ·rename_i q;rw[q]
  obtain⟨hi,nh,h2⟩:=a0w h1
  intro a xs H' F' gr ha hH hF r
  refine h2 _ H' F' ((fr.trans (R1.frm gr)).putO (fr.dom a ha) nh) ((R1.gr gr).putO hi hH hF (fun j mj e=>?_) r)
  obtain⟨es,q⟩:=mj
  obtain⟨b,ys,e',hb,_⟩:=R1.mu j es q
  rw[e]at e';cases e'
  rw[ha]at hb;cases hb
 ·exact h1.elim
theorem Rel.change{i:Nat}{ds es:List D}{a:Addr}{ys:List V}(R:Rel K cl σ H F env)(h:env[i]? = some (.ow ds))(e:σ[i]? = some (some (.ref a)))(r:Rps K cl F es ys) :
  Rel K cl σ (upd H a (.lst ys)) F (env.set i (.ow es))∧Frm σ H F env σ (upd H a (.lst ys)) F (env.set i (.ow es)):=by
 obtain⟨a',xs,e',hH,hF,_⟩:=R.mu i ds (.inl h)
 rw[e]at e';cases e'
 have hi:i<env.length:=(List.getElem?_eq_some_iff.mp h).1
 have self:(env.set i (.ow es))[i]? = some (.ow es):=List.getElem?_set_self hi
 have oth:∀j,j≠i→(env.set i (.ow es))[j]? = env[j]?:=fun j hj=>List.getElem?_set_ne (Ne.symm hj)
 have mui:∀j,Mu (env.set i (.ow es)) j→Mu env j:=fun j ⟨fs,q⟩=>by
  by_cases z:j=i
  ·subst z;exact⟨ds,.inl h⟩
  ·rw[oth j z]at q;exact⟨fs,q⟩
 refine⟨⟨fun b o q=>?_,by rw[List.length_set];exact R.len,fun j d q=>?_,fun j fs q=>?_,fun j k b hj hk=>R.inj j k b (mui j hj) (mui k hk),(R.od.updL hH).setE a1v⟩,⟨Same.refl _,fun b o hb fb w=>?_,fun j fs q=>?_,fun b q=>?_⟩⟩
 ·have z:b≠a:=fun z=>by rw[z,hF]at q;cases q
  rw[g5 z];exact R.sub _ _ q
 ·have z:j≠i:=fun z=>by subst z;rw[self]at q;cases q
  rw[oth j z]at q;exact R.fz j d q
 ·by_cases z:j=i
  ·subst z
   rw[self]at q
   rcases q with q | q
   ·cases q;exact⟨a,ys,e,i8,hF,r⟩
   ·cases q
  ·rw[oth j z]at q
   obtain⟨b,zs,e1,h1,f1,r1⟩:=R.mu j fs q
   have nb:b≠a:=fun y=>z (R.inj j i b ⟨fs,q⟩ ⟨ds,.inl h⟩ e1 (by rw[y];exact e))
   exact⟨b,zs,e1,by rw[g5 nb];exact h1,f1,r1⟩
 ·have z:b≠a:=fun z=>w ⟨i,.ow ds,True.intro,h,by rw[z];exact e⟩
  refine⟨by rw[g5 z];exact hb,fb,fun⟨j,fs,oo,q,e1⟩=>?_⟩
  by_cases y:j=i
  ·subst y;rw[e]at e1;cases e1;exact z rfl
  ·rw[oth j y]at q;exact w ⟨j,fs,oo,q,e1⟩
 ·have z:j≠i:=fun z=>by subst z;rw[h]at q;cases q
  exact⟨by rw[oth j z];exact q,rfl⟩
 ·by_cases z:b=a
  ·rw[z,i8]at q;cases q
  ·rw[g5 z]at q;exact q
theorem O5{i:Nat}{t:TE}{f:ZF}(hf:u5 K cl E t f):RfS K cl E (a7_ (tBM K "list" a7q (D2 i) (L3 t a0r))) (E4 i f):=by
 intro N σ H env F R h
 unfold E4 at h
 split at h
 ·rename_i ds0 q
  obtain⟨x,e0,rb⟩:=R.look q
  obtain⟨a0,xs0,rfl,hH0,_⟩:=rb.lst R.sub
  refine⟨_,e0,.inl ⟨rfl,xs0,.of hH0⟩,?_⟩
  ·refine hf σ H _ env F R ((Cs.bnd h).mono fun y H1 ⟨F1,e1,d,fr,R1,p1,h1⟩=>?_)
   split at h1
   ·rename_i ds q1
    split at h1
    ·rename_i c
     obtain⟨a,xs,e,hH,hF,r⟩:=R1.mu i ds (.inl q1)
     rw[e0]at e;cases e
     obtain⟨R2,f2⟩:=R1.change q1 e0 (r.append (.one p1))
     exact⟨_,xs,y,rfl,rfl,hH,by rw[← r.length];exact c,h1 σ _ F1 (fr.trans f2) R2⟩
    ·exact h1.elim
   ·exact h1.elim
 ·exact h.elim
theorem a34{i:Nat}{t u:TE}{f k:ZF}(hf:u5 K cl E t f)(hk:u5 K cl E u k):RfS K cl E (X1 t (b0D (D2 i) u a8n)) (a04 i k f):=by
 intro N σ H env F R h
 refine hf σ H _ env F R ((Cs.bnd h).mono fun x H1 ⟨F1,e1,d,fr,R1,p1,h1⟩=>?_)
 cases q:look e1 i with
 | none=>simp only[q]at h1;exact h1.elim
 | some d0 =>
  simp only[q]at h1
  obtain⟨o,e0,_⟩:=R1.look q
  refine⟨o,e0,hk σ H1 _ e1 F1 R1 ((Cs.bnd (h1.from fr)).mono fun y H2 ⟨F2,e2,j,fr2,R2,p2,h2⟩=>?_)⟩
  split at h2
  ·rename_i _ _ ds j q2
   split at h2
   ·rename_i n hn
    obtain⟨a,xs,e,hH,hF,r⟩:=R2.mu i ds (.inl q2)
    rw[e0]at e;cases e
    obtain⟨R3,f3⟩:=R2.change q2 e0 (r.set (Rp.mono fr2.fz _ _ p1) n)
    have hy:y=.int j:=by have:=(show Rp K cl F2 (.int j) y from p2);simpa only[Rp]using this
    exact⟨a,xs,j,n,rfl,hy,hH,by rw[← r.length];exact hn,h2 σ _ F2 (fr2.trans f3) R3⟩
   ·exact h2.elim
  ·exact h2.elim
end
abbrev GF:=D→DE→Option DE
def h7(i:Nat):GF:=fun d e=>match e[i]? with
 | none=>none
 | some (.hd _)=>none
 | some _=>some (e.set i (.fz d))
def a1C:List GF→List D→DE→Option DE
 | [],[],e=>some e
 | b::bs,d::ds,e=>match b d e with
  | none=>none
  | some e1=>a1C bs ds e1
 | _,_,_=>none
def C7(bs:List GF):GF:=fun d e=>match d with
 | .tup ds=>a1C bs ds e
 | _=>none
section
variable (K:W.Frag)(cl:Str→Addr)
def RfG(k:Nat)(g:TG)(b:GF):Prop:=∀v σ H Q d env env' F,Rel K cl σ H F env→Rp K cl F d v→b d env=some env'→(∀σ',σ'.drop k=σ.drop k→σ'.length=σ.length→Frm σ H F env σ' H F env'→Rel K cl σ' H F env'→Q σ' H)→g v σ H Q
def a8E(k:Nat)(t:TGs)(bs:List GF):Prop:=∀vs σ H Q ds env env' F,Rel K cl σ H F env→Rps K cl F ds vs→a1C bs ds env=some env'→(∀σ',σ'.drop k=σ.drop k→σ'.length=σ.length→Frm σ H F env σ' H F env'→Rel K cl σ' H F env'→Q σ' H)→t vs σ H Q
end
section
variable {K:W.Frag}{cl:Str→Addr}{E:XK}{σ:St}{H F:Hp}{env:DE}{k:Nat}
theorem b0_{α:Type}{l:List α}{i k:Nat}{x:α}(h:i<k):(l.set i x).drop k=l.drop k:=by
 apply List.ext_getElem?
 intro j
 rw[List.getElem?_drop,List.getElem?_drop,List.getElem?_set_ne (by omega)]
theorem n6{i:Nat}(hi:i<k):RfG K cl k (P8 i) (h7 i):=by
 intro v σ H Q d env env' F R p h q
 unfold h7 at h
 split at h
 ·cases h
 ·cases h
 ·rename_i z n e
  cases h
  have nh:∀ds,env[i]?≠some (.hd ds):=fun ds y=>by rw[e]at y;cases y;exact n ds rfl
  exact q _ (b0_ hi) List.length_set (Frm.put nh) (R.put (List.getElem?_eq_some_iff.mp e).1 nh p)
theorem U9:a8E K cl k a8a []:=by
 intro vs σ H Q ds env env' F R p h q
 cases ds with
 | nil=>cases h;exact⟨p.inv0,q σ rfl rfl Frm.refl R⟩
 | cons _ _=>cases h
theorem A5{t:TG}{u:TGs}{b:GF}{bs:List GF}(h1:RfG K cl k t b)(h2:a8E K cl k u bs):a8E K cl k (a1o t u) (b::bs):=by
 intro vs σ H Q ds env env' F R p h q
 cases ds with
 | nil=>cases h
 | cons d ds =>
  obtain⟨v,r,rfl,p1,p2⟩:=p.inv
  unfold a1C at h
  split at h
  ·cases h
  ·rename_i e1 hb
   refine⟨v,r,rfl,h1 v σ H _ d env e1 F R p1 hb fun σ1 d1 l1 f1 R1=>?_⟩
   exact h2 r σ1 H _ ds e1 env' F R1 p2 h fun σ2 d2 l2 f2 R2=>q σ2 (d2.trans d1) (l2.trans l1) (f1.trans f2) R2
theorem a5l:∀{bs:List GF} {ds:List D} {e e':DE},a1C bs ds e=some e'→ds.length=bs.length
 | [],[],_,_,_=>rfl
 | [],_::_,_,_,h=>by cases h
 | _::_,[],_,_,h=>by cases h
 | b::bs,d::ds,e,e',h=>by
  unfold a1C at h
  split at h
  ·cases h
  ·simp[a5l h]
theorem V0{t:TGs}{bs:List GF}{n:Nat}(h:a8E K cl k t bs)(hn:bs.length=n):RfG K cl k (a50 K n t) (C7 bs):=by
 intro v σ H Q d env env' F R p e q
 unfold C7 at e
 split at e
 ·rename_i ds
  simp only[Rp]at p
  obtain⟨a,xs,rfl,hF,r⟩:=p
  exact⟨a,xs,rfl,.of (R.sub _ _ hF),by rw[← r.length,a5l e,hn],h xs σ H Q ds env env' F R r e q⟩
 ·cases e
def a05(f:ZF)(b:GF):SF:=fun e=>M3 (f e) fun d e1=>match b d e1 with
 | none=>none
 | some e2=>some (.nx e2)
theorem a2k{t:TE}{g:TG}{f:ZF}{b:GF}(hf:u5 K cl E t f)(hg:RfG K cl k g b):RfS K cl E (X1 t g) (a05 f b):=by
 intro N σ H env F R h
 refine hf σ H _ env F R ((Cs.bnd h).mono fun x H1 ⟨F1,e1,d,fr,R1,p1,h1⟩=>?_)
 split at h1
 ·exact h1.elim
 ·rename_i e2 hb
  exact hg x σ H1 _ d e1 e2 F1 R1 p1 hb fun σ' _ _ f2 R2=>h1 σ' H1 F1 (fr.trans f2) R2
def B3(b:GF)(body:SF):List D→DE→Option RS
 | [],e=>some (.nx e)
 | d::ds,e=>match b d e with
  | none=>none
  | some e1=>match body e1 with
   | some (.nx e2)=>B3 b body ds e2
   | some (.ct e2)=>B3 b body ds e2
   | some (.bk e2)=>some (.nx e2)
   | r=>r
theorem a3c{b:GF}{body:SF}{g:TG}{tb:TS}{d:D}{x:V}{ds:List D}{e1:DE}{N:Ends}{σ1:St}{H1 F1:Hp}{Pv:St→Hp→Prop}(hb:RfS K cl E tb body)(hg:RfG K cl k g b)
  (f1:Frm σ H F env σ1 H1 F1 e1) (R1:Rel K cl σ1 H1 F1 e1) (p:Rp K cl F1 d x) (h:Cs K cl E (B3 b body (d::ds) e1) σ H F env N)
  (hP:∀σ' H' F' e',Frm σ H F env σ' H' F' e'→Rel K cl σ' H' F' e'→Cs K cl E (B3 b body ds e') σ H F env N→Pv σ' H') :
  g x σ1 H1 fun σ2 H2=>tb { N with nx:=Pv,ct:=Pv,bk:=N.nx } σ2 H2:=by
 unfold B3 at h
 split at h
 ·exact h.elim
 ·rename_i e2 hbd
  refine hg x σ1 H1 _ d e1 e2 F1 R1 p hbd fun σ2 _ _ f2 R2=>?_
  refine hb _ σ2 H1 e2 F1 R2 ?_
  split at h
  ·rename_i e3 q;rw[q]
   exact fun σ' H' F' f3 R3=>hP σ' H' F' e3 ((f1.trans f2).trans f3) R3 h
  ·rename_i e3 q;rw[q]
   exact fun σ' H' F' f3 R3=>hP σ' H' F' e3 ((f1.trans f2).trans f3) R3 h
  ·rename_i e3 q;rw[q]
   exact fun σ' H' F' f3 R3=>h σ' H' F' ((f1.trans f2).trans f3) R3
  ·rename_i n1 n2 n3
   have h2:=h.from (f1.trans f2)
   unfold Cs at h2 ⊢
   split at h2
   ·exact h2
   ·rename_i e q;exact absurd q (n1 e)
   ·rename_i e q;exact absurd q (n3 e)
   ·rename_i e q;exact absurd q (n2 e)
   ·exact h2
   ·exact h2
   ·exact h2
   ·exact h2
   ·exact h2
theorem a0R{α:Type}{l:List α}{i:Nat}{x:α}(h:l[i]? = some x):l.drop i=x::l.drop (i+1):=by
 obtain⟨hi,e⟩:=List.getElem?_eq_some_iff.mp h
 rw[← e];exact List.drop_eq_getElem_cons hi
theorem a8F{b:GF}{body:SF}{g:TG}{tb:TS}{ds:List D}{xs:List V}{a:Addr}{N:Ends}(hb:RfS K cl E tb body)(hg:RfG K cl k g b)(R:Rel K cl σ H F env)
  (hl:∀σ' H' F' e',Frm σ H F env σ' H' F' e'→Rel K cl σ' H' F' e'→SqL K H' a xs) (r:Rps K cl F ds xs) (h:Cs K cl E (B3 b body ds env) σ H F env N) :
  ∃W:Nat→Nat→St→Hp→Prop,(∃m,W 0 m σ H)∧∀i m σ H,W i m σ H →
   ((Itl K a).stop i H∧N.nx σ H)∨((Itl K a).go i H∧∃M:St→Hp→Prop,(∀σ' H',M σ' H'→∃m',m'<m∧W (i+1) m' σ' H')∧∀x H',(Itl K a).yld i H x H'→g x σ H' fun σ2 H2=>tb { N with nx:=M,ct:=M,bk:=N.nx } σ2 H2):=by
 refine b0F (xs:=xs) (fun i σ' H'=>∃F' e',Frm σ H F env σ' H' F' e'∧Rel K cl σ' H' F' e'∧Cs K cl E (B3 b body (ds.drop i) e') σ H F env N) ⟨F,env,Frm.refl,R,h⟩ (fun i σ' H' _ ⟨F',e',f,R',_⟩=>hl σ' H' F' e' f R') (fun i x σ' H' hx ⟨F',e',f,R',h'⟩=>?_) (fun σ' H' ⟨F',e',f,R',h'⟩=>?_)
 ·obtain⟨d,hd,p⟩:=r.get' hx
  rw[a0R hd]at h'
  exact a3c hb hg f R' (Rp.mono f.fz _ _ p) h' fun σ2 H2 F2 e2 f2 R2 h2=>⟨F2,e2,f2,R2,h2⟩
 ·rw[← r.length,List.drop_length]at h'
  exact h' σ' H' F' f R'
theorem b6L{b:GF}{body:SF}{g:TG}{tb:TS}{ds:List D}{xs:List V}{a:Addr}{N:Ends}(hb:RfS K cl E tb body)(hg:RfG K cl k g b)(R:Rel K cl σ H F env)
  (hl:∀σ' H' F' e',Frm σ H F env σ' H' F' e'→Rel K cl σ' H' F' e'→SqT K H' a xs) (r:Rps K cl F ds xs) (h:Cs K cl E (B3 b body ds env) σ H F env N) :
  ∃W:Nat→Nat→St→Hp→Prop,(∃m,W 0 m σ H)∧∀i m σ H,W i m σ H →
   ((Itt K a).stop i H∧N.nx σ H)∨((Itt K a).go i H∧∃M:St→Hp→Prop,(∀σ' H',M σ' H'→∃m',m'<m∧W (i+1) m' σ' H')∧∀x H',(Itt K a).yld i H x H'→g x σ H' fun σ2 H2=>tb { N with nx:=M,ct:=M,bk:=N.nx } σ2 H2):=by
 refine b2I (xs:=xs) (fun i σ' H'=>∃F' e',Frm σ H F env σ' H' F' e'∧Rel K cl σ' H' F' e'∧Cs K cl E (B3 b body (ds.drop i) e') σ H F env N) ⟨F,env,Frm.refl,R,h⟩ (fun i σ' H' _ ⟨F',e',f,R',_⟩=>hl σ' H' F' e' f R') (fun i x σ' H' hx ⟨F',e',f,R',h'⟩=>?_) (fun σ' H' ⟨F',e',f,R',h'⟩=>?_)
 ·obtain⟨d,hd,p⟩:=r.get' hx
  rw[a0R hd]at h'
  exact a3c hb hg f R' (Rp.mono f.fz _ _ p) h' fun σ2 H2 F2 e2 f2 R2 h2=>⟨F2,e2,f2,R2,h2⟩
 ·rw[← r.length,List.drop_length]at h'
  exact h' σ' H' F' f R'
def seqL:D→Option (List D)
 | .lst ds=>some ds
 | .scr ns=>some (ns.map .int)
 | _=>none
theorem Rp.seqL{d:D}{ds:List D}{v:V}(p:Rp K cl F d v)(s:L2.seqL d=some ds):∃a xs,v=.ref a∧Rps K cl F ds xs∧∀H',Same F H'→SqL K H' a xs:=by
 unfold L2.seqL at s
 split at s
 ·cases s;simp only[Rp]at p
  obtain⟨a,xs,e,h,r⟩:=p
  exact⟨a,xs,e,r,fun H' g=>.of (g _ _ h)⟩
 ·cases s;simp only[Rp]at p
  obtain⟨a,e,h⟩:=p
  exact⟨a,_,e,Rps.ofInts,fun H' g=>(h.same g).seq⟩
 ·cases s
def W0(f:ZF)(b:GF)(body:SF):SF:=fun e=>M3 (f e) fun d e1=>match seqL d with
 | none=>none
 | some ds=>B3 b body ds e1
theorem a9M{t:TE}{g:TG}{tb:TS}{f:ZF}{b:GF}{body:SF}(hf:u5 K cl E t f)(hg:RfG K cl k g b)(hb:RfS K cl E tb body):RfS K cl E (a52 (a3x K t) g tb) (W0 f b body):=by
 intro N σ H env F R h
 refine hf σ H _ env F R ((Cs.bnd h).mono fun x H1 ⟨F1,e1,d,fr,R1,p1,h1⟩=>?_)
 split at h1
 ·exact h1.elim
 ·rename_i ds hs
  obtain⟨a,xs,rfl,r,hl⟩:=Rp.seqL p1 hs
  exact⟨a,rfl,⟨xs,hl H1 R1.sub⟩,a8F hb hg R1 (fun σ' H' F' e' f2 R2=>hl H' (f2.fz.trans R2.sub)) r (h1.from fr)⟩
def a35(f:ZF)(b:GF)(body:SF):SF:=fun e=>M3 (f e) fun d e1=>match d with
 | .tup ds=>B3 b body ds e1
 | _=>none
theorem b2_{t:TE}{g:TG}{tb:TS}{f:ZF}{b:GF}{body:SF}(hf:u5 K cl E t f)(hg:RfG K cl k g b)(hb:RfS K cl E tb body):RfS K cl E (a52 (b4C K t) g tb) (a35 f b body):=by
 intro N σ H env F R h
 refine hf σ H _ env F R ((Cs.bnd h).mono fun x H1 ⟨F1,e1,d,fr,R1,p1,h1⟩=>?_)
 split at h1
 ·have p1:=(show Rp K cl F1 (.tup _) x from p1)
  simp only[Rp]at p1
  obtain⟨a,xs,rfl,hF,r⟩:=p1
  exact⟨a,rfl,⟨xs,.of (R1.sub _ _ hF)⟩,b6L hb hg R1 (fun σ' H' F' e' f2 R2=>.of (R2.sub _ _ (f2.fz _ _ hF))) r (h1.from fr)⟩
 ·exact h1.elim
def a0b(lo:Int)(n:Nat):List D:=(List.range n).map fun(i:Nat)=>.int (lo+(i:Int))
theorem a9N{lo:Int}{n i:Nat}(h:i<n):(a0b lo n).drop i=.int (lo+i)::(a0b lo n).drop (i+1):=a0R (by unfold a0b;rw[List.getElem?_map,List.getElem?_range h];rfl)
theorem b1a{lo:Int}{n:Nat}:(a0b lo n).length=n:=by unfold a0b;rw[List.length_map,List.length_range]
theorem b6M{b:GF}{body:SF}{g:TG}{tb:TS}{lo:Int}{n:Nat}{N:Ends}(hb:RfS K cl E tb body)(hg:RfG K cl k g b)(R:Rel K cl σ H F env)(h:Cs K cl E (B3 b body (a0b lo n) env) σ H F env N) :
  ∃W:Nat→Nat→St→Hp→Prop,(∃m,W 0 m σ H)∧∀i m σ H,W i m σ H →
   ((Itr lo n).stop i H∧N.nx σ H)∨((Itr lo n).go i H∧∃M:St→Hp→Prop,(∀σ' H',M σ' H'→∃m',m'<m∧W (i+1) m' σ' H')∧∀x H',(Itr lo n).yld i H x H'→g x σ H' fun σ2 H2=>tb { N with nx:=M,ct:=M,bk:=N.nx } σ2 H2):=by
 refine a9e (fun i σ' H'=>∃F' e',Frm σ H F env σ' H' F' e'∧Rel K cl σ' H' F' e'∧Cs K cl E (B3 b body ((a0b lo n).drop i) e') σ H F env N) ⟨F,env,Frm.refl,R,h⟩ (fun i σ' H' hx ⟨F',e',f,R',h'⟩=>?_) (fun σ' H' ⟨F',e',f,R',h'⟩=>?_)
 ·rw[a9N hx]at h'
  exact a3c hb hg f R' (by simp only[Rp]) h' fun σ2 H2 F2 e2 f2 R2 h2=>⟨F2,e2,f2,R2,h2⟩
 ·rw[show(a0b lo n).drop n=[]from List.drop_eq_nil_of_le (by rw[b1a];exact Nat.le_refl _)]at h'
  exact h' σ' H' F' f R'
def W1(ds:List D):Option (Int×Nat):=match ds with
 | [.int j]=>if -(2 ^ 62)≤j∧j<2 ^ 62 then some (0,j.toNat)else none
 | _=>none
theorem b3a{ds:List D}{vs:List V}{lo:Int}{n:Nat}(h:W1 ds=some (lo,n))(p:Rps K cl F ds vs):∃j:Int,vs=[.int j]∧-(2 ^ 62)≤j∧j<2 ^ 62∧lo=0∧n=j.toNat:=by
 unfold W1 at h
 split at h
 ·rename_i j
  split at h
  ·rename_i c;cases h
   exact⟨j,(Rps.ints (ns:=[j]) p),c.1,c.2,rfl,rfl⟩
  ·cases h
 ·cases h
def R7(rg:List D→Option (Int×Nat))(f:AF)(b:GF)(body:SF):SF:=fun e=>M3 (f e) fun ds e1=>match rg ds with
 | none=>none
 | some (lo,n)=>B3 b body (a0b lo n) e1
theorem a0x{t:TA}{g:TG}{tb:TS}{f:AF}{b:GF}{body:SF}(hf:V6 K cl E t f)(hg:RfG K cl k g b)(hb:RfS K cl E tb body):RfS K cl E (a52 (b1Z t) g tb) (R7 W1 f b body):=by
 intro N σ H env F R h
 refine hf σ H _ env F R ((Cs.bnd h).mono fun x H1 ⟨F1,e1,ds,fr,R1,p1,h1⟩=>?_)
 split at h1
 ·exact h1.elim
 ·rename_i lo n hs
  obtain⟨j,e,c1,c2,rfl,rfl⟩:=b3a hs p1
  exact⟨j,e,c1,c2,b6M hb hg R1 (h1.from fr)⟩
def D7(c:BF)(body:SF):Nat→SF
 | 0,_=>none
 | n+1,e=>M3 (c e) fun b e1=>if b=true then(match body e1 with
   | some (.nx e2)=>D7 c body n e2
   | some (.ct e2)=>D7 c body n e2
   | some (.bk e2)=>some (.nx e2)
   | r=>r)else some (.nx e1)
theorem a6q{tc:TT}{tb:TS}{c:BF}{body:SF}{n:Nat}(hc:T6 K cl E tc c)(hb:RfS K cl E tb body):RfS K cl E (a9b tc tb) (D7 c body n):=by
 intro N σ H env F R h
 refine⟨fun m σ' H'=>∃F' e',Rel K cl σ' H' F' e'∧Cs K cl E (D7 c body m e') σ' H' F' e' N,⟨n,F,env,R,h⟩,?_⟩
 rintro m σ1 H1 ⟨F1,e1,R1,h1⟩
 cases m with
 | zero=>exact h1.elim
 | succ m =>
  refine hc σ1 H1 _ e1 F1 R1 ((Cs.bnd h1).mono fun x H2 ⟨F2,e2,d,f2,R2,p2,h2⟩=>?_)
  cases (show x=d from p2)
  by_cases z:x=true
  ·rw[if_pos z]at h2 ⊢
   refine⟨fun σ' H'=>∃F' e',Rel K cl σ' H' F' e'∧Cs K cl E (D7 c body m e') σ' H' F' e' N,fun σ' H' q=>⟨m,Nat.lt_succ_self m,q⟩,?_⟩
   refine hb _ σ1 H2 e2 F2 R2 ?_
   split at h2
   ·rename_i e3 q;rw[q]
    exact fun σ' H' F' f3 R3=>⟨F',e3,R3,h2.from (f2.trans f3)⟩
   ·rename_i e3 q;rw[q]
    exact fun σ' H' F' f3 R3=>⟨F',e3,R3,h2.from (f2.trans f3)⟩
   ·rename_i e3 q;rw[q]
    exact fun σ' H' F' f3 R3=>h2 σ' H' F' (f2.trans f3) R3
   ·rename_i n1 n2 n3
    have h3:=h2.from f2
    unfold Cs at h3 ⊢
    split at h3
    ·exact h3
    ·rename_i e q;exact absurd q (n1 e)
    ·rename_i e q;exact absurd q (n3 e)
    ·rename_i e q;exact absurd q (n2 e)
    ·exact h3
    ·exact h3
    ·exact h3
    ·exact h3
    ·exact h3
  ·rw[if_neg z]at h2 ⊢;exact h2 σ1 H2 F2 f2 R2
end
section
variable {K:W.Frag}{cl:Str→Addr}{E:XK}{σ:St}{H F:Hp}{env:DE}{k:Nat}
def unhide(i:Nat)(ds:List D)(r:Option RS):Option RS:=match r with
 | some (.nx e)=>some (.nx (e.set i (.ow ds)))
 | some (.bk _)=>none
 | some (.ct _)=>none
 | r=>r
theorem Rel.hide{i:Nat}{ds:List D}(R:Rel K cl σ H F env)(h:env[i]? = some (.ow ds)):Rel K cl σ H F (env.set i (.hd ds)):=by
 have hi:i<env.length:=(List.getElem?_eq_some_iff.mp h).1
 have self:(env.set i (.hd ds))[i]? = some (.hd ds):=List.getElem?_set_self hi
 have oth:∀j,j≠i→(env.set i (.hd ds))[j]? = env[j]?:=fun j hj=>List.getElem?_set_ne (Ne.symm hj)
 have mui:∀(j:Nat) (fs:List D),(env.set i (.hd ds))[j]? = some (.ow fs)∨(env.set i (.hd ds))[j]? = some (.hd fs)→env[j]? = some (.ow fs)∨env[j]? = some (.hd fs):=fun j fs q=>by
  by_cases z:j=i
  ·subst z;rw[self]at q;rcases q with q | q<;>cases q;exact .inl h
  ·rw[oth j z]at q;exact q
 refine⟨R.sub,by rw[List.length_set];exact R.len,fun j d q=>?_,fun j fs q=>R.mu j fs (mui j fs q),fun j l b ⟨fs,q⟩ ⟨gs,q'⟩=>R.inj j l b ⟨fs,mui j fs q⟩ ⟨gs,mui l gs q'⟩,R.od.setE a3Y⟩
 have z:j≠i:=fun z=>by subst z;rw[self]at q;cases q
 rw[oth j z]at q;exact R.fz j d q
theorem Ow.hide{i:Nat}{ds:List D}{a:Addr}(w:Ow σ (env.set i (.hd ds)) a):Ow σ env a:=by
 obtain⟨j,fs,oo,q,e⟩:=w
 by_cases z:j=i
 ·subst z
  have hj:j<env.length:=by have:=(List.getElem?_eq_some_iff.mp q).1;rwa [List.length_set]at this
  rw[List.getElem?_set_self hj]at q;cases q;exact oo.elim
 ·rw[List.getElem?_set_ne (Ne.symm z)]at q;exact⟨j,fs,oo,q,e⟩
theorem Rel.unhide{i:Nat}{ds:List D}(R:Rel K cl σ H F env)(h:env[i]? = some (.hd ds)):Rel K cl σ H F (env.set i (.ow ds)):=by
 have hi:i<env.length:=(List.getElem?_eq_some_iff.mp h).1
 have self:(env.set i (.ow ds))[i]? = some (.ow ds):=List.getElem?_set_self hi
 have oth:∀j,j≠i→(env.set i (.ow ds))[j]? = env[j]?:=fun j hj=>List.getElem?_set_ne (Ne.symm hj)
 have mui:∀(j:Nat) (fs:List D),(env.set i (.ow ds))[j]? = some (.ow fs)∨(env.set i (.ow ds))[j]? = some (.hd fs)→env[j]? = some (.ow fs)∨env[j]? = some (.hd fs):=fun j fs q=>by
  by_cases z:j=i
  ·subst z;rw[self]at q;rcases q with q | q<;>cases q;exact .inr h
  ·rw[oth j z]at q;exact q
 refine⟨R.sub,by rw[List.length_set];exact R.len,fun j d q=>?_,fun j fs q=>R.mu j fs (mui j fs q),fun j l b ⟨fs,q⟩ ⟨gs,q'⟩=>R.inj j l b ⟨fs,mui j fs q⟩ ⟨gs,mui l gs q'⟩,R.od.setE a1v⟩
 have z:j≠i:=fun z=>by subst z;rw[self]at q;cases q
 rw[oth j z]at q;exact R.fz j d q
theorem Cs.hide{i:Nat}{ds:List D}{r:Option RS}{N:Ends}(R:Rel K cl σ H F env)(h:env[i]? = some (.ow ds))(c:Cs K cl E (unhide i ds r) σ H F env N):Cs K cl E r σ H F (env.set i (.hd ds)) N:=by
 have hi:i<env.length:=(List.getElem?_eq_some_iff.mp h).1
 have self:(env.set i (.hd ds))[i]? = some (.hd ds):=List.getElem?_set_self hi
 have fx:∀{H' F'},FX σ H F (env.set i (.hd ds)) H' F'→FX σ H F env H' F':=fun x=>⟨x.fz,x.sub,fun a o h f w=>x.hid a o h f fun y=>w y.hide,x.dom⟩
 rcases r with _ | r
 ·exact c
 cases r with
 | nx e =>
  intro σ' H' F' f R'
  obtain⟨q,eσ⟩:=f.keep i ds self
  refine c σ' H' F' ⟨f.fz,fun a o ha fa w=>?_,fun j fs q'=>?_,f.dom⟩ (R'.unhide q)
  ·obtain⟨h1,f1,w1⟩:=f.hid a o ha fa fun y=>w y.hide
   refine⟨h1,f1,fun⟨j,fs,oo,q2,e2⟩=>?_⟩
   by_cases z:j=i
   ·subst z
    rw[eσ]at e2
    exact w ⟨j,.ow ds,True.intro,h,e2⟩
   ·rw[List.getElem?_set_ne (Ne.symm z)]at q2
    exact w1 ⟨j,fs,oo,q2,e2⟩
  ·have z:j≠i:=fun z=>by subst z;rw[h]at q';cases q'
   obtain⟨q2,e2⟩:=f.keep j fs (by rw[List.getElem?_set_ne (Ne.symm z)];exact q')
   exact⟨by rw[List.getElem?_set_ne (Ne.symm z)];exact q2,e2⟩
 | bk e=>exact c.elim
 | ct e=>exact c.elim
 | rt d=>exact fun v H' F' x p=>c v H' F' (fx x) p
 | ro es=>exact fun a xs H' F' x ha fa nw p=>c a xs H' F' (fx x) ha fa (fun o e=>(nw o e).hide) p
 | rp n es=>exact fun p a xs H' F' x hp ht fp ha fa nw r=>c p a xs H' F' (fx x) hp ht fp ha fa (fun o e=>(nw o e).hide) r
 | rz dss=>exact fun p as H' F' x hp ht fp rz=>c p as H' F' (fx x) hp ht fp (rz.imp fun a xs ha fa nw o e=>(nw o e).hide)
 | ex n=>exact fun H' F' x=>c H' F' (fx x)
def a1D(i:Nat)(b:GF)(body:SF):SF:=fun e=>match e[i]? with
 | some (.fz d)=>(match seqL d with
  | none=>none
  | some ds=>B3 b body ds e)
 | some (.ow ds)=>unhide i ds (B3 b body ds (e.set i (.hd ds)))
 | some (.hd ds)=>B3 b body ds e
 | _=>none
theorem Rel.hid_stays{i:Nat}{ds:List D}(R:Rel K cl σ H F env)(h:env[i]? = some (.hd ds)):∃a xs,σ[i]? = some (some (.ref a))∧Rps K cl F ds xs∧H a=some (.lst xs)∧∀σ' H' F' e',Frm σ H F env σ' H' F' e'→H' a=some (.lst xs):=by
 obtain⟨a,xs,e,hH,hF,r⟩:=R.mu i ds (.inr h)
 refine⟨a,xs,e,r,hH,fun σ' H' F' e' f=>(f.hid a _ hH hF fun⟨j,fs,oo,q,e'⟩=>?_).1⟩
 cases fs with
 | ow fs =>
  have z:i=j:=R.inj i j a ⟨ds,.inr h⟩ ⟨fs,.inl q⟩ e e'
  subst z;rw[h]at q;cases q
 | od ks fs =>
  obtain⟨a',xs',e2,h2,_⟩:=R.od.at_ j _ ks fs q ⟨rfl,rfl⟩
  rw[e']at e2;cases e2
  rw[hH]at h2
  exact a2F (Option.some.inj h2).symm
 | no=>exact oo
 | fz _=>exact oo
 | hd _=>exact oo
 | hk _ _=>exact oo
theorem a4N{i:Nat}{g:TG}{tb:TS}{b:GF}{body:SF}(hg:RfG K cl k g b)(hb:RfS K cl E tb body):RfS K cl E (a52 (a3x K (D2 i)) g tb) (a1D i b body):=by
 intro N σ H env F R h
 unfold a1D at h
 split at h
 ·rename_i d q
  split at h
  ·exact h.elim
  ·rename_i ds hs
   obtain⟨v,e,p⟩:=R.fz i d q
   obtain⟨a,xs,rfl,r,hl⟩:=Rp.seqL p hs
   exact⟨_,e,a,rfl,⟨xs,hl H R.sub⟩,a8F hb hg R (fun σ' H' F' e' f2 R2=>hl H' (f2.fz.trans R2.sub)) r h⟩
 ·rename_i ds q
  have hi:i<env.length:=(List.getElem?_eq_some_iff.mp q).1
  have R':=R.hide q
  obtain⟨a,xs,e,r,hH,st⟩:=R'.hid_stays (i:=i) (ds:=ds) (List.getElem?_set_self hi)
  exact⟨_,e,a,rfl,⟨xs,.of hH⟩,a8F hb hg R' (fun σ' H' F' e' f2 R2=>.of (st σ' H' F' e' f2)) r (h.hide R q)⟩
 ·rename_i ds q
  obtain⟨a,xs,e,r,hH,st⟩:=R.hid_stays q
  exact⟨_,e,a,rfl,⟨xs,.of hH⟩,a8F hb hg R (fun σ' H' F' e' f2 R2=>.of (st σ' H' F' e' f2)) r h⟩
 ·exact h.elim
def a4O(e:DE):Bool:=e.all fun s=>match s with
 | .hd _=>false
 | _=>true
noncomputable def b5c(n i:Nat)(exm:Str→Bool)(body suite:SF):SF:=fun e=>match body e with
 | some (.ex (.v _ _ _))=>none
 | some (.ex (.p c))=>if(exm c && a4O e)=true then(match suite ((List.replicate n Sl.no).set i (.fz (.exc c)))with
   | some (.nx e2)=>put i .no e2
   | some (.rt d)=>some (.rt d)
   | some (.ro ds)=>some (.ro ds)
   | _=>none)else none
 | r=>r
theorem Rel.drop{i:Nat}(R:Rel K cl σ H F env)(nh:∀ds,env[i]?≠some (.hd ds)):Rel K cl (σ.set i none) H F (env.set i .no)∧Frm σ H F env (σ.set i none) H F (env.set i .no):=by
 have key:∀(j:Nat) (s:Sl),(env.set i .no)[j]? = some s→s≠.no→j≠i∧env[j]? = some s:=fun j s q ns=>by
  by_cases z:j=i
  ·subst z
   have hj:j<env.length:=by have:=(List.getElem?_eq_some_iff.mp q).1;rwa [List.length_set]at this
   rw[List.getElem?_set_self hj]at q;cases q;exact absurd rfl ns
  ·rw[List.getElem?_set_ne (Ne.symm z)]at q;exact⟨z,q⟩
 have muk:∀j,Mu (env.set i .no) j→j≠i∧Mu env j:=fun j ⟨ds,q⟩=>by
  rcases q with q | q
  ·obtain⟨z,q⟩:=key j _ q (fun z=>by cases z);exact⟨z,ds,.inl q⟩
  ·obtain⟨z,q⟩:=key j _ q (fun z=>by cases z);exact⟨z,ds,.inr q⟩
 refine⟨⟨R.sub,by rw[List.length_set,List.length_set];exact R.len,fun j d q=>?_,fun j ds q=>?_,fun j l b hj hl e1 e2=>?_,R.od.set a8x⟩,⟨Same.refl _,fun a o h f w=>⟨h,f,fun⟨j,ds,oo,q,e⟩=>?_⟩,fun j ds q=>?_,fun _ h=>h⟩⟩
 ·obtain⟨z,q⟩:=key j _ q (fun z=>by cases z)
  obtain⟨v,e,p⟩:=R.fz j d q
  exact⟨v,by rw[List.getElem?_set_ne (Ne.symm z)];exact e,p⟩
 ·have:j≠i∧(env[j]? = some (.ow ds)∨env[j]? = some (.hd ds)):=by
   rcases q with q | q
   ·obtain⟨z,q⟩:=key j _ q (fun z=>by cases z);exact⟨z,.inl q⟩
   ·obtain⟨z,q⟩:=key j _ q (fun z=>by cases z);exact⟨z,.inr q⟩
  obtain⟨z,q⟩:=this
  obtain⟨a,xs,e,r⟩:=R.mu j ds q
  exact⟨a,xs,by rw[List.getElem?_set_ne (Ne.symm z)];exact e,r⟩
 ·obtain⟨zj,mj⟩:=muk j hj
  obtain⟨zl,ml⟩:=muk l hl
  rw[List.getElem?_set_ne (Ne.symm zj)]at e1
  rw[List.getElem?_set_ne (Ne.symm zl)]at e2
  exact R.inj j l b mj ml e1 e2
 ·obtain⟨z,q⟩:=key j _ q (fun z=>by subst z;exact oo)
  rw[List.getElem?_set_ne (Ne.symm z)]at e
  exact w ⟨j,ds,oo,q,e⟩
 ·have z:j≠i:=fun z=>by subst z;exact nh ds q
  rw[List.getElem?_set_ne (Ne.symm z),List.getElem?_set_ne (Ne.symm z)]
  exact⟨q,rfl⟩
end
section
variable {K:W.Frag}{cl:Str→Addr}{E:XK}{σ:St}{H F:Hp}{env:DE}{k:Nat}
def a0y:Option Sl→Sl
 | some (.fz d)=>.fz d
 | some (.ow ds)=>.hd ds
 | some (.hd ds)=>.hd ds
 | some (.od ks ds)=>.hk ks ds
 | some (.hk ks ds)=>.hk ks ds
 | _=>.no
def y0(k:Nat)(js:List Nat)(e:DE):DE:=List.replicate k .no++js.map fun j=>a0y e[j]?
noncomputable def C3(b:GF)(c:BF)(el:ZF)(ec:DE)(eo:DE):List D→List D→Option (R (List D))
 | [],acc=>some (.ok acc eo)
 | d::ds,acc=>match b d ec with
  | none=>none
  | some e1=>bnd (c e1) fun t e2=>if t=true then bnd (el e2) fun y _=>if acc.length<sizeLine then C3 b c el ec eo ds (acc++[y])else none
   else C3 b c el ec eo ds acc
theorem Z6{js:List Nat}{e:DE}{i:Nat}{s:Sl}(h:(y0 k js e)[i]? = some s)(n:s≠.no):k≤i∧∃j,js[i-k]? = some j∧a0y e[j]? = s:=by
 unfold y0 at h
 by_cases z:i<k
 ·rw[List.getElem?_append_left (by rw[List.length_replicate];exact z),List.getElem?_replicate,if_pos z]at h
  cases h;exact absurd rfl n
 ·rw[List.getElem?_append_right (by rw[List.length_replicate];omega),List.length_replicate,List.getElem?_map]at h
  cases q:js[i-k]? with
  | none=>rw[q]at h;cases h
  | some j=>rw[q]at h;cases h;exact⟨by omega,j,rfl,rfl⟩
theorem O0{js:List Nat}{i j:Nat}{v:V}(hk:k≤i)(hj:js[i-k]? = some j)(h:σ[j]? = some (some v)):(z9 k js σ)[i]? = some (some v):=by
 unfold z9
 rw[List.getElem?_append_right (by rw[List.length_replicate];exact hk),List.length_replicate,List.getElem?_map,hj]
 simp[h]
theorem RelOd.comp{js:List Nat}(R:RelOd K cl σ H F env)(nd:js.Nodup):RelOd K cl (z9 k js σ) H F (y0 k js env):=by
 have cap:∀{j:Nat} {s:Sl} {ks:DK} {ds:List D},a0y env[j]? = s→Q3 s ks ds→∃t,env[j]? = some t∧Q3 t ks ds:=fun{j s ks ds} h d=>by
  unfold a0y at h
  split at h<;>subst h
  ·exact d.elim
  ·exact d.elim
  ·exact d.elim
  ·rename_i q;exact⟨_,q,d⟩
  ·rename_i q;exact⟨_,q,d⟩
  ·exact d.elim
 have get:∀(i:Nat) (s:Sl) (ks:DK) (ds:List D),(y0 k js env)[i]? = some s→Q3 s ks ds→k≤i∧∃j t,js[i-k]? = some j∧env[j]? = some t∧Q3 t ks ds:=fun i s ks ds h d=>by
  obtain⟨hk,j,hj,c⟩:=Z6 h (fun z=>by subst z;exact d)
  obtain⟨t,q,dt⟩:=cap c d
  exact⟨hk,j,t,hj,q,dt⟩
 refine⟨fun i s ks ds h d=>?_,fun i l s t ks ls ds es b hi di hl dl ei el=>?_⟩
 ·obtain⟨hk,j,t,hj,q,dt⟩:=get i s ks ds h d
  obtain⟨a,xs,e,r⟩:=R.at_ j t ks ds q dt
  exact⟨a,xs,O0 hk hj e,r⟩
 ·obtain⟨hk,j,s',hj,q,dt⟩:=get i s ks ds hi di
  obtain⟨hk',m,t',hm,q',dt'⟩:=get l t ls es hl dl
  obtain⟨a,xs,e,_⟩:=R.at_ j s' ks ds q dt
  obtain⟨a',xs',e',_⟩:=R.at_ m t' ls es q' dt'
  have h1:=O0 (k:=k) hk hj e
  have h2:=O0 (k:=k) hk' hm e'
  rw[ei]at h1;cases h1
  rw[el]at h2;cases h2
  have jm:j=m:=R.inj j m s' t' ks ls ds es b q dt q' dt' e e'
  subst jm
  obtain⟨hi',ej⟩:=List.getElem?_eq_some_iff.mp hj
  obtain⟨hl',em⟩:=List.getElem?_eq_some_iff.mp hm
  have:i-k=l-k:=(List.getElem_inj nd).mp (ej.trans em.symm)
  omega
theorem Rel.comp{js:List Nat}(R:Rel K cl σ H F env)(nd:js.Nodup):Rel K cl (z9 k js σ) H F (y0 k js env):=by
 have cap:∀{j:Nat} {ds:List D},a0y env[j]? = .hd ds→env[j]? = some (.ow ds)∨env[j]? = some (.hd ds):=fun{j ds} h=>by
  unfold a0y at h
  split at h
  ·cases h
  ·rename_i q;cases h;exact .inl q
  ·rename_i q;cases h;exact .inr q
  ·cases h
  ·cases h
  ·cases h
 have noow:∀{j:Nat} {ds:List D},a0y env[j]?≠.ow ds:=fun{j ds} h=>by
  unfold a0y at h
  split at h<;>cases h
 have mu':∀(i:Nat) (ds:List D),((y0 k js env)[i]? = some (.ow ds)∨(y0 k js env)[i]? = some (.hd ds))→k≤i∧∃j,js[i-k]? = some j∧(env[j]? = some (.ow ds)∨env[j]? = some (.hd ds)):=fun i ds q=>by
  rcases q with q | q
  ·obtain⟨hk,j,hj,c⟩:=Z6 q (fun z=>by cases z);exact absurd c noow
  ·obtain⟨hk,j,hj,c⟩:=Z6 q (fun z=>by cases z);exact⟨hk,j,hj,cap c⟩
 refine⟨R.sub,?_,fun i d q=>?_,fun i ds q=>?_,fun i l b ⟨ds,q⟩ ⟨es,q'⟩ e1 e2=>?_,R.od.comp nd⟩
 ·unfold z9 y0
  rw[List.length_append,List.length_append,List.length_replicate,List.length_replicate,List.length_map,List.length_map]
 ·obtain⟨hk,j,hj,c⟩:=Z6 q (fun z=>by cases z)
  have:env[j]? = some (.fz d):=by
   unfold a0y at c
   split at c
   ·rename_i q;cases c;exact q
   all_goals cases c
  obtain⟨v,e,p⟩:=R.fz j d this
  exact⟨v,O0 hk hj e,p⟩
 ·obtain⟨hk,j,hj,c⟩:=mu' i ds q
  obtain⟨a,xs,e,r⟩:=R.mu j ds c
  exact⟨a,xs,O0 hk hj e,r⟩
 ·obtain⟨hk,j,hj,c⟩:=mu' i ds q
  obtain⟨hl,m,hm,c'⟩:=mu' l es q'
  obtain⟨a,xs,e,_⟩:=R.mu j ds c
  obtain⟨a',xs',e',_⟩:=R.mu m es c'
  have h1:=O0 (k:=k) hk hj e
  have h2:=O0 (k:=k) hl hm e'
  rw[e1]at h1;cases h1
  rw[e2]at h2;cases h2
  have jm:j=m:=R.inj j m b ⟨ds,c⟩ ⟨es,c'⟩ e e'
  subst jm
  obtain⟨hi',ei⟩:=List.getElem?_eq_some_iff.mp hj
  obtain⟨hl',el⟩:=List.getElem?_eq_some_iff.mp hm
  have:i-k=l-k:=(List.getElem_inj nd).mp (ei.trans el.symm)
  omega
def NoOw(e:DE):Prop:=∀(i:Nat) (s:Sl),isO s→e[i]?≠some s
theorem a5m{js:List Nat}{e:DE}:NoOw (y0 k js e):=fun i s oo q=>by
 obtain⟨hk,j,hj,c⟩:=Z6 q (fun z=>by subst z;exact oo)
 unfold a0y at c
 split at c<;>subst c<;>exact oo
theorem NoOw.not{e:DE}(n:NoOw e){σ:St}{a:Addr}:¬Ow σ e a:=fun⟨i,ds,oo,q,_⟩=>n i ds oo q
theorem Frm.gr{σ':St}{H' F':Hp}{env':DE}(f:Frm σ H F env σ' H' F' env')(n:NoOw env)(s:Same F' H'):Gr H F H' F':=⟨f.fz,s,fun a o h g=>by obtain⟨h1,f1,_⟩:=f.hid a o h g n.not;exact⟨h1,f1⟩⟩
theorem FX.gr{H' F':Hp}(f:FX σ H F env H' F')(n:NoOw env):Gr H F H' F':=⟨f.fz,f.sub,fun a o h g=>f.hid a o h g n.not⟩
structure Grow(K:W.Frag)(cl:Str→Addr)(σ:St)(H0 F0:Hp)(env:DE)(B:Addr)(acc:List D)(ys:List V)(H F:Hp):Prop where
 rel:Rel K cl σ H F env
 frm:Frm σ H0 F0 env σ H F env
 new:H0 B=none
 at_:H B=some (.lst ys)
 un:F B=none
 far:∀j,Mu env j→σ[j]?≠some (some (.ref B))
 rps:Rps K cl F acc ys
 stay:∀a o,H0 a=some o→F0 a=none→H a=some o∧F a=none
theorem Grow.start{B:Addr}(R:Rel K cl σ H F env)(hB:H B=none):Grow K cl σ H F env B [] [] (upd H B (.lst [])) F:=by
 obtain⟨R',f⟩:=R.newN (o:=.lst []) hB
 refine⟨R',f,hB,i8,R.sub.free hB,fun j ⟨ds,q⟩ e=>?_,.nil,fun a o h f=>⟨by rw[g5 (fun z=>by rw[z,hB]at h;cases h)];exact h,f⟩⟩
 obtain⟨a,ys,e1,hH,_⟩:=R.mu j ds q
 rw[e]at e1;cases e1
 rw[hB]at hH;cases hH
theorem Grow.gr{B:Addr}{acc:List D}{ys:List V}{H0 F0 H' F':Hp}(g:Grow K cl σ H0 F0 env B acc ys H F)(r:Gr H F H' F'):Grow K cl σ H0 F0 env B acc ys H' F' :=
 ⟨g.rel.gr r,g.frm.trans (g.rel.frm r),g.new,(r.hid B _ g.at_ g.un).1,(r.hid B _ g.at_ g.un).2,g.far,g.rps.mono r.fz,fun a o h f=>by obtain⟨h1,f1⟩:=g.stay a o h f;exact r.hid a o h1 f1⟩
theorem Grow.push{B:Addr}{acc:List D}{ys:List V}{H0 F0:Hp}{d:D}{y:V}(g:Grow K cl σ H0 F0 env B acc ys H F)(p:Rp K cl F d y):Grow K cl σ H0 F0 env B (acc++[d]) (ys++[y]) (upd H B (.lst (ys++[y]))) F:=by
 have ne:∀a o,F a=some o→a≠B:=fun a o h z=>by rw[z,g.un]at h;cases h
 refine⟨⟨fun a o h=>by rw[g5 (ne a o h)];exact g.rel.sub _ _ h,g.rel.len,g.rel.fz,fun j ds q=>?_,g.rel.inj,g.rel.od.updL g.at_⟩,⟨g.frm.fz,fun a o h f w=>?_,g.frm.keep,fun a h=>?_⟩,g.new,i8,g.un,g.far,g.rps.append (.one p),fun a o h f=>by rw[g5 (fun z=>by rw[z,g.new]at h;cases h)];exact g.stay a o h f⟩
 ·obtain⟨a,xs,e,hH,r⟩:=g.rel.mu j ds q
  have z:a≠B:=fun z=>g.far j ⟨ds,q⟩ (by rw[e,z])
  exact⟨a,xs,e,by rw[g5 z];exact hH,r⟩
 ·have z:a≠B:=fun z=>by rw[z,g.new]at h;cases h
  rw[g5 z];exact g.frm.hid a o h f w
 ·by_cases z:a=B
  ·rw[z,i8]at h;cases h
  ·rw[g5 z]at h;exact g.frm.dom a h
theorem a9O{b:GF}{c:BF}{el:ZF}{g:TG}{tf:TT}{te:TE}{js:List Nat}{B:Addr}{d:D}{x:V}{ds acc:List D}{ys:List V}{H0 F0:Hp}{Q:VK}{Pv:List V→Hp→Prop}(nd:js.Nodup)
  (hg:RfG K cl k g b) (hc:T6 K cl E tf c) (he:u5 K cl E te el) (gw:Grow K cl σ H0 F0 env B acc ys H F) (p:Rp K cl F d x)
  (h:Ct K cl E (PN K cl) (C3 b c el (y0 k js env) env (d::ds) acc) σ H0 F0 env Q)
  (hP:∀acc' ys' H' F',Grow K cl σ H0 F0 env B acc' ys' H' F'→Ct K cl E (PN K cl) (C3 b c el (y0 k js env) env ds acc') σ H0 F0 env Q→Pv ys' H') :
  g x (z9 k js σ) H fun σ2 H2=>(σ2.drop k=(z9 k js σ).drop k∧σ2.length=(z9 k js σ).length)∧tf σ2 H2 fun t H3 =>
   if t=true then te σ2 H3 fun y H4=>H4 B=some (.lst ys)∧ys.length<sizeLine∧Pv (ys++[y]) (upd H4 B (.lst (ys++[y])))else Pv ys H3:=by
 unfold C3 at h
 have Rc:Rel K cl (z9 k js σ) H F (y0 k js env):=gw.rel.comp nd
 split at h
 ·exact h.elim
 ·rename_i e1 hb
  refine hg x _ H _ d _ e1 F Rc p hb fun σ2 d2 l2 f2 R2=>⟨⟨d2,l2⟩,?_⟩
  have n1:NoOw (y0 k js env):=a5m
  -- ways out by an exception
  have exc:∀{H' F':Hp} {σ':St} {e':DE} {H'' F'':Hp} {n:XN},Frm (z9 k js σ) H F (y0 k js env) σ' H' F' e'→FX σ' H' F' e' H'' F''→(∀H' F',FX σ H0 F0 env H' F'→∀cx,Xf K cl F' n cx→E (.ref (cl n.nm)) cx H')→∀cx,Xf K cl F'' n cx→E (.ref (cl n.nm)) cx H'':=fun{H' F' σ' e' H'' F'' n} f fx q=>by
   have gr:Gr H F H'' F'':=(f.fx fx).gr n1
   exact q _ _ (gw.frm.fx gr.fx)
  refine hc σ2 H _ e1 F R2 ?_
  cases hce:c e1 with
  | none=>rw[hce]at h;exact h.elim
  | some rc =>
   rw[hce]at h
   cases rc with
   | ex n=>exact fun H' F' fx=>exc f2 fx h
   | ok t e2 =>
    intro t' H3 F3 f3 R3 ht
    have ht:t'=t:=ht
    subst ht
    have h:Ct K cl E (PN K cl) (if t'=true then bnd (el e2) fun y _=>if acc.length<sizeLine then C3 b c el (y0 k js env) env ds (acc++[y])else none else C3 b c el (y0 k js env) env ds acc) σ H0 F0 env Q:=h
    have gr3:Gr H F H3 F3:=(f2.trans f3).gr n1 R3.sub
    by_cases z:t'=true
    ·rw[if_pos z]at h ⊢
     refine he σ2 H3 _ e2 F3 R3 ?_
     cases hel:el e2 with
     | none=>rw[hel]at h;exact h.elim
     | some re =>
      rw[hel]at h
      cases re with
      | ex n=>exact fun H' F' fx=>exc (f2.trans f3) fx h
      | ok y e3 =>
       intro v H4 F4 f4 R4 hv
       have h:Ct K cl E (PN K cl) (if acc.length<sizeLine then C3 b c el (y0 k js env) env ds (acc++[y])else none) σ H0 F0 env Q:=h
       split at h
       ·rename_i hlen
        have gr4:Gr H F H4 F4:=((f2.trans f3).trans f4).gr n1 R4.sub
        have gw4:=gw.gr gr4
        exact⟨gw4.at_,by rw[← gw4.rps.length];exact hlen,hP _ _ _ _ (gw4.push hv) h⟩
       ·exact h.elim
    ·rw[if_neg z]at h ⊢
     exact hP _ _ _ _ (gw.gr gr3) h
theorem b1b{b:GF}{c:BF}{el:ZF}{js:List Nat}{B:Addr}{acc:List D}{ys:List V}{H0 F0:Hp}{Q:VK}(gw:Grow K cl σ H0 F0 env B acc ys H F)(h:Ct K cl E (PN K cl) (C3 b c el (y0 k js env) env [] acc) σ H0 F0 env Q):Q (.ref B) H :=
 h _ H F gw.frm gw.rel ⟨B,ys,rfl,gw.new,gw.at_,gw.un,gw.far,gw.rps⟩
theorem a5R{b:GF}{c:BF}{el:ZF}{g:TG}{tf:TT}{te:TE}{js:List Nat}{ds:List D}{xs:List V}{a B:Addr}{Q:VK}(nd:js.Nodup)(hg:RfG K cl k g b)(hc:T6 K cl E tf c)(he:u5 K cl E te el)(R:Rel K cl σ H F env)(hB:H B=none)
  (hl:∀H' F',Same F F'→Same F' H'→(∀a o,H a=some o→F a=none→H' a=some o∧F' a=none)→SqL K H' a xs) (r:Rps K cl F ds xs) (h:Ct K cl E (PN K cl) (C3 b c el (y0 k js env) env ds []) σ H F env Q) :
  a2c (Itl K a) g tf te k (z9 k js σ) B (fun H'=>Q (.ref B) H') H:=by
 refine a9v (xs:=xs) (fun i ys H'=>∃F' acc,Grow K cl σ H F env B acc ys H' F'∧Ct K cl E (PN K cl) (C3 b c el (y0 k js env) env (ds.drop i) acc) σ H F env Q) ⟨F,[],.start R hB,h⟩ (fun i ys H' _ ⟨F',acc,gw,_⟩=>hl H' F' gw.frm.fz gw.rel.sub gw.stay) (fun i x ys H' hx ⟨F',acc,gw,h'⟩=>?_) (fun ys H' ⟨F',acc,gw,h'⟩=>?_)
 ·obtain⟨d,hd,p⟩:=r.get' hx
  rw[a0R hd]at h'
  exact a9O (Pv:=fun ys' H2=>∃F' acc,Grow K cl σ H F env B acc ys' H2 F'∧Ct K cl E (PN K cl) (C3 b c el (y0 k js env) env (ds.drop (i+1)) acc) σ H F env Q) nd hg hc he gw (Rp.mono gw.frm.fz _ _ p) h' fun acc' ys' H2 F2 gw2 h2=>⟨F2,acc',gw2,h2⟩
 ·rw[← r.length,List.drop_length]at h'
  exact b1b gw h'
def a0S:BF:=fun e=>some (.ok true e)
theorem a6r:T6 K cl E b16 a0S:=fun σ H Q env F R h=>h true H F Frm.refl R rfl
noncomputable def a2I(k:Nat)(js:List Nat)(f:ZF)(b:GF)(c:BF)(el:ZF):NF:=fun e=>bnd (f e) fun d e1=>match seqL d with
 | none=>none
 | some ds=>C3 b c el (y0 k js e1) e1 ds []
noncomputable def a0z(i:Nat)(k:Nat)(js:List Nat)(b:GF)(c:BF)(el:ZF):NF:=fun e=>match look e i with
 | some d=>(match seqL d with
  | none=>none
  | some ds=>C3 b c el (y0 k js e) e ds [])
 | none=>none
theorem b3b{t:TE}{g:TG}{tf:TT}{te:TE}{js:List Nat}{f:ZF}{b:GF}{c:BF}{el:ZF}(nd:js.Nodup)(hf:u5 K cl E t f)(hg:RfG K cl k g b)(hc:T6 K cl E tf c)(he:u5 K cl E te el):RfN K cl E (a5N (a3x K t) g tf te k js) (a2I k js f b c el):=by
 intro σ H Q env F R h
 refine hf σ H _ env F R ((Ct.bnd h a2_).mono fun x H1 ⟨F1,e1,d,s1,R1,p1,h1⟩=>?_)
 split at h1
 ·exact h1.elim
 ·rename_i ds hs
  obtain⟨a,xs,rfl,r,hl⟩:=Rp.seqL p1 hs
  exact⟨a,rfl,⟨xs,hl H1 R1.sub⟩,fun B hB=>a5R nd hg hc he R1 hB (fun H' F' f2 s2 _=>hl H' (f2.trans s2)) r h1⟩
theorem a6s{i:Nat}{g:TG}{tf:TT}{te:TE}{js:List Nat}{b:GF}{c:BF}{el:ZF}(nd:js.Nodup)(hg:RfG K cl k g b)(hc:T6 K cl E tf c)(he:u5 K cl E te el):RfN K cl E (a5N (a3x K (D2 i)) g tf te k js) (a0z i k js b c el):=by
 intro σ H Q env F R h
 unfold a0z look at h
 cases q:env[i]? with
 | none=>rw[q]at h;exact h.elim
 | some s =>
  rw[q]at h
  cases s with
  | no=>exact h.elim
  | od _ _=>exact h.elim
  | hk _ _=>exact h.elim
  | fz d =>
   have h:Ct K cl E (PN K cl) (match seqL d with
    | none=>none
    | some ds=>C3 b c el (y0 k js env) env ds []) σ H F env Q:=h
   split at h
   ·exact h.elim
   ·rename_i ds hs
    obtain⟨v,e,p⟩:=R.fz i d q
    obtain⟨a,xs,rfl,r,hl⟩:=Rp.seqL p hs
    exact⟨_,e,a,rfl,⟨xs,hl H R.sub⟩,fun B hB=>a5R nd hg hc he R hB (fun H' F' f2 s2 _=>hl H' (f2.trans s2)) r h⟩
  | ow ds =>
   have h:Ct K cl E (PN K cl) (C3 b c el (y0 k js env) env ds []) σ H F env Q:=h
   obtain⟨a,xs,e,hH,hF,r⟩:=R.mu i ds (.inl q)
   exact⟨_,e,a,rfl,⟨xs,.of hH⟩,fun B hB=>a5R nd hg hc he R hB (fun H' F' _ _ st=>.of (st a _ hH hF).1) r h⟩
  | hd ds =>
   have h:Ct K cl E (PN K cl) (C3 b c el (y0 k js env) env ds []) σ H F env Q:=h
   obtain⟨a,xs,e,hH,hF,r⟩:=R.mu i ds (.inr q)
   exact⟨_,e,a,rfl,⟨xs,.of hH⟩,fun B hB=>a5R nd hg hc he R hB (fun H' F' _ _ st=>.of (st a _ hH hF).1) r h⟩
theorem a36{i:Nat}{wi:TI}{g:TG}{tf:TT}{te:TE}{js:List Nat}{f:NF}(h:RfN K cl E (a5N wi g tf te k js) f):RfS K cl E (a6c i wi g tf te k js) (w8 i f):=fun N σ H env F R q=>G1 h N σ H env F R q
end
noncomputable def fD(n m:Nat)(body:SF)(ds:List D):Option R1:=if ds.length=m then(match body (ds.map .fz++List.replicate (n-ds.length) .no)with
 | some (.nx _)=>some (.ret .non)
 | some (.rt d)=>some (.ret d)
 | some (.ro es)=>some (.own es)
 | some (.rz dss)=>some (.owz dss)
 | some (.rp n es)=>some (.owp n es)
 | some (.ex c)=>some (.ex c)
 | _=>none)else none
section
variable {P:Program}{w:World}{K:W.Frag}{mg:Str→Option Value}{base:Heap}{cl:Str→Addr}
theorem a9P{N:List Str}{vs:List V}{ds:List D}{H F:Hp}(s:Same F H)(p:Rps K cl F ds vs):Rel K cl (start N vs) H F (ds.map .fz++List.replicate (N.length-ds.length) .no)∧NoOw (ds.map .fz++List.replicate (N.length-ds.length) .no):=by
 have key:∀(i:Nat) (t:Sl),(ds.map Sl.fz++List.replicate (N.length-ds.length) .no)[i]? = some t→t≠.no→∃d,ds[i]? = some d∧t=.fz d:=fun i t q n=>by
  by_cases z:i<ds.length
  ·rw[List.getElem?_append_left (by rw[List.length_map];exact z),List.getElem?_map]at q
   cases hd:ds[i]? with
   | none=>rw[hd]at q;cases q
   | some d=>rw[hd]at q;cases q;exact⟨d,rfl,rfl⟩
  ·rw[List.getElem?_append_right (by rw[List.length_map];omega),List.getElem?_replicate]at q
   split at q
   ·cases q;exact absurd rfl n
   ·cases q
 have no:NoOw (ds.map .fz++List.replicate (N.length-ds.length) .no):=fun i es oo q=>by
  obtain⟨d,_,z⟩:=key i _ q (fun z=>by subst z;exact oo)
  subst z;exact oo
 refine⟨⟨s,?_,fun i d q=>?_,fun i es q=>?_,fun i j b ⟨es,q⟩ _ _ _=>?_,.none fun j s ks ds q d=>by obtain⟨_,_,rfl⟩:=key j s q (fun z=>by subst z;exact d);exact d⟩,no⟩
 ·unfold start
  rw[List.length_append,List.length_append,List.length_map,List.length_map,List.length_replicate,List.length_replicate,p.length]
 ·obtain⟨d',hd,z⟩:=key i _ q (fun z=>by cases z)
  cases z
  obtain⟨v,hv,r⟩:=p.get hd
  refine⟨v,?_,r⟩
  unfold start
  rw[List.getElem?_append_left (by rw[List.length_map];exact(List.getElem?_eq_some_iff.mp hv).1),List.getElem?_map,hv];rfl
 ·rcases q with q | q
  ·obtain⟨d,_,z⟩:=key i _ q (fun z=>by cases z);cases z
  ·obtain⟨d,_,z⟩:=key i _ q (fun z=>by cases z);cases z
 ·rcases q with q | q
  ·obtain⟨d,_,z⟩:=key i _ q (fun z=>by cases z);cases z
  ·obtain⟨d,_,z⟩:=key i _ q (fun z=>by cases z);cases z
theorem a1e{n m:Nat}{body:SF}{vs:List V}{H:Hp}{Q:VK}{E:XK}(h:i9 K cl (fD n m body) vs H Q E):vs.length=m:=by
 obtain⟨ds,F,s,p,h⟩:=h
 unfold fD at h
 by_cases z:ds.length=m
 ·rw[← p.length];exact z
 ·rw[if_neg z]at h;exact h.elim
theorem W2{N:List Str}{m:Nat}{body:SF}{t:TS}{vs:List V}{H:Hp}{Q:VK}{E:XK}(hb:RfS K cl E t body)(h:i9 K cl (fD N.length m body) vs H Q E):t { nx:=fun _ H'=>Q .non H',rt:=Q } (start N vs) H:=by
 obtain⟨ds,F,s,p,h⟩:=h
 obtain⟨R,no⟩:=a9P (N:=N) s p
 refine hb _ _ H _ F R ?_
 unfold fD at h
 by_cases z:ds.length=m
 ·rw[if_pos z]at h
  cases r:body (ds.map .fz++List.replicate (N.length-ds.length) .no)with
  | none=>rw[r]at h;exact h.elim
  | some rs =>
   rw[r]at h
   cases rs with
   | nx e=>exact fun σ' H' F' f R'=>h .non H' F' (f.gr no R'.sub) (by simp only[Rp])
   | rt d=>exact fun v H' F' x q=>h v H' F' (x.gr no) q
   | ro es =>
    refine fun a xs H' F' x ha fa nw q=>h a xs H' F' (x.gr no) ?_ ha fa q
    cases e:H a with
    | none=>rfl
    | some o=>exact absurd (nw o e) no.not
   | rz dss =>
    refine fun p as H' F' x hp ht fp rz=>h p as H' F' (x.gr no) hp ht fp (rz.imp fun a xs ha fa nw=>?_)
    cases e:H a with
    | none=>rfl
    | some o=>exact absurd (nw o e) no.not
   | rp n es =>
    refine fun p a xs H' F' x hp ht fp ha fa nw q=>h p a xs H' F' (x.gr no) hp ht fp ?_ ha fa q
    cases e:H a with
    | none=>rfl
    | some o=>exact absurd (nw o e) no.not
   | bk e=>exact h.elim
   | ct e=>exact h.elim
   | ex c=>exact fun H' F' x=>h H' F' (x.gr no)
 ·rw[if_neg z]at h;exact h.elim
theorem Fun.okD{x qual:Str}{st:Stmt}{f:Addr}{fd:FuncData}{N ps:List Str}{k:Nat}{body:SF}(F:Fun K x qual st f fd)(S:FnScope N ps (d9 st))
  (hbody:∀(cdv:Value) (A:Around) (outer:List Env) (s:Shared) (H:Hp) (E:XK),Room k (A.deeper (envOfC qual (d9 st) s.heap.objs.size f cdv)) →
   ∃t,PSs (S9 (y8 P w) P w K mg base N qual (d9 st) f cdv A outer s H E) (j7 st) t∧RfS K cl E t body):FnOk P w K mg base (y8 P w) (k+1) f fd ps (i9 K cl (fD N.length ps.length body)) :=
 F.okE S (fun vs H Q E h=>a1e h) fun cdv A outer s H vs Q E hr h=>by
  obtain⟨t,h1,h2⟩:=hbody cdv A outer s H E hr
  exact⟨t,h1,W2 h2 h⟩
theorem FunD.okD{x qual:Str}{st:Stmt}{dT f:Addr}{fd:FuncData}{N ps:List Str}{k:Nat}{body:SF}(F:FunD K x qual st dT f fd)(S:FnScope N ps (d9 st))
  (hbody:∀(cdv:Value) (A:Around) (outer:List Env) (s:Shared) (H:Hp) (E:XK),Room k (A.deeper (envOfC qual (d9 st) s.heap.objs.size f cdv)) →
   ∃t,PSs (S9 (y8 P w) P w K mg base N qual (d9 st) f cdv A outer s H E) (j7 st) t∧RfS K cl E t body):FnOk P w K mg base (y8 P w) (k+1) f fd ps (i9 K cl (fD N.length ps.length body)) :=
 F.okE S (fun vs H Q E h=>a1e h) fun cdv A outer s H vs Q E hr h=>by
  obtain⟨t,h1,h2⟩:=hbody cdv A outer s H E hr
  exact⟨t,h1,W2 h2 h⟩
theorem b3c{g:List D→Option R1}{vs:List V}{H:Hp}{Q:VK}{E:XK}{a:Addr}{ns:List Int}(e:vs=[.ref a])(h:Scr K H a (ns.map V.int))(q:∀H',Q (.bl true) H')(m:g [.scr ns]=some (.ret (.bl true))):i9 K cl g vs H Q E:=by
 refine⟨[.scr ns],H,Same.refl _,?_,?_⟩
 ·rw[e];exact .one (by simp only[Rp];exact⟨a,rfl,h⟩)
 ·rw[m]
  intro v H' F' _ p
  have p:Rp K cl F' (.bl true) v:=p
  simp only[Rp]at p
  rw[p];exact q H'
def tyN:D→Option String
 | .non=>some "NoneType"
 | .bl _=>some "bool"
 | .int _=>some "int"
 | .str _=>some "str"
 | .lst _=>some "list"
 | .tup _=>some "tuple"
 | _=>none
theorem a7I{K:W.Frag}(t n:String)(ht:t∈["NoneType","bool","int","str","list","tuple"])(hn:n∈["bool","int","str","list","tuple"]):W.kitOne K (.type t) (.type n)=some (t == n || (t == "bool" && n == "int")):=by
 simp only[List.mem_cons,List.not_mem_nil,or_false]at ht hn
 rcases ht with rfl | rfl | rfl | rfl | rfl | rfl<;>rcases hn with rfl | rfl | rfl | rfl | rfl<;>first | rfl | with_unfolding_all rfl
def a3d:List D→Option D
 | [d,.ty n]=>match tyN d with
  | some t=>if n∈["bool","int","str","list","tuple"]then some (.bl (t == n || (t == "bool" && n == "int")))else none
  | none=>none
 | _=>none
theorem a7J{d:D}{t:String}(h:tyN d=some t):t∈["NoneType","bool","int","str","list","tuple"]:=by
 cases d<;>cases h<;>decide
theorem a9R{F H:Hp}{d:D}{t:String}{v:V}(s:Same F H)(p:Rp K cl F d v)(h:tyN d=some t):TyX K H v (.type t):=by
 cases d<;>cases h<;>simp only[Rp]at p
 ·subst p;exact .of .non
 ·subst p;exact .of (.bl _)
 ·subst p;exact .of (.int _)
 ·subst p;exact .of (.str _)
 ·obtain⟨a,xs,rfl,h,_⟩:=p;exact .of (.tup (s _ _ h))
 ·obtain⟨a,xs,rfl,h,_⟩:=p;exact .of (.lst (s _ _ h))
theorem a9S:a4K K cl (a6a K) a3d:=by
 intro xs ds z H F Q s hx h q
 unfold a3d at h
 split at h
 ·rename_i d n
  split at h
  ·rename_i t ht
   split at h
   ·rename_i hn;cases h
    obtain⟨v,r,rfl,p1,p2⟩:=hx.inv
    obtain⟨u,r',rfl,p3,p4⟩:=p2.inv
    rw[p4.inv0]
    simp only[Rp]at p3
    subst p3
    exact⟨v,_,_,_,_,rfl,rfl,a9R s p1 ht,a7I t n (a7J ht) hn,q _ H F (.refl s) (by simp only[Rp])⟩
   ·cases h
  ·cases h
 ·cases h
def a2J(n:String)(d:D):Option D:=match tyN d with
 | some t=>if n∈["bool","int","str","list","tuple"]then some (.bl (t == n || (t == "bool" && n == "int")))else none
 | none=>none
def a0g(i:Nat)(n:String):ZF:=fun e=>match look e i with
 | some d=>opt (a2J n d) e
 | none=>none
theorem a0i{E:XK}{i:Nat}{n:String}{t:TE}(ht:t=tC (.ty n):=by rfl):u5 K cl E (tCB (a6a K) (L3 (D2 i) (L3 t a0r))) (a0g i n):=by
 subst ht
 intro σ H Q env F R h
 unfold a0g at h
 cases q:look env i with
 | none=>rw[q]at h;exact h.elim
 | some d =>
  rw[q]at h
  obtain⟨x,e,rb⟩:=R.look q
  refine⟨x,e,?_⟩
  cases hz:a2J n d with
  | none=>simp only[hz,a1x]at h;exact h.elim
  | some z =>
   simp only[hz,a1w]at h
   unfold a2J at hz
   split at hz
   ·rename_i t ht
    split at hz
    ·rename_i hn;cases hz
     refine⟨x,_,_,_,_,rfl,rfl,?_,a7I t n (a7J ht) hn,h _ H F Frm.refl R (by show Rp K cl F (.bl _) _;simp only[Rp])⟩
     rcases rb with p | ⟨a,xs,ds,rfl,rfl,hH,_⟩
     ·exact a9R R.sub p ht
     ·cases ht;exact .of (.lst hH)
    ·cases hz
   ·cases hz
end
section
variable {P:Program}{w:World}{mg:Str→Option Value}{base:Heap}{K:W.Frag}{cl:Str→Addr}{E:XK}
theorem b1c{g:List D→Option R1}{t:TA}{f:AF}(hf:V6 K cl E t f):u5 K cl E (a3I (i9 K cl g) t) (h9 g f):=by
 intro σ H Q env F R h
 refine hf σ H _ env F R ((Ct.bnd h N3).mono fun vs H1 ⟨F1,e1,ds,s1,R1,p1,h1⟩=>?_)
 obtain⟨z,n⟩:=a7H h1
 have:i9 K cl g (vs++[]) H1 Q E0:=by
  refine a6p R1 p1 ?_
  rw[z]
  unfold Ct at h1 ⊢
  split at h1
  ·exact h1
  ·exact h1
  ·rename_i c q
   exact absurd q (by unfold a1A;split<;>intro y<;>cases y)
 rw[List.append_nil]at this
 exact this
theorem b3d{i:Nat}{g:List D→Option R1}{t:TA}{f:AF}(hf:V6 K cl E t f):RfS K cl E (X1 (a3I (i9 K cl g) t) (P8 i)) (K0 i g f):=by
 intro N σ H env F R h
 refine hf σ H _ env F R ((Cs.bnd h).mono fun vs H1 ⟨F1,e1,ds,fr,R1,p1,h1⟩=>?_)
 refine⟨ds,F1,R1.sub,p1,?_⟩
 unfold a1d at h1
 split at h1
 ·rename_i q;rw[q]
  obtain⟨hi,nh,h2⟩:=a0w h1
  exact fun v H' F' gr r=>h2 _ H' F' ((fr.trans (R1.frm gr)).trans (Frm.put nh)) ((R1.gr gr).put hi nh r)
 ·rename_i q;rw[q]
  obtain⟨hi,nh,h2⟩:=a0w h1
  intro a xs H' F' gr ha hH hF r
  refine h2 _ H' F' ((fr.trans (R1.frm gr)).putO (fr.dom a ha) nh) ((R1.gr gr).putO hi hH hF (fun j mj e=>?_) r)
  obtain⟨es,q⟩:=mj
  obtain⟨b,ys,e',hb,_⟩:=R1.mu j es q
  rw[e]at e';cases e'
  rw[ha]at hb;cases hb
 ·exact h1.elim
theorem Fun.okWD{x qual:Str}{st:Stmt}{f:Addr}{fd:FuncData}{N ps:List Str}{k:Nat}{body:SF}(F:Fun K x qual st f fd)(S:FnScope N ps (d9 st))
  (hbody:∀(cdv:Value) (A:Around) (outer:List Env) (s:Shared) (H:Hp),RoomW k (A.deeper (envOfC qual (d9 st) s.heap.objs.size f cdv)) →
   ∃t,PSs (a3H P w K mg base N qual (d9 st) f cdv A outer s H) (j7 st) t∧RfS K cl E0 t body):FnOkW P w K mg base (k+1) f fd ps (i9 K cl (fD N.length ps.length body)) :=
 F.okW S (fun vs H Q E h=>a1e h) fun cdv A outer s H vs Q hr h=>by
  obtain⟨t,h1,h2⟩:=hbody cdv A outer s H hr
  exact⟨t,h1,W2 h2 h⟩
def a6t:D→Option Str
 | .cls n=>some n
 | _=>none
noncomputable def a5S(xT:Str→List Str→Option Bool):List D→Option D
 | [.exc c,.tup cs]=>match cs.mapM a6t with
  | some ns=>(xT c ns).map .bl
  | none=>none
 | [.exv c _ _,.tup cs]=>match cs.mapM a6t with
  | some ns=>(xT c ns).map .bl
  | none=>none
 | _=>none
def a5T(x1:Str→Str→Option Bool)(x2:Str→String→Option Bool):List D→Option D
 | [.exc c,.cls n]=>(x1 c n).map .bl
 | [.exc c,.ty n]=>(x2 c n).map .bl
 | [.exv c _ _,.cls n]=>(x1 c n).map .bl
 | [.exv c _ _,.ty n]=>(x2 c n).map .bl
 | _=>none
theorem a3e:∀{cs:List D} {ns:List Str} {F:Hp} {ys:List V},cs.mapM a6t=some ns→Rps K cl F cs ys→ys.mapM a28=some (ns.map fun m=>Value.ref (cl m))
 | [],_,_,_,h,p=>by cases h;rw[p.inv0];rfl
 | c::cs,_,_,_,h,p=>by
  obtain⟨v,r,rfl,p1,p2⟩:=p.inv
  rw[List.mapM_cons]at h ⊢
  cases hc:a6t c with
  | none=>rw[hc]at h;cases h
  | some n =>
   rw[hc]at h
   cases hcs:cs.mapM a6t with
   | none=>rw[hcs]at h;cases h
   | some ns =>
    rw[hcs]at h;cases h
    have hv:v=.ref (cl n):=by
     cases c<;>cases hc
     simpa only[Rp]using p1
    rw[hv,a3e hcs p2];rfl
theorem a7K{xT:Str→List Str→Option Bool}(hx:∀c ns b,xT c ns=some b→W.ExcT K (cl c)∧W.kitAny K (.ref (cl c)) (ns.map fun m=>.ref (cl m))=some b):a4K K cl (a8s K) (a5S xT):=by
 intro xs ds z H F Q s p h q
 unfold a5S at h
 split at h
 ·rename_i c cs
  split at h
  ·rename_i ns hn
   cases hb:xT c ns with
   | none=>rw[hb]at h;cases h
   | some b =>
    rw[hb]at h;cases h
    obtain⟨v,r,rfl,p1,p2⟩:=p.inv
    obtain⟨u,r',rfl,p3,p4⟩:=p2.inv
    rw[p4.inv0]
    simp only[Rp]at p1 p3
    obtain⟨a,cx,rfl,ha⟩:=p1
    obtain⟨t,ys,rfl,ht,r⟩:=p3
    obtain⟨hT,hk⟩:=hx c ns b hb
    exact⟨_,t,ys,_,_,b,rfl,s _ _ ht,a3e hn r,.exc (s _ _ ha) hT,hk,q _ H F (.refl s) (by simp only[Rp])⟩
  ·cases h
 ·rename_i c f' d' cs
  split at h
  ·rename_i ns hn
   cases hb:xT c ns with
   | none=>rw[hb]at h;cases h
   | some b =>
    rw[hb]at h;cases h
    obtain⟨v,r,rfl,p1,p2⟩:=p.inv
    obtain⟨u,r',rfl,p3,p4⟩:=p2.inv
    rw[p4.inv0]
    simp only[Rp]at p1 p3
    obtain⟨a,dx,y,rfl,ha,_⟩:=p1
    obtain⟨t,ys,rfl,ht,r⟩:=p3
    obtain⟨hT,hk⟩:=hx c ns b hb
    exact⟨_,t,ys,_,_,b,rfl,s _ _ ht,a3e hn r,.exc (s _ _ ha) hT,hk,q _ H F (.refl s) (by simp only[Rp])⟩
  ·cases h
 ·cases h
theorem a7L{x1:Str→Str→Option Bool}{x2:Str→String→Option Bool}(h1:∀c n b,x1 c n=some b→W.ExcT K (cl c)∧W.kitOne K (.ref (cl c)) (.ref (cl n))=some b)
  (h2:∀c n b,x2 c n=some b→W.ExcT K (cl c)∧W.kitOne K (.ref (cl c)) (.type n)=some b):a4K K cl (a6a K) (a5T x1 x2):=by
 intro xs ds z H F Q s p h q
 unfold a5T at h
 split at h
 ·rename_i c n
  cases hb:x1 c n with
  | none=>rw[hb]at h;cases h
  | some b =>
   rw[hb]at h;cases h
   obtain⟨v,r,rfl,p1,p2⟩:=p.inv
   obtain⟨u,r',rfl,p3,p4⟩:=p2.inv
   rw[p4.inv0]
   simp only[Rp]at p1 p3
   obtain⟨a,cx,rfl,ha⟩:=p1
   subst p3
   obtain⟨hT,hk⟩:=h1 c n b hb
   exact⟨_,_,_,_,b,rfl,rfl,.exc (s _ _ ha) hT,hk,q _ H F (.refl s) (by simp only[Rp])⟩
 ·rename_i c n
  cases hb:x2 c n with
  | none=>rw[hb]at h;cases h
  | some b =>
   rw[hb]at h;cases h
   obtain⟨v,r,rfl,p1,p2⟩:=p.inv
   obtain⟨u,r',rfl,p3,p4⟩:=p2.inv
   rw[p4.inv0]
   simp only[Rp]at p1 p3
   obtain⟨a,cx,rfl,ha⟩:=p1
   subst p3
   obtain⟨hT,hk⟩:=h2 c n b hb
   exact⟨_,_,_,_,b,rfl,rfl,.exc (s _ _ ha) hT,hk,q _ H F (.refl s) (by simp only[Rp])⟩
 ·rename_i c f' d' n
  cases hb:x1 c n with
  | none=>rw[hb]at h;cases h
  | some b =>
   rw[hb]at h;cases h
   obtain⟨v,r,rfl,p1,p2⟩:=p.inv
   obtain⟨u,r',rfl,p3,p4⟩:=p2.inv
   rw[p4.inv0]
   simp only[Rp]at p1 p3
   obtain⟨a,dx,y,rfl,ha,_⟩:=p1
   subst p3
   obtain⟨hT,hk⟩:=h1 c n b hb
   exact⟨_,_,_,_,b,rfl,rfl,.exc (s _ _ ha) hT,hk,q _ H F (.refl s) (by simp only[Rp])⟩
 ·rename_i c f' d' n
  cases hb:x2 c n with
  | none=>rw[hb]at h;cases h
  | some b =>
   rw[hb]at h;cases h
   obtain⟨v,r,rfl,p1,p2⟩:=p.inv
   obtain⟨u,r',rfl,p3,p4⟩:=p2.inv
   rw[p4.inv0]
   simp only[Rp]at p1 p3
   obtain⟨a,dx,y,rfl,ha,_⟩:=p1
   subst p3
   obtain⟨hT,hk⟩:=h2 c n b hb
   exact⟨_,_,_,_,b,rfl,rfl,.exc (s _ _ ha) hT,hk,q _ H F (.refl s) (by simp only[Rp])⟩
 ·cases h
def a37(g g':D→D→Option D)(fa fb fc:ZF):ZF:=fun e=>bnd (fa e) fun d e1=>bnd (fb e1) fun d' e2=>match g d d' with
 | some (.bl b)=>if b=true then bnd (fc e2) fun d'' e3=>opt (g' d' d'') e3 else some (.ok (.bl false) e2)
 | _=>none
theorem b1d{r r':R2}{g g':D→D→Option D}{ta tb tc:TE}{fa fb fc:ZF}(ok:OpOk K cl r g)(ok':OpOk K cl r' g')(ha:u5 K cl E ta fa)(hb:u5 K cl E tb fb)(hc:u5 K cl E tc fc):u5 K cl E (a9h r r' ta tb tc) (a37 g g' fa fb fc):=by
 intro σ H Q env F R h
 refine ha σ H _ env F R ((Ct.bnd h N3).mono fun x H1 ⟨F1,e1,d,s1,R1,p1,h1⟩=>?_)
 refine hb σ H1 _ e1 F1 R1 ((Ct.bnd h1 N3).mono fun y H2 ⟨F2,e2,e,s2,R2,p2,h2⟩=>?_)
 split at h2
 ·rename_i b hg
  refine ok x y d e _ H2 F2 _ R2.sub (.inl (Rp.mono s2 _ _ p1)) (.inl p2) hg fun v H3 F3 gr hv=>?_
  simp only[Rp]at hv
  refine⟨b,hv,?_⟩
  have f3:=R2.frm gr
  have R3:=R2.gr gr
  have h3:=Ct.from f3 N3 h2
  by_cases z:b=true
  ·rw[if_pos z]at h3 ⊢
   refine hc σ H3 _ e2 F3 R3 ((Ct.bnd h3 N3).mono fun y' H4 ⟨F4,e4,e',s4,R4,p4,h4⟩=>?_)
   exact ok'.fin R4 (.inl (Rp.mono (gr.fz.trans s4) _ _ p2)) (.inl p4) h4
  ·rw[if_neg z]at h3 ⊢
   exact h3 _ H3 F3 Frm.refl R3 (by show Rp K cl F3 (.bl false) _;simp only[Rp])
 ·exact h2.elim
end
section
variable {α β:Type}
def a0c(r:Option RS)(k:SF):Option RS:=match r with
 | some (.nx e)=>k e
 | r=>r
theorem b3e{f k:SF}{e:DE}:g0 f k e=a0c (f e) k:=rfl
theorem b3f{e:DE}{k:SF}:a0c (some (.nx e)) k=k e:=rfl
theorem b3g{d:D}{k:SF}:a0c (some (.rt d)) k=some (.rt d):=rfl
theorem b3h{d:List D}{k:SF}:a0c (some (.ro d)) k=some (.ro d):=rfl
theorem b3i{d:XN}{k:SF}:a0c (some (.ex d)) k=some (.ex d):=rfl
theorem b3j{e:DE}{k:SF}:a0c (some (.bk e)) k=some (.bk e):=rfl
theorem b3k{e:DE}{k:SF}:a0c (some (.ct e)) k=some (.ct e):=rfl
theorem b3l{k:SF}:a0c none k=none:=rfl
theorem b1e{c:Prop} [Decidable c] {a b:Option RS} {k:SF}:a0c (if c then a else b) k=if c then a0c a k else a0c b k:=by split<;>rfl
theorem b3m{d:D}{e:DE}:toZ (some (.ret d)) e=some (.ok d e):=rfl
theorem b3n{d:List D}{e:DE}:toZ (some (.own d)) e=some (.ok (.lst d) e):=rfl
theorem b5d{d:XN}{e:DE}:toZ (some (.ex d)) e=some (.ex d):=rfl
theorem b1f{d:D}{e:DE}:a1A (some (.ret d)) e=some (.ok d e):=rfl
theorem b1g{d:List D}{e:DE}:a1A (some (.own d)) e=some (.ok (.lst d) e):=rfl
theorem a9T{i:Nat}{d:D}{e:DE}:a32 i (some (.ret d)) e=put i (.fz d) e:=rfl
theorem a9U{i:Nat}{d:List D}{e:DE}:a32 i (some (.own d)) e=put i (.ow d) e:=rfl
theorem b1h{i:Nat}{d:XN}{e:DE}:a32 i (some (.ex d)) e=some (.ex d):=rfl
theorem a8G{i:Nat}{d:D}{e:DE}:a1d i (some (.ret d)) e=put i (.fz d) e:=rfl
theorem a8H{i:Nat}{d:List D}{e:DE}:a1d i (some (.own d)) e=put i (.ow d) e:=rfl
theorem a9V{d:D}:a5Q (some (.ret d))=some (.rt d):=rfl
theorem a9W{d:List D}:a5Q (some (.own d))=some (.ro d):=rfl
theorem b1i{d:XN}:a5Q (some (.ex d))=some (.ex d):=rfl
theorem a8I{d:D}:a9L (some (.ret d))=some (.rt d):=rfl
theorem a8J{d:List D}:a9L (some (.own d))=some (.ro d):=rfl
def a06(r:Option RS):Option R1:=match r with
 | some (.nx _)=>some (.ret .non)
 | some (.rt d)=>some (.ret d)
 | some (.ro es)=>some (.own es)
 | some (.rz dss)=>some (.owz dss)
 | some (.rp n es)=>some (.owp n es)
 | some (.ex c)=>some (.ex c)
 | _=>none
theorem b5_{n m:Nat}{body:SF}{ds:List D}(h:ds.length=m):fD n m body ds=a06 (body (ds.map .fz++List.replicate (n-m) .no)):=by
 unfold fD;rw[if_pos h,h];rfl
theorem b3o{e:DE}:a06 (some (.nx e))=some (.ret .non):=rfl
theorem b3p{d:D}:a06 (some (.rt d))=some (.ret d):=rfl
theorem b3q{d:List (List D)}:a06 (some (.rz d))=some (.owz d):=rfl
theorem b3r{d:List (List D)}{k:SF}:a0c (some (.rz d)) k=some (.rz d):=rfl
theorem a9X{d:List (List D)}:a5Q (some (.owz d))=some (.rz d):=rfl
theorem b3s{d:List D}:a06 (some (.ro d))=some (.own d):=rfl
theorem b3t{d:XN}:a06 (some (.ex d))=some (.ex d):=rfl
theorem b1j{c:Prop} [Decidable c] {a b:Option RS}:a06 (if c then a else b)=if c then a06 a else a06 b:=by split<;>rfl
def a0A(r:Option RS)(k:SF):Option RS:=match r with
 | some (.nx e)=>k e
 | some (.ct e)=>k e
 | some (.bk e)=>some (.nx e)
 | r=>r
theorem X5{e:DE}{k:SF}:a0A (some (.nx e)) k=k e:=rfl
theorem b3u{e:DE}{k:SF}:a0A (some (.ct e)) k=k e:=rfl
theorem b3v{e:DE}{k:SF}:a0A (some (.bk e)) k=some (.nx e):=rfl
theorem a4P{d:D}{k:SF}:a0A (some (.rt d)) k=some (.rt d):=rfl
theorem b3w{d:List (List D)}{k:SF}:a0A (some (.rz d)) k=some (.rz d):=rfl
theorem b3x{d:List D}{k:SF}:a0A (some (.ro d)) k=some (.ro d):=rfl
theorem b3y{d:XN}{k:SF}:a0A (some (.ex d)) k=some (.ex d):=rfl
theorem a6u{b:GF}{body:SF}{e:DE}:B3 b body [] e=some (.nx e):=rfl
def a8K(x:Option DE)(k:SF):Option RS:=match x with
 | none=>none
 | some e=>k e
theorem N9{b:GF}{body:SF}{d:D}{ds:List D}{e:DE}:B3 b body (d::ds) e=a8K (b d e) fun e1=>a0A (body e1) (B3 b body ds):=by
 rw[B3];cases b d e<;>rfl
theorem C4{e:DE}{k:SF}:a8K (some e) k=k e:=rfl
noncomputable def a6v(n i:Nat)(exm:Str→Bool)(suite:SF)(e:DE)(r:Option RS):Option RS:=match r with
 | some (.ex (.v _ _ _))=>none
 | some (.ex (.p c))=>if(exm c && a4O e)=true then(match suite ((List.replicate n Sl.no).set i (.fz (.exc c)))with
   | some (.nx e2)=>put i .no e2
   | some (.rt d)=>some (.rt d)
   | some (.ro ds)=>some (.ro ds)
   | _=>none)else none
 | r=>r
theorem a9Y{n i:Nat}{exm:Str→Bool}{body suite:SF}{e:DE}:b5c n i exm body suite e=a6v n i exm suite e (body e):=rfl
def a8L(i:Nat)(r:Option RS):Option RS:=match r with
 | some (.nx e2)=>put i .no e2
 | some (.rt d)=>some (.rt d)
 | some (.ro ds)=>some (.ro ds)
 | _=>none
theorem b3z{i:Nat}{e:DE}:a8L i (some (.nx e))=put i .no e:=rfl
theorem b3A{i:Nat}{d:D}:a8L i (some (.rt d))=some (.rt d):=rfl
theorem b3B{i:Nat}{d:List D}:a8L i (some (.ro d))=some (.ro d):=rfl
theorem b3C{n i:Nat}{exm:Str→Bool}{suite:SF}{e:DE}{c:Str}:a6v n i exm suite e (some (.ex (.p c)))=if(exm c && a4O e)=true then a8L i (suite ((List.replicate n Sl.no).set i (.fz (.exc c))))else none:=rfl
theorem b3D{n i:Nat}{exm:Str→Bool}{suite:SF}{e:DE}{d:D}:a6v n i exm suite e (some (.rt d))=some (.rt d):=rfl
theorem b3E{n i:Nat}{exm:Str→Bool}{suite:SF}{e:DE}{d:List D}:a6v n i exm suite e (some (.ro d))=some (.ro d):=rfl
theorem b3F{n i:Nat}{exm:Str→Bool}{suite:SF}{e e1:DE}:a6v n i exm suite e (some (.nx e1))=some (.nx e1):=rfl
theorem b3G(a b:Int):w4 (.int a) (.int b)=some (.int (a+b)):=rfl
theorem b3H(a b:Int):w9 (.int a) (.int b)=some (.int (a-b)):=rfl
theorem b5e(a b:Int):gLt (.int a) (.int b)=some (.bl (decide (a<b))):=rfl
theorem b5f(a b:Int):gLe (.int a) (.int b)=some (.bl (decide (a≤b))):=rfl
theorem b5g(a b:Int):gGt (.int a) (.int b)=some (.bl (decide (b<a))):=rfl
theorem b5h(a b:Int):gGe (.int a) (.int b)=some (.bl (decide (b≤a))):=rfl
theorem b3I{a b:Int}(h:IntMulOk a b):a0a (.int a) (.int b)=some (.int (a*b)):=by show(if _ then _ else _)=_;rw[if_pos h]
theorem b3J{a b:Int}(h:0<b∧b.natAbs.log2<9000):D4 (.int a) (.int b)=some (.int (a/b)):=by show(if _ then _ else _)=_;rw[if_pos h]
theorem b3K{a b:Int}(h:0<b):t8 (.int a) (.int b)=some (.int (a%b)):=by show(if _ then _ else _)=_;rw[if_pos h]
theorem a7M{a b:Int}(h:a00 a b):V9 (.int a) (.int b)=some (.int (a ^ b.toNat)):=by show(if _ then _ else _)=_;rw[if_pos h]
end
def Fits(i:Int):Prop:=Builtin.Int.intBits i≤2 ^ 20
theorem b3L{a b:Int}(h:a.natAbs≤b.natAbs):Builtin.Int.intBits a≤Builtin.Int.intBits b:=by
 unfold Builtin.Int.intBits
 split
 ·exact Nat.zero_le _
 ·rename_i ha
  have ha':a.natAbs≠0:=by
   intro z;apply ha;first | exact Int.natAbs_eq_zero.mp z | (simpa using z)
  have hb':b.natAbs≠0:=by omega
  split
  ·rename_i hb
   exact absurd (by first | exact Int.natAbs_eq_zero.mpr hb | (simpa using hb)) hb'
  ·have h1:b.natAbs<2 ^ (b.natAbs.log2+1):=Nat.lt_log2_self
   have h2:a.natAbs.log2<b.natAbs.log2+1:=(Nat.log2_lt ha').mpr (by omega)
   omega
theorem Fits.le{a b:Int}(h:Fits b)(l:a.natAbs≤b.natAbs):Fits a:=Nat.le_trans (b3L l) h
theorem Fits.mod{i n:Int}(hn:0<n)(h:Fits n):Fits (i%n):=by
 refine h.le ?_
 have h1:=Int.emod_nonneg i (show n≠0 by omega)
 have h2:=Int.emod_lt_of_pos i hn
 omega
theorem b6B{a b:Int}(h:a.natAbs<2 ^ 64):IntMulOk a b:=IntMulOk.of_left (intBits_le_64 (by omega) (by omega))
theorem a8M{a b:Int}(h:b.natAbs<2 ^ 64):IntMulOk a b:=IntMulOk.of_right (intBits_le_64 (by omega) (by omega))
theorem Z7{a b:Int}(h:b.natAbs<2 ^ 64):a0a (.int a) (.int b)=some (.int (a*b)):=b3I (a8M h)
section
variable {α:Type}
theorem b2d{a:α}{l:List α}:atI (a::l) 0=some a:=by unfold atI P9;simp
theorem a38{a:α}{l:List α}{n:Nat}:atI (a::l) ((n:Int)+1)=atI l n:=by
 unfold atI P9
 have h1:(0:Int)≤(n:Int)+1:=by omega
 have h2:(0:Int)≤(n:Int):=by omega
 rw[if_pos h1,if_pos h2]
 by_cases z:(n:Int)<(l.length:Int)
 ·rw[if_pos z,if_pos (by rw[List.length_cons];push_cast;omega)]
  show(a::l)[((n:Int)+1).toNat]? = l[((n:Int)).toNat]?
  rw[show((n:Int)+1).toNat=n+1 by omega,show((n:Int)).toNat=n by omega]
  rfl
 ·rw[if_neg z,if_neg (by rw[List.length_cons];push_cast;omega)]
  rfl
theorem b2e{a b:α}{l:List α}:atI (a::b::l) 1=some b:=(a38 (n:=0)).trans b2d
theorem b2f{a b c:α}{l:List α}:atI (a::b::c::l) 2=some c:=(a38 (n:=1)).trans b2e
theorem b2g{a b c d:α}{l:List α}:atI (a::b::c::d::l) 3=some d:=(a38 (n:=2)).trans b2f
theorem b6a{a b c d e:α}{l:List α}:atI (a::b::c::d::e::l) 4=some e:=(a38 (n:=3)).trans b2g
theorem b7E{a b c d e f:α}{l:List α}:atI (a::b::c::d::e::f::l) 5=some f:=(a38 (n:=4)).trans b6a
end
def O6(ns:List Int)(k:Int):Int:=ns.getD k.toNat 0
theorem b3M{ns:List Int}{k:Int}(hk:0≤k):(if k<(ns.length:Int)then(match atI ns k with
  | none=>none
  | some n=>some (R1.ret (D.int n)))else some (R1.ret (D.int 0)))=some (R1.ret (D.int (O6 ns k))):=by
 unfold O6
 by_cases z:k<(ns.length:Int)
 ·rw[if_pos z]
  have h:k.toNat<ns.length:=by omega
  have e:atI ns k=some ns[k.toNat]:=by
   unfold atI P9
   rw[if_pos hk,if_pos z]
   exact List.getElem?_eq_getElem h
  rw[e,List.getD_eq_getElem?_getD,List.getElem?_eq_getElem h];rfl
 ·rw[if_neg z,List.getD_eq_getElem?_getD,List.getElem?_eq_none (by omega)];rfl
section
variable {K:W.Frag}{cl:Str→Addr}{E:XK}{σ:St}{H F:Hp}{env:DE}{k:Nat}
def oS(f:ZF):OF:=fun e=>bnd (f e) fun d e1=>match d with
 | .int i=>some (.ok (some i) e1)
 | _=>none
theorem b2h{t:TE}{f:ZF}(hf:u5 K cl E t f):RfO K cl E (b11 t) (oS f):=by
 intro σ H Q env F R h
 refine hf σ H _ env F R ((Ct.bnd h b6K).mono fun x H1 ⟨F1,e1,d,s1,R1,p1,h1⟩=>?_)
 split at h1
 ·rename_i i
  have:x=.int i:=by have:=(show Rp K cl F1 (.int i) x from p1);simpa only[Rp]using this
  exact⟨i,this,h1 _ H1 F1 Frm.refl R1 rfl⟩
 ·exact h1.elim
def a4Q(xs:List D)(lo hi:Option Int):List D:=(xs.drop (HT.sIx xs.length 0 lo)).take (HT.sIx xs.length xs.length hi-HT.sIx xs.length 0 lo)
theorem Rps.cut{ds:List D}{xs:List V}(h:Rps K cl F ds xs)(lo hi:Option Int):Rps K cl F (a4Q ds lo hi) (a4y xs lo hi):=by
 unfold a4Q a4y
 rw[h.length]
 exact(h.drop _).take _
def a8N(i:Nat)(l u:OF):NF:=fun e=>match look e i with
 | none=>none
 | some _=>bnd (l e) fun lo e2=>bnd (u e2) fun hi e3=>match look e3 i with
  | some d=>(match seqL d with
   | some ds=>some (.ok (a4Q ds lo hi) e3)
   | none=>none)
  | none=>none
theorem Rb.seqL{d:D}{ds:List D}{v:V}(s:Same F H)(p:Rb K cl F H d v)(q:L2.seqL d=some ds):∃a xs,v=.ref a∧Rps K cl F ds xs∧SqL K H a xs:=by
 rcases p with p | ⟨a,xs,es,e,rfl,h,r⟩
 ·obtain⟨a,xs,e,r,l⟩:=Rp.seqL p q;exact⟨a,xs,e,r,l H s⟩
 ·cases q;exact⟨a,xs,e,r,.of h⟩
theorem b5i{i:Nat}{tl tu:TO}{l u:OF}(hl:RfO K cl E tl l)(hu:RfO K cl E tu u):RfN K cl E (tSl (b0L K) (D2 i) tl tu) (a8N i l u):=by
 intro σ H Q env F R h
 unfold a8N at h
 cases q:look env i with
 | none=>rw[q]at h;exact h.elim
 | some d0 =>
  rw[q]at h
  obtain⟨x,e0,_⟩:=R.look q
  refine⟨x,e0,?_⟩
  refine hl σ H _ env F R ((Ct.bnd h a2_).mono fun lo H2 ⟨F2,e2,lo',s2,R2,p2,h2⟩=>?_)
  refine hu σ H2 _ e2 F2 R2 ((Ct.bnd h2 a2_).mono fun hi H3 ⟨F3,e3,hi',s3,R3,p3,h3⟩=>?_)
  cases (show lo=lo' from p2)
  cases (show hi=hi' from p3)
  cases q2:look e3 i with
  | none=>simp only[q2]at h3;exact h3.elim
  | some d =>
   simp only[q2]at h3
   obtain⟨x',e',rb⟩:=R3.look q2
   rw[e0]at e';cases e'
   split at h3
   ·rename_i ds hs
    obtain⟨a,xs,rfl,r,hq⟩:=rb.seqL R3.sub hs
    exact⟨a,xs,rfl,hq,fun p hp=>Ct.newN R3 hp (r.cut _ _) h3⟩
   ·exact h3.elim
end
section
variable {P:Program}{w:World}{mg:Str→Option Value}{base:Heap}{K:W.Frag}{cl:Str→Addr}{E:XK}{σ:St}{H F:Hp}{env:DE}{k:Nat}
def a0T:List D→Option (List Int)
 | []=>some []
 | .int b::ds=>(a0T ds).map (b :: ·)
 | _=>none
theorem a7N:∀{ds:List D} {bs:List Int},a0T ds=some bs→ds=bs.map .int
 | [],_,h=>by cases h;rfl
 | .int b::ds,_,h=>by
  unfold a0T at h
  cases q:a0T ds with
  | none=>rw[q]at h;cases h
  | some bs=>rw[q]at h;cases h;rw[a7N q];rfl
 | .non::_,_,h=>by cases h
 | .bl _::_,_,h=>by cases h
 | .str _::_,_,h=>by cases h
 | .ty _::_,_,h=>by cases h
 | .cls _::_,_,h=>by cases h
 | .tup _::_,_,h=>by cases h
 | .lst _::_,_,h=>by cases h
 | .scr _::_,_,h=>by cases h
 | .exc _::_,_,h=>by cases h
 | .obj _ _ _::_,_,h=>by cases h
 | .dic _ _::_,_,h=>by cases h
 | .exv _ _ _::_,_,h=>by cases h
theorem ints_map:∀(ns:List Int),a0T (ns.map .int)=some ns
 | []=>rfl
 | n::ns=>by show(a0T (ns.map .int)).map (n :: ·)=_;rw[ints_map ns];rfl
end
def b5j(x:Option DE)(k:DE→Option (R (List D))):Option (R (List D)):=match x with
 | none=>none
 | some e=>k e
theorem a5n{e:DE}{k:DE→Option (R (List D))}:b5j (some e) k=k e:=rfl
theorem a9Z{b:GF}{c:BF}{el:ZF}{ec eo:DE}{acc:List D}:C3 b c el ec eo [] acc=some (.ok acc eo):=rfl
theorem a39{b:GF}{c:BF}{el:ZF}{ec eo:DE}{d:D}{ds acc:List D}:C3 b c el ec eo (d::ds) acc=b5j (b d ec) fun e1=>bnd (c e1) fun t e2=>if t=true then bnd (el e2) fun y _=>if acc.length<sizeLine then C3 b c el ec eo ds (acc++[y])else none else C3 b c el ec eo ds acc:=by
 rw[C3];cases b d ec<;>rfl
section
variable {K:W.Frag}{cl:Str→Addr}{E:XK}{σ:St}{H F:Hp}{env:DE}{k:Nat}
def a0U:List D→Option D
 | [.int i,.int j]=>some (.int (if j > i then j else i))
 | _=>none
theorem a7O:a4K K cl (fun xs H Q=>∃i j,xs=[.int i,.int j]∧Q (.int (if j > i then j else i)) H) a0U:=by
 intro xs ds z H F Q s p h q
 unfold a0U at h
 split at h
 ·rename_i i j;cases h
  exact⟨i,j,Rps.ints (ns:=[i,j]) p,q _ H F (.refl s) (by simp only[Rp])⟩
 ·cases h
def a1E:D→Option D
 | .int i=>some (.int i)
 | .bl b=>some (.int (if b then 1 else 0))
 | _=>none
theorem a7P:CbOk1 K cl (fun xs H Q=>(∃i,xs=[.int i]∧Q (.int i) H)∨∃k,xs=[.bl k]∧Q (.int (if k then 1 else 0)) H) a1E:=by
 intro x d z H F Q s hx h q
 unfold a1E at h
 split at h
 ·rename_i i;cases h;rw[hx.int];exact .inl ⟨i,rfl,q _ H F (.refl s) (by simp only[Rp])⟩
 ·rename_i i;cases h;rw[hx.bl];exact .inr ⟨i,rfl,q _ H F (.refl s) (by simp only[Rp])⟩
 ·cases h
def inD(d:D)(es:List D):Bool:=es.any fun e=>U8 e d
theorem Rps.inV{d:D}{v:V}(p:Rp K cl F d v)(f:n9 d=true):∀{es:List D} {us:List V},Rps K cl F es us→es.all n9=true→L2.inV v us=inD d es
 | [],_,h,_=>by rw[h.inv0];rfl
 | e::es,_,h,fe=>by
  obtain⟨u,r,rfl,h1,h2⟩:=h.inv
  rw[List.all_cons,Bool.and_eq_true]at fe
  have:=Rps.inV p f h2 fe.2
  unfold L2.inV inD at this ⊢
  rw[List.any_cons,List.any_cons,h1.eq p fe.1 f,this]
def W9(neg:Bool)(d e:D):Option D:=match e with
 | .lst es=>if(n9 d && es.all n9)=true then some (.bl (if neg then !inD d es else inD d es))else none
 | .tup es=>if(n9 d && es.all n9)=true then some (.bl (if neg then !inD d es else inD d es))else none
 | _=>none
theorem Rb.flat{d:D}{v:V}(h:Rb K cl F H d v)(f:n9 d=true):Rp K cl F d v:=by
 rcases h with h | ⟨_,_,_,_,rfl,_⟩
 ·exact h
 ·cases f
theorem a8O{neg:Bool}:OpOk K cl (rIn K neg) (W9 neg):=by
 intro x y d e z H F Q s hx hy h q
 unfold W9 at h
 split at h
 ·split at h
  ·rename_i c;cases h
   rw[Bool.and_eq_true]at c
   obtain⟨a,xs,rfl,hH,r⟩:=hy.lst s
   have px:=hx.flat c.1
   refine⟨a,xs,rfl,.inl (.of hH),(px.flat c.1).2,r.flat c.2,q _ H F (.refl s) ?_⟩
   simp only[Rp];rw[r.inV px c.1 c.2]
  ·cases h
 ·split at h
  ·rename_i c;cases h
   rw[Bool.and_eq_true]at c
   obtain⟨a,xs,rfl,hH,r⟩:=hy.tup s
   have px:=hx.flat c.1
   refine⟨a,xs,rfl,.inr (.of hH),(px.flat c.1).2,r.flat c.2,q _ H F (.refl s) ?_⟩
   simp only[Rp];rw[r.inV px c.1 c.2]
  ·cases h
 ·cases h
theorem tyL{i:Nat}{ds:List D}(R:Rel K cl σ H F env)(q:look env i=some (.lst ds)):∃a,σ[i]? = some (some (.ref a))∧tyV K "list" (.ref a) H:=by
 obtain⟨x,e0,rb⟩:=R.look q
 obtain⟨a,xs,rfl,hH,_⟩:=rb.lst R.sub
 exact⟨a,e0,.inl ⟨rfl,xs,.of hH⟩⟩
def a3f(i:Nat):ZF:=fun e=>match e[i]? with
 | some (.ow ds)=>(match ds.getLast? with
  | some d=>some (.ok d (e.set i (.ow ds.dropLast)))
  | none=>none)
 | _=>none
theorem Rps.dropLast{ds:List D}{xs:List V}(h:Rps K cl F ds xs):Rps K cl F ds.dropLast xs.dropLast:=by
 rw[List.dropLast_eq_take,List.dropLast_eq_take,h.length];exact h.take _
theorem a90{i:Nat}:u5 K cl E (b0M K "list" b4P (D2 i)) (a3f i):=by
 intro σ H Q env F R h
 unfold a3f at h
 split at h
 ·rename_i ds q
  split at h
  ·rename_i d hd
   obtain⟨a,xs,e,hH,hF,r⟩:=R.mu i ds (.inl q)
   have hd':ds[ds.length-1]? = some d:=by rw[← List.getLast?_eq_getElem?];exact hd
   obtain⟨v,hv,p⟩:=r.get hd'
   obtain⟨R2,f2⟩:=R.change q e r.dropLast
   refine⟨_,e,.inl ⟨rfl,xs,.of hH⟩,a,xs,v,rfl,rfl,hH,by rw[← r.length];exact hv,h v _ F f2 R2 p⟩
  ·exact h.elim
 ·exact h.elim
end
mutual
def A7:D→D→Bool
 | .tup ds,e=>(match e with
  | .tup es=>O1 ds es
  | _=>false)
 | .lst ds,e=>(match e with
  | .lst es=>O1 ds es
  | _=>false)
 | d,e=>U8 d e
def O1:List D→List D→Bool
 | [],es=>es.isEmpty
 | d::ds,es=>(match es with
  | []=>false
  | e::es=>A7 d e && O1 ds es)
end
mutual
def j6:D→Bool
 | .tup ds=>G2 ds
 | .lst ds=>G2 ds
 | d=>n9 d
def G2:List D→Bool
 | []=>true
 | d::ds=>j6 d && G2 ds
end
mutual
def Q5:D→Nat
 | .tup ds=>M5 ds+1
 | .lst ds=>M5 ds+1
 | _=>0
def M5:List D→Nat
 | []=>0
 | d::ds=>max (Q5 d) (M5 ds)
end
def a6w(ds es:List D)(j:Nat):Bool:=match ds[j]?,es[j]? with
 | some d,some e=>A7 d e
 | _,_=>true
theorem W4:∀{ds es:List D},ds.length=es.length→(List.range ds.length).all (a6w ds es)=O1 ds es
 | [],[],_=>by simp[O1]
 | d::ds,e::es,h=>by
  have h':ds.length=es.length:=by simpa using h
  simp only[O1]
  show(List.range (ds.length+1)).all _=(A7 d e && O1 ds es)
  rw[List.range_succ_eq_map,List.all_cons,List.all_map,← W4 h']
  rfl
theorem a0B:∀{ds es:List D},ds.length≠es.length→O1 ds es=false
 | [],[],h=>absurd rfl h
 | _::_,[],_=>by simp[O1]
 | [],_::_,_=>by simp[O1]
 | d::ds,e::es,h=>by
  simp only[O1]
  rw[a0B (fun q=>h (by simp[q])),Bool.and_false]
section
variable {K:W.Frag}{cl:Str→Addr}{F:Hp}
theorem a1F{d e:D}{v:V}(fd:n9 d=true)(p:Rp K cl F d v)(q:Rp K cl F e v)(pe:j6 e=true):U8 d e=true:=by
 cases d<;>first | (cases fd;done) | skip
 all_goals simp only[Rp]at p;subst p
 all_goals cases e<;>simp only[Rp]at q<;>first | (cases q;done) | (cases q;simp[U8];done) | (obtain⟨_,_,z,_⟩:=q;cases z;done) | (obtain⟨_,z,_⟩:=q;cases z;done) | (simp[j6,n9]at pe;done)
mutual
theorem a4R:∀(d e:D) (v:V),Rp K cl F d v→Rp K cl F e v→j6 d=true→j6 e=true→A7 d e=true
 | .tup ds,e,v,p,q,pd,pe=>by
  simp only[Rp]at p
  obtain⟨a,xs,rfl,ha,r⟩:=p
  cases e<;>simp only[Rp]at q
  case tup es =>
   obtain⟨a',ys,z,ha',r'⟩:=q
   cases z;rw[ha]at ha';cases ha'
   simp only[j6]at pd pe
   simp only[A7]
   exact a3g ds es xs r r' pd pe
  case lst es =>
   obtain⟨a',ys,z,ha',r'⟩:=q
   cases z;rw[ha]at ha';cases ha'
  all_goals first | (cases q;done) | (simp[j6,n9]at pe;done)
 | .lst ds,e,v,p,q,pd,pe=>by
  simp only[Rp]at p
  obtain⟨a,xs,rfl,ha,r⟩:=p
  cases e<;>simp only[Rp]at q
  case lst es =>
   obtain⟨a',ys,z,ha',r'⟩:=q
   cases z;rw[ha]at ha';cases ha'
   simp only[j6]at pd pe
   simp only[A7]
   exact a3g ds es xs r r' pd pe
  case tup es =>
   obtain⟨a',ys,z,ha',r'⟩:=q
   cases z;rw[ha]at ha';cases ha'
  all_goals first | (cases q;done) | (simp[j6,n9]at pe;done)
 | .non,e,v,p,q,pd,pe=>by simp only[A7];exact a1F rfl p q pe
 | .bl _,e,v,p,q,pd,pe=>by simp only[A7];exact a1F rfl p q pe
 | .int _,e,v,p,q,pd,pe=>by simp only[A7];exact a1F rfl p q pe
 | .str _,e,v,p,q,pd,pe=>by simp only[A7];exact a1F rfl p q pe
 | .ty _,e,v,p,q,pd,pe=>by simp[j6,n9]at pd
 | .cls _,e,v,p,q,pd,pe=>by simp[j6,n9]at pd
 | .scr _,e,v,p,q,pd,pe=>by simp[j6,n9]at pd
 | .exc _,e,v,p,q,pd,pe=>by simp[j6,n9]at pd
 | .obj _ _ _,e,v,p,q,pd,pe=>by simp[j6,n9]at pd
 | .dic _ _,e,v,p,q,pd,pe=>by simp[j6,n9]at pd
 | .exv _ _ _,e,v,p,q,pd,pe=>by simp[j6,n9]at pd
theorem a3g:∀(ds es:List D) (vs:List V),Rps K cl F ds vs→Rps K cl F es vs→G2 ds=true→G2 es=true→O1 ds es=true
 | [],es,vs,p,q,_,_=>by
  rw[p.inv0]at q
  cases es with
  | nil=>simp[O1]
  | cons e es=>obtain⟨_,_,z,_⟩:=q.inv;cases z
 | d::ds,es,vs,p,q,pd,pe=>by
  obtain⟨v,r,rfl,p1,p2⟩:=p.inv
  cases es with
  | nil=>have:=q.inv0;cases this
  | cons e es =>
   obtain⟨v',r',z,q1,q2⟩:=q.inv
   cases z
   simp only[G2,Bool.and_eq_true]at pd pe
   simp only[O1]
   rw[a4R d e v p1 q1 pd.1 pe.1,a3g ds es r p2 q2 pd.2 pe.2];rfl
end
end
section
variable {X:Cx}{cl:Str→Addr}{F:Hp}{pins:List (Addr×Obj)}{σ:St}{H:Hp}{s:Shared}
theorem a1G{a:Addr}{d:D}{v:V}{u:Value}{A:Around}(hu:A.units<cLine)(hl:(∃xs,SqL X.K H a xs)∨∃xs,SqT X.K H a xs)(I:Inv X pins σ H s)(f:n9 d=true)(p:Rp X.K cl F d v)(r:RelV v u):SeqAt.EqAt A s (.ref a) u false∧SeqAt.EqAt A s u (.ref a) false:=by
 rcases hl with⟨xs,h⟩ | ⟨xs,h⟩
 ·obtain⟨us,r1,p1,z1⟩:=I.list h
  have q:=p1.isList
  cases d<;>first | (cases f;done) | skip
  all_goals simp only[Rp]at p;subst p
  ·cases r;exact⟨.list_none q hu,.none_list q hu⟩
  ·cases r;exact⟨.list_bool _ q hu,.bool_list _ q hu⟩
  ·obtain⟨t,rfl⟩:=r;exact⟨.list_int _ _ q hu,.int_list _ _ q hu⟩
  ·obtain⟨t,rfl⟩:=r;exact⟨.list_str _ _ q hu,.str_list _ _ q hu⟩
 ·obtain⟨us,r1,q,z1⟩:=I.tuple h
  cases d<;>first | (cases f;done) | skip
  all_goals simp only[Rp]at p;subst p
  ·cases r;exact⟨.tuple_none q hu,.none_tuple q hu⟩
  ·cases r;exact⟨.tuple_bool _ q hu,.bool_tuple _ q hu⟩
  ·obtain⟨t,rfl⟩:=r;exact⟨.tuple_int _ _ q hu,.int_tuple _ _ q hu⟩
  ·obtain⟨t,rfl⟩:=r;exact⟨.tuple_str _ _ q hu,.str_tuple _ _ q hu⟩
theorem O2{d:D}(p:j6 d=true):n9 d=true∨(∃ds,d=.tup ds)∨∃ds,d=.lst ds:=by
 cases d<;>first | exact .inl rfl | exact .inr (.inl ⟨_,rfl⟩) | exact .inr (.inr ⟨_,rfl⟩) | (simp[j6,n9]at p;done)
theorem b1k{d e:D}(f:n9 d=true):A7 d e=U8 d e:=by cases d<;>first | (cases f;done) | simp only[A7]
theorem a0V{d e:D}{v u:V}{a b:Value}{A:Around}(I:Inv X pins σ H s)(sF:Same F H)(hu:A.units<cLine)(f:n9 d=true)(p:Rp X.K cl F d v)(q:Rp X.K cl F e u)(rv:RelV v a)(ru:RelV u b)(pe:j6 e=true):SeqAt.EqAt A s a b (A7 d e):=by
 rw[b1k f]
 rcases O2 pe with fe | ⟨es,rfl⟩ | ⟨es,rfl⟩
 ·rw[← p.eq q f fe]
  exact a9l rv ru (p.flat f).2 (q.flat fe).2
 ·simp only[Rp]at q
  obtain⟨c,ys,rfl,hb,r'⟩:=q
  cases ru
  have:=(a1G (A:=A) hu (.inr ⟨ys,.of (sF _ _ hb)⟩) I f p rv).2
  have z:U8 d (.tup es)=false:=by cases d<;>first | (cases f;done) | rfl
  rw[z];exact this
 ·simp only[Rp]at q
  obtain⟨c,ys,rfl,hb,r'⟩:=q
  cases ru
  have:=(a1G (A:=A) hu (.inl ⟨ys,.of (sF _ _ hb)⟩) I f p rv).2
  have z:U8 d (.lst es)=false:=by cases d<;>first | (cases f;done) | rfl
  rw[z];exact this
mutual
theorem b3N(I:Inv X pins σ H s)(sF:Same F H):∀(d e:D) (v u:V) (a b:Value) (A:Around),A.units+Q5 d<cLine→Rp X.K cl F d v→Rp X.K cl F e u→RelV v a→RelV u b→j6 d=true→j6 e=true→SeqAt.EqAt A s a b (A7 d e)
 | .tup ds,e,v,u,va,ua,A,hu,p,q,rv,ru,pd,pe=>by
  have p0:=p
  have hu':A.units<cLine:=by omega
  simp only[Q5]at hu
  simp only[Rp]at p
  obtain⟨a,xs,rfl,ha,r⟩:=p
  cases rv
  have ha':=sF _ _ ha
  rcases O2 pe with f | ⟨es,rfl⟩ | ⟨es,rfl⟩
  ·have:=(a1G (A:=A) hu' (.inr ⟨xs,.of ha'⟩) I f q ru).1
   have z:A7 (.tup ds) e=false:=by cases e<;>first | (cases f;done) | simp only[A7]
   rw[z];exact this
  ·have q0:=q
   simp only[Rp]at q
   obtain⟨b,ys,rfl,hb,r'⟩:=q
   cases ru
   have hb':=sF _ _ hb
   by_cases z:a=b
   ·subst z
    rw[a4R _ _ _ p0 q0 pd pe]
    exact .same _
   ·obtain⟨us,r1,p1,_⟩:=I.tuple (.of ha')
    obtain⟨ws,r2,p2,_⟩:=I.tuple (.of hb')
    simp only[j6]at pd pe
    have he:∀j (h1:j<us.toArray.size) (h2:j<ws.toArray.size),SeqAt.EqAt A.in1 s us.toArray[j] ws.toArray[j] (a6w ds es j):=a0C I sF ds es xs ys us ws A.in1 (by show A.units+1+M5 ds<cLine;omega) r r' r1 r2 pd pe
    have:=SeqAt.EqAt.of_refs z (SeqAt.RcAt.tuples p1 p2 hu' he)
    have e1:us.toArray.size=ds.length:=by simp[← r1.length,r.length]
    have e2:ws.toArray.size=es.length:=by simp[← r2.length,r'.length]
    rw[e1,e2]at this
    simp only[A7]
    by_cases hl:ds.length=es.length
    ·rw[← hl,Nat.min_self,W4 hl,beq_self_eq_true,Bool.and_true]at this
     exact this
    ·rw[a0B hl]
     rw[beq_eq_false_iff_ne.mpr hl,Bool.and_false]at this
     exact this
  ·simp only[Rp]at q
   obtain⟨b,ys,rfl,hb,r'⟩:=q
   cases ru
   obtain⟨us,r1,p1,_⟩:=I.tuple (.of ha')
   obtain⟨ws,r2,p2,_⟩:=I.list (.of (sF _ _ hb))
   simp only[A7]
   exact .tuple_list p1 p2.isList hu'
 | .lst ds,e,v,u,va,ua,A,hu,p,q,rv,ru,pd,pe=>by
  have p0:=p
  have hu':A.units<cLine:=by omega
  simp only[Q5]at hu
  simp only[Rp]at p
  obtain⟨a,xs,rfl,ha,r⟩:=p
  cases rv
  have ha':=sF _ _ ha
  rcases O2 pe with f | ⟨es,rfl⟩ | ⟨es,rfl⟩
  ·have:=(a1G (A:=A) hu' (.inl ⟨xs,.of ha'⟩) I f q ru).1
   have z:A7 (.lst ds) e=false:=by cases e<;>first | (cases f;done) | simp only[A7]
   rw[z];exact this
  ·simp only[Rp]at q
   obtain⟨b,ys,rfl,hb,r'⟩:=q
   cases ru
   obtain⟨us,r1,p1,_⟩:=I.list (.of ha')
   obtain⟨ws,r2,p2,_⟩:=I.tuple (.of (sF _ _ hb))
   simp only[A7]
   exact .list_tuple p1.isList p2 hu'
  ·have q0:=q
   simp only[Rp]at q
   obtain⟨b,ys,rfl,hb,r'⟩:=q
   cases ru
   have hb':=sF _ _ hb
   by_cases z:a=b
   ·subst z
    rw[a4R _ _ _ p0 q0 pd pe]
    exact .same _
   ·obtain⟨us,r1,p1,_⟩:=I.list (.of ha')
    obtain⟨ws,r2,p2,_⟩:=I.list (.of hb')
    simp only[j6]at pd pe
    have he:∀j (h1:j<us.toArray.size) (h2:j<ws.toArray.size),SeqAt.EqAt A.in1 s us.toArray[j] ws.toArray[j] (a6w ds es j):=a0C I sF ds es xs ys us ws A.in1 (by show A.units+1+M5 ds<cLine;omega) r r' r1 r2 pd pe
    have e1:us.toArray.size=ds.length:=by simp[← r1.length,r.length]
    have e2:ws.toArray.size=es.length:=by simp[← r2.length,r'.length]
    simp only[A7]
    by_cases hl:ds.length=es.length
    ·have:=SeqAt.EqAt.of_refs z (SeqAt.RcAt.lists p1.isList p2.isList (by rw[e1,e2,hl]) hu' he)
     rw[e1,W4 hl]at this
     exact this
    ·rw[a0B hl]
     exact SeqAt.EqAt.of_refs z (SeqAt.RcAt.lists_lengths p1.isList p2.isList (by rw[e1,e2];simp[hl]) hu')
 | .non,e,v,u,va,ua,A,hu,p,q,rv,ru,pd,pe=>a0V I sF (by omega) rfl p q rv ru pe
 | .bl _,e,v,u,va,ua,A,hu,p,q,rv,ru,pd,pe=>a0V I sF (by omega) rfl p q rv ru pe
 | .int _,e,v,u,va,ua,A,hu,p,q,rv,ru,pd,pe=>a0V I sF (by omega) rfl p q rv ru pe
 | .str _,e,v,u,va,ua,A,hu,p,q,rv,ru,pd,pe=>a0V I sF (by omega) rfl p q rv ru pe
 | .ty _,e,v,u,va,ua,A,hu,p,q,rv,ru,pd,pe=>by simp[j6,n9]at pd
 | .cls _,e,v,u,va,ua,A,hu,p,q,rv,ru,pd,pe=>by simp[j6,n9]at pd
 | .scr _,e,v,u,va,ua,A,hu,p,q,rv,ru,pd,pe=>by simp[j6,n9]at pd
 | .exc _,e,v,u,va,ua,A,hu,p,q,rv,ru,pd,pe=>by simp[j6,n9]at pd
 | .obj _ _ _,e,v,u,va,ua,A,hu,p,q,rv,ru,pd,pe=>by simp[j6,n9]at pd
 | .dic _ _,e,v,u,va,ua,A,hu,p,q,rv,ru,pd,pe=>by simp[j6,n9]at pd
 | .exv _ _ _,e,v,u,va,ua,A,hu,p,q,rv,ru,pd,pe=>by simp[j6,n9]at pd
theorem a0C(I:Inv X pins σ H s)(sF:Same F H):∀(ds es:List D) (xs ys:List V) (us ws:List Value) (A:Around),A.units+M5 ds<cLine→Rps X.K cl F ds xs→Rps X.K cl F es ys→Vals xs us→Vals ys ws→G2 ds=true→G2 es=true→∀j (h1:j<us.toArray.size) (h2:j<ws.toArray.size),SeqAt.EqAt A s us.toArray[j] ws.toArray[j] (a6w ds es j)
 | [],es,xs,ys,us,ws,A,hu,p,q,rv,rw',pd,pe=>fun j h1 h2=>by
  rw[p.inv0]at rv;cases rv;simp at h1
 | d::ds,es,xs,ys,us,ws,A,hu,p,q,rv,rw',pd,pe=>fun j h1 h2=>by
  obtain⟨x,xs',rfl,p1,p2⟩:=p.inv
  cases rv with
  | cons r1 t1 =>
   cases es with
   | nil=>rw[q.inv0]at rw';cases rw';simp at h2
   | cons e es =>
    obtain⟨y,ys',rfl,q1,q2⟩:=q.inv
    cases rw' with
    | cons r2 t2 =>
     simp only[G2,Bool.and_eq_true]at pd pe
     simp only[M5]at hu
     cases j with
     | zero=>exact b3N I sF d e x y _ _ A (by omega) p1 q1 r1 r2 pd.1 pe.1
     | succ j =>
      have:=a0C I sF ds es xs' ys' _ _ A (by omega) p2 q2 t1 t2 pd.2 pe.2 j (by simpa using h1) (by simpa using h2)
      simpa [a6w]using this
end
end
theorem a1H{A:Around}{k:Nat}(hr:Room k A):A.units+41<cLine:=Nat.lt_of_le_of_lt (Nat.add_le_add_left (by decide:41≤64) _) hr.units
def T9 : D→Bool
 | .tup _=>true
 | .lst _=>true
 | _=>false
theorem Rb.toRp{K:W.Frag}{cl:Str→Addr}{F H:Hp}{d:D}{v:V}(s:Same F H)(h:Rb K cl F H d v):∃F',Same F F'∧Same F' H∧Rp K cl F' d v:=by
 rcases h with h | ⟨a,xs,ds,rfl,rfl,ha,r⟩
 ·exact⟨F,Same.refl _,s,h⟩
 ·have g:Same F (upd F a (.lst xs)):=fun b o q=>by
   by_cases z:b=a
   ·subst z;have:=s _ _ q;rw[ha]at this;cases this;exact i8
   ·rw[g5 z];exact q
  refine⟨upd F a (.lst xs),g,fun b o q=>?_,?_⟩
  ·by_cases z:b=a
   ·subst z;rw[i8]at q;cases q;exact ha
   ·rw[g5 z]at q;exact s _ _ q
  ·simp only[Rp];exact⟨a,xs,rfl,i8,r.mono g⟩
section
variable {X:Cx}{cl:Str→Addr}{F:Hp}{pins:List (Addr×Obj)}{σ:St}{H:Hp}{s:Shared}
theorem a2K{a:Addr}{d:D}{v:V}{u:Value}{A:Around}(hu:A.units<cLine)(hl:(∃xs,SqL X.K H a xs)∨∃xs,SqT X.K H a xs)(I:Inv X pins σ H s)(f:n9 d=true)(p:Rp X.K cl F d v)(r:RelV v u) :
  (SeqAt.RcAt A s (.ref a) u false∧SeqAt.RcAt A s u (.ref a) false)∧SeqAt.RcNeAt A s (.ref a) u true∧SeqAt.RcNeAt A s u (.ref a) true:=by
 rcases hl with⟨xs,h⟩ | ⟨xs,h⟩
 ·obtain⟨us,r1,p1,z1⟩:=I.list h
  have q:=p1.isList
  cases d<;>first | (cases f;done) | skip
  all_goals simp only[Rp]at p;subst p
  ·cases r;exact⟨⟨.list_none q hu,.none_list q hu⟩,.list_none q hu,.none_list q hu⟩
  ·cases r;exact⟨⟨.list_bool _ q hu,.bool_list _ q hu⟩,.list_bool _ q hu,.bool_list _ q hu⟩
  ·obtain⟨t,rfl⟩:=r;exact⟨⟨.list_int _ _ q hu,.int_list _ _ q hu⟩,.list_int _ _ q hu,.int_list _ _ q hu⟩
  ·obtain⟨t,rfl⟩:=r;exact⟨⟨.list_str _ _ q hu,.str_list _ _ q hu⟩,.list_str _ _ q hu,.str_list _ _ q hu⟩
 ·obtain⟨us,r1,q,z1⟩:=I.tuple h
  cases d<;>first | (cases f;done) | skip
  all_goals simp only[Rp]at p;subst p
  ·cases r;exact⟨⟨.tuple_none q hu,.none_tuple q hu⟩,.tuple_none q hu,.none_tuple q hu⟩
  ·cases r;exact⟨⟨.tuple_bool _ q hu,.bool_tuple _ q hu⟩,.tuple_bool _ q hu,.bool_tuple _ q hu⟩
  ·obtain⟨t,rfl⟩:=r;exact⟨⟨.tuple_int _ _ q hu,.int_tuple _ _ q hu⟩,.tuple_int _ _ q hu,.int_tuple _ _ q hu⟩
  ·obtain⟨t,rfl⟩:=r;exact⟨⟨.tuple_str _ _ q hu,.str_tuple _ _ q hu⟩,.tuple_str _ _ q hu,.str_tuple _ _ q hu⟩
theorem a7Q{d e:D}{v u:V}{a b:Value}{A:Around}(I:Inv X pins σ H s)(sF:Same F H)(hu:A.units+Q5 d<cLine)(p:Rp X.K cl F d v)(q:Rp X.K cl F e u)(rv:RelV v a)(ru:RelV u b)(pd:j6 d=true)(pe:j6 e=true)(hs:T9 d=true∨T9 e=true) :
  SeqAt.RcAt A s a b (A7 d e)∧SeqAt.RcNeAt A s a b (!A7 d e):=by
 have hu':A.units<cLine:=by omega
 rcases O2 pd with fd | ⟨ds,rfl⟩ | ⟨ds,rfl⟩
 ·have se:T9 e=true:=hs.resolve_left (by cases d<;>first | (cases fd;done) | simp[T9])
  rcases O2 pe with fe | ⟨es,rfl⟩ | ⟨es,rfl⟩
  ·cases e<;>first | (cases fe;done) | (cases se;done)
  ·simp only[Rp]at q
   obtain⟨c,ys,rfl,hb,r'⟩:=q
   cases ru
   have:=a2K (A:=A) hu' (.inr ⟨ys,.of (sF _ _ hb)⟩) I fd p rv
   have z:A7 d (.tup es)=false:=by cases d<;>first | (cases fd;done) | simp[A7,U8]
   rw[z];exact⟨this.1.2,this.2.2⟩
  ·simp only[Rp]at q
   obtain⟨c,ys,rfl,hb,r'⟩:=q
   cases ru
   have:=a2K (A:=A) hu' (.inl ⟨ys,.of (sF _ _ hb)⟩) I fd p rv
   have z:A7 d (.lst es)=false:=by cases d<;>first | (cases fd;done) | simp[A7,U8]
   rw[z];exact⟨this.1.2,this.2.2⟩
 ·simp only[Q5]at hu
  simp only[Rp]at p
  obtain⟨l,xs,rfl,ha,r⟩:=p
  cases rv
  have ha':=sF _ _ ha
  obtain⟨us,r1,p1,_⟩:=I.tuple (.of ha')
  rcases O2 pe with fe | ⟨es,rfl⟩ | ⟨es,rfl⟩
  ·have:=a2K (A:=A) hu' (.inr ⟨xs,.of ha'⟩) I fe q ru
   have z:A7 (.tup ds) e=false:=by cases e<;>first | (cases fe;done) | simp only[A7]
   rw[z];exact⟨this.1.1,this.2.1⟩
  ·simp only[Rp]at q
   obtain⟨c,ys,rfl,hb,r'⟩:=q
   cases ru
   obtain⟨ws,r2,p2,_⟩:=I.tuple (.of (sF _ _ hb))
   simp only[j6]at pd pe
   have he:=a0C I sF ds es xs ys us ws A.in1 (by show A.units+1+M5 ds<cLine;omega) r r' r1 r2 pd pe
   have h1:=SeqAt.RcAt.tuples p1 p2 hu' he
   have h2:=SeqAt.RcNeAt.tuples p1 p2 hu' he
   have e1:us.toArray.size=ds.length:=by simp[← r1.length,r.length]
   have e2:ws.toArray.size=es.length:=by simp[← r2.length,r'.length]
   rw[e1,e2]at h1 h2
   simp only[A7]
   by_cases hl:ds.length=es.length
   ·rw[← hl,Nat.min_self,W4 hl,beq_self_eq_true,Bool.and_true]at h1 h2
    exact⟨h1,h2⟩
   ·rw[a0B hl]
    rw[beq_eq_false_iff_ne.mpr hl,Bool.and_false]at h1 h2
    exact⟨h1,h2⟩
  ·simp only[Rp]at q
   obtain⟨c,ys,rfl,hb,r'⟩:=q
   cases ru
   obtain⟨ws,r2,p2,_⟩:=I.list (.of (sF _ _ hb))
   simp only[A7]
   exact⟨.tuple_list p1 p2.isList hu',.tuple_list p1 p2.isList hu'⟩
 ·simp only[Q5]at hu
  simp only[Rp]at p
  obtain⟨l,xs,rfl,ha,r⟩:=p
  cases rv
  have ha':=sF _ _ ha
  obtain⟨us,r1,p1,_⟩:=I.list (.of ha')
  rcases O2 pe with fe | ⟨es,rfl⟩ | ⟨es,rfl⟩
  ·have:=a2K (A:=A) hu' (.inl ⟨xs,.of ha'⟩) I fe q ru
   have z:A7 (.lst ds) e=false:=by cases e<;>first | (cases fe;done) | simp only[A7]
   rw[z];exact⟨this.1.1,this.2.1⟩
  ·simp only[Rp]at q
   obtain⟨c,ys,rfl,hb,r'⟩:=q
   cases ru
   obtain⟨ws,r2,p2,_⟩:=I.tuple (.of (sF _ _ hb))
   simp only[A7]
   exact⟨.list_tuple p1.isList p2 hu',.list_tuple p1.isList p2 hu'⟩
  ·simp only[Rp]at q
   obtain⟨c,ys,rfl,hb,r'⟩:=q
   cases ru
   obtain⟨ws,r2,p2,_⟩:=I.list (.of (sF _ _ hb))
   simp only[j6]at pd pe
   have he:=a0C I sF ds es xs ys us ws A.in1 (by show A.units+1+M5 ds<cLine;omega) r r' r1 r2 pd pe
   have e1:us.toArray.size=ds.length:=by simp[← r1.length,r.length]
   have e2:ws.toArray.size=es.length:=by simp[← r2.length,r'.length]
   simp only[A7]
   by_cases hl:ds.length=es.length
   ·have h1:=SeqAt.RcAt.lists p1.isList p2.isList (by rw[e1,e2,hl]) hu' he
    have h2:=SeqAt.RcNeAt.lists p1.isList p2.isList (by rw[e1,e2,hl]) hu' he
    rw[e1,W4 hl]at h1 h2
    exact⟨h1,h2⟩
   ·rw[a0B hl]
    exact⟨SeqAt.RcAt.lists_lengths p1.isList p2.isList (by rw[e1,e2];simp[hl]) hu',SeqAt.RcNeAt.lists_lengths p1.isList p2.isList (by rw[e1,e2];simp[hl]) hu'⟩
end
def a6x(K:W.Frag)(cl:Str→Addr)(neg:Bool):R2:=fun x y H Q=>∃F d e,Same F H∧Rp K cl F d x∧Rp K cl F e y∧j6 d=true∧j6 e=true∧Q5 d≤40∧(T9 d=true∨T9 e=true)∧Q (.bl (if neg then !A7 d e else A7 d e)) H
theorem a4S{X:Cx}{K:W.Frag}{cl:Str→Addr}(hu:X.A.units+41<cLine)(hK:X.K=K:=by rfl):G7 X (compareOp .Eq) (a6x K cl false):=by
 subst hK
 intro pins s σ H x y v u Q I rx ry h
 obtain⟨F,d,e,sF,p,q,pd,pe,hd,hs,hQ⟩:=h
 exact(a7Q I sF (by omega) p q rx ry pd pe hs).1 X.prog X.w _ _ ⟨.bl _,H,I,rfl,hQ⟩
theorem a4T{X:Cx}{K:W.Frag}{cl:Str→Addr}(hu:X.A.units+41<cLine)(hK:X.K=K:=by rfl):G7 X (compareOp .NotEq) (a6x K cl true):=by
 subst hK
 intro pins s σ H x y v u Q I rx ry h
 obtain⟨F,d,e,sF,p,q,pd,pe,hd,hs,hQ⟩:=h
 exact(a7Q I sF (by omega) p q rx ry pd pe hs).2 X.prog X.w _ _ ⟨.bl _,H,I,rfl,hQ⟩
def K3(neg:Bool)(d e:D):Option D:=if(j6 d && j6 e && decide (Q5 d≤40) && (T9 d || T9 e))=true then some (.bl (if neg then !A7 d e else A7 d e))else none
theorem a1f{K:W.Frag}{cl:Str→Addr}{neg:Bool}:OpOk K cl (a6x K cl neg) (K3 neg):=by
 intro x y d e z H F Q s hx hy h q
 unfold K3 at h
 split at h
 ·rename_i c;cases h
  simp only[Bool.and_eq_true,Bool.or_eq_true,decide_eq_true_eq]at c
  obtain⟨F1,g1,s1,p1⟩:=hx.toRp s
  have hy1:Rb K cl F1 H e y:=by
   rcases hy with hy | ⟨a,xs,ds,e1,e2,ha,r⟩
   ·exact .inl (hy.mono g1)
   ·exact .inr ⟨a,xs,ds,e1,e2,ha,r.mono g1⟩
  obtain⟨F2,g2,s2,p2⟩:=hy1.toRp s1
  exact⟨F2,d,e,s2,p1.mono g2,p2,c.1.1.1,c.1.1.2,c.1.2,c.2,q _ H F (.refl s) (by simp only[Rp])⟩
 ·cases h
mutual
theorem a6y:∀(d:D),j6 d=true→A7 d d=true
 | .tup ds,h=>by simp only[j6]at h;simp only[A7];exact a2l ds h
 | .lst ds,h=>by simp only[j6]at h;simp only[A7];exact a2l ds h
 | .non,_=>by simp[A7,U8]
 | .bl _,_=>by simp[A7,U8]
 | .int _,_=>by simp[A7,U8]
 | .str _,_=>by simp[A7,U8]
 | .ty _,h=>by simp[j6,n9]at h
 | .cls _,h=>by simp[j6,n9]at h
 | .scr _,h=>by simp[j6,n9]at h
 | .exc _,h=>by simp[j6,n9]at h
 | .obj _ _ _,h=>by simp[j6,n9]at h
 | .dic _ _,h=>by simp[j6,n9]at h
 | .exv _ _ _,h=>by simp[j6,n9]at h
theorem a2l:∀(ds:List D),G2 ds=true→O1 ds ds=true
 | [],_=>by simp[O1]
 | d::ds,h=>by
  simp only[G2,Bool.and_eq_true]at h
  simp only[O1]
  rw[a6y d h.1,a2l ds h.2];rfl
end
theorem a2m{d:D}(neg:Bool)(h1:j6 d=true)(h2:Q5 d≤40)(h3:T9 d=true):K3 neg d d=some (.bl (!neg)):=by
 unfold K3
 rw[if_pos (by simp[h1,h2,h3]),a6y d h1]
 cases neg<;>rfl
theorem a2Y{α:Type}{f:α→D}{l:List α}(h:∀a∈l,j6 (f a)=true):G2 (l.map f)=true:=by
 induction l with
 | nil=>rfl
 | cons a l ih =>
  simp only[List.map_cons,G2,Bool.and_eq_true]
  exact⟨h a List.mem_cons_self,ih fun b hb=>h b (List.mem_cons_of_mem _ hb)⟩
theorem a5o{α:Type}{f:α→D}{l:List α}{n:Nat}(h:∀a∈l,Q5 (f a)≤n):M5 (l.map f)≤n:=by
 induction l with
 | nil=>simp[M5]
 | cons a l ih =>
  simp only[List.map_cons,M5]
  have:=h a List.mem_cons_self
  have:=ih fun b hb=>h b (List.mem_cons_of_mem _ hb)
  omega
section
variable {K:W.Frag}{cl:Str→Addr}{E:XK}{σ:St}{H F:Hp}{env:DE}{k:Nat}
def b6N(K:W.Frag)(cl:Str→Addr)(E:XK)(a:Addr)(t:TS)(f:SF):Prop:=∀(N:Ends) σ H env F,Rel K cl σ H F env→(∃cls,F a=some (Q1 a cls none))→Cs K cl E (f env) σ H F env N→t N σ H
theorem RfS.x{a:Addr}{t:TS}{f:SF}(h:RfS K cl E t f):b6N K cl E a t f:=fun N σ H env F R _ c=>h N σ H env F R c
end
def a07:Sl→Sl
 | .ow ds=>.fz (.lst ds)
 | .hd ds=>.fz (.lst ds)
 | .od ks ds=>.fz (.dic ks ds)
 | .hk ks ds=>.fz (.dic ks ds)
 | s=>s
def P7:DE→DE
 | []=>[]
 | s::e=>a07 s::P7 e
mutual
def noL:D→Bool
 | .lst _=>false
 | .scr _=>false
 | .exc _=>false
 | .obj _ _ _=>false
 | .dic _ _=>false
 | .exv _ _ _=>false
 | .tup ds=>noLs ds
 | _=>true
def noLs:List D→Bool
 | []=>true
 | d::ds=>noL d && noLs ds
end
def M6(σ:St)(env:DE)(b:Addr):Prop:=(∃j,Mu env j∧σ[j]? = some (some (.ref b)))∨∃(j:Nat) (s:Sl) (ks:DK) (ds:List D),env[j]? = some s∧Q3 s ks ds∧σ[j]? = some (some (.ref b))
def a3h(o:HO):Prop:=(∃xs,o=.lst xs)∨∃ks xs,o=W8 ks xs
theorem a4U:∀(e:DE),P7 e=e.map a07
 | []=>rfl
 | s::e=>by rw[P7,a4U e];rfl
section
variable {K:W.Frag}{cl:Str→Addr}{E:XK}{σ:St}{H F F1 H' F' F2:Hp}{env:DE}
mutual
theorem Rp.noL(g:∀b o,F' b=some o→¬a3h o→F2 b=some o):∀(d:D) (v:V),L2.noL d=true→Rp K cl F' d v→Rp K cl F2 d v
 | .non,_,_,h=>by simpa only[Rp]using h
 | .bl _,_,_,h=>by simpa only[Rp]using h
 | .int _,_,_,h=>by simpa only[Rp]using h
 | .str _,_,_,h=>by simpa only[Rp]using h
 | .ty _,_,_,h=>by simpa only[Rp]using h
 | .cls _,_,_,h=>by simpa only[Rp]using h
 | .tup ds,v,n,h=>by
  simp only[Rp]at h ⊢
  obtain⟨a,xs,e,h1,h2⟩:=h
  exact⟨a,xs,e,g _ _ h1 (fun z=>by rcases z with⟨_,z⟩ | ⟨ks,_,z⟩;exact nomatch z;cases ks<;>exact nomatch z),Rps.noL g ds xs (by simpa only[L2.noL]using n) h2⟩
 | .lst ds,v,n,h=>by simp[L2.noL]at n
 | .scr ns,v,n,h=>by simp[L2.noL]at n
 | .exc c,v,n,h=>by simp[L2.noL]at n
 | .obj _ _ _,v,n,h=>by simp[L2.noL]at n
 | .dic _ _,v,n,h=>by simp[L2.noL]at n
 | .exv _ _ _,v,n,h=>by simp[L2.noL]at n
theorem Rps.noL(g:∀b o,F' b=some o→¬a3h o→F2 b=some o):∀(ds:List D) (vs:List V),L2.noLs ds=true→Rps K cl F' ds vs→Rps K cl F2 ds vs
 | [],_,_,h=>by simpa only[Rps]using h
 | d::ds,vs,n,h=>by
  simp only[Rps]at h ⊢
  simp only[L2.noLs,Bool.and_eq_true]at n
  obtain⟨v,r,e,h1,h2⟩:=h
  exact⟨v,r,e,Rp.noL g d v n.1 h1,Rps.noL g ds r n.2 h2⟩
end
theorem a2L{j:Nat}{s:Sl}(h:(P7 env)[j]? = some s):∃s0,env[j]? = some s0∧s=a07 s0:=by
 rw[a4U,List.getElem?_map]at h
 cases q:env[j]? with
 | none=>rw[q]at h;cases h
 | some s0=>rw[q]at h;exact⟨s0,rfl,(Option.some.inj h).symm⟩
theorem a6z{j:Nat}:¬Mu (P7 env) j:=fun⟨ds,q⟩=>by
 rcases q with q | q
 ·obtain⟨s0,_,e⟩:=a2L q;cases s0<;>cases e
 ·obtain⟨s0,_,e⟩:=a2L q;cases s0<;>cases e
theorem a7R{j:Nat}{s:Sl}{ks:DK}{ds:List D}(h:(P7 env)[j]? = some s):¬Q3 s ks ds:=fun d=>by
 obtain⟨s0,_,e⟩:=a2L h
 cases s0<;> (subst e;exact d)
theorem a4V(R:Rel K cl σ H F env):∃F1,Rel K cl σ H F1 (P7 env)∧(∀b,M6 σ env b→∃o,a3h o∧F1 b=some o∧H b=some o)∧∀b,¬M6 σ env b→F1 b=F b:=by
 classical
 have hF:∀b,M6 σ env b→F b=none∧∃o,a3h o∧H b=some o:=fun b w=>by
  rcases w with⟨j,⟨ds,q⟩,e⟩ | ⟨j,s,ks,ds,q,d,e⟩
  ·obtain⟨a,xs,e1,h1,f1,_⟩:=R.mu j ds q
   rw[e]at e1;cases e1
   exact⟨f1,_,.inl ⟨xs,rfl⟩,h1⟩
  ·obtain⟨a,xs,e1,h1,f1,_⟩:=R.od.at_ j s ks ds q d
   rw[e]at e1;cases e1
   exact⟨f1,_,.inr ⟨ks,xs,rfl⟩,h1⟩
 have sF:Same F (fun b=>if M6 σ env b then H b else F b):=fun b o q=>by
  show(if M6 σ env b then H b else F b)=some o
  rw[if_neg (fun w=>by rw[(hF b w).1]at q;cases q)];exact q
 refine⟨fun b=>if M6 σ env b then H b else F b,⟨fun b o q=>?_,by rw[a4U,List.length_map];exact R.len,fun i d q=>?_,fun i ds q=>absurd ⟨ds,q⟩ a6z,fun i j a hi=>absurd hi a6z,.none fun _ _ _ _ h=>a7R h⟩,fun b w=>?_,fun b w=>if_neg w⟩
 ·try dsimp only at q
  split at q
  ·exact q
  ·exact R.sub _ _ q
 ·obtain⟨s0,e0,e1⟩:=a2L q
  cases s0 with
  | no=>cases e1
  | fz d'=>cases e1;obtain⟨v,e2,r⟩:=R.fz i _ e0;exact⟨v,e2,r.mono sF⟩
  | ow ds =>
   cases e1
   obtain⟨a,xs,e2,h2,f2,r⟩:=R.mu i ds (.inl e0)
   refine⟨_,e2,?_⟩
   simp only[Rp]
   refine⟨a,xs,rfl,?_,r.mono sF⟩
   rw[if_pos (.inl ⟨i,⟨ds,.inl e0⟩,e2⟩)];exact h2
  | hd ds =>
   cases e1
   obtain⟨a,xs,e2,h2,f2,r⟩:=R.mu i ds (.inr e0)
   refine⟨_,e2,?_⟩
   simp only[Rp]
   refine⟨a,xs,rfl,?_,r.mono sF⟩
   rw[if_pos (.inl ⟨i,⟨ds,.inr e0⟩,e2⟩)];exact h2
  | od ks ds =>
   cases e1
   obtain⟨a,xs,e2,h2,f2,hn,r⟩:=R.od.at_ i _ ks ds e0 ⟨rfl,rfl⟩
   refine⟨_,e2,?_⟩
   simp only[Rp]
   refine⟨a,xs,rfl,?_,hn,r.mono sF⟩
   rw[if_pos (.inr ⟨i,_,ks,ds,e0,⟨rfl,rfl⟩,e2⟩)];exact h2
  | hk ks ds =>
   cases e1
   obtain⟨a,xs,e2,h2,f2,hn,r⟩:=R.od.at_ i _ ks ds e0 ⟨rfl,rfl⟩
   refine⟨_,e2,?_⟩
   simp only[Rp]
   refine⟨a,xs,rfl,?_,hn,r.mono sF⟩
   rw[if_pos (.inr ⟨i,_,ks,ds,e0,⟨rfl,rfl⟩,e2⟩)];exact h2
 ·obtain⟨o,i,h⟩:=(hF b w).2
  exact⟨o,i,by(try dsimp only);rw[if_pos w];exact h,h⟩
theorem a0D(R:Rel K cl σ H F env)(o1:∀b,M6 σ env b→∃o,a3h o∧F1 b=some o∧H b=some o)(o2:∀b,¬M6 σ env b→F1 b=F b)(x:FX σ H F1 (P7 env) H' F') :
  ∃F2,Frm σ H F env σ H' F2 env∧Rel K cl σ H' F2 env∧(∀b o,F' b=some o→¬a3h o→F2 b=some o)∧∀b,F' b=none→F2 b=none:=by
 classical
 have nw:∀b,¬Ow σ (P7 env) b:=fun b ⟨j,s,oo,q,_⟩=>by
  cases s with
  | ow ds=>exact a6z ⟨ds,.inl q⟩
  | od ks ds=>exact a7R q (ks:=ks) (ds:=ds) ⟨rfl,rfl⟩
  | _=>exact oo
 have hF:∀b,M6 σ env b→F b=none:=fun b w=>by
  rcases w with⟨j,⟨ds,q⟩,e⟩ | ⟨j,s,ks,ds,q,d,e⟩
  ·obtain⟨a,xs,e1,h1,f1,_⟩:=R.mu j ds q
   rw[e]at e1;cases e1
   exact f1
  ·obtain⟨a,xs,e1,h1,f1,_⟩:=R.od.at_ j s ks ds q d
   rw[e]at e1;cases e1
   exact f1
 have sF:Same F (fun b=>if M6 σ env b then none else F' b):=fun b o q=>by
  have w:¬M6 σ env b:=fun w=>by rw[hF b w]at q;cases q
  show(if M6 σ env b then none else F' b)=some o
  rw[if_neg w]
  exact x.fz _ _ (by rw[o2 b w];exact q)
 have kept:∀b o,M6 σ env b→H b=some o→H' b=some o:=fun b xs w h=>by
  obtain⟨ys,_,f,h2⟩:=o1 b w
  rw[h]at h2;cases h2
  exact x.sub _ _ (x.fz _ _ f)
 refine⟨fun b=>if M6 σ env b then none else F' b,⟨sF,fun b o hb fb w=>?_,fun _ _ h=>⟨h,rfl⟩,x.dom⟩,⟨fun b o q=>?_,R.len,fun i d q=>?_,fun i ds q=>?_,R.inj,R.od.own (fun i s ks ds a xs h d e hH hF=>⟨kept a _ (.inr ⟨i,s,ks,ds,h,d,e⟩) hH,by(try dsimp only);rw[if_pos (.inr ⟨i,s,ks,ds,h,d,e⟩)]⟩) sF⟩,fun b o q nl=>?_,fun b q=>?_⟩
 ·by_cases ww:M6 σ env b
  ·obtain⟨ys,_,f,h2⟩:=o1 b ww
   refine⟨by rw[hb]at h2;cases h2;exact kept b _ ww hb,by(try dsimp only);rw[if_pos ww],w⟩
  ·obtain⟨h1,f1⟩:=x.hid b o hb (by rw[o2 b ww];exact fb) (nw b)
   exact⟨h1,by(try dsimp only);rw[if_neg ww];exact f1,w⟩
 ·try dsimp only at q
  split at q
  ·cases q
  ·exact x.sub _ _ q
 ·obtain⟨v,e,r⟩:=R.fz i d q;exact⟨v,e,r.mono sF⟩
 ·obtain⟨a,xs,e,h1,f1,r⟩:=R.mu i ds q
  have w:M6 σ env a:=.inl ⟨i,⟨ds,q⟩,e⟩
  exact⟨a,xs,e,kept a _ w h1,by(try dsimp only);rw[if_pos w],r.mono sF⟩
 ·dsimp only
  rw[if_neg (fun w=>by obtain⟨ys,i,f,_⟩:=o1 b w;rw[x.fz _ _ f]at q;cases q;exact nl i)];exact q
 ·dsimp only
  split
  ·rfl
  ·exact q
def noX:XN→Bool
 | .p _=>true
 | .v _ _ d=>noL d
theorem Xf.noL{c:XN}{cx:Option Addr}(g:∀b o,F' b=some o→¬a3h o→F2 b=some o)(n:noX c=true)(h:Xf K cl F' c cx):Xf K cl F2 c cx:=by
 cases c with
 | p c=>exact h
 | v c f d =>
  obtain⟨dx,y,e,h1,h2⟩:=h
  exact⟨dx,y,e,g _ _ h1 (fun z=>by rcases z with⟨_,z⟩ | ⟨ks,_,z⟩;exact nomatch z;cases ks<;>exact nomatch z),Rp.noL g d y n h2⟩
def a1I(f:ZF):ZF:=fun e=>match f (P7 e)with
 | some (.ok d _)=>if noL d=true then some (.ok d e)else none
 | some (.ex c)=>if noX c=true then some (.ex c)else none
 | none=>none
def a1J(f:BF):BF:=fun e=>match f (P7 e)with
 | some (.ok d _)=>some (.ok d e)
 | some (.ex c)=>if noX c=true then some (.ex c)else none
 | none=>none
theorem a6A{t:TE}{f:ZF}(hf:u5 K cl E t f):u5 K cl E t (a1I f):=by
 intro σ H Q env F R h
 obtain⟨F1,R1,o1,o2⟩:=a4V R
 refine hf σ H Q (P7 env) F1 R1 ?_
 unfold a1I at h
 split at h
 ·rename_i d e2 q
  rw[q]
  intro b H' F' fr R' p
  split at h
  ·rename_i n
   obtain⟨F2,fr2,R2,g,_⟩:=a0D R o1 o2 (fr.toFX R'.sub)
   exact h b H' F2 fr2 R2 (Rp.noL g d b n p)
  ·exact h.elim
 ·rename_i c q
  rw[q]
  intro H' F' x cx xf
  obtain⟨F2,fr2,R2,g,_⟩:=a0D R o1 o2 x
  split at h
  ·rename_i n
   exact h H' F2 (fr2.toFX R2.sub) cx (xf.noL g n)
  ·exact h.elim
 ·exact h.elim
theorem a6B{t:TT}{f:BF}(hf:T6 K cl E t f):T6 K cl E t (a1J f):=by
 intro σ H Q env F R h
 obtain⟨F1,R1,o1,o2⟩:=a4V R
 refine hf σ H Q (P7 env) F1 R1 ?_
 unfold a1J at h
 split at h
 ·rename_i d e2 q
  rw[q]
  intro b H' F' fr R' p
  obtain⟨F2,fr2,R2,g,_⟩:=a0D R o1 o2 (fr.toFX R'.sub)
  exact h b H' F2 fr2 R2 p
 ·rename_i c q
  rw[q]
  intro H' F' x cx xf
  obtain⟨F2,fr2,R2,g,_⟩:=a0D R o1 o2 x
  split at h
  ·rename_i n
   exact h H' F2 (fr2.toFX R2.sub) cx (xf.noL g n)
  ·exact h.elim
 ·exact h.elim
def bLd(r:Option (R Bool))(e:DE):Option (R Bool):=match r with
 | some (.ok d _)=>some (.ok d e)
 | some (.ex c)=>if noX c=true then some (.ex c)else none
 | none=>none
def zLd(r:Option (R D))(e:DE):Option (R D):=match r with
 | some (.ok d _)=>if noL d=true then some (.ok d e)else none
 | some (.ex c)=>if noX c=true then some (.ex c)else none
 | none=>none
theorem b1l(f:BF)(e:DE):a1J f e=bLd (f (P7 e)) e:=rfl
theorem b1m(f:ZF)(e:DE):a1I f e=zLd (f (P7 e)) e:=rfl
theorem b5k(d:Bool)(e e2:DE):bLd (some (.ok d e2)) e=some (.ok d e):=rfl
theorem b5l(c:Str)(e:DE):bLd (some (.ex (.p c))) e=some (.ex (.p c)):=rfl
theorem b3O(c f:Str)(d:D)(e:DE):bLd (some (.ex (.v c f d))) e=if noL d=true then some (.ex (.v c f d))else none:=rfl
theorem b5m(d:D)(e e2:DE):zLd (some (.ok d e2)) e=if noL d=true then some (.ok d e)else none:=rfl
theorem b5n(c:Str)(e:DE):zLd (some (.ex (.p c))) e=some (.ex (.p c)):=rfl
theorem b3P(c f:Str)(d:D)(e:DE):zLd (some (.ex (.v c f d))) e=if noL d=true then some (.ex (.v c f d))else none:=rfl
variable {k:Nat}
end
def un:Option D→Sl
 | none=>.no
 | some d=>.fz d
def Z2:Sl→Bool
 | .hd _=>false
 | _=>true
def okS:Option Sl→Bool
 | none=>false
 | some s=>Z2 s
theorem b1n(o:Option D):Z2 (un o)=true:=by cases o<;>rfl
theorem b1o:Z2 .no=true:=rfl
theorem b1p(d:D):Z2 (.fz d)=true:=rfl
theorem b1q(d:List D):Z2 (.ow d)=true:=rfl
theorem b1r(d:List D):Z2 (.hd d)=false:=rfl
theorem b1s(s:Sl):okS (some s)=Z2 s:=rfl
theorem b1t:okS none=false:=rfl
theorem b3Q:a07 .no=.no:=rfl
theorem b3R(d:D):a07 (.fz d)=.fz d:=rfl
theorem b3S(d:List D):a07 (.ow d)=.fz (.lst d):=rfl
theorem b3T(d:List D):a07 (.hd d)=.fz (.lst d):=rfl
theorem a92(i:Nat)(s:Sl)(e:DE):put i s e=if okS e[i]? = true then some (.nx (e.set i s))else none:=by
 unfold put okS
 cases e[i]? with
 | none=>rfl
 | some t=>cases t<;>rfl
theorem b1u(i:Nat)(d:D)(e:DE):h7 i d e=if okS e[i]? = true then some (e.set i (.fz d))else none:=by
 unfold h7 okS
 cases e[i]? with
 | none=>rfl
 | some t=>cases t<;>rfl
theorem b3U(o:Option D):a07 (un o)=un o:=by cases o<;>rfl
theorem b1v:a4O []=true:=rfl
theorem a93(s:Sl)(e:DE):a4O (s::e)=(Z2 s && a4O e):=by cases s<;>rfl
def K5(r:Option RS):Option RS:=match r with
 | some (.ct e)=>some (.nx e)
 | r=>r
theorem b3V(e:DE):K5 (some (.nx e))=some (.nx e):=rfl
theorem b3W(e:DE):K5 (some (.ct e))=some (.nx e):=rfl
theorem b3X(d:D):K5 (some (.rt d))=some (.rt d):=rfl
theorem b3Y(c:XN):K5 (some (.ex c))=some (.ex c):=rfl
theorem b3Z(d:List (List D)):K5 (some (.rz d))=some (.rz d):=rfl
theorem b30(d:List D):K5 (some (.ro d))=some (.ro d):=rfl
theorem a94{r:Option RS}{k:SF}:a0A r k=a0A (K5 r) k:=by
 cases r with
 | none=>rfl
 | some r=>cases r<;>rfl
theorem a6C{α:Type}{b:GF}{body:SF}(f:α→D)(I:List α→DE→Prop)(l0:List α):∀(l pre:List α) (e:DE),l0=pre++l→I pre e→(∀pre x post e,l0=pre++x::post→I pre e→∃e2,K5 (a8K (b (f x) e) body)=some (.nx e2)∧I (pre++[x]) e2)→∃e',B3 b body (l.map f) e=some (.nx e')∧I l0 e'
 | [],pre,e,hl,h,_=>⟨e,rfl,by rw[hl,List.append_nil];exact h⟩
 | x::l,pre,e,hl,h,hs=>by
  obtain⟨e2,h2,h3⟩:=hs pre x l e hl h
  obtain⟨e',h4,h5⟩:=a6C f I l0 l (pre++[x]) e2 (by rw[hl,List.append_assoc];rfl) h3 hs
  refine⟨e',?_,h5⟩
  rw[List.map_cons,N9]
  cases q:b (f x) e with
  | none=>rw[q]at h2;cases h2
  | some e1 =>
   rw[q]at h2
   have h2:K5 (body e1)=some (.nx e2):=h2
   rw[C4,a94,h2];exact h4
theorem a0j{α:Type}{b:GF}{body:SF}(f:α→D)(I:List α→DE→Prop)(l:List α)(e:DE)(h:I [] e)(hs:∀pre x post e,l=pre++x::post→I pre e→∃e2,K5 (a8K (b (f x) e) body)=some (.nx e2)∧I (pre++[x]) e2):∃e',B3 b body (l.map f) e=some (.nx e')∧I l e' :=
 a6C f I l l [] e rfl h hs
theorem a0E{α:Type}{b:GF}{c:BF}{el:ZF}{ec eo:DE}(f:α→D)(g:α→D)(q:α→Bool):∀(l:List α) (acc:List D),acc.length+l.length≤sizeLine→(∀x∈l,∃e1 e2,b (f x) ec=some e1∧c e1=some (.ok (q x) e2)∧(q x=true→∃e3,el e2=some (.ok (g x) e3)))→C3 b c el ec eo (l.map f) acc=some (.ok (acc++(l.filter q).map g) eo)
 | [],acc,_,_=>by simp only[List.filter_nil,List.map_nil,List.append_nil];rfl
 | x::l,acc,hl,h=>by
  obtain⟨e1,e2,h1,h2,h3⟩:=h x List.mem_cons_self
  have hl':acc.length<sizeLine:=by rw[List.length_cons]at hl;omega
  rw[List.map_cons,a39,h1,a5n,h2,a2e]
  by_cases z:q x=true
  ·obtain⟨e3,h4⟩:=h3 z
   rw[if_pos z,h4,a2e,if_pos hl',a0E f g q l (acc++[g x]) (by rw[List.length_append,List.length_cons,List.length_nil];rw[List.length_cons]at hl;omega) (fun y m=>h y (List.mem_cons_of_mem _ m)),List.filter_cons_of_pos z,List.map_cons,List.append_assoc];rfl
  ·rw[if_neg z,a0E f g q l acc (by rw[List.length_cons]at hl;omega) (fun y m=>h y (List.mem_cons_of_mem _ m)),List.filter_cons_of_neg z]
theorem b31{ds:List D}{v u:Int}(h:0≤v)(h2:v≤u):a4Q ds (some v) (some u)=(ds.drop v.toNat).take (u-v).toNat:=by
 unfold a4Q
 obtain⟨n,rfl⟩:=Int.eq_ofNat_of_zero_le h
 obtain⟨m,rfl⟩:=Int.eq_ofNat_of_zero_le (Int.le_trans h h2)
 rw[HT.sIx_nat,HT.sIx_nat,Int.toNat_natCast]
 have e:((m:Int)-(n:Int)).toNat=m-n:=by omega
 rw[e]
 by_cases z:n≤ds.length
 ·rw[Nat.min_eq_left z]
  by_cases y:m≤ds.length
  ·rw[Nat.min_eq_left y]
  ·rw[Nat.min_eq_right (by omega),List.take_of_length_le (by rw[List.length_drop];exact Nat.le_refl _),List.take_of_length_le (by rw[List.length_drop];omega)]
 ·rw[List.drop_of_length_le (show ds.length≤min n ds.length by omega),List.drop_of_length_le (by omega),List.take_nil,List.take_nil]
theorem b32(d:D)(n:String):a3d [d,.ty n]=a2J n d:=by unfold a3d a2J;rfl
theorem a0k{n k:Nat}(h:k<n):P9 n (k:Int)=some k:=by
 unfold P9;rw[if_pos (by omega),if_pos (by omega),Int.toNat_natCast]
section
variable {K:W.Frag}{cl:Str→Addr}{E:XK}
theorem a5q:∀{F:Hp} {ds:List D} {vs:List V} (n:Nat),Rps K cl F ds vs→Rps K cl F (ds.eraseIdx n) (vs.eraseIdx n)
 | F,[],vs,n,h=>by rw[h.inv0];exact .nil
 | F,d::ds,vs,0,h=>by obtain⟨v,r,rfl,h1,h2⟩:=h.inv;exact h2
 | F,d::ds,vs,n+1,h=>by obtain⟨v,r,rfl,h1,h2⟩:=h.inv;exact .cons h1 (a5q n h2)
end
section
variable {K:W.Frag}{cl:Str→Addr}{E:XK}
def a0F(i j:Nat):SF:=fun e=>match e[i]?,e[j]? with
 | some (.ow d1),some (.ow d2)=>if i=j then none else some (.rz [d1,d2])
 | _,_=>none
theorem b5o{F' H':Hp}{nw:Addr→Prop}{d1 d2:List D}{a1 a2:Addr}{xs1 xs2:List V}(n:a1≠a2)(h1:H' a1=some (.lst xs1))(f1:F' a1=none)(n1:nw a1)(r1:Rps K cl F' d1 xs1)(h2:H' a2=some (.lst xs2))(f2:F' a2=none)(n2:nw a2)(r2:Rps K cl F' d2 xs2):Rz K cl F' H' nw [d1,d2] [a1,a2]:=by
 refine⟨by simp[n],rfl,fun k a ds e1 e2=>?_⟩
 match k with
 | 0=>cases e1;cases e2;exact⟨xs1,h1,f1,n1,r1⟩
 | 1=>cases e1;cases e2;exact⟨xs2,h2,f2,n2,r2⟩
 | k+2=>simp at e1
theorem b1w{i j:Nat}:RfS K cl E (a4w (a8l (L3 (D2 i) (L3 (D2 j) a0r)))) (a0F i j):=by
 intro N σ H env F R h
 unfold a0F at h
 split at h
 ·rename_i d1 d2 q1 q2
  split at h
  ·exact h.elim
  ·rename_i nij
   obtain⟨a1,xs1,e1,hH1,hF1,r1⟩:=R.mu i d1 (.inl q1)
   obtain⟨a2,xs2,e2,hH2,hF2,r2⟩:=R.mu j d2 (.inl q2)
   refine⟨_,e1,_,e2,by show 2≤2 ^ 24;decide,fun p hp=>?_⟩
   have n12:a1≠a2:=fun z=>nij (R.inj i j a1 ⟨d1,.inl q1⟩ ⟨d2,.inl q2⟩ e1 (by rw[z];exact e2))
   have np:∀a o,H a=some o→a≠p:=fun a o ha z=>by rw[z,hp]at ha;cases ha
   refine h p [a1,a2] _ F ⟨Same.refl _,fun b o hb=>by rw[g5 (np b o (R.sub _ _ hb))];exact R.sub _ _ hb,fun a o ha fa _=>⟨by rw[g5 (np a o ha)];exact ha,fa⟩,fun a ha=>?_⟩ hp i8 (R.sub.free hp) ?_
   ·by_cases z:a=p
    ·rw[z,i8]at ha;cases ha
    ·rw[g5 z]at ha;exact ha
   ·exact b5o n12 (by rw[g5 (np _ _ hH1)];exact hH1) hF1 (fun o _=>⟨i,.ow d1,True.intro,q1,e1⟩) r1 (by rw[g5 (np _ _ hH2)];exact hH2) hF2 (fun o _=>⟨j,.ow d2,True.intro,q2,e2⟩) r2
 ·exact h.elim
end
open Classical in
section
variable {K:W.Frag}{cl:Str→Addr}{E:XK}
theorem a6D:∀a b:List Int,HT.lexLt a b=false→HT.lexLt b a=false→a=b
 | [],[],_,_=>rfl
 | [],_::_,h,_=>by cases h
 | _::_,[],_,h=>by cases h
 | x::xs,y::ys,h1,h2=>by
  rw[HT.lexLt_cons]at h1 h2
  by_cases e:x=y
  ·subst e
   rw[if_pos rfl]at h1 h2
   rw[a6D xs ys h1 h2]
  ·rw[if_neg e]at h1
   rw[if_neg (Ne.symm e)]at h2
   have:=of_decide_eq_false h1
   have:=of_decide_eq_false h2
   exact absurd (show x=y by omega) e
theorem a6E{F:Hp}{ds:List D}{xs:List V}(r:Rps K cl F ds xs):∀(p:List Nat),(∀i∈p,i<ds.length)→Rps K cl F (p.map fun i=>ds.getD i .non) (p.map fun i=>xs.getD i .non)
 | [],_=>.nil
 | i::p,h=>by
  have hi:=h i (by simp)
  obtain⟨v,e,pv⟩:=r.get (List.getElem?_eq_getElem hi)
  refine .cons ?_ (a6E r p fun j hj=>h j (by simp[hj]))
  show Rp K cl F (ds.getD i .non) (xs.getD i .non)
  have e1:ds.getD i .non=ds[i]:=by simp[hi]
  have e2:xs.getD i .non=v:=by simp[e]
  rw[e1,e2];exact pv
end
section
variable {K:W.Frag}{cl:Str→Addr}{E:XK}{σ:St}{H F:Hp}{env:DE}
abbrev HF:=XN→SF
theorem Xf.rp{c:XN}{cx:Option Addr}{a:Addr}(h:Xf K cl F c cx)(na:F a=none):Rp K cl (upd F a (Q1 a (.ref (cl c.nm)) cx)) c.d (.ref a):=by
 have g:Same F (upd F a (Q1 a (.ref (cl c.nm)) cx)):=fun b o e=>by rw[g5 (j9 e na)];exact e
 cases c with
 | p c=>show Rp K cl _ (.exc c) _;simp only[Rp];exact⟨a,cx,rfl,i8⟩
 | v c f d =>
  obtain⟨dx,y,rfl,h1,h2⟩:=h
  show Rp K cl _ (.exv c f d) _
  simp only[Rp]
  exact⟨a,dx,y,rfl,i8,g _ _ h1,h2.mono g⟩
def RfH(K:W.Frag)(cl:Str→Addr)(E:XK)(th:TH)(f:HF):Prop:=∀(N:Ends) σ H env F a c cx,Rel K cl σ H F env→H a=none→Xf K cl F c cx→Cs K cl E (f c env) σ H F env N→th (.ref (cl c.nm)) cx a N σ H
def hN:HF:=fun _ _=>none
def a5U(i:Nat)(r:Option RS):Option RS:=match r with
 | some (.nx e2)=>put i .no e2
 | some (.rt d)=>some (.rt d)
 | some (.ro ds)=>some (.ro ds)
 | _=>none
def hAs(i:Nat)(exm:Str→Option Bool)(suite:SF)(l7:HF):HF:=fun c e=>match exm c.nm with
 | some true=>(match put i (.fz c.d) e with
  | some (.nx e1)=>a5U i (suite e1)
  | _=>none)
 | some false=>l7 c e
 | none=>none
theorem b6b:RfH K cl E b17 hN:=fun _ _ _ _ _ _ _ _ _ _ _ h=>h
theorem b5p{C:Addr}{i:Nat}{exm:Str→Option Bool}{ts:Addr→TS}{suite:SF}{rt:TH}{l7:HF}(hx:∀c b,exm c=some b→W.exmOne K (.ref (cl c)) (.ref C)=some b)(hs:∀a,RfS K cl E (ts a) suite)(hr:RfH K cl E rt l7):RfH K cl E (b4V K C i ts rt) (hAs i exm suite l7):=by
 intro N σ H env F a c cx R ha xf h
 unfold hAs at h
 split at h
 ·rename_i q
  have gr:Gr H F (upd H a (Q1 a (.ref (cl c.nm)) cx)) (upd F a (Q1 a (.ref (cl c.nm)) cx)):=.new R.sub ha
  refine .inl ⟨hx c.nm true q,?_⟩
  have p:Rp K cl (upd F a (Q1 a (.ref (cl c.nm)) cx)) c.d (.ref a):=xf.rp (by cases e:F a with | none=>rfl | some o=>have:=R.sub _ _ e;rw[ha]at this;cases this)
  have h:=h.from (R.frm gr)
  have R0:=R.gr gr
  generalize upd H a (Q1 a (.ref (cl c.nm)) cx)=H1 at h R0 ⊢
  generalize upd F a (Q1 a (.ref (cl c.nm)) cx)=F1 at h R0 p
  cases hp:put i (.fz c.d) env with
  | none=>rw[hp]at h;exact h.elim
  | some r =>
   rw[hp]at h
   cases r with
   | nx e1 =>
    obtain⟨hi,nh,ee⟩:i<env.length∧(∀ds,env[i]?≠some (.hd ds))∧e1=env.set i (.fz c.d):=by
     have h0:Cs K cl (fun _ _ _=>False) (put i (.fz c.d) env) σ H1 F1 env ⟨fun _ _=>True,fun _ _=>True,fun _ _=>True,fun _ _=>True⟩:=by rw[hp];exact fun _ _ _ _ _=>trivial
     obtain⟨a1,a2,a3⟩:=a0w h0
     refine⟨a1,a2,?_⟩
     rw[a92]at hp
     revert hp
     cases env[i]? with
     | none=>simp[okS]
     | some sl=>cases sl<;>simp[okS,Z2]<;>intro z<;>exact z.symm
    subst ee
    have R1:=R0.put (d:=c.d) hi nh p
    have f1:Frm σ H1 F1 env (σ.set i (some (.ref a))) H1 F1 (env.set i (.fz c.d)):=Frm.put nh
    refine hs a _ _ _ _ _ R1 ?_
    have h2:=Cs.from f1 h
    cases r:suite (env.set i (.fz c.d))with
    | none=>simp only[r,a5U]at h2;exact h2.elim
    | some rs =>
     simp only[r,a5U]at h2
     cases rs with
     | nx e2 =>
      obtain⟨hi,nh,h3⟩:=a0w h2
      intro σ2 H2 F2 f2 R2
      obtain⟨R3,f3⟩:=R2.drop nh
      exact h3 _ H2 F2 (f2.trans f3) R3
     | bk e2=>exact h2.elim
     | ct e2=>exact h2.elim
     | rt d=>exact h2
     | ro ds=>exact h2
     | rz dss=>exact h2.elim
     | rp _ _=>exact h2.elim
     | ex c2=>exact h2.elim
   | _=>exact h.elim
 ·rename_i q
  exact .inr ⟨hx c.nm false q,hr N σ H env F a c cx R ha xf h⟩
 ·exact h.elim
def a4a(g:List D→Option R1)(f:AF)(fh:HF):SF:=fun e=>match f e with
 | some (.ok ds e1)=>(match g ds with
  | some (.ret _)=>some (.nx e1)
  | some (.own _)=>some (.nx e1)
  | some (.ex c)=>fh c e1
  | _=>none)
 | _=>none
theorem b33{g:List D→Option R1}{t:TA}{f:AF}{th:TH}{fh:HF}(hf:V6 K cl E t f)(hh:RfH K cl E th fh):RfS K cl E (b18 (i9 K cl g) t th) (a4a g f fh):=by
 intro N σ H env F R h
 unfold a4a at h
 split at h
 ·rename_i ds e1 q
  refine⟨fun cls cx H'=>∃c H1 F1 F',cls=.ref (cl c.nm)∧Xf K cl F' c cx∧g ds=some (.ex c)∧Frm σ H F env σ H1 F1 e1∧Rel K cl σ H1 F1 e1∧Gr H1 F1 H' F',?_,?_⟩
  ·refine hf σ H _ env F R ?_
   rw[q]
   intro vs H1 F1 fr R1 p1
   show i9 K cl g (vs++[]) H1 _ _
   rw[List.append_nil]
   refine⟨ds,F1,R1.sub,p1,?_⟩
   split at h
   ·rename_i d q1;rw[q1]
    exact fun v H' F' gr _=>h σ H' F' (fr.trans (R1.frm gr)) (R1.gr gr)
   ·rename_i d q1;rw[q1]
    exact fun a xs H' F' gr _ _ _ _=>h σ H' F' (fr.trans (R1.frm gr)) (R1.gr gr)
   ·rename_i c q1;rw[q1]
    exact fun H' F' gr cx e=>⟨c,H1,F1,F',rfl,e,rfl,fr,R1,gr⟩
   ·exact h.elim
  ·rintro cls cx H' ⟨c,H1,F1,F',rfl,xf,q1,fr,R1,gr⟩ a ha
   rw[q1]at h
   exact hh N σ H' e1 F' a c cx (R1.gr gr) ha xf (Cs.from (fr.trans (R1.frm gr)) h)
 ·exact h.elim
end
section
variable {K:W.Frag}{cl:Str→Addr}{E:XK}{σ:St}{H F:Hp}{env:DE}
theorem Rps.lookup{f:Str}:∀{ns:List Str} {ds:List D} {xs:List V} {z:D},Rps K cl F ds xs→(ns.zip ds).lookup f=some z→∃v,(ns.zip xs).lookup f=some v∧Rp K cl F z v
 | [],ds,xs,z,_,h=>by simp at h
 | n::ns,[],xs,z,r,h=>by simp at h
 | n::ns,d::ds,xs,z,r,h=>by
  obtain⟨v,ys,rfl,p,r'⟩:=r.inv
  rw[List.zip_cons_cons,List.lookup_cons]at h ⊢
  by_cases q:(f == n)=true
  ·rw[q]at h ⊢;cases h;exact⟨v,rfl,p⟩
  ·rw[Bool.not_eq_true _ |>.mp q]at h ⊢;exact r'.lookup h
end
structure GrM(a:Addr)(H F H' F':Hp):Prop where
 fz:Same F F'
 sub:Same F' H'
 hid:∀b o,b≠a→H b=some o→F b=none→H' b=some o∧F' b=none
 dom:∀b,H' b=none→H b=none
structure Bs(a:Addr)(σ:St)(env:DE)(H0 F0 H F:Hp):Prop where
 fz:Same F0 F
 hid:∀b o,b≠a→H0 b=some o→F0 b=none→H b=some o∧F b=none∧¬Ow σ env b
 dom:∀b,H b=none→H0 b=none
section
variable {K:W.Frag}{cl:Str→Addr}{E:XK}{σ:St}{H F:Hp}{env:DE}
theorem Bs.frm{a:Addr}{ds:List D}{σ':St}{env':DE}{H0 F0 H' F':Hp}(B:Bs a σ env H0 F0 H F)(f:Frm σ H F env σ' H' F' env'):Bs a σ' env' H0 F0 H' F' :=
 ⟨B.fz.trans f.fz,fun b o n h g=>by obtain⟨h1,f1,w1⟩:=B.hid b o n h g;exact f.hid b o h1 f1 w1,fun b h=>B.dom b (f.dom b h)⟩
theorem Bs.gr{a:Addr}{H0 F0:Hp}(B:Bs a σ env H0 F0 H F)(s:Same F H):GrM a H0 F0 H F :=
 ⟨B.fz,s,fun b o n h g=>by obtain⟨h1,f1,_⟩:=B.hid b o n h g;exact⟨h1,f1⟩,B.dom⟩
end
abbrev Rw0:=List Int×List D
def a4W(k:Rw0):List Rw0→List Rw0
 | []=>[k]
 | l::r=>if HT.lexLt l.1 k.1 then l::a4W k r else k::l::r
def a1K:List Rw0→List Rw0
 | []=>[]
 | k::r=>a4W k (a1K r)
theorem a2n(k:Rw0):∀r:List Rw0,(a4W k r).Perm (k::r)
 | []=>.refl _
 | l::r=>by
  unfold a4W
  split
  ·exact((a2n k r).cons l).trans (List.Perm.swap k l r)
  ·exact .refl _
theorem a1L:∀r:List Rw0,(a1K r).Perm r
 | []=>.refl _
 | k::r=>(a2n k _).trans ((a1L r).cons k)
theorem a2Z(k:Rw0):∀r:List Rw0,r.Pairwise (fun a b=>HT.lexLt b.1 a.1=false)→(a4W k r).Pairwise (fun a b=>HT.lexLt b.1 a.1=false)
 | [],_=>List.pairwise_singleton _ _
 | l::r,h=>by
  rw[List.pairwise_cons]at h
  unfold a4W
  split
  ·rename_i c
   rw[List.pairwise_cons]
   refine⟨fun b hb=>?_,a2Z k r h.2⟩
   rcases List.mem_cons.mp ((a2n k r).mem_iff.mp hb)with rfl | hb
   ·exact a4E _ _ c
   ·exact h.1 b hb
  ·rename_i c
   rw[Bool.not_eq_true]at c
   rw[List.pairwise_cons]
   refine⟨fun b hb=>?_,by rw[List.pairwise_cons];exact h⟩
   rcases List.mem_cons.mp hb with rfl | hb
   ·exact c
   ·exact a6f _ _ _ c (h.1 b hb)
theorem a2o:∀r:List Rw0,(a1K r).Pairwise (fun a b=>HT.lexLt b.1 a.1=false)
 | []=>.nil
 | k::r=>a2Z k _ (a2o r)
theorem a1g:∀{a b:List Rw0},a.Perm b→a.Pairwise (fun a b=>HT.lexLt b.1 a.1=false)→b.Pairwise (fun a b=>HT.lexLt b.1 a.1=false)→a.Pairwise (fun a b=>a.1≠b.1)→a=b
 | [],b,h,_,_,_=>h.symm.eq_nil.symm▸rfl
 | x::a,[],h,_,_,_=>absurd h.eq_nil nofun
 | x::a,y::b,h,ha,hb,hd=>by
  rw[List.pairwise_cons]at ha hb hd
  have e:x=y:=by
   have mx:x∈y::b:=h.mem_iff.mp (by simp)
   have my:y∈x::a:=h.mem_iff.mpr (by simp)
   rcases List.mem_cons.mp mx with e | mx
   ·exact e
   ·rcases List.mem_cons.mp my with e | my
    ·exact e.symm
    ·exact absurd (a6D _ _ (hb.1 x mx) (ha.1 y my)) (hd.1 y my)
  subst e
  rw[a1g ((List.perm_cons x).mp h) ha.2 hb.2 hd.2]
section
variable {K:W.Frag}{cl:Str→Addr}{E:XK}
theorem b1x{F' H':Hp}{nw:Addr→Prop}{d1 d2 d3:List D}{a1 a2 a3:Addr}{xs1 xs2 xs3:List V}(n:a1≠a2)(n':a1≠a3)(n'':a2≠a3)(h1:H' a1=some (.lst xs1))(f1:F' a1=none)(n1:nw a1)(r1:Rps K cl F' d1 xs1)(h2:H' a2=some (.lst xs2))(f2:F' a2=none)(n2:nw a2)(r2:Rps K cl F' d2 xs2)(h3:H' a3=some (.lst xs3))(f3:F' a3=none)(n3:nw a3)(r3:Rps K cl F' d3 xs3):Rz K cl F' H' nw [d1,d2,d3] [a1,a2,a3]:=by
 refine⟨by simp[n,n',n''],rfl,fun k a ds e1 e2=>?_⟩
 match k with
 | 0=>cases e1;cases e2;exact⟨xs1,h1,f1,n1,r1⟩
 | 1=>cases e1;cases e2;exact⟨xs2,h2,f2,n2,r2⟩
 | 2=>cases e1;cases e2;exact⟨xs3,h3,f3,n3,r3⟩
 | k+3=>simp at e1
end
def okK(ks:List (List Int)):Bool:=decide ks.Nodup && ks.all fun k=>k.length == (ks.headD []).length
section
variable {K:W.Frag}{cl:Str→Addr}{E:XK}
theorem b1y{env:DE}{i:Nat}{d:D}(n:NoOw env):NoOw (env.set i (.fz d)):=by
 intro j ds oo q
 by_cases z:i=j
 ·subst z
  by_cases hi:i<env.length
  ·rw[List.getElem?_set_self hi]at q;cases q;exact oo
  ·rw[List.getElem?_eq_none (by rw[List.length_set];omega)]at q;cases q
 ·rw[List.getElem?_set_ne z]at q;exact n j ds oo q
theorem b2m{F H:Hp}:∀{ks:List (List Int)} {ys:List V},Same F H→Rps K cl F (ks.map fun k=>D.tup (k.map .int)) ys→(∀k∈ks,k≠[])→VPs K H ys ks
 | [],_,_,r,_=>by rw[r.inv0];trivial
 | k::ks,_,s,r,h=>by
  obtain⟨v,xs,rfl,p,r'⟩:=r.inv
  refine⟨?_,b2m s r' fun k' m=>h k' (List.mem_cons_of_mem _ m)⟩
  obtain⟨a,vs,rfl,hF,rv⟩:∃a vs,v=.ref a∧F a=some (.tup vs)∧Rps K cl F (k.map .int) vs:=by simpa only[Rp]using p
  have e:vs=k.map V.int:=Rps.ints rv
  subst e
  exact⟨a,[],rfl,by rw[List.append_nil];exact .of (s _ _ hF),h k List.mem_cons_self,fun r m=>by cases m⟩
end
section
variable {P:Program}{w:World}{K:W.Frag}{mg:Str→Option Value}{base:Heap}{cl:Str→Addr}{TB:List (Addr×Str)}
theorem Fun.okT{x qual:Str}{st:Stmt}{f:Addr}{fd:FuncData}{N ps:List Str}{k:Nat}{body:SF}(F:Fun K x qual st f fd)(S:FnScope N ps (d9 st))
  (hbody:∀(A:Around) (outer:List Env) (s:Shared) (H:Hp) (E:XK),TbAll TB H→Room k (A.deeper (envOfC qual (d9 st) s.heap.objs.size f fd.code)) →
   ∃t,PSs (S9 (y8 P w) P w K mg base N qual (d9 st) f fd.code A outer s H E) (j7 st) t∧RfS K cl E t body):FnOk P w K mg base (y8 P w) (k+1) f fd ps (spT TB (i9 K cl (fD N.length ps.length body))):=by
 obtain⟨oc,od,kV,doc,pm,an,cdv,ct,osl,rfl,lk,hcd⟩:=F.ex
 refine a3C lk hcd S (fun vs H Q E h=>a1e h.2) fun A outer s H vs Q E hr h=>?_
 obtain⟨t,h1,h2⟩:=hbody A outer s H E h.1 hr
 exact⟨t,h1,W2 h2 h.2⟩
variable {X:Cx}{k k':Nat}{x:Str}{ps:List Str}{sp:Sp}{E:XK}{e:Expr}{es:List Expr}{t:TA}{p pos:Pos}
theorem b34(hT:TbAll TB X.H₀)(G:Own X.prog X.w X.K X.mg X.base k x ps (spT TB sp))(hr:Room k' X.A)(hk:k≤k')(hx:a0_ (y8 X.prog X.w) X E)(ha:PA X (e::es) t)(hg:Gl X x:=by rfl)
  (hdb:(x == ("__debug__" : Str))=false:=by decide) (he:starEach (e::es) X.env=(false,eval e X.env)::starEach es X.env:=by rfl) (hpl:(backTo pos (starEach es X.env)).any (·.1)=false:=by rfl) :
  PE X (.Call (.Name x p) (e::es) [] pos) (T8 sp [] E t):=by
 have ha':PA X (e::es) (fun σ H Q=>∃R:List V→Hp→Prop,t σ H R∧∀vs H1,R vs H1→TbAll TB H1→Q vs H1):=by
  intro pos pins s σ H Q I h
  obtain⟨R,h1,h2⟩:=h
  exact wpAny_mono (ha pos pins s σ H R I h1) (fun us s' ⟨vs,H',I',r,q⟩=>⟨vs,H',I',r,h2 _ _ q (hT.now I'.base)⟩) fun _ _ z=>z
 have:=m8 G hr hk hx ha' hg hdb he hpl (p:=p)
 intro pins s σ H Q I h
 exact this pins s σ H Q I ⟨_,h,fun vs H1 z hT'=>⟨hT',z⟩⟩
end
section
variable {P:Program}{w:World}{K:W.Frag}{mg:Str→Option Value}{base:Heap}{cl:Str→Addr}{TB:List (Addr×Str)}
theorem FunD.okT{x qual:Str}{st:Stmt}{dT f:Addr}{fd:FuncData}{N ps:List Str}{k:Nat}{body:SF}(F:FunD K x qual st dT f fd)(S:FnScope N ps (d9 st))
  (hbody:∀(A:Around) (outer:List Env) (s:Shared) (H:Hp) (E:XK),TbAll TB H→Room k (A.deeper (envOfC qual (d9 st) s.heap.objs.size f fd.code)) →
   ∃t,PSs (S9 (y8 P w) P w K mg base N qual (d9 st) f fd.code A outer s H E) (j7 st) t∧RfS K cl E t body):FnOk P w K mg base (y8 P w) (k+1) f fd ps (spT TB (i9 K cl (fD N.length ps.length body))):=by
 obtain⟨oc,od,kV,doc,pm,an,cdv,ct,osl,rfl,lk,hcd⟩:=F.ex
 refine a3C lk hcd S (fun vs H Q E h=>a1e h.2) fun A outer s H vs Q E hr h=>?_
 obtain⟨t,h1,h2⟩:=hbody A outer s H E h.1 hr
 exact⟨t,h1,W2 h2 h.2⟩
variable {X:Cx}{k k':Nat}{x:Str}{ps:List Str}{sp:Sp}{E:XK}{e:Expr}{es:List Expr}{t:TA}{p pos:Pos}{d:V}
theorem OwnD.own(G:OwnD P w K mg base k x ps sp d):Own P w K mg base k x ps sp:=by
 obtain⟨f,fd,du,F,b,bd,rd,kp,m⟩:=G.ex
 exact⟨f,fd,F,b,kp,m⟩
end
section
variable {K:W.Frag}{cl:Str→Addr}{E:XK}{k:Nat}
noncomputable def a2p(i:Nat)(k:ZF):ZF:=fun e=>match look e i with
 | some (.lst _)=>bnd (k e) fun j e1=>match j,e1[i]? with
  | .int n,some (.ow ds)=>if 0≤n∧n<ds.length∧ds.length≤1000000 then(match ds[n.toNat]? with
   | some d=>some (.ok d (e1.set i (.ow (ds.eraseIdx n.toNat))))
   | none=>none)else none
  | _,_=>none
 | _=>none
theorem a95{i:Nat}{u:TE}{k:ZF}(hk:u5 K cl E u k):u5 K cl E (tBM K "list" a9r (D2 i) (L3 u a0r)) (a2p i k):=by
 intro σ H Q env F R h
 unfold a2p at h
 split at h
 ·rename_i ds0 q
  obtain⟨a0,e0,ty⟩:=tyL R q
  refine⟨_,e0,ty,?_⟩
  refine hk σ H _ env F R ((Ct.bnd h N3).mono fun y H1 ⟨F1,e1,j,s1,R1,p1,h1⟩=>?_)
  split at h1
  ·rename_i n ds q1
   split at h1
   ·rename_i c
    split at h1
    ·rename_i d hd
     obtain⟨a,xs,e,hH,hF,r⟩:=R1.mu i ds (.inl q1)
     rw[e0]at e;cases e
     obtain⟨R3,f3⟩:=R1.change q1 e0 (a5q n.toNat r)
     have hy:y=.int n:=by have:=(show Rp K cl F1 (.int n) y from p1);simpa only[Rp]using this
     subst hy
     have hl:=r.length
     obtain⟨v,hv,p⟩:=r.get hd
     exact⟨_,xs,n,n.toNat,v,rfl,rfl,hH,by omega,by omega,seqIndex_of c.1 (by omega),hv,h1 v _ F1 f3 R3 p⟩
    ·exact h1.elim
   ·exact h1.elim
  ·exact h1.elim
 ·exact h.elim
end
def X6(el:ZF)(ec:DE):List D→Option (List (List Int))
 | []=>some []
 | d::ds=>match el (ec.set 0 (.fz d))with
  | some (.ok (.tup es) _)=>(match a0T es with
   | some k=>if k≠[]then(X6 el ec ds).map (k :: ·)else none
   | none=>none)
  | _=>none
def a1M(ks:List (List Int))(xs:List D):List Rw0:=(List.range xs.length).map fun(i:Nat)=>(ks.getD i [],[xs.getD i .non])
theorem a6F{el:ZF}{ec:DE}:∀{ds:List D} {ks:List (List Int)},X6 el ec ds=some ks→ks.length=ds.length
 | [],ks,h=>by cases h;rfl
 | d::ds,ks,h=>by
  unfold X6 at h
  split at h
  ·split at h
   ·split at h
    ·cases z:X6 el ec ds with
     | none=>rw[z]at h;cases h
     | some r=>rw[z]at h;cases h;rw[List.length_cons,List.length_cons,a6F z]
    ·cases h
   ·cases h
  ·cases h
theorem a4X{el:ZF}{ec:DE}:∀{ds:List D} {ks:List (List Int)},X6 el ec ds=some ks→∀(i:Nat) (d:D),ds[i]? = some d→∃(k:List Int) (e':DE),ks[i]? = some k∧k≠[]∧el (ec.set 0 (.fz d))=some (.ok (.tup (k.map .int)) e')
 | [],ks,h,i,d,hd=>by cases hd
 | d::ds,ks,h,i,d',hd=>by
  unfold X6 at h
  split at h
  ·rename_i es e' he
   split at h
   ·rename_i k hk
    split at h
    ·rename_i ne
     cases z:X6 el ec ds with
     | none=>rw[z]at h;cases h
     | some r =>
      rw[z]at h;cases h
      cases i with
      | zero=>cases hd;exact⟨k,e',rfl,ne,by rw[he,a7N hk]⟩
      | succ i=>exact a4X z i d' hd
    ·cases h
   ·cases h
  ·cases h
section
variable {K:W.Frag}{cl:Str→Addr}{E:XK}
def a0l(i j k:Nat):SF:=fun e=>match e[i]?,e[j]?,e[k]? with
 | some (.ow d1),some (.ow d2),some (.ow d3)=>if i=j∨i=k∨j=k then none else some (.rz [d1,d2,d3])
 | _,_,_=>none
theorem a96{i j k:Nat}:RfS K cl E (a4w (a8l (L3 (D2 i) (L3 (D2 j) (L3 (D2 k) a0r))))) (a0l i j k):=by
 intro N σ H env F R h
 unfold a0l at h
 split at h
 ·rename_i d1 d2 d3 q1 q2 q3
  split at h
  ·exact h.elim
  ·rename_i nij
   have hij:i≠j:=fun z=>nij (.inl z)
   have hik:i≠k:=fun z=>nij (.inr (.inl z))
   have hjk:j≠k:=fun z=>nij (.inr (.inr z))
   obtain⟨a1,xs1,e1,hH1,hF1,r1⟩:=R.mu i d1 (.inl q1)
   obtain⟨a2,xs2,e2,hH2,hF2,r2⟩:=R.mu j d2 (.inl q2)
   obtain⟨a3,xs3,e3,hH3,hF3,r3⟩:=R.mu k d3 (.inl q3)
   refine⟨_,e1,_,e2,_,e3,by show 3≤2 ^ 24;decide,fun p hp=>?_⟩
   have n12:a1≠a2:=fun z=>hij (R.inj i j a1 ⟨d1,.inl q1⟩ ⟨d2,.inl q2⟩ e1 (by rw[z];exact e2))
   have n13:a1≠a3:=fun z=>hik (R.inj i k a1 ⟨d1,.inl q1⟩ ⟨d3,.inl q3⟩ e1 (by rw[z];exact e3))
   have n23:a2≠a3:=fun z=>hjk (R.inj j k a2 ⟨d2,.inl q2⟩ ⟨d3,.inl q3⟩ e2 (by rw[z];exact e3))
   have np:∀a o,H a=some o→a≠p:=fun a o ha z=>by rw[z,hp]at ha;cases ha
   refine h p [a1,a2,a3] _ F ⟨Same.refl _,fun b o hb=>by rw[g5 (np b o (R.sub _ _ hb))];exact R.sub _ _ hb,fun a o ha fa _=>⟨by rw[g5 (np a o ha)];exact ha,fa⟩,fun a ha=>?_⟩ hp i8 (R.sub.free hp) ?_
   ·by_cases z:a=p
    ·rw[z,i8]at ha;cases ha
    ·rw[g5 z]at ha;exact ha
   ·exact b1x n12 n13 n23 (by rw[g5 (np _ _ hH1)];exact hH1) hF1 (fun o _=>⟨i,.ow d1,True.intro,q1,e1⟩) r1 (by rw[g5 (np _ _ hH2)];exact hH2) hF2 (fun o _=>⟨j,.ow d2,True.intro,q2,e2⟩) r2 (by rw[g5 (np _ _ hH3)];exact hH3) hF3 (fun o _=>⟨k,.ow d3,True.intro,q3,e3⟩) r3
 ·exact h.elim
end
def lookD(e:DE)(i:Nat):Option (DK×List D):=match e[i]? with
 | some (.fz (.dic ks ds))=>some (ks,ds)
 | some (.od ks ds)=>some (ks,ds)
 | some (.hk ks ds)=>some (ks,ds)
 | _=>none
def a4Y:D→Option v9
 | .int i=>some (.inl i)
 | .str x=>some (.inr x)
 | _=>none
def a4b:List D→Option (List v9)
 | []=>some []
 | d::ds=>match a4Y d,a4b ds with
  | some k,some ks=>some (k::ks)
  | _,_=>none
section
variable {κ:Type} [DecidableEq κ]
def a1N:List κ→List D→κ→Option D
 | k'::ks,d::ds,k=>if k'=k then some d else a1N ks ds k
 | _,_,_=>none
def a0G(ks:List κ)(k:κ):Bool:=ks.any fun k'=>decide (k'=k)
def U3{α:Type}(ks:List κ)(ds:List α)(k:κ)(d:α):List α:=List.zipWith (fun k' d'=>if k'=k then d else d') ks ds
end
def a0H(ks:DK)(ds:List D)(k:D):Option (Option D):=match ks with
 | .inl ks=>(match a4Y k with
  | some k=>some (a1N ks ds k)
  | none=>none)
 | .inr ks=>(match k with
  | .tup es=>(match a4b es with
   | some k=>some (a1N ks ds k)
   | none=>none)
  | _=>none)
noncomputable def putD(ks:DK)(ds:List D)(k d:D):Option (DK×List D):=match ks with
 | .inl ks=>(match a4Y k with
  | some k=>some (if a0G ks k=true then(.inl ks,U3 ks ds k d)else(.inl (ks++[k]),ds++[d]))
  | none=>none)
 | .inr ks=>(match k with
  | .tup es=>(match a4b es with
   | some k=>some (if a0G ks k=true then(.inr ks,U3 ks ds k d)else(.inr (ks++[k]),ds++[d]))
   | none=>none)
  | _=>none)
def b5q:R2:=fun y x H Q=>∃a o,x=.ref a∧DGet H a y o∧Q (.bl o.isSome) H
def b5r:R2:=fun y x H Q=>∃a o,x=.ref a∧DGet H a y o∧Q (.bl (!o.isSome)) H
section
variable {X:Cx}
theorem b5s(hu:X.A.units+1<cLine):G7 X (compareOp .In) b5q:=by
 intro pins s σ H x y v u Q I rx ry h
 obtain⟨a,o,rfl,g,q⟩:=h
 obtain rfl:u=Value.ref a:=ry
 exact b6J hu I g rx fun s3 I3=>⟨.bl o.isSome,H,I3,rfl,q⟩
theorem b5t(hu:X.A.units+1<cLine):G7 X (compareOp .NotIn) b5r:=by
 intro pins s σ H x y v u Q I rx ry h
 obtain⟨a,o,rfl,g,q⟩:=h
 obtain rfl:u=Value.ref a:=ry
 exact b22 hu I g rx fun s3 I3=>⟨.bl (!o.isSome),H,I3,rfl,q⟩
end
section
variable {K:W.Frag}{cl:Str→Addr}{E:XK}{σ:St}{H F:Hp}{env:DE}
theorem Rel.lookD{i:Nat}{ks:DK}{ds:List D}(R:Rel K cl σ H F env)(h:lookD env i=some (ks,ds)):∃a xs,σ[i]? = some (some (.ref a))∧H a=some (W8 ks xs)∧dkN ks=xs.length∧Rps K cl F ds xs:=by
 unfold L2.lookD at h
 split at h
 ·rename_i q;cases h
  obtain⟨v,e,p⟩:=R.fz i _ q
  simp only[Rp]at p
  obtain⟨a,xs,rfl,h1,h2,h3⟩:=p
  exact⟨a,xs,e,R.sub _ _ h1,h2,h3⟩
 ·rename_i q;cases h
  obtain⟨a,xs,e,h1,_,h2,h3⟩:=R.od.at_ i _ ks ds q ⟨rfl,rfl⟩
  exact⟨a,xs,e,h1,h2,h3⟩
 ·rename_i q;cases h
  obtain⟨a,xs,e,h1,_,h2,h3⟩:=R.od.at_ i _ ks ds q ⟨rfl,rfl⟩
  exact⟨a,xs,e,h1,h2,h3⟩
 ·cases h
theorem a6G{d:D}{k:v9}{v:V}(h:a4Y d=some k)(p:Rp K cl F d v):v=kV k:=by
 unfold a4Y at h
 split at h
 ·cases h;simp only[Rp]at p;exact p
 ·cases h;simp only[Rp]at p;exact p
 ·cases h
theorem a4Z:∀{ds:List D} {ks:List v9} {vs:List V},a4b ds=some ks→Rps K cl F ds vs→vs=ks.map kV
 | [],ks,vs,h,p=>by cases h;exact p.inv0
 | d::ds,ks,vs,h,p=>by
  obtain⟨v,r,rfl,p1,p2⟩:=p.inv
  unfold a4b at h
  split at h
  ·rename_i k ks' h1 h2
   cases h
   rw[a6G h1 p1,a4Z h2 p2];rfl
  ·cases h
theorem a40{κ:Type} [DecidableEq κ] (k:κ):∀{ks:List κ} {ds:List D} {xs:List V},ks.length=xs.length→Rps K cl F ds xs→match a1N ks ds k with
  | none=>U1 (ks.zip xs) k=none
  | some d=>∃v,U1 (ks.zip xs) k=some v∧Rp K cl F d v
 | [],ds,xs,hl,r=>by
  have:xs=[]:=List.length_eq_zero_iff.mp hl.symm
  subst this
  show U1 [] k=none
  rfl
 | k'::ks,ds,xs,hl,r=>by
  cases xs with
  | nil=>simp at hl
  | cons x xs =>
   cases ds with
   | nil=>have:=r.inv0;cases this
   | cons d ds =>
    obtain⟨v,r',e,p1,p2⟩:=r.inv
    cases e
    unfold a1N
    by_cases z:k'=k
    ·rw[if_pos z]
     exact⟨x,a1s (p:=(k',x)) z,p1⟩
    ·rw[if_neg z]
     have:=a40 k (ks:=ks) (ds:=ds) (xs:=xs) (by simpa using hl) p2
     rw[List.zip_cons_cons,a1t (p:=(k',x)) z]
     exact this
theorem a7U{a:Addr}{ks:DK}{ds:List D}{xs:List V}{k:D}{y:V}{o:Option D}(s:Same F H)(h:H a=some (W8 ks xs))(hn:dkN ks=xs.length)(r:Rps K cl F ds xs)(p:Rp K cl F k y)(g:a0H ks ds k=some o) :
  ∃o',DGet H a y o'∧o'.isSome=o.isSome∧∀d,o=some d→∃v,o'=some v∧Rp K cl F d v:=by
 cases ks with
 | inl ks =>
  unfold a0H at g
  simp only at g
  split at g
  ·rename_i k' hk
   cases g
   rw[a6G hk p]
   have:=a40 k' (ks:=ks) hn r
   refine⟨_,.k h,?_⟩
   split at this
   ·rename_i q;rw[q,this];exact⟨rfl,fun d z=>by cases z⟩
   ·rename_i d q
    obtain⟨v,e,pv⟩:=this
    rw[q,e]
    exact⟨rfl,fun d' z=>by cases z;exact⟨v,rfl,pv⟩⟩
  ·cases g
 | inr ks =>
  unfold a0H at g
  simp only at g
  split at g
  ·rename_i es
   split at g
   ·rename_i k' hk
    cases g
    simp only[Rp]at p
    obtain⟨b,ys,rfl,hb,rb⟩:=p
    rw[a4Z hk rb]at hb
    have:=a40 k' (ks:=ks) hn r
    refine⟨_,.t h (s _ _ hb),?_⟩
    split at this
    ·rename_i q;rw[q,this];exact⟨rfl,fun d z=>by cases z⟩
    ·rename_i d q
     obtain⟨v,e,pv⟩:=this
     rw[q,e]
     exact⟨rfl,fun d' z=>by cases z;exact⟨v,rfl,pv⟩⟩
   ·cases g
  ·cases g
def a8P(f:ZF)(i:Nat):ZF:=fun e=>bnd (f e) fun k e1=>match lookD e1 i with
 | some (ks,ds)=>(match a0H ks ds k with
  | some o=>some (.ok (.bl o.isSome) e1)
  | none=>none)
 | none=>none
def a8Q(f:ZF)(i:Nat):ZF:=fun e=>bnd (f e) fun k e1=>match lookD e1 i with
 | some (ks,ds)=>(match a0H ks ds k with
  | some o=>some (.ok (.bl (!o.isSome)) e1)
  | none=>none)
 | none=>none
theorem b5u{i:Nat}{t:TE}{f:ZF}(hf:u5 K cl E t f):u5 K cl E (tOp b5q t (D2 i)) (a8P f i):=by
 intro σ H Q env F R h
 refine hf σ H _ env F R ((Ct.bnd h N3).mono fun y H1 ⟨F1,e1,k,s1,R1,p1,h1⟩=>?_)
 split at h1
 ·rename_i ks ds q
  obtain⟨a,xs,e,hH,hn,r⟩:=R1.lookD q
  split at h1
  ·rename_i o g
   obtain⟨o',g',e',_⟩:=a7U R1.sub hH hn r p1 g
   refine⟨_,e,a,o',rfl,g',?_⟩
   rw[e']
   exact h1 _ H1 F1 Frm.refl R1 (by show Rp K cl F1 (.bl _) _;simp only[Rp])
  ·exact h1.elim
 ·exact h1.elim
theorem b5v{i:Nat}{t:TE}{f:ZF}(hf:u5 K cl E t f):u5 K cl E (tOp b5r t (D2 i)) (a8Q f i):=by
 intro σ H Q env F R h
 refine hf σ H _ env F R ((Ct.bnd h N3).mono fun y H1 ⟨F1,e1,k,s1,R1,p1,h1⟩=>?_)
 split at h1
 ·rename_i ks ds q
  obtain⟨a,xs,e,hH,hn,r⟩:=R1.lookD q
  split at h1
  ·rename_i o g
   obtain⟨o',g',e',_⟩:=a7U R1.sub hH hn r p1 g
   refine⟨_,e,a,o',rfl,g',?_⟩
   rw[e']
   exact h1 _ H1 F1 Frm.refl R1 (by show Rp K cl F1 (.bl _) _;simp only[Rp])
  ·exact h1.elim
 ·exact h1.elim
theorem Rps.repK{κ:Type} [DecidableEq κ] {d:D} {v:V} (k:κ) (p:Rp K cl F d v):∀{ks:List κ} {ds:List D} {xs:List V},Rps K cl F ds xs→Rps K cl F (U3 ks ds k d) (U3 ks xs k v)
 | [],ds,xs,r=>by unfold U3;simp only[List.zipWith_nil_left];exact .nil
 | k'::ks,[],xs,r=>by rw[r.inv0];unfold U3;simp only[List.zipWith_nil_right];exact .nil
 | k'::ks,d'::ds,xs,r=>by
  obtain⟨x,xs',rfl,p1,p2⟩:=r.inv
  unfold U3
  rw[List.zipWith_cons_cons,List.zipWith_cons_cons]
  refine .cons ?_ (Rps.repK k p p2)
  by_cases z:k'=k
  ·rw[if_pos z,if_pos z];exact p
  ·rw[if_neg z,if_neg z];exact p1
theorem a7V{κ:Type} [DecidableEq κ] (k:κ):∀{ks:List κ} {xs:List V},ks.length=xs.length→((ks.zip xs).any fun kv=>decide (kv.1=k))=a0G ks k
 | [],xs,h=>by simp[a0G]
 | k'::ks,[],h=>by simp at h
 | k'::ks,x::xs,h=>by
  rw[List.zip_cons_cons,List.any_cons,a7V k (by simpa using h)]
  rfl
theorem a7W{κ:Type} [DecidableEq κ] (k:κ) (v:V):∀{ks:List κ} {xs:List V},(ks.zip xs).map (fun kv=>if kv.1=k then(kv.1,v)else kv)=ks.zip (U3 ks xs k v)
 | [],xs=>by simp
 | k'::ks,[]=>by simp[U3]
 | k'::ks,x::xs=>by
  rw[List.zip_cons_cons,List.map_cons,a7W k v]
  unfold U3
  rw[List.zipWith_cons_cons,List.zip_cons_cons]
  by_cases z:k'=k
  ·simp[z]
  ·simp[z]
theorem a6H{κ:Type} [DecidableEq κ] {k:κ} {v:V} {ks:List κ} {xs:List V} (h:ks.length=xs.length):V5 (ks.zip xs) k v=if a0G ks k=true then ks.zip (U3 ks xs k v)else(ks++[k]).zip (xs++[v]):=by
 unfold V5
 rw[a7V k h,a7W k v,List.zip_append h]
 rfl
theorem a20{κ α:Type} [DecidableEq κ] {k:κ} {v:α} {ks:List κ} {xs:List α} (h:ks.length=xs.length):(U3 ks xs k v).length=xs.length:=by
 unfold U3
 rw[List.length_zipWith,h,Nat.min_self]
theorem b35{a:Addr}{ks ks':DK}{ds ds':List D}{xs:List V}{k d:D}{y v:V}(s:Same F H)(h:H a=some (W8 ks xs))(hn:dkN ks=xs.length)(r:Rps K cl F ds xs)(p:Rp K cl F k y)(pd:Rp K cl F d v)(hl:dkN ks<sizeLine)(g:putD ks ds k d=some (ks',ds')) :
  ∃xs',DPut H a y v (upd H a (W8 ks' xs'))∧dkN ks'=xs'.length∧Rps K cl F ds' xs':=by
 cases ks with
 | inl ks =>
  have hn:ks.length=xs.length:=hn
  have hl:ks.length<sizeLine:=hl
  unfold putD at g
  simp only at g
  split at g
  ·rename_i k' hk
   rw[a6G hk p]
   have dp:=DPut.k (k:=k') (v:=v) h (by rw[List.length_zip,← hn,Nat.min_self];exact hl)
   rw[a6H hn]at dp
   by_cases z:a0G ks k'=true
   ·rw[if_pos z]at dp g
    cases g
    exact⟨U3 ks xs k' v,dp,by rw[a20 hn];exact hn,r.repK k' pd⟩
   ·rw[if_neg z]at dp g
    cases g
    exact⟨xs++[v],dp,by show(ks++[k']).length=_;rw[List.length_append,List.length_append,hn];rfl,r.append (.one pd)⟩
  ·cases g
 | inr ks =>
  have hn:ks.length=xs.length:=hn
  have hl:ks.length<sizeLine:=hl
  unfold putD at g
  simp only at g
  split at g
  ·rename_i es
   split at g
   ·rename_i k' hk
    simp only[Rp]at p
    obtain⟨b,ys,rfl,hb,rb⟩:=p
    rw[a4Z hk rb]at hb
    have dp:=DPut.t (k:=k') (v:=v) h (s _ _ hb) (by rw[List.length_zip,← hn,Nat.min_self];exact hl)
    rw[a6H hn]at dp
    by_cases z:a0G ks k'=true
    ·rw[if_pos z]at dp g
     cases g
     exact⟨U3 ks xs k' v,dp,by rw[a20 hn];exact hn,r.repK k' pd⟩
    ·rw[if_neg z]at dp g
     cases g
     exact⟨xs++[v],dp,by show(ks++[k']).length=_;rw[List.length_append,List.length_append,hn];rfl,r.append (.one pd)⟩
   ·cases g
  ·cases g
theorem Rel.changeD{i:Nat}{ks ks':DK}{ds ds':List D}{a:Addr}{xs':List V}(R:Rel K cl σ H F env)(h:env[i]? = some (.od ks ds))(e:σ[i]? = some (some (.ref a)))(hn:dkN ks'=xs'.length)(r:Rps K cl F ds' xs') :
  Rel K cl σ (upd H a (W8 ks' xs')) F (env.set i (.od ks' ds'))∧Frm σ H F env σ (upd H a (W8 ks' xs')) F (env.set i (.od ks' ds')):=by
 obtain⟨a',xs,e',hH,hF,_⟩:=R.od.at_ i _ ks ds h ⟨rfl,rfl⟩
 rw[e]at e';cases e'
 have hi:i<env.length:=(List.getElem?_eq_some_iff.mp h).1
 have self:(env.set i (.od ks' ds'))[i]? = some (.od ks' ds'):=List.getElem?_set_self hi
 have oth:∀j,j≠i→(env.set i (.od ks' ds'))[j]? = env[j]?:=fun j hj=>List.getElem?_set_ne (Ne.symm hj)
 have notL:∀ys,H a≠some (.lst ys):=fun ys z=>by rw[hH]at z;exact a2F (Option.some.inj z)
 have muo:∀(j:Nat) (fs:List D),((env.set i (.od ks' ds'))[j]? = some (.ow fs)∨(env.set i (.od ks' ds'))[j]? = some (.hd fs))→env[j]? = some (.ow fs)∨env[j]? = some (.hd fs):=fun j fs q=>by
  by_cases z:j=i
  ·subst z;rw[self]at q;rcases q with q | q<;>cases q
  ·rw[oth j z]at q;exact q
 refine⟨⟨fun b o q=>?_,by rw[List.length_set];exact R.len,fun j d q=>?_,fun j fs q=>?_,fun j l b ⟨fs,q⟩ ⟨gs,q'⟩=>R.inj j l b ⟨fs,muo j fs q⟩ ⟨gs,muo l gs q'⟩,⟨fun j s ls es q d=>?_,fun j l s t ks1 ks2 ds1 ds2 b q d q' d' e1 e2=>?_⟩⟩,⟨Same.refl _,fun b o hb fb w=>?_,fun j fs q=>?_,fun b q=>?_⟩⟩
 ·have z:b≠a:=fun z=>by rw[z,hF]at q;cases q
  rw[g5 z];exact R.sub _ _ q
 ·have z:j≠i:=fun z=>by subst z;rw[self]at q;cases q
  rw[oth j z]at q;exact R.fz j d q
 ·obtain⟨b,zs,e1,h1,f1,r1⟩:=R.mu j fs (muo j fs q)
  exact⟨b,zs,e1,by rw[g5 (fun z=>by rw[z]at h1;exact notL zs h1)];exact h1,f1,r1⟩
 ·by_cases z:j=i
  ·subst z
   rw[self]at q;cases q
   obtain⟨rfl,rfl⟩:=d
   exact⟨a,xs',e,i8,hF,hn,r⟩
  ·rw[oth j z]at q
   obtain⟨b,zs,e1,h1,f1,n1,r1⟩:=R.od.at_ j s ls es q d
   have nb:b≠a:=fun y=>z (R.od.inj j i s _ ls ks es ds b q d h ⟨rfl,rfl⟩ e1 (by rw[y];exact e))
   exact⟨b,zs,e1,by rw[g5 nb];exact h1,f1,n1,r1⟩
 ·have un:∀(j:Nat) (s:Sl) (ks1:DK) (ds1:List D),(env.set i (.od ks' ds'))[j]? = some s→Q3 s ks1 ds1→∃s1 ks2 ds2,env[j]? = some s1∧Q3 s1 ks2 ds2:=fun j s ks1 ds1 q d=>by
   by_cases z:j=i
   ·subst z;exact⟨_,ks,ds,h,rfl,rfl⟩
   ·rw[oth j z]at q;exact⟨s,ks1,ds1,q,d⟩
  obtain⟨s1,k1,d1,x1,y1⟩:=un j s ks1 ds1 q d
  obtain⟨s2,k2,d2,x2,y2⟩:=un l t ks2 ds2 q' d'
  exact R.od.inj j l s1 s2 k1 k2 d1 d2 b x1 y1 x2 y2 e1 e2
 ·have z:b≠a:=fun z=>w ⟨i,.od ks ds,True.intro,h,by rw[z];exact e⟩
  refine⟨by rw[g5 z];exact hb,fb,fun⟨j,fs,oo,q,e1⟩=>?_⟩
  by_cases y:j=i
  ·subst y;rw[e]at e1;cases e1;exact z rfl
  ·rw[oth j y]at q;exact w ⟨j,fs,oo,q,e1⟩
 ·have z:j≠i:=fun z=>by subst z;rw[h]at q;cases q
  exact⟨by rw[oth j z];exact q,rfl⟩
 ·by_cases z:b=a
  ·rw[z,i8]at q;cases q
  ·rw[g5 z]at q;exact q
noncomputable def a5V(i:Nat)(k:ZF)(f:ZF):SF:=fun e=>M3 (f e) fun d e1=>match lookD e1 i with
 | none=>none
 | some _=>M3 (k e1) fun kd e2=>match e2[i]? with
  | some (.od ks ds)=>if dkN ks<sizeLine then(match putD ks ds kd d with
   | some kd'=>some (.nx (e2.set i (.od kd'.1 kd'.2)))
   | none=>none)else none
  | _=>none
theorem b36{i:Nat}{tk tv:TE}{k f:ZF}(hk:u5 K cl E tk k)(hf:u5 K cl E tv f):RfS K cl E (b2a (D2 i) tk tv) (a5V i k f):=by
 intro N σ H env F R h
 refine hf σ H _ env F R ((Cs.bnd h).mono fun v H1 ⟨F1,e1,d,fr1,R1,p1,h1⟩=>?_)
 cases q0:lookD e1 i with
 | none=>rw[q0]at h1;exact h1.elim
 | some kd0 =>
  obtain⟨ks0,ds0⟩:=kd0
  rw[q0]at h1
  obtain⟨a0,xs0,e0,_⟩:=R1.lookD q0
  have h1:Cs K cl E (M3 (k e1) fun kd e2=>match e2[i]? with
   | some (.od ks ds)=>if dkN ks<sizeLine then(match putD ks ds kd d with
    | some kd'=>some (.nx (e2.set i (.od kd'.1 kd'.2)))
    | none=>none)else none
   | _=>none) σ H1 F1 e1 N:=h1.from fr1
  refine⟨_,e0,hk σ H1 _ e1 F1 R1 ((Cs.bnd h1).mono fun y H2 ⟨F2,e2,kd,fr2,R2,p2,h2⟩=>?_)⟩
  split at h2
  ·rename_i ks ds q
   split at h2
   ·rename_i hl
    split at h2
    ·rename_i kd' g
     obtain⟨ks',ds'⟩:=kd'
     obtain⟨a,xs,e,hH,hF,hn,r⟩:=R2.od.at_ i _ ks ds q ⟨rfl,rfl⟩
     rw[e0]at e;cases e
     obtain⟨xs',dp,hn',r'⟩:=b35 R2.sub hH hn r p2 (Rp.mono fr2.fz _ _ p1) hl g
     obtain⟨R',f'⟩:=R2.changeD q e0 hn' r'
     exact⟨a0,_,rfl,dp,h2 σ _ F2 (fr2.trans f') R'⟩
    ·exact h2.elim
   ·exact h2.elim
  ·exact h2.elim
def PD(K:W.Frag)(cl:Str→Addr):Py (DK×List D) V:=fun kd σ H H' F' e v=>∃a xs,v=.ref a∧H a=none∧H' a=some (W8 kd.1 xs)∧F' a=none∧(∀(j:Nat) (s:Sl) (ks:DK) (ds:List D),e[j]? = some s→Q3 s ks ds→σ[j]?≠some (some (.ref a)))∧dkN kd.1=xs.length∧Rps K cl F' kd.2 xs
abbrev DF:=DE→Option (R (DK×List D))
def RfD(K:W.Frag)(cl:Str→Addr)(E:XK)(t:TE)(f:DF):Prop:=∀σ H Q env F,Rel K cl σ H F env→Ct K cl E (PD K cl) (f env) σ H F env Q→t σ H Q
theorem Ct.newD{p:Addr}{ks:DK}{xs:List V}{ds:List D}{Q:VK}(R:Rel K cl σ H F env)(hp:H p=none)(hn:dkN ks=xs.length)(r:Rps K cl F ds xs)(h:Ct K cl E (PD K cl) (some (.ok (ks,ds) env)) σ H F env Q):Q (.ref p) (upd H p (W8 ks xs)):=by
 obtain⟨R',f⟩:=R.newN (o:=W8 ks xs) hp
 refine h _ _ F f R' ⟨p,xs,rfl,hp,i8,R.sub.free hp,fun j s ls es q d e=>?_,hn,r⟩
 obtain⟨a,ys,e1,hH,_⟩:=R.od.at_ j s ls es q d
 rw[e]at e1;cases e1
 rw[hp]at hH;cases hH
def a4c:DF:=fun e=>some (.ok (.inl [],[]) e)
theorem b37:RfD K cl E a9E a4c:=fun σ H Q env F R h p hp=>Ct.newD (ks:=.inl []) (xs:=[]) R hp rfl .nil h
def a4d(i:Nat)(f:DF):SF:=fun e=>M3 (f e) fun kd e1=>put i (.od kd.1 kd.2) e1
theorem Rel.putD{i:Nat}{ks:DK}{ds:List D}{a:Addr}{xs:List V}(R:Rel K cl σ H F env)(hi:i<env.length)(hH:H a=some (W8 ks xs))(hF:F a=none)(na:∀(j:Nat) (s:Sl) (ls:DK) (es:List D),env[j]? = some s→Q3 s ls es→σ[j]?≠some (some (.ref a)))(hn:dkN ks=xs.length)(r:Rps K cl F ds xs):Rel K cl (σ.set i (some (.ref a))) H F (env.set i (.od ks ds)):=by
 have his:i<σ.length:=by rw[R.len];exact hi
 have self:(env.set i (.od ks ds))[i]? = some (.od ks ds):=List.getElem?_set_self hi
 have oth:∀j,j≠i→(env.set i (.od ks ds))[j]? = env[j]?:=fun j hj=>List.getElem?_set_ne (Ne.symm hj)
 have soth:∀j,j≠i→(σ.set i (some (.ref a)))[j]? = σ[j]?:=fun j hj=>List.getElem?_set_ne (Ne.symm hj)
 have muo:∀(j:Nat) (fs:List D),((env.set i (.od ks ds))[j]? = some (.ow fs)∨(env.set i (.od ks ds))[j]? = some (.hd fs))→j≠i∧(env[j]? = some (.ow fs)∨env[j]? = some (.hd fs)):=fun j fs q=>by
  by_cases z:j=i
  ·subst z;rw[self]at q;rcases q with q | q<;>cases q
  ·rw[oth j z]at q;exact⟨z,q⟩
 refine⟨R.sub,by rw[List.length_set,List.length_set];exact R.len,fun j d q=>?_,fun j fs q=>?_,fun j l b ⟨fs,q⟩ ⟨gs,q'⟩ e1 e2=>?_,⟨fun j s ls es q d=>?_,fun j l s t ks1 ks2 ds1 ds2 b q d q' d' e1 e2=>?_⟩⟩
 ·have z:j≠i:=fun z=>by subst z;rw[self]at q;cases q
  rw[oth j z]at q;rw[soth j z];exact R.fz j d q
 ·obtain⟨z,q⟩:=muo j fs q
  rw[soth j z];exact R.mu j fs q
 ·obtain⟨z,q⟩:=muo j fs q
  obtain⟨z',q'⟩:=muo l gs q'
  rw[soth j z]at e1;rw[soth l z']at e2
  exact R.inj j l b ⟨fs,q⟩ ⟨gs,q'⟩ e1 e2
 ·by_cases z:j=i
  ·subst z
   rw[self]at q;cases q
   obtain⟨rfl,rfl⟩:=d
   exact⟨a,xs,List.getElem?_set_self his,hH,hF,hn,r⟩
  ·rw[oth j z]at q;rw[soth j z];exact R.od.at_ j s ls es q d
 ·by_cases zj:j=i
  ·by_cases zl:l=i
   ·rw[zj,zl]
   ·subst zj
    rw[List.getElem?_set_self his]at e1;cases e1
    rw[soth l zl]at e2;rw[oth l zl]at q'
    exact absurd e2 (na l t ks2 ds2 q' d')
  ·rw[soth j zj]at e1;rw[oth j zj]at q
   by_cases zl:l=i
   ·subst zl
    rw[List.getElem?_set_self his]at e2;cases e2
    exact absurd e1 (na j s ks1 ds1 q d)
   ·rw[soth l zl]at e2;rw[oth l zl]at q'
    exact R.od.inj j l s t ks1 ks2 ds1 ds2 b q d q' d' e1 e2
theorem b38{i:Nat}{t:TE}{f:DF}(hf:RfD K cl E t f):RfS K cl E (X1 t (P8 i)) (a4d i f):=by
 intro N σ H env F R h
 refine hf σ H _ env F R ((Cs.bnd h).mono fun x H1 ⟨F1,e1,kd,fr,R1,p1,h1⟩=>?_)
 obtain⟨a,xs,rfl,hn,hH,hF,nm,hl,r⟩:=p1
 obtain⟨hi,nh,h2⟩:=a0w h1
 exact h2 _ H1 F1 (fr.putO hn nh) (R1.putD hi hH hF nm hl r)
end
@[simp] theorem b1z(ks:DK)(ds:List D):Z2 (.od ks ds)=true:=rfl
@[simp] theorem b39(ks:DK)(ds:List D):a07 (.od ks ds)=.fz (.dic ks ds):=rfl
@[simp] theorem b3_(ks:DK)(ds:List D):a07 (.hk ks ds)=.fz (.dic ks ds):=rfl
structure SU(K:W.Frag)(cl:Str→Addr)(ps:List Nat)(A:Nat→Addr)(H0 F0 F1:Hp)(σ:St)(H F:Hp)(env:DE):Prop where
 rel:Rel K cl σ H F env
 pn:∀i∈ps,σ[i]? = some (some (.ref (A i)))∧∃ds,env[i]? = some (.hd ds)
 fz:Same F0 F
 gz:Same F1 F
 hid:∀b o,(∀i∈ps,b≠A i)→H0 b=some o→F0 b=none→H b=some o∧F b=none∧¬Ow σ env b
 dom:∀b,H b=none→H0 b=none
inductive MU where | nx (e:DE) | dn (e:DE)
abbrev UF:=DE→Option MU
def Cu(K:W.Frag)(cl:Str→Addr)(ps:List Nat)(A:Nat→Addr)(H0 F0 F1:Hp)(r:Option MU)(N:Ends):Prop:=match r with
 | none=>False
 | some (.nx e)=>∀σ' H' F',SU K cl ps A H0 F0 F1 σ' H' F' e→N.nx σ' H'
 | some (.dn e)=>∀σ' H' F',SU K cl ps A H0 F0 F1 σ' H' F' e→N.rt .non H'
def RfU(K:W.Frag)(cl:Str→Addr)(E:XK)(ps:List Nat)(t:TS)(f:UF):Prop:=∀(N:Ends) σ H env F A H0 F0 F1,SU K cl ps A H0 F0 F1 σ H F env→Cu K cl ps A H0 F0 F1 (f env) N→t N σ H
def uS(f:SF):UF:=fun e=>match f e with
 | some (.nx e1)=>some (.nx e1)
 | _=>none
def L9(f k:UF):UF:=fun e=>match f e with
 | some (.nx e1)=>k e1
 | r=>r
def uIf(c:BF)(f k:UF):UF:=fun e=>match c e with
 | some (.ok b e1)=>if b=true then f e1 else k e1
 | _=>none
def a8R:UF:=fun e=>some (.dn e)
def uNx:UF:=fun e=>some (.nx e)
def a3i(i:Nat)(k f:ZF):UF:=fun e=>match f e with
 | some (.ok d e1)=>(match k e1 with
  | some (.ok (.int j) e2)=>(match e2[i]? with
   | some (.hd ds)=>(match P9 ds.length j with
    | some n=>some (.nx (e2.set i (.hd (ds.set n d))))
    | none=>none)
   | _=>none)
  | _=>none)
 | _=>none
section
variable {K:W.Frag}{cl:Str→Addr}{E:XK}{ps:List Nat}{A:Nat→Addr}{H0 F0 F1:Hp}{σ:St}{H F:Hp}{env:DE}{k:Nat}
theorem SU.frm{σ':St}{H' F':Hp}{env':DE}(S:SU K cl ps A H0 F0 F1 σ H F env)(f:Frm σ H F env σ' H' F' env')(R:Rel K cl σ' H' F' env'):SU K cl ps A H0 F0 F1 σ' H' F' env' :=
 ⟨R,fun i m=>by obtain⟨e,ds,h⟩:=S.pn i m;obtain⟨h1,e1⟩:=f.keep i ds h;exact⟨e1.trans e,ds,h1⟩,S.fz.trans f.fz,S.gz.trans f.fz,
  fun b o n h g=>by obtain⟨h1,f1,w1⟩:=S.hid b o n h g;exact f.hid b o h1 f1 w1,fun b h=>S.dom b (f.dom b h)⟩
theorem SU.change{i:Nat}{ds es:List D}{ys:List V}(S:SU K cl ps A H0 F0 F1 σ H F env)(m:i∈ps)(h:env[i]? = some (.hd ds))(r:Rps K cl F es ys):SU K cl ps A H0 F0 F1 σ (upd H (A i) (.lst ys)) F (env.set i (.hd es)):=by
 obtain⟨e,_,_⟩:=S.pn i m
 obtain⟨a',xs,e',hH,hF,_⟩:=S.rel.mu i ds (.inr h)
 rw[e]at e';cases e'
 have hi:i<env.length:=(List.getElem?_eq_some_iff.mp h).1
 have self:(env.set i (.hd es))[i]? = some (.hd es):=List.getElem?_set_self hi
 have oth:∀j,j≠i→(env.set i (.hd es))[j]? = env[j]?:=fun j hj=>List.getElem?_set_ne (Ne.symm hj)
 have mui:∀j,Mu (env.set i (.hd es)) j→Mu env j:=fun j ⟨fs,q⟩=>by
  by_cases z:j=i
  ·subst z;exact⟨ds,.inr h⟩
  ·rw[oth j z]at q;exact⟨fs,q⟩
 have R:=S.rel
 refine⟨⟨fun b o q=>?_,by rw[List.length_set];exact R.len,fun j d q=>?_,fun j fs q=>?_,fun j k b hj hk=>R.inj j k b (mui j hj) (mui k hk),(R.od.updL hH).setE a3Y⟩,fun j mj=>?_,S.fz,S.gz,fun b o n h0 f0=>?_,fun b q=>?_⟩
 ·have z:b≠A i:=fun z=>by rw[z,hF]at q;cases q
  rw[g5 z];exact R.sub _ _ q
 ·have z:j≠i:=fun z=>by subst z;rw[self]at q;cases q
  rw[oth j z]at q;exact R.fz j d q
 ·by_cases z:j=i
  ·subst z
   rw[self]at q
   rcases q with q | q
   ·cases q
   ·cases q;exact⟨_,ys,e,i8,hF,r⟩
  ·rw[oth j z]at q
   obtain⟨b,zs,e1,h1,f1,r1⟩:=R.mu j fs q
   have nb:b≠A i:=fun y=>z (R.inj j i b ⟨fs,q⟩ ⟨ds,.inr h⟩ e1 (by rw[y];exact e))
   exact⟨b,zs,e1,by rw[g5 nb];exact h1,f1,r1⟩
 ·obtain⟨e1,fs,q⟩:=S.pn j mj
  refine⟨e1,?_⟩
  by_cases z:j=i
  ·subst z;exact⟨es,self⟩
  ·exact⟨fs,by rw[oth j z];exact q⟩
 ·obtain⟨h1,f1,w1⟩:=S.hid b o n h0 f0
  refine⟨by rw[g5 (n i m)];exact h1,f1,fun⟨j,fs,oo,q,e1⟩=>?_⟩
  have y:j≠i:=fun y=>by subst y;rw[self]at q;cases q;exact oo
  rw[oth j y]at q;exact w1 ⟨j,fs,oo,q,e1⟩
 ·by_cases z:b=A i
  ·rw[z,i8]at q;cases q
  ·rw[g5 z]at q;exact S.dom b q
theorem a3j{t:TS}{f:SF}(hf:RfS K cl E t f):RfU K cl E ps t (uS f):=by
 intro N σ H env F A H0 F0 F1 S h
 refine hf N σ H env F S.rel ?_
 unfold uS at h
 cases q:f env with
 | none=>rw[q]at h;exact h.elim
 | some r =>
  rw[q]at h
  cases r with
  | nx e1=>exact fun σ' H' F' f R=>h σ' H' F' (S.frm f R)
  | _=>exact h.elim
theorem b6c:RfU K cl E ps a79 uNx:=fun N σ H env F A H0 F0 F1 S h=>h σ H F S
theorem b5w:RfU K cl E ps b1Y a8R:=fun N σ H env F A H0 F0 F1 S h=>h σ H F S
theorem W5{t u:TS}{f k:UF}(hf:RfU K cl E ps t f)(hk:RfU K cl E ps u k):RfU K cl E ps (b0A t u) (L9 f k):=by
 intro N σ H env F A H0 F0 F1 S h
 refine hf _ σ H env F A H0 F0 F1 S ?_
 unfold L9 at h
 cases q:f env with
 | none=>rw[q]at h;exact h
 | some r =>
  rw[q]at h
  cases r with
  | nx e1=>exact fun σ' H' F' S'=>hk N σ' H' e1 F' A H0 F0 F1 S' h
  | dn e1=>exact h
theorem b6d{c:TT}{t u:TS}{b:BF}{f k:UF}(hc:T6 K cl E c b)(hf:RfU K cl E ps t f)(hk:RfU K cl E ps u k):RfU K cl E ps (b0B c t u) (uIf b f k):=by
 intro N σ H env F A H0 F0 F1 S h
 unfold uIf at h
 refine hc σ H _ env F S.rel ?_
 cases q:b env with
 | none=>rw[q]at h;exact h.elim
 | some rs =>
  rw[q]at h
  cases rs with
  | ex c=>exact h.elim
  | ok x e1 =>
   intro y H1 Fz fr R1 p1
   cases (show y=x from p1)
   by_cases z:x=true
   ·simp only[if_pos z]at h ⊢;exact hf N σ H1 e1 Fz A H0 F0 F1 (S.frm fr R1) h
   ·simp only[if_neg z]at h ⊢;exact hk N σ H1 e1 Fz A H0 F0 F1 (S.frm fr R1) h
theorem a98{i:Nat}{t u:TE}{f k:ZF}(m:i∈ps)(hf:u5 K cl E t f)(hk:u5 K cl E u k):RfU K cl E ps (X1 t (b0D (D2 i) u a8n)) (a3i i k f):=by
 intro N σ H env F A H0 F0 F1 S h
 unfold a3i at h
 refine hf σ H _ env F S.rel ?_
 cases q:f env with
 | none=>rw[q]at h;exact h.elim
 | some rs =>
  rw[q]at h
  cases rs with
  | ex c=>exact h.elim
  | ok d e1 =>
   intro x H1 Fz fr R1 p1
   have S1:=S.frm fr R1
   refine⟨_,(S1.pn i m).1,hk σ H1 _ e1 Fz R1 ?_⟩
   simp only at h
   cases q2:k e1 with
   | none=>rw[q2]at h;exact h.elim
   | some rs2 =>
    rw[q2]at h
    cases rs2 with
    | ex c=>exact h.elim
    | ok jd e2 =>
     cases jd with
     | int j =>
      intro y H2 F2 fr2 R2 p2
      have S2:=S1.frm fr2 R2
      obtain⟨ea,ds,l1⟩:=S2.pn i m
      simp only[l1]at h
      cases hn:P9 ds.length j with
      | none=>rw[hn]at h;exact h.elim
      | some n =>
       rw[hn]at h
       obtain⟨a',xs,e,hH,hF,rr⟩:=R2.mu i ds (.inr l1)
       rw[ea]at e;cases e
       have hy:y=.int j:=by have:=(show Rp K cl F2 (.int j) y from p2);simpa only[Rp]using this
       exact⟨_,xs,j,n,rfl,hy,hH,by rw[← rr.length];exact hn,h σ _ F2 (S2.change m l1 (rr.set (Rp.mono fr2.fz _ _ p1) n))⟩
     | _=>exact h.elim
theorem SU.at(S:SU K cl ps A H0 F0 F1 σ H F env):SU K cl ps A H0 F0 F σ H F env:=⟨S.rel,S.pn,S.fz,Same.refl _,S.hid,S.dom⟩
end
def adU(vs:List V)(i:Nat):Addr:=match vs[i]? with
 | some (.ref a)=>a
 | _=>0
def fU(n:Nat)(body:UF)(as:DE):Option DE:=match body (as++List.replicate (n-as.length) .no)with
 | some (.nx e)=>some e
 | some (.dn e)=>some e
 | none=>none
def spU(K:W.Frag)(cl:Str→Addr)(m:Nat)(ps:List Nat)(g:DE→Option DE):Sp:=fun vs H Q _=>∃as F,vs.length=m∧as.length=m∧Rel K cl (vs.map some) H F as∧NoOw as∧(∀i∈ps,∃ds,as[i]? = some (.hd ds))∧match g as with
 | none=>False
 | some e=>∀σ' H' F',SU K cl ps (adU vs) H F F σ' H' F' e→Q .non H'
section
variable {K:W.Frag}{cl:Str→Addr}{E:XK}{ps:List Nat}{σ:St}{H F:Hp}{env:DE}
theorem Rel.more{n:Nat}(R:Rel K cl σ H F env):Rel K cl (σ++List.replicate n none) H F (env++List.replicate n .no):=by
 have key:∀(i:Nat) (s:Sl),(env++List.replicate n Sl.no)[i]? = some s→s≠.no→i<env.length∧env[i]? = some s:=fun i s q ns=>by
  by_cases z:i<env.length
  ·rw[List.getElem?_append_left z]at q;exact⟨z,q⟩
  ·rw[List.getElem?_append_right (by omega),List.getElem?_replicate]at q
   split at q
   ·cases q;exact absurd rfl ns
   ·cases q
 have sg:∀i,i<env.length→(σ++List.replicate n none)[i]? = σ[i]?:=fun i h=>List.getElem?_append_left (by rw[R.len];exact h)
 have muo:∀(j:Nat) (fs:List D),((env++List.replicate n Sl.no)[j]? = some (.ow fs)∨(env++List.replicate n Sl.no)[j]? = some (.hd fs))→j<env.length∧(env[j]? = some (.ow fs)∨env[j]? = some (.hd fs)):=fun j fs q=>by
  rcases q with q | q
  ·obtain⟨a,b⟩:=key j _ q (fun z=>by cases z);exact⟨a,.inl b⟩
  ·obtain⟨a,b⟩:=key j _ q (fun z=>by cases z);exact⟨a,.inr b⟩
 refine⟨R.sub,by rw[List.length_append,List.length_append,List.length_replicate,List.length_replicate,R.len],fun i d q=>?_,fun i ds q=>?_,fun i j b ⟨ds,q⟩ ⟨es,q'⟩ e1 e2=>?_,⟨fun i s ks ds q d=>?_,fun i j s t ks ls ds es b q d q' d' e1 e2=>?_⟩⟩
 ·obtain⟨a,b⟩:=key i _ q (fun z=>by cases z)
  rw[sg i a];exact R.fz i d b
 ·obtain⟨a,b⟩:=muo i ds q
  rw[sg i a];exact R.mu i ds b
 ·obtain⟨a,c⟩:=muo i ds q
  obtain⟨a',c'⟩:=muo j es q'
  rw[sg i a]at e1;rw[sg j a']at e2
  exact R.inj i j b ⟨ds,c⟩ ⟨es,c'⟩ e1 e2
 ·obtain⟨a,b⟩:=key i _ q (fun z=>by subst z;exact d)
  rw[sg i a];exact R.od.at_ i s ks ds b d
 ·obtain⟨a,c⟩:=key i _ q (fun z=>by subst z;exact d)
  obtain⟨a',c'⟩:=key j _ q' (fun z=>by subst z;exact d')
  rw[sg i a]at e1;rw[sg j a']at e2
  exact R.od.inj i j s t ks ls ds es b c d c' d' e1 e2
theorem NoOw.more{n:Nat}(h:NoOw env):NoOw (env++List.replicate n .no):=fun i s o q=>by
 by_cases z:i<env.length
 ·rw[List.getElem?_append_left z]at q;exact h i s o q
 ·rw[List.getElem?_append_right (by omega),List.getElem?_replicate]at q
  split at q
  ·cases q;exact o
  ·cases q
theorem a66{N:List Str}{m:Nat}{body:UF}{t:TS}{vs:List V}{Q:VK}(hb:RfU K cl E ps t body)(h:spU K cl m ps (fU N.length body) vs H Q E):t { nx:=fun _ H'=>Q .non H',rt:=Q } (start N vs) H:=by
 obtain⟨as,F,hv,ha,R,no,hp,h⟩:=h
 have st:start N vs=vs.map some++List.replicate (N.length-as.length) none:=by
  unfold start
  rw[ha,hv]
 have R':=R.more (n:=N.length-as.length)
 rw[← st]at R'
 have hm:∀i∈ps,(start N vs)[i]? = some (some (.ref (adU vs i)))∧∃ds,(as++List.replicate (N.length-as.length) Sl.no)[i]? = some (.hd ds):=fun i mi=>by
  obtain⟨ds,q⟩:=hp i mi
  have hi:i<as.length:=(List.getElem?_eq_some_iff.mp q).1
  have q':(as++List.replicate (N.length-as.length) Sl.no)[i]? = some (.hd ds):=by rw[List.getElem?_append_left hi];exact q
  obtain⟨a,xs,e,_⟩:=R'.mu i ds (.inr q')
  refine⟨?_,ds,q'⟩
  rw[e]
  obtain⟨b,ys,e2,_⟩:=R.mu i ds (.inr q)
  have e3:vs[i]? = some (.ref b):=by
   rw[List.getElem?_map]at e2
   cases z:vs[i]? with
   | none=>rw[z]at e2;cases e2
   | some v=>rw[z]at e2;cases e2;rfl
  have e4:(start N vs)[i]? = some (some (.ref b)):=by
   rw[st,List.getElem?_append_left (by rw[List.length_map,hv,← ha];exact hi)];exact e2
  rw[e]at e4;cases e4
  unfold adU
  rw[e3]
 refine hb _ _ H _ F (adU vs) H F F ⟨R',hm,Same.refl _,Same.refl _,fun b o n h0 f0=>⟨h0,f0,no.more.not⟩,fun _ h=>h⟩ ?_
 unfold fU at h
 cases q:body (as++List.replicate (N.length-as.length) Sl.no)with
 | none=>rw[q]at h;exact h
 | some r =>
  rw[q]at h
  cases r with
  | nx e=>exact fun σ' H' F' S=>h σ' H' F' S
  | dn e=>exact fun σ' H' F' S=>h σ' H' F' S
end
section
variable {P:Program}{w:World}{K:W.Frag}{mg:Str→Option Value}{base:Heap}{cl:Str→Addr}
theorem Fun.okU{x qual:Str}{st:Stmt}{f:Addr}{fd:FuncData}{N ps:List Str}{k:Nat}{pp:List Nat}{body:UF}(F:Fun K x qual st f fd)(S:FnScope N ps (d9 st))
  (hbody:∀(cdv:Value) (A:Around) (outer:List Env) (s:Shared) (H:Hp) (E:XK),Room k (A.deeper (envOfC qual (d9 st) s.heap.objs.size f cdv)) →
   ∃t,PSs (S9 (y8 P w) P w K mg base N qual (d9 st) f cdv A outer s H E) (j7 st) t∧RfU K cl E pp t body):FnOk P w K mg base (y8 P w) (k+1) f fd ps (spU K cl ps.length pp (fU N.length body)) :=
 F.okE S (fun vs H Q E ⟨_,_,h,_⟩=>h) fun cdv A outer s H vs Q E hr h=>by
  obtain⟨t,h1,h2⟩:=hbody cdv A outer s H E hr
  exact⟨t,h1,a66 h2 h⟩
end
abbrev UA:=DE→Option (R (List (Sum Nat D)))
def auN:UA:=fun e=>some (.ok [] e)
def auM(i:Nat)(k:UA):UA:=fun e=>match look e i with
 | some (.lst _)=>bnd (k e) fun xs e2=>some (.ok (.inl i::xs) e2)
 | _=>none
def auE(f:ZF)(k:UA):UA:=fun e=>bnd (f e) fun d e1=>bnd (k e1) fun xs e2=>some (.ok (.inr d::xs) e2)
def RpU(K:W.Frag)(cl:Str→Addr)(σ:St)(F:Hp):List (Sum Nat D)→List V→Prop
 | [],vs=>vs=[]
 | .inl i::xs,vs=>∃v r,vs=v::r∧σ[i]? = some (some v)∧RpU K cl σ F xs r
 | .inr d::xs,vs=>∃v r,vs=v::r∧Rp K cl F d v∧RpU K cl σ F xs r
def PAu(K:W.Frag)(cl:Str→Addr):Py (List (Sum Nat D)) (List V):=fun xs σ _ _ F' _ vs=>RpU K cl σ F' xs vs
theorem a8S{K cl}:PM (PAu K cl):=fun _ _ _ _ _ _ _ _ _ h=>h
def a41(K:W.Frag)(cl:Str→Addr)(E:XK)(t:TA)(f:UA):Prop:=∀σ H Q env F,Rel K cl σ H F env→Ct K cl E (PAu K cl) (f env) σ H F env Q→t σ H Q
def B6:List (Sum Nat D)→List Nat
 | []=>[]
 | .inl i::xs=>i::B6 xs
 | .inr _::xs=>B6 xs
def a3k:Nat→List (Sum Nat D)→List Nat
 | _,[]=>[]
 | n,.inl _::xs=>n::a3k (n+1) xs
 | n,.inr _::xs=>a3k (n+1) xs
def asU(e:DE):List (Sum Nat D)→Option DE
 | []=>some []
 | .inl i::xs=>(match e[i]?,asU e xs with
  | some (.ow ds),some as=>some (.hd ds::as)
  | _,_=>none)
 | .inr d::xs=>(match asU e xs with
  | some as=>some (.fz d::as)
  | none=>none)
def a0W(e:DE):List (Sum Nat D)→DE→Option DE
 | [],_=>some e
 | .inl i::xs,.hd ds::es=>a0W (e.set i (.ow ds)) xs es
 | .inr _::xs,_::es=>a0W e xs es
 | _,_=>none
def a2q(m:Nat)(ps:List Nat)(g:DE→Option DE)(k:UA):SF:=fun e=>M3 (k e) fun xs e1=>match asU e1 xs with
 | some as=>if(B6 xs).Nodup∧a3k 0 xs=ps∧xs.length=m then(match g as with
  | some e'=>(match a0W e1 xs e' with
   | some e2=>some (.nx e2)
   | none=>none)
  | none=>none)else none
 | none=>none
section
variable {K:W.Frag}{cl:Str→Addr}{E:XK}{ps:List Nat}{σ:St}{H F:Hp}{env:DE}
theorem RpU.mono{F':Hp}(s:Same F F'):∀{xs:List (Sum Nat D)} {vs:List V},RpU K cl σ F xs vs→RpU K cl σ F' xs vs
 | [],_,h=>h
 | .inl _::_,_,⟨v,r,e,h1,h2⟩=>⟨v,r,e,h1,h2.mono s⟩
 | .inr _::_,_,⟨v,r,e,h1,h2⟩=>⟨v,r,e,Rp.mono s _ _ h1,h2.mono s⟩
theorem b6e:a41 K cl E a0r auN:=fun σ H Q env F R h=>h [] H F Frm.refl R rfl
theorem b2o{i:Nat}{t:TA}{k:UA}(hk:a41 K cl E t k):a41 K cl E (L3 (D2 i) t) (auM i k):=by
 intro σ H Q env F R h
 unfold auM at h
 split at h
 ·rename_i ds q
  obtain⟨v,e,_⟩:=R.look q
  refine⟨v,e,hk σ H _ env F R ((Ct.bnd h a8S).mono fun vs H2 ⟨F2,e2,xs,s2,R2,p2,h2⟩=>?_)⟩
  exact h2 (v::vs) H2 F2 Frm.refl R2 ⟨v,vs,rfl,e,p2⟩
 ·exact h.elim
theorem b2p{te:TE}{t:TA}{f:ZF}{k:UA}(hf:u5 K cl E te f)(hk:a41 K cl E t k):a41 K cl E (L3 te t) (auE f k):=by
 intro σ H Q env F R h
 refine hf σ H _ env F R ((Ct.bnd h a8S).mono fun x H1 ⟨F1,e1,d,s1,R1,p1,h1⟩=>?_)
 refine hk σ H1 _ e1 F1 R1 ((Ct.bnd h1 a8S).mono fun xs H2 ⟨F2,e2,ds,s2,R2,p2,h2⟩=>?_)
 exact h2 (x::xs) H2 F2 Frm.refl R2 ⟨x,xs,rfl,Rp.mono s2 _ _ p1,p2⟩
theorem RpU.length:∀{xs:List (Sum Nat D)} {vs:List V},RpU K cl σ F xs vs→vs.length=xs.length
 | [],_,h=>by rw[show _=_ from h];rfl
 | .inl _::_,_,⟨v,r,e,_,h2⟩=>by rw[e,List.length_cons,List.length_cons,h2.length]
 | .inr _::_,_,⟨v,r,e,_,h2⟩=>by rw[e,List.length_cons,List.length_cons,h2.length]
theorem a1O:∀{xs:List (Sum Nat D)} {as:DE},asU env xs=some as→as.length=xs.length
 | [],_,h=>by cases h;rfl
 | .inl i::xs,_,h=>by
  unfold asU at h
  split at h
  ·rename_i q;cases h;rw[List.length_cons,List.length_cons,a1O q]
  ·cases h
 | .inr _::xs,_,h=>by
  unfold asU at h
  split at h
  ·rename_i q;cases h;rw[List.length_cons,List.length_cons,a1O q]
  ·cases h
theorem a2r:∀{xs:List (Sum Nat D)} {as:DE} {vs:List V} {p:Nat} {s:Sl},asU env xs=some as→RpU K cl σ F xs vs→as[p]? = some s →
  (∃i ds v,xs[p]? = some (.inl i)∧s=.hd ds∧env[i]? = some (.ow ds)∧vs[p]? = some v∧σ[i]? = some (some v))∨(∃d v,xs[p]? = some (.inr d)∧s=.fz d∧vs[p]? = some v∧Rp K cl F d v)
 | [],_,_,_,_,h,_,q=>by cases h;cases q
 | .inl i::xs,as,vs,p,s,h,r,q=>by
  unfold asU at h
  split at h
  ·rename_i ds as' h1 h2
   cases h
   obtain⟨v,r',rfl,e,r2⟩:=r
   cases p with
   | zero=>cases q;exact .inl ⟨i,ds,v,rfl,rfl,h1,rfl,e⟩
   | succ p=>exact a2r (p:=p) h2 r2 q
  ·cases h
 | .inr d::xs,as,vs,p,s,h,r,q=>by
  unfold asU at h
  split at h
  ·rename_i as' h2
   cases h
   obtain⟨v,r',rfl,e,r2⟩:=r
   cases p with
   | zero=>cases q;exact .inr ⟨d,v,rfl,rfl,rfl,e⟩
   | succ p=>exact a2r (p:=p) h2 r2 q
  ·cases h
theorem a3l:∀{xs:List (Sum Nat D)} {n p:Nat},p∈a3k n xs→∃i,xs[p-n]? = some (.inl i)∧n≤p
 | [],_,_,h=>by cases h
 | .inl i::xs,n,p,h=>by
  rcases List.mem_cons.mp h with rfl | h
  ·exact⟨i,by rw[Nat.sub_self];rfl,Nat.le_refl _⟩
  ·obtain⟨j,h1,h2⟩:=a3l h
   exact⟨j,by rw[show p-n=(p-(n+1))+1 by omega];exact h1,by omega⟩
 | .inr d::xs,n,p,h=>by
  obtain⟨j,h1,h2⟩:=a3l (show p∈a3k (n+1) xs from h)
  exact⟨j,by rw[show p-n=(p-(n+1))+1 by omega];exact h1,by omega⟩
theorem X7:∀{xs:List (Sum Nat D)} {n p i:Nat},xs[p]? = some (.inl i)→n+p∈a3k n xs∧i∈B6 xs
 | [],_,_,_,h=>by cases h
 | .inl j::xs,n,0,i,h=>by cases h;exact⟨List.mem_cons_self,List.mem_cons_self⟩
 | .inr d::xs,n,0,i,h=>by cases h
 | .inl j::xs,n,p+1,i,h=>by
  obtain⟨h1,h2⟩:=X7 (n:=n+1) (show xs[p]? = _ from h)
  exact⟨List.mem_cons_of_mem _ (by rw[show n+(p+1)=n+1+p by omega];exact h1),List.mem_cons_of_mem _ h2⟩
 | .inr d::xs,n,p+1,i,h=>by
  obtain⟨h1,h2⟩:=X7 (n:=n+1) (show xs[p]? = _ from h)
  exact⟨by rw[show n+(p+1)=n+1+p by omega];exact h1,h2⟩
theorem a3m:∀{xs:List (Sum Nat D)} {i:Nat},i∈B6 xs→∃p:Nat,xs[p]? = some (Sum.inl i)
 | [],_,h=>by cases h
 | .inl j::xs,i,h=>by
  rcases List.mem_cons.mp h with rfl | h
  ·exact⟨0,rfl⟩
  ·obtain⟨p,e⟩:=a3m h;exact⟨p+1,e⟩
 | .inr d::xs,i,h=>by obtain⟨p,e⟩:=a3m (show i∈B6 xs from h);exact⟨p+1,e⟩
theorem a2s:∀{xs:List (Sum Nat D)} {p q i:Nat},(B6 xs).Nodup→xs[p]? = some (.inl i)→xs[q]? = some (.inl i)→p=q
 | [],_,_,_,_,h,_=>by cases h
 | .inl j::xs,p,q,i,nd,h1,h2=>by
  have nd:(j::B6 xs).Nodup:=nd
  rw[List.nodup_cons]at nd
  cases p with
  | zero =>
   cases q with
   | zero=>rfl
   | succ q=>cases h1;exact absurd (X7 (n:=0) (show xs[q]? = _ from h2)).2 nd.1
  | succ p =>
   cases q with
   | zero=>cases h2;exact absurd (X7 (n:=0) (show xs[p]? = _ from h1)).2 nd.1
   | succ q=>rw[a2s nd.2 (show xs[p]? = _ from h1) (show xs[q]? = _ from h2)]
 | .inr d::xs,p,q,i,nd,h1,h2=>by
  cases p with
  | zero=>cases h1
  | succ p =>
   cases q with
   | zero=>cases h2
   | succ q=>rw[a2s (xs:=xs) nd (show xs[p]? = _ from h1) (show xs[q]? = _ from h2)]
theorem a2t:∀{xs:List (Sum Nat D)} {e' e1 e2:DE},a0W e1 xs e'=some e2→(B6 xs).Nodup→(∀i∈B6 xs,i<e1.length) →
  e2.length=e1.length∧(∀j,j ∉ B6 xs→e2[j]? = e1[j]?)∧∀(p j:Nat),xs[p]? = some (Sum.inl j)→∃ds,e'[p]? = some (Sl.hd ds)∧e2[j]? = some (Sl.ow ds)
 | [],_,_,_,h,_,_=>by
  unfold a0W at h
  cases h;exact⟨rfl,fun _ _=>rfl,fun _ _ q=>by cases q⟩
 | .inl i::xs,[],_,_,h,_,_=>by cases h
 | .inr i::xs,[],_,_,h,_,_=>by cases h
 | .inl i::xs,s::es,e1,e2,h,nd,hl=>by
  have nd:(i::B6 xs).Nodup:=nd
  rw[List.nodup_cons]at nd
  cases s with
  | hd ds =>
   have h:a0W (e1.set i (.ow ds)) xs es=some e2:=h
   obtain⟨h1,h2,h3⟩:=a2t h nd.2 (fun j m=>by rw[List.length_set];exact hl j (List.mem_cons_of_mem _ m))
   rw[List.length_set]at h1
   refine⟨h1,fun j n=>?_,fun p j q=>?_⟩
   ·rw[h2 j (fun m=>n (List.mem_cons_of_mem _ m)),List.getElem?_set_ne (fun z=>n (by rw[← z];exact List.mem_cons_self))]
   ·cases p with
    | zero =>
     cases q
     exact⟨ds,rfl,by rw[h2 i nd.1,List.getElem?_set_self (hl i List.mem_cons_self)]⟩
    | succ p=>exact h3 p j q
  | _=>cases h
 | .inr d::xs,s::es,e1,e2,h,nd,hl=>by
  obtain⟨h1,h2,h3⟩:=a2t (xs:=xs) (e':=es) (show a0W e1 xs es=some e2 from h) nd hl
  refine⟨h1,h2,fun p j q=>?_⟩
  cases p with
  | zero=>cases q
  | succ p=>exact h3 p j q
theorem b1A{m:Nat}{g:DE→Option DE}{t:TA}{k:UA}{E':XK}(hk:a41 K cl E t k):RfS K cl E (a7_ (T8 (spU K cl m ps g) [] E' t)) (a2q m ps g k):=by
 intro N σ H env F R h
 refine hk σ H _ env F R ((Cs.bnd h).mono fun vs H1 ⟨F1,e1,xs,fr,R1,p1,h1⟩=>?_)
 have p1:RpU K cl σ F1 xs vs:=p1
 split at h1
 ·rename_i as ha
  split at h1
  ·rename_i c
   obtain⟨nd,hp,hm⟩:=c
   split at h1
   ·rename_i e' hg
    split at h1
    ·rename_i e2 hb
     show spU K cl m ps g (vs++[]) H1 _ E'
     rw[List.append_nil]
     have lv:=p1.length
     have la:=a1O ha
     have hv:∀(p:Nat) (v:V),vs[p]? = some v→(vs.map some)[p]? = some (some v):=fun p v e=>by rw[List.getElem?_map,e];rfl
     have own:∀(p:Nat) (ds:List D),as[p]? = some (.hd ds)→∃i a ys,xs[p]? = some (.inl i)∧e1[i]? = some (.ow ds)∧vs[p]? = some (.ref a)∧σ[i]? = some (some (.ref a))∧H1 a=some (.lst ys)∧F1 a=none∧Rps K cl F1 ds ys:=fun p ds q=>by
      rcases a2r ha p1 q with⟨i,ds',v,x1,x2,x3,x4,x5⟩ | ⟨d,v,x1,x2,_⟩
      ·cases x2
       obtain⟨a,ys,y1,y2,y3,y4⟩:=R1.mu i ds (.inl x3)
       rw[x5]at y1;cases y1
       exact⟨i,a,ys,x1,x3,x4,x5,y2,y3,y4⟩
      ·cases x2
     have mua:∀(p:Nat) (ds:List D),(as[p]? = some (.ow ds)∨as[p]? = some (.hd ds))→as[p]? = some (.hd ds):=fun p ds q=>by
      rcases q with q | q
      ·rcases a2r ha p1 q with⟨_,_,_,_,z,_⟩ | ⟨_,_,_,z,_⟩<;>cases z
      ·exact q
     have Ra:Rel K cl (vs.map some) H1 F1 as:=by
      refine⟨R1.sub,by rw[List.length_map,lv,la],fun p d q=>?_,fun p ds q=>?_,fun p q b ⟨ds,z⟩ ⟨es,z'⟩ x x'=>?_,.none fun p s ks ds q d=>?_⟩
      ·rcases a2r ha p1 q with⟨_,_,_,_,z,_⟩ | ⟨d',v,_,z,y1,y2⟩
       ·cases z
       ·cases z;exact⟨v,hv p v y1,y2⟩
      ·obtain⟨i,a,ys,_,_,x3,_,x5,x6,x7⟩:=own p ds (mua p ds q)
       exact⟨a,ys,hv p _ x3,x5,x6,x7⟩
      ·obtain⟨i,a,ys,i1,i2,i3,i4,_⟩:=own p ds (mua p ds z)
       obtain⟨j,a',ys',j1,j2,j3,j4,_⟩:=own q es (mua q es z')
       rw[hv p _ i3]at x;cases x
       rw[hv q _ j3]at x';cases x'
       have ij:i=j:=R1.inj i j b ⟨ds,.inl i2⟩ ⟨es,.inl j2⟩ i4 j4
       subst ij
       exact a2s nd i1 j1
      ·rcases a2r ha p1 q with⟨_,_,_,_,z,_⟩ | ⟨_,_,_,z,_⟩<;> (subst z;exact d)
     have na:NoOw as:=fun p s o q=>by
      rcases a2r ha p1 q with⟨_,_,_,_,z,_⟩ | ⟨_,_,_,z,_⟩<;> (subst z;exact o)
     have ph:∀p∈ps,∃ds,as[p]? = some (.hd ds):=fun p mp=>by
      rw[← hp]at mp
      obtain⟨i,z,_⟩:=a3l mp
      rw[Nat.sub_zero]at z
      have hl:p<as.length:=by rw[la];exact(List.getElem?_eq_some_iff.mp z).1
      rcases a2r ha p1 (List.getElem?_eq_getElem hl)with⟨i',ds,v,x1,x2,_⟩ | ⟨d,v,x1,_⟩
      ·exact⟨ds,by rw[List.getElem?_eq_getElem hl,x2]⟩
      ·rw[z]at x1;cases x1
     refine⟨as,F1,by rw[lv];exact hm,by rw[la];exact hm,Ra,na,ph,?_⟩
     rw[hg]
     intro σ' H' F' S
     -- the names that were handed
     have hnm:∀i∈B6 xs,∃p ds a,xs[p]? = some (.inl i)∧p∈ps∧e1[i]? = some (.ow ds)∧σ[i]? = some (some (.ref a))∧adU vs p=a:=fun i mi=>by
      obtain⟨p,z⟩:=a3m mi
      have hl:p<as.length:=by rw[la];exact(List.getElem?_eq_some_iff.mp z).1
      have mp:p∈ps:=by rw[← hp];have:=(X7 (n:=0) z).1;rwa [Nat.zero_add]at this
      obtain⟨ds,q⟩:=ph p mp
      obtain⟨i',a,ys,i1,i2,i3,i4,_⟩:=own p ds q
      rw[z]at i1;cases i1
      exact⟨p,ds,a,z,mp,i2,i4,by unfold adU;rw[i3]⟩
     have adr:∀p∈ps,∃i ds a,i∈B6 xs∧e1[i]? = some (.ow ds)∧σ[i]? = some (some (.ref a))∧adU vs p=a∧H1 a≠none:=fun p mp=>by
      obtain⟨ds,q⟩:=ph p mp
      obtain⟨i,a,ys,i1,i2,i3,i4,i5,_⟩:=own p ds q
      exact⟨i,ds,a,(X7 (n:=0) i1).2,i2,i4,by unfold adU;rw[i3],by rw[i5];exact fun z=>by cases z⟩
     obtain⟨l2,o2,b2⟩:=a2t hb nd (fun i mi=>by obtain⟨p,ds,a,_,_,x,_⟩:=hnm i mi;exact(List.getElem?_eq_some_iff.mp x).1)
     have far:∀(j:Nat) (fs:List D) (b:Addr),(e1[j]? = some (.ow fs)∨e1[j]? = some (.hd fs))→j ∉ B6 xs→σ[j]? = some (some (.ref b))→∀p∈ps,b≠adU vs p:=fun j fs b q n e p mp z=>by
      obtain⟨i,ds,a,mi,x1,x2,x3,_⟩:=adr p mp
      have ji:j=i:=R1.inj j i b ⟨fs,q⟩ ⟨ds,.inl x1⟩ e (by rw[z,x3];exact x2)
      exact n (by rw[ji];exact mi)
     have farD:∀(a:Addr) (o:HO),H1 a=some o→(∀ys,o≠.lst ys)→∀p∈ps,a≠adU vs p:=fun a o e n p mp z=>by
      obtain⟨ds,q⟩:=ph p mp
      obtain⟨i,a',ys,_,_,i3,_,i5,_⟩:=own p ds q
      have:adU vs p=a':=by unfold adU;rw[i3]
      rw[z,this,i5]at e
      exact n ys (Option.some.inj e).symm
     have R2:Rel K cl σ H' F' e2:=by
      have handed:∀j∈B6 xs,∃ds a ys,e2[j]? = some (.ow ds)∧σ[j]? = some (some (.ref a))∧H' a=some (.lst ys)∧F' a=none∧Rps K cl F' ds ys:=fun j mj=>by
       obtain⟨p,ds0,a,x1,x2,x3,x4,x5⟩:=hnm j mj
       obtain⟨ds,y1,y2⟩:=b2 p j x1
       obtain⟨s1,_⟩:=S.pn p x2
       obtain⟨a',ys,z1,z2,z3,z4⟩:=S.rel.mu p ds (.inr y1)
       rw[s1,x5]at z1;cases z1
       exact⟨ds,a,ys,y2,x4,z2,z3,z4⟩
      have muE:∀(j:Nat) (fs:List D),(e2[j]? = some (.ow fs)∨e2[j]? = some (.hd fs))→∃gs,e1[j]? = some (.ow gs)∨e1[j]? = some (.hd gs):=fun j fs q=>by
       by_cases mj:j∈B6 xs
       ·obtain⟨p,ds,a,_,_,x,_⟩:=hnm j mj;exact⟨ds,.inl x⟩
       ·rw[o2 j mj]at q;exact⟨fs,q⟩
      refine⟨S.rel.sub,by rw[l2];exact R1.len,fun j d q=>?_,fun j fs q=>?_,fun j l b ⟨fs,q⟩ ⟨gs,q'⟩ x x'=>?_,R1.od.to (fun j s ks ds q d=>?_) (fun j a ks ys e h f=>?_) S.fz⟩
      ·have nj:j ∉ B6 xs:=fun mj=>by obtain⟨ds,a,ys,x,_⟩:=handed j mj;rw[q]at x;cases x
       rw[o2 j nj]at q
       obtain⟨v,x,y⟩:=R1.fz j d q
       exact⟨v,x,Rp.mono S.fz _ _ y⟩
      ·by_cases mj:j∈B6 xs
       ·obtain⟨ds,a,ys,x,y⟩:=handed j mj
        have:fs=ds:=by
         rcases q with q | q
         ·rw[q]at x;cases x;rfl
         ·rw[q]at x;cases x
        subst this
        exact⟨a,ys,y⟩
       ·rw[o2 j mj]at q
        obtain⟨b,zs,x1,x2,x3,x4⟩:=R1.mu j fs q
        obtain⟨y1,y2,_⟩:=S.hid b _ (far j fs b q mj x1) x2 x3
        exact⟨b,zs,x1,y1,y2,x4.mono S.fz⟩
      ·obtain⟨fs',q⟩:=muE j fs q
       obtain⟨gs',q'⟩:=muE l gs q'
       exact R1.inj j l b ⟨fs',q⟩ ⟨gs',q'⟩ x x'
      ·have nj:j ∉ B6 xs:=fun mj=>by obtain⟨ds,a,ys,x,_⟩:=handed j mj;rw[q]at x;cases x;exact d
       rw[o2 j nj]at q
       exact⟨s,q,d,rfl⟩
      ·obtain⟨y1,y2,_⟩:=S.hid a _ (farD a _ h (fun _=>a2F)) h f
       exact⟨y1,y2⟩
     have ow12:∀b,Ow σ e2 b→Ow σ e1 b:=fun b ⟨j,s,oo,q,e⟩=>by
      by_cases mj:j∈B6 xs
      ·obtain⟨p,ds,a,_,_,x,_⟩:=hnm j mj
       exact⟨j,.ow ds,True.intro,x,e⟩
      ·rw[o2 j mj]at q;exact⟨j,s,oo,q,e⟩
     have Fr2:Frm σ H1 F1 e1 σ H' F' e2:=by
      refine⟨S.fz,fun b o hb' fb w=>?_,fun j fs q=>?_,S.dom⟩
      ·obtain⟨y1,y2,_⟩:=S.hid b o (fun p mp z=>by
        obtain⟨i,ds,a,mi,x1,x2,x3,_⟩:=adr p mp
        exact w ⟨i,.ow ds,True.intro,x1,by rw[z,x3];exact x2⟩) hb' fb
       exact⟨y1,y2,fun z=>w (ow12 b z)⟩
      ·have nj:j ∉ B6 xs:=fun mj=>by obtain⟨p,ds,a,_,_,x,_⟩:=hnm j mj;rw[q]at x;cases x
       exact⟨by rw[o2 j nj];exact q,rfl⟩
     exact h1 σ H' F' (fr.trans Fr2) R2
    ·exact h1.elim
   ·exact h1.elim
  ·exact h1.elim
 ·exact h1.elim
end
noncomputable def a1h(i j k:Nat)(g:List D→Option R1)(f:AF):SF:=fun e=>match f (P7 e)with
 | some (.ok ds _)=>(match g ds with
  | some (.owz [d1,d2,d3])=>if i=j∨i=k∨j=k then none else if noLs d1=true∧noLs d2=true∧noLs d3=true then(match e[i]?,e[j]?,e[k]? with
   | some .no,some .no,some .no=>some (.nx (((e.set i (.ow d1)).set j (.ow d2)).set k (.ow d3)))
   | _,_,_=>none)else none
  | _=>none)
 | _=>none
section
variable {K:W.Frag}{cl:Str→Addr}{E:XK}
theorem a9_{i j k:Nat}{g:List D→Option R1}{t:TA}{f:AF}{E':XK}(hf:V6 K cl E t f):RfS K cl E (X1 (T8 (i9 K cl g) [] E' t) (a50 K 3 (a1o (P8 i) (a1o (P8 j) (a1o (P8 k) a8a))))) (a1h i j k g f):=by
 intro N σ H env F R h1
 obtain⟨F1,R1,o1,o2⟩:=a4V R
 refine hf σ H _ (P7 env) F1 R1 ?_
 unfold a1h at h1
 split at h1
 ·rename_i ds e2 qf
  rw[qf]
  intro vs H1 Fa fr Ra p1
  show i9 K cl g (vs++[]) H1 _ E'
  rw[List.append_nil]
  refine⟨ds,Fa,Ra.sub,p1,?_⟩
  split at h1
  ·rename_i d1 d2 d3 q;rw[q]
   intro p as H' F' gr hp ht fp rz
   obtain⟨F2,fr2,R2,gg,n2⟩:=a0D R o1 o2 ((fr.trans (Ra.frm gr)).toFX gr.sub)
   split at h1
   ·exact h1.elim
   rename_i nij
   have nij1:i≠j:=fun z=>nij (.inl z)
   have nij2:i≠k:=fun z=>nij (.inr (.inl z))
   have nij3:j≠k:=fun z=>nij (.inr (.inr z))
   split at h1
   ·rename_i cc
    obtain⟨c1,c2,c3⟩:=cc
    split at h1
    ·rename_i qi qj qk
     obtain⟨nd,hl,hz⟩:=rz
     match as,hl with
     | [a1,a2,a3],_ =>
      have n12:a1≠a2:=by intro z;rw[z]at nd;simp at nd
      have n13:a1≠a3:=by intro z;rw[z]at nd;simp at nd
      have n23:a2≠a3:=by intro z;rw[z]at nd;simp at nd
      obtain⟨xs1,hH1,hF1,w1,r1⟩:=hz 0 a1 d1 rfl rfl
      obtain⟨xs2,hH2,hF2,w2,r2⟩:=hz 1 a2 d2 rfl rfl
      obtain⟨xs3,hH3,hF3,w3,r3⟩:=hz 2 a3 d3 rfl rfl
      have w1':H a1=none:=fr.dom a1 w1
      have w2':H a2=none:=fr.dom a2 w2
      have w3':H a3=none:=fr.dom a3 w3
      have hi:i<env.length:=(List.getElem?_eq_some_iff.mp qi).1
      have hj:j<env.length:=(List.getElem?_eq_some_iff.mp qj).1
      have hk:k<env.length:=(List.getElem?_eq_some_iff.mp qk).1
      have far:∀a,H a=none→∀m,Mu env m→σ[m]?≠some (some (.ref a)):=fun a ha m ⟨es,qm⟩ e=>by
       obtain⟨b,ys,e',hb,_⟩:=R.mu m es qm
       rw[e]at e';cases e'
       rw[ha]at hb;cases hb
      have far2:∀m,Mu (env.set i (.ow d1)) m→(σ.set i (some (.ref a1)))[m]?≠some (some (.ref a2)):=fun m mm=>by
       by_cases z:m=i
       ·subst z
        rw[List.getElem?_set_self (by rw[R2.len];exact hi)]
        intro y;cases y;exact n12 rfl
       ·rw[List.getElem?_set_ne (Ne.symm z)]
        obtain⟨es,qk⟩:=mm
        rw[List.getElem?_set_ne (Ne.symm z)]at qk
        exact far a2 w2' m ⟨es,qk⟩
      have far3:∀m,Mu ((env.set i (.ow d1)).set j (.ow d2)) m→((σ.set i (some (.ref a1))).set j (some (.ref a2)))[m]?≠some (some (.ref a3)):=fun m mm=>by
       by_cases z:m=j
       ·subst z
        rw[List.getElem?_set_self (by rw[List.length_set,R2.len];exact hj)]
        intro y;cases y;exact n23 rfl
       ·rw[List.getElem?_set_ne (Ne.symm z)]
        obtain⟨es,qm⟩:=mm
        rw[List.getElem?_set_ne (Ne.symm z)]at qm
        by_cases z':m=i
        ·subst z'
         rw[List.getElem?_set_self (by rw[R2.len];exact hi)]
         intro y;cases y;exact n13 rfl
        ·rw[List.getElem?_set_ne (Ne.symm z')]
         rw[List.getElem?_set_ne (Ne.symm z')]at qm
         exact far a3 w3' m ⟨es,qm⟩
      have R5:=R2.putO hi hH1 (n2 _ hF1) (far a1 w1') (Rps.noL gg _ _ c1 r1)
      have R3:=R5.putO (i:=j) (ds:=d2) (by rw[List.length_set];exact hj) hH2 (n2 _ hF2) far2 (Rps.noL gg _ _ c2 r2)
      have R4:=R3.putO (i:=k) (ds:=d3) (by rw[List.length_set,List.length_set];exact hk) hH3 (n2 _ hF3) far3 (Rps.noL gg _ _ c3 r3)
      have f2:Frm σ H F env (σ.set i (some (.ref a1))) H' F2 (env.set i (.ow d1)):=fr2.putO w1' (fun es z=>by rw[qi]at z;cases z)
      have f3:Frm σ H F env ((σ.set i (some (.ref a1))).set j (some (.ref a2))) H' F2 ((env.set i (.ow d1)).set j (.ow d2)):=f2.putO w2' (fun es z=>by rw[List.getElem?_set_ne nij1,qj]at z;cases z)
      have f4:Frm σ H F env (((σ.set i (some (.ref a1))).set j (some (.ref a2))).set k (some (.ref a3))) H' F2 (((env.set i (.ow d1)).set j (.ow d2)).set k (.ow d3)):=f3.putO w3' (fun es z=>by rw[List.getElem?_set_ne nij3,List.getElem?_set_ne nij2,qk]at z;cases z)
      exact⟨p,_,rfl,.of ht,rfl,_,_,rfl,_,_,rfl,_,_,rfl,rfl,h1 _ H' F2 f4 R4⟩
    ·exact h1.elim
   ·exact h1.elim
  ·exact h1.elim
 ·exact h1.elim
def a2M(i j:Nat)(g:List D→Option R1)(f:AF):SF:=fun e=>M3 (f e) fun ds e1=>match g ds with
 | some (.owz [d1,d2])=>if i=j then none else(match e1[i]?,e1[j]? with
  | some .no,some .no=>some (.nx ((e1.set i (.ow d1)).set j (.ow d2)))
  | _,_=>none)
 | _=>none
theorem b0a{i j:Nat}{g:List D→Option R1}{t:TA}{f:AF}{E':XK}(hf:V6 K cl E t f):RfS K cl E (X1 (T8 (i9 K cl g) [] E' t) (a50 K 2 (a1o (P8 i) (a1o (P8 j) a8a)))) (a2M i j g f):=by
 intro N σ H env F R h
 refine hf σ H _ env F R ((Cs.bnd h).mono fun vs H1 ⟨F1,e1,ds,fr,R1,p1,h1⟩=>?_)
 show i9 K cl g (vs++[]) H1 _ E'
 rw[List.append_nil]
 refine⟨ds,F1,R1.sub,p1,?_⟩
 split at h1
 ·rename_i d1 d2 q;rw[q]
  intro p as H' F' gr hp ht fp rz
  split at h1
  ·exact h1.elim
  ·rename_i nij
   split at h1
   ·rename_i qi qj
    obtain⟨nd,hl,hz⟩:=rz
    match as,hl with
    | [a1,a2],_ =>
     have n12:a1≠a2:=by intro z;rw[z]at nd;simp at nd
     obtain⟨xs1,hH1,hF1,w1,r1⟩:=hz 0 a1 d1 rfl rfl
     obtain⟨xs2,hH2,hF2,w2,r2⟩:=hz 1 a2 d2 rfl rfl
     have hi:i<e1.length:=(List.getElem?_eq_some_iff.mp qi).1
     have hj:j<e1.length:=(List.getElem?_eq_some_iff.mp qj).1
     have Rg:=R1.gr gr
     have far:∀a,H1 a=none→∀k,Mu e1 k→σ[k]?≠some (some (.ref a)):=fun a ha k ⟨es,qk⟩ e=>by
      obtain⟨b,ys,e',hb,_⟩:=R1.mu k es qk
      rw[e]at e';cases e'
      rw[ha]at hb;cases hb
     have R2:=Rg.putO hi hH1 hF1 (far a1 w1) r1
     have R3:=R2.putO (i:=j) (ds:=d2) (by rw[List.length_set];exact hj) hH2 hF2 (fun k mk=>?_) r2
     ·have f2:Frm σ H F env (σ.set i (some (.ref a1))) H' F' (e1.set i (.ow d1)):=(fr.trans (R1.frm gr)).putO (fr.dom a1 w1) (fun es z=>by rw[qi]at z;cases z)
      have f3:Frm σ H F env ((σ.set i (some (.ref a1))).set j (some (.ref a2))) H' F' ((e1.set i (.ow d1)).set j (.ow d2)):=f2.putO (fr.dom a2 w2) (fun es z=>by rw[List.getElem?_set_ne nij,qj]at z;cases z)
      exact⟨p,_,rfl,.of ht,rfl,_,_,rfl,_,_,rfl,rfl,h1 _ H' F' f3 R3⟩
     ·by_cases z:k=i
      ·subst z
       rw[List.getElem?_set_self (by rw[Rg.len];exact hi)]
       intro y;cases y;exact n12 rfl
      ·rw[List.getElem?_set_ne (Ne.symm z)]
       obtain⟨es,qk⟩:=mk
       rw[List.getElem?_set_ne (Ne.symm z)]at qk
       exact far a2 w2 k ⟨es,qk⟩
   ·exact h1.elim
 ·exact h1.elim
end
noncomputable def b1B(P:Program)(w:World)(K:W.Frag)(mg:Str→Option Value)(base:Heap)(k:Nat)(x:Str)(C:Addr)(ps:List Str)(f:Str):Prop :=
 ∃fI fd,MkX K C fI∧FnOk P w K mg base (y8 P w) k fI fd ps (a4H C f)∧Binds K fd ps []∧mg x=some (.ref C)
section
variable {X:Cx}{E:XK}{j k:Nat}
theorem b0b{x f:Str}{C:Addr}{ps:List Str}{e₀:Expr}{l7:List Expr}{np cpos pos:Pos}{ta:TA}(acc:XAcc X E)(G:b1B X.prog X.w X.K X.mg X.base j x C ps f)(hr:Room k X.A)(hk:j+1≤k)(hg:Gl X x)(ha:PA X (e₀::l7) ta)
  (hc:X.calm=true:=by rfl) (hex:X.ex=[]:=by rfl)
  (he:starEach (e₀::l7) X.env=(false,eval e₀ X.env)::starEach l7 X.env:=by rfl) (hplain:(backTo cpos (starEach l7 X.env)).any (·.1)=false:=by rfl) (hd:(x == ("__debug__" : Str))=false:=by decide) :
  PS X (.Raise (some (.Call (.Name x np) (e₀::l7) [] cpos)) none pos) (a4I C f E ta):=by
 obtain⟨fI,fd,M,F,B,m⟩:=G
 exact a9F acc M F (hr.mono hk) B hg m ha hc hex he hplain hd
end
section
variable {K:W.Frag}{cl:Str→Addr}{E:XK}
def a1i(c f:Str)(g:AF):SF:=fun e=>M3 (g e) fun ds _=>match ds with
 | [d]=>some (.ex (.v c f d))
 | _=>none
theorem b0c{c f:Str}{t:TA}{g:AF}(hf:V6 K cl E t g):RfS K cl E (a4I (cl c) f E t) (a1i c f g):=by
 intro N σ H env F R h
 refine hf σ H _ env F R ((Cs.bnd h).mono fun xs H1 ⟨F1,e1,ds,fr,R1,p1,h1⟩=>?_)
 split at h1
 ·rename_i d
  have p1:Rps K cl F1 [d] xs:=p1
  obtain⟨v,r,rfl,p,p2⟩:=p1.inv
  rw[p2.inv0]
  refine⟨v,rfl,fun dx nd=>?_⟩
  have gr:Gr H1 F1 (upd H1 dx (.xd [(f,v)])) (upd F1 dx (.xd [(f,v)])):=.new R1.sub nd
  exact h1 _ _ (fr.fx gr.fx) _ ⟨dx,v,rfl,i8,p.mono gr.fz⟩
 ·exact h1.elim
def a2u(xt:Str→Bool)(f:Str):D→Option D
 | .exv c g d=>if xt c=true∧g=f then some d else none
 | _=>none
def b6O(K:W.Frag)(f:Str):V→Hp→VK→Prop:=fun x H1 Q=>∃a C dx y,x=.ref a∧H1 a=some (Q1 a (.ref C) (some (2*dx+1)))∧H1 dx=some (.xd [(f,y)])∧W.ExcT K C∧W.hasDictIn K C=true∧W.findIn K (.ref C) f=some none∧Q y H1
theorem b5x{xt:Str→Bool}{f:Str}(hf:∀c,xt c=true→W.ExcT K (cl c)∧W.hasDictIn K (cl c)=true∧W.findIn K (.ref (cl c)) f=some none):b08 K cl (b6O K f) (a2u xt f):=by
 intro x d z H F Q s hx h q
 unfold a2u at h
 split at h
 ·rename_i c g d
  split at h
  ·rename_i hc
   obtain⟨hc,rfl⟩:=hc
   cases h
   obtain⟨h1,h2,h3⟩:=hf c hc
   rcases hx with hx | ⟨_,_,_,_,e,_⟩
   ·simp only[Rp]at hx
    obtain⟨a,dx,y,rfl,ha,hd,r⟩:=hx
    exact⟨a,_,dx,y,rfl,s _ _ ha,s _ _ hd,h1,h2,h3,q y H F (.refl s) r⟩
   ·cases e
  ·cases h
 ·cases h
theorem a4f{xt:Str→Bool}{f:Str}{t:TE}{o:ZF}(hf:∀c,xt c=true→W.ExcT K (cl c)∧W.hasDictIn K (cl c)=true∧W.findIn K (.ref (cl c)) f=some none)(ho:u5 K cl E t o):u5 K cl E (b42 K t f) (eU (a2u xt f) o):=a8A (b5x hf) ho
theorem b1C{C:Addr}{f:Str}{vs:List V}{H:Hp}{Q:VK}{E:XK}(h:a4H C f vs H Q E):vs.length=2:=by
 obtain⟨a,v,rfl,_⟩:=h
 rfl
theorem a67{N:List Str}{C:Addr}{f:Str}{vs:List V}{H:Hp}{Q:VK}(S:W.ExcS K C f)(h:a4H C f vs H Q E):(sXF K (D2 0) (D2 1) f) { nx:=fun _ H'=>Q .non H',rt:=Q } (start N vs) H:=by
 obtain⟨a,v,rfl,hp,q⟩:=h
 exact⟨v,rfl,.ref a,rfl,a,C,rfl,hp,S,q⟩
end
section
variable {K:W.Frag}{cl:Str→Addr}{E:XK}
noncomputable def b5y(K:W.Frag)(cl:Str→Addr):R2:=fun x y H Q=>a6x K cl false x y H Q∨rEq x y H Q
noncomputable def b5z(K:W.Frag)(cl:Str→Addr):R2:=fun x y H Q=>a6x K cl true x y H Q∨rNe x y H Q
theorem b4a{X:Cx}(hu:X.A.units+41<cLine)(hK:X.K=K:=by rfl):G7 X (compareOp .Eq) (b5y K cl):=by
 intro pins s σ H x y v u Q I rx ry h
 rcases h with h | h
 ·exact a4S hu hK pins s σ H x y v u Q I rx ry h
 ·exact G8 pins s σ H x y v u Q I rx ry h
theorem b4b{X:Cx}(hu:X.A.units+41<cLine)(hK:X.K=K:=by rfl):G7 X (compareOp .NotEq) (b5z K cl):=by
 intro pins s σ H x y v u Q I rx ry h
 rcases h with h | h
 ·exact a4T hu hK pins s σ H x y v u Q I rx ry h
 ·exact a3z pins s σ H x y v u Q I rx ry h
noncomputable def a08(neg:Bool)(d e:D):Option D:=if(T9 d || T9 e)=true then K3 neg d e else u6 neg d e
theorem b5A:OpOk K cl (b5y K cl) (a08 false):=by
 intro x y d e z H F Q s hx hy h q
 unfold a08 at h
 split at h
 ·exact .inl (a1f x y d e z H F Q s hx hy h q)
 ·exact .inr (G9 x y d e z H F Q s hx hy h q)
theorem b5B:OpOk K cl (b5z K cl) (a08 true):=by
 intro x y d e z H F Q s hx hy h q
 unfold a08 at h
 split at h
 ·exact .inl (a1f x y d e z H F Q s hx hy h q)
 ·exact .inr (a31 x y d e z H F Q s hx hy h q)
end
def a4g(js:List Nat)(f:AF)(el:ZF):NF:=fun e=>bnd (f e) fun ds e1=>match ds with
 | [.lst xs]=>if xs.length<64 then(match X6 el (y0 1 js e1) xs with
  | some ks=>if okK ks=true then some (.ok ((a1K (a1M ks xs)).map fun q=>q.2.headD .non) e1)else none
  | none=>none)else none
 | _=>none
section
variable {K:W.Frag}{cl:Str→Addr}{E:XK}
theorem b1D{t:TA}{f:AF}{te:TE}{el:ZF}{js:List Nat}(nd:js.Nodup)(hf:V6 K cl E t f)(he:u5 K cl E te el):RfN K cl E (a9H K t te js) (a4g js f el):=by
 intro σ H Q env F R h
 refine hf σ H _ env F R ((Ct.bnd h a2_).mono fun vs0 H1 ⟨F1,e1,ds0,s1,R1,p1,h1⟩=>?_)
 split at h1
 ·rename_i ds
  split at h1
  ·rename_i hn
   split at h1
   ·rename_i ks hk
    split at h1
    ·rename_i ok
     have hl:=a6F hk
     have ok':ks.Nodup∧∀k∈ks,k.length=(ks.headD []).length:=by simpa [okK]using ok
     obtain⟨v,r0,rfl,pv,pr⟩:=p1.inv
     rw[pr.inv0]
     obtain⟨a,vs,rfl,hF,rv⟩:∃a vs,v=.ref a∧F1 a=some (.lst vs)∧Rps K cl F1 ds vs:=by simpa only[Rp]using pv
     have hvl:ds.length=vs.length:=rv.length
     refine⟨a,vs,rfl,.inl (.of (R1.sub a _ hF)),by omega,fun H2 ext=>?_⟩
     refine⟨fun i ys H'=>∃F',Gr H1 F1 H' F'∧Rps K cl F' ((ks.take i).map fun k=>D.tup (k.map .int)) ys,⟨F1,⟨Same.refl _,fun a o ha=>ext a o (R1.sub a o ha),fun a o ha fa=>⟨ext a o ha,fa⟩⟩,.nil⟩,fun i x ys H' hx ⟨F',g,rk⟩=>?_,fun ys H' hy ⟨F',g,rk⟩=>?_⟩
     ·obtain⟨d,hd,px⟩:=rv.get' hx
      obtain⟨k,e',hki,_,hel⟩:=a4X hk i d hd
      have hi:i<ks.length:=(List.getElem?_eq_some_iff.mp hki).1
      have R2:=R1.gr g
      have Rc:Rel K cl (z9 1 js σ) H' F' (y0 1 js e1):=R2.comp nd
      have n1:NoOw (y0 1 js e1):=a5m
      have Rp':=Rc.put (i:=0) (d:=d) (v:=x) (by unfold y0;simp) (fun ds z=>by unfold y0 at z;simp at z) (Rp.mono g.fz _ _ px)
      refine he ((z9 1 js σ).set 0 (some x)) H' _ _ F' Rp' ?_
      rw[hel]
      intro w H4 F4 f4 R4 hw
      have gr4:Gr H' F' H4 F4:=f4.gr (b1y n1) R4.sub
      refine⟨F4,g.trans gr4,?_⟩
      have et:ks.take (i+1)=ks.take i++[k]:=by
       rw[List.take_add_one,hki]
       rfl
      rw[et,List.map_append]
      exact(rk.mono gr4.fz).append (.one hw)
     ·rw[List.take_of_length_le (by omega)]at rk
      have ne:∀k∈ks,k≠[]:=fun k m=>by
       obtain⟨i,hi,e⟩:=List.mem_iff_getElem.mp m
       obtain⟨k',_,h1,h2,_⟩:=a4X hk i (ds[i]'(by omega)) (List.getElem?_eq_getElem _)
       rw[List.getElem?_eq_getElem hi,e]at h1
       cases h1
       exact h2
      have at_:∀i (hi:i<ks.length),ks.getD i []=ks[i]:=fun i hi=>by rw[List.getD_eq_getElem?_getD,List.getElem?_eq_getElem hi];rfl
      refine⟨ks,b2m g.sub rk ne,fun i j hi hj z=>?_,fun l p hl' hp hs=>?_⟩
      ·have hi:i<ks.length:=by omega
       have hj:j<ks.length:=by omega
       rw[at_ i hi,at_ j hj]
       refine⟨by rw[ok'.2 _ (List.getElem_mem hi),ok'.2 _ (List.getElem_mem hj)],fun e=>z ((List.getElem_inj ok'.1).mp e)⟩
      ·have R2:=R1.gr g
       obtain⟨R3,f3⟩:=R2.newN (o:=.lst (p.map fun i=>vs.getD i .non)) hl'
       have h1:∀b H' F',Frm σ H1 F1 e1 σ H' F' e1→Rel K cl σ H' F' e1→PN K cl ((a1K (a1M ks ds)).map fun q=>q.2.headD .non) σ H1 H' F' e1 b→Q b H':=h1
       refine h1 _ _ F' ((R1.frm g).trans f3) R3 ⟨l,_,rfl,g.dom l hl',i8,R2.sub.free hl',fun j ⟨ds,q⟩ e=>?_,?_⟩
       ·obtain⟨a,ys',e1',hH,_⟩:=R2.mu j ds q
        rw[e]at e1';cases e1'
        rw[hl']at hH;cases hH
       ·have hp':p.Perm (List.range ds.length):=by rw[hvl];exact hp
        have srt:p.map (fun(i:Nat)=>((ks.getD i [],[ds.getD i .non]):Rw0))=a1K (a1M ks ds):=by
         refine a1g ((hp'.map _).trans (a1L _).symm) ?_ (a2o _) ?_
         ·rw[List.pairwise_map];exact hs
         ·rw[List.pairwise_map]
          have nd:p.Nodup:=hp'.nodup_iff.mpr List.nodup_range
          refine List.Pairwise.imp_of_mem ?_ nd
          intro a b ma mb hab e
          have ha:=List.mem_range.mp (hp'.mem_iff.mp ma)
          have hb:=List.mem_range.mp (hp'.mem_iff.mp mb)
          have e:ks.getD a []=ks.getD b []:=e
          rw[at_ a (by omega),at_ b (by omega)]at e
          exact hab ((List.getElem_inj ok'.1).mp e)
        rw[← srt,List.map_map]
        exact a6E (rv.mono g.fz) p fun i hi=>List.mem_range.mp (hp'.mem_iff.mp hi)
    ·exact h1.elim
   ·exact h1.elim
  ·exact h1.elim
 ·exact h1.elim
end
def b6P:Sl→Bool
 | .no=>true
 | .fz _=>true
 | _=>false
def okW(r:Nat)(e:DE):Bool:=e.all b6P && (match e[r]? with
 | some .no=>true
 | _=>false)
structure DSt(K:W.Frag)(cl:Str→Addr)(H F:Hp)(B:Addr)(as:List Addr)(dss:List (List D))(H' F':Hp):Prop where
 gr:Gr H F H' F'
 atB:H' B=some (.lst (as.map V.ref))
 unB:F' B=none
 len:dss.length=as.length
 ins:∀(k:Nat) (a:Addr),as[k]? = some a→∃ds zs,dss[k]? = some ds∧H' a=some (.lst zs)∧F' a=none∧Rps K cl F' ds zs
structure Fx(H:Hp)(B:Addr)(as:List Addr):Prop where
 hB:H B=none
 nd:as.Nodup
 nw:∀a∈as,H a=none∧a≠B
section
variable {K:W.Frag}{cl:Str→Addr}{E:XK}{σ:St}{H F H0 F0 H' F' H2 F2:Hp}{env:DE}{B:Addr}{as:List Addr}{dss:List (List D)}{r k:Nat}
theorem DSt.to(s:DSt K cl H0 F0 B as dss H F)(g:Gr H F H2 F2):DSt K cl H0 F0 B as dss H2 F2 :=
 ⟨s.gr.trans g,(g.hid B _ s.atB s.unB).1,(g.hid B _ s.atB s.unB).2,s.len,fun k a h=>by
  obtain⟨ds,zs,h1,h2,h3,h4⟩:=s.ins k a h
  exact⟨ds,zs,h1,(g.hid a _ h2 h3).1,(g.hid a _ h2 h3).2,h4.mono g.fz⟩⟩
theorem DSt.put{j n:Nat}{a:Addr}{ds:List D}{d:D}{v:V}(s:DSt K cl H0 F0 B as dss H F)(fx:Fx H0 B as)(hj:as[j]? = some a)(hd:dss[j]? = some ds)(p:Rp K cl F d v) :
  ∃zs,H a=some (.lst zs)∧F a=none∧ds.length=zs.length∧DSt K cl H0 F0 B as (dss.set j (ds.set n d)) (upd H a (.lst (zs.set n v))) F:=by
 obtain⟨ds',zs,h1,h2,h3,h4⟩:=s.ins j a hj
 rw[hd]at h1;cases h1
 obtain⟨aH,aB⟩:=fx.nw a (List.mem_of_getElem? hj)
 refine⟨zs,h2,h3,h4.length,⟨⟨s.gr.fz,fun b o hb=>?_,fun b o hb fb=>?_⟩,by rw[g5 (Ne.symm aB)];exact s.atB,s.unB,by rw[List.length_set];exact s.len,fun m b hb=>?_⟩⟩
 ·rw[g5 (fun z=>by rw[z,h3]at hb;cases hb)];exact s.gr.sub _ _ hb
 ·rw[g5 (fun z=>by rw[z,aH]at hb;cases hb)];exact s.gr.hid b o hb fb
 ·by_cases z:m=j
  ·subst z
   rw[hj]at hb;cases hb
   exact⟨_,_,List.getElem?_set_self (List.getElem?_eq_some_iff.mp hd).1,i8,h3,h4.set p n⟩
  ·obtain⟨d2,z2,k1,k2,k3,k4⟩:=s.ins m b hb
   have ne:b≠a:=fun e=>z (by
    obtain⟨hm,em⟩:=List.getElem?_eq_some_iff.mp hb
    obtain⟨hj',ej⟩:=List.getElem?_eq_some_iff.mp hj
    exact(List.getElem_inj fx.nd).mp (em.trans (e.trans ej.symm)))
   exact⟨d2,z2,by rw[List.getElem?_set_ne (Ne.symm z)];exact k1,by rw[g5 ne];exact k2,k3,k4⟩
end
end L2
namespace Law
open PySem L2 PyProof.Rows
def M4(i:Nat):Stmt:=PySem.Challenge.pw_cratefit_k60_places_that_are_cut.main.body.getD i (.Pass ⟨0,0,0,0⟩)
abbrev J7:Stmt:=M4 20
abbrev R8:Stmt:=M4 21
abbrev X8:Stmt:=M4 23
abbrev R9:Stmt:=M4 24
abbrev P5:Stmt:=M4 25
abbrev S0:Stmt:=M4 26
abbrev G3:Stmt:=M4 27
abbrev N5:Stmt:=M4 28
abbrev J2:Stmt:=M4 29
abbrev N6:Stmt:=M4 30
abbrev Q6:Stmt:=M4 32
abbrev X9:Stmt:=M4 33
abbrev a0m:Stmt:=M4 34
abbrev a0n:Stmt:=M4 35
abbrev V1:Stmt:=M4 36
abbrev Y0:Stmt:=M4 37
abbrev S3:Stmt:=M4 38
abbrev E9:Stmt:=M4 39
abbrev Y1:Stmt:=M4 40
abbrev J8:Stmt:=M4 41
abbrev S4:Stmt:=M4 42
abbrev K7:Stmt:=M4 43
abbrev V2:Stmt:=M4 44
abbrev Y2:Stmt:=M4 45
abbrev S5:Stmt:=M4 46
abbrev a0o:Stmt:=M4 47
abbrev U0:Stmt:=M4 48
abbrev D0:Stmt:=b2R (M4 17) 0
variable {P:Program}{w:World}{K:PySem.W.Frag}{mg:Str→Option Value}{base:Heap}{c:Str→Addr}
structure Txt(K:PySem.W.Frag)(mg:Str→Option Value)(c:Str→Addr):Prop where
 z_ValueError:mg "ValueError" = none
 z_bool:mg "bool" = none
 z_int:mg "int" = none
 z_isinstance:mg "isinstance" = none
 z_len:mg "len" = none
 z_list:mg "list" = none
 z_max:mg "max" = none
 z_range:mg "range" = none
 z_sorted:mg "sorted" = none
 z_tuple:mg "tuple" = none
 m_BadPacking:mg "BadPacking" = some (.ref (c "BadPacking"))
 m_BadPlan:mg "BadPlan" = some (.ref (c "BadPlan"))
 m_BadSide:mg "BadSide" = some (.ref (c "BadSide"))
 m_BadTurn:mg "BadTurn" = some (.ref (c "BadTurn"))
 m_CrateError:mg "CrateError" = some (.ref (c "CrateError"))
 m_Full:mg "Full" = some (.ref (c "Full"))
 m_Hangs:mg "Hangs" = some (.ref (c "Hangs"))
 m_NoDeed:mg "NoDeed" = some (.ref (c "NoDeed"))
 m_NoDrawing:mg "NoDrawing" = some (.ref (c "NoDrawing"))
 m_NoPicker:mg "NoPicker" = some (.ref (c "NoPicker"))
 m_NoSheet:mg "NoSheet" = some (.ref (c "NoSheet"))
 m_NoText:mg "NoText" = some (.ref (c "NoText"))
 m_NoWare:mg "NoWare" = some (.ref (c "NoWare"))
 m_NoWeighing:mg "NoWeighing" = some (.ref (c "NoWeighing"))
 m_NothingDone:mg "NothingDone" = some (.ref (c "NothingDone"))
 m_Ring:mg "Ring" = some (.ref (c "Ring"))
 m_TooMany:mg "TooMany" = some (.ref (c "TooMany"))
 m_TooWide:mg "TooWide" = some (.ref (c "TooWide"))
 x_BadTurn:PySem.W.excIn K (c "BadTurn") vErr "ValueError.__new__" = true
 t_exc_BadPlan:PySem.W.ExcT K (c "BadPlan")
 t_exc_BadTurn:PySem.W.ExcT K (c "BadTurn")
 hd_BadPlan:PySem.W.hasDictIn K (c "BadPlan")=true
 xn_BadPlan:PySem.W.findIn K (.ref (c "BadPlan")) "why" = some none
 t_any_BadPlan_0:PySem.W.kitAny K (.ref (c "BadPlan")) [.ref (c "BadPacking"),.ref (c "BadSide"),.ref (c "BadTurn"),.ref (c "Full"),.ref (c "Hangs"),.ref (c "NoDeed"),.ref (c "NoDrawing"),.ref (c "NoPicker"),.ref (c "NoSheet")]=some false
 t_any_BadPlan_1:PySem.W.kitAny K (.ref (c "BadPlan")) [.ref (c "NoText"),.ref (c "NoWare"),.ref (c "NoWeighing"),.ref (c "NothingDone"),.ref (c "Ring"),.ref (c "TooMany"),.ref (c "TooWide")]=some false
 t_one_BadPlan_BadPlan:PySem.W.kitOne K (.ref (c "BadPlan")) (.ref (c "BadPlan"))=some true
 t_one_BadPlan_ValueError:PySem.W.kitOne K (.ref (c "BadPlan")) (.type "ValueError")=some true
 t_exo_BadPlan_CrateError:PySem.W.exmOne K (.ref (c "BadPlan")) (.ref (c "CrateError"))=some true
 t_any_BadTurn_0:PySem.W.kitAny K (.ref (c "BadTurn")) [.ref (c "BadPacking"),.ref (c "BadSide"),.ref (c "BadTurn"),.ref (c "Full"),.ref (c "Hangs"),.ref (c "NoDeed"),.ref (c "NoDrawing"),.ref (c "NoPicker"),.ref (c "NoSheet")]=some true
 t_any_BadTurn_1:PySem.W.kitAny K (.ref (c "BadTurn")) [.ref (c "NoText"),.ref (c "NoWare"),.ref (c "NoWeighing"),.ref (c "NothingDone"),.ref (c "Ring"),.ref (c "TooMany"),.ref (c "TooWide")]=some false
 t_one_BadTurn_BadPlan:PySem.W.kitOne K (.ref (c "BadTurn")) (.ref (c "BadPlan"))=some false
 t_one_BadTurn_ValueError:PySem.W.kitOne K (.ref (c "BadTurn")) (.type "ValueError")=some true
 t_exo_BadTurn_CrateError:PySem.W.exmOne K (.ref (c "BadTurn")) (.ref (c "CrateError"))=some true
noncomputable def xT(n:Str)(ns:List Str):Option Bool:=if n = "BadPlan"∧ns=(["BadPacking","BadSide","BadTurn","Full","Hangs","NoDeed","NoDrawing","NoPicker","NoSheet"]:List Str)then some false else if n = "BadPlan"∧ns=(["NoText","NoWare","NoWeighing","NothingDone","Ring","TooMany","TooWide"]:List Str)then some false else if n = "BadTurn"∧ns=(["BadPacking","BadSide","BadTurn","Full","Hangs","NoDeed","NoDrawing","NoPicker","NoSheet"]:List Str)then some true else if n = "BadTurn"∧ns=(["NoText","NoWare","NoWeighing","NothingDone","Ring","TooMany","TooWide"]:List Str)then some false else none
def x1(n m:Str):Option Bool:=if n = "BadPlan"∧m = "BadPlan" then some true else if n = "BadTurn"∧m = "BadPlan" then some false else none
def x2(n:Str)(m:String):Option Bool:=if n = "BadPlan"∧m = "ValueError" then some true else if n = "BadTurn"∧m = "ValueError" then some true else none
theorem b2q(T:Txt K mg c):∀(n:Str) (m:List Str) (b:Bool),xT n m=some b→PySem.W.ExcT K (c n)∧PySem.W.kitAny K (.ref (c n)) (m.map fun m=>.ref (c m))=some b:=by
 intro n m b h
 unfold xT at h
 split at h
 ·rename_i z;obtain⟨rfl,rfl⟩:=z;cases h;exact⟨T.t_exc_BadPlan,T.t_any_BadPlan_0⟩
 split at h
 ·rename_i z;obtain⟨rfl,rfl⟩:=z;cases h;exact⟨T.t_exc_BadPlan,T.t_any_BadPlan_1⟩
 split at h
 ·rename_i z;obtain⟨rfl,rfl⟩:=z;cases h;exact⟨T.t_exc_BadTurn,T.t_any_BadTurn_0⟩
 split at h
 ·rename_i z;obtain⟨rfl,rfl⟩:=z;cases h;exact⟨T.t_exc_BadTurn,T.t_any_BadTurn_1⟩
 cases h
theorem b2r(T:Txt K mg c):∀(n:Str) (m:Str) (b:Bool),x1 n m=some b→PySem.W.ExcT K (c n)∧PySem.W.kitOne K (.ref (c n)) (.ref (c m))=some b:=by
 intro n m b h
 unfold x1 at h
 split at h
 ·rename_i z;obtain⟨rfl,rfl⟩:=z;cases h;exact⟨T.t_exc_BadPlan,T.t_one_BadPlan_BadPlan⟩
 split at h
 ·rename_i z;obtain⟨rfl,rfl⟩:=z;cases h;exact⟨T.t_exc_BadTurn,T.t_one_BadTurn_BadPlan⟩
 cases h
theorem b2s(T:Txt K mg c):∀(n:Str) (m:String) (b:Bool),x2 n m=some b→PySem.W.ExcT K (c n)∧PySem.W.kitOne K (.ref (c n)) (.type m)=some b:=by
 intro n m b h
 unfold x2 at h
 split at h
 ·rename_i z;obtain⟨rfl,rfl⟩:=z;cases h;exact⟨T.t_exc_BadPlan,T.t_one_BadPlan_ValueError⟩
 split at h
 ·rename_i z;obtain⟨rfl,rfl⟩:=z;cases h;exact⟨T.t_exc_BadTurn,T.t_one_BadTurn_ValueError⟩
 cases h
def K8(n:Str):Option Bool:=if n = "BadPlan" then some true else if n = "BadTurn" then some true else none
theorem a3n(T:Txt K mg c):∀n b,K8 n=some b→PySem.W.exmOne K (.ref (c n)) (.ref (c "CrateError"))=some b:=by
 intro n b h
 unfold K8 at h
 split at h
 ·rename_i z;subst z;cases h;exact T.t_exo_BadPlan_CrateError
 split at h
 ·rename_i z;subst z;cases h;exact T.t_exo_BadTurn_CrateError
 cases h
def a0I(n:Str):Bool:=decide (n = "BadPlan")
theorem a0X(T:Txt K mg c):∀n,a0I n=true→PySem.W.ExcT K (c n)∧PySem.W.hasDictIn K (c n)=true∧PySem.W.findIn K (.ref (c n)) "why" = some none:=by
 intro n h
 unfold a0I at h
 simp only[Bool.or_eq_true,decide_eq_true_eq]at h
 rcases h with rfl
 ·exact⟨T.t_exc_BadPlan,T.hd_BadPlan,T.xn_BadPlan⟩
theorem a10:FnScope ["self","why"] ["self","why"] (d9 D0):=⟨rfl,rfl,rfl,by decide +kernel,rfl,by decide +kernel,by decide +kernel⟩
seal PSs PS PE PA PT
theorem a11{f:Addr}{fd:FuncData}(F:Fun K "__init__" "BadPlan.__init__" D0 f fd)(S:PySem.W.ExcS K (c "BadPlan") "why"):FnOk P w K mg base (y8 P w) 3 f fd ["self","why"] (a4H (c "BadPlan") "why") :=
 F.okE a10 (fun vs H Q E h=>b1C h) fun cdv A outer s H vs Q E hr h=>⟨_,g8 (b56 (pv 0) (pv 1) rfl),a67 S h⟩
def a1j:SF:=(j0 (a2g (eB gGe (eV 1) (eC (.int 0))) (eB gLt (eV 1) (B5 v5 0))))
noncomputable def A1:List D→Option R1:=fD 2 2 a1j
theorem a4h:FnScope ["wares","k"] ["wares","k"] (d9 J7):=⟨rfl,rfl,rfl,by decide +kernel,rfl,by decide +kernel,by decide +kernel⟩
theorem a4i{f:Addr}{fd:FuncData}(F:Fun K "is_number_of" "is_number_of" J7 f fd)(T:Txt K mg c)  : FnOk P w K mg base (y8 P w) 3 f fd ["wares","k"] (i9 K c A1) :=
 F.okD (k:=2) a4h fun cdv A outer s H E hr=>⟨_,(g8 (j5 (a15 (D9 a8g (pv 1) a9 (l4 _)) (a14 (D9 a1p (pv 1) (l3 (k9 (K:=K)) rfl T.z_len C0 (a6 (pv 0) d5)) (l4 _)))))),(j8 (a2h (b0 a8B a8 b9) (b0 a1y a8 (E8 C1))))⟩
def a8T:SF:=(g0 (a05 (eV 0) (C7 [(h7 2),(h7 3),(h7 4)])) (g0 (n8 (B4 (bZ (eV 1))) (j0 (eT (aC (eV 2) (aC (eV 3) aN)))) r9) (g0 (n8 (B4 (bZ (eV 4))) (a6o "BadTurn" (aC (eC (.str "a ware that may not be turned has no sides turned")) aN)) r9) (j0 (eT (aC (eV 3) (aC (eV 2) aN)))))))
noncomputable def F5:List D→Option R1:=fD 5 2 a8T
theorem Z3:FnScope ["ware","lie","w","h","turns"] ["ware","lie"] (d9 R8):=⟨rfl,rfl,rfl,by decide +kernel,rfl,by decide +kernel,by decide +kernel⟩
theorem a68{f:Addr}{fd:FuncData}(F:Fun K "sides_of" "sides_of" R8 f fd)(T:Txt K mg c)  : FnOk P w K mg base (y8 P w) 3 f fd ["ware","lie"] (i9 K c F5) :=
 F.okD (k:=2) Z3 fun cdv A outer s H E hr=>⟨_,(d7 (M8 (pv 0) (P4 (K:=K) (n:=3) rfl (u7 (m5 (i:=2) Z3.nd rfl (Or.inl rfl)) (u7 (m5 (i:=3) Z3.nd rfl (Or.inl rfl)) (u7 (m5 (i:=4) Z3.nd rfl (Or.inl rfl)) P0))))) (d7 (t4 (D5 (A3 (pv 1))) (g8 (j5 (i7 (a6 (pv 2) (a6 (pv 3) d5))))) k6) (d7 (t4 (D5 (A3 (pv 4))) (g8 (b0R X3 T.x_BadTurn rfl T.m_BadTurn (a6 w6 d5))) k6) (g8 (j5 (i7 (a6 (pv 3) (a6 (pv 2) d5)))))))),(g9 (a2k a8 (V0 (A5 (n6 (k:=5) (by decide)) (A5 (n6 (k:=5) (by decide)) (A5 (n6 (k:=5) (by decide)) U9))) rfl)) (g9 (m3 (C5 (B8 a8)) (j8 (l9 (a7 a8 (a7 a8 g7)))) u3) (g9 (m3 (C5 (B8 a8)) (b09 (a7 b9 g7)) u3) (j8 (l9 (a7 a8 (a7 a8 g7)))))))⟩
def b1E:SF:=(j0 (eB (W9 false) (eB d6 (eV 0) (eC (.int 0))) (eT (aC (eC (.str "across")) (aC (eC (.str "up")) aN)))))
noncomputable def u9:List D→Option R1:=fD 1 1 b1E
theorem b0d:FnScope ["plan"] ["plan"] (d9 X8):=⟨rfl,rfl,rfl,by decide +kernel,rfl,by decide +kernel,by decide +kernel⟩
theorem b0e{f:Addr}{fd:FuncData}(F:Fun K "is_cut" "is_cut" X8 f fd)(T:Txt K mg c)  : FnOk P w K mg base (y8 P w) 3 f fd ["plan"] (i9 K c u9) :=
 F.okD (k:=2) b0d fun cdv A outer s H E hr=>⟨_,(g8 (j5 (D9 (a9x (K:=K)) (g4 (f9 (K:=K)) (pv 0) a9 (fun _ _=>rfl)) (i7 (a6 w6 (a6 w6 d5))) (by with_unfolding_all rfl)))),(j8 (b0 a8O (b0 g6 a8 b9) (l9 (a7 b9 (a7 b9 g7)))))⟩
noncomputable def a4j:SF:=(j0 (eIf (bZ (eB (u6 false) (eB d6 (eV 1) (eC (.int 0))) (eC (.str "across")))) (eB w9 (eB d6 (eV 0) (eC (.int 2))) (eB d6 (eV 0) (eC (.int 0)))) (eB w9 (eB d6 (eV 0) (eC (.int 3))) (eB d6 (eV 0) (eC (.int 1))))))
noncomputable def B2:List D→Option R1:=fD 2 2 a4j
theorem a69:FnScope ["spot","plan"] ["spot","plan"] (d9 R9):=⟨rfl,rfl,rfl,by decide +kernel,rfl,by decide +kernel,by decide +kernel⟩
theorem a6_{f:Addr}{fd:FuncData}(F:Fun K "cut_side" "cut_side" R9 f fd)(T:Txt K mg c)  : FnOk P w K mg base (y8 P w) 3 f fd ["spot","plan"] (i9 K c B2) :=
 F.okD (k:=2) a69 fun cdv A outer s H E hr=>⟨_,(g8 (j5 (b0z (l6 G8 (g4 (f9 (K:=K)) (pv 1) a9 (fun _ _=>rfl)) w6 (l4 _)) (i6 F7 (g4 (f9 (K:=K)) (pv 0) a9 (fun _ _=>rfl)) (g4 (f9 (K:=K)) (pv 0) a9 (fun _ _=>rfl))) (i6 F7 (g4 (f9 (K:=K)) (pv 0) a9 (fun _ _=>rfl)) (g4 (f9 (K:=K)) (pv 0) a9 (fun _ _=>rfl)))))),(j8 (b57 (v8 (b0 G9 (b0 g6 a8 b9) b9)) (b0 F8 (b0 g6 a8 b9) (b0 g6 a8 b9)) (b0 F8 (b0 g6 a8 b9) (b0 g6 a8 b9))))⟩
noncomputable def a22:SF:=(g0 (a05 (eV 0) (C7 [(h7 2),(h7 3),(h7 4),(h7 5)])) (g0 (m9 6 (eB d6 (eV 1) (eC (.int 1)))) (g0 (n8 (bZ (eB (u6 false) (eB d6 (eV 1) (eC (.int 0))) (eC (.str "across")))) (j0 (eT (aC (eT (aC (eV 2) (aC (eV 3) (aC (eB w4 (eV 2) (eV 6)) (aC (eV 5) aN))))) (aC (eT (aC (eB w4 (eV 2) (eV 6)) (aC (eV 3) (aC (eV 4) (aC (eV 5) aN))))) aN)))) r9) (j0 (eT (aC (eT (aC (eV 2) (aC (eV 3) (aC (eV 4) (aC (eB w4 (eV 3) (eV 6)) aN))))) (aC (eT (aC (eV 2) (aC (eB w4 (eV 3) (eV 6)) (aC (eV 4) (aC (eV 5) aN))))) aN)))))))
noncomputable def F6:List D→Option R1:=fD 7 2 a22
theorem N7:FnScope ["spot","plan","x","y","x2","y2","at"] ["spot","plan"] (d9 P5):=⟨rfl,rfl,rfl,by decide +kernel,rfl,by decide +kernel,by decide +kernel⟩
theorem a6I{f:Addr}{fd:FuncData}(F:Fun K "cut_spots" "cut_spots" P5 f fd)(T:Txt K mg c)  : FnOk P w K mg base (y8 P w) 3 f fd ["spot","plan"] (i9 K c F6) :=
 F.okD (k:=2) N7 fun cdv A outer s H E hr=>⟨_,(d7 (M8 (pv 0) (P4 (K:=K) (n:=4) rfl (u7 (m5 (i:=2) N7.nd rfl (Or.inl rfl)) (u7 (m5 (i:=3) N7.nd rfl (Or.inl rfl)) (u7 (m5 (i:=4) N7.nd rfl (Or.inl rfl)) (u7 (m5 (i:=5) N7.nd rfl (Or.inl rfl)) P0)))))) (d7 (k7 (i:=6) N7.nd rfl (Or.inl rfl) (g4 (f9 (K:=K)) (pv 1) a9 (fun _ _=>rfl))) (d7 (t4 (l6 G8 (g4 (f9 (K:=K)) (pv 1) a9 (fun _ _=>rfl)) w6 (l4 _)) (g8 (j5 (i7 (a6 (i7 (a6 (pv 2) (a6 (pv 3) (a6 (i6 A8 (pv 2) (pv 6)) (a6 (pv 5) d5))))) (a6 (i7 (a6 (i6 A8 (pv 2) (pv 6)) (a6 (pv 3) (a6 (pv 4) (a6 (pv 5) d5))))) d5))))) k6) (g8 (j5 (i7 (a6 (i7 (a6 (pv 2) (a6 (pv 3) (a6 (pv 4) (a6 (i6 A8 (pv 3) (pv 6)) d5))))) (a6 (i7 (a6 (pv 2) (a6 (i6 A8 (pv 3) (pv 6)) (a6 (pv 4) (a6 (pv 5) d5))))) d5)))))))),(g9 (a2k a8 (V0 (A5 (n6 (k:=7) (by decide)) (A5 (n6 (k:=7) (by decide)) (A5 (n6 (k:=7) (by decide)) (A5 (n6 (k:=7) (by decide)) U9)))) rfl)) (g9 (x9 (b0 g6 a8 b9)) (g9 (m3 (v8 (b0 G9 (b0 g6 a8 b9) b9)) (j8 (l9 (a7 (l9 (a7 a8 (a7 a8 (a7 (b0 A9 a8 a8) (a7 a8 g7))))) (a7 (l9 (a7 (b0 A9 a8 a8) (a7 a8 (a7 a8 (a7 a8 g7))))) g7)))) u3) (j8 (l9 (a7 (l9 (a7 a8 (a7 a8 (a7 a8 (a7 (b0 A9 a8 a8) g7))))) (a7 (l9 (a7 a8 (a7 (b0 A9 a8 a8) (a7 a8 (a7 a8 g7))))) g7)))))))⟩
noncomputable def a8U:SF:=(g0 (w8 2 (eL aN)) (g0 (w8 3 (eL (aC (eT (aC (eT (aC (eC (.int 0)) (aC (eC (.int 0)) (aC (eB d6 (eV 0) (eC (.int 0))) (aC (eB d6 (eV 0) (eC (.int 1))) aN))))) (aC (eV 1) aN))) aN))) (g0 (D7 (bZ (eB gGt (B5 v5 3) (eC (.int 0)))) (g0 (a05 (a3f 3) (C7 [(h7 4),(h7 5)])) (g0 (E4 2 (eT (aC (eV 4) (aC (eV 5) aN)))) (n8 (bZ (h9 u9 (aC (eV 5) aN))) (g0 (a05 (h9 F6 (aC (eV 4) (aC (eV 5) aN))) (C7 [(h7 6),(h7 7)])) (g0 (E4 3 (eT (aC (eV 7) (aC (eB d6 (eV 5) (eC (.int 3))) aN)))) (E4 3 (eT (aC (eV 6) (aC (eB d6 (eV 5) (eC (.int 2))) aN)))))) r9))) 1000000) (Z1 2))))
noncomputable def B9:List D→Option R1:=fD 8 2 a8U
theorem M0:FnScope ["box","plan","nodes","waiting","spot","part","first","second"] ["box","plan"] (d9 S0):=⟨rfl,rfl,rfl,by decide +kernel,rfl,by decide +kernel,by decide +kernel⟩
theorem a7a{f:Addr}{fd:FuncData}(F:Fun K "nodes_of" "nodes_of" S0 f fd)(T:Txt K mg c)(G_is_cut:Own P w K mg base 3 "is_cut" ["plan"] (i9 K c u9))(G_cut_spots:Own P w K mg base 3 "cut_spots" ["spot","plan"] (i9 K c F6)):FnOk P w K mg base (y8 P w) 5 f fd ["box","plan"] (i9 K c B9) :=
 F.okD (k:=4) M0 fun cdv A outer s H E hr=>⟨_,(d7 (k7 (i:=2) M0.nd rfl (Or.inl rfl) (T4 d5)) (d7 (k7 (i:=3) M0.nd rfl (Or.inl rfl) (T4 (a6 (i7 (a6 (i7 (a6 a9 (a6 a9 (a6 (g4 (f9 (K:=K)) (pv 0) a9 (fun _ _=>rfl)) (a6 (g4 (f9 (K:=K)) (pv 0) a9 (fun _ _=>rfl)) d5))))) (a6 (pv 1) d5))) d5))) (d7 (a51 PassesOwn.leaving (l6 a3A (l3 (k9 (K:=K)) rfl T.z_len C0 (a6 (pv 3) d5)) a9 (l4 _)) (d7 (M8 (a7x (K:=K) PySem.F.plainAttrs_list PySem.F.slot_list_pop PySem.F.type_list_pop a9q (pv 3)) (P4 (K:=K) (n:=2) rfl (u7 (m5 (i:=4) M0.nd rfl (Or.inl rfl)) (u7 (m5 (i:=5) M0.nd rfl (Or.inl rfl)) P0)))) (d7 (J6 (M9 (K:=K) PySem.F.plainAttrs_list PySem.F.slot_list_append PySem.F.type_list_append C9 (pv 2) (a6 (i7 (a6 (pv 4) (a6 (pv 5) d5))) d5))) (g8 (t4 (A3 (m8 G_is_cut hr (by decide) t6 (a6 (pv 5) d5))) (d7 (M8 (m8 G_cut_spots hr (by decide) t6 (a6 (pv 4) (a6 (pv 5) d5))) (P4 (K:=K) (n:=2) rfl (u7 (m5 (i:=6) M0.nd rfl (Or.inl rfl)) (u7 (m5 (i:=7) M0.nd rfl (Or.inl rfl)) P0)))) (d7 (J6 (M9 (K:=K) PySem.F.plainAttrs_list PySem.F.slot_list_append PySem.F.type_list_append C9 (pv 3) (a6 (i7 (a6 (pv 7) (a6 (g4 (f9 (K:=K)) (pv 5) a9 (fun _ _=>rfl)) d5))) d5))) (g8 (J6 (M9 (K:=K) PySem.F.plainAttrs_list PySem.F.slot_list_append PySem.F.type_list_append C9 (pv 3) (a6 (i7 (a6 (pv 6) (a6 (g4 (f9 (K:=K)) (pv 5) a9 (fun _ _=>rfl)) d5))) d5)))))) k6))))) (g8 (j5 (pv 2)))))),(g9 (G1 (a03 g7)) (g9 (G1 (a03 (a7 (l9 (a7 (l9 (a7 b9 (a7 b9 (a7 (b0 g6 a8 b9) (a7 (b0 g6 a8 b9) g7))))) (a7 a8 g7))) g7))) (g9 (a6q (v8 (b0 a30 (E8 C1) b9)) (g9 (a2k a90 (V0 (A5 (n6 (k:=8) (by decide)) (A5 (n6 (k:=8) (by decide)) U9)) rfl)) (g9 (O5 (l9 (a7 a8 (a7 a8 g7)))) (m3 (B8 (r6 (a7 a8 g7))) (g9 (a2k (r6 (a7 a8 (a7 a8 g7))) (V0 (A5 (n6 (k:=8) (by decide)) (A5 (n6 (k:=8) (by decide)) U9)) rfl)) (g9 (O5 (l9 (a7 a8 (a7 (b0 g6 a8 b9) g7)))) (O5 (l9 (a7 a8 (a7 (b0 g6 a8 b9) g7)))))) u3)))) a4M)))⟩
noncomputable def a4k:SF:=(g0 (m9 4 (eB d6 (eV 2) (eC (.int 1)))) (g0 (m9 5 (eB d6 (eV 2) (eC (.int 2)))) (g0 (n8 (S7 (B4 (bZ (h9 A1 (aC (eV 0) (aC (eV 4) aN))))) (S7 (bZ (a8P (eV 4) 3)) (Z9 (bZ (eV 5)) (B4 (bZ (eB d6 (t5 k8 0 (eV 4)) (eC (.int 2)))))))) (j0 (eC (.bl false))) r9) (j0 (eB (K3 false) (Z0 F5 (aC (t5 k8 0 (eV 4)) (aC (eV 5) aN))) (eT (aC (eB w9 (eB d6 (eV 1) (eC (.int 2))) (eB d6 (eV 1) (eC (.int 0)))) (aC (eB w9 (eB d6 (eV 1) (eC (.int 3))) (eB d6 (eV 1) (eC (.int 1)))) aN))))))))
noncomputable def u4:List D→Option R1:=fD 6 4 a4k
theorem U4:FnScope ["wares","spot","leaf","stood","k","lie"] ["wares","spot","leaf","stood"] (d9 G3):=⟨rfl,rfl,rfl,by decide +kernel,rfl,by decide +kernel,by decide +kernel⟩
theorem a3o{f:Addr}{fd:FuncData}(F:Fun K "is_right_ware" "is_right_ware" G3 f fd)(T:Txt K mg c)(G_is_number_of:Own P w K mg base 3 "is_number_of" ["wares","k"] (i9 K c A1))(G_sides_of:Own P w K mg base 3 "sides_of" ["ware","lie"] (i9 K c F5)):FnOk P w K mg base (y8 P w) 5 f fd ["wares","spot","leaf","stood"] (i9 K c u4) :=
 F.okD (k:=4) U4 fun cdv A outer s H E hr=>⟨_,(d7 (k7 (i:=4) U4.nd rfl (Or.inl rfl) (g4 (f9 (K:=K)) (pv 2) a9 (fun _ _=>rfl))) (d7 (k7 (i:=5) U4.nd rfl (Or.inl rfl) (g4 (f9 (K:=K)) (pv 2) a9 (fun _ _=>rfl))) (d7 (t4 (PW.pt (V4 (D5 (A3 (m8 G_is_number_of hr (by decide) t6 (a6 (pv 0) (a6 (pv 4) d5))))) (V4 (l6 (b5s (Nat.lt_of_le_of_lt (Nat.add_le_add_left (by decide:1≤41) _) (a1H hr))) (pv 4) (pv 3) (by with_unfolding_all rfl)) (a0p (PW.pt (a13 (A3 (pv 5)) (a2C (D5 (A3 (g4 (f9 (K:=K)) (g4 (l5 (K:=K)) (pv 0) (pv 4) (fun _ _=>rfl)) a9 (fun _ _=>rfl))))))))))) (g8 (j5 Y7)) k6) (g8 (j5 (D9 (a4S (K:=K) (cl:=c) (a1H hr)) (m8 G_sides_of hr (by decide) (XAcc.passes X3) (a6 (g4 (l5 (K:=K)) (pv 0) (pv 4) (fun _ _=>rfl)) (a6 (pv 5) d5))) (i7 (a6 (i6 F7 (g4 (f9 (K:=K)) (pv 1) a9 (fun _ _=>rfl)) (g4 (f9 (K:=K)) (pv 1) a9 (fun _ _=>rfl))) (a6 (i6 F7 (g4 (f9 (K:=K)) (pv 1) a9 (fun _ _=>rfl)) (g4 (f9 (K:=K)) (pv 1) a9 (fun _ _=>rfl))) d5))) (l4 _))))))),(g9 (x9 (b0 g6 a8 b9)) (g9 (x9 (b0 g6 a8 b9)) (g9 (m3 (Q4 (C5 (B8 (r6 (a7 a8 (a7 a8 g7))))) (Q4 (v8 (b5u a8)) (a1c (B8 a8) (C5 (B8 (b0 g6 (t9 u0 a8) b9)))))) (j8 b9) u3) (j8 (b0 a1f (a2H (a7 (t9 u0 a8) (a7 a8 g7))) (l9 (a7 (b0 F8 (b0 g6 a8 b9) (b0 g6 a8 b9)) (a7 (b0 F8 (b0 g6 a8 b9) (b0 g6 a8 b9)) g7))))))))⟩
noncomputable def a6J:SF:=(g0 (a4d 3 a4c) (g0 (W0 (h9 B9 (aC (eV 0) (aC (eV 2) aN)))  (C7 [(h7 4),(h7 5)]) (g0 (n8 (Z9 (bZ (h9 u9 (aC (eV 5) aN))) (S7 (bZ (eB gLt (eB d6 (eV 5) (eC (.int 1))) (eC (.int 1)))) (bZ (eB gGe (eB d6 (eV 5) (eC (.int 1))) (h9 B2 (aC (eV 4) (aC (eV 5) aN))))))) (j0 (eT (aC (eC (.str "cut")) (aC (eB d6 (eV 5) (eC (.int 1))) aN)))) r9) (n8 (bZ (eB (u6 false) (eB d6 (eV 5) (eC (.int 0))) (eC (.str "ware")))) (g0 (n8 (a1J (B4 (bZ (Z0 u4 (aC (eV 1) (aC (eV 4) (aC (eV 5) (aC (eV 3) aN)))))))) (j0 (eT (aC (eC (.str "ware")) (aC (eB d6 (eV 5) (eC (.int 1))) aN)))) r9) (a5V 3 (eB d6 (eV 5) (eC (.int 1))) (eC (.bl true)))) r9))) (g0 (R7 W1 (aC (B5 v5 1) aN) (h7 6) (n8 (bZ (a8Q (eV 6) 3)) (j0 (eT (aC (eC (.str "lacks")) (aC (eV 6) aN)))) r9)) (j0 (eC .non)))))
noncomputable def K4:List D→Option R1:=fD 7 3 a6J
theorem O7:FnScope ["box","wares","plan","stood","spot","part","k"] ["box","wares","plan"] (d9 N5):=⟨rfl,rfl,rfl,by decide +kernel,rfl,by decide +kernel,by decide +kernel⟩
theorem a5I{f:Addr}{fd:FuncData}(F:Fun K "plan_fault" "plan_fault" N5 f fd)(T:Txt K mg c)(G_nodes_of:Own P w K mg base 5 "nodes_of" ["box","plan"] (i9 K c B9))(G_cut_side:Own P w K mg base 3 "cut_side" ["spot","plan"] (i9 K c B2))(G_is_cut:Own P w K mg base 3 "is_cut" ["plan"] (i9 K c u9))(G_is_right_ware:Own P w K mg base 5 "is_right_ware" ["wares","spot","leaf","stood"] (i9 K c u4)):FnOk P w K mg base (y8 P w) 7 f fd ["box","wares","plan"] (i9 K c K4) :=
 F.okD (k:=6) O7 fun cdv A outer s H E hr=>⟨_,(d7 (k7 (i:=3) O7.nd rfl (Or.inl rfl) b04) (d7 (Q0 PassesOwn.leaving rfl (U7 (m8 G_nodes_of hr (by decide) t6 (a6 (pv 0) (a6 (pv 2) d5)))) (P4 (K:=K) (n:=2) rfl (u7 (m5 (i:=4) O7.nd rfl (Or.inl rfl)) (u7 (m5 (i:=5) O7.nd rfl (Or.inl rfl)) P0))) (d7 (t4 (PW.pt (a13 (A3 (m8 G_is_cut hr (by decide) t6 (a6 (pv 5) d5))) (a2C (PW.pt (V4 (l6 a1p (g4 (f9 (K:=K)) (pv 5) a9 (fun _ _=>rfl)) a9 (l4 _)) (a0p (l6 a8g (g4 (f9 (K:=K)) (pv 5) a9 (fun _ _=>rfl)) (m8 G_cut_side hr (by decide) t6 (a6 (pv 4) (a6 (pv 5) d5))) (l4 _)))))))) (g8 (j5 (i7 (a6 w6 (a6 (g4 (f9 (K:=K)) (pv 5) a9 (fun _ _=>rfl)) d5))))) k6) (g8 (t4 (l6 G8 (g4 (f9 (K:=K)) (pv 5) a9 (fun _ _=>rfl)) w6 (l4 _)) (d7 (t4 (D5 (A3 (m8 G_is_right_ware hr (by decide) (XAcc.passes X3) (a6 (pv 1) (a6 (pv 4) (a6 (pv 5) (a6 (pv 3) d5))))))) (g8 (j5 (i7 (a6 w6 (a6 (g4 (f9 (K:=K)) (pv 5) a9 (fun _ _=>rfl)) d5))))) k6) (g8 (b23 (Nat.lt_of_le_of_lt (Nat.add_le_add_left (by decide:1≤41) _) (a1H hr)) (pv 3) (g4 (f9 (K:=K)) (pv 5) a9 (fun _ _=>rfl)) Y7 rfl))) k6)))) (d7 (Q0 PassesOwn.leaving rfl (Z5 rfl T.z_range (a6 (l3 (k9 (K:=K)) rfl T.z_len C0 (a6 (pv 1) d5)) d5)) (m5 (i:=6) O7.nd rfl (Or.inl rfl)) (g8 (t4 (l6 (b5t (Nat.lt_of_le_of_lt (Nat.add_le_add_left (by decide:1≤41) _) (a1H hr))) (pv 6) (pv 3) (by with_unfolding_all rfl)) (g8 (j5 (i7 (a6 w6 (a6 (pv 6) d5))))) k6))) (g8 (j5 O4))))),(g9 (b38 b37) (g9 (a9M (r6 (a7 a8 (a7 a8 g7))) (V0 (A5 (n6 (k:=7) (by decide)) (A5 (n6 (k:=7) (by decide)) U9)) rfl) (g9 (m3 (a1c (B8 (r6 (a7 a8 g7))) (Q4 (v8 (b0 a1y (b0 g6 a8 b9) b9)) (v8 (b0 a8B (b0 g6 a8 b9) (r6 (a7 a8 (a7 a8 g7))))))) (j8 (l9 (a7 b9 (a7 (b0 g6 a8 b9) g7)))) u3) (m3 (v8 (b0 G9 (b0 g6 a8 b9) b9)) (g9 (m3 (a6B (C5 (B8 (a2H (a7 a8 (a7 a8 (a7 a8 (a7 a8 g7)))))))) (j8 (l9 (a7 b9 (a7 (b0 g6 a8 b9) g7)))) u3) (b36 (b0 g6 a8 b9) b9)) u3))) (g9 (a0x (a7 (E8 C1) g7) (n6 (k:=7) (by decide)) (m3 (v8 (b5v a8)) (j8 (l9 (a7 b9 (a7 a8 g7)))) u3)) (j8 b9))))⟩
noncomputable def a7b:SF:=(a8D (a2I 2 [] (h9 B9 (aC (eV 0) (aC (eV 1) aN))) (C7 [(h7 0),(h7 1)]) (B4 (bZ (h9 u9 (aC (eV 1) aN)))) (eT (aC (eV 0) (aC (eV 1) aN)))))
noncomputable def D3:List D→Option R1:=fD 2 2 a7b
theorem a6K:FnScope ["box","plan"] ["box","plan"] (d9 J2):=⟨rfl,rfl,rfl,by decide +kernel,rfl,by decide +kernel,by decide +kernel⟩
theorem a6L{f:Addr}{fd:FuncData}(F:Fun K "pieces_of" "pieces_of" J2 f fd)(T:Txt K mg c)(G_is_cut:Own P w K mg base 3 "is_cut" ["plan"] (i9 K c u9))(G_nodes_of:Own P w K mg base 5 "nodes_of" ["box","plan"] (i9 K c B9)):FnOk P w K mg base (y8 P w) 7 f fd ["box","plan"] (i9 K c D3) :=
 F.okD (k:=6) a6K fun cdv A outer s H E hr=>⟨_,(g8 (j5 (b2U (Nc:=["spot","part"]) (k:=2) (js:=[]) rfl ⟨by decide +kernel,rfl,by decide +kernel,(by change ∀y∈Scope.names _,y.2=NameKind.free→(d9 J2).names.lookup y.1=some .cell∨(d9 J2).names.lookup y.1=some .free;decide +kernel),by decide +kernel,rfl,rfl,by decide +kernel⟩ (U7 (m8 G_nodes_of hr (by decide) t6 (a6 (pv 0) (a6 (pv 1) d5)))) (fun _ _ _ _ _=>(P4 (K:=K) (n:=2) rfl (u7 (m5 (i:=0) (by show List.Nodup [("spot" : Str),("part" : Str)];decide +kernel) rfl (Or.inl rfl)) (u7 (m5 (i:=1) (by show List.Nodup [("spot" : Str),("part" : Str)];decide +kernel) rfl (Or.inl rfl)) P0)))) (fun _ _ _ _ _=>(b4T (D5 (A3 (m8 G_is_cut hr (by decide) t6 (a6 (pv 1) d5)))))) (fun _ _ _ _ _=>(i7 (a6 (pv 0) (a6 (pv 1) d5))))))),(b28 (b3b (by decide) (r6 (a7 a8 (a7 a8 g7))) (V0 (A5 (n6 (k:=2) (by decide)) (A5 (n6 (k:=2) (by decide)) U9)) rfl) (C5 (B8 (r6 (a7 a8 g7)))) (l9 (a7 a8 (a7 a8 g7)))))⟩
noncomputable def a6M:SF:=(g0 (a33 3 K4 (aC (eV 0) (aC (eV 1) (aC (eV 2) aN)))) (g0 (n8 (bZ (eB (J9 true) (eV 3) (eC .non))) (a1i "BadPlan" "why" (aC (eV 3) aN)) r9) (g0 (w8 4 (nB a3b (zN (eL (aC (eC .non) aN))) (B5 v5 1))) (g0 (W0 (h9 D3 (aC (eV 0) (aC (eV 2) aN)))  (C7 [(h7 5),(h7 6)]) (n8 (bZ (eB (u6 false) (eB d6 (eV 6) (eC (.int 0))) (eC (.str "ware")))) (a04 4 (eB d6 (eV 6) (eC (.int 1))) (eT (aC (eB d6 (eV 5) (eC (.int 0))) (aC (eB d6 (eV 5) (eC (.int 1))) (aC (eB d6 (eV 6) (eC (.int 2))) aN))))) r9)) (Z1 4)))))
noncomputable def A2:List D→Option R1:=fD 7 3 a6M
theorem O8:FnScope ["box","wares","plan","why","places","spot","leaf"] ["box","wares","plan"] (d9 N6):=⟨rfl,rfl,rfl,by decide +kernel,rfl,by decide +kernel,by decide +kernel⟩
theorem a5J{f:Addr}{fd:FuncData}(F:Fun K "cut_places" "cut_places" N6 f fd)(T:Txt K mg c)(G_plan_fault:Own P w K mg base 7 "plan_fault" ["box","wares","plan"] (i9 K c K4))(G_pieces_of:Own P w K mg base 7 "pieces_of" ["box","plan"] (i9 K c D3))(XI_BadPlan:b1B P w K mg base 3 "BadPlan" (c "BadPlan") ["self","why"] "why"):FnOk P w K mg base (y8 P w) 9 f fd ["box","wares","plan"] (i9 K c A2) :=
 F.okD (k:=8) O8 fun cdv A outer s H E hr=>⟨_,(d7 (k7 (i:=3) O8.nd rfl (Or.inl rfl) (m8 G_plan_fault hr (by decide) (XAcc.passes X3) (a6 (pv 0) (a6 (pv 1) (a6 (pv 2) d5))))) (d7 (t4 (l6 a4x (pv 3) O4 (l4 _)) (g8 (b0b X3 XI_BadPlan hr (by decide) rfl (a6 (pv 3) d5))) k6) (d7 (k7 (i:=4) O8.nd rfl (Or.inl rfl) (i6 b4R (T4 (a6 O4 d5)) (l3 (k9 (K:=K)) rfl T.z_len C0 (a6 (pv 1) d5)))) (d7 (Q0 PassesOwn.leaving rfl (U7 (m8 G_pieces_of hr (by decide) t6 (a6 (pv 0) (a6 (pv 2) d5)))) (P4 (K:=K) (n:=2) rfl (u7 (m5 (i:=5) O8.nd rfl (Or.inl rfl)) (u7 (m5 (i:=6) O8.nd rfl (Or.inl rfl)) P0))) (g8 (t4 (l6 G8 (g4 (f9 (K:=K)) (pv 6) a9 (fun _ _=>rfl)) w6 (l4 _)) (g8 (M8 (i7 (a6 (g4 (f9 (K:=K)) (pv 5) a9 (fun _ _=>rfl)) (a6 (g4 (f9 (K:=K)) (pv 5) a9 (fun _ _=>rfl)) (a6 (g4 (f9 (K:=K)) (pv 6) a9 (fun _ _=>rfl)) d5)))) (a09 (pv 4) (g4 (f9 (K:=K)) (pv 6) a9 (fun _ _=>rfl)) X2))) k6))) (g8 (j5 (pv 4))))))),(g9 (b29 (a7 a8 (a7 a8 (a7 a8 g7)))) (g9 (m3 (v8 (b0 a4L a8 b9)) (b0c (a7 a8 g7)) u3) (g9 (G1 (b58 b5b (b2b (a03 (a7 b9 g7))) (E8 C1))) (g9 (a9M (r6 (a7 a8 (a7 a8 g7))) (V0 (A5 (n6 (k:=7) (by decide)) (A5 (n6 (k:=7) (by decide)) U9)) rfl) (m3 (v8 (b0 G9 (b0 g6 a8 b9) b9)) (a34 (l9 (a7 (b0 g6 a8 b9) (a7 (b0 g6 a8 b9) (a7 (b0 g6 a8 b9) g7)))) (b0 g6 a8 b9)) u3)) a4M))))⟩
def a5t:SF:=(j0 (a2g (a0g 0 "int") (a4J (a0g 0 "bool"))))
noncomputable def D1:List D→Option R1:=fD 1 1 a5t
theorem a4l:FnScope ["_law_found"] ["_law_found"] (d9 Q6):=⟨rfl,rfl,rfl,by decide +kernel,rfl,by decide +kernel,by decide +kernel⟩
theorem a8V{f:Addr}{fd:FuncData}(F:Fun K "_law_whole" "_law_whole" Q6 f fd)(T:Txt K mg c)  : FnOk P w K mg base (y8 P w) 3 f fd ["_law_found"] (i9 K c D1) :=
 F.okD (k:=2) a4l fun cdv A outer s H E hr=>⟨_,(g8 (j5 (a15 (l3 (J0 (K:=K)) rfl T.z_isinstance z7 (a6 (pv 0) (a6 (Q9 (v:=.ty "int") rfl T.z_int a3J rfl) d5))) (a14 (a5Z (l3 (J0 (K:=K)) rfl T.z_isinstance z7 (a6 (pv 0) (a6 (Q9 (v:=.ty "bool") rfl T.z_bool a4B rfl) d5)))))))),(j8 (a2h a0i (a6j a0i)))⟩
theorem a7c{f:Addr}{fd:FuncData}(F:Fun K "_law_whole" "_law_whole" Q6 f fd)(T:Txt K mg c):FnOkW P w K mg base 3 f fd ["_law_found"] (i9 K c D1) :=
 F.okWD (k:=2) a4l fun cdv A outer s H hr=>⟨_,(g8 (j5 (a15 (l3 (J0 (K:=K)) rfl T.z_isinstance z7 (a6 (pv 0) (a6 (Q9 (v:=.ty "int") rfl T.z_int a3J rfl) d5))) (a14 (a5Z (l3 (J0 (K:=K)) rfl T.z_isinstance z7 (a6 (pv 0) (a6 (Q9 (v:=.ty "bool") rfl T.z_bool a4B rfl) d5)))))))),(j8 (a2h a0i (a6j a0i)))⟩
def a6N:SF:=(g0 (n8 (bZ (eB gLt (eV 1) (B5 v5 0))) (j0 (t5 k8 0 (eV 1))) r9) (j0 (eC (.int 0))))
noncomputable def A6:List D→Option R1:=fD 2 2 a6N
theorem b0f:FnScope ["_law_script","_law_k"] ["_law_script","_law_k"] (d9 X9):=⟨rfl,rfl,rfl,by decide +kernel,rfl,by decide +kernel,by decide +kernel⟩
theorem b0g{f:Addr}{fd:FuncData}(F:Fun K "_law_cell" "_law_cell" X9 f fd)(T:Txt K mg c)  : FnOk P w K mg base (y8 P w) 3 f fd ["_law_script","_law_k"] (i9 K c A6) :=
 F.okD (k:=2) b0f fun cdv A outer s H E hr=>⟨_,(d7 (t4 (l6 a1p (pv 1) (l3 (k9 (K:=K)) rfl T.z_len C0 (a6 (pv 0) d5)) (l4 _)) (g8 (j5 (g4 (l5 (K:=K)) (pv 0) (pv 1) (fun _ _=>rfl)))) k6) (g8 (j5 a9))),(g9 (m3 (v8 (b0 a1y a8 (E8 C1))) (j8 (t9 u0 a8)) u3) (j8 b9))⟩
def b4c:SF:=(j0 (eB t8 (eB a0a (eB a0a (eB w4 (eB w4 (eV 0) (eB a0a (eV 1) (eV 1))) (eC (.int 7))) (eB w4 (eV 1) (eC (.int 3)))) (eC (.int 48271))) (eV 2)))
noncomputable def t7:List D→Option R1:=fD 3 3 b4c
theorem b1F:FnScope ["_law_cell_here","_law_k","_law_prime"] ["_law_cell_here","_law_k","_law_prime"] (d9 a0m):=⟨rfl,rfl,rfl,by decide +kernel,rfl,by decide +kernel,by decide +kernel⟩
theorem b1G{f:Addr}{fd:FuncData}(F:Fun K "_law_mix" "_law_mix" a0m f fd)(T:Txt K mg c)  : FnOk P w K mg base (y8 P w) 3 f fd ["_law_cell_here","_law_k","_law_prime"] (i9 K c t7) :=
 F.okD (k:=2) b1F fun cdv A outer s H E hr=>⟨_,(g8 (j5 (i6 B0 (i6 a1b (i6 a1b (i6 A8 (i6 A8 (pv 0) (i6 a1b (pv 1) (pv 1))) a9) (i6 A8 (pv 1) a9)) a9) (pv 2)))),(j8 (b0 B1 (b0 a2j (b0 a2j (b0 A9 (b0 A9 a8 (b0 a2j a8 a8)) b9) (b0 A9 a8 b9)) b9) a8))⟩
noncomputable def b4d:SF:=(g0 (K0 2 t7 (aC (eV 1) (aC (eC (.int 1)) (aC (eC (.int 1000003)) aN)))) (g0 (m9 3 (eB t8 (eV 2) (eC (.int 2)))) (g0 (n8 (bZ (eB gLt (eB w9 (eB d6 (eV 0) (eB w4 (eV 3) (eC (.int 2)))) (eB d6 (eV 0) (eV 3))) (eC (.int 2)))) (m9 3 (eB w9 (eC (.int 1)) (eV 3))) r9) (g0 (m9 4 (eB w9 (eB d6 (eV 0) (eB w4 (eV 3) (eC (.int 2)))) (eB d6 (eV 0) (eV 3)))) (g0 (n8 (bZ (eB gLt (eV 4) (eC (.int 2)))) (j0 (eC .non)) r9) (g0 (n8 (bZ (eB (u6 false) (eB t8 (eV 1) (eC (.int 3))) (eC (.int 0)))) (j0 (eT (aC (eV 3) (aC (V7 a0U (aC (eC (.int 1)) (aC (eB D4 (eB a0a (eV 4) (eB w4 (eC (.int 1)) (eB t8 (eB D4 (eV 2) (eC (.int 2))) (eC (.int 5))))) (eC (.int 6))) aN))) aN)))) r9) (j0 (eT (aC (eV 3) (aC (eB w4 (eC (.int 1)) (eB t8 (eB w4 (eB D4 (eV 2) (eC (.int 2))) (eB a0a (eB D4 (eV 1) (eC (.int 64))) (eC (.int 7919)))) (eB w9 (eV 4) (eC (.int 1))))) aN))))))))))
noncomputable def V3:List D→Option R1:=fD 5 2 b4d
theorem a0J:FnScope ["_law_spot","_law_cell_here","_law_mixed","_law_way","_law_side"] ["_law_spot","_law_cell_here"] (d9 a0n):=⟨rfl,rfl,rfl,by decide +kernel,rfl,by decide +kernel,by decide +kernel⟩
theorem b1H{f:Addr}{fd:FuncData}(F:Fun K "_law_cut" "_law_cut" a0n f fd)(T:Txt K mg c)(G_l_mix:Own P w K mg base 3 "_law_mix" ["_law_cell_here","_law_k","_law_prime"] (i9 K c t7)):FnOk P w K mg base (y8 P w) 5 f fd ["_law_spot","_law_cell_here"] (i9 K c V3) :=
 F.okD (k:=4) a0J fun cdv A outer s H E hr=>⟨_,(d7 (k7 (i:=2) a0J.nd rfl (Or.inl rfl) (m8 G_l_mix hr (by decide) t6 (a6 (pv 1) (a6 a9 (a6 a9 d5))))) (d7 (k7 (i:=3) a0J.nd rfl (Or.inl rfl) (i6 B0 (pv 2) a9)) (d7 (t4 (l6 a1p (i6 F7 (g4 (f9 (K:=K)) (pv 0) (i6 A8 (pv 3) a9) (fun _ _=>rfl)) (g4 (f9 (K:=K)) (pv 0) (pv 3) (fun _ _=>rfl))) a9 (l4 _)) (g8 (k7 (i:=3) a0J.nd rfl (Or.inl rfl) (i6 F7 a9 (pv 3)))) k6) (d7 (k7 (i:=4) a0J.nd rfl (Or.inl rfl) (i6 F7 (g4 (f9 (K:=K)) (pv 0) (i6 A8 (pv 3) a9) (fun _ _=>rfl)) (g4 (f9 (K:=K)) (pv 0) (pv 3) (fun _ _=>rfl)))) (d7 (t4 (l6 a1p (pv 4) a9 (l4 _)) (g8 (j5 O4)) k6) (d7 (t4 (l6 G8 (i6 B0 (pv 1) a9) a9 (l4 _)) (g8 (j5 (i7 (a6 (pv 3) (a6 (l3 (a4_ rfl) rfl T.z_max a9w (a6 a9 (a6 (i6 E3 (i6 a1b (pv 4) (i6 A8 a9 (i6 B0 (i6 E3 (pv 2) a9) a9))) a9) d5))) d5))))) k6) (g8 (j5 (i7 (a6 (pv 3) (a6 (i6 A8 a9 (i6 B0 (i6 A8 (i6 E3 (pv 2) a9) (i6 a1b (i6 E3 (pv 1) a9) a9)) (i6 F7 (pv 4) a9))) d5))))))))))),(g9 (a1B (a7 a8 (a7 b9 (a7 b9 g7)))) (g9 (x9 (b0 B1 a8 b9)) (g9 (m3 (v8 (b0 a1y (b0 F8 (b0 g6 a8 (b0 A9 a8 b9)) (b0 g6 a8 a8)) b9)) (x9 (b0 F8 b9 a8)) u3) (g9 (x9 (b0 F8 (b0 g6 a8 (b0 A9 a8 b9)) (b0 g6 a8 a8))) (g9 (m3 (v8 (b0 a1y a8 b9)) (j8 b9) u3) (g9 (m3 (v8 (b0 G9 (b0 B1 a8 b9) b9)) (j8 (l9 (a7 a8 (a7 (V8 a7O (a7 b9 (a7 (b0 N4 (b0 a2j a8 (b0 A9 b9 (b0 B1 (b0 N4 a8 b9) b9))) b9) g7))) g7)))) u3) (j8 (l9 (a7 a8 (a7 (b0 A9 b9 (b0 B1 (b0 A9 (b0 N4 a8 b9) (b0 a2j (b0 N4 a8 b9) b9)) (b0 F8 a8 b9))) g7))))))))))⟩
noncomputable def a5u:SF:=(g0 (n8 (bZ (eB (u6 false) (eV 1) (eC (.int 0)))) (j0 (eT (aC (eT (aC (eB d6 (eV 0) (eC (.int 0))) (aC (eB d6 (eV 0) (eC (.int 1))) (aC (eB w4 (eB d6 (eV 0) (eC (.int 0))) (eV 2)) (aC (eB d6 (eV 0) (eC (.int 3))) aN))))) (aC (eT (aC (eB w4 (eB d6 (eV 0) (eC (.int 0))) (eV 2)) (aC (eB d6 (eV 0) (eC (.int 1))) (aC (eB d6 (eV 0) (eC (.int 2))) (aC (eB d6 (eV 0) (eC (.int 3))) aN))))) aN)))) r9) (j0 (eT (aC (eT (aC (eB d6 (eV 0) (eC (.int 0))) (aC (eB d6 (eV 0) (eC (.int 1))) (aC (eB d6 (eV 0) (eC (.int 2))) (aC (eB w4 (eB d6 (eV 0) (eC (.int 1))) (eV 2)) aN))))) (aC (eT (aC (eB d6 (eV 0) (eC (.int 0))) (aC (eB w4 (eB d6 (eV 0) (eC (.int 1))) (eV 2)) (aC (eB d6 (eV 0) (eC (.int 2))) (aC (eB d6 (eV 0) (eC (.int 3))) aN))))) aN)))))
noncomputable def y9:List D→Option R1:=fD 3 3 a5u
theorem a8W:FnScope ["_law_spot","_law_way","_law_at"] ["_law_spot","_law_way","_law_at"] (d9 V1):=⟨rfl,rfl,rfl,by decide +kernel,rfl,by decide +kernel,by decide +kernel⟩
theorem a8X{f:Addr}{fd:FuncData}(F:Fun K "_law_parts" "_law_parts" V1 f fd)(T:Txt K mg c)  : FnOk P w K mg base (y8 P w) 3 f fd ["_law_spot","_law_way","_law_at"] (i9 K c y9) :=
 F.okD (k:=2) a8W fun cdv A outer s H E hr=>⟨_,(d7 (t4 (l6 G8 (pv 1) a9 (l4 _)) (g8 (j5 (i7 (a6 (i7 (a6 (g4 (f9 (K:=K)) (pv 0) a9 (fun _ _=>rfl)) (a6 (g4 (f9 (K:=K)) (pv 0) a9 (fun _ _=>rfl)) (a6 (i6 A8 (g4 (f9 (K:=K)) (pv 0) a9 (fun _ _=>rfl)) (pv 2)) (a6 (g4 (f9 (K:=K)) (pv 0) a9 (fun _ _=>rfl)) d5))))) (a6 (i7 (a6 (i6 A8 (g4 (f9 (K:=K)) (pv 0) a9 (fun _ _=>rfl)) (pv 2)) (a6 (g4 (f9 (K:=K)) (pv 0) a9 (fun _ _=>rfl)) (a6 (g4 (f9 (K:=K)) (pv 0) a9 (fun _ _=>rfl)) (a6 (g4 (f9 (K:=K)) (pv 0) a9 (fun _ _=>rfl)) d5))))) d5))))) k6) (g8 (j5 (i7 (a6 (i7 (a6 (g4 (f9 (K:=K)) (pv 0) a9 (fun _ _=>rfl)) (a6 (g4 (f9 (K:=K)) (pv 0) a9 (fun _ _=>rfl)) (a6 (g4 (f9 (K:=K)) (pv 0) a9 (fun _ _=>rfl)) (a6 (i6 A8 (g4 (f9 (K:=K)) (pv 0) a9 (fun _ _=>rfl)) (pv 2)) d5))))) (a6 (i7 (a6 (g4 (f9 (K:=K)) (pv 0) a9 (fun _ _=>rfl)) (a6 (i6 A8 (g4 (f9 (K:=K)) (pv 0) a9 (fun _ _=>rfl)) (pv 2)) (a6 (g4 (f9 (K:=K)) (pv 0) a9 (fun _ _=>rfl)) (a6 (g4 (f9 (K:=K)) (pv 0) a9 (fun _ _=>rfl)) d5))))) d5)))))),(g9 (m3 (v8 (b0 G9 a8 b9)) (j8 (l9 (a7 (l9 (a7 (b0 g6 a8 b9) (a7 (b0 g6 a8 b9) (a7 (b0 A9 (b0 g6 a8 b9) a8) (a7 (b0 g6 a8 b9) g7))))) (a7 (l9 (a7 (b0 A9 (b0 g6 a8 b9) a8) (a7 (b0 g6 a8 b9) (a7 (b0 g6 a8 b9) (a7 (b0 g6 a8 b9) g7))))) g7)))) u3) (j8 (l9 (a7 (l9 (a7 (b0 g6 a8 b9) (a7 (b0 g6 a8 b9) (a7 (b0 g6 a8 b9) (a7 (b0 A9 (b0 g6 a8 b9) a8) g7))))) (a7 (l9 (a7 (b0 g6 a8 b9) (a7 (b0 A9 (b0 g6 a8 b9) a8) (a7 (b0 g6 a8 b9) (a7 (b0 g6 a8 b9) g7))))) g7)))))⟩
noncomputable def b1I:SF:=(g0 (w8 2 (eL (aC (eT (aC (eC (.int 0)) (aC (eC (.int 0)) (aC (eB d6 (eV 0) (eC (.int 0))) (aC (eB d6 (eV 0) (eC (.int 1))) aN))))) aN))) (g0 (w8 3 (eL (aC (eC .non) aN))) (g0 (w8 4 (eL (aC (eC (.int 0)) aN))) (g0 (a1D 1 (h7 5) (g0 (m9 6 (eB t8 (eV 5) (B5 v5 4))) (g0 (K0 7 V3 (aC (t5 k8 2 (t5 k8 4 (eV 6))) (aC (eV 5) aN))) (n8 (bZ (eB (J9 true) (eV 7) (eC .non))) (g0 (m9 8 (a2p 4 (eV 6))) (g0 (a04 3 (eV 8) (eT (aC (eB d6 (eT (aC (eC (.str "across")) (aC (eC (.str "up")) aN))) (eB d6 (eV 7) (eC (.int 0)))) (aC (eB d6 (eV 7) (eC (.int 1))) (aC (B5 v5 3) (aC (eB w4 (B5 v5 3) (eC (.int 1))) aN)))))) (a35 (h9 y9 (aC (t5 k8 2 (eV 8)) (aC (eB d6 (eV 7) (eC (.int 0))) (aC (eB d6 (eV 7) (eC (.int 1))) aN))))  (h7 9) (g0 (E4 4 (B5 v5 3)) (g0 (E4 2 (eV 9)) (E4 3 (eC .non))))))) r9)))) (a0F 2 3)))))
noncomputable def U5:List D→Option R1:=fD 10 2 b1I
theorem L4:FnScope ["_law_box","_law_cells","_law_spots","_law_nodes","_law_uncut","_law_cell_here","_law_at","_law_cut_here","_law_node","_law_part"] ["_law_box","_law_cells"] (d9 Y0):=⟨rfl,rfl,rfl,by decide +kernel,rfl,by decide +kernel,by decide +kernel⟩
theorem b0h{f:Addr}{fd:FuncData}(F:Fun K "_law_tree" "_law_tree" Y0 f fd)(T:Txt K mg c)(G_l_cut:Own P w K mg base 5 "_law_cut" ["_law_spot","_law_cell_here"] (i9 K c V3))(G_l_parts:Own P w K mg base 3 "_law_parts" ["_law_spot","_law_way","_law_at"] (i9 K c y9)):FnOk P w K mg base (y8 P w) 7 f fd ["_law_box","_law_cells"] (i9 K c U5) :=
 F.okD (k:=6) L4 fun cdv A outer s H E hr=>⟨_,(d7 (k7 (i:=2) L4.nd rfl (Or.inl rfl) (T4 (a6 (i7 (a6 a9 (a6 a9 (a6 (g4 (f9 (K:=K)) (pv 0) a9 (fun _ _=>rfl)) (a6 (g4 (f9 (K:=K)) (pv 0) a9 (fun _ _=>rfl)) d5))))) d5))) (d7 (k7 (i:=3) L4.nd rfl (Or.inl rfl) (T4 (a6 O4 d5))) (d7 (k7 (i:=4) L4.nd rfl (Or.inl rfl) (T4 (a6 a9 d5))) (d7 (Q0 PassesOwn.leaving rfl (U7 (pv 1)) (m5 (i:=5) L4.nd rfl (Or.inl rfl)) (d7 (k7 (i:=6) L4.nd rfl (Or.inl rfl) (i6 B0 (pv 5) (l3 (k9 (K:=K)) rfl T.z_len C0 (a6 (pv 4) d5)))) (d7 (k7 (i:=7) L4.nd rfl (Or.inl rfl) (m8 G_l_cut hr (by decide) t6 (a6 (g4 (l5 (K:=K)) (pv 2) (g4 (l5 (K:=K)) (pv 4) (pv 6) (fun _ _=>rfl)) (fun _ _=>rfl)) (a6 (pv 5) d5)))) (g8 (t4 (l6 a4x (pv 7) O4 (l4 _)) (d7 (k7 (i:=8) L4.nd rfl (Or.inl rfl) (M9 (K:=K) PySem.F.plainAttrs_list PySem.F.slot_list_pop PySem.F.type_list_pop b0O (pv 4) (a6 (pv 6) d5))) (d7 (M8 (i7 (a6 (g4 (f9 (K:=K)) (i7 (a6 w6 (a6 w6 d5))) (g4 (f9 (K:=K)) (pv 7) a9 (fun _ _=>rfl)) (fun _ _=>rfl)) (a6 (g4 (f9 (K:=K)) (pv 7) a9 (fun _ _=>rfl)) (a6 (l3 (k9 (K:=K)) rfl T.z_len C0 (a6 (pv 3) d5)) (a6 (i6 A8 (l3 (k9 (K:=K)) rfl T.z_len C0 (a6 (pv 3) d5)) a9) d5))))) (a09 (pv 3) (pv 8) X2)) (g8 (Q0 PassesOwn.leaving rfl (b4D (m8 G_l_parts hr (by decide) t6 (a6 (g4 (l5 (K:=K)) (pv 2) (pv 8) (fun _ _=>rfl)) (a6 (g4 (f9 (K:=K)) (pv 7) a9 (fun _ _=>rfl)) (a6 (g4 (f9 (K:=K)) (pv 7) a9 (fun _ _=>rfl)) d5))))) (m5 (i:=9) L4.nd rfl (Or.inl rfl)) (d7 (J6 (M9 (K:=K) PySem.F.plainAttrs_list PySem.F.slot_list_append PySem.F.type_list_append C9 (pv 4) (a6 (l3 (k9 (K:=K)) rfl T.z_len C0 (a6 (pv 3) d5)) d5))) (d7 (J6 (M9 (K:=K) PySem.F.plainAttrs_list PySem.F.slot_list_append PySem.F.type_list_append C9 (pv 2) (a6 (pv 9) d5))) (g8 (J6 (M9 (K:=K) PySem.F.plainAttrs_list PySem.F.slot_list_append PySem.F.type_list_append C9 (pv 3) (a6 O4 d5)))))))))) k6))))) (g8 (j5 (i7 (a6 (pv 2) (a6 (pv 3) d5))))))))),(g9 (G1 (a03 (a7 (l9 (a7 b9 (a7 b9 (a7 (b0 g6 a8 b9) (a7 (b0 g6 a8 b9) g7))))) g7))) (g9 (G1 (a03 (a7 b9 g7))) (g9 (G1 (a03 (a7 b9 g7))) (g9 (a4N (n6 (k:=10) (by decide)) (g9 (x9 (b0 B1 a8 (E8 C1))) (g9 (a1B (a7 (t9 u0 (t9 u0 a8)) (a7 a8 g7))) (m3 (v8 (b0 a4L a8 b9)) (g9 (x9 (a95 a8)) (g9 (a34 (l9 (a7 (b0 g6 (l9 (a7 b9 (a7 b9 g7))) (b0 g6 a8 b9)) (a7 (b0 g6 a8 b9) (a7 (E8 C1) (a7 (b0 A9 (E8 C1) b9) g7))))) a8) (b2_ (r6 (a7 (t9 u0 a8) (a7 (b0 g6 a8 b9) (a7 (b0 g6 a8 b9) g7)))) (n6 (k:=10) (by decide)) (g9 (O5 (E8 C1)) (g9 (O5 a8) (O5 b9)))))) u3)))) b1w))))⟩
noncomputable def a8Y:SF:=(g0 (w8 2 (nCV a1z 1)) (g0 (R7 W1 (aC (B5 v5 0) aN) (h7 3) (g0 (m9 4 (eB w9 (eB w9 (B5 v5 0) (eC (.int 1))) (eV 3))) (n8 (bZ (eB (J9 true) (t5 k8 0 (eV 4)) (eC .non))) (a04 2 (eV 4) (eT (aC (eB d6 (t5 k8 0 (eV 4)) (eC (.int 0))) (aC (eB d6 (t5 k8 0 (eV 4)) (eC (.int 1))) (aC (t5 k8 2 (eB d6 (t5 k8 0 (eV 4)) (eC (.int 2)))) (aC (t5 k8 2 (eB d6 (t5 k8 0 (eV 4)) (eC (.int 3)))) aN)))))) r9))) (j0 (t5 k8 2 (eC (.int 0))))))
noncomputable def L5:List D→Option R1:=fD 5 2 a8Y
theorem Z4:FnScope ["_law_nodes","_law_ends","_law_built","_law_back","_law_k"] ["_law_nodes","_law_ends"] (d9 S3):=⟨rfl,rfl,rfl,by decide +kernel,rfl,by decide +kernel,by decide +kernel⟩
theorem a7d{f:Addr}{fd:FuncData}(F:Fun K "_law_joined" "_law_joined" S3 f fd)(T:Txt K mg c)  : FnOk P w K mg base (y8 P w) 3 f fd ["_law_nodes","_law_ends"] (i9 K c L5) :=
 F.okD (k:=2) Z4 fun cdv A outer s H E hr=>⟨_,(d7 (k7 (i:=2) Z4.nd rfl (Or.inl rfl) (a0M (a1R (K:=K)) rfl T.z_list a4C (a6 (pv 1) d5))) (d7 (Q0 PassesOwn.leaving rfl (Z5 rfl T.z_range (a6 (l3 (k9 (K:=K)) rfl T.z_len C0 (a6 (pv 0) d5)) d5)) (m5 (i:=3) Z4.nd rfl (Or.inl rfl)) (d7 (k7 (i:=4) Z4.nd rfl (Or.inl rfl) (i6 F7 (i6 F7 (l3 (k9 (K:=K)) rfl T.z_len C0 (a6 (pv 0) d5)) a9) (pv 3))) (g8 (t4 (l6 a4x (g4 (l5 (K:=K)) (pv 0) (pv 4) (fun _ _=>rfl)) O4 (l4 _)) (g8 (M8 (i7 (a6 (g4 (f9 (K:=K)) (g4 (l5 (K:=K)) (pv 0) (pv 4) (fun _ _=>rfl)) a9 (fun _ _=>rfl)) (a6 (g4 (f9 (K:=K)) (g4 (l5 (K:=K)) (pv 0) (pv 4) (fun _ _=>rfl)) a9 (fun _ _=>rfl)) (a6 (g4 (l5 (K:=K)) (pv 2) (g4 (f9 (K:=K)) (g4 (l5 (K:=K)) (pv 0) (pv 4) (fun _ _=>rfl)) a9 (fun _ _=>rfl)) (fun _ _=>rfl)) (a6 (g4 (l5 (K:=K)) (pv 2) (g4 (f9 (K:=K)) (g4 (l5 (K:=K)) (pv 0) (pv 4) (fun _ _=>rfl)) a9 (fun _ _=>rfl)) (fun _ _=>rfl)) d5))))) (a09 (pv 2) (pv 4) X2))) k6)))) (g8 (j5 (g4 (l5 (K:=K)) (pv 2) a9 (fun _ _=>rfl)))))),(g9 (G1 (a9J a7G)) (g9 (a0x (a7 (E8 C1) g7) (n6 (k:=5) (by decide)) (g9 (x9 (b0 F8 (b0 F8 (E8 C1) b9) a8)) (m3 (v8 (b0 a4L (t9 u0 a8) b9)) (a34 (l9 (a7 (b0 g6 (t9 u0 a8) b9) (a7 (b0 g6 (t9 u0 a8) b9) (a7 (t9 u0 (b0 g6 (t9 u0 a8) b9)) (a7 (t9 u0 (b0 g6 (t9 u0 a8) b9)) g7))))) a8) u3))) (j8 (t9 u0 b9))))⟩
noncomputable def a8Z:SF:=(g0 (w8 3 (eL aN)) (g0 (R7 W1 (aC (B5 v5 1) aN) (h7 4) (g0 (m9 5 (a2g (eB gGt (eB d6 (t5 k8 0 (eV 4)) (eC (.int 2))) (eB d6 (t5 k8 0 (eV 4)) (eC (.int 0)))) (eB gGt (eB d6 (t5 k8 0 (eV 4)) (eC (.int 3))) (eB d6 (t5 k8 0 (eV 4)) (eC (.int 1)))))) (n8 (Z9 (bZ (eB (J9 false) (t5 k8 1 (eV 4)) (eC .non))) (Z9 (bZ (eV 5)) (bZ (eB gGt (eB t8 (h9 t7 (aC (eV 2) (aC (eV 4) (aC (eC (.int 10007)) aN)))) (eC (.int 4))) (eC (.int 0)))))) (E4 3 (eV 4)) r9))) (g0 (w8 6 (a4g [2] (aC (eV 3) aN) (eT (aC (h9 t7 (aC (eB D4 (eV 1) (eC (.int 5))) (aC (eV 0) (aC (eC (.int 7919)) aN)))) (aC (eV 0) aN))))) (g0 (w8 7 (eL aN)) (g0 (w8 8 (a0z 1 1 [] (h7 0) a0S (eT (aC (eC (.str "waste")) aN)))) (g0 (a1D 6 (h7 4) (g0 (m9 9 (eB w9 (eB d6 (t5 k8 0 (eV 4)) (eC (.int 2))) (eB d6 (t5 k8 0 (eV 4)) (eC (.int 0))))) (g0 (m9 10 (eB w9 (eB d6 (t5 k8 0 (eV 4)) (eC (.int 3))) (eB d6 (t5 k8 0 (eV 4)) (eC (.int 1))))) (g0 (K0 11 t7 (aC (eB D4 (eV 2) (eC (.int 3))) (aC (eV 4) (aC (eC (.int 20011)) aN)))) (g0 (a04 8 (eV 4) (eT (aC (eC (.str "ware")) (aC (B5 v5 7) (aC (eB (u6 false) (eB t8 (eV 11) (eC (.int 3))) (eC (.int 0))) aN))))) (n8 (bZ (eB (u6 false) (eB t8 (eV 11) (eC (.int 3))) (eC (.int 0)))) (E4 7 (eT (aC (eV 10) (aC (eV 9) (aC (eC (.bl true)) aN))))) (E4 7 (eT (aC (eV 9) (aC (eV 10) (aC (eB (u6 false) (eB t8 (eB D4 (eV 11) (eC (.int 3))) (eC (.int 2))) (eC (.int 0))) aN))))))))))) (a0l 7 8 6)))))))
noncomputable def O3:List D→Option R1:=fD 12 3 a8Z
theorem C6:FnScope ["_law_spots","_law_nodes","_law_cell_here","_law_kept","_law_k","_law_large","_law_order","_law_wares","_law_ends","_law_w","_law_h","_law_mixed"] ["_law_spots","_law_nodes","_law_cell_here"] (d9 E9):=⟨rfl,rfl,rfl,by decide +kernel,rfl,by decide +kernel,by decide +kernel⟩
theorem a7e{TB:List (Addr×Str)}{f:Addr}{fd:FuncData}(F:Fun K "_law_filled" "_law_filled" E9 f fd)(T:Txt K mg c)(G_l_mix:Own P w K mg base 3 "_law_mix" ["_law_cell_here","_law_k","_law_prime"] (i9 K c t7)){cc Pt:Addr}(hcode:fd.code=.ref cc)(hC:PySem.W.CodeHd base cc Pt)(hB:base.BuiltinsAt mg Pt)(hL:TB.lookup Pt=some "_law_filled.<locals>.<lambda>"):FnOk P w K mg base (y8 P w) 8 f fd ["_law_spots","_law_nodes","_law_cell_here"] (spT TB (i9 K c O3)) :=
 F.okT (k:=7) C6 fun A outer s H E hT hr=>⟨_,(d7 (k7 (i:=3) C6.nd rfl (Or.inl rfl) (T4 d5)) (d7 (Q0 PassesOwn.leaving rfl (Z5 rfl T.z_range (a6 (l3 (k9 (K:=K)) rfl T.z_len C0 (a6 (pv 1) d5)) d5)) (m5 (i:=4) C6.nd rfl (Or.inl rfl)) (d7 (k7 (i:=5) C6.nd rfl (Or.inl rfl) (a15 (D9 a3A (g4 (f9 (K:=K)) (g4 (l5 (K:=K)) (pv 0) (pv 4) (fun _ _=>rfl)) a9 (fun _ _=>rfl)) (g4 (f9 (K:=K)) (g4 (l5 (K:=K)) (pv 0) (pv 4) (fun _ _=>rfl)) a9 (fun _ _=>rfl)) (l4 _)) (a14 (D9 a3A (g4 (f9 (K:=K)) (g4 (l5 (K:=K)) (pv 0) (pv 4) (fun _ _=>rfl)) a9 (fun _ _=>rfl)) (g4 (f9 (K:=K)) (g4 (l5 (K:=K)) (pv 0) (pv 4) (fun _ _=>rfl)) a9 (fun _ _=>rfl)) (l4 _))))) (g8 (t4 (PW.pt (a13 (l6 a9g (g4 (l5 (K:=K)) (pv 1) (pv 4) (fun _ _=>rfl)) O4 (l4 _)) (a13 (A3 (pv 5)) (a2C (l6 a3A (i6 B0 (m8 G_l_mix hr (by decide) t6 (a6 (pv 2) (a6 (pv 4) (a6 a9 d5)))) a9) a9 (l4 _)))))) (g8 (J6 (M9 (K:=K) PySem.F.plainAttrs_list PySem.F.slot_list_append PySem.F.type_list_append C9 (pv 3) (a6 (pv 4) d5)))) k6)))) (d7 (k7 (i:=6) C6.nd rfl (Or.inl rfl) (b07 (Nc:=["_law_k","_law_cell_here"]) (js:=[2]) (kn := "_law_k") (q := "_law_filled.<locals>.<lambda>") hr rfl rfl T.z_sorted (a6 (pv 3) d5) rfl hcode hC hB rfl (hT _ _ hL) ⟨by decide +kernel,rfl,by decide +kernel,(by change ∀y∈Scope.names _,y.2=NameKind.free→(d9 E9).names.lookup y.1=some .cell∨(d9 E9).names.lookup y.1=some .free;decide +kernel),by decide +kernel,rfl,rfl,by decide +kernel⟩ rfl rfl (fun _ _ _ _ _=>rfl) rfl rfl (fun _ _ _ _=>(i7 (a6 (m8 G_l_mix (((hr.in1).in1).deeper _) (by decide) t6 (a6 (i6 E3 (pv 1) a9) (a6 (pv 0) (a6 a9 d5)))) (a6 (pv 0) d5)))))) (d7 (k7 (i:=7) C6.nd rfl (Or.inl rfl) (T4 d5)) (d7 (a3M (i:=8) (Nc:=["_law_node"]) (k:=1) (js:=[]) rfl ⟨by decide +kernel,rfl,by decide +kernel,(by change ∀y∈Scope.names _,y.2=NameKind.free→(d9 E9).names.lookup y.1=some .cell∨(d9 E9).names.lookup y.1=some .free;decide +kernel),by decide +kernel,rfl,rfl,by decide +kernel⟩ C6.nd rfl (U7 (pv 1)) (fun _ _ _ _ _=>(m5 (i:=0) (by show List.Nodup [("_law_node" : Str)];decide +kernel) rfl (Or.inl rfl))) (fun _ _ _ _ _=>a9u) (fun _ _ _ _ _=>(i7 (a6 w6 d5)))) (d7 (Q0 PassesOwn.leaving rfl (U7 (pv 6)) (m5 (i:=4) C6.nd rfl (Or.inl rfl)) (d7 (k7 (i:=9) C6.nd rfl (Or.inl rfl) (i6 F7 (g4 (f9 (K:=K)) (g4 (l5 (K:=K)) (pv 0) (pv 4) (fun _ _=>rfl)) a9 (fun _ _=>rfl)) (g4 (f9 (K:=K)) (g4 (l5 (K:=K)) (pv 0) (pv 4) (fun _ _=>rfl)) a9 (fun _ _=>rfl)))) (d7 (k7 (i:=10) C6.nd rfl (Or.inl rfl) (i6 F7 (g4 (f9 (K:=K)) (g4 (l5 (K:=K)) (pv 0) (pv 4) (fun _ _=>rfl)) a9 (fun _ _=>rfl)) (g4 (f9 (K:=K)) (g4 (l5 (K:=K)) (pv 0) (pv 4) (fun _ _=>rfl)) a9 (fun _ _=>rfl)))) (d7 (k7 (i:=11) C6.nd rfl (Or.inl rfl) (m8 G_l_mix hr (by decide) t6 (a6 (i6 E3 (pv 2) a9) (a6 (pv 4) (a6 a9 d5))))) (d7 (M8 (i7 (a3O (a6 (l3 (k9 (K:=K)) rfl T.z_len C0 (a6 (pv 7) d5)) (a6 (D9 G8 (i6 B0 (pv 11) a9) a9 (l4 _)) d5)))) (a09 (pv 8) (pv 4) X2)) (g8 (t4 (l6 G8 (i6 B0 (pv 11) a9) a9 (l4 _)) (g8 (J6 (M9 (K:=K) PySem.F.plainAttrs_list PySem.F.slot_list_append PySem.F.type_list_append C9 (pv 7) (a6 (i7 (a6 (pv 10) (a6 (pv 9) (a6 Y7 d5)))) d5)))) (g8 (J6 (M9 (K:=K) PySem.F.plainAttrs_list PySem.F.slot_list_append PySem.F.type_list_append C9 (pv 7) (a6 (i7 (a6 (pv 9) (a6 (pv 10) (a6 (D9 G8 (i6 B0 (i6 E3 (pv 11) a9) a9) a9 (l4 _)) d5)))) d5))))))))))) (g8 (j5 (i7 (a6 (pv 7) (a6 (pv 8) (a6 (pv 6) d5)))))))))))),(g9 (G1 (a03 g7)) (g9 (a0x (a7 (E8 C1) g7) (n6 (k:=12) (by decide)) (g9 (x9 (a2h (b0 a30 (b0 g6 (t9 u0 a8) b9) (b0 g6 (t9 u0 a8) b9)) (b0 a30 (b0 g6 (t9 u0 a8) b9) (b0 g6 (t9 u0 a8) b9)))) (m3 (a1c (v8 (b0 a9K (t9 u0 a8) b9)) (a1c (B8 a8) (v8 (b0 a30 (b0 B1 (r6 (a7 a8 (a7 a8 (a7 b9 g7)))) b9) b9)))) (O5 a8) u3))) (g9 (G1 (b1D (by decide) (a7 a8 g7) (l9 (a7 (r6 (a7 (b0 N4 a8 b9) (a7 a8 (a7 b9 g7)))) (a7 a8 g7))))) (g9 (G1 (a03 g7)) (g9 (a36 (a6s (by decide) (n6 (k:=1) (by decide)) a6r (l9 (a7 b9 g7)))) (g9 (a4N (n6 (k:=12) (by decide)) (g9 (x9 (b0 F8 (b0 g6 (t9 u0 a8) b9) (b0 g6 (t9 u0 a8) b9))) (g9 (x9 (b0 F8 (b0 g6 (t9 u0 a8) b9) (b0 g6 (t9 u0 a8) b9))) (g9 (a1B (a7 (b0 N4 a8 b9) (a7 a8 (a7 b9 g7)))) (g9 (a34 (l9 (a7 b9 (a7 (E8 C1) (a7 (b0 G9 (b0 B1 a8 b9) b9) g7)))) a8) (m3 (v8 (b0 G9 (b0 B1 a8 b9) b9)) (O5 (l9 (a7 a8 (a7 a8 (a7 b9 g7))))) (O5 (l9 (a7 a8 (a7 a8 (a7 (b0 G9 (b0 B1 (b0 N4 a8 b9) b9) b9) g7))))))))))) a96))))))⟩
noncomputable def a3p:SF:=(g0 (n8 (bZ (eB (u6 false) (eB t8 (eV 0) (eC (.int 3))) (eC (.int 1)))) (j0 (eB w4 (eC (.int 1)) (eB t8 (eB D4 (eV 0) (eC (.int 3))) (eB V9 (eC (.int 10)) (eC (.int 40)))))) r9) (j0 (eB t8 (eB D4 (eV 0) (eC (.int 3))) (eC (.int 25)))))
noncomputable def M1:List D→Option R1:=fD 1 1 a3p
theorem b0i:FnScope ["_law_cell_here"] ["_law_cell_here"] (d9 Y1):=⟨rfl,rfl,rfl,by decide +kernel,rfl,by decide +kernel,by decide +kernel⟩
theorem b0j{f:Addr}{fd:FuncData}(F:Fun K "_law_long" "_law_long" Y1 f fd)(T:Txt K mg c)  : FnOk P w K mg base (y8 P w) 3 f fd ["_law_cell_here"] (i9 K c M1) :=
 F.okD (k:=2) b0i fun cdv A outer s H E hr=>⟨_,(d7 (t4 (l6 G8 (i6 B0 (pv 0) a9) a9 (l4 _)) (g8 (j5 (i6 A8 a9 (i6 B0 (i6 E3 (pv 0) a9) (i6 a3y a9 a9))))) k6) (g8 (j5 (i6 B0 (i6 E3 (pv 0) a9) a9)))),(g9 (m3 (v8 (b0 G9 (b0 B1 a8 b9) b9)) (j8 (b0 A9 b9 (b0 B1 (b0 N4 a8 b9) (b0 a3Z b9 b9)))) u3) (j8 (b0 B1 (b0 N4 a8 b9) b9)))⟩
noncomputable def a42:SF:=(g0 (m9 3 (eB t8 (eV 1) (eC (.int 4)))) (g0 (m9 4 (eB d6 (eT (aC (eU a0v (eC (.int 1))) (aC (eV 2) (aC (eB t8 (eB D4 (eV 1) (eC (.int 12))) (V7 a0U (aC (eC (.int 1)) (aC (eV 2) aN)))) (aC (eB w4 (eV 2) (eB t8 (eV 1) (eB V9 (eC (.int 10)) (eC (.int 20))))) (aC (eB w9 (eU a0v (eC (.int 2))) (eB t8 (eV 1) (eB V9 (eC (.int 10)) (eC (.int 20))))) aN)))))) (eB t8 (eB D4 (eV 1) (eC (.int 4))) (eC (.int 5))))) (g0 (n8 (bZ (eB (u6 false) (eB d6 (eV 0) (eC (.int 0))) (eC (.str "waste")))) (j0 (eT (aC (eC (.str "ware")) (aC (eV 4) (aC (eB (u6 false) (eV 3) (eC (.int 1))) aN))))) r9) (g0 (n8 (bZ (eB (u6 false) (eV 3) (eC (.int 0)))) (j0 (eT (aC (eC (.str "waste")) aN))) r9) (g0 (n8 (bZ (eB (u6 false) (eV 3) (eC (.int 1)))) (j0 (eT (aC (eC (.str "ware")) (aC (eB d6 (eV 0) (eC (.int 1))) (aC (a4J (eB d6 (eV 0) (eC (.int 2)))) aN))))) r9) (j0 (eT (aC (eC (.str "ware")) (aC (eV 4) (aC (eB d6 (eV 0) (eC (.int 2))) aN))))))))))
noncomputable def E5:List D→Option R1:=fD 5 3 a42
theorem W6:FnScope ["_law_end","_law_cell_here","_law_many","_law_kind","_law_other"] ["_law_end","_law_cell_here","_law_many"] (d9 J8):=⟨rfl,rfl,rfl,by decide +kernel,rfl,by decide +kernel,by decide +kernel⟩
theorem a4m{f:Addr}{fd:FuncData}(F:Fun K "_law_end_spoilt" "_law_end_spoilt" J8 f fd)(T:Txt K mg c)  : FnOk P w K mg base (y8 P w) 3 f fd ["_law_end","_law_cell_here","_law_many"] (i9 K c E5) :=
 F.okD (k:=2) W6 fun cdv A outer s H E hr=>⟨_,(d7 (k7 (i:=3) W6.nd rfl (Or.inl rfl) (i6 B0 (pv 1) a9)) (d7 (k7 (i:=4) W6.nd rfl (Or.inl rfl) (g4 (f9 (K:=K)) (i7 (a6 (a8e a53 a9) (a6 (pv 2) (a6 (i6 B0 (i6 E3 (pv 1) a9) (l3 (a4_ rfl) rfl T.z_max a9w (a6 a9 (a6 (pv 2) d5)))) (a6 (i6 A8 (pv 2) (i6 B0 (pv 1) (i6 a3y a9 a9))) (a6 (i6 F7 (a8e a53 a9) (i6 B0 (pv 1) (i6 a3y a9 a9))) d5)))))) (i6 B0 (i6 E3 (pv 1) a9) a9) (fun _ _=>rfl))) (d7 (t4 (l6 G8 (g4 (f9 (K:=K)) (pv 0) a9 (fun _ _=>rfl)) w6 (l4 _)) (g8 (j5 (i7 (a3O (a6 (pv 4) (a6 (D9 G8 (pv 3) a9 (l4 _)) d5)))))) k6) (d7 (t4 (l6 G8 (pv 3) a9 (l4 _)) (g8 (j5 (i7 (a6 w6 d5)))) k6) (d7 (t4 (l6 G8 (pv 3) a9 (l4 _)) (g8 (j5 (i7 (a3O (a6 (g4 (f9 (K:=K)) (pv 0) a9 (fun _ _=>rfl)) (a6 (a5Z (g4 (f9 (K:=K)) (pv 0) a9 (fun _ _=>rfl))) d5)))))) k6) (g8 (j5 (i7 (a3O (a6 (pv 4) (a6 (g4 (f9 (K:=K)) (pv 0) a9 (fun _ _=>rfl)) d5))))))))))),(g9 (x9 (b0 B1 a8 b9)) (g9 (x9 (b0 g6 (l9 (a7 (a8A a6k b9) (a7 a8 (a7 (b0 B1 (b0 N4 a8 b9) (V8 a7O (a7 b9 (a7 a8 g7)))) (a7 (b0 A9 a8 (b0 B1 a8 (b0 a3Z b9 b9))) (a7 (b0 F8 (a8A a6k b9) (b0 B1 a8 (b0 a3Z b9 b9))) g7)))))) (b0 B1 (b0 N4 a8 b9) b9))) (g9 (m3 (v8 (b0 G9 (b0 g6 a8 b9) b9)) (j8 (l9 (a7 b9 (a7 a8 (a7 (b0 G9 a8 b9) g7))))) u3) (g9 (m3 (v8 (b0 G9 a8 b9)) (j8 (l9 (a7 b9 g7))) u3) (g9 (m3 (v8 (b0 G9 a8 b9)) (j8 (l9 (a7 b9 (a7 (b0 g6 a8 b9) (a7 (a6j (b0 g6 a8 b9)) g7))))) u3) (j8 (l9 (a7 b9 (a7 a8 (a7 (b0 g6 a8 b9) g7))))))))))⟩
noncomputable def a80:UF:=(L9 (uS (m9 4 (eB t8 (eV 2) (B5 v5 0)))) (L9 (uS (m9 5 (eB w4 (eB D4 (eV 2) (eC (.int 64))) (eB t8 (eV 2) (eC (.int 64)))))) (L9 (uIf (bZ (eB (J9 false) (t5 k8 0 (eV 4)) (eC .non))) (L9 (a3i 1 (eV 4) (h9 E5 (aC (t5 k8 1 (eV 4)) (aC (eV 5) (aC (eV 3) aN))))) a8R) uNx) (L9 (uS (m9 6 (t5 k8 0 (eV 4)))) (L9 (uS (m9 7 (eB d6 (eV 6) (eC (.int 0))))) (L9 (uS (m9 8 (eB t8 (eB D4 (eV 5) (eC (.int 7))) (eB V9 (eC (.int 10)) (eC (.int 41)))))) (L9 (uS (m9 9 (eB d6 (eT (aC (eB d6 (eV 6) (eC (.int 1))) (aC (eC (.int 0)) (aC (eB w4 (eB d6 (eV 6) (eC (.int 1))) (eC (.int 1))) (aC (eB w9 (eB d6 (eV 6) (eC (.int 1))) (eC (.int 1))) (aC (eV 8) (aC (eU a0v (eV 8)) (aC (eB w4 (eB d6 (eV 6) (eC (.int 1))) (eV 8)) aN)))))))) (eB t8 (eV 5) (eC (.int 7)))))) (L9 (uS (n8 (bZ (eB (u6 false) (eB t8 (eV 5) (eC (.int 7))) (eC (.int 0)))) (m9 7 (eB d6 (eT (aC (eC (.str "up")) (aC (eC (.str "across")) aN))) (V7 (g1 a1E) (aC (eB (u6 false) (eV 7) (eC (.str "up"))) aN)))) r9)) (a3i 0 (eV 4) (eT (aC (eV 7) (aC (eV 9) (aC (eB d6 (eV 6) (eC (.int 2))) (aC (eB d6 (eV 6) (eC (.int 3))) aN))))))))))))))
noncomputable def I0:DE→Option DE:=fU 10 a80
theorem J3:FnScope ["_law_nodes","_law_ends","_law_cell_here","_law_many","_law_at","_law_rest","_law_node","_law_word","_law_far","_law_new"] ["_law_nodes","_law_ends","_law_cell_here","_law_many"] (d9 S4):=⟨rfl,rfl,rfl,by decide +kernel,rfl,by decide +kernel,by decide +kernel⟩
theorem a7f{f:Addr}{fd:FuncData}(F:Fun K "_law_spoilt" "_law_spoilt" S4 f fd)(T:Txt K mg c)(G_l_end_spoilt:Own P w K mg base 3 "_law_end_spoilt" ["_law_end","_law_cell_here","_law_many"] (i9 K c E5)):FnOk P w K mg base (y8 P w) 5 f fd ["_law_nodes","_law_ends","_law_cell_here","_law_many"] (spU K c 4 [0,1] I0) :=
 F.okU (k:=4) (pp:=[0,1]) J3 fun cdv A outer s H E hr=>⟨_,(d7 (k7 (i:=4) J3.nd rfl (Or.inl rfl) (i6 B0 (pv 2) (l3 (k9 (K:=K)) rfl T.z_len C0 (a6 (pv 0) d5)))) (d7 (k7 (i:=5) J3.nd rfl (Or.inl rfl) (i6 A8 (i6 E3 (pv 2) a9) (i6 B0 (pv 2) a9))) (d7 (t4 (l6 a9g (g4 (l5 (K:=K)) (pv 0) (pv 4) (fun _ _=>rfl)) O4 (l4 _)) (d7 (M8 (m8 G_l_end_spoilt hr (by decide) t6 (a6 (g4 (l5 (K:=K)) (pv 1) (pv 4) (fun _ _=>rfl)) (a6 (pv 5) (a6 (pv 3) d5)))) (a09 (pv 1) (pv 4) X2)) (g8 b2H)) k6) (d7 (k7 (i:=6) J3.nd rfl (Or.inl rfl) (g4 (l5 (K:=K)) (pv 0) (pv 4) (fun _ _=>rfl))) (d7 (k7 (i:=7) J3.nd rfl (Or.inl rfl) (g4 (f9 (K:=K)) (pv 6) a9 (fun _ _=>rfl))) (d7 (k7 (i:=8) J3.nd rfl (Or.inl rfl) (i6 B0 (i6 E3 (pv 5) a9) (i6 a3y a9 a9))) (d7 (k7 (i:=9) J3.nd rfl (Or.inl rfl) (g4 (f9 (K:=K)) (i7 (a6 (g4 (f9 (K:=K)) (pv 6) a9 (fun _ _=>rfl)) (a6 a9 (a6 (i6 A8 (g4 (f9 (K:=K)) (pv 6) a9 (fun _ _=>rfl)) a9) (a6 (i6 F7 (g4 (f9 (K:=K)) (pv 6) a9 (fun _ _=>rfl)) a9) (a6 (pv 8) (a6 (a8e a53 (pv 8)) (a6 (i6 A8 (g4 (f9 (K:=K)) (pv 6) a9 (fun _ _=>rfl)) (pv 8)) d5)))))))) (i6 B0 (pv 5) a9) (fun _ _=>rfl))) (d7 (t4 (l6 G8 (i6 B0 (pv 5) a9) a9 (l4 _)) (g8 (k7 (i:=7) J3.nd rfl (Or.inl rfl) (g4 (f9 (K:=K)) (i7 (a6 w6 (a6 w6 d5))) (a0M a5a rfl T.z_int a3J (a6 (D9 G8 (pv 7) w6 (l4 _)) d5)) (fun _ _=>rfl)))) k6) (g8 (M8 (i7 (a6 (pv 7) (a6 (pv 9) (a6 (g4 (f9 (K:=K)) (pv 6) a9 (fun _ _=>rfl)) (a6 (g4 (f9 (K:=K)) (pv 6) a9 (fun _ _=>rfl)) d5))))) (a09 (pv 0) (pv 4) X2))))))))))),(W5 (a3j (x9 (b0 B1 a8 (E8 C1)))) (W5 (a3j (x9 (b0 A9 (b0 N4 a8 b9) (b0 B1 a8 b9)))) (W5 (b6d (v8 (b0 a9K (t9 u0 a8) b9)) (W5 (a98 (by decide) (r6 (a7 (t9 u0 a8) (a7 a8 (a7 a8 g7)))) a8) b5w) b6c) (W5 (a3j (x9 (t9 u0 a8))) (W5 (a3j (x9 (b0 g6 a8 b9))) (W5 (a3j (x9 (b0 B1 (b0 N4 a8 b9) (b0 a3Z b9 b9)))) (W5 (a3j (x9 (b0 g6 (l9 (a7 (b0 g6 a8 b9) (a7 b9 (a7 (b0 A9 (b0 g6 a8 b9) b9) (a7 (b0 F8 (b0 g6 a8 b9) b9) (a7 a8 (a7 (a8A a6k a8) (a7 (b0 A9 (b0 g6 a8 b9) a8) g7)))))))) (b0 B1 a8 b9)))) (W5 (a3j (m3 (v8 (b0 G9 (b0 B1 a8 b9) b9)) (x9 (b0 g6 (l9 (a7 b9 (a7 b9 g7))) (V8 a7P.cb (a7 (b0 G9 a8 b9) g7)))) u3)) (a98 (by decide) (l9 (a7 a8 (a7 a8 (a7 (b0 g6 a8 b9) (a7 (b0 g6 a8 b9) g7))))) a8)))))))))⟩
noncomputable def a5K:SF:=(g0 (m9 4 (eB d6 (eV 2) (eC (.int 1)))) (g0 (n8 (S7 (bZ (eB gLt (eV 4) (eC (.int 0)))) (S7 (bZ (eB gGe (eV 4) (B5 v5 0))) (bZ (eBW (W9 false) (eV 4) 3)))) (j0 (eC (.bl true))) r9) (g0 (n8 (Z9 (bZ (eB d6 (eV 2) (eC (.int 2)))) (B4 (bZ (eB d6 (t5 k8 0 (eV 4)) (eC (.int 2)))))) (j0 (eC (.bl true))) r9) (g0 (m9 5 (eB w9 (eB d6 (eV 1) (eC (.int 2))) (eB d6 (eV 1) (eC (.int 0))))) (g0 (m9 6 (eB w9 (eB d6 (eV 1) (eC (.int 3))) (eB d6 (eV 1) (eC (.int 1))))) (g0 (n8 (bZ (eB d6 (eV 2) (eC (.int 2)))) (j0 (eB (K3 true) (eT (aC (eB d6 (t5 k8 0 (eV 4)) (eC (.int 1))) (aC (eB d6 (t5 k8 0 (eV 4)) (eC (.int 0))) aN))) (eT (aC (eV 5) (aC (eV 6) aN))))) r9) (j0 (eB (K3 true) (eT (aC (eB d6 (t5 k8 0 (eV 4)) (eC (.int 0))) (aC (eB d6 (t5 k8 0 (eV 4)) (eC (.int 1))) aN))) (eT (aC (eV 5) (aC (eV 6) aN)))))))))))
noncomputable def z8:List D→Option R1:=fD 7 4 a5K
theorem S6:FnScope ["_law_wares","_law_spot","_law_end","_law_told","_law_k","_law_w","_law_h"] ["_law_wares","_law_spot","_law_end","_law_told"] (d9 K7):=⟨rfl,rfl,rfl,by decide +kernel,rfl,by decide +kernel,by decide +kernel⟩
theorem a43{f:Addr}{fd:FuncData}(F:Fun K "_law_end_fault" "_law_end_fault" K7 f fd)(T:Txt K mg c)  : FnOk P w K mg base (y8 P w) 3 f fd ["_law_wares","_law_spot","_law_end","_law_told"] (i9 K c z8) :=
 F.okD (k:=2) S6 fun cdv A outer s H E hr=>⟨_,(d7 (k7 (i:=4) S6.nd rfl (Or.inl rfl) (g4 (f9 (K:=K)) (pv 2) a9 (fun _ _=>rfl))) (d7 (t4 (PW.pt (V4 (l6 a1p (pv 4) a9 (l4 _)) (V4 (l6 a8g (pv 4) (l3 (k9 (K:=K)) rfl T.z_len C0 (a6 (pv 0) d5)) (l4 _)) (a0p (l6 (a9x (K:=K)) (pv 4) (pv 3) (by with_unfolding_all rfl)))))) (g8 (j5 Y7)) k6) (d7 (t4 (PW.pt (a13 (A3 (g4 (f9 (K:=K)) (pv 2) a9 (fun _ _=>rfl))) (a2C (D5 (A3 (g4 (f9 (K:=K)) (g4 (l5 (K:=K)) (pv 0) (pv 4) (fun _ _=>rfl)) a9 (fun _ _=>rfl))))))) (g8 (j5 Y7)) k6) (d7 (k7 (i:=5) S6.nd rfl (Or.inl rfl) (i6 F7 (g4 (f9 (K:=K)) (pv 1) a9 (fun _ _=>rfl)) (g4 (f9 (K:=K)) (pv 1) a9 (fun _ _=>rfl)))) (d7 (k7 (i:=6) S6.nd rfl (Or.inl rfl) (i6 F7 (g4 (f9 (K:=K)) (pv 1) a9 (fun _ _=>rfl)) (g4 (f9 (K:=K)) (pv 1) a9 (fun _ _=>rfl)))) (d7 (t4 (A3 (g4 (f9 (K:=K)) (pv 2) a9 (fun _ _=>rfl))) (g8 (j5 (D9 (a4T (K:=K) (cl:=c) (a1H hr)) (i7 (a6 (g4 (f9 (K:=K)) (g4 (l5 (K:=K)) (pv 0) (pv 4) (fun _ _=>rfl)) a9 (fun _ _=>rfl)) (a6 (g4 (f9 (K:=K)) (g4 (l5 (K:=K)) (pv 0) (pv 4) (fun _ _=>rfl)) a9 (fun _ _=>rfl)) d5))) (i7 (a6 (pv 5) (a6 (pv 6) d5))) (l4 _)))) k6) (g8 (j5 (D9 (a4T (K:=K) (cl:=c) (a1H hr)) (i7 (a6 (g4 (f9 (K:=K)) (g4 (l5 (K:=K)) (pv 0) (pv 4) (fun _ _=>rfl)) a9 (fun _ _=>rfl)) (a6 (g4 (f9 (K:=K)) (g4 (l5 (K:=K)) (pv 0) (pv 4) (fun _ _=>rfl)) a9 (fun _ _=>rfl)) d5))) (i7 (a6 (pv 5) (a6 (pv 6) d5))) (l4 _)))))))))),(g9 (x9 (b0 g6 a8 b9)) (g9 (m3 (Q4 (v8 (b0 a1y a8 b9)) (Q4 (v8 (b0 a8B a8 (E8 C1))) (v8 (a9I a8O a8)))) (j8 b9) u3) (g9 (m3 (a1c (B8 (b0 g6 a8 b9)) (C5 (B8 (b0 g6 (t9 u0 a8) b9)))) (j8 b9) u3) (g9 (x9 (b0 F8 (b0 g6 a8 b9) (b0 g6 a8 b9))) (g9 (x9 (b0 F8 (b0 g6 a8 b9) (b0 g6 a8 b9))) (g9 (m3 (B8 (b0 g6 a8 b9)) (j8 (b0 a1f (l9 (a7 (b0 g6 (t9 u0 a8) b9) (a7 (b0 g6 (t9 u0 a8) b9) g7))) (l9 (a7 a8 (a7 a8 g7))))) u3) (j8 (b0 a1f (l9 (a7 (b0 g6 (t9 u0 a8) b9) (a7 (b0 g6 (t9 u0 a8) b9) g7))) (l9 (a7 a8 (a7 a8 g7)))))))))))⟩
noncomputable def b0k:SF:=(g0 (w8 3 (eL (aC (eT (aC (eT (aC (eC (.int 0)) (aC (eC (.int 0)) (aC (eB d6 (eV 0) (eC (.int 0))) (aC (eB d6 (eV 0) (eC (.int 1))) aN))))) (aC (eV 2) aN))) aN))) (g0 (w8 4 (eL aN)) (g0 (D7 (bZ (eB gGt (B5 v5 3) (eC (.int 0)))) (g0 (a05 (a3f 3) (C7 [(h7 5),(h7 6)])) (n8 (bZ (eB (u6 false) (eB d6 (eV 6) (eC (.int 0))) (eC (.str "ware")))) (g0 (n8 (a1J (bZ (h9 z8 (aC (eV 1) (aC (eV 5) (aC (eV 6) (aC (eV 4) aN))))))) (j0 (eT (aC (eC (.str "ware")) (aC (eB d6 (eV 6) (eC (.int 1))) aN)))) r9) (E4 4 (eB d6 (eV 6) (eC (.int 1))))) (n8 (bZ (eB (u6 true) (eB d6 (eV 6) (eC (.int 0))) (eC (.str "waste")))) (g0 (m9 7 (V7 (g1 a1E) (aC (eB (u6 false) (eB d6 (eV 6) (eC (.int 0))) (eC (.str "up"))) aN))) (g0 (n8 (B4 (bZ (a37 gLe gLt (eC (.int 1)) (eB d6 (eV 6) (eC (.int 1))) (eB w9 (eB d6 (eV 5) (eB w4 (eV 7) (eC (.int 2)))) (eB d6 (eV 5) (eV 7)))))) (j0 (eT (aC (eC (.str "cut")) (aC (eB d6 (eV 6) (eC (.int 1))) aN)))) r9) (g0 (K0 8 y9 (aC (eV 5) (aC (eV 7) (aC (eB d6 (eV 6) (eC (.int 1))) aN)))) (g0 (E4 3 (eT (aC (eB d6 (eV 8) (eC (.int 1))) (aC (eB d6 (eV 6) (eC (.int 3))) aN)))) (E4 3 (eT (aC (eB d6 (eV 8) (eC (.int 0))) (aC (eB d6 (eV 6) (eC (.int 2))) aN)))))))) r9))) 1000000) (g0 (R7 W1 (aC (B5 v5 1) aN) (h7 9) (n8 (bZ (eBW (W9 true) (eV 9) 4)) (j0 (eT (aC (eC (.str "lacks")) (aC (eV 9) aN)))) r9)) (j0 (eC .non))))))
noncomputable def Q7:List D→Option R1:=fD 10 3 b0k
theorem L6:FnScope ["_law_box","_law_wares","_law_plan","_law_left","_law_told","_law_spot","_law_piece","_law_way","_law_parts_here","_law_k"] ["_law_box","_law_wares","_law_plan"] (d9 V2):=⟨rfl,rfl,rfl,by decide +kernel,rfl,by decide +kernel,by decide +kernel⟩
theorem a81{f:Addr}{fd:FuncData}(F:Fun K "_law_fault" "_law_fault" V2 f fd)(T:Txt K mg c)(G_l_end_fault:Own P w K mg base 3 "_law_end_fault" ["_law_wares","_law_spot","_law_end","_law_told"] (i9 K c z8))(G_l_parts:Own P w K mg base 3 "_law_parts" ["_law_spot","_law_way","_law_at"] (i9 K c y9)):FnOk P w K mg base (y8 P w) 5 f fd ["_law_box","_law_wares","_law_plan"] (i9 K c Q7) :=
 F.okD (k:=4) L6 fun cdv A outer s H E hr=>⟨_,(d7 (k7 (i:=3) L6.nd rfl (Or.inl rfl) (T4 (a6 (i7 (a6 (i7 (a6 a9 (a6 a9 (a6 (g4 (f9 (K:=K)) (pv 0) a9 (fun _ _=>rfl)) (a6 (g4 (f9 (K:=K)) (pv 0) a9 (fun _ _=>rfl)) d5))))) (a6 (pv 2) d5))) d5))) (d7 (k7 (i:=4) L6.nd rfl (Or.inl rfl) (T4 d5)) (d7 (a51 PassesOwn.leaving (l6 a3A (l3 (k9 (K:=K)) rfl T.z_len C0 (a6 (pv 3) d5)) a9 (l4 _)) (d7 (M8 (a7x (K:=K) PySem.F.plainAttrs_list PySem.F.slot_list_pop PySem.F.type_list_pop a9q (pv 3)) (P4 (K:=K) (n:=2) rfl (u7 (m5 (i:=5) L6.nd rfl (Or.inl rfl)) (u7 (m5 (i:=6) L6.nd rfl (Or.inl rfl)) P0)))) (g8 (t4 (l6 G8 (g4 (f9 (K:=K)) (pv 6) a9 (fun _ _=>rfl)) w6 (l4 _)) (d7 (t4 (A3 (m8 G_l_end_fault hr (by decide) t6 (a6 (pv 1) (a6 (pv 5) (a6 (pv 6) (a6 (pv 4) d5)))))) (g8 (j5 (i7 (a6 w6 (a6 (g4 (f9 (K:=K)) (pv 6) a9 (fun _ _=>rfl)) d5))))) k6) (g8 (J6 (M9 (K:=K) PySem.F.plainAttrs_list PySem.F.slot_list_append PySem.F.type_list_append C9 (pv 4) (a6 (g4 (f9 (K:=K)) (pv 6) a9 (fun _ _=>rfl)) d5))))) (g8 (t4 (l6 a3z (g4 (f9 (K:=K)) (pv 6) a9 (fun _ _=>rfl)) w6 (l4 _)) (d7 (k7 (i:=7) L6.nd rfl (Or.inl rfl) (a0M a5a rfl T.z_int a3J (a6 (D9 G8 (g4 (f9 (K:=K)) (pv 6) a9 (fun _ _=>rfl)) w6 (l4 _)) d5))) (d7 (t4 (D5 (b0H b50 a1p a9 (g4 (f9 (K:=K)) (pv 6) a9 (fun _ _=>rfl)) (i6 F7 (g4 (f9 (K:=K)) (pv 5) (i6 A8 (pv 7) a9) (fun _ _=>rfl)) (g4 (f9 (K:=K)) (pv 5) (pv 7) (fun _ _=>rfl))))) (g8 (j5 (i7 (a6 w6 (a6 (g4 (f9 (K:=K)) (pv 6) a9 (fun _ _=>rfl)) d5))))) k6) (d7 (k7 (i:=8) L6.nd rfl (Or.inl rfl) (m8 G_l_parts hr (by decide) t6 (a6 (pv 5) (a6 (pv 7) (a6 (g4 (f9 (K:=K)) (pv 6) a9 (fun _ _=>rfl)) d5))))) (d7 (J6 (M9 (K:=K) PySem.F.plainAttrs_list PySem.F.slot_list_append PySem.F.type_list_append C9 (pv 3) (a6 (i7 (a6 (g4 (f9 (K:=K)) (pv 8) a9 (fun _ _=>rfl)) (a6 (g4 (f9 (K:=K)) (pv 6) a9 (fun _ _=>rfl)) d5))) d5))) (g8 (J6 (M9 (K:=K) PySem.F.plainAttrs_list PySem.F.slot_list_append PySem.F.type_list_append C9 (pv 3) (a6 (i7 (a6 (g4 (f9 (K:=K)) (pv 8) a9 (fun _ _=>rfl)) (a6 (g4 (f9 (K:=K)) (pv 6) a9 (fun _ _=>rfl)) d5))) d5)))))))) k6)))))) (d7 (Q0 PassesOwn.leaving rfl (Z5 rfl T.z_range (a6 (l3 (k9 (K:=K)) rfl T.z_len C0 (a6 (pv 1) d5)) d5)) (m5 (i:=9) L6.nd rfl (Or.inl rfl)) (g8 (t4 (l6 (a9y (K:=K)) (pv 9) (pv 4) (by with_unfolding_all rfl)) (g8 (j5 (i7 (a6 w6 (a6 (pv 9) d5))))) k6))) (g8 (j5 O4)))))),(g9 (G1 (a03 (a7 (l9 (a7 (l9 (a7 b9 (a7 b9 (a7 (b0 g6 a8 b9) (a7 (b0 g6 a8 b9) g7))))) (a7 a8 g7))) g7))) (g9 (G1 (a03 g7)) (g9 (a6q (v8 (b0 a30 (E8 C1) b9)) (g9 (a2k a90 (V0 (A5 (n6 (k:=10) (by decide)) (A5 (n6 (k:=10) (by decide)) U9)) rfl)) (m3 (v8 (b0 G9 (b0 g6 a8 b9) b9)) (g9 (m3 (a6B (B8 (r6 (a7 a8 (a7 a8 (a7 a8 (a7 a8 g7))))))) (j8 (l9 (a7 b9 (a7 (b0 g6 a8 b9) g7)))) u3) (O5 (b0 g6 a8 b9))) (m3 (v8 (b0 a31 (b0 g6 a8 b9) b9)) (g9 (x9 (V8 a7P.cb (a7 (b0 G9 (b0 g6 a8 b9) b9) g7))) (g9 (m3 (C5 (v8 (b1d b59 a1y b9 (b0 g6 a8 b9) (b0 F8 (b0 g6 a8 (b0 A9 a8 b9)) (b0 g6 a8 a8))))) (j8 (l9 (a7 b9 (a7 (b0 g6 a8 b9) g7)))) u3) (g9 (a1B (a7 a8 (a7 a8 (a7 (b0 g6 a8 b9) g7)))) (g9 (O5 (l9 (a7 (b0 g6 a8 b9) (a7 (b0 g6 a8 b9) g7)))) (O5 (l9 (a7 (b0 g6 a8 b9) (a7 (b0 g6 a8 b9) g7)))))))) u3)))) (g9 (a0x (a7 (E8 C1) g7) (n6 (k:=10) (by decide)) (m3 (v8 (a9I a8O a8)) (j8 (l9 (a7 b9 (a7 a8 g7)))) u3)) (j8 b9)))))⟩
noncomputable def b1J:SF:=(g0 (n8 (S7 (B4 (bZ (a0g 0 "list"))) (bZ (eB (u6 true) (B5 v5 0) (B5 v5 1)))) (j0 (eC (.bl false))) r9) (g0 (a1D 0 (h7 2) (g0 (n8 (S7 (B4 (bZ (a0g 2 "tuple"))) (S7 (bZ (eB (u6 true) (B5 v5 2) (eC (.int 3)))) (B4 (bZ (V7 a3d (aC (eB d6 (eV 2) (eC (.int 2))) (aC (eC (.ty "bool")) aN))))))) (j0 (eC (.bl false))) r9) (n8 (S7 (B4 (bZ (h9 D1 (aC (eB d6 (eV 2) (eC (.int 0))) aN)))) (B4 (bZ (h9 D1 (aC (eB d6 (eV 2) (eC (.int 1))) aN))))) (j0 (eC (.bl false))) r9))) (j0 (a3a (K3 false) 0 1))))
noncomputable def Q8:List D→Option R1:=fD 3 2 b1J
theorem a5v:FnScope ["_law_found","_law_due","_law_place"] ["_law_found","_law_due"] (d9 Y2):=⟨rfl,rfl,rfl,by decide +kernel,rfl,by decide +kernel,by decide +kernel⟩
theorem b0l{f:Addr}{fd:FuncData}(F:Fun K "_law_same" "_law_same" Y2 f fd)(T:Txt K mg c)(G_l_whole:Own P w K mg base 3 "_law_whole" ["_law_found"] (i9 K c D1)):FnOk P w K mg base (y8 P w) 5 f fd ["_law_found","_law_due"] (i9 K c Q8) :=
 F.okD (k:=4) a5v fun cdv A outer s H E hr=>⟨_,(d7 (t4 (PW.pt (V4 (D5 (A3 (l3 (J0 (K:=K)) rfl T.z_isinstance z7 (a6 (pv 0) (a6 (Q9 (v:=.ty "list") rfl T.z_list a4C rfl) d5))))) (a0p (l6 a3z (l3 (k9 (K:=K)) rfl T.z_len C0 (a6 (pv 0) d5)) (l3 (k9 (K:=K)) rfl T.z_len C0 (a6 (pv 1) d5)) (l4 _))))) (g8 (j5 Y7)) k6) (d7 (Q0 PassesOwn.leaving rfl (U7 (pv 0)) (m5 (i:=2) a5v.nd rfl (Or.inl rfl)) (d7 (t4 (PW.pt (V4 (D5 (A3 (l3 (J0 (K:=K)) rfl T.z_isinstance z7 (a6 (pv 2) (a6 (Q9 (v:=.ty "tuple") rfl T.z_tuple a6b rfl) d5))))) (V4 (l6 a3z (l3 (k9 (K:=K)) rfl T.z_len C0 (a6 (pv 2) d5)) a9 (l4 _)) (a0p (D5 (A3 (l3 (J0 (K:=K)) rfl T.z_isinstance z7 (a6 (g4 (f9 (K:=K)) (pv 2) a9 (fun _ _=>rfl)) (a6 (Q9 (v:=.ty "bool") rfl T.z_bool a4B rfl) d5))))))))) (g8 (j5 Y7)) k6) (g8 (t4 (PW.pt (V4 (D5 (A3 (m8 G_l_whole hr (by decide) t6 (a6 (g4 (f9 (K:=K)) (pv 2) a9 (fun _ _=>rfl)) d5)))) (a0p (D5 (A3 (m8 G_l_whole hr (by decide) t6 (a6 (g4 (f9 (K:=K)) (pv 2) a9 (fun _ _=>rfl)) d5))))))) (g8 (j5 Y7)) k6)))) (g8 (j5 (D9 (a4S (K:=K) (cl:=c) (a1H hr)) (pv 0) (pv 1) (l4 _)))))),(g9 (m3 (Q4 (C5 (B8 a0i)) (v8 (b0 a31 (E8 C1) (E8 C1)))) (j8 b9) u3) (g9 (a4N (n6 (k:=3) (by decide)) (g9 (m3 (Q4 (C5 (B8 a0i)) (Q4 (v8 (b0 a31 (E8 C1) b9)) (C5 (B8 (V8 a9S (a7 (b0 g6 a8 b9) (a7 b9 g7))))))) (j8 b9) u3) (m3 (Q4 (C5 (B8 (r6 (a7 (b0 g6 a8 b9) g7)))) (C5 (B8 (r6 (a7 (b0 g6 a8 b9) g7))))) (j8 b9) u3))) (j8 (a7E a1f))))⟩
noncomputable def a4n:SF:=(g0 (n8 (bZ (V7 (a5S xT) (aC (eV 0) (aC (eT (aC (eC (.cls "BadPacking")) (aC (eC (.cls "BadSide")) (aC (eC (.cls "BadTurn")) (aC (eC (.cls "Full")) (aC (eC (.cls "Hangs")) (aC (eC (.cls "NoDeed")) (aC (eC (.cls "NoDrawing")) (aC (eC (.cls "NoPicker")) (aC (eC (.cls "NoSheet")) aN)))))))))) aN)))) (j0 (eT (aC (eC (.str "other")) (aC (eC (.int 0)) aN)))) r9) (g0 (n8 (bZ (V7 (a5S xT) (aC (eV 0) (aC (eT (aC (eC (.cls "NoText")) (aC (eC (.cls "NoWare")) (aC (eC (.cls "NoWeighing")) (aC (eC (.cls "NothingDone")) (aC (eC (.cls "Ring")) (aC (eC (.cls "TooMany")) (aC (eC (.cls "TooWide")) aN)))))))) aN)))) (j0 (eT (aC (eC (.str "other")) (aC (eC (.int 0)) aN)))) r9) (g0 (n8 (B4 (bZ (V7 (a5T x1 x2) (aC (eV 0) (aC (eC (.ty "ValueError")) aN))))) (j0 (eT (aC (eC (.str "other")) (aC (eC (.int 0)) aN)))) r9) (g0 (n8 (S7 (B4 (bZ (V7 (a5T x1 x2) (aC (eV 0) (aC (eC (.cls "BadPlan")) aN))))) (S7 (B4 (bZ (V7 a3d (aC (eU (a2u a0I "why") (eV 0)) (aC (eC (.ty "tuple")) aN))))) (bZ (eB (u6 true) (V7 (g1 v5) (aC (eU (a2u a0I "why") (eV 0)) aN)) (eC (.int 2)))))) (j0 (eT (aC (eC (.str "other")) (aC (eC (.int 0)) aN)))) r9) (g0 (n8 (B4 (bZ (h9 D1 (aC (eB d6 (eU (a2u a0I "why") (eV 0)) (eC (.int 1))) aN)))) (j0 (eT (aC (eC (.str "other")) (aC (eC (.int 0)) aN)))) r9) (j0 (eU (a2u a0I "why") (eV 0))))))))
noncomputable def L7:List D→Option R1:=fD 1 1 a4n
theorem a7g:FnScope ["_law_refusal"] ["_law_refusal"] (d9 S5):=⟨rfl,rfl,rfl,by decide +kernel,rfl,by decide +kernel,by decide +kernel⟩
theorem a7h{f:Addr}{fd:FuncData}(F:Fun K "_law_why_of" "_law_why_of" S5 f fd)(T:Txt K mg c)(GW_l_whole:OwnW P w K mg base 3 "_law_whole" ["_law_found"] (i9 K c D1)):FnOkW P w K mg base 5 f fd ["_law_refusal"] (i9 K c L7) :=
 F.okWD (k:=4) a7g fun cdv A outer s H hr=>⟨_,(d7 (t4 (A3 (l3 (a3N (K:=K)) rfl T.z_isinstance z7 (a6 (pv 0) (a6 (i7 (a6 (C8 (v:=.ref (c "BadPacking")) rfl T.m_BadPacking rfl) (a6 (C8 (v:=.ref (c "BadSide")) rfl T.m_BadSide rfl) (a6 (C8 (v:=.ref (c "BadTurn")) rfl T.m_BadTurn rfl) (a6 (C8 (v:=.ref (c "Full")) rfl T.m_Full rfl) (a6 (C8 (v:=.ref (c "Hangs")) rfl T.m_Hangs rfl) (a6 (C8 (v:=.ref (c "NoDeed")) rfl T.m_NoDeed rfl) (a6 (C8 (v:=.ref (c "NoDrawing")) rfl T.m_NoDrawing rfl) (a6 (C8 (v:=.ref (c "NoPicker")) rfl T.m_NoPicker rfl) (a6 (C8 (v:=.ref (c "NoSheet")) rfl T.m_NoSheet rfl) d5)))))))))) d5)))) (g8 (j5 (i7 (a6 w6 (a6 a9 d5))))) k6) (d7 (t4 (A3 (l3 (a3N (K:=K)) rfl T.z_isinstance z7 (a6 (pv 0) (a6 (i7 (a6 (C8 (v:=.ref (c "NoText")) rfl T.m_NoText rfl) (a6 (C8 (v:=.ref (c "NoWare")) rfl T.m_NoWare rfl) (a6 (C8 (v:=.ref (c "NoWeighing")) rfl T.m_NoWeighing rfl) (a6 (C8 (v:=.ref (c "NothingDone")) rfl T.m_NothingDone rfl) (a6 (C8 (v:=.ref (c "Ring")) rfl T.m_Ring rfl) (a6 (C8 (v:=.ref (c "TooMany")) rfl T.m_TooMany rfl) (a6 (C8 (v:=.ref (c "TooWide")) rfl T.m_TooWide rfl) d5)))))))) d5)))) (g8 (j5 (i7 (a6 w6 (a6 a9 d5))))) k6) (d7 (t4 (D5 (A3 (l3 (J0 (K:=K)) rfl T.z_isinstance z7 (a6 (pv 0) (a6 (Q9 (v:=.ty "ValueError") rfl T.z_ValueError a5G rfl) d5))))) (g8 (j5 (i7 (a6 w6 (a6 a9 d5))))) k6) (d7 (t4 (PW.pt (V4 (D5 (A3 (l3 (J0 (K:=K)) rfl T.z_isinstance z7 (a6 (pv 0) (a6 (C8 (v:=.ref (c "BadPlan")) rfl T.m_BadPlan rfl) d5))))) (V4 (D5 (A3 (l3 (J0 (K:=K)) rfl T.z_isinstance z7 (a6 (a3W (pv 0) rfl) (a6 (Q9 (v:=.ty "tuple") rfl T.z_tuple a6b rfl) d5))))) (a0p (l6 a3z (l3 (k9 (K:=K)) rfl T.z_len C0 (a6 (a3W (pv 0) rfl) d5)) a9 (l4 _)))))) (g8 (j5 (i7 (a6 w6 (a6 a9 d5))))) k6) (d7 (t4 (D5 (A3 (a7u GW_l_whole hr (a6 (g4 (f9 (K:=K)) (a3W (pv 0) rfl) a9 (fun _ _=>rfl)) d5)))) (g8 (j5 (i7 (a6 w6 (a6 a9 d5))))) k6) (g8 (j5 (a3W (pv 0) rfl)))))))),(g9 (m3 (B8 (V8 (a7K (b2q T)) (a7 a8 (a7 (l9 (a7 b9 (a7 b9 (a7 b9 (a7 b9 (a7 b9 (a7 b9 (a7 b9 (a7 b9 (a7 b9 g7)))))))))) g7)))) (j8 (l9 (a7 b9 (a7 b9 g7)))) u3) (g9 (m3 (B8 (V8 (a7K (b2q T)) (a7 a8 (a7 (l9 (a7 b9 (a7 b9 (a7 b9 (a7 b9 (a7 b9 (a7 b9 (a7 b9 g7)))))))) g7)))) (j8 (l9 (a7 b9 (a7 b9 g7)))) u3) (g9 (m3 (C5 (B8 (V8 (a7L (b2r T) (b2s T)) (a7 a8 (a7 b9 g7))))) (j8 (l9 (a7 b9 (a7 b9 g7)))) u3) (g9 (m3 (Q4 (C5 (B8 (V8 (a7L (b2r T) (b2s T)) (a7 a8 (a7 b9 g7))))) (Q4 (C5 (B8 (V8 a9S (a7 (a4f (a0X T) a8) (a7 b9 g7))))) (v8 (b0 a31 (V8 C1.cb (a7 (a4f (a0X T) a8) g7)) b9)))) (j8 (l9 (a7 b9 (a7 b9 g7)))) u3) (g9 (m3 (C5 (B8 (b1c (a7 (b0 g6 (a4f (a0X T) a8) b9) g7)))) (j8 (l9 (a7 b9 (a7 b9 g7)))) u3) (j8 (a4f (a0X T) a8)))))))⟩
noncomputable def b4e:SF:=(g0 (m9 3 (eC .non)) (g0 (a4a A2 (aC (eV 0) (aC (eV 1) (aC (eV 2) aN))) (hAs 4 K8 (K0 3 L7 (aC (eV 4) aN)) hN)) (Z1 3)))
noncomputable def Y3:List D→Option R1:=fD 5 3 b4e
theorem a1P:FnScope ["_law_box","_law_wares","_law_plan","_law_told","e"] ["_law_box","_law_wares","_law_plan"] (d9 a0o):=⟨rfl,rfl,rfl,by decide +kernel,rfl,by decide +kernel,by decide +kernel⟩
theorem b1K{f:Addr}{fd:FuncData}(F:Fun K "_law_why" "_law_why" a0o f fd)(T:Txt K mg c)(G_l_why_of:OwnW P w K mg base 5 "_law_why_of" ["_law_refusal"] (i9 K c L7))(G_cut_places:Own P w K mg base 9 "cut_places" ["box","wares","plan"] (i9 K c A2)):FnOk P w K mg base (y8 P w) 11 f fd ["_law_box","_law_wares","_law_plan"] (i9 K c Y3) :=
 F.okD (k:=10) a1P fun cdv A outer s H E hr=>⟨_,(d7 (k7 (i:=3) a1P.nd rfl (Or.inl rfl) O4) (d7 (b2X G_cut_places hr (by decide) (fun E2 pins=>(a6 (pv 0) (a6 (pv 1) (a6 (pv 2) d5)))) (b53 rfl T.m_CrateError a1P.nd (i:=4) rfl (fun a=>(g8 (k7 (i:=3) a1P.nd rfl (Or.inl rfl) (a7u G_l_why_of (hr.w _) (a6 (pv 4) d5))))) b4W)) (g8 (j5 (pv 3))))),(g9 (x9 b9) (g9 (b33 (a7 a8 (a7 a8 (a7 a8 g7))) (b5p (a3n T) (fun a=>(b3d (a7 a8 g7))) b6b)) a4M))⟩
noncomputable def b6f:SF:=(g0 (m9 1 (eT (aC (h9 M1 (aC (h9 A6 (aC (eV 0) (aC (eC (.int 0)) aN))) aN)) (aC (h9 M1 (aC (h9 A6 (aC (eV 0) (aC (eC (.int 1)) aN))) aN)) aN)))) (g0 (a2M 2 3 U5 (aC (eV 1) (aC (zN (a8N 0 (oS (eC (.int 6))) (oS (eC (.int 56))))) aN))) (g0 (a1h 4 5 6 O3 (aC (eV 2) (aC (eV 3) (aC (h9 A6 (aC (eV 0) (aC (eC (.int 2)) aN))) aN)))) (g0 (w8 7 (a0z 6 1 [2,5] (h7 0) a0S (eT (aC (eB d6 (t5 k8 1 (eV 0)) (eC (.int 0))) (aC (eB d6 (t5 k8 1 (eV 0)) (eC (.int 1))) (aC (eB d6 (t5 k8 2 (eV 0)) (eC (.int 2))) aN)))))) (g0 (m9 8 (a1I (h9 L5 (aC (eV 3) (aC (eV 5) aN))))) (g0 (w8 9 (nCV a1z 4)) (g0 (n8 (B4 (bZ (h9 Q8 (aC (Z0 A2 (aC (eV 1) (aC (eV 9) (aC (eV 8) aN)))) (aC (eV 7) aN))))) (j0 (eC (.bl false))) r9) (g0 (R7 W1 (aC (eB w4 (eC (.int 1)) (eB t8 (h9 A6 (aC (eV 0) (aC (eC (.int 3)) aN))) (eC (.int 2)))) aN) (h7 10) (a2q 4 [0,1] I0 (auM 3 (auM 5 (auE (h9 A6 (aC (eV 0) (aC (eB w4 (eC (.int 4)) (eV 10)) aN))) (auE (B5 v5 4) auN)))))) (g0 (m9 11 (a1I (h9 L5 (aC (eV 3) (aC (eV 5) aN))))) (g0 (n8 (bZ (eB (a08 true) (h9 Y3 (aC (eV 1) (aC (eV 9) (aC (eV 11) aN)))) (h9 Q7 (aC (eV 1) (aC (eV 4) (aC (eV 11) aN)))))) (j0 (eC (.bl false))) r9) (j0 (a2g (h9 Q8 (aC (Z0 A2 (aC (eV 1) (aC (eV 9) (aC (eV 8) aN)))) (aC (eV 7) aN))) (a3a (a08 false) 9 4)))))))))))))
noncomputable def b2t:List D→Option R1:=fD 12 1 b6f
theorem O9:FnScope ["_law_script","_law_box","_law_spots","_law_nodes","_law_wares","_law_ends","_law_order","_law_places","_law_plan","_law_handed","_law_k","_law_changed"] ["_law_script"] (d9 U0):=⟨rfl,rfl,rfl,by decide +kernel,rfl,by decide +kernel,by decide +kernel⟩
theorem b4f{TB:List (Addr×Str)}{f:Addr}{fd:FuncData}(F:Fun K "law" "law" U0 f fd)(T:Txt K mg c)(G_l_long:Own P w K mg base 3 "_law_long" ["_law_cell_here"] (i9 K c M1))(G_l_cell:Own P w K mg base 3 "_law_cell" ["_law_script","_law_k"] (i9 K c A6))(G_l_tree:Own P w K mg base 7 "_law_tree" ["_law_box","_law_cells"] (i9 K c U5))(G_l_filled:Own P w K mg base 8 "_law_filled" ["_law_spots","_law_nodes","_law_cell_here"] (spT TB (i9 K c O3)))(G_l_joined:Own P w K mg base 3 "_law_joined" ["_law_nodes","_law_ends"] (i9 K c L5))(G_l_same:Own P w K mg base 5 "_law_same" ["_law_found","_law_due"] (i9 K c Q8))(G_cut_places:Own P w K mg base 9 "cut_places" ["box","wares","plan"] (i9 K c A2))(G_l_spoilt:Own P w K mg base 5 "_law_spoilt" ["_law_nodes","_law_ends","_law_cell_here","_law_many"] (spU K c 4 [0,1] I0))(G_l_why:Own P w K mg base 11 "_law_why" ["_law_box","_law_wares","_law_plan"] (i9 K c Y3))(G_l_fault:Own P w K mg base 5 "_law_fault" ["_law_box","_law_wares","_law_plan"] (i9 K c Q7)):FnOk P w K mg base (y8 P w) 13 f fd ["_law_script"] (spT TB (i9 K c b2t)) :=
 F.okT (k:=12) O9 fun A outer s H E hT hr=>⟨_,(d7 (k7 (i:=1) O9.nd rfl (Or.inl rfl) (i7 (a6 (m8 G_l_long hr (by decide) t6 (a6 (m8 G_l_cell hr (by decide) t6 (a6 (pv 0) (a6 a9 d5))) d5)) (a6 (m8 G_l_long hr (by decide) t6 (a6 (m8 G_l_cell hr (by decide) t6 (a6 (pv 0) (a6 a9 d5))) d5)) d5)))) (d7 (M8 (m8 G_l_tree hr (by decide) t6 (a6 (pv 1) (a6 (b0I (b0W (K:=K)) (pv 0) (a7n a9) (a7n a9)) d5))) (P4 (K:=K) (n:=2) rfl (u7 (m5 (i:=2) O9.nd rfl (Or.inr rfl)) (u7 (m5 (i:=3) O9.nd rfl (Or.inl rfl)) P0)))) (d7 (M8 (b34 hT G_l_filled hr (by decide) t6 (a6 (pv 2) (a6 (pv 3) (a6 (m8 G_l_cell hr (by decide) t6 (a6 (pv 0) (a6 a9 d5))) d5)))) (P4 (K:=K) (n:=3) rfl (u7 (m5 (i:=4) O9.nd rfl (Or.inl rfl)) (u7 (m5 (i:=5) O9.nd rfl (Or.inr rfl)) (u7 (m5 (i:=6) O9.nd rfl (Or.inl rfl)) P0))))) (d7 (a3M (i:=7) (Nc:=["_law_k","_law_spots","_law_ends"]) (k:=1) (js:=[2,5]) rfl ⟨by decide +kernel,rfl,by decide +kernel,(by change ∀y∈Scope.names _,y.2=NameKind.free→(d9 U0).names.lookup y.1=some .cell∨(d9 U0).names.lookup y.1=some .free;decide +kernel),by decide +kernel,rfl,rfl,by decide +kernel⟩ O9.nd rfl (U7 (pv 6)) (fun _ _ _ _ _=>(m5 (i:=0) (by show List.Nodup [("_law_k" : Str),("_law_spots" : Str),("_law_ends" : Str)];decide +kernel) rfl (Or.inl rfl))) (fun _ _ _ _ _=>a9u) (fun _ _ _ _ _=>(i7 (a6 (g4 (f9 (K:=K)) (g4 (l5 (K:=K)) (pv 1) (pv 0) (fun _ _=>rfl)) a9 (fun _ _=>rfl)) (a6 (g4 (f9 (K:=K)) (g4 (l5 (K:=K)) (pv 1) (pv 0) (fun _ _=>rfl)) a9 (fun _ _=>rfl)) (a6 (g4 (f9 (K:=K)) (g4 (l5 (K:=K)) (pv 2) (pv 0) (fun _ _=>rfl)) a9 (fun _ _=>rfl)) d5)))))) (d7 (k7 (i:=8) O9.nd rfl (Or.inl rfl) (m8 G_l_joined hr (by decide) t6 (a6 (pv 3) (a6 (pv 5) d5)))) (d7 (k7 (i:=9) O9.nd rfl (Or.inl rfl) (a0M (a1R (K:=K)) rfl T.z_list a4C (a6 (pv 4) d5))) (d7 (t4 (D5 (A3 (m8 G_l_same hr (by decide) t6 (a6 (m8 G_cut_places hr (by decide) (XAcc.passes X3) (a6 (pv 1) (a6 (pv 9) (a6 (pv 8) d5)))) (a6 (pv 7) d5))))) (g8 (j5 Y7)) k6) (d7 (Q0 PassesOwn.leaving rfl (Z5 rfl T.z_range (a6 (i6 A8 a9 (i6 B0 (m8 G_l_cell hr (by decide) t6 (a6 (pv 0) (a6 a9 d5))) a9)) d5)) (m5 (i:=10) O9.nd rfl (Or.inl rfl)) (g8 (J6 (m8 G_l_spoilt hr (by decide) t6 (a6 (pv 3) (a6 (pv 5) (a6 (m8 G_l_cell hr (by decide) t6 (a6 (pv 0) (a6 (i6 A8 a9 (pv 10)) d5))) (a6 (l3 (k9 (K:=K)) rfl T.z_len C0 (a6 (pv 4) d5)) d5)))))))) (d7 (k7 (i:=11) O9.nd rfl (Or.inl rfl) (m8 G_l_joined hr (by decide) t6 (a6 (pv 3) (a6 (pv 5) d5)))) (d7 (t4 (l6 (b4b (K:=K) (cl:=c) (a1H hr)) (m8 G_l_why hr (by decide) t6 (a6 (pv 1) (a6 (pv 9) (a6 (pv 11) d5)))) (m8 G_l_fault hr (by decide) t6 (a6 (pv 1) (a6 (pv 4) (a6 (pv 11) d5)))) (l4 _)) (g8 (j5 Y7)) k6) (g8 (j5 (a15 (m8 G_l_same hr (by decide) t6 (a6 (m8 G_cut_places hr (by decide) (XAcc.passes X3) (a6 (pv 1) (a6 (pv 9) (a6 (pv 8) d5)))) (a6 (pv 7) d5))) (a14 (D9 (b4a (K:=K) (cl:=c) (a1H hr)) (pv 9) (pv 4) (l4 _)))))))))))))))),(g9 (x9 (l9 (a7 (r6 (a7 (r6 (a7 a8 (a7 b9 g7))) g7)) (a7 (r6 (a7 (r6 (a7 a8 (a7 b9 g7))) g7)) g7)))) (g9 (b0a (a7 a8 (a7 (b2b (b5i (b2h b9) (b2h b9))) g7))) (g9 (a9_ (a7 a8 (a7 a8 (a7 (r6 (a7 a8 (a7 b9 g7))) g7)))) (g9 (a36 (a6s (by decide) (n6 (k:=1) (by decide)) a6r (l9 (a7 (b0 g6 (t9 u0 a8) b9) (a7 (b0 g6 (t9 u0 a8) b9) (a7 (b0 g6 (t9 u0 a8) b9) g7)))))) (g9 (x9 (a6A (r6 (a7 a8 (a7 a8 g7))))) (g9 (G1 (a9J a7G)) (g9 (m3 (C5 (B8 (r6 (a7 (a2H (a7 a8 (a7 a8 (a7 a8 g7)))) (a7 a8 g7))))) (j8 b9) u3) (g9 (a0x (a7 (b0 A9 b9 (b0 B1 (r6 (a7 a8 (a7 b9 g7))) b9)) g7) (n6 (k:=12) (by decide)) (b1A (b2o (b2o (b2p (r6 (a7 a8 (a7 (b0 A9 b9 a8) g7))) (b2p (E8 C1) b6e)))))) (g9 (x9 (a6A (r6 (a7 a8 (a7 a8 g7))))) (g9 (m3 (v8 (b0 b5B (r6 (a7 a8 (a7 a8 (a7 a8 g7)))) (r6 (a7 a8 (a7 a8 (a7 a8 g7)))))) (j8 b9) u3) (j8 (a2h (r6 (a7 (a2H (a7 a8 (a7 a8 (a7 a8 g7)))) (a7 a8 g7))) (a7E b5A)))))))))))))⟩
end Law
namespace Law
open PySem L2 PyProof.Rows
variable {P:Program}{w:World}{K:PySem.W.Frag}{mg:Str→Option Value}{base:Heap}{c:Str→Addr}
local macro_rules|`(tactic|walk_at $s:str)=>do
 let t←`(tactic|simp(decide:=true)only[*,b5_,b3e,b3f,b3g,b3h,b3r,b3i,b3j,b3k,b3l,b1e,b3m,b3n,b5d,b1f,b1g,a9T,a9U,b1h,a8G,a8H,a9V,a9W,a9X,b1i,a8I,a8J,b3o,b3p,b3s,b3q,b3t,b1j,X5,b3u,b3v,a4P,b3x,b3w,b3y,a6u,N9,C4,b3V,b3W,b3X,b3Y,b30,b3Z,a5n,a9Z,a39,y0,a0y,a2I,a0z,b1l,b5k,b5l,b1m,b5m,b5n,P7,b3Q,b3R,b3S,b3T,noL,noLs,a8N,oS,a1D,unhide,a9Y,b3F,b3C,b3D,b3E,b3z,b3A,b3B,a8C,U8,K3,A7,O1,j6,G2,Q5,M5,T9,Nat.max_self,Nat.zero_max,Nat.max_zero,decide_true,Bool.or_true,Bool.true_or,Bool.or_false,List.isEmpty_nil,a0U,a1E,W9,inD,List.any_cons,List.any_nil,a3f,n9,List.all_cons,List.all_nil,Bool.and_self,Bool.and_true,Bool.true_and,beq_self_eq_true,b3G,b3H,b5e,b5f,b5g,b5h,Z7,b3J,b3K,a7M,n8,m9,w8,a33,K0,j0,a8D,Z1,a0F,a1h,a2M,a2q,auN,auM,auE,asU,a0W,B6,a3k,fU,uS,L9,uIf,a8R,uNx,a3i,r9,a05,a6o,a1i,a2u,XN.nm,XN.d,b3O,b3P,E4,a8P,a8Q,lookD,a5V,a4d,a4c,a4Y,b1z,b39,b3_,a04,a35,W0,R7,a92,b1s,b1t,b1o,b1p,b1q,b1r,b1n,b3U,b1v,a93,eC,eV,eB,t5,eBW,a3a,eT,eL,zN,aN,aC,Z0,h9,a4J,a2g,eIf,eU,a0v,V7,B5,nCV,nB,g1,v5,a1z,bZ,B4,Z9,S7,a0S,b1u,C7,a1C,a2e,b43,b44,T5,b45,b46,a1w,a1x,look,d6,k8,a7F,b26,J9,a0g,b32,a2J,tyN,a37,seqL,b2d,b2e,b2f,b2g,List.map_cons,List.map_nil,List.length_cons,List.length_nil,List.cons_append,List.nil_append,List.replicate_succ,List.replicate_zero,List.getElem?_cons_zero,List.getElem?_cons_succ,List.set_cons_zero,List.set_cons_succ,Nat.reduceAdd,Nat.reduceSub,if_true,if_false,Bool.not_true,Bool.not_false,Bool.not_not,Nat.zero_add,Bool.false_eq_true,decide_eq_true_eq,Bool.not_eq_true',decide_eq_false_iff_not,Option.map_some,Option.map_none,ite_self,K8,a0I])
 return if s.getString=="eh" then t.raw else t.raw.modifyArg 4 (·.modifyArg 1 fun l=>l.setArg 0 l[2])
theorem a1k{ns:List Int}{k:Int}(hk:0≤k):A6 [.scr ns,.int k]=some (.ret (.int (O6 ns k))):=by
 rw[← b3M hk]
 unfold A6 a6N
 walk_at "ev"
 split
 ·cases atI ns k<;>rfl
 ·rfl
structure Sp4 where
 a:Int
 b:Int
 c:Int
 d:Int
def sD(q:Sp4):D:=.tup [.int q.a,.int q.b,.int q.c,.int q.d]
theorem a0K{n:Nat}(h:n≤1000):W1 [.int (n:Int)]=some (0,n):=by
 unfold W1
 show(if _ then _ else _)=_
 rw[if_pos (by omega)]
 simp
theorem Y4{rg:List D→Option (Int×Nat)}{f:AF}{b:GF}{body:SF}{e e1:DE}{ds:List D}{lo:Int}{n:Nat}(h:f e=some (.ok ds e1))(hr:rg ds=some (lo,n)):R7 rg f b body e=B3 b body (a0b lo n) e1:=by
 unfold R7;rw[h,T5,hr]
theorem a6O(x:Int):D1 [.int x]=some (.ret (.bl true)):=by
 unfold D1 a5t
 walk_at "ev"
 rfl
theorem a3q(m:Nat):a0b 0 m=(List.range m).map fun(k:Nat)=>D.int (k:Int):=by
 unfold a0b
 refine List.map_congr_left fun i _=>?_
 rw[Int.zero_add]
theorem b1L{α β:Type}(f:α→β){a:List β}{b:List β}(h:a.Perm b):∀l:List α,b=l.map f→∃m:List α,m.Perm l∧a=m.map f:=by
 induction h with
 | nil=>intro l e;exact⟨l,.refl _,e⟩
 | cons x p ih =>
  intro l e
  cases l with
  | nil=>cases e
  | cons y l =>
   rw[List.map_cons]at e
   injection e with e1 e2
   obtain⟨m,p1,q1⟩:=ih l e2
   exact⟨y::m,p1.cons y,by rw[List.map_cons,e1,q1]⟩
 | swap x y r =>
  intro l e
  match l,e with
  | a::b::l,e =>
   rw[List.map_cons,List.map_cons]at e
   injection e with e1 e2
   injection e2 with e2 e3
   exact⟨b::a::l,.swap _ _ _,by rw[List.map_cons,List.map_cons,e1,e2,e3]⟩
 | trans p q ih1 ih2 =>
  intro l e
  obtain⟨m1,p1,q1⟩:=ih2 l e
  obtain⟨m2,p2,q2⟩:=ih1 m1 q1
  exact⟨m2,p2.trans p1,q2⟩
abbrev oL(σ:List Nat):List D:=σ.map fun(k:Nat)=>D.int (k:Int)
abbrev b5C(GM:D→D→Option D):SF:=(j0 (eB t8 (eB GM (eB GM (eB w4 (eB w4 (eV 0) (eB GM (eV 1) (eV 1))) (eC (.int 7))) (eB w4 (eV 1) (eC (.int 3)))) (eC (.int 48271))) (eV 2)))
theorem b6g(GM:D→D→Option D)(c k p a b r:Int)(hp:0<p)(h1:GM (.int k) (.int k)=some (.int a))(h2:GM (.int (c+a+7)) (.int (k+3))=some (.int b))(h3:GM (.int b) (.int 48271)=some (.int r)):fD 3 3 (b5C GM) [.int c,.int k,.int p]=some (.ret (.int (r%p))):=by
 unfold b5C
 walk_at "eh"
theorem a4o(c:Int)(k p:Int)(hk:0≤k)(hk2:k≤100000)(hp:0<p):∃m:Int,0≤m∧t7 [.int c,.int k,.int p]=some (.ret (.int m)) :=
 ⟨_,Int.emod_nonneg _ (by omega),b6g a0a c k p _ _ _ hp (Z7 (by omega)) (Z7 (by omega)) (Z7 (by decide))⟩
def K6(q:Sp4)(w:Bool):Int:=if w=true then q.d-q.b else q.c-q.a
def wI(w:Bool):Int:=if w=true then 1 else 0
def cD:Option (Bool×Int)→D
 | none=>.non
 | some (w,t)=>.tup [.int (wI w),.int t]
noncomputable abbrev a82(MX:List D→Option R1)(GX GM:D→D→Option D):SF:=(g0 (K0 2 MX (aC (eV 1) (aC (eC (.int 1)) (aC (eC (.int 1000003)) aN)))) (g0 (m9 3 (eB t8 (eV 2) (eC (.int 2)))) (g0 (n8 (bZ (eB gLt (eB w9 (eB GX (eV 0) (eB w4 (eV 3) (eC (.int 2)))) (eB GX (eV 0) (eV 3))) (eC (.int 2)))) (m9 3 (eB w9 (eC (.int 1)) (eV 3))) r9) (g0 (m9 4 (eB w9 (eB GX (eV 0) (eB w4 (eV 3) (eC (.int 2)))) (eB GX (eV 0) (eV 3)))) (g0 (n8 (bZ (eB gLt (eV 4) (eC (.int 2)))) (j0 (eC .non)) r9) (g0 (n8 (bZ (eB (u6 false) (eB t8 (eV 1) (eC (.int 3))) (eC (.int 0)))) (j0 (eT (aC (eV 3) (aC (V7 a0U (aC (eC (.int 1)) (aC (eB D4 (eB GM (eV 4) (eB w4 (eC (.int 1)) (eB t8 (eB D4 (eV 2) (eC (.int 2))) (eC (.int 5))))) (eC (.int 6))) aN))) aN)))) r9) (j0 (eT (aC (eV 3) (aC (eB w4 (eC (.int 1)) (eB t8 (eB w4 (eB D4 (eV 2) (eC (.int 2))) (eB GM (eB D4 (eV 1) (eC (.int 64))) (eC (.int 7919)))) (eB w9 (eV 4) (eC (.int 1))))) aN))))))))))
theorem b2u(MX:List D→Option R1)(GX GM:D→D→Option D)(q:D)(c m y h0 l0 h1 l1 s g g2:Int)(hm:MX [.int c,.int 1,.int 1000003]=some (.ret (.int m)))(hy:m%2=y)(a:GX q (.int (y+2))=some (.int h0))(b:GX q (.int y)=some (.int l0))(a':GX q (.int (1-y+2))=some (.int h1))(b':GX q (.int (1-y))=some (.int l1))(z:Int)
  (hz:(¬h0-l0<2∧z=y∧h0-l0=s)∨(h0-l0<2∧z=1-y∧h1-l1=s)) (hs:¬s<2) (hs1:0<s-1) (e1:GM (.int s) (.int (1+m/2%5))=some (.int g)) (e2:GM (.int (c/64)) (.int 7919)=some (.int g2)) :
  ∃t:Int,fD 5 2 (a82 MX GX GM) [q,.int c]=some (.ret (.tup [.int z,.int t]))∧(t=(if g/6 > 1 then g/6 else 1)∨t=1+(m/2+g2)%(s-1)):=by
 unfold a82
 by_cases h3:c%3=0
 ·refine⟨_,?_,.inl rfl⟩
  rcases hz with⟨z0,rfl,z1⟩ | ⟨z0,rfl,z1⟩<;>walk_at "eh"
 ·refine⟨_,?_,.inr rfl⟩
  rcases hz with⟨z0,rfl,z1⟩ | ⟨z0,rfl,z1⟩<;>walk_at "eh"
theorem b6h(MX:List D→Option R1)(GX GM:D→D→Option D)(q:D)(c m y h0 l0 h1 l1:Int)(hm:MX [.int c,.int 1,.int 1000003]=some (.ret (.int m)))(hy:m%2=y)(a:GX q (.int (y+2))=some (.int h0))(b:GX q (.int y)=some (.int l0))(a':GX q (.int (1-y+2))=some (.int h1))(b':GX q (.int (1-y))=some (.int l1))(hz:h0-l0<2)(hz1:h1-l1<2) :
  fD 5 2 (a82 MX GX GM) [q,.int c]=some (.ret .non):=by
 unfold a82
 walk_at "eh"
theorem a5W(q:Sp4)(w:Bool):d6 (sD q) (.int (wI w+2))=some (.int (if w=true then q.d else q.c)):=by cases w<;>rfl
theorem a5X(q:Sp4)(w:Bool):d6 (sD q) (.int (wI w))=some (.int (if w=true then q.b else q.a)):=by cases w<;>rfl
theorem a6P{s m g g2 t:Int}(hm:0≤m)(hs:¬s<2)(hg:g=s*(1+m/2%5))(h:t=(if g/6 > 1 then g/6 else 1)∨t=1+(m/2+g2)%(s-1)):0<t∧t<s:=by
 rcases h with rfl | rfl
 ·split
  ·refine⟨by omega,?_⟩
   have h5:m/2%5=0∨m/2%5=1∨m/2%5=2∨m/2%5=3∨m/2%5=4:=by omega
   rcases h5 with z | z | z | z | z<;>rw[z]at hg<;>omega
  ·omega
 ·have h1:=Int.emod_nonneg (m/2+g2) (show s-1≠0 by omega)
  have h2:=Int.emod_lt_of_pos (m/2+g2) (show 0<s-1 by omega)
  omega
theorem b5D(q:Sp4)(c:Int):∃r,V3 [sD q,.int c]=some (.ret (cD r))∧∀w t,r=some (w,t)→0<t∧t<K6 q w:=by
 obtain⟨m,hm0,hm⟩:=a4o c 1 1000003 (by omega) (by omega) (by omega)
 obtain⟨w,hw⟩:∃w:Bool,m%2=wI w:=by
  rcases(show m%2=0∨m%2=1 by omega)with z | z
  ·exact⟨false,z⟩
  ·exact⟨true,z⟩
 have hn:1-wI w=wI (!w):=by cases w<;>rfl
 have a':d6 (sD q) (.int (1-wI w+2))=some (.int (if(!w)=true then q.d else q.c)):=by rw[hn];exact a5W q (!w)
 have b':d6 (sD q) (.int (1-wI w))=some (.int (if(!w)=true then q.b else q.a)):=by rw[hn];exact a5X q (!w)
 have sw:∀w,K6 q w=(if w=true then q.d else q.c)-(if w=true then q.b else q.a):=fun w=>by cases w<;>rfl
 by_cases z0:K6 q w<2
 ·by_cases z1:K6 q (!w)<2
  ·exact⟨none,b6h t7 d6 a0a (sD q) c m (wI w) _ _ _ _ hm hw (a5W q w) (a5X q w) a' b' (by rw[← sw];exact z0) (by rw[← sw];exact z1),fun w t e=>by cases e⟩
  ·obtain⟨t,ht,hb⟩:=b2u t7 d6 a0a (sD q) c m (wI w) _ _ _ _ (K6 q (!w)) _ _ hm hw (a5W q w) (a5X q w) a' b' (1-wI w) (.inr ⟨by rw[← sw];exact z0,rfl,by rw[sw]⟩) z1 (by omega) (Z7 (by omega)) (Z7 (by decide))
   refine⟨some (!w,t),by rw[hn]at ht;exact ht,fun w' t' e=>?_⟩
   cases e
   exact a6P hm0 z1 rfl hb
 ·obtain⟨t,ht,hb⟩:=b2u t7 d6 a0a (sD q) c m (wI w) _ _ _ _ (K6 q w) _ _ hm hw (a5W q w) (a5X q w) a' b' (wI w) (.inl ⟨by rw[← sw];exact z0,rfl,by rw[sw]⟩) z0 (by omega) (Z7 (by omega)) (Z7 (by decide))
  refine⟨some (w,t),ht,fun w' t' e=>?_⟩
  cases e
  exact a6P hm0 z0 rfl hb
def pL(q:Sp4)(w:Bool)(t:Int):Sp4:=if w=true then⟨q.a,q.b,q.c,q.b+t⟩else⟨q.a,q.b,q.a+t,q.d⟩
def pR(q:Sp4)(w:Bool)(t:Int):Sp4:=if w=true then⟨q.a,q.b+t,q.c,q.d⟩else⟨q.a+t,q.b,q.c,q.d⟩
def wS(w:Bool):Str:=if w=true then "up" else "across"
theorem a6Q(q:Sp4)(w:Bool)(t:Int):y9 [sD q,.int (wI w),.int t]=some (.ret (.tup [sD (pL q w t),sD (pR q w t)])):=by
 obtain⟨a,b,c,d⟩:=q
 cases w<;>unfold y9 a5u sD pL pR wI<;>walk_at "ev" <;>rfl
theorem b0m(q:Sp4)(w:Bool)(t:Int)(x y:D):F6 [sD q,.tup [.str (wS w),.int t,x,y]]=some (.ret (.tup [sD (pL q w t),sD (pR q w t)])):=by
 obtain⟨a,b,c,d⟩:=q
 cases w<;>unfold F6 a22 sD pL pR wS<;>walk_at "ev" <;>rfl
theorem a7X(c:Int):∃s:Int,0≤s∧s≤10 ^ 40∧M1 [.int c]=some (.ret (.int s)):=by
 obtain⟨B,hB,eB⟩:∃B:Int,V9 (.int 10) (.int 40)=some (.int B)∧B=10 ^ 40:=⟨_,a7M (by decide +kernel),rfl⟩
 have h1:=Int.emod_nonneg (c/3) (show B≠0 by rw[eB];decide)
 have h2:=Int.emod_lt_of_pos (c/3) (show 0<B by rw[eB];decide)
 have hp:0<B:=by rw[eB];decide
 by_cases z:c%3=1
 ·refine⟨1+c/3%B,by omega,by omega,?_⟩
  clear eB h1 h2
  unfold M1 a3p
  generalize V9=GP at *
  walk_at "eh"
 ·refine⟨c/3%25,by omega,by omega,?_⟩
  clear eB h1 h2
  unfold M1 a3p
  generalize V9=GP at *
  walk_at "eh"
inductive Tr where
 | lf (k:Nat)
 | ct (k:Nat) (w:Bool) (t:Int) (l r:Tr)
def Tr.ix:Tr→Nat
 | .lf k=>k
 | .ct k _ _ _ _=>k
def Tr.ids:Tr→List Nat
 | .lf k=>[k]
 | .ct k _ _ l r=>k::(l.ids++r.ids)
def Tr.lvs:Tr→List Nat
 | .lf k=>[k]
 | .ct _ _ _ l r=>l.lvs++r.lvs
def nd(w:Bool)(t:Int)(i j:Nat):D:=.tup [.str (wS w),.int t,.int (i:Int),.int (j:Int)]
def Gd(N:List D)(S:List Sp4):Sp4→Tr→Prop
 | q,.lf k=>N[k]? = some .non∧S[k]? = some q
 | q,.ct k w t l r=>N[k]? = some (nd w t l.ix r.ix)∧S[k]? = some q∧k<l.ix∧k<r.ix∧0<t∧t<K6 q w∧Gd N S (pL q w t) l∧Gd N S (pR q w t) r
def Tr.rep(u:Nat)(w:Bool)(t:Int)(n:Nat):Tr→Tr
 | .lf k=>if k=u then .ct k w t (.lf n) (.lf (n+1))else .lf k
 | .ct k w' t' l r=>.ct k w' t' (l.rep u w t n) (r.rep u w t n)
theorem a2v(u:Nat)(w:Bool)(t:Int)(n:Nat):∀T:Tr,(T.rep u w t n).ix=T.ix
 | .lf k=>by unfold Tr.rep;split<;>rfl
 | .ct k _ _ l r=>rfl
theorem A4:∀{T:Tr} {k:Nat},k∈T.lvs→k∈T.ids
 | .lf k,_,h=>h
 | .ct k _ _ l r,x,h=>by
  rcases List.mem_append.mp h with h | h
  ·exact List.mem_cons_of_mem _ (List.mem_append.mpr (.inl (A4 h)))
  ·exact List.mem_cons_of_mem _ (List.mem_append.mpr (.inr (A4 h)))
theorem a2N{N N':List D}{S S':List Sp4}:∀{T:Tr} {q:Sp4},(∀i∈T.ids,N'[i]? = N[i]?∧∀x,S[i]? = some x→S'[i]? = some x)→Gd N S q T→Gd N' S' q T
 | .lf k,q,h,⟨a,b⟩=>by
  obtain⟨h1,h2⟩:=h k List.mem_cons_self
  exact⟨by rw[h1];exact a,h2 _ b⟩
 | .ct k w t l r,q,h,⟨a,b,c,d,e,f,gz1,g2⟩=>by
  obtain⟨h1,h2⟩:=h k List.mem_cons_self
  exact⟨by rw[h1];exact a,h2 _ b,c,d,e,f,a2N (fun i m=>h i (List.mem_cons_of_mem _ (List.mem_append.mpr (.inl m)))) gz1,a2N (fun i m=>h i (List.mem_cons_of_mem _ (List.mem_append.mpr (.inr m)))) g2⟩
theorem Y5(u:Nat)(w:Bool)(t:Int)(n:Nat):∀{T:Tr},u ∉ T.lvs→T.rep u w t n=T
 | .lf k,h=>by
  unfold Tr.rep
  rw[if_neg (fun z=>h (by rw[← z];exact List.mem_cons_self))]
 | .ct k _ _ l r,h=>by
  unfold Tr.rep
  rw[Y5 u w t n (fun m=>h (List.mem_append.mpr (.inl m))),Y5 u w t n (fun m=>h (List.mem_append.mpr (.inr m)))]
theorem a83{k:Nat}{w:Bool}{t:Int}{l r:Tr}(h:(Tr.ct k w t l r).ids.Nodup):l.ids.Nodup∧r.ids.Nodup∧(∀x∈l.ids,x ∉ r.ids)∧k ∉ l.ids∧k ∉ r.ids:=by
 have h':(k::(l.ids++r.ids)).Nodup:=h
 rw[List.nodup_cons,List.nodup_append]at h'
 obtain⟨a,b,c,d⟩:=h'
 exact⟨b,c,fun x m m2=>d x m x m2 rfl,fun m=>a (List.mem_append.mpr (.inl m)),fun m=>a (List.mem_append.mpr (.inr m))⟩
theorem a44(u:Nat)(w:Bool)(t:Int)(n:Nat):∀{T:Tr},T.ids.Nodup→u∈T.lvs→(T.rep u w t n).ids.Perm (T.ids++[n,n+1])
 | .lf k,_,m=>by
  unfold Tr.rep
  rw[if_pos (List.mem_singleton.mp m).symm]
  exact List.Perm.refl _
 | .ct k w' t' l r,h,m=>by
  obtain⟨h1,h2,h3,h4,h5⟩:=a83 h
  show(k::((l.rep u w t n).ids++(r.rep u w t n).ids)).Perm (k::(l.ids++r.ids)++[n,n+1])
  rw[List.cons_append]
  refine List.Perm.cons k ?_
  rcases List.mem_append.mp m with m | m
  ·rw[Y5 u w t n (T:=r) (fun m2=>h3 u (A4 m) (A4 m2))]
   have ih:=a44 u w t n h1 m
   refine(ih.append_right _).trans ?_
   rw[List.append_assoc,List.append_assoc]
   exact List.Perm.append_left _ List.perm_append_comm
  ·rw[Y5 u w t n (T:=l) (fun m2=>h3 u (A4 m2) (A4 m))]
   have ih:=a44 u w t n h2 m
   rw[List.append_assoc]
   exact ih.append_left _
theorem a45(u:Nat)(w:Bool)(t:Int)(n:Nat):∀{T:Tr} {x:Nat},x∈T.lvs→x≠u→x∈(T.rep u w t n).lvs
 | .lf k,x,m,z=>by
  have e:=List.mem_singleton.mp m
  unfold Tr.rep
  rw[if_neg (fun y=>z (by rw[e,y]))]
  exact m
 | .ct k _ _ l r,x,m,z=>by
  rcases List.mem_append.mp m with m | m
  ·exact List.mem_append.mpr (.inl (a45 u w t n m z))
  ·exact List.mem_append.mpr (.inr (a45 u w t n m z))
theorem a46(u:Nat)(w:Bool)(t:Int)(n:Nat):∀{T:Tr},u∈T.lvs→n∈(T.rep u w t n).lvs∧n+1∈(T.rep u w t n).lvs
 | .lf k,m=>by
  unfold Tr.rep
  rw[if_pos (List.mem_singleton.mp m).symm]
  exact⟨by simp[Tr.lvs],by simp[Tr.lvs]⟩
 | .ct k _ _ l r,m=>by
  rcases List.mem_append.mp m with m | m
  ·obtain⟨a,b⟩:=a46 u w t n m
   exact⟨List.mem_append.mpr (.inl a),List.mem_append.mpr (.inl b)⟩
  ·obtain⟨a,b⟩:=a46 u w t n m
   exact⟨List.mem_append.mpr (.inr a),List.mem_append.mpr (.inr b)⟩
theorem b5E{N:List D}{S:List Sp4}(u:Nat)(w:Bool)(t:Int)(n:Nat)(hN:N.length=n)(hS:S.length=n)(qu:Sp4)(hu:S[u]? = some qu)(h1:0<t)(h2:t<K6 qu w) :
  ∀{T:Tr} {q:Sp4},T.ids.Nodup→(∀i∈T.ids,i<n)→u∈T.lvs→Gd N S q T→Gd (N.set u (nd w t n (n+1))++[.non]++[.non]) (S++[pL qu w t]++[pR qu w t]) q (T.rep u w t n):=by
 have un:u<n:=by have:=(List.getElem?_eq_some_iff.mp hu).1;omega
 have lN:(N.set u (nd w t n (n+1))).length=n:=by rw[List.length_set,hN]
 have oN:∀i,i<n→(N.set u (nd w t n (n+1))++[.non]++[.non])[i]? = (N.set u (nd w t n (n+1)))[i]?:=fun i hi=>by
  rw[List.append_assoc,List.getElem?_append_left (by omega)]
 have oS:∀i,i<n→(S++[pL qu w t]++[pR qu w t])[i]? = S[i]?:=fun i hi=>by
  rw[List.append_assoc,List.getElem?_append_left (by omega)]
 have keep:∀{T:Tr},u ∉ T.ids→(∀i∈T.ids,i<n)→∀i∈T.ids,(N.set u (nd w t n (n+1))++[.non]++[.non])[i]? = N[i]?∧∀x,S[i]? = some x→(S++[pL qu w t]++[pR qu w t])[i]? = some x:=fun hu hi i m=>by
  refine⟨?_,fun x e=>by rw[oS i (hi i m)];exact e⟩
  rw[oN i (hi i m),List.getElem?_set_ne (fun z=>hu (by rw[z];exact m))]
 intro T
 induction T with
 | lf k =>
  intro q _ hi m ⟨a,b⟩
  have e:u=k:=List.mem_singleton.mp m
  subst e
  rw[hu]at b
  cases b
  unfold Tr.rep
  rw[if_pos rfl]
  refine⟨?_,?_,un,by show u<n+1;omega,h1,h2,⟨?_,?_⟩,⟨?_,?_⟩⟩
  ·rw[oN u un,List.getElem?_set_self (by omega)];rfl
  ·rw[oS u un];exact hu
  ·rw[List.append_assoc,List.getElem?_append_right (by omega),lN,Nat.sub_self];rfl
  ·rw[List.append_assoc,List.getElem?_append_right (by omega),hS,Nat.sub_self];rfl
  ·rw[List.append_assoc,List.getElem?_append_right (by omega),lN,Nat.add_sub_cancel_left];rfl
  ·rw[List.append_assoc,List.getElem?_append_right (by omega),hS,Nat.add_sub_cancel_left];rfl
 | ct k w' t' l r ihl ihr =>
  intro q hnd hi m ⟨a,b,c,d,e,f,gz1,g2⟩
  obtain⟨n1,n2,n3,n4,n5⟩:=a83 hnd
  have hil:∀i∈l.ids,i<n:=fun i m=>hi i (List.mem_cons_of_mem _ (List.mem_append.mpr (.inl m)))
  have hir:∀i∈r.ids,i<n:=fun i m=>hi i (List.mem_cons_of_mem _ (List.mem_append.mpr (.inr m)))
  have hk:k<n:=hi k List.mem_cons_self
  rcases List.mem_append.mp m with m | m
  ·have uk:u≠k:=fun z=>n4 (by rw[← z];exact A4 m)
   have er:r.rep u w t n=r:=Y5 u w t n (fun m2=>n3 u (A4 m) (A4 m2))
   show Gd _ _ q (.ct k w' t' (l.rep u w t n) (r.rep u w t n))
   rw[er]
   refine⟨?_,?_,by rw[a2v];exact c,d,e,f,ihl n1 hil m gz1,a2N (keep (fun m2=>n3 u (A4 m) m2) hir) g2⟩
   ·rw[oN k hk,List.getElem?_set_ne uk,a2v];exact a
   ·rw[oS k hk];exact b
  ·have uk:u≠k:=fun z=>n5 (by rw[← z];exact A4 m)
   have er:l.rep u w t n=l:=Y5 u w t n (fun m2=>n3 u (A4 m2) (A4 m))
   show Gd _ _ q (.ct k w' t' (l.rep u w t n) (r.rep u w t n))
   rw[er]
   refine⟨?_,?_,c,by rw[a2v];exact d,e,f,a2N (keep (fun m2=>n3 u m2 (A4 m)) hil) gz1,ihr n2 hir m g2⟩
   ·rw[oN k hk,List.getElem?_set_ne uk,a2v];exact a
   ·rw[oS k hk];exact b
theorem nodup_le:∀{l m:List Nat},l.Nodup→(∀x∈l,x∈m)→l.length≤m.length
 | [],m,_,_=>Nat.zero_le _
 | a::l,m,h,s=>by
  rw[List.nodup_cons]at h
  have ih:=nodup_le (m:=m.erase a) h.2 fun x hx=>(List.mem_erase_of_ne (fun z=>h.1 (by rw[← z];exact hx))).mpr (s x (List.mem_cons_of_mem _ hx))
  rw[List.length_erase_of_mem (s a List.mem_cons_self)]at ih
  have:0<m.length:=List.length_pos_of_mem (s a List.mem_cons_self)
  rw[List.length_cons]
  omega
abbrev ptB:SF:=(g0 (E4 4 (B5 v5 3)) (g0 (E4 2 (eV 9)) (E4 3 (eC .non))))
theorem b5F(b c:D)(A N U:List D)(x5 x6 x7 x8:Sl)(d:D)(h1:U.length<sizeLine)(h2:A.length<sizeLine)(h3:N.length<sizeLine):ptB [.fz b,.fz c,.ow A,.ow N,.ow U,x5,x6,x7,x8,.fz d]=some (.nx [.fz b,.fz c,.ow (A++[d]),.ow (N++[.non]),.ow (U++[.int (N.length:Int)]),x5,x6,x7,x8,.fz d]):=by
 unfold ptB
 walk_at "eh"
theorem b6Q(b c:D)(A N U:List D)(x5 x6 x7 x8:Sl)(o9:Option D)(d1 d2:D)(h1:U.length<1000000)(h2:A.length<1000000)(h3:N.length<1000000):B3 (h7 9) ptB [d1,d2] [.fz b,.fz c,.ow A,.ow N,.ow U,x5,x6,x7,x8,un o9]=some (.nx [.fz b,.fz c,.ow (A++[d1]++[d2]),.ow (N++[.non]++[.non]),.ow (U++[.int (N.length:Int)]++[.int ((N++[D.non]).length:Int)]),x5,x6,x7,x8,.fz d2]):=by
 have b1:∀(d:D) (A N U:List D) (o9:Option D),h7 9 d [.fz b,.fz c,.ow A,.ow N,.ow U,x5,x6,x7,x8,un o9]=some [.fz b,.fz c,.ow A,.ow N,.ow U,x5,x6,x7,x8,.fz d]:=fun d A N U o9=>by cases o9<;>rfl
 rw[N9,b1 d1 A N U o9,C4,b5F b c A N U x5 x6 x7 x8 d1 (by show _<2 ^ 24;omega) (by show _<2 ^ 24;omega) (by show _<2 ^ 24;omega),X5]
 rw[N9,show h7 9 d2 [.fz b,.fz c,.ow (A++[d1]),.ow (N++[.non]),.ow (U++[.int (N.length:Int)]),x5,x6,x7,x8,.fz d1]=some [.fz b,.fz c,.ow (A++[d1]),.ow (N++[.non]),.ow (U++[.int (N.length:Int)]),x5,x6,x7,x8,.fz d2]from rfl,C4,b5F b c (A++[d1]) (N++[D.non]) (U++[D.int (N.length:Int)]) x5 x6 x7 x8 d2 (by rw[List.length_append];show _+1<2 ^ 24;omega) (by rw[List.length_append];show _+1<2 ^ 24;omega) (by rw[List.length_append];show _+1<2 ^ 24;omega),X5,a6u]
noncomputable abbrev trB(CU:List D→Option R1)(ZP:ZF)(LP:SF):SF:=(g0 (m9 6 (eB t8 (eV 5) (B5 v5 4))) (g0 (K0 7 CU (aC (t5 k8 2 (t5 k8 4 (eV 6))) (aC (eV 5) aN))) (n8 (bZ (eB (J9 true) (eV 7) (eC .non))) (g0 (m9 8 ZP) (g0 (a04 3 (eV 8) (eT (aC (eB d6 (eT (aC (eC (.str "across")) (aC (eC (.str "up")) aN))) (eB d6 (eV 7) (eC (.int 0)))) (aC (eB d6 (eV 7) (eC (.int 1))) (aC (B5 v5 3) (aC (eB w4 (B5 v5 3) (eC (.int 1))) aN)))))) LP)) r9)))
theorem b6R(CU:List D→Option R1)(ZP:ZF)(LP:SF)(b c:D)(A N U:List D)(x i u:Int)(q:D)(o6 o7 o8 o9:Option D)(h0:(0:Int)<(U.length:Int))(hi:x%(U.length:Int)=i)(a1:atI U i=some (.int u))(a2:atI A u=some q)(hc:CU [q,.int x]=some (.ret .non)) :
  trB CU ZP LP [.fz b,.fz c,.ow A,.ow N,.ow U,.fz (.int x),un o6,un o7,un o8,un o9]=some (.nx [.fz b,.fz c,.ow A,.ow N,.ow U,.fz (.int x),.fz (.int i),.fz .non,un o8,un o9]):=by
 unfold trB
 walk_at "eh"
theorem b6S(CU:List D→Option R1)(ZP:ZF)(LP:SF)(b c:D)(A N U U':List D)(x i u y t:Int)(wd:Str)(k:Nat)(q:D)(o6 o7 o8 o9:Option D)(e':DE)(h0:(0:Int)<(U.length:Int))(hi:x%(U.length:Int)=i)(a1:atI U i=some (.int u))(a2:atI A u=some q)(hc:CU [q,.int x]=some (.ret (.tup [.int y,.int t])))
  (hw:atI [D.str "across",D.str "up"] y=some (.str wd)) (hz:ZP [.fz b,.fz c,.ow A,.ow N,.ow U,.fz (.int x),.fz (.int i),.fz (.tup [.int y,.int t]),un o8,un o9]=some (.ok (.int u) [.fz b,.fz c,.ow A,.ow N,.ow U',.fz (.int x),.fz (.int i),.fz (.tup [.int y,.int t]),un o8,un o9]))
  (ix:P9 N.length u=some k) (hl:LP [.fz b,.fz c,.ow A,.ow (N.set k (.tup [.str wd,.int t,.int (N.length:Int),.int ((N.length:Int)+1)])),.ow U',.fz (.int x),.fz (.int i),.fz (.tup [.int y,.int t]),.fz (.int u),un o9]=some (.nx e')) :
  trB CU ZP LP [.fz b,.fz c,.ow A,.ow N,.ow U,.fz (.int x),un o6,un o7,un o8,un o9]=some (.nx e'):=by
 unfold trB
 walk_at "eh"
theorem b6T(PA:List D→Option R1)(b c:D)(A N U:List D)(x i u y t:Int)(q p:D)(s9:Sl)(a2:atI A u=some q)(h:PA [q,.int y,.int t]=some (.ret p)):(h9 PA (aC (t5 k8 2 (eV 8)) (aC (eB d6 (eV 7) (eC (.int 0))) (aC (eB d6 (eV 7) (eC (.int 1))) aN)))) [.fz b,.fz c,.ow A,.ow N,.ow U,.fz (.int x),.fz (.int i),.fz (.tup [.int y,.int t]),.fz (.int u),s9]=some (.ok p [.fz b,.fz c,.ow A,.ow N,.ow U,.fz (.int x),.fz (.int i),.fz (.tup [.int y,.int t]),.fz (.int u),s9]):=by
 walk_at "eh"
abbrev plB(PA:List D→Option R1):SF:=(a35 (h9 PA (aC (t5 k8 2 (eV 8)) (aC (eB d6 (eV 7) (eC (.int 0))) (aC (eB d6 (eV 7) (eC (.int 1))) aN)))) (h7 9) ptB)
theorem b6i(b c:D)(A N U:List D)(x5 s7 s8 s9:Sl)(i:Nat)(u:D)(hi:i<U.length)(hl:U.length≤1000000)(hu:U[i]? = some u):a2p 4 (eV 6) [.fz b,.fz c,.ow A,.ow N,.ow U,x5,.fz (.int (i:Int)),s7,s8,s9]=some (.ok u [.fz b,.fz c,.ow A,.ow N,.ow (U.eraseIdx i),x5,.fz (.int (i:Int)),s7,s8,s9]):=by
 show(if 0≤(i:Int)∧(i:Int)<U.length∧U.length≤1000000 then(match U[(i:Int).toNat]? with
   | some d=>some (L2.R.ok d (List.set [Sl.fz b,.fz c,.ow A,.ow N,.ow U,x5,.fz (.int (i:Int)),s7,s8,s9] 4 (.ow (U.eraseIdx (i:Int).toNat))))
   | none=>none)else none)=_
 rw[if_pos ⟨by omega,by omega,hl⟩,Int.toNat_natCast,hu]
 rfl
structure TrI(q0:Sp4)(m:Nat)(T:Tr)(S:List Sp4)(N:List D)(U:List Nat):Prop where
 lN:N.length=S.length
 le:S.length≤1+2*m
 ndp:T.ids.Nodup
 lt:∀i∈T.ids,i<S.length
 ln:T.ids.length=S.length
 ne:U≠[]
 un:U.Nodup
 uv:∀u∈U,u∈T.lvs
 rt:T.ix=0
 gd:Gd N S q0 T
theorem a2w{N:List D}{S:List Sp4}:∀{T:Tr} {q:Sp4},Gd N S q T→∀i∈T.ids,∃x,S[i]? = some x
 | .lf k,q,⟨a,b⟩,i,m=>⟨q,by rw[List.mem_singleton.mp m];exact b⟩
 | .ct k w t l r,q,⟨a,b,_,_,_,_,gz1,g2⟩,i,m=>by
  rcases List.mem_cons.mp m with rfl | m
  ·exact⟨q,b⟩
  ·rcases List.mem_append.mp m with m | m
   ·exact a2w gz1 i m
   ·exact a2w g2 i m
theorem TrI.step{q0:Sp4}{m:Nat}{T:Tr}{S:List Sp4}{N:List D}{U:List Nat}(I:TrI q0 m T S N U)(i:Nat)(hi:i<U.length)(qu:Sp4)(hu:S[U[i]]? = some qu)(w:Bool)(t:Int)(h1:0<t)(h2:t<K6 qu w) :
  TrI q0 (m+1) (T.rep U[i] w t S.length) (S++[pL qu w t]++[pR qu w t]) (N.set U[i] (nd w t S.length (S.length+1))++[.non]++[.non]) (U.eraseIdx i++[S.length]++[S.length+1]):=by
 have mu:U[i]∈T.lvs:=I.uv _ (List.getElem_mem hi)
 have pm:=a44 U[i] w t S.length I.ndp mu
 have lU:∀u∈U,u<S.length:=fun u m=>I.lt u (A4 (I.uv u m))
 have me:∀u∈U.eraseIdx i,u∈U∧u≠U[i]:=fun u m=>by
  obtain⟨j,hj,ne,e⟩:=List.mem_eraseIdx_iff_getElem.mp m
  refine⟨by rw[← e];exact List.getElem_mem hj,fun z=>ne ?_⟩
  rw[← e]at z
  exact(List.getElem_inj I.un).mp z
 have nds:(T.ids++[S.length,S.length+1]).Nodup:=by
  rw[List.nodup_append]
  refine⟨I.ndp,by simp,fun a ha b hb e=>?_⟩
  have:=I.lt a ha
  simp only[List.mem_cons,List.not_mem_nil,or_false]at hb
  omega
 refine⟨by simp only[List.length_append,List.length_set,List.length_cons,List.length_nil,I.lN],by have:=I.le;simp only[List.length_append,List.length_cons,List.length_nil];omega,pm.nodup_iff.mpr nds,fun j mj=>?_,?_,by simp,?_,fun u m=>?_,by rw[a2v];exact I.rt,b5E _ w t _ I.lN rfl qu hu h1 h2 I.ndp I.lt mu I.gd⟩
 ·have mj:=pm.mem_iff.mp mj
  simp only[List.length_append,List.length_cons,List.length_nil]
  rcases List.mem_append.mp mj with mj | mj
  ·have:=I.lt j mj;omega
  ·simp only[List.mem_cons,List.not_mem_nil,or_false]at mj;omega
 ·rw[pm.length_eq]
  simp only[List.length_append,List.length_cons,List.length_nil,I.ln]
 ·rw[List.append_assoc,List.nodup_append]
  refine⟨(List.eraseIdx_sublist _ _).nodup I.un,by simp,fun a ha b hb e=>?_⟩
  have:=lU a (me a ha).1
  simp only[List.cons_append,List.nil_append,List.mem_cons,List.not_mem_nil,or_false]at hb
  omega
 ·rw[List.append_assoc]at m
  rcases List.mem_append.mp m with m | m
  ·exact a45 _ w t _ (I.uv u (me u m).1) (me u m).2
  ·have n:=a46 U[i] w t S.length mu
   simp only[List.cons_append,List.nil_append,List.mem_cons,List.not_mem_nil,or_false]at m
   rcases m with rfl | rfl
   ·exact n.1
   ·exact n.2
theorem b5H(LP:SF)(w h:Int)(c:D)(A N U:List D)(s5 s6 s7 s8 s9:Sl)(hl:LP [.fz (.tup [.int w,.int h]),.fz c,.ow [.tup [.int 0,.int 0,.int w,.int h]],.ow [.non],.ow [.int 0],.no,.no,.no,.no,.no]=some (.nx [.fz (.tup [.int w,.int h]),.fz c,.ow A,.ow N,.ow U,s5,s6,s7,s8,s9])) :
  fD 10 2 (g0 (w8 2 (eL (aC (eT (aC (eC (.int 0)) (aC (eC (.int 0)) (aC (eB d6 (eV 0) (eC (.int 0))) (aC (eB d6 (eV 0) (eC (.int 1))) aN))))) aN))) (g0 (w8 3 (eL (aC (eC .non) aN))) (g0 (w8 4 (eL (aC (eC (.int 0)) aN))) (g0 LP (a0F 2 3))))) [.tup [.int w,.int h],c]=some (.owz [A,N]):=by
 have e:a0F 2 3 [.fz (.tup [.int w,.int h]),.fz c,.ow A,.ow N,.ow U,s5,s6,s7,s8,s9]=some (.rz [A,N]):=rfl
 generalize a0F 2 3=RZ at *
 walk_at "eh"
theorem b4g(W H:Int)(cs:List Int)(hl:cs.length≤180):∃(T:Tr) (S:List Sp4) (N:List D) (U:List Nat),TrI ⟨0,0,W,H⟩ cs.length T S N U∧U5 [.tup [.int W,.int H],.lst (cs.map D.int)]=some (.owz [S.map sD,N]):=by
 obtain⟨e',f,T,S,N,U,o5,o6,o7,o8,o9,I,rfl⟩:=a0j (b:=h7 5) (body:=trB V3 (a2p 4 (eV 6)) (plB y9)) D.int (fun pre e=>∃(T:Tr) (S:List Sp4) (N:List D) (U:List Nat) (o5 o6 o7 o8 o9:Option D),TrI ⟨0,0,W,H⟩ pre.length T S N U∧e=[.fz (.tup [.int W,.int H]),.fz (.lst (cs.map D.int)),.ow (S.map sD),.ow N,.ow (oL U),un o5,un o6,un o7,un o8,un o9]) cs [.fz (.tup [.int W,.int H]),.fz (.lst (cs.map D.int)),.ow [.tup [.int 0,.int 0,.int W,.int H]],.ow [.non],.ow [.int 0],.no,.no,.no,.no,.no]
  ⟨.lf 0,[⟨0,0,W,H⟩],[.non],[0],none,none,none,none,none,⟨rfl,by simp,by simp[Tr.ids],by simp[Tr.ids],rfl,by simp,by simp,by simp[Tr.lvs],rfl,rfl,rfl⟩,rfl⟩ (by
  rintro pre x post e hq ⟨T,S,N,U,o5,o6,o7,o8,o9,I,rfl⟩
  have hp:pre.length<180:=by have:=congrArg List.length hq;rw[List.length_append,List.length_cons]at this;omega
  have hb:h7 5 (.int x) [.fz (.tup [.int W,.int H]),.fz (.lst (cs.map D.int)),.ow (S.map sD),.ow N,.ow (oL U),un o5,un o6,un o7,un o8,un o9]=some [.fz (.tup [.int W,.int H]),.fz (.lst (cs.map D.int)),.ow (S.map sD),.ow N,.ow (oL U),.fz (.int x),un o6,un o7,un o8,un o9]:=by cases o5<;>rfl
  rw[hb,C4,List.length_append,List.length_singleton]
  have lU:0<U.length:=List.length_pos_iff.mpr I.ne
  have ll:(oL U).length=U.length:=List.length_map ..
  have lU2:U.length≤S.length:=by
   have:U.length≤T.ids.length:=nodup_le I.un fun u m=>A4 (I.uv u m)
   have:=I.ln
   omega
  have e1:=Int.emod_nonneg x (show(U.length:Int)≠0 by omega)
  have e2:=Int.emod_lt_of_pos x (show(0:Int)<(U.length:Int) by omega)
  obtain⟨i,hi⟩:∃i:Nat,x%(U.length:Int)=(i:Int):=⟨(x%(U.length:Int)).toNat,by omega⟩
  have hiU:i<U.length:=by omega
  have a1:atI (oL U) (i:Int)=some (.int (U[i]:Int)):=by
   apply P3
   rw[List.getElem?_map,List.getElem?_eq_getElem hiU]
   rfl
  obtain⟨qu,hqu⟩:=a2w I.gd U[i] (A4 (I.uv _ (List.getElem_mem hiU)))
  have hn:U[i]<S.length:=(List.getElem?_eq_some_iff.mp hqu).1
  have a2:atI (S.map sD) (U[i]:Int)=some (sD qu):=by
   apply P3
   rw[List.getElem?_map,hqu]
   rfl
  obtain⟨r,hr,hrb⟩:=b5D qu x
  have leS:=I.le
  cases r with
  | none =>
   exact⟨_,(congrArg K5 (b6R V3 _ _ _ _ _ _ _ x (i:Int) _ _ o6 o7 o8 o9 (by rw[ll];omega) (by rw[ll];exact hi) a1 a2 hr)).trans rfl,T,S,N,U,some (.int x),some (.int (i:Int)),some .non,o8,o9,⟨I.lN,by omega,I.ndp,I.lt,I.ln,I.ne,I.un,I.uv,I.rt,I.gd⟩,rfl⟩
  | some r =>
   obtain⟨w,t⟩:=r
   obtain⟨t1,t2⟩:=hrb w t rfl
   have st:=I.step i hiU qu hqu w t t1 t2
   have hz:=b6i (.tup [.int W,.int H]) (.lst (cs.map D.int)) (S.map sD) N (oL U) (.fz (.int x)) (.fz (.tup [.int (wI w),.int t])) (un o8) (un o9) i (.int (U[i]:Int)) (by rw[ll];exact hiU) (by rw[ll];omega) (by rw[List.getElem?_map,List.getElem?_eq_getElem hiU];rfl)
   have hw:atI [D.str "across",D.str "up"] (wI w)=some (D.str (wS w)):=by cases w<;>rfl
   have hf0:plB y9 [.fz (.tup [.int W,.int H]),.fz (.lst (cs.map D.int)),.ow (S.map sD),.ow (N.set U[i] (.tup [.str (wS w),.int t,.int (N.length:Int),.int ((N.length:Int)+1)])),.ow ((oL U).eraseIdx i),.fz (.int x),.fz (.int (i:Int)),.fz (.tup [.int (wI w),.int t]),.fz (.int (U[i]:Int)),un o9]=B3 (h7 9) ptB [sD (pL qu w t),sD (pR qu w t)] [.fz (.tup [.int W,.int H]),.fz (.lst (cs.map D.int)),.ow (S.map sD),.ow (N.set U[i] (.tup [.str (wS w),.int t,.int (N.length:Int),.int ((N.length:Int)+1)])),.ow ((oL U).eraseIdx i),.fz (.int x),.fz (.int (i:Int)),.fz (.tup [.int (wI w),.int t]),.fz (.int (U[i]:Int)),un o9]:=by
    unfold plB a35
    rw[b6T y9 _ _ _ _ _ x _ _ _ _ _ _ _ a2 (a6Q qu w t),T5]
   have hf:=hf0.trans (b6Q _ _ (S.map sD) _ _ _ _ _ _ o9 _ _ (by rw[List.length_eraseIdx,ll];split<;>omega) (by rw[List.length_map];omega) (by rw[List.length_set,I.lN];omega))
   refine⟨_,(congrArg K5 (b6S V3 _ _ _ _ _ _ _ _ x (i:Int) _ _ t (wS w) U[i] _ o6 o7 o8 o9 _ (by rw[ll];omega) (by rw[ll];exact hi) a1 a2 hr hw hz (a0k (by rw[I.lN];exact hn)) hf)).trans rfl,_,_,_,_,some (.int x),some (.int (i:Int)),some (.tup [.int (wI w),.int t]),some (.int (U[i]:Int)),some (sD (pR qu w t)),st,?_⟩
   have f1:S.map sD++[sD (pL qu w t)]++[sD (pR qu w t)]=(S++[pL qu w t]++[pR qu w t]).map sD:=by simp
   have f2:(D.tup [.str (wS w),.int t,.int (N.length:Int),.int ((N.length:Int)+1)])=nd w t S.length (S.length+1):=by rw[I.lN];rfl
   have f3:(oL U).eraseIdx i++[D.int (((N.set U[i] (D.tup [.str (wS w),.int t,.int (N.length:Int),.int ((N.length:Int)+1)])).length:Nat):Int)]++[D.int (((N.set U[i] (D.tup [.str (wS w),.int t,.int (N.length:Int),.int ((N.length:Int)+1)])++[D.non]).length:Nat):Int)]=oL (U.eraseIdx i++[S.length]++[S.length+1]):=by
    rw[List.length_append,List.length_set,I.lN]
    unfold oL
    rw[List.map_append,List.map_append,List.eraseIdx_eq_take_drop_succ,List.eraseIdx_eq_take_drop_succ,List.map_append,List.map_take,List.map_drop]
    rfl
   rw[f3,f2,f1]
   rfl)
 exact⟨T,S,N,U,I,b5H _ W H _ _ _ _ _ _ _ _ _ f⟩
inductive En where
 | wa
 | wr (i:Int) (b:Bool)
def eD:En→D
 | .wa=>.tup [.str "waste"]
 | .wr i b=>.tup [.str "ware",.int i,.bl b]
theorem b4h(d:D):∃b,J9 false d .non=some (.bl b):=by cases d<;>exact⟨_,rfl⟩
theorem b1M{S:List Sp4}{k:Nat}(h:k<S.length):atI (S.map sD) (k:Int)=some (sD S[k]):=by
 apply P3
 rw[List.getElem?_map,List.getElem?_eq_getElem h]
 rfl
theorem a84{N:List D}{k:Nat}(h:k<N.length):atI N (k:Int)=some N[k]:=by
 apply P3
 rw[List.getElem?_eq_getElem h]
theorem b5I(K:List Nat)(k:Nat):oL K++[.int (k:Int)]=oL (K++[k]):=by
 unfold oL
 rw[List.map_append]
 rfl
abbrev elK(MX:List D→Option R1):ZF:=(eT (aC (h9 MX (aC (eB D4 (eV 1) (eC (.int 5))) (aC (eV 0) (aC (eC (.int 7919)) aN)))) (aC (eV 0) aN)))
theorem b5J(MX:List D→Option R1)(c k m:Int)(h:MX [.int (c/5),.int k,.int 7919]=some (.ret (.int m))):elK MX [.fz (.int k),.fz (.int c)]=some (.ok (.tup [.int m,.int k]) [.fz (.int k),.fz (.int c)]):=by
 unfold elK
 walk_at "eh"
theorem a7Y(c:Int)(kf:Nat→List Int)(hf:∀k:Nat,k≤1000→elK t7 [.fz (.int (k:Int)),.fz (.int c)]=some (.ok (.tup ((kf k).map D.int)) [.fz (.int (k:Int)),.fz (.int c)]))(nn:∀k,kf k≠[]):∀K:List Nat,(∀k∈K,k≤1000)→X6 (elK t7) [.no,.fz (.int c)] (oL K)=some (K.map kf)
 | [],_=>rfl
 | k::K,h=>by
  show X6 (elK t7) [.no,.fz (.int c)] (.int (k:Int)::oL K)=_
  unfold X6
  rw[show([Sl.no,.fz (.int c)]:DE).set 0 (.fz (.int (k:Int)))=[.fz (.int (k:Int)),.fz (.int c)]from rfl,hf k (h k List.mem_cons_self)]
  show(match a0T ((kf k).map D.int)with
   | some x=>if x≠[]then(X6 (elK t7) [.no,.fz (.int c)] (oL K)).map (x :: ·)else none
   | none=>none)=_
  rw[L2.ints_map]
  show(if kf k≠[]then _ else _)=_
  rw[if_pos (nn k),a7Y c kf hf nn K fun x m=>h x (List.mem_cons_of_mem _ m)]
  rfl
abbrev W3:=Int×Int×Bool
def w3(v:W3):D:=.tup [.int v.1,.int v.2.1,.bl v.2.2]
noncomputable abbrev wsC:NF:=(a0z 1 1 [] (h7 0) a0S (eT (aC (eC (.str "waste")) aN)))
theorem b6j(A:D)(N:List D)(hl:N.length≤1000)(c K:D)(s4 s5 s6 s7:Sl):wsC [.fz A,.fz (.lst N),.fz c,.fz K,s4,s5,s6,s7,.no,.no,.no,.no]=some (.ok ((List.replicate N.length En.wa).map eD) [.fz A,.fz (.lst N),.fz c,.fz K,s4,s5,s6,s7,.no,.no,.no,.no]):=by
 show C3 (h7 0) a0S (eT (aC (eC (.str "waste")) aN)) [.no] _ N []=_
 have e0:N=N.map id:=(List.map_id N).symm
 rw[e0,a0E id (fun _=>D.tup [.str "waste"]) (fun _=>true) N [] (by show 0+_≤2 ^ 24;omega) (fun d _=>⟨[.fz d],[.fz d],rfl,rfl,fun _=>⟨[.fz d],rfl⟩⟩)]
 rw[List.filter_eq_self.mpr (fun _ _=>rfl),List.nil_append,List.map_const',List.map_replicate,List.map_id]
 rfl
theorem b1N(L1 L2:SF)(NS NW:NF)(A N:D)(c:Int)(K O Wl E E0:List D)(s4 s5 s4' s9 s10 s11:Sl)(h1:L1 [.fz A,.fz N,.fz (.int c),.ow [],.no,.no,.no,.no,.no,.no,.no,.no]=some (.nx [.fz A,.fz N,.fz (.int c),.ow K,s4,s5,.no,.no,.no,.no,.no,.no]))
  (h2:NS [.fz A,.fz N,.fz (.int c),.ow K,s4,s5,.no,.no,.no,.no,.no,.no]=some (.ok O [.fz A,.fz N,.fz (.int c),.fz (.lst K),s4,s5,.no,.no,.no,.no,.no,.no])) (h3:NW [.fz A,.fz N,.fz (.int c),.fz (.lst K),s4,s5,.ow O,.ow [],.no,.no,.no,.no]=some (.ok E0 [.fz A,.fz N,.fz (.int c),.fz (.lst K),s4,s5,.ow O,.ow [],.no,.no,.no,.no]))
  (h4:L2 [.fz A,.fz N,.fz (.int c),.fz (.lst K),s4,s5,.ow O,.ow [],.ow E0,.no,.no,.no]=some (.nx [.fz A,.fz N,.fz (.int c),.fz (.lst K),s4',s5,.ow O,.ow Wl,.ow E,s9,s10,s11])) :
  fD 12 3 (g0 (w8 3 (eL aN)) (g0 L1 (g0 (w8 6 NS) (g0 (w8 7 (eL aN)) (g0 (w8 8 NW) (g0 L2 (a0l 7 8 6))))))) [A,N,.int c]=some (.owz [Wl,E,O]):=by
 have e:a0l 7 8 6 [.fz A,.fz N,.fz (.int c),.fz (.lst K),s4',s5,.ow O,.ow Wl,.ow E,s9,s10,s11]=some (.rz [Wl,E,O]):=rfl
 generalize a0l 7 8 6=RZ at *
 walk_at "eh"
inductive Pl where
 | en (e:En)
 | ct (w:Bool) (t:Int) (l r:Pl)
def pD:Pl→D
 | .en e=>eD e
 | .ct w t l r=>.tup [.str (wS w),.int t,pD l,pD r]
def Tr.pl(f:Nat→En):Tr→Pl
 | .lf k=>.en (f k)
 | .ct _ w t l r=>.ct w t (l.pl f) (r.pl f)
def Tr.subs:Tr→List Tr
 | .lf k=>[.lf k]
 | .ct k w t l r=>.ct k w t l r::(l.subs++r.subs)
theorem a2x:∀T:Tr,T∈T.subs
 | .lf _=>List.mem_cons_self
 | .ct _ _ _ _ _=>List.mem_cons_self
theorem a2O{k:Nat}{w:Bool}{t:Int}{l r:Tr}:∀{T:Tr},Tr.ct k w t l r∈T.subs→l∈T.subs∧r∈T.subs
 | .lf _,h=>by cases List.mem_singleton.mp h
 | .ct k' w' t' l' r',h=>by
  rcases List.mem_cons.mp h with e | m
  ·cases e
   exact⟨List.mem_cons_of_mem _ (List.mem_append.mpr (.inl (a2x _))),List.mem_cons_of_mem _ (List.mem_append.mpr (.inr (a2x _)))⟩
  ·rcases List.mem_append.mp m with m | m
   ·obtain⟨a,b⟩:=a2O m
    exact⟨List.mem_cons_of_mem _ (List.mem_append.mpr (.inl a)),List.mem_cons_of_mem _ (List.mem_append.mpr (.inl b))⟩
   ·obtain⟨a,b⟩:=a2O m
    exact⟨List.mem_cons_of_mem _ (List.mem_append.mpr (.inr a)),List.mem_cons_of_mem _ (List.mem_append.mpr (.inr b))⟩
def Nok(N:List D):Tr→Prop
 | .lf k=>N[k]? = some .non
 | .ct k w t l r=>N[k]? = some (nd w t l.ix r.ix)∧k<l.ix∧k<r.ix
theorem a3r{N:List D}{S:List Sp4}:∀{T:Tr} {q:Sp4},Gd N S q T→∀X∈T.subs,Nok N X
 | .lf k,q,⟨a,_⟩,X,m=>by rw[List.mem_singleton.mp m];exact a
 | .ct k w t l r,q,⟨a,_,c,d,_,_,gz1,g2⟩,X,m=>by
  rcases List.mem_cons.mp m with rfl | m
  ·exact⟨a,c,d⟩
  ·rcases List.mem_append.mp m with m | m
   ·exact a3r gz1 X m
   ·exact a3r g2 X m
theorem a2P:∀{T:Tr} {k:Nat},k∈T.ids→∃X∈T.subs,X.ix=k
 | .lf k,x,m=>⟨.lf k,List.mem_cons_self,(List.mem_singleton.mp m).symm⟩
 | .ct k w t l r,x,m=>by
  rcases List.mem_cons.mp m with rfl | m
  ·exact⟨_,List.mem_cons_self,rfl⟩
  ·rcases List.mem_append.mp m with m | m
   ·obtain⟨X,a,b⟩:=a2P m
    exact⟨X,List.mem_cons_of_mem _ (List.mem_append.mpr (.inl a)),b⟩
   ·obtain⟨X,a,b⟩:=a2P m
    exact⟨X,List.mem_cons_of_mem _ (List.mem_append.mpr (.inr a)),b⟩
theorem a3s:∀{T:Tr} {X:Tr},X∈T.subs→X.ix∈T.ids
 | .lf k,X,m=>by rw[List.mem_singleton.mp m];exact List.mem_cons_self
 | .ct k w t l r,X,m=>by
  rcases List.mem_cons.mp m with rfl | m
  ·exact List.mem_cons_self
  ·rcases List.mem_append.mp m with m | m
   ·exact List.mem_cons_of_mem _ (List.mem_append.mpr (.inl (a3s m)))
   ·exact List.mem_cons_of_mem _ (List.mem_append.mpr (.inr (a3s m)))
theorem a4p{l:List Nat}(h:l.Nodup)(lt:∀i∈l,i<l.length){k:Nat}(hk:k<l.length):k∈l:=by
 by_cases m:k∈l
 ·exact m
 ·have:=nodup_le (l:=k::l) (m:=List.range l.length) (List.nodup_cons.mpr ⟨m,h⟩) fun x hx=>by
   rcases List.mem_cons.mp hx with rfl | hx
   ·exact List.mem_range.mpr hk
   ·exact List.mem_range.mpr (lt x hx)
  rw[List.length_cons,List.length_range]at this
  omega
noncomputable abbrev jnB(GI:D→D→Option D):SF:=(g0 (m9 4 (eB w9 (eB w9 (B5 v5 0) (eC (.int 1))) (eV 3))) (n8 (bZ (eB GI (t5 k8 0 (eV 4)) (eC .non))) (a04 2 (eV 4) (eT (aC (eB d6 (t5 k8 0 (eV 4)) (eC (.int 0))) (aC (eB d6 (t5 k8 0 (eV 4)) (eC (.int 1))) (aC (t5 k8 2 (eB d6 (t5 k8 0 (eV 4)) (eC (.int 2)))) (aC (t5 k8 2 (eB d6 (t5 k8 0 (eV 4)) (eC (.int 3)))) aN)))))) r9))
theorem b6U(GI:D→D→Option D)(N B:List D)(E:D)(b k:Int)(o4:Option D)(hk:(N.length:Int)-1-b=k)(a:atI N k=some .non)(g:GI .non .non=some (.bl false)):jnB GI [.fz (.lst N),.fz E,.ow B,.fz (.int b),un o4]=some (.nx [.fz (.lst N),.fz E,.ow B,.fz (.int b),.fz (.int k)]):=by
 unfold jnB
 walk_at "eh"
theorem b6V(GI:D→D→Option D)(N B:List D)(E:D)(b k t i j:Int)(wd:Str)(x y:D)(kn:Nat)(o4:Option D)(hk:(N.length:Int)-1-b=k)(a:atI N k=some (.tup [.str wd,.int t,.int i,.int j]))(g:GI (.tup [.str wd,.int t,.int i,.int j]) .non=some (.bl true))(hi:atI B i=some x)(hj:atI B j=some y)(ix:P9 B.length k=some kn):jnB GI [.fz (.lst N),.fz E,.ow B,.fz (.int b),un o4]=some (.nx [.fz (.lst N),.fz E,.ow (B.set kn (.tup [.str wd,.int t,x,y])),.fz (.int b),.fz (.int k)]):=by
 unfold jnB
 walk_at "eh"
theorem b1O(LP:SF)(N:D)(E B:List D)(x:D)(s3 s4:Sl)(h:LP [.fz N,.fz (.lst E),.ow E,.no,.no]=some (.nx [.fz N,.fz (.lst E),.ow B,s3,s4]))(a:atI B 0=some x):fD 5 2 (g0 (w8 2 (nCV a1z 1)) (g0 LP (j0 (t5 k8 2 (eC (.int 0)))))) [N,.lst E]=some (.ret x):=by
 walk_at "eh"
structure TJ(n:Nat)(T:Tr)(N:List D):Prop where
 lN:N.length=n
 ndp:T.ids.Nodup
 lt:∀i∈T.ids,i<n
 ln:T.ids.length=n
 rt:T.ix=0
 nok:∀X∈T.subs,Nok N X
theorem TrI.tj{q0:Sp4}{m:Nat}{T:Tr}{S:List Sp4}{N:List D}{U:List Nat}(I:TrI q0 m T S N U):TJ S.length T N:=⟨I.lN,I.ndp,I.lt,I.ln,I.rt,a3r I.gd⟩
theorem a5x{n:Nat}{T:Tr}{N:List D}(I:TJ n T N)(hl:n≤1000)(L:List En)(hL:L.length=n)(f:Nat→En)(hf:∀k,k<n→L[k]? = some (f k)):L5 [.lst N,.lst (L.map eD)]=some (.ret (pD (T.pl f))):=by
 have nok:=I.nok
 have hN:=I.lN
 have ltS:∀X∈T.subs,X.ix<n:=fun X m=>I.lt _ (a3s m)
 obtain⟨e',fo,B,o3,o4,hB,b1,b2,rfl⟩:=a0j (b:=h7 3) (body:=jnB (J9 true)) (fun(k:Nat)=>D.int (k:Int)) (fun pre e=>∃(B:List D) (o3 o4:Option D),B.length=n∧(∀X∈T.subs,n≤X.ix+pre.length→B[X.ix]? = some (pD (X.pl f)))∧(∀k,k+pre.length<n→B[k]? = some (eD (f k)))∧e=[.fz (.lst N),.fz (.lst (L.map eD)),.ow B,un o3,un o4]) (List.range n) [.fz (.lst N),.fz (.lst (L.map eD)),.ow (L.map eD),.no,.no]
  ⟨L.map eD,none,none,by rw[List.length_map,hL],fun X m h=>absurd (ltS X m) (by rw[List.length_nil]at h;omega),fun k h=>by rw[List.getElem?_map,hf k (by omega)];rfl,rfl⟩ (by
  rintro pre k post e hq ⟨B,o3,o4,hB,b1,b2,rfl⟩
  have hk:k<n:=List.mem_range.mp (by rw[hq];simp)
  have hpk:pre.length=k:=by
   have:=congrArg (fun l=>l[pre.length]?) hq
   simp only[List.getElem?_append_right (Nat.le_refl _),Nat.sub_self,List.getElem?_cons_zero]at this
   have h2:pre.length<n:=by have:=congrArg List.length hq;rw[List.length_range,List.length_append,List.length_cons]at this;omega
   rw[List.getElem?_range h2]at this
   exact Option.some.inj this
  have hb:h7 3 (.int (k:Int)) [.fz (.lst N),.fz (.lst (L.map eD)),.ow B,un o3,un o4]=some [.fz (.lst N),.fz (.lst (L.map eD)),.ow B,.fz (.int (k:Int)),un o4]:=by cases o3<;>rfl
  rw[hb,C4]
  obtain⟨j,hj⟩:∃j,j=n-1-k:=⟨_,rfl⟩
  have hjI:(N.length:Int)-1-(k:Int)=(j:Int):=by rw[hN];omega
  obtain⟨X,mX,eX⟩:=a2P (a4p I.ndp (fun i m=>by rw[I.ln];exact I.lt i m) (k:=j) (by rw[I.ln];omega))
  have nX:=nok X mX
  cases X with
  | lf k' =>
   have eX:k'=j:=eX
   subst eX
   have a:atI N (k':Int)=some .non:=P3 nX
   refine⟨_,(congrArg K5 (b6U (J9 true) N B _ _ _ o4 hjI a rfl)).trans rfl,B,some (.int (k:Int)),some (.int (k':Int)),hB,fun Y mY hY=>?_,fun x hx=>b2 x (by rw[List.length_append,List.length_singleton]at hx;omega),rfl⟩
   rw[List.length_append,List.length_singleton]at hY
   by_cases z:Y.ix=k'
   ·have nY:=nok Y mY
    cases Y with
    | lf y =>
     have z:y=k':=z
     subst z
     exact b2 y (by omega)
    | ct y w t l r =>
     have z:y=k':=z
     subst z
     have nX:N[y]? = some .non:=nX
     have nY1:=nY.1
     rw[nX]at nY1
     cases nY1
   ·exact b1 Y mY (by omega)
  | ct k' w t l r =>
   have eX:k'=j:=eX
   subst eX
   obtain⟨n1,n2,n3⟩:=nX
   obtain⟨ml,mr⟩:=a2O mX
   have x1:=b1 l ml (by omega)
   have x2:=b1 r mr (by omega)
   have a:atI N (k':Int)=some (nd w t l.ix r.ix):=P3 n1
   refine⟨_,(congrArg K5 (b6V (J9 true) N B _ _ _ _ _ _ _ _ _ k' o4 hjI a rfl (P3 x1) (P3 x2) (a0k (by rw[hB];omega)))).trans rfl,B.set k' (pD (.ct w t (l.pl f) (r.pl f))),some (.int (k:Int)),some (.int (k':Int)),by rw[List.length_set,hB],fun Y mY hY=>?_,fun x hx=>?_,rfl⟩
   ·rw[List.length_append,List.length_singleton]at hY
    by_cases z:Y.ix=k'
    ·have nY:=nok Y mY
     cases Y with
     | lf y =>
      have z:y=k':=z
      subst z
      have nY:N[y]? = some .non:=nY
      rw[n1]at nY
      cases nY
     | ct y w' t' l' r' =>
      have z:y=k':=z
      subst z
      obtain⟨ml',mr'⟩:=a2O mY
      obtain⟨q1,q2,q3⟩:=nY
      rw[n1]at q1
      unfold nd at q1
      simp only[Option.some.injEq,D.tup.injEq,List.cons.injEq,D.str.injEq,D.int.injEq,and_true]at q1
      obtain⟨ew,et,el,er⟩:=q1
      have ew:w=w':=by
       revert ew
       unfold wS
       cases w<;>cases w' <;>decide +kernel
      have el:l.ix=l'.ix:=by omega
      have er:r.ix=r'.ix:=by omega
      have y1:=b1 l' ml' (by omega)
      have y2:=b1 r' mr' (by omega)
      rw[← el,x1]at y1
      rw[← er,x2]at y2
      show(B.set y _)[y]? = _
      rw[List.getElem?_set_self (by omega)]
      show some (D.tup [.str (wS w),.int t,pD (l.pl f),pD (r.pl f)])=some (D.tup [.str (wS w'),.int t',pD (l'.pl f),pD (r'.pl f)])
      rw[ew,et,Option.some.inj y1,Option.some.inj y2]
    ·rw[List.getElem?_set_ne (fun e=>z e.symm)]
     exact b1 Y mY (by omega)
   ·rw[List.length_append,List.length_singleton]at hx
    rw[List.getElem?_set_ne (by omega)]
    exact b2 x (by omega))
 rw[List.length_range]at b1
 refine b1O _ (.lst N) (L.map eD) B _ (un o3) (un o4) ?_ (P3 (j:=0) (by have:=b1 T (a2x T) (by omega);rw[I.rt]at this;exact this))
 have e0:(aC (B5 v5 0) aN) [.fz (.lst N),.fz (.lst (L.map eD)),.ow (L.map eD),.no,.no]=some (.ok [.int (N.length:Int)] [.fz (.lst N),.fz (.lst (L.map eD)),.ow (L.map eD),.no,.no]):=rfl
 rw[hN]at e0
 rw[Y4 e0 (a0K hl),a3q]
 exact fo
theorem a5y{c:BF}{body:SF}(I:Nat→DE→Prop)(Fin:DE→Prop)(hs:∀m e,I m e→(∃e1 e2,c e=some (.ok true e1)∧K5 (body e1)=some (.nx e2)∧∃m',m'<m∧I m' e2)∨(∃e1,c e=some (.ok false e1)∧Fin e1)):∀(fuel m:Nat) (e:DE),m<fuel→I m e→∃e',D7 c body fuel e=some (.nx e')∧Fin e'
 | 0,_,_,h,_=>absurd h (Nat.not_lt_zero _)
 | fuel+1,m,e,h,hi=>by
  rcases hs m e hi with⟨e1,e2,h1,h2,m',hm,h3⟩ | ⟨e1,h1,h2⟩
  ·obtain⟨e',h4,h5⟩:=a5y I Fin hs fuel m' e2 (by omega) h3
   refine⟨e',?_,h5⟩
   rw[D7,h1,T5,if_pos rfl]
   unfold K5 at h2
   split at h2
   ·rename_i q
    cases h2
    rw[q];exact h4
   ·rw[h2];exact h4
  ·exact⟨e1,by rw[D7,h1,T5];rfl,h2⟩
abbrev Np:=Sp4×Pl
def G4(x:Np):D:=.tup [sD x.1,pD x.2]
def r8:Sp4→Pl→List Np
 | q,.en e=>[(q,.en e)]
 | q,.ct w t l r=>(q,.ct w t l r)::(r8 (pL q w t) l++r8 (pR q w t) r)
def psz:Pl→Nat
 | .en _=>1
 | .ct _ _ l r=>1+(psz l+psz r)
def isC:Pl→Bool
 | .en _=>false
 | .ct _ _ _ _=>true
theorem a2Q:∀P:Pl,1≤psz P
 | .en _=>Nat.le_refl _
 | .ct _ _ l r=>by unfold psz;omega
theorem Z8(P:Pl):u9 [pD P]=some (.ret (.bl (isC P))):=by
 cases P with
 | en e=>cases e<;>rfl
 | ct w t l r=>cases w<;>rfl
noncomputable abbrev ndB(IC CS:List D→Option R1):SF:=(g0 (a05 (a3f 3) (C7 [(h7 4),(h7 5)])) (g0 (E4 2 (eT (aC (eV 4) (aC (eV 5) aN)))) (n8 (bZ (h9 IC (aC (eV 5) aN))) (g0 (a05 (h9 CS (aC (eV 4) (aC (eV 5) aN))) (C7 [(h7 6),(h7 7)])) (g0 (E4 3 (eT (aC (eV 7) (aC (eB d6 (eV 5) (eC (.int 3))) aN)))) (E4 3 (eT (aC (eV 6) (aC (eB d6 (eV 5) (eC (.int 2))) aN)))))) r9)))
theorem b6W(IC CS:List D→Option R1)(bx pl:D)(Out Z A:List D)(q p:D)(o4 o5 o6 o7:Option D)(z1:Z.getLast? = some (.tup [q,p]))(z2:Z.dropLast=A)(hl:Out.length<sizeLine)(hc:IC [p]=some (.ret (.bl false))):ndB IC CS [.fz bx,.fz pl,.ow Out,.ow Z,un o4,un o5,un o6,un o7]=some (.nx [.fz bx,.fz pl,.ow (Out++[.tup [q,p]]),.ow A,.fz q,.fz p,un o6,un o7]):=by
 unfold ndB
 walk_at "eh"
theorem b6X(IC CS:List D→Option R1)(bx pl:D)(Out Z A:List D)(q s t x y q1 q2:D)(o4 o5 o6 o7:Option D)(z1:Z.getLast? = some (.tup [q,.tup [s,t,x,y]]))(z2:Z.dropLast=A)(hl:Out.length<sizeLine)(hc:IC [.tup [s,t,x,y]]=some (.ret (.bl true)))(hs:CS [q,.tup [s,t,x,y]]=some (.ret (.tup [q1,q2])))(l1:A.length<sizeLine)(l2:(A++[D.tup [q2,y]]).length<sizeLine):ndB IC CS [.fz bx,.fz pl,.ow Out,.ow Z,un o4,un o5,un o6,un o7]=some (.nx [.fz bx,.fz pl,.ow (Out++[.tup [q,.tup [s,t,x,y]]]),.ow (A++[.tup [q2,y]]++[.tup [q1,x]]),.fz q,.fz (.tup [s,t,x,y]),.fz q1,.fz q2]):=by
 unfold ndB
 walk_at "eh"
theorem a7Z(st:List Np)(x:Np):((st++[x]).map G4).getLast? = some (G4 x)∧((st++[x]).map G4).dropLast=st.map G4:=by
 rw[List.map_append,List.map_singleton]
 exact⟨List.getLast?_concat,List.dropLast_concat⟩
abbrev wcB:BF:=(bZ (eB gGt (B5 v5 3) (eC (.int 0))))
theorem a5Y(s0 s1 s2:Sl)(Z:List D)(r:DE):wcB (s0::s1::s2 :: .ow Z::r)=some (.ok (decide ((Z.length:Int) > 0)) (s0::s1::s2 :: .ow Z::r)):=rfl
def fm(st:List Np):List Np:=st.reverse.flatMap fun x=>r8 x.1 x.2
theorem a1l(st:List Np)(x:Np):fm (st++[x])=r8 x.1 x.2++fm st:=by
 unfold fm
 rw[List.reverse_append,List.reverse_singleton,List.singleton_append,List.flatMap_cons]
def J4(st:List Np):Nat:=(st.map fun x=>psz x.2).sum
theorem G5(st:List Np)(x:Np):J4 (st++[x])=J4 st+psz x.2:=by
 unfold J4
 rw[List.map_append,List.sum_append]
 simp
theorem b2w(st:List Np):st.length≤J4 st:=by
 induction st with
 | nil=>exact Nat.zero_le _
 | cons a s ih =>
  have:=a2Q a.2
  unfold J4 at *
  rw[List.map_cons,List.sum_cons,List.length_cons]
  omega
abbrev ndE(bx pl:D)(Out Z:List D)(s4 s5 s6 s7:Sl):DE:=[.fz bx,.fz pl,.ow Out,.ow Z,s4,s5,s6,s7]
theorem b4i(WH:SF)(w h:Int)(p:D)(Out Z:List D)(s4 s5 s6 s7:Sl)(hw:WH [.fz (.tup [.int w,.int h]),.fz p,.ow [],.ow [.tup [.tup [.int 0,.int 0,.int w,.int h],p]],.no,.no,.no,.no]=some (.nx [.fz (.tup [.int w,.int h]),.fz p,.ow Out,.ow Z,s4,s5,s6,s7])) :
  fD 8 2 (g0 (w8 2 (eL aN)) (g0 (w8 3 (eL (aC (eT (aC (eT (aC (eC (.int 0)) (aC (eC (.int 0)) (aC (eB d6 (eV 0) (eC (.int 0))) (aC (eB d6 (eV 0) (eC (.int 1))) aN))))) (aC (eV 1) aN))) aN))) (g0 WH (Z1 2)))) [.tup [.int w,.int h],p]=some (.own Out):=by
 walk_at "eh"
theorem a6R(W H:Int)(P:Pl)(hs:psz P≤1000):B9 [.tup [.int W,.int H],pD P]=some (.own ((r8 ⟨0,0,W,H⟩ P).map G4)):=by
 obtain⟨e',f,Z,s4,s5,s6,s7,rfl⟩:=a5y (c:=wcB) (body:=ndB u9 F6) (fun m e=>∃(out st:List Np) (o4 o5 o6 o7:Option D),e=ndE (.tup [.int W,.int H]) (pD P) (out.map G4) (st.map G4) (un o4) (un o5) (un o6) (un o7)∧out++fm st=r8 ⟨0,0,W,H⟩ P∧m=J4 st∧out.length+J4 st=psz P∧st.length≤J4 st) (fun e=>∃(Z:List D) (s4 s5 s6 s7:Sl),e=ndE (.tup [.int W,.int H]) (pD P) ((r8 ⟨0,0,W,H⟩ P).map G4) Z s4 s5 s6 s7) (by
  rintro m e ⟨out,st,o4,o5,o6,o7,rfl,h1,rfl,h2,h3⟩
  rcases List.eq_nil_or_concat st with rfl | ⟨st',x,rfl⟩
  ·right
   refine⟨_,a5Y _ _ _ _ _,[],un o4,un o5,un o6,un o7,?_⟩
   rw[← h1]
   show _=ndE (.tup [.int W,.int H]) (pD P) ((out++[]).map G4) _ _ _ _ _
   rw[List.append_nil]
   rfl
  ·left
   rw[List.concat_eq_append]at *
   obtain⟨z1,z2⟩:=a7Z st' x
   rw[G5]at h2 h3
   rw[List.length_append,List.length_singleton]at h3
   rw[a1l]at h1
   have hc:decide ((((st'++[x]).map G4).length:Int) > 0)=true:=decide_eq_true (by rw[List.length_map,List.length_append];show((_+1:Nat):Int) > 0;omega)
   obtain⟨q,X⟩:=x
   cases X with
   | en en0 =>
    have h2:out.length+(J4 st'+1)=psz P:=h2
    have h3:st'.length+1≤J4 st'+1:=h3
    refine⟨_,_,(a5Y _ _ _ _ _).trans (by rw[hc]),(congrArg K5 (b6W u9 F6 _ _ (out.map G4) _ _ _ _ o4 o5 o6 o7 z1 z2 (by rw[List.length_map];show _<2 ^ 24;omega) (Z8 (.en en0)))).trans rfl,J4 st',by rw[G5];show _<J4 st'+1;omega,out++[(q,.en en0)],st',some (sD q),some (pD (.en en0)),o6,o7,?_,?_,rfl,?_,by omega⟩
    ·rw[List.map_append];rfl
    ·rw[List.append_assoc];exact h1
    ·rw[List.length_append];show _+1+_=_;omega
   | ct w t l r =>
    have h2:out.length+(J4 st'+(1+(psz l+psz r)))=psz P:=h2
    have h3:st'.length+1≤J4 st'+(1+(psz l+psz r)):=h3
    have pl:=a2Q l
    have pr:=a2Q r
    have hst:=b2w st'
    have lz:(st'.map G4).length<sizeLine:=by rw[List.length_map];show _<2 ^ 24;omega
    refine⟨_,_,(a5Y _ _ _ _ _).trans (by rw[hc]),(congrArg K5 (b6X u9 F6 _ _ (out.map G4) _ _ _ _ _ _ _ _ _ o4 o5 o6 o7 z1 z2 (by rw[List.length_map];show _<2 ^ 24;omega) (Z8 (.ct w t l r)) (b0m q w t _ _) lz (by rw[List.length_append,List.length_map];show _+1<2 ^ 24;omega))).trans rfl,J4 (st'++[(pR q w t,r)]++[(pL q w t,l)]),?_,out++[(q,.ct w t l r)],st'++[(pR q w t,r)]++[(pL q w t,l)],some (sD q),some (pD (.ct w t l r)),some (sD (pL q w t)),some (sD (pR q w t)),?_,?_,rfl,?_,?_⟩
    ·rw[G5,G5,G5]
     show J4 st'+psz r+psz l<J4 st'+(1+(psz l+psz r))
     omega
    ·rw[List.map_append,List.map_append,List.map_append];rfl
    ·rw[a1l,a1l,List.append_assoc]
     show out++((q,Pl.ct w t l r)::(r8 (pL q w t) l++(r8 (pR q w t) r++fm st')))=_
     rw[← h1]
     show _=out++(((q,Pl.ct w t l r)::(r8 (pL q w t) l++r8 (pR q w t) r))++fm st')
     rw[List.cons_append,List.append_assoc]
    ·rw[G5,G5,List.length_append]
     show out.length+1+(J4 st'+psz r+psz l)=_
     omega
    ·rw[G5,G5,List.length_append,List.length_append]
     show st'.length+1+1≤J4 st'+psz r+psz l
     omega) 1000000 (psz P) (ndE (.tup [.int W,.int H]) (pD P) [] [G4 (⟨0,0,W,H⟩,P)] .no .no .no .no) (by omega) ⟨[],[(⟨0,0,W,H⟩,P)],none,none,none,none,rfl,by unfold fm;simp,by unfold J4;simp,by unfold J4;simp,by unfold J4;have:=a2Q P;simp;omega⟩
 exact b4i _ W H _ _ Z s4 s5 s6 s7 f
def wAt(ws:List W3)(i:Int):W3:=ws.getD i.toNat (0,0,false)
def sdB(v:W3)(b:Bool):Int×Int:=if b=true then(v.2.1,v.1)else(v.1,v.2.1)
def sdD(p:Int×Int):D:=.tup [.int p.1,.int p.2]
def U6(ws:List W3)(q:Sp4)(i:Int)(b:Bool)(told:List Int):Bool:=decide (i<0) || (decide ((ws.length:Int)≤i) || (decide (i∈told) || ((b && !(wAt ws i).2.2) || decide (sdB (wAt ws i) b≠(q.c-q.a,q.d-q.b)))))
def S8(ws:List W3)(told:List Int)(x:Np):Sum D (List Int):=match x.2 with
 | .ct w t _ _=>if t<1∨K6 x.1 w≤t then .inl (.tup [.str "cut",.int t])else .inr told
 | .en .wa=>.inr told
 | .en (.wr i b)=>if U6 ws x.1 i b told=true then .inl (.tup [.str "ware",.int i])else .inr (told++[i])
def F9(ws:List W3):List Np→List Int→Sum D (List Int)
 | [],t=>.inr t
 | x::xs,t=>match S8 ws t x with
  | .inl d=>.inl d
  | .inr t'=>F9 ws xs t'
abbrev iI(l:List Int):List D:=l.map D.int
abbrev kT(t:List Int):DK:=.inl (t.map fun(j:Int)=>(Sum.inl j:v9))
abbrev vT(t:List Int):List D:=t.map fun _=>D.bl true
theorem a85(i:Int):∀r:List Int,a0G (r.map fun(j:Int)=>(Sum.inl j:v9)) (.inl i)=decide (i∈r)
 | []=>rfl
 | j::r=>by
  have ih:=a85 i r
  unfold a0G at ih ⊢
  rw[List.map_cons,List.any_cons,ih]
  by_cases z:i=j
  ·subst z;simp
  ·have z':¬((Sum.inl j:v9)=.inl i):=fun y=>by injection y with y;exact z y.symm
   simp[z',z]
theorem b6k(r:List Int)(i:Int)(h:i ∉ r):putD (kT r) (vT r) (.int i) (.bl true)=some (kT (r++[i]),vT (r++[i])):=by
 show some (if a0G (r.map fun(j:Int)=>(Sum.inl j:v9)) (.inl i)=true then _ else _)=_
 rw[a85]
 simp only[h,decide_false,if_false,Bool.false_eq_true]
 unfold kT vT
 rw[List.map_append,List.map_append]
 rfl
theorem b2z(r:List Int)(j:Int):∃o,a0H (kT r) (vT r) (.int j)=some o∧o.isSome=decide (j∈r):=by
 refine⟨_,rfl,?_⟩
 rw[← a85]
 induction r with
 | nil=>rfl
 | cons x r ih =>
  unfold a0G at ih ⊢
  show(a1N ((Sum.inl x:v9)::_) (D.bl true::vT r) (Sum.inl j)).isSome=_
  rw[List.map_cons,List.any_cons,← ih,a1N]
  by_cases z:(Sum.inl x:v9)=.inl j
  ·rw[if_pos z];simp[z]
  ·rw[if_neg z];simp[z]
theorem b2A(i:Int)(r:List Int)(neg:Bool):W9 neg (.int i) (.lst (iI r))=some (.bl (if neg then !decide (i∈r)else decide (i∈r))):=by
 have hf:(iI r).all n9=true:=by
  rw[List.all_eq_true]
  intro d m
  obtain⟨j,_,rfl⟩:=List.mem_map.mp m
  rfl
 have hi:inD (.int i) (iI r)=decide (i∈r):=by
  unfold inD
  rw[Bool.eq_iff_iff,List.any_eq_true,decide_eq_true_eq]
  constructor
  ·rintro⟨d,m,h⟩
   obtain⟨j,mj,rfl⟩:=List.mem_map.mp m
   have:j=i:=by
    have h:U8 (.int j) (.int i)=true:=h
    simpa [U8]using h
   rw[← this];exact mj
  ·intro m
   exact⟨_,List.mem_map.mpr ⟨i,m,rfl⟩,by simp[U8]⟩
 show(if(true && (iI r).all n9)=true then _ else _)=_
 rw[hf,hi]
 rfl
theorem b5K{ws:List W3}{i:Int}(h0:¬i<0)(h1:¬(ws.length:Int)≤i):atI (ws.map w3) i=some (w3 (wAt ws i)):=by
 obtain⟨n,rfl⟩:=Int.eq_ofNat_of_zero_le (show 0≤i by omega)
 have hn:n<ws.length:=by omega
 refine P3 ?_
 unfold wAt
 rw[List.getElem?_map,List.getElem?_eq_getElem hn]
 simp[hn]
theorem b5L(W:List D)(i:Int):A1 [.lst W,.int i]=some (.ret (.bl (decide (0≤i) && decide (i<(W.length:Int))))):=by
 unfold A1 a1j
 by_cases h:0≤i
 ·have h':i≥0:=h
  simp only[h,decide_true,Bool.true_and]
  walk_at "eh"
 ·have h':¬i≥0:=h
  simp only[h,decide_false,Bool.false_and]
  walk_at "eh"
theorem b4j(v:W3)(b:Bool)(h:b=true→v.2.2=true):F5 [w3 v,.bl b]=some (.ret (sdD (sdB v b))):=by
 obtain⟨x,y,t⟩:=v
 cases b
 ·rfl
 ·have:t=true:=h rfl
  subst this
  rfl
theorem b2B(neg:Bool)(p q:Int×Int):K3 neg (sdD p) (sdD q)=some (.bl (if neg then !decide (p=q)else decide (p=q))):=by
 obtain⟨a,b⟩:=p
 obtain⟨c,d⟩:=q
 have e:A7 (sdD (a,b)) (sdD (c,d))=decide ((a,b)=(c,d)):=by
  unfold sdD
  simp only[A7,O1,U8,List.isEmpty_nil,Bool.and_true]
  by_cases h1:a=c
  ·by_cases h2:b=d
   ·subst h1 h2;simp
   ·subst h1;simp[h2]
  ·simp[h1]
 show(if _ then some (D.bl (if neg then !A7 (sdD (a,b)) (sdD (c,d))else A7 (sdD (a,b)) (sdD (c,d))))else none)=_
 rw[e]
 rfl
noncomputable abbrev rwB(NU SI:List D→Option R1)(GT:Bool→D→D→Option D):SF:=(g0 (m9 4 (eB d6 (eV 2) (eC (.int 1)))) (g0 (m9 5 (eB d6 (eV 2) (eC (.int 2)))) (g0 (n8 (S7 (B4 (bZ (h9 NU (aC (eV 0) (aC (eV 4) aN))))) (S7 (bZ (a8P (eV 4) 3)) (Z9 (bZ (eV 5)) (B4 (bZ (eB d6 (t5 k8 0 (eV 4)) (eC (.int 2)))))))) (j0 (eC (.bl false))) r9) (j0 (eB (GT false) (Z0 SI (aC (t5 k8 0 (eV 4)) (aC (eV 5) aN))) (eT (aC (eB w9 (eB d6 (eV 1) (eC (.int 2))) (eB d6 (eV 1) (eC (.int 0)))) (aC (eB w9 (eB d6 (eV 1) (eC (.int 3))) (eB d6 (eV 1) (eC (.int 1)))) aN))))))))
theorem b5M(NU SI:List D→Option R1)(GT:Bool→D→D→Option D)(W:List D)(q w:D)(i:Int)(b:D)(ks:DK)(vs:List D)(h1:NU [.lst W,.int i]=some (.ret (.bl false))):fD 6 4 (rwB NU SI GT) [.lst W,q,.tup [w,.int i,b],.dic ks vs]=some (.ret (.bl false)):=by
 unfold rwB
 walk_at "eh"
theorem b6Y(NU SI:List D→Option R1)(GT:Bool→D→D→Option D)(W:List D)(q w:D)(i:Int)(b:D)(ks:DK)(vs:List D)(o:Option D)(h1:NU [.lst W,.int i]=some (.ret (.bl true)))(h2:a0H ks vs (.int i)=some o)(h3:o.isSome=true):fD 6 4 (rwB NU SI GT) [.lst W,q,.tup [w,.int i,b],.dic ks vs]=some (.ret (.bl false)):=by
 unfold rwB
 walk_at "eh"
theorem b6Z(NU SI:List D→Option R1)(GT:Bool→D→D→Option D)(W:List D)(q w:D)(i x y:Int)(ks:DK)(vs:List D)(o:Option D)(h1:NU [.lst W,.int i]=some (.ret (.bl true)))(h2:a0H ks vs (.int i)=some o)(h3:o.isSome=false)(a:atI W i=some (.tup [.int x,.int y,.bl false])):fD 6 4 (rwB NU SI GT) [.lst W,q,.tup [w,.int i,.bl true],.dic ks vs]=some (.ret (.bl false)):=by
 unfold rwB
 walk_at "eh"
theorem b60(NU SI:List D→Option R1)(GT:Bool→D→D→Option D)(W:List D)(qa qb qc qd:Int)(w:D)(i x y:Int)(t b e:Bool)(s:D)(ks:DK)(vs:List D)(o:Option D)(h1:NU [.lst W,.int i]=some (.ret (.bl true)))(h2:a0H ks vs (.int i)=some o)(h3:o.isSome=false)(a:atI W i=some (.tup [.int x,.int y,.bl t]))(hb:b=false∨t=true)(hs:SI [.tup [.int x,.int y,.bl t],.bl b]=some (.ret s))(hg:GT false s (.tup [.int (qc-qa),.int (qd-qb)])=some (.bl e)) :
  fD 6 4 (rwB NU SI GT) [.lst W,.tup [.int qa,.int qb,.int qc,.int qd],.tup [w,.int i,.bl b],.dic ks vs]=some (.ret (.bl e)):=by
 unfold rwB
 rcases hb with rfl | rfl
 ·walk_at "eh"
 ·cases b<;>walk_at "eh"
theorem b1P(ws:List W3)(q:Sp4)(i:Int)(b:Bool)(told:List Int):u4 [.lst (ws.map w3),sD q,.tup [.str "ware",.int i,.bl b],.dic (kT told) (vT told)]=some (.ret (.bl (!U6 ws q i b told))):=by
 have nu:=b5L (ws.map w3) i
 rw[List.length_map]at nu
 obtain⟨o,gz1,g2⟩:=b2z told i
 unfold U6
 by_cases h0:i<0
 ·have e:(decide (0≤i) && decide (i<(ws.length:Int)))=false:=by simp;omega
  rw[e]at nu
  refine(b5M A1 F5 K3 _ _ _ i _ _ _ nu).trans ?_
  simp[h0]
 ·by_cases h1:(ws.length:Int)≤i
  ·have e:(decide (0≤i) && decide (i<(ws.length:Int)))=false:=by simp;omega
   rw[e]at nu
   refine(b5M A1 F5 K3 _ _ _ i _ _ _ nu).trans ?_
   simp[h1]
  ·have e:(decide (0≤i) && decide (i<(ws.length:Int)))=true:=by simp;omega
   rw[e]at nu
   have aw:=b5K h0 h1
   generalize hv:wAt ws i=v at *
   obtain⟨x,y,t⟩:=v
   by_cases h2:i∈told
   ·refine(b6Y A1 F5 K3 _ _ _ i _ _ _ o nu gz1 (by rw[g2];exact decide_eq_true h2)).trans ?_
    simp[h2]
   ·have g3:o.isSome=false:=by rw[g2];exact decide_eq_false h2
    by_cases h3:b=true∧t=false
    ·obtain⟨rfl,rfl⟩:=h3
     refine(b6Z A1 F5 K3 _ _ _ i x y _ _ o nu gz1 g3 aw).trans ?_
     simp
    ·have hb:b=false∨t=true:=by cases b<;>cases t<;>simp_all
     have si:=b4j (x,y,t) b (fun z=>by rcases hb with z' | z';rw[z]at z';cases z';exact z')
     refine(b60 A1 F5 K3 _ q.a q.b q.c q.d _ i x y t b _ _ _ _ o nu gz1 g3 aw hb si (b2B false _ (q.c-q.a,q.d-q.b))).trans ?_
     have n3:(b && !t)=false:=by rcases hb with rfl | rfl<;>simp
     simp only[h0,h1,h2,n3,decide_false,Bool.false_or,if_false,Bool.false_eq_true,ne_eq,decide_not,Bool.not_not]
noncomputable abbrev efB(GN GT:Bool→D→D→Option D):SF:=(g0 (m9 4 (eB d6 (eV 2) (eC (.int 1)))) (g0 (n8 (S7 (bZ (eB gLt (eV 4) (eC (.int 0)))) (S7 (bZ (eB gGe (eV 4) (B5 v5 0))) (bZ (eBW (GN false) (eV 4) 3)))) (j0 (eC (.bl true))) r9) (g0 (n8 (Z9 (bZ (eB d6 (eV 2) (eC (.int 2)))) (B4 (bZ (eB d6 (t5 k8 0 (eV 4)) (eC (.int 2)))))) (j0 (eC (.bl true))) r9) (g0 (m9 5 (eB w9 (eB d6 (eV 1) (eC (.int 2))) (eB d6 (eV 1) (eC (.int 0))))) (g0 (m9 6 (eB w9 (eB d6 (eV 1) (eC (.int 3))) (eB d6 (eV 1) (eC (.int 1))))) (g0 (n8 (bZ (eB d6 (eV 2) (eC (.int 2)))) (j0 (eB (GT true) (eT (aC (eB d6 (t5 k8 0 (eV 4)) (eC (.int 1))) (aC (eB d6 (t5 k8 0 (eV 4)) (eC (.int 0))) aN))) (eT (aC (eV 5) (aC (eV 6) aN))))) r9) (j0 (eB (GT true) (eT (aC (eB d6 (t5 k8 0 (eV 4)) (eC (.int 0))) (aC (eB d6 (t5 k8 0 (eV 4)) (eC (.int 1))) aN))) (eT (aC (eV 5) (aC (eV 6) aN)))))))))))
theorem b5N(GN GT:Bool→D→D→Option D)(W:List D)(q w:D)(i:Int)(b:D)(T:List D)(h1:i<0∨(¬i<0∧i≥(W.length:Int))):fD 7 4 (efB GN GT) [.lst W,q,.tup [w,.int i,b],.lst T]=some (.ret (.bl true)):=by
 unfold efB
 rcases h1 with h1 | ⟨h1,h2⟩<;>walk_at "eh"
theorem b61(GN GT:Bool→D→D→Option D)(W:List D)(q w:D)(i:Int)(b:D)(T:List D)(h1:¬i<0)(h2:¬i≥(W.length:Int))(h3:GN false (.int i) (.lst T)=some (.bl true)):fD 7 4 (efB GN GT) [.lst W,q,.tup [w,.int i,b],.lst T]=some (.ret (.bl true)):=by
 unfold efB
 walk_at "eh"
theorem b62(GN GT:Bool→D→D→Option D)(W:List D)(q w:D)(i x y:Int)(T:List D)(h1:¬i<0)(h2:¬i≥(W.length:Int))(h3:GN false (.int i) (.lst T)=some (.bl false))(a:atI W i=some (.tup [.int x,.int y,.bl false])):fD 7 4 (efB GN GT) [.lst W,q,.tup [w,.int i,.bl true],.lst T]=some (.ret (.bl true)):=by
 unfold efB
 walk_at "eh"
theorem b63(GN GT:Bool→D→D→Option D)(W:List D)(qa qb qc qd:Int)(w:D)(i x y:Int)(t b e:Bool)(T:List D)(h1:¬i<0)(h2:¬i≥(W.length:Int))(h3:GN false (.int i) (.lst T)=some (.bl false))(a:atI W i=some (.tup [.int x,.int y,.bl t]))(hb:b=false∨t=true)(hg:GT true (.tup [.int (if b=true then y else x),.int (if b=true then x else y)]) (.tup [.int (qc-qa),.int (qd-qb)])=some (.bl e)) :
  fD 7 4 (efB GN GT) [.lst W,.tup [.int qa,.int qb,.int qc,.int qd],.tup [w,.int i,.bl b],.lst T]=some (.ret (.bl e)):=by
 unfold efB
 rcases hb with rfl | rfl
 ·simp only[Bool.false_eq_true,if_false]at hg
  walk_at "eh"
 ·cases b
  ·simp only[Bool.false_eq_true,if_false]at hg
   walk_at "eh"
  ·simp only[if_true]at hg
   walk_at "eh"
theorem b4k(ws:List W3)(q:Sp4)(i:Int)(b:Bool)(told:List Int):z8 [.lst (ws.map w3),sD q,.tup [.str "ware",.int i,.bl b],.lst (iI told)]=some (.ret (.bl (U6 ws q i b told))):=by
 have lw:(ws.map w3).length=ws.length:=List.length_map ..
 unfold U6
 by_cases h0:i<0
 ·refine(b5N W9 K3 _ _ _ i _ _ (.inl h0)).trans ?_
  simp[h0]
 ·by_cases h1:(ws.length:Int)≤i
  ·refine(b5N W9 K3 _ _ _ i _ _ (.inr ⟨h0,by rw[lw];exact h1⟩)).trans ?_
   simp[h1]
  ·have aw:=b5K h0 h1
   generalize hv:wAt ws i=v at *
   obtain⟨x,y,t⟩:=v
   have gi:=b2A i told false
   by_cases h2:i∈told
   ·refine(b61 W9 K3 _ _ _ i _ _ h0 (by rw[lw];exact h1) (gi.trans (by simp[h2]))).trans ?_
    simp[h2]
   ·have g3:W9 false (.int i) (.lst (iI told))=some (.bl false):=gi.trans (by simp[h2])
    by_cases h3:b=true∧t=false
    ·obtain⟨rfl,rfl⟩:=h3
     refine(b62 W9 K3 _ _ _ i x y _ h0 (by rw[lw];exact h1) g3 aw).trans ?_
     simp
    ·have hb:b=false∨t=true:=by cases b<;>cases t<;>simp_all
     have es:=b2B true (if b=true then y else x,if b=true then x else y) (q.c-q.a,q.d-q.b)
     refine(b63 W9 K3 _ q.a q.b q.c q.d _ i x y t b _ _ h0 (by rw[lw];exact h1) g3 aw hb es).trans ?_
     have n3:(b && !t)=false:=by rcases hb with rfl | rfl<;>simp
     have e2:(if b=true then y else x,if b=true then x else y)=sdB (x,y,t) b:=by cases b<;>rfl
     rw[e2]
     simp only[h0,h1,h2,n3,decide_false,Bool.false_or,if_true,ne_eq,decide_not]
noncomputable abbrev pfB(IC CSD RW:List D→Option R1)(GE:D→D→Option D):SF:=(g0 (n8 (Z9 (bZ (h9 IC (aC (eV 5) aN))) (S7 (bZ (eB gLt (eB d6 (eV 5) (eC (.int 1))) (eC (.int 1)))) (bZ (eB gGe (eB d6 (eV 5) (eC (.int 1))) (h9 CSD (aC (eV 4) (aC (eV 5) aN))))))) (j0 (eT (aC (eC (.str "cut")) (aC (eB d6 (eV 5) (eC (.int 1))) aN)))) r9) (n8 (bZ (eB (GE) (eB d6 (eV 5) (eC (.int 0))) (eC (.str "ware")))) (g0 (n8 (a1J (B4 (bZ (Z0 RW (aC (eV 1) (aC (eV 4) (aC (eV 5) (aC (eV 3) aN)))))))) (j0 (eT (aC (eC (.str "ware")) (aC (eB d6 (eV 5) (eC (.int 1))) aN)))) r9) (a5V 3 (eB d6 (eV 5) (eC (.int 1))) (eC (.bl true)))) r9))
abbrev B7(bx:D)(W:List D)(pl:D)(ks:DK)(vs:List D)(s4 s5 s6:Sl):DE:=[.fz bx,.fz (.lst W),.fz pl,.od ks vs,s4,s5,s6]
theorem b64(IC CSD RW:List D→Option R1)(GE:D→D→Option D)(bx:D)(W:List D)(pl q s x y:D)(t sd:Int)(ks:DK)(vs:List D)(s6:Sl)(h1:IC [.tup [s,.int t,x,y]]=some (.ret (.bl true)))(h2:CSD [q,.tup [s,.int t,x,y]]=some (.ret (.int sd)))(hc:t<1∨(¬t<1∧t≥sd)) :
  pfB IC CSD RW GE (B7 bx W pl ks vs (.fz q) (.fz (.tup [s,.int t,x,y])) s6)=some (.rt (.tup [.str "cut",.int t])):=by
 unfold pfB B7
 rcases hc with hc | ⟨hc,hd⟩<;>walk_at "eh"
theorem b65(IC CSD RW:List D→Option R1)(GE:D→D→Option D)(bx:D)(W:List D)(pl q s x y:D)(t sd:Int)(ks:DK)(vs:List D)(s6:Sl)(h1:IC [.tup [s,.int t,x,y]]=some (.ret (.bl true)))(h2:CSD [q,.tup [s,.int t,x,y]]=some (.ret (.int sd)))(hc:¬t<1)(hd:¬t≥sd)(hg:GE s (.str "ware")=some (.bl false)) :
  pfB IC CSD RW GE (B7 bx W pl ks vs (.fz q) (.fz (.tup [s,.int t,x,y])) s6)=some (.nx (B7 bx W pl ks vs (.fz q) (.fz (.tup [s,.int t,x,y])) s6)):=by
 unfold pfB B7
 walk_at "eh"
theorem b66(IC CSD RW:List D→Option R1)(GE:D→D→Option D)(bx:D)(W:List D)(pl q s:D)(ks:DK)(vs:List D)(s6:Sl)(h1:IC [.tup [s]]=some (.ret (.bl false)))(hg:GE s (.str "ware")=some (.bl false)) :
  pfB IC CSD RW GE (B7 bx W pl ks vs (.fz q) (.fz (.tup [s])) s6)=some (.nx (B7 bx W pl ks vs (.fz q) (.fz (.tup [s])) s6)):=by
 unfold pfB B7
 walk_at "eh"
theorem b67(IC CSD RW:List D→Option R1)(GE:D→D→Option D)(bx:D)(W:List D)(pl q s b:D)(i:Int)(ks:DK)(vs:List D)(s6:Sl)(h1:IC [.tup [s,.int i,b]]=some (.ret (.bl false)))(hg:GE s (.str "ware")=some (.bl true))(hr:RW [.lst W,q,.tup [s,.int i,b],.dic ks vs]=some (.ret (.bl false))) :
  pfB IC CSD RW GE (B7 bx W pl ks vs (.fz q) (.fz (.tup [s,.int i,b])) s6)=some (.rt (.tup [.str "ware",.int i])):=by
 unfold pfB B7
 walk_at "eh"
theorem b68(IC CSD RW:List D→Option R1)(GE:D→D→Option D)(bx:D)(W:List D)(pl q s b:D)(i:Int)(ks:DK)(vs:List D)(kd:DK×List D)(s6:Sl)(h1:IC [.tup [s,.int i,b]]=some (.ret (.bl false)))(hg:GE s (.str "ware")=some (.bl true))(hr:RW [.lst W,q,.tup [s,.int i,b],.dic ks vs]=some (.ret (.bl true)))(hl:dkN ks<sizeLine)(hp:putD ks vs (.int i) (.bl true)=some kd) :
  pfB IC CSD RW GE (B7 bx W pl ks vs (.fz q) (.fz (.tup [s,.int i,b])) s6)=some (.nx (B7 bx W pl kd.1 kd.2 (.fz q) (.fz (.tup [s,.int i,b])) s6)):=by
 unfold pfB B7
 walk_at "eh"
theorem b1Q(q:Sp4)(w:Bool)(t:Int)(x y:D):B2 [sD q,.tup [.str (wS w),.int t,x,y]]=some (.ret (.int (K6 q w))):=by
 obtain⟨a,b,c,d⟩:=q
 cases w<;>unfold B2 a4j sD wS K6<;>walk_at "ev" <;>rfl
theorem gws(w:Bool):u6 false (.str (wS w)) (.str "ware")=some (.bl false)∧u6 true (.str (wS w)) (.str "waste")=some (.bl true)∧u6 false (.str (wS w)) (.str "up")=some (.bl w):=by cases w<;>exact⟨rfl,rfl,rfl⟩
theorem b4l(bx pl:D)(ws:List W3)(told:List Int)(ht:told.length≤1000)(x:Np)(s6:Sl):pfB u9 B2 u4 (u6 false) (B7 bx (ws.map w3) pl (kT told) (vT told) (.fz (sD x.1)) (.fz (pD x.2)) s6)=match S8 ws told x with
  | .inl d=>some (.rt d)
  | .inr t=>some (.nx (B7 bx (ws.map w3) pl (kT t) (vT t) (.fz (sD x.1)) (.fz (pD x.2)) s6)):=by
 obtain⟨q,X⟩:=x
 cases X with
 | en e =>
  cases e with
  | wa=>exact b66 u9 B2 u4 (u6 false) _ _ _ _ _ _ _ _ (Z8 (.en .wa)) rfl
  | wr i b =>
   have hr:=b1P ws q i b told
   show _=match(if U6 ws q i b told=true then(Sum.inl (D.tup [.str "ware",.int i]):Sum D (List Int))else .inr (told++[i]))with
    | .inl d=>some (RS.rt d)
    | .inr t=>some (RS.nx (B7 bx (ws.map w3) pl (kT t) (vT t) (.fz (sD q)) (.fz (pD (.en (.wr i b)))) s6))
   cases hb:U6 ws q i b told with
   | true =>
    rw[hb]at hr
    exact b67 u9 B2 u4 (u6 false) _ _ _ _ _ _ _ _ _ _ (Z8 (.en (.wr i b))) rfl hr
   | false =>
    rw[hb]at hr
    have ni:i ∉ told:=fun m=>by
     unfold U6 at hb
     simp[m]at hb
    exact b68 u9 B2 u4 (u6 false) _ _ _ _ _ _ _ _ _ _ _ (Z8 (.en (.wr i b))) rfl hr (by show(told.map _).length<2 ^ 24;rw[List.length_map];omega) (b6k told i ni)
 | ct w t l r =>
  have hs:=b1Q q w t (pD l) (pD r)
  show _=match(if t<1∨K6 q w≤t then(Sum.inl (D.tup [.str "cut",.int t]):Sum D (List Int))else .inr told)with
   | .inl d=>some (RS.rt d)
   | .inr t'=>some (RS.nx (B7 bx (ws.map w3) pl (kT t') (vT t') (.fz (sD q)) (.fz (pD (.ct w t l r))) s6))
  by_cases h:t<1∨K6 q w≤t
  ·rw[if_pos h]
   refine b64 u9 B2 u4 (u6 false) _ _ _ _ _ _ _ t _ _ _ _ (Z8 (.ct w t l r)) hs ?_
   by_cases z:t<1
   ·exact .inl z
   ·exact .inr ⟨z,by rcases h with h | h;exact absurd h z;exact h⟩
  ·rw[if_neg h]
   exact b65 u9 B2 u4 (u6 false) _ _ _ _ _ _ _ t _ _ _ _ (Z8 (.ct w t l r)) hs (fun z=>h (.inl z)) (fun z=>h (.inr z)) (gws w).1
theorem b4m{ws:List W3}{told t:List Int}{x:Np}(h:S8 ws told x=.inr t):t.length≤told.length+1:=by
 unfold S8 at h
 split at h
 ·split at h
  ·cases h
  ·cases h;omega
 ·cases h;omega
 ·split at h
  ·cases h
  ·cases h;rw[List.length_append,List.length_singleton];omega
theorem a71(bx pl:D)(ws:List W3)(s6:Sl):∀(L:List Np) (told:List Int) (o4 o5:Option D),told.length+L.length≤1000→match F9 ws L told with
  | .inl d=>B3 (C7 [(h7 4),(h7 5)]) (pfB u9 B2 u4 (u6 false)) (L.map G4) (B7 bx (ws.map w3) pl (kT told) (vT told) (un o4) (un o5) s6)=some (.rt d)
  | .inr t=>∃p4 p5,B3 (C7 [(h7 4),(h7 5)]) (pfB u9 B2 u4 (u6 false)) (L.map G4) (B7 bx (ws.map w3) pl (kT told) (vT told) (un o4) (un o5) s6)=some (.nx (B7 bx (ws.map w3) pl (kT t) (vT t) (un p4) (un p5) s6))
 | [],told,o4,o5,_=>⟨o4,o5,rfl⟩
 | x::L,told,o4,o5,hl=>by
  rw[List.length_cons]at hl
  have hb:C7 [(h7 4),(h7 5)] (G4 x) (B7 bx (ws.map w3) pl (kT told) (vT told) (un o4) (un o5) s6)=some (B7 bx (ws.map w3) pl (kT told) (vT told) (.fz (sD x.1)) (.fz (pD x.2)) s6):=by cases o4<;>cases o5<;>rfl
  have st:=b4l bx pl ws told (by omega) x s6
  unfold F9
  rw[List.map_cons,N9,hb,C4,st]
  cases hs:S8 ws told x with
  | inl d=>exact rfl
  | inr t =>
   have:=b4m hs
   exact a71 bx pl ws s6 L t (some (sD x.1)) (some (pD x.2)) (by omega)
noncomputable abbrev lfB(EF PA:List D→Option R1)(GE:Bool→D→D→Option D):SF:=(g0 (a05 (a3f 3) (C7 [(h7 5),(h7 6)])) (n8 (bZ (eB (GE false) (eB d6 (eV 6) (eC (.int 0))) (eC (.str "ware")))) (g0 (n8 (a1J (bZ (h9 EF (aC (eV 1) (aC (eV 5) (aC (eV 6) (aC (eV 4) aN))))))) (j0 (eT (aC (eC (.str "ware")) (aC (eB d6 (eV 6) (eC (.int 1))) aN)))) r9) (E4 4 (eB d6 (eV 6) (eC (.int 1))))) (n8 (bZ (eB (GE true) (eB d6 (eV 6) (eC (.int 0))) (eC (.str "waste")))) (g0 (m9 7 (V7 (g1 a1E) (aC (eB (GE false) (eB d6 (eV 6) (eC (.int 0))) (eC (.str "up"))) aN))) (g0 (n8 (B4 (bZ (a37 gLe gLt (eC (.int 1)) (eB d6 (eV 6) (eC (.int 1))) (eB w9 (eB d6 (eV 5) (eB w4 (eV 7) (eC (.int 2)))) (eB d6 (eV 5) (eV 7)))))) (j0 (eT (aC (eC (.str "cut")) (aC (eB d6 (eV 6) (eC (.int 1))) aN)))) r9) (g0 (K0 8 PA (aC (eV 5) (aC (eV 7) (aC (eB d6 (eV 6) (eC (.int 1))) aN)))) (g0 (E4 3 (eT (aC (eB d6 (eV 8) (eC (.int 1))) (aC (eB d6 (eV 6) (eC (.int 3))) aN)))) (E4 3 (eT (aC (eB d6 (eV 8) (eC (.int 0))) (aC (eB d6 (eV 6) (eC (.int 2))) aN)))))))) r9)))
abbrev D8(bx:D)(W:List D)(pl:D)(Z T:List D)(s5 s6 s7 s8 s9:Sl):DE:=[.fz bx,.fz (.lst W),.fz pl,.ow Z,.ow T,s5,s6,s7,s8,s9]
theorem b69(EF PA:List D→Option R1)(GE:Bool→D→D→Option D)(bx:D)(W:List D)(pl:D)(Z A T:List D)(q s b:D)(i:Int)(o5 o6:Option D)(s7 s8 s9:Sl)(z1:Z.getLast? = some (.tup [q,.tup [s,.int i,b]]))(z2:Z.dropLast=A)(gz1:GE false s (.str "ware")=some (.bl true))(he:EF [.lst W,q,.tup [s,.int i,b],.lst T]=some (.ret (.bl true))) :
  lfB EF PA GE (D8 bx W pl Z T (un o5) (un o6) s7 s8 s9)=some (.rt (.tup [.str "ware",.int i])):=by
 unfold lfB D8
 walk_at "eh"
theorem b6_(EF PA:List D→Option R1)(GE:Bool→D→D→Option D)(bx:D)(W:List D)(pl:D)(Z A T:List D)(q s b:D)(i:Int)(o5 o6:Option D)(s7 s8 s9:Sl)(z1:Z.getLast? = some (.tup [q,.tup [s,.int i,b]]))(z2:Z.dropLast=A)(gz1:GE false s (.str "ware")=some (.bl true))(he:EF [.lst W,q,.tup [s,.int i,b],.lst T]=some (.ret (.bl false)))(hl:T.length<sizeLine) :
  lfB EF PA GE (D8 bx W pl Z T (un o5) (un o6) s7 s8 s9)=some (.nx (D8 bx W pl A (T++[.int i]) (.fz q) (.fz (.tup [s,.int i,b])) s7 s8 s9)):=by
 unfold lfB D8
 walk_at "eh"
theorem b7a(EF PA:List D→Option R1)(GE:Bool→D→D→Option D)(bx:D)(W:List D)(pl:D)(Z A T:List D)(q s:D)(o5 o6:Option D)(s7 s8 s9:Sl)(z1:Z.getLast? = some (.tup [q,.tup [s]]))(z2:Z.dropLast=A)(gz1:GE false s (.str "ware")=some (.bl false))(g2:GE true s (.str "waste")=some (.bl false)) :
  lfB EF PA GE (D8 bx W pl Z T (un o5) (un o6) s7 s8 s9)=some (.nx (D8 bx W pl A T (.fz q) (.fz (.tup [s])) s7 s8 s9)):=by
 unfold lfB D8
 walk_at "eh"
theorem b7b(EF PA:List D→Option R1)(GE:Bool→D→D→Option D)(bx:D)(W:List D)(pl:D)(Z A T:List D)(q:Sp4)(s x y:D)(w:Bool)(t:Int)(o5 o6 o7:Option D)(s8 s9:Sl)(z1:Z.getLast? = some (.tup [sD q,.tup [s,.int t,x,y]]))(z2:Z.dropLast=A)(gz1:GE false s (.str "ware")=some (.bl false))(g2:GE true s (.str "waste")=some (.bl true))(g3:GE false s (.str "up")=some (.bl w))(hc:t<1∨K6 q w≤t) :
  lfB EF PA GE (D8 bx W pl Z T (un o5) (un o6) (un o7) s8 s9)=some (.rt (.tup [.str "cut",.int t])):=by
 obtain⟨qa,qb,qc,qd⟩:=q
 unfold lfB D8
 unfold sD at z1
 by_cases h:(1:Int)≤t
 ·cases w
  ·have hs:¬t<qc-qa:=by unfold K6 at hc;simp at hc;omega
   clear hc
   have i1:atI [D.int qa,.int qb,.int qc,.int qd] (0+2)=some (.int qc):=rfl
   have i2:atI [D.int qa,.int qb,.int qc,.int qd] 0=some (.int qa):=rfl
   walk_at "eh"
  ·have hs:¬t<qd-qb:=by unfold K6 at hc;simp at hc;omega
   clear hc
   have i1:atI [D.int qa,.int qb,.int qc,.int qd] (1+2)=some (.int qd):=rfl
   have i2:atI [D.int qa,.int qb,.int qc,.int qd] 1=some (.int qb):=rfl
   walk_at "eh"
 ·clear hc
  cases w
  ·have i1:atI [D.int qa,.int qb,.int qc,.int qd] (0+2)=some (.int qc):=rfl
   have i2:atI [D.int qa,.int qb,.int qc,.int qd] 0=some (.int qa):=rfl
   walk_at "eh"
  ·have i1:atI [D.int qa,.int qb,.int qc,.int qd] (1+2)=some (.int qd):=rfl
   have i2:atI [D.int qa,.int qb,.int qc,.int qd] 1=some (.int qb):=rfl
   walk_at "eh"
theorem b7c(EF PA:List D→Option R1)(GE:Bool→D→D→Option D)(bx:D)(W:List D)(pl:D)(Z A T:List D)(q:Sp4)(s x y q1 q2:D)(w:Bool)(t:Int)(o5 o6 o7 o8:Option D)(s9:Sl)(z1:Z.getLast? = some (.tup [sD q,.tup [s,.int t,x,y]]))(z2:Z.dropLast=A)(gz1:GE false s (.str "ware")=some (.bl false))(g2:GE true s (.str "waste")=some (.bl true))(g3:GE false s (.str "up")=some (.bl w))(h0:1≤t)(h1:t<K6 q w)
  (hp:PA [sD q,.int (wI w),.int t]=some (.ret (.tup [q1,q2]))) (l1:A.length<sizeLine) (l2:(A++[D.tup [q2,y]]).length<sizeLine) :
  lfB EF PA GE (D8 bx W pl Z T (un o5) (un o6) (un o7) (un o8) s9)=some (.nx (D8 bx W pl (A++[.tup [q2,y]]++[.tup [q1,x]]) T (.fz (sD q)) (.fz (.tup [s,.int t,x,y])) (.fz (.int (wI w))) (.fz (.tup [q1,q2])) s9)):=by
 obtain⟨qa,qb,qc,qd⟩:=q
 unfold lfB D8
 unfold sD at z1 hp ⊢
 cases w
 ·have hs:t<qc-qa:=by unfold K6 at h1;simpa using h1
  unfold wI at hp ⊢
  simp only[Bool.false_eq_true,if_false]at hp ⊢
  clear h1
  have i1:atI [D.int qa,.int qb,.int qc,.int qd] (0+2)=some (.int qc):=rfl
  have i2:atI [D.int qa,.int qb,.int qc,.int qd] 0=some (.int qa):=rfl
  walk_at "eh"
 ·have hs:t<qd-qb:=by unfold K6 at h1;simpa using h1
  unfold wI at hp ⊢
  simp only[if_true]at hp ⊢
  clear h1
  have i1:atI [D.int qa,.int qb,.int qc,.int qd] (1+2)=some (.int qd):=rfl
  have i2:atI [D.int qa,.int qb,.int qc,.int qd] 1=some (.int qb):=rfl
  walk_at "eh"
theorem a47{c:BF}{body:SF}{f:Nat}{e e1 e2:DE}(h1:c e=some (.ok true e1))(h2:body e1=some (.nx e2)):D7 c body (f+1) e=D7 c body f e2:=by
 rw[D7,h1,T5,if_pos rfl,h2]
theorem a72{c:BF}{body:SF}{f:Nat}{e e1:DE}{d:D}(h1:c e=some (.ok true e1))(h2:body e1=some (.rt d)):D7 c body (f+1) e=some (.rt d):=by
 rw[D7,h1,T5,if_pos rfl,h2]
theorem a4q(bx pl:D)(ws:List W3)(s9:Sl):∀(fuel:Nat) (st:List Np) (told:List Int) (o5 o6 o7 o8:Option D),J4 st<fuel→told.length+J4 st≤1000→match F9 ws (fm st) told with
  | .inl d=>D7 wcB (lfB z8 y9 u6) fuel (D8 bx (ws.map w3) pl (st.map G4) (iI told) (un o5) (un o6) (un o7) (un o8) s9)=some (.rt d)
  | .inr t=>∃p5 p6 p7 p8,D7 wcB (lfB z8 y9 u6) fuel (D8 bx (ws.map w3) pl (st.map G4) (iI told) (un o5) (un o6) (un o7) (un o8) s9)=some (.nx (D8 bx (ws.map w3) pl [] (iI t) (un p5) (un p6) (un p7) (un p8) s9))
 | 0,_,_,_,_,_,_,h,_=>absurd h (Nat.not_lt_zero _)
 | fuel+1,st,told,o5,o6,o7,o8,hf,hl=>by
  rcases List.eq_nil_or_concat st with rfl | ⟨st',x,rfl⟩
  ·refine⟨o5,o6,o7,o8,?_⟩
   have h1:wcB (D8 bx (ws.map w3) pl (([]:List Np).map G4) (iI told) (un o5) (un o6) (un o7) (un o8) s9)=some (.ok false (D8 bx (ws.map w3) pl [] (iI told) (un o5) (un o6) (un o7) (un o8) s9)):=rfl
   rw[D7,h1]
   rfl
  ·rw[List.concat_eq_append]at *
   obtain⟨z1,z2⟩:=a7Z st' x
   rw[G5]at hf hl
   have hst:=b2w st'
   have hc:decide ((((st'++[x]).map G4).length:Int) > 0)=true:=decide_eq_true (by rw[List.length_map,List.length_append];show((_+1:Nat):Int) > 0;omega)
   have c1:wcB (D8 bx (ws.map w3) pl ((st'++[x]).map G4) (iI told) (un o5) (un o6) (un o7) (un o8) s9)=some (.ok true (D8 bx (ws.map w3) pl ((st'++[x]).map G4) (iI told) (un o5) (un o6) (un o7) (un o8) s9)):=(a5Y _ _ _ _ _).trans (by rw[hc])
   rw[a1l]
   obtain⟨q,X⟩:=x
   cases X with
   | en e =>
    have hf:J4 st'+1<fuel+1:=hf
    have hl:told.length+(J4 st'+1)≤1000:=hl
    show match F9 ws ((q,Pl.en e)::fm st') told with
     | .inl d=>_
     | .inr t=>_
    unfold F9
    cases e with
    | wa =>
     have b1:=b7a z8 y9 u6 bx (ws.map w3) pl _ _ (iI told) (sD q) (.str "waste") o5 o6 (un o7) (un o8) s9 z1 z2 rfl rfl
     have st1:S8 ws told (q,.en .wa)=.inr told:=rfl
     rw[st1,a47 c1 b1]
     exact a4q bx pl ws s9 fuel st' told (some (sD q)) (some (pD (.en .wa))) o7 o8 (by omega) (by omega)
    | wr i b =>
     have he:=b4k ws q i b told
     cases hb:U6 ws q i b told with
     | true =>
      rw[hb]at he
      have b1:=b69 z8 y9 u6 bx (ws.map w3) pl _ _ (iI told) (sD q) (.str "ware") (.bl b) i o5 o6 (un o7) (un o8) s9 z1 z2 rfl he
      have st1:S8 ws told (q,.en (.wr i b))=.inl (.tup [.str "ware",.int i]):=if_pos hb
      rw[st1,a72 c1 b1]
     | false =>
      rw[hb]at he
      have b1:=b6_ z8 y9 u6 bx (ws.map w3) pl _ _ (iI told) (sD q) (.str "ware") (.bl b) i o5 o6 (un o7) (un o8) s9 z1 z2 rfl he (by rw[List.length_map];show _<2 ^ 24;omega)
      have st1:S8 ws told (q,.en (.wr i b))=.inr (told++[i]):=if_neg (by rw[hb];exact Bool.false_ne_true)
      have ei:iI told++[.int i]=iI (told++[i]):=by unfold iI;rw[List.map_append];rfl
      rw[ei]at b1
      rw[st1,a47 c1 b1]
      exact a4q bx pl ws s9 fuel st' (told++[i]) (some (sD q)) (some (pD (.en (.wr i b)))) o7 o8 (by omega) (by rw[List.length_append,List.length_singleton];omega)
   | ct w t l r =>
    have hf:J4 st'+(1+(psz l+psz r))<fuel+1:=hf
    have hl:told.length+(J4 st'+(1+(psz l+psz r)))≤1000:=hl
    have lz:(st'.map G4).length<sizeLine:=by rw[List.length_map];show _<2 ^ 24;omega
    show match F9 ws ((q,Pl.ct w t l r)::(r8 (pL q w t) l++r8 (pR q w t) r)++fm st') told with
     | .inl d=>_
     | .inr t=>_
    rw[List.cons_append]
    unfold F9
    by_cases h:t<1∨K6 q w≤t
    ·have b1:=b7b z8 y9 u6 bx (ws.map w3) pl _ _ (iI told) q (.str (wS w)) (pD l) (pD r) w t o5 o6 o7 (un o8) s9 z1 z2 (gws w).1 (gws w).2.1 (gws w).2.2 h
     have st1:S8 ws told (q,.ct w t l r)=.inl (.tup [.str "cut",.int t]):=if_pos h
     rw[st1,a72 c1 b1]
    ·have b1:=b7c z8 y9 u6 bx (ws.map w3) pl _ _ (iI told) q (.str (wS w)) (pD l) (pD r) _ _ w t o5 o6 o7 o8 s9 z1 z2 (gws w).1 (gws w).2.1 (gws w).2.2 (by omega) (by omega) (a6Q q w t) lz (by rw[List.length_append,List.length_map];show _+1<2 ^ 24;omega)
     have st1:S8 ws told (q,.ct w t l r)=.inr told:=if_neg h
     have ez:st'.map G4++[.tup [sD (pR q w t),pD r]]++[.tup [sD (pL q w t),pD l]]=(st'++[(pR q w t,r)]++[(pL q w t,l)]).map G4:=by rw[List.map_append,List.map_append];rfl
     rw[ez]at b1
     rw[st1,a47 c1 b1]
     have ef:r8 (pL q w t) l++r8 (pR q w t) r++fm st'=fm (st'++[(pR q w t,r)]++[(pL q w t,l)]):=by rw[a1l,a1l,List.append_assoc]
     have:=a4q bx pl ws s9 fuel (st'++[(pR q w t,r)]++[(pL q w t,l)]) told (some (sD q)) (some (pD (.ct w t l r))) (some (.int (wI w))) (some (.tup [sD (pL q w t),sD (pR q w t)])) (by rw[G5,G5];show J4 st'+psz r+psz l<fuel;omega) (by rw[G5,G5];show _+(J4 st'+psz r+psz l)≤_;omega)
     rw[← ef]at this
     exact this
theorem a0h:∀(P:Pl) (q:Sp4),(r8 q P).length=psz P
 | .en _,_=>rfl
 | .ct w t l r,q=>by
  show(_::(r8 (pL q w t) l++r8 (pR q w t) r)).length=1+(psz l+psz r)
  rw[List.length_cons,List.length_append,a0h l,a0h r]
  omega
def M7:List Nat→List Int→Option Nat
 | [],_=>none
 | k::l,t=>if(k:Int)∈t then M7 l t else some k
def lkD(k:Nat):D:=.tup [.str "lacks",.int (k:Int)]
abbrev plL:SF:=(n8 (bZ (a8Q (eV 6) 3)) (j0 (eT (aC (eC (.str "lacks")) (aC (eV 6) aN)))) r9)
abbrev llL(GN:Bool→D→D→Option D):SF:=(n8 (bZ (eBW (GN true) (eV 9) 4)) (j0 (eT (aC (eC (.str "lacks")) (aC (eV 9) aN)))) r9)
theorem b7d(bx:D)(W:List D)(pl:D)(ks:DK)(vs:List D)(s4 s5:Sl)(k:Int)(o:Option D)(h:a0H ks vs (.int k)=some o)(h2:o.isSome=true):plL (B7 bx W pl ks vs s4 s5 (.fz (.int k)))=some (.nx (B7 bx W pl ks vs s4 s5 (.fz (.int k)))):=by
 unfold plL B7
 walk_at "eh"
theorem b7e(bx:D)(W:List D)(pl:D)(ks:DK)(vs:List D)(s4 s5:Sl)(k:Int)(o:Option D)(h:a0H ks vs (.int k)=some o)(h2:o.isSome=false):plL (B7 bx W pl ks vs s4 s5 (.fz (.int k)))=some (.rt (.tup [.str "lacks",.int k])):=by
 unfold plL B7
 walk_at "eh"
theorem b7f(GN:Bool→D→D→Option D)(bx:D)(W:List D)(pl:D)(Z T:List D)(s5 s6 s7 s8:Sl)(k:Int)(h:GN true (.int k) (.lst T)=some (.bl false)):llL GN (D8 bx W pl Z T s5 s6 s7 s8 (.fz (.int k)))=some (.nx (D8 bx W pl Z T s5 s6 s7 s8 (.fz (.int k)))):=by
 unfold llL D8
 walk_at "eh"
theorem b7g(GN:Bool→D→D→Option D)(bx:D)(W:List D)(pl:D)(Z T:List D)(s5 s6 s7 s8:Sl)(k:Int)(h:GN true (.int k) (.lst T)=some (.bl true)):llL GN (D8 bx W pl Z T s5 s6 s7 s8 (.fz (.int k)))=some (.rt (.tup [.str "lacks",.int k])):=by
 unfold llL D8
 walk_at "eh"
theorem a73(bx:D)(W:List D)(pl:D)(t:List Int)(s4 s5:Sl):∀(l:List Nat) (o6:Option D),match M7 l t with
  | some k=>B3 (h7 6) plL (l.map fun(k:Nat)=>D.int (k:Int)) (B7 bx W pl (kT t) (vT t) s4 s5 (un o6))=some (.rt (lkD k))
  | none=>∃p6,B3 (h7 6) plL (l.map fun(k:Nat)=>D.int (k:Int)) (B7 bx W pl (kT t) (vT t) s4 s5 (un o6))=some (.nx (B7 bx W pl (kT t) (vT t) s4 s5 (un p6)))
 | [],o6=>⟨o6,rfl⟩
 | k::l,o6=>by
  have hb:h7 6 (.int (k:Int)) (B7 bx W pl (kT t) (vT t) s4 s5 (un o6))=some (B7 bx W pl (kT t) (vT t) s4 s5 (.fz (.int (k:Int)))):=by cases o6<;>rfl
  obtain⟨o,gz1,g2⟩:=b2z t (k:Int)
  unfold M7
  rw[List.map_cons,N9,hb,C4]
  by_cases z:(k:Int)∈t
  ·rw[if_pos z,b7d bx W pl _ _ s4 s5 k o gz1 (by rw[g2];exact decide_eq_true z),X5]
   exact a73 bx W pl t s4 s5 l (some (.int (k:Int)))
  ·rw[if_neg z,b7e bx W pl _ _ s4 s5 k o gz1 (by rw[g2];exact decide_eq_false z),a4P]
   rfl
theorem a74(bx:D)(W:List D)(pl:D)(Z:List D)(t:List Int)(s5 s6 s7 s8:Sl):∀(l:List Nat) (o9:Option D),match M7 l t with
  | some k=>B3 (h7 9) (llL W9) (l.map fun(k:Nat)=>D.int (k:Int)) (D8 bx W pl Z (iI t) s5 s6 s7 s8 (un o9))=some (.rt (lkD k))
  | none=>∃p9,B3 (h7 9) (llL W9) (l.map fun(k:Nat)=>D.int (k:Int)) (D8 bx W pl Z (iI t) s5 s6 s7 s8 (un o9))=some (.nx (D8 bx W pl Z (iI t) s5 s6 s7 s8 (un p9)))
 | [],o9=>⟨o9,rfl⟩
 | k::l,o9=>by
  have hb:h7 9 (.int (k:Int)) (D8 bx W pl Z (iI t) s5 s6 s7 s8 (un o9))=some (D8 bx W pl Z (iI t) s5 s6 s7 s8 (.fz (.int (k:Int)))):=by cases o9<;>rfl
  have gi:=b2A (k:Int) t true
  unfold M7
  rw[List.map_cons,N9,hb,C4]
  by_cases z:(k:Int)∈t
  ·rw[if_pos z,b7f W9 bx W pl Z _ s5 s6 s7 s8 k (gi.trans (by simp[z])),X5]
   exact a74 bx W pl Z t s5 s6 s7 s8 l (some (.int (k:Int)))
  ·rw[if_neg z,b7g W9 bx W pl Z _ s5 s6 s7 s8 k (gi.trans (by simp[z])),a4P]
   rfl
def T3(ws:List W3)(L:List Np):D:=match F9 ws L []with
 | .inl d=>d
 | .inr t=>match M7 (List.range ws.length) t with
  | some k=>lkD k
  | none=>.non
theorem b7h(NO:List D→Option R1)(PB LL:SF)(bx:D)(W:List D)(pl d:D)(L:List D)(h1:NO [bx,pl]=some (.own L))(h2:B3 (C7 [(h7 4),(h7 5)]) PB L (B7 bx W pl (.inl []) [] .no .no .no)=some (.rt d)):fD 7 3 (g0 (a4d 3 a4c) (g0 (W0 (h9 NO (aC (eV 0) (aC (eV 2) aN)))  (C7 [(h7 4),(h7 5)]) PB) (g0 LL (j0 (eC .non))))) [bx,.lst W,pl]=some (.ret d):=by
 have e:(W0 (h9 NO (aC (eV 0) (aC (eV 2) aN)))  (C7 [(h7 4),(h7 5)]) PB) (B7 bx W pl (.inl []) [] .no .no .no)=some (.rt d):=by
  unfold W0
  have:(h9 NO (aC (eV 0) (aC (eV 2) aN))) (B7 bx W pl (.inl []) [] .no .no .no)=some (.ok (.lst L) (B7 bx W pl (.inl []) [] .no .no .no)):=by
   clear h2
   unfold B7
   walk_at "eh"
  rw[this,T5]
  exact h2
 unfold B7 at e
 generalize W0 (h9 NO (aC (eV 0) (aC (eV 2) aN)))  (C7 [(h7 4),(h7 5)]) PB=FF at *
 clear h2
 walk_at "eh"
theorem b5O(NO:List D→Option R1)(PB LL:SF)(bx:D)(W:List D)(pl d:D)(L:List D)(e1:DE)(r:RS)(h1:NO [bx,pl]=some (.own L))(h2:B3 (C7 [(h7 4),(h7 5)]) PB L (B7 bx W pl (.inl []) [] .no .no .no)=some (.nx e1))(hl:LL e1=some r)(hr:r=.rt d∨(d=.non∧∃e2,r=.nx e2)):fD 7 3 (g0 (a4d 3 a4c) (g0 (W0 (h9 NO (aC (eV 0) (aC (eV 2) aN)))  (C7 [(h7 4),(h7 5)]) PB) (g0 LL (j0 (eC .non))))) [bx,.lst W,pl]=some (.ret d):=by
 have e:(W0 (h9 NO (aC (eV 0) (aC (eV 2) aN)))  (C7 [(h7 4),(h7 5)]) PB) (B7 bx W pl (.inl []) [] .no .no .no)=some (.nx e1):=by
  unfold W0
  have:(h9 NO (aC (eV 0) (aC (eV 2) aN))) (B7 bx W pl (.inl []) [] .no .no .no)=some (.ok (.lst L) (B7 bx W pl (.inl []) [] .no .no .no)):=by
   clear h2 hl
   unfold B7
   walk_at "eh"
  rw[this,T5]
  exact h2
 unfold B7 at e
 generalize W0 (h9 NO (aC (eV 0) (aC (eV 2) aN)))  (C7 [(h7 4),(h7 5)]) PB=FF at *
 clear h2
 rcases hr with rfl | ⟨rfl,e2,rfl⟩<;>walk_at "eh"
theorem a1X(W H:Int)(ws:List W3)(hw:ws.length≤1000)(P:Pl)(hs:psz P≤1000):K4 [.tup [.int W,.int H],.lst (ws.map w3),pD P]=some (.ret (T3 ws (r8 ⟨0,0,W,H⟩ P))):=by
 have no:=a6R W H P hs
 have lp:=a71 (.tup [.int W,.int H]) (pD P) ws .no (r8 ⟨0,0,W,H⟩ P) [] none none (by rw[a0h];show 0+_≤_;omega)
 unfold T3
 cases hr:F9 ws (r8 ⟨0,0,W,H⟩ P) []with
 | inl d =>
  rw[hr]at lp
  exact b7h B9 _ (R7 W1 (aC (B5 v5 1) aN) (h7 6) plL) _ _ _ _ _ no lp
 | inr t =>
  rw[hr]at lp
  obtain⟨p4,p5,lp⟩:=lp
  have e0:(aC (B5 v5 1) aN) (B7 (.tup [.int W,.int H]) (ws.map w3) (pD P) (kT t) (vT t) (un p4) (un p5) .no)=some (.ok [.int ((ws.map w3).length:Int)] (B7 (.tup [.int W,.int H]) (ws.map w3) (pD P) (kT t) (vT t) (un p4) (un p5) .no)):=rfl
  rw[List.length_map]at e0
  have ll:=a73 (.tup [.int W,.int H]) (ws.map w3) (pD P) t (un p4) (un p5) (List.range ws.length) none
  show _=some (R1.ret (match M7 (List.range ws.length) t with | some k=>lkD k | none=>.non))
  cases hk:M7 (List.range ws.length) t with
  | some k =>
   rw[hk]at ll
   show _=some (R1.ret (lkD k))
   refine b5O B9 _ _ _ _ _ _ _ _ (.rt (lkD k)) no lp ?_ (.inl rfl)
   rw[Y4 e0 (a0K hw),a3q]
   exact ll
  | none =>
   rw[hk]at ll
   obtain⟨p6,ll⟩:=ll
   show _=some (R1.ret D.non)
   refine b5O B9 _ _ _ _ _ _ _ _ (.nx (B7 (.tup [.int W,.int H]) (ws.map w3) (pD P) (kT t) (vT t) (un p4) (un p5) (un p6))) no lp ?_ (.inr ⟨rfl,_,rfl⟩)
   rw[Y4 e0 (a0K hw),a3q]
   exact ll
theorem b7i(WL LL:SF)(w h:Int)(W:List D)(pl d:D)(hw:WL (D8 (.tup [.int w,.int h]) W pl [.tup [.tup [.int 0,.int 0,.int w,.int h],pl]] [] .no .no .no .no .no)=some (.rt d)):fD 10 3 (g0 (w8 3 (eL (aC (eT (aC (eT (aC (eC (.int 0)) (aC (eC (.int 0)) (aC (eB d6 (eV 0) (eC (.int 0))) (aC (eB d6 (eV 0) (eC (.int 1))) aN))))) (aC (eV 2) aN))) aN))) (g0 (w8 4 (eL aN)) (g0 WL (g0 LL (j0 (eC .non)))))) [.tup [.int w,.int h],.lst W,pl]=some (.ret d):=by
 unfold D8 at hw
 walk_at "eh"
theorem b5P(WL LL:SF)(w h:Int)(W:List D)(pl d:D)(e1:DE)(r:RS)(hw:WL (D8 (.tup [.int w,.int h]) W pl [.tup [.tup [.int 0,.int 0,.int w,.int h],pl]] [] .no .no .no .no .no)=some (.nx e1))(hl:LL e1=some r)(hr:r=.rt d∨(d=.non∧∃e2,r=.nx e2)):fD 10 3 (g0 (w8 3 (eL (aC (eT (aC (eT (aC (eC (.int 0)) (aC (eC (.int 0)) (aC (eB d6 (eV 0) (eC (.int 0))) (aC (eB d6 (eV 0) (eC (.int 1))) aN))))) (aC (eV 2) aN))) aN))) (g0 (w8 4 (eL aN)) (g0 WL (g0 LL (j0 (eC .non)))))) [.tup [.int w,.int h],.lst W,pl]=some (.ret d):=by
 unfold D8 at hw
 rcases hr with rfl | ⟨rfl,e2,rfl⟩<;>walk_at "eh"
theorem b0r(W H:Int)(ws:List W3)(hw:ws.length≤1000)(P:Pl)(hs:psz P≤1000):Q7 [.tup [.int W,.int H],.lst (ws.map w3),pD P]=some (.ret (T3 ws (r8 ⟨0,0,W,H⟩ P))):=by
 have ef:fm [(⟨0,0,W,H⟩,P)]=r8 ⟨0,0,W,H⟩ P:=by unfold fm;simp
 have lp:=a4q (.tup [.int W,.int H]) (pD P) ws .no 1000000 [(⟨0,0,W,H⟩,P)] [] none none none none (by unfold J4;simp;omega) (by unfold J4;simp;omega)
 rw[ef]at lp
 unfold T3
 cases hr:F9 ws (r8 ⟨0,0,W,H⟩ P) []with
 | inl d =>
  rw[hr]at lp
  exact b7i _ (R7 W1 (aC (B5 v5 1) aN) (h7 9) (llL W9)) W H _ _ _ lp
 | inr t =>
  rw[hr]at lp
  obtain⟨p5,p6,p7,p8,lp⟩:=lp
  have e0:(aC (B5 v5 1) aN) (D8 (.tup [.int W,.int H]) (ws.map w3) (pD P) [] (iI t) (un p5) (un p6) (un p7) (un p8) .no)=some (.ok [.int ((ws.map w3).length:Int)] (D8 (.tup [.int W,.int H]) (ws.map w3) (pD P) [] (iI t) (un p5) (un p6) (un p7) (un p8) .no)):=rfl
  rw[List.length_map]at e0
  have ll:=a74 (.tup [.int W,.int H]) (ws.map w3) (pD P) [] t (un p5) (un p6) (un p7) (un p8) (List.range ws.length) none
  show _=some (R1.ret (match M7 (List.range ws.length) t with | some k=>lkD k | none=>.non))
  cases hk:M7 (List.range ws.length) t with
  | some k =>
   rw[hk]at ll
   show _=some (R1.ret (lkD k))
   refine b5P _ _ W H _ _ _ _ (.rt (lkD k)) lp ?_ (.inl rfl)
   rw[Y4 e0 (a0K hw),a3q]
   exact ll
  | none =>
   rw[hk]at ll
   obtain⟨p9,ll⟩:=ll
   show _=some (R1.ret D.non)
   refine b5P _ _ W H _ _ _ _ (.nx (D8 (.tup [.int W,.int H]) (ws.map w3) (pD P) [] (iI t) (un p5) (un p6) (un p7) (un p8) (un p9))) lp ?_ (.inr ⟨rfl,_,rfl⟩)
   rw[Y4 e0 (a0K hw),a3q]
   exact ll
theorem ix5(x:Int)(h1:0≤x)(h2:x<5):∃pk:Int→Int→Int→Int→Int→Int,∀a b c d e:Int,d6 (.tup [.int a,.int b,.int c,.int d,.int e]) (.int x)=some (.int (pk a b c d e)):=by
 have:x=0∨x=1∨x=2∨x=3∨x=4:=by omega
 rcases this with rfl | rfl | rfl | rfl | rfl
 ·exact⟨fun a b c d e=>a,fun _ _ _ _ _=>rfl⟩
 ·exact⟨fun a b c d e=>b,fun _ _ _ _ _=>rfl⟩
 ·exact⟨fun a b c d e=>c,fun _ _ _ _ _=>rfl⟩
 ·exact⟨fun a b c d e=>d,fun _ _ _ _ _=>rfl⟩
 ·exact⟨fun a b c d e=>e,fun _ _ _ _ _=>rfl⟩
theorem ix7(x:Int)(h1:0≤x)(h2:x<7):∃pk:Int→Int→Int→Int→Int→Int→Int→Int,∀a b c d e f g:Int,d6 (.tup [.int a,.int b,.int c,.int d,.int e,.int f,.int g]) (.int x)=some (.int (pk a b c d e f g)):=by
 have:x=0∨x=1∨x=2∨x=3∨x=4∨x=5∨x=6:=by omega
 rcases this with rfl | rfl | rfl | rfl | rfl | rfl | rfl
 ·exact⟨fun a b c d e f g=>a,fun _ _ _ _ _ _ _=>rfl⟩
 ·exact⟨fun a b c d e f g=>b,fun _ _ _ _ _ _ _=>rfl⟩
 ·exact⟨fun a b c d e f g=>c,fun _ _ _ _ _ _ _=>rfl⟩
 ·exact⟨fun a b c d e f g=>d,fun _ _ _ _ _ _ _=>rfl⟩
 ·exact⟨fun a b c d e f g=>e,fun _ _ _ _ _ _ _=>rfl⟩
 ·exact⟨fun a b c d e f g=>f,fun _ _ _ _ _ _ _=>rfl⟩
 ·exact⟨fun a b c d e f g=>g,fun _ _ _ _ _ _ _=>rfl⟩
theorem b6l(GX:D→D→Option D)(c m x o k:Int)(pk:Int→Int→Int→Int→Int→Int)(hG:∀a b c d e:Int,GX (.tup [.int a,.int b,.int c,.int d,.int e]) (.int x)=some (.int (pk a b c d e)))(hx:c/4%5=x)(hk:c%4=k)(hm:0<(if m > 1 then m else 1))(hp:a00 10 20)(hq:(0:Int)<10 ^ (20:Int).toNat):∃o b,fD 5 3 (g0 (m9 3 (eB t8 (eV 1) (eC (.int 4)))) (g0 (m9 4 (eB GX (eT (aC (eU a0v (eC (.int 1))) (aC (eV 2) (aC (eB t8 (eB D4 (eV 1) (eC (.int 12))) (V7 a0U (aC (eC (.int 1)) (aC (eV 2) aN)))) (aC (eB w4 (eV 2) (eB t8 (eV 1) (eB V9 (eC (.int 10)) (eC (.int 20))))) (aC (eB w9 (eU a0v (eC (.int 2))) (eB t8 (eV 1) (eB V9 (eC (.int 10)) (eC (.int 20))))) aN)))))) (eB t8 (eB D4 (eV 1) (eC (.int 4))) (eC (.int 5))))) (g0 (n8 (bZ (eB (u6 false) (eB d6 (eV 0) (eC (.int 0))) (eC (.str "waste")))) (j0 (eT (aC (eC (.str "ware")) (aC (eV 4) (aC (eB (u6 false) (eV 3) (eC (.int 1))) aN))))) r9) (g0 (n8 (bZ (eB (u6 false) (eV 3) (eC (.int 0)))) (j0 (eT (aC (eC (.str "waste")) aN))) r9) (g0 (n8 (bZ (eB (u6 false) (eV 3) (eC (.int 1)))) (j0 (eT (aC (eC (.str "ware")) (aC (eB d6 (eV 0) (eC (.int 1))) (aC (a4J (eB d6 (eV 0) (eC (.int 2)))) aN))))) r9) (j0 (eT (aC (eC (.str "ware")) (aC (eV 4) (aC (eB d6 (eV 0) (eC (.int 2))) aN)))))))))) [.tup [.str "waste"],.int c,.int m]=some (.ret (.tup [.str "ware",.int o,.bl b])):=by
 refine⟨pk (-1) m (c/12%(if m > 1 then m else 1)) (m+c%10 ^ (20:Int).toNat) (-2-c%10 ^ (20:Int).toNat),decide (k=1),?_⟩
 walk_at "eh"
theorem b6m(GX:D→D→Option D)(c m x k i:Int)(b:Bool)(pk:Int→Int→Int→Int→Int→Int)(hG:∀a b c d e:Int,GX (.tup [.int a,.int b,.int c,.int d,.int e]) (.int x)=some (.int (pk a b c d e)))(hx:c/4%5=x)(hk:c%4=k)(hm:0<(if m > 1 then m else 1))(hp:a00 10 20)(hq:(0:Int)<10 ^ (20:Int).toNat):∃e:En,fD 5 3 (g0 (m9 3 (eB t8 (eV 1) (eC (.int 4)))) (g0 (m9 4 (eB GX (eT (aC (eU a0v (eC (.int 1))) (aC (eV 2) (aC (eB t8 (eB D4 (eV 1) (eC (.int 12))) (V7 a0U (aC (eC (.int 1)) (aC (eV 2) aN)))) (aC (eB w4 (eV 2) (eB t8 (eV 1) (eB V9 (eC (.int 10)) (eC (.int 20))))) (aC (eB w9 (eU a0v (eC (.int 2))) (eB t8 (eV 1) (eB V9 (eC (.int 10)) (eC (.int 20))))) aN)))))) (eB t8 (eB D4 (eV 1) (eC (.int 4))) (eC (.int 5))))) (g0 (n8 (bZ (eB (u6 false) (eB d6 (eV 0) (eC (.int 0))) (eC (.str "waste")))) (j0 (eT (aC (eC (.str "ware")) (aC (eV 4) (aC (eB (u6 false) (eV 3) (eC (.int 1))) aN))))) r9) (g0 (n8 (bZ (eB (u6 false) (eV 3) (eC (.int 0)))) (j0 (eT (aC (eC (.str "waste")) aN))) r9) (g0 (n8 (bZ (eB (u6 false) (eV 3) (eC (.int 1)))) (j0 (eT (aC (eC (.str "ware")) (aC (eB d6 (eV 0) (eC (.int 1))) (aC (a4J (eB d6 (eV 0) (eC (.int 2)))) aN))))) r9) (j0 (eT (aC (eC (.str "ware")) (aC (eV 4) (aC (eB d6 (eV 0) (eC (.int 2))) aN)))))))))) [.tup [.str "ware",.int i,.bl b],.int c,.int m]=some (.ret (eD e)):=by
 by_cases k0:k=0
 ·refine⟨.wa,?_⟩
  unfold eD
  subst k0
  walk_at "eh"
 ·by_cases k1:k=1
  ·refine⟨.wr i (!b),?_⟩
   unfold eD
   subst k1
   walk_at "eh"
  ·refine⟨.wr (pk (-1) m (c/12%(if m > 1 then m else 1)) (m+c%10 ^ (20:Int).toNat) (-2-c%10 ^ (20:Int).toNat)) b,?_⟩
   unfold eD
   walk_at "eh"
theorem a5L(e:En)(c m:Int):∃e':En,E5 [eD e,.int c,.int m]=some (.ret (eD e')):=by
 obtain⟨pk,hG⟩:=ix5 (c/4%5) (by omega) (by omega)
 have hm:0<(if m > 1 then m else 1):=by split<;>omega
 have hp:a00 10 20:=by decide
 have hq:(0:Int)<10 ^ (20:Int).toNat:=by decide
 cases e with
 | wa =>
  obtain⟨o,b,h⟩:=b6l d6 c m _ 0 _ pk hG rfl rfl hm hp hq
  exact⟨.wr o b,h⟩
 | wr i b=>exact b6m d6 c m _ _ i b pk hG rfl rfl hm hp hq
def Tr.rel(k:Nat)(w:Bool)(t:Int):Tr→Tr
 | .lf i=>.lf i
 | .ct i w0 t0 l r=>.ct i (if i=k then w else w0) (if i=k then t else t0) (l.rel k w t) (r.rel k w t)
theorem a6V(k:Nat)(w:Bool)(t:Int):∀T:Tr,(T.rel k w t).ix=T.ix
 | .lf _=>rfl
 | .ct _ _ _ _ _=>rfl
theorem a1n(k:Nat)(w:Bool)(t:Int):∀T:Tr,(T.rel k w t).ids=T.ids
 | .lf _=>rfl
 | .ct i _ _ l r=>by
  show i::((l.rel k w t).ids++(r.rel k w t).ids)=i::(l.ids++r.ids)
  rw[a1n k w t l,a1n k w t r]
theorem a3t(k:Nat)(w:Bool)(t:Int):∀T:Tr,(T.rel k w t).subs=T.subs.map fun X=>X.rel k w t
 | .lf _=>rfl
 | .ct i w0 t0 l r=>by
  show _::((l.rel k w t).subs++(r.rel k w t).subs)=((Tr.ct i w0 t0 l r)::(l.subs++r.subs)).map _
  rw[a3t k w t l,a3t k w t r,List.map_cons,List.map_append]
  rfl
theorem TJ.rel{n:Nat}{T:Tr}{N:List D}(I:TJ n T N){k i j:Nat}{w0:Bool}{t0:Int}(h:N[k]? = some (nd w0 t0 i j))(w:Bool)(t:Int):TJ n (T.rel k w t) (N.set k (nd w t i j)):=by
 have hk:k<N.length:=by
  rcases Nat.lt_or_ge k N.length with h' | h'
  ·exact h'
  ·rw[List.getElem?_eq_none h']at h;cases h
 refine⟨by rw[List.length_set];exact I.lN,by rw[a1n];exact I.ndp,by rw[a1n];exact I.lt,by rw[a1n];exact I.ln,by rw[a6V];exact I.rt,?_⟩
 intro X m
 rw[a3t]at m
 obtain⟨Y,my,rfl⟩:=List.mem_map.mp m
 have:=I.nok Y my
 cases Y with
 | lf x =>
  have e:N[x]? = some .non:=this
  have ne:k≠x:=by rintro rfl;rw[h]at e;cases e
  show(N.set k _)[x]? = some .non
  rw[List.getElem?_set_ne ne]
  exact e
 | ct x w1 t1 l r =>
  obtain⟨e,e1,e2⟩:N[x]? = some (nd w1 t1 l.ix r.ix)∧x<l.ix∧x<r.ix:=this
  show(N.set k _)[x]? = some (nd _ _ (l.rel k w t).ix (r.rel k w t).ix)∧x<(l.rel k w t).ix∧x<(r.rel k w t).ix
  rw[a6V,a6V]
  refine⟨?_,e1,e2⟩
  by_cases z:x=k
  ·subst z
   rw[if_pos rfl,if_pos rfl,List.getElem?_set_self hk]
   rw[h]at e
   have e:=Option.some.inj e
   unfold nd at e
   injection e with e
   injection e with _ e
   injection e with _ e
   injection e with a e
   injection e with b _
   injection a with a
   injection b with b
   rw[Int.ofNat.inj a,Int.ofNat.inj b]
  ·rw[if_neg z,if_neg z,List.getElem?_set_ne (Ne.symm z)]
   exact e
theorem TJ.at{n:Nat}{T:Tr}{N:List D}(I:TJ n T N){k:Nat}(hk:k<n):N[k]? = some .non∨∃w t i j,N[k]? = some (nd w t i j):=by
 obtain⟨X,m,e⟩:=a2P (a4p I.ndp (by rw[I.ln];exact I.lt) (by rw[I.ln];exact hk))
 have:=I.nok X m
 cases X with
 | lf x=>cases e;exact .inl this
 | ct x w t l r=>cases e;exact .inr ⟨_,_,_,_,this.1⟩
theorem b0s{α:Type}(f:α→D){L:List α}{k:Nat}(h:k<L.length):atI (L.map f) (k:Int)=some (f L[k]):=by
 rw[a84 (by rw[List.length_map];exact h),List.getElem_map]
theorem a4r(f:Nat→En):∀T:Tr,psz (T.pl f)=T.ids.length
 | .lf k=>rfl
 | .ct k w t l r=>by
  show 1+(psz (l.pl f)+psz (r.pl f))=(k::(l.ids++r.ids)).length
  rw[a4r f l,a4r f r,List.length_cons,List.length_append]
  omega
theorem a4s:∀P:Pl,noL (pD P)=true
 | .en e=>by cases e<;>rfl
 | .ct w t l r=>by
  show(noL (.str (wS w)) && (noL (.int t) && (noL (pD l) && (noL (pD r) && noLs []))))=true
  rw[a4s l,a4s r]
  rfl
theorem b7j(ws:List W3)(t:List Int)(x:Np)(d:D)(h:S8 ws t x=.inl d):∃(s:Str) (k:Int),d=.tup [.str s,.int k]:=by
 unfold S8 at h
 split at h
 ·split at h
  ·cases h;exact⟨_,_,rfl⟩
  ·cases h
 ·cases h
 ·split at h
  ·cases h;exact⟨_,_,rfl⟩
  ·cases h
theorem a86(ws:List W3):∀(l:List Np) (t:List Int) (d:D),F9 ws l t=.inl d→∃(s:Str) (k:Int),d=.tup [.str s,.int k]
 | [],t,d,h=>by cases h
 | x::xs,t,d,h=>by
  unfold F9 at h
  cases hs:S8 ws t x with
  | inl d'=>rw[hs]at h;cases h;exact b7j ws t x d hs
  | inr t'=>rw[hs]at h;exact a86 ws xs t' d h
theorem b2C(ws:List W3)(l:List Np):T3 ws l=.non∨∃(s:Str) (k:Int),T3 ws l=.tup [.str s,.int k]:=by
 unfold T3
 cases h:F9 ws l []with
 | inl d=>exact .inr (a86 ws l [] d h)
 | inr t =>
  show(match M7 (List.range ws.length) t with | some k=>lkD k | none=>.non)=D.non∨∃(s:Str) (k:Int),(match M7 (List.range ws.length) t with | some k=>lkD k | none=>.non)=D.tup [.str s,.int k]
  cases M7 (List.range ws.length) t with
  | none=>exact .inl rfl
  | some k=>exact .inr ⟨_,_,rfl⟩
theorem a1Q{α:Type}(f:α→D)(h:∀a,noL (f a)=true):∀l:List α,noLs (l.map f)=true
 | []=>rfl
 | a::l=>by
  show(noL (f a) && noLs (l.map f))=true
  rw[h a,a1Q f h l]
  rfl
noncomputable abbrev flB(MX:List D→Option R1)(GI:D→D→Option D):SF:=(g0 (m9 5 (a2g (eB gGt (eB d6 (t5 k8 0 (eV 4)) (eC (.int 2))) (eB d6 (t5 k8 0 (eV 4)) (eC (.int 0)))) (eB gGt (eB d6 (t5 k8 0 (eV 4)) (eC (.int 3))) (eB d6 (t5 k8 0 (eV 4)) (eC (.int 1)))))) (n8 (Z9 (bZ (eB GI (t5 k8 1 (eV 4)) (eC .non))) (Z9 (bZ (eV 5)) (bZ (eB gGt (eB t8 (h9 MX (aC (eV 2) (aC (eV 4) (aC (eC (.int 10007)) aN)))) (eC (.int 4))) (eC (.int 0)))))) (E4 3 (eV 4)) r9))
abbrev flE(A N K:List D)(c:Int)(s4 s5:Sl):DE:=[.fz (.lst A),.fz (.lst N),.fz (.int c),.ow K,s4,s5,.no,.no,.no,.no,.no,.no]
theorem b7k(MX:List D→Option R1)(GI:D→D→Option D)(A N K:List D)(c k m w x y z:Int)(d:D)(b:Bool)(o5:Option D)(a1:atI A k=some (.tup [.int w,.int x,.int y,.int z]))(a2:atI N k=some d)(hd:GI d .non=some (.bl b))(hm:MX [.int c,.int k,.int 10007]=some (.ret (.int m)))(hK:K.length<sizeLine) :
  ∃(p:Bool) (v:D),(p=true→b=true)∧flB MX GI (flE A N K c (.fz (.int k)) (un o5))=some (.nx (flE A N (if p=true then K++[.int k]else K) c (.fz (.int k)) (.fz v))):=by
 unfold flB flE
 by_cases h1:y > w
 ·by_cases h2:z > x
  ·by_cases h3:m%4 > 0
   ·cases b
    ·refine⟨false,.bl true,(fun z=>nomatch z),?_⟩
     rw[if_neg (by decide)]
     walk_at "eh"
    ·refine⟨true,.bl true,(fun _=>rfl),?_⟩
     rw[if_pos rfl]
     walk_at "eh"
   ·refine⟨false,.bl true,(fun z=>nomatch z),?_⟩
    rw[if_neg (by decide)]
    cases b<;>walk_at "eh" <;>rfl
  ·refine⟨false,.bl false,(fun z=>nomatch z),?_⟩
   rw[if_neg (by decide)]
   cases b<;>walk_at "eh" <;>rfl
 ·refine⟨false,.bl false,(fun z=>nomatch z),?_⟩
  rw[if_neg (by decide)]
  cases b<;>walk_at "eh" <;>rfl
theorem b5Q{d:D}(h:J9 false d .non=some (.bl true)):d=.non:=by cases d<;>first | rfl | cases h
theorem b4n(S:List Sp4)(N:List D)(hN:N.length=S.length)(hl:S.length≤1000)(c:Int):∃(K:List Nat) (o4 o5:Option D),K.Nodup∧(∀k∈K,k<S.length)∧(∀k∈K,N[k]? = some .non)∧(R7 W1 (aC (B5 v5 1) aN) (h7 4) (flB t7 (J9 false))) (flE (S.map sD) N [] c .no .no)=some (.nx (flE (S.map sD) N (oL K) c (un o4) (un o5))):=by
 obtain⟨e',f,K,o4,o5,hK,hNn,rfl⟩:=a0j (b:=h7 4) (body:=flB t7 (J9 false)) (fun(k:Nat)=>D.int (k:Int)) (fun pre e=>∃(K:List Nat) (o4 o5:Option D),K.Sublist pre∧(∀k∈K,N[k]? = some .non)∧e=flE (S.map sD) N (oL K) c (un o4) (un o5)) (List.range S.length) (flE (S.map sD) N [] c .no .no) ⟨[],none,none,List.Sublist.refl _,(fun k m=>absurd m List.not_mem_nil),rfl⟩ (by
  rintro pre k post e hq ⟨K,o4,o5,hK,hNn,rfl⟩
  have hk:k<S.length:=List.mem_range.mp (by rw[hq];simp)
  have hp:pre.length<S.length:=by have:=congrArg List.length hq;rw[List.length_range,List.length_append,List.length_cons]at this;omega
  have hb:h7 4 (.int (k:Int)) (flE (S.map sD) N (oL K) c (un o4) (un o5))=some (flE (S.map sD) N (oL K) c (.fz (.int (k:Int))) (un o5)):=by cases o4<;>rfl
  obtain⟨m,_,hm⟩:=a4o c (k:Int) 10007 (by omega) (by omega) (by omega)
  obtain⟨b,hd⟩:=b4h (N[k]'(by omega))
  obtain⟨p,v,pb,st⟩:=b7k t7 (J9 false) (S.map sD) N (oL K) c (k:Int) m _ _ _ _ _ b o5 (b1M hk) (a84 (by omega)) hd hm (by rw[List.length_map];have:=hK.length_le;show _<2 ^ 24;omega)
  rw[hb,C4]
  refine⟨_,(congrArg K5 st).trans rfl,if p=true then K++[k]else K,some (.int (k:Int)),some v,?_,?_,?_⟩
  ·cases p
   ·exact hK.trans (List.sublist_append_left _ _)
   ·exact hK.append (List.Sublist.refl _)
  ·cases p
   ·exact hNn
   ·intro j mj
    rcases List.mem_append.mp mj with mj | mj
    ·exact hNn j mj
    ·have hb':b=true:=pb rfl
     rw[hb']at hd
     rw[List.mem_singleton.mp mj,List.getElem?_eq_getElem (by omega),b5Q hd]
  ·cases p
   ·rfl
   ·rw[if_pos rfl,if_pos rfl,b5I]
    rfl)
 refine⟨K,o4,o5,hK.nodup List.nodup_range,fun k m=>List.mem_range.mp (hK.subset m),hNn,?_⟩
 have e0:(aC (B5 v5 1) aN) (flE (S.map sD) N [] c .no .no)=some (.ok [.int (N.length:Int)] (flE (S.map sD) N [] c .no .no)):=rfl
 rw[hN]at e0
 rw[Y4 e0 (a0K hl),a3q]
 exact f
theorem b1R(c:Int)(e e1:DE)(K:List Nat)(hK:K.Nodup)(hk:∀k∈K,k<999)(hl9:K.length<64)(h:(aC (eV 3) aN) e=some (.ok [.lst (oL K)] e1))(hc:y0 1 [2] e1=[.no,.fz (.int c)]):∃σ:List Nat,σ.Perm K∧a4g [2] (aC (eV 3) aN) (elK t7) e=some (.ok (oL σ) e1):=by
 have hx:∀k:Nat,k≤1000→∃m:Int,t7 [.int (c/5),.int (k:Int),.int 7919]=some (.ret (.int m)):=fun k h=>by
  obtain⟨m,_,hm⟩:=a4o (c/5) (k:Int) 7919 (by omega) (by omega) (by omega)
  exact⟨m,hm⟩
 let mf:Nat→Int:=fun k=>if h:k≤1000 then(hx k h).choose else 0
 have hmf:∀k:Nat,k≤1000→t7 [.int (c/5),.int (k:Int),.int 7919]=some (.ret (.int (mf k))):=fun k h=>by
  show _=some (R1.ret (.int (if h:k≤1000 then(hx k h).choose else 0)))
  rw[dif_pos h]
  exact(hx k h).choose_spec
 generalize hkf:(fun k:Nat=>[mf k,(k:Int)])=kf at *
 have kfe:∀k,kf k=[mf k,(k:Int)]:=fun k=>by rw[← hkf]
 have key:=a7Y c kf (fun k h=>by rw[kfe];exact b5J t7 c _ _ (hmf k h)) (fun k=>by rw[kfe];exact List.cons_ne_nil _ _) K (fun k m=>by have:=hk k m;omega)
 have ok:okK (K.map kf)=true:=by
  unfold okK
  rw[Bool.and_eq_true]
  constructor
  ·refine decide_eq_true ?_
   rw[List.nodup_iff_pairwise_ne,List.pairwise_map]
   refine List.Pairwise.imp ?_ hK
   intro i j h e
   rw[kfe,kfe]at e
   injection e with _ e
   injection e with e
   omega
  ·rw[List.all_eq_true]
   intro k mm
   obtain⟨i,hi,rfl⟩:=List.mem_map.mp mm
   cases K with
   | nil=>cases hi
   | cons a K=>rw[List.map_cons,List.headD_cons,kfe,kfe];rfl
 have hr:a1M (K.map kf) (oL K)=K.map fun(k:Nat)=>((kf k,[D.int (k:Int)]):Rw0):=by
  unfold a1M
  apply List.ext_getElem?
  intro i
  by_cases hi:i<K.length
  ·rw[List.getElem?_map,List.getElem?_range (by rw[List.length_map];exact hi),List.getElem?_map,List.getElem?_eq_getElem hi]
   show some ((K.map kf).getD i [],[(oL K).getD i .non])=some (kf K[i],[D.int (K[i]:Int)])
   rw[List.getD_eq_getElem?_getD,List.getElem?_map,List.getElem?_eq_getElem hi,List.getD_eq_getElem?_getD,List.getElem?_map,List.getElem?_eq_getElem hi]
   rfl
  ·rw[List.getElem?_eq_none (by rw[List.length_map,List.length_range,List.length_map];omega),List.getElem?_eq_none (by rw[List.length_map];omega)]
 obtain⟨σ,p1,p2⟩:=b1L (fun(k:Nat)=>((kf k,[D.int (k:Int)]):Rw0)) (a1L (a1M (K.map kf) (oL K))) K hr
 refine⟨σ,p1,?_⟩
 unfold a4g
 rw[h,a2e]
 show(if(oL K).length<64 then(match X6 (elK t7) (y0 1 [2] e1) (oL K)with
  | some ks=>if okK ks=true then some (L2.R.ok ((a1K (a1M ks (oL K))).map fun q=>q.2.headD .non) e1)else none
  | none=>none)else none)=_
 rw[if_pos (by rw[List.length_map];exact hl9),hc,key]
 show(if okK (K.map kf)=true then _ else _)=_
 rw[if_pos ok,p2,List.map_map]
 rfl
noncomputable abbrev f2B(MX:List D→Option R1):SF:=(g0 (m9 9 (eB w9 (eB d6 (t5 k8 0 (eV 4)) (eC (.int 2))) (eB d6 (t5 k8 0 (eV 4)) (eC (.int 0))))) (g0 (m9 10 (eB w9 (eB d6 (t5 k8 0 (eV 4)) (eC (.int 3))) (eB d6 (t5 k8 0 (eV 4)) (eC (.int 1))))) (g0 (K0 11 MX (aC (eB D4 (eV 2) (eC (.int 3))) (aC (eV 4) (aC (eC (.int 20011)) aN)))) (g0 (a04 8 (eV 4) (eT (aC (eC (.str "ware")) (aC (B5 v5 7) (aC (eB (u6 false) (eB t8 (eV 11) (eC (.int 3))) (eC (.int 0))) aN))))) (n8 (bZ (eB (u6 false) (eB t8 (eV 11) (eC (.int 3))) (eC (.int 0)))) (E4 7 (eT (aC (eV 10) (aC (eV 9) (aC (eC (.bl true)) aN))))) (E4 7 (eT (aC (eV 9) (aC (eV 10) (aC (eB (u6 false) (eB t8 (eB D4 (eV 11) (eC (.int 3))) (eC (.int 2))) (eC (.int 0))) aN))))))))))
abbrev f2E(A N K:D)(c:Int)(s4 s5:Sl)(O Wl E:List D)(s6:Sl)(s9 s10 s11:Sl):DE:=[.fz A,.fz N,.fz (.int c),.fz K,s4,s5,s6,.ow Wl,.ow E,s9,s10,s11]
def Y6(m:Int):Bool:=decide (m%3=0)
def wF(q:Sp4)(m:Int):W3:=if Y6 m=true then(q.d-q.b,q.c-q.a,true)else(q.c-q.a,q.d-q.b,decide (m/3%2=0))
theorem b7l(MX:List D→Option R1)(A:List D)(N K:D)(c k m:Int)(q:Sp4)(kn:Nat)(s5 s6:Sl)(O Wl E:List D)(o9 o10 o11:Option D)(a1:atI A k=some (.tup [.int q.a,.int q.b,.int q.c,.int q.d]))(hm:MX [.int (c/3),.int k,.int 20011]=some (.ret (.int m)))(ix:P9 E.length k=some kn)(hW:Wl.length<sizeLine) :
  f2B MX (f2E (.lst A) N K c (.fz (.int k)) s5 O Wl E s6 (un o9) (un o10) (un o11))=some (.nx (f2E (.lst A) N K c (.fz (.int k)) s5 O (Wl++[w3 (wF q m)]) (E.set kn (.tup [.str "ware",.int (Wl.length:Int),.bl (Y6 m)])) s6 (.fz (.int (q.c-q.a))) (.fz (.int (q.d-q.b))) (.fz (.int m)))):=by
 unfold f2B f2E w3 wF Y6
 by_cases h:m%3=0
 ·rw[if_pos (decide_eq_true h)]
  walk_at "eh"
 ·rw[if_neg (by simpa using h)]
  walk_at "eh"
structure Fil(S:List Sp4)(σ:List Nat)(mf:Nat→Int)(ws:List W3)(L:List En):Prop where
 w:ws=σ.map fun k=>wF (S.getD k ⟨0,0,0,0⟩) (mf k)
 l:L.length=S.length
 i:∀(j k:Nat),σ[j]? = some k→L[k]? = some (.wr (j:Int) (Y6 (mf k)))
 o:∀k,k<S.length→k ∉ σ→L[k]? = some .wa
theorem b4o(S:List Sp4)(hl:S.length≤1000)(N K:D)(c:Int)(o4:Option D)(s5:Sl)(σ:List Nat)(hn:σ.Nodup)(hσ:∀k∈σ,k<S.length)(hs:σ.length≤1000):∃(mf:Nat→Int) (ws:List W3) (L:List En) (p4 o9 o10 o11:Option D),Fil S σ mf ws L ∧
  a1D 6 (h7 4) (f2B t7) (f2E (.lst (S.map sD)) N K c (un o4) s5 [] [] ((List.replicate S.length En.wa).map eD) (.ow (oL σ)) .no .no .no)=some (.nx (f2E (.lst (S.map sD)) N K c (un p4) s5 [] (ws.map w3) (L.map eD) (.ow (oL σ)) (un o9) (un o10) (un o11))):=by
 have hx:∀k:Nat,k≤1000→∃m:Int,t7 [.int (c/3),.int (k:Int),.int 20011]=some (.ret (.int m)):=fun k h=>by
  obtain⟨m,_,hm⟩:=a4o (c/3) (k:Int) 20011 (by omega) (by omega) (by omega)
  exact⟨m,hm⟩
 obtain⟨mf,hmf⟩:∃mf:Nat→Int,∀k:Nat,k≤1000→t7 [.int (c/3),.int (k:Int),.int 20011]=some (.ret (.int (mf k))):=by
  refine⟨fun k=>if h:k≤1000 then(hx k h).choose else 0,fun k h=>?_⟩
  show _=some (R1.ret (.int (if h:k≤1000 then(hx k h).choose else 0)))
  rw[dif_pos h]
  exact(hx k h).choose_spec
 obtain⟨e',f,ws,L,p4,o9,o10,o11,F,rfl⟩:=a0j (b:=h7 4) (body:=f2B t7) (fun(k:Nat)=>D.int (k:Int)) (fun pre e=>∃(ws:List W3) (L:List En) (p4 o9 o10 o11:Option D),Fil S pre mf ws L∧e=f2E (.lst (S.map sD)) N K c (un p4) s5 [] (ws.map w3) (L.map eD) (.hd (oL σ)) (un o9) (un o10) (un o11)) σ (f2E (.lst (S.map sD)) N K c (un o4) s5 [] [] ((List.replicate S.length En.wa).map eD) (.hd (oL σ)) .no .no .no) ⟨[],List.replicate S.length En.wa,o4,none,none,none,⟨rfl,List.length_replicate,(fun j k h=>by cases h),fun k hk _=>by rw[List.getElem?_replicate,if_pos hk]⟩,rfl⟩ (by
  rintro pre k post e hq ⟨ws,L,p4,o9,o10,o11,F,rfl⟩
  have hk:k<S.length:=hσ k (by rw[hq];simp)
  have hp:pre.length<1000:=by have:=congrArg List.length hq;rw[List.length_append,List.length_cons]at this;omega
  have kn:k ∉ pre:=by
   intro m
   rw[hq,List.nodup_append]at hn
   exact hn.2.2 k m k List.mem_cons_self rfl
  have wl:ws.length=pre.length:=by rw[F.w,List.length_map]
  have hb:h7 4 (.int (k:Int)) (f2E (.lst (S.map sD)) N K c (un p4) s5 [] (ws.map w3) (L.map eD) (.hd (oL σ)) (un o9) (un o10) (un o11))=some (f2E (.lst (S.map sD)) N K c (.fz (.int (k:Int))) s5 [] (ws.map w3) (L.map eD) (.hd (oL σ)) (un o9) (un o10) (un o11)):=by cases p4<;>rfl
  have st:=b7l t7 (S.map sD) N K c (k:Int) (mf k) S[k] k s5 (.hd (oL σ)) [] (ws.map w3) (L.map eD) o9 o10 o11 (b1M hk) (hmf k (by omega)) (a0k (by rw[List.length_map,F.l];exact hk)) (by rw[List.length_map];show _<2 ^ 24;omega)
  rw[hb,C4]
  refine⟨_,(congrArg K5 st).trans rfl,ws++[wF S[k] (mf k)],L.set k (.wr (pre.length:Int) (Y6 (mf k))),some (.int (k:Int)),some (.int (S[k].c-S[k].a)),some (.int (S[k].d-S[k].b)),some (.int (mf k)),⟨?_,by rw[List.length_set];exact F.l,fun j x hj=>?_,fun x hx nx=>?_⟩,?_⟩
  ·rw[List.map_append,← F.w]
   show ws++[_]=ws++[wF (S.getD k _) (mf k)]
   rw[List.getD_eq_getElem?_getD,List.getElem?_eq_getElem hk]
   rfl
  ·by_cases z:j<pre.length
   ·rw[List.getElem?_append_left z]at hj
    have:x∈pre:=List.mem_of_getElem? hj
    rw[List.getElem?_set_ne (fun e=>kn (by rw[e];exact this))]
    exact F.i j x hj
   ·rw[List.getElem?_append_right (by omega)]at hj
    have z2:j-pre.length=0:=by
     rcases Nat.eq_zero_or_pos (j-pre.length)with h | h
     ·exact h
     ·rw[List.getElem?_eq_none (by rw[List.length_singleton];omega)]at hj;cases hj
    rw[z2]at hj
    cases hj
    rw[List.getElem?_set_self (by rw[F.l];exact hk),show pre.length=j by omega]
  ·have:x ∉ pre:=fun m=>nx (List.mem_append_left _ m)
   rw[List.getElem?_set_ne (fun e=>nx (by rw[← e];simp))]
   exact F.o x hx this
  ·rw[List.map_set,List.map_append,List.length_map,wl]
   rfl)
 refine⟨mf,ws,L,p4,o9,o10,o11,F,?_⟩
 show unhide 6 (oL σ) (B3 (h7 4) (f2B t7) (oL σ) (f2E (.lst (S.map sD)) N K c (un o4) s5 [] [] ((List.replicate S.length En.wa).map eD) (.hd (oL σ)) .no .no .no))=_
 rw[f]
 rfl
theorem a7i(S:List Sp4)(N:List D)(hN:N.length=S.length)(hl:S.length<999)(h64:∀K:List Nat,K.Nodup→(∀k∈K,N[k]? = some .non)→K.length<64)(c:Int):∃(mf:Nat→Int) (ws:List W3) (L:List En) (σ:List Nat),Fil S σ mf ws L∧σ.Nodup∧(∀k∈σ,k<S.length∧N[k]? = some .non)∧σ.length<64∧O3 [.lst (S.map sD),.lst N,.int c]=some (.owz [ws.map w3,L.map eD,oL σ]):=by
 obtain⟨K,o4,o5,nK,kK,nN,f1⟩:=b4n S N hN (by omega) c
 obtain⟨σ,pσ,f2⟩:=b1R c (flE (S.map sD) N (oL K) c (un o4) (un o5)) [.fz (.lst (S.map sD)),.fz (.lst N),.fz (.int c),.fz (.lst (oL K)),un o4,un o5,.no,.no,.no,.no,.no,.no] K nK (fun k m=>by have:=kK k m;omega) (h64 K nK nN) rfl rfl
 have hσ:∀k∈σ,k<S.length:=fun k m=>kK k (pσ.mem_iff.mp m)
 have hs:σ.length<64:=by rw[pσ.length_eq];exact h64 K nK nN
 have nσ:σ.Nodup:=pσ.nodup_iff.mpr nK
 obtain⟨mf,ws,L,p4,o9,o10,o11,F,f4⟩:=b4o S (by omega) (.lst N) (.lst (oL K)) c o4 (un o5) σ nσ hσ (by omega)
 refine⟨mf,ws,L,σ,F,nσ,fun k m=>⟨hσ k m,nN k (pσ.mem_iff.mp m)⟩,hs,b1N _ _ _ _ _ _ _ _ _ _ _ _ _ _ _ _ _ _ f1 f2 ?_ f4⟩
 have:=b6j (.lst (S.map sD)) N (by omega) (.int c) (.lst (oL K)) (un o4) (un o5) (.ow (oL σ)) (.ow [])
 rw[hN]at this
 exact this
def idx(f:Nat→En)(k:Nat):Option Int:=match f k with
 | .wr i _=>some i
 | .wa=>none
theorem a6W{S:List Sp4}{σ:List Nat}{mf:Nat→Int}{ws:List W3}{L:List En}(F:Fil S σ mf ws L){f:Nat→En}(hf:∀k,k<S.length→L[k]? = some (f k)){k:Nat}(hk:k<S.length){i:Int}{b:Bool}(h:f k=.wr i b):∃j:Nat,i=(j:Int)∧σ[j]? = some k∧b=Y6 (mf k):=by
 have e:=hf k hk
 by_cases m:k∈σ
 ·obtain⟨j,hj⟩:=List.getElem?_of_mem m
  have e2:=F.i j k hj
  rw[e,h]at e2
  cases e2
  exact⟨j,rfl,hj,rfl⟩
 ·have e2:=F.o k hk m
  rw[e,h]at e2
  cases e2
theorem b5R{S:List Sp4}{σ:List Nat}{mf:Nat→Int}{ws:List W3}{L:List En}(F:Fil S σ mf ws L){j k:Nat}{q:Sp4}(hj:σ[j]? = some k)(hq:S[k]? = some q)(told:List Int)(nt:(j:Int) ∉ told):U6 ws q (j:Int) (Y6 (mf k)) told=false:=by
 have jl:j<σ.length:=(List.getElem?_eq_some_iff.mp hj).1
 have wl:ws.length=σ.length:=by rw[F.w,List.length_map]
 have wj:wAt ws (j:Int)=wF q (mf k):=by
  unfold wAt
  rw[F.w]
  simp only[Int.toNat_natCast]
  rw[List.getD_eq_getElem?_getD,List.getElem?_map,hj]
  show wF (S.getD k _) (mf k)=_
  rw[List.getD_eq_getElem?_getD,hq]
  rfl
 unfold U6
 rw[wj,wl,decide_eq_false (by omega),decide_eq_false (by omega),decide_eq_false nt]
 unfold wF sdB
 cases Y6 (mf k)<;>simp
theorem a75(ws:List W3):∀(l r:List Np) (t t':List Int),F9 ws l t=.inr t'→F9 ws (l++r) t=F9 ws r t'
 | [],r,t,t',h=>by cases h;rfl
 | x::l,r,t,t',h=>by
  show(match S8 ws t x with | Sum.inl d=>(Sum.inl d:Sum D (List Int)) | Sum.inr t'=>F9 ws (l++r) t')=_
  have h:(match S8 ws t x with | Sum.inl d=>(Sum.inl d:Sum D (List Int)) | Sum.inr t'=>F9 ws l t')=Sum.inr t':=h
  cases hs:S8 ws t x with
  | inl d=>rw[hs]at h;cases h
  | inr t2=>rw[hs]at h;exact a75 ws l r t2 t' h
theorem a2y{N:List D}{S:List Sp4}{σ:List Nat}{mf:Nat→Int}{ws:List W3}{L:List En}(F:Fil S σ mf ws L){f:Nat→En}(hf:∀k,k<S.length→L[k]? = some (f k)):∀(T:Tr) (q:Sp4) (told:List Int),Gd N S q T→T.ids.Nodup→(∀k∈T.lvs,∀i,idx f k=some i→i ∉ told)→F9 ws (r8 q (T.pl f)) told=.inr (told++T.lvs.filterMap (idx f))
 | .lf k,q,told,g,nd,ht=>by
  obtain⟨_,hq⟩:=g
  have hk:k<S.length:=(List.getElem?_eq_some_iff.mp hq).1
  show(match S8 ws told (q,Pl.en (f k))with | Sum.inl d=>(Sum.inl d:Sum D (List Int)) | Sum.inr t'=>Sum.inr t')=_
  cases e:f k with
  | wa =>
   have:idx f k=none:=by unfold idx;rw[e]
   show Sum.inr told=Sum.inr (told++[k].filterMap (idx f))
   rw[List.filterMap_cons_none this,List.filterMap_nil,List.append_nil]
  | wr i b =>
   obtain⟨j,rfl,hj,rfl⟩:=a6W F hf hk e
   have ix:idx f k=some (j:Int):=by unfold idx;rw[e]
   have gw:=b5R F hj hq told (ht k List.mem_cons_self _ ix)
   have es:S8 ws told (q,Pl.en (.wr (j:Int) (Y6 (mf k))))=.inr (told++[(j:Int)]):=by
    show(if U6 ws q (j:Int) (Y6 (mf k)) told=true then _ else _)=_
    rw[gw]
    rfl
   rw[es]
   show Sum.inr (told++[(j:Int)])=Sum.inr (told++[k].filterMap (idx f))
   rw[List.filterMap_cons_some ix]
   rfl
 | .ct k w t l r,q,told,g,nd,ht=>by
  obtain⟨_,_,_,_,t0,t1,gz1,g2⟩:=g
  obtain⟨n1,n2,dis,_,_⟩:=a83 nd
  have hl:=a2y F hf l (pL q w t) told gz1 n1 (fun k m=>ht k (List.mem_append_left _ m))
  have hr:=a2y F hf r (pR q w t) (told++l.lvs.filterMap (idx f)) g2 n2 (fun k m i hi mt=>by
   rcases List.mem_append.mp mt with mt | mt
   ·exact ht k (List.mem_append_right _ m) i hi mt
   ·obtain⟨k',m',hi'⟩:=List.mem_filterMap.mp mt
    have kk:∀{x:Nat},x<S.length→idx f x=some i→∃j:Nat,i=(j:Int)∧σ[j]? = some x:=fun{x} hx h=>by
     unfold idx at h
     split at h
     ·rename_i i' b e
      cases h
      obtain⟨j,a,b,_⟩:=a6W F hf hx e
      exact⟨j,a,b⟩
     ·cases h
    have kl:∀{X:Tr} {p:Sp4} {x:Nat},Gd N S p X→x∈X.lvs→x<S.length:=fun{X p x} gx mx=>by
     obtain⟨y,hy⟩:=a2w gx x (A4 mx)
     exact(List.getElem?_eq_some_iff.mp hy).1
    obtain⟨j,e1,h1⟩:=kk (kl g2 m) hi
    obtain⟨j',e2,h2⟩:=kk (kl gz1 m') hi'
    have:j=j':=by omega
    subst this
    rw[h1]at h2
    cases h2
    exact dis k (A4 m') (A4 m))
  show(match S8 ws told (q,Pl.ct w t (l.pl f) (r.pl f))with | Sum.inl d=>(Sum.inl d:Sum D (List Int)) | Sum.inr t'=>F9 ws (r8 (pL q w t) (l.pl f)++r8 (pR q w t) (r.pl f)) t')=_
  have es:S8 ws told (q,Pl.ct w t (l.pl f) (r.pl f))=.inr told:=by
   show(if t<1∨K6 q w≤t then _ else _)=_
   rw[if_neg (by omega)]
  rw[es]
  show F9 ws (r8 (pL q w t) (l.pl f)++r8 (pR q w t) (r.pl f)) told=_
  rw[a75 ws _ _ _ _ hl,hr,List.append_assoc]
  show _=Sum.inr (told++(l.lvs++r.lvs).filterMap (idx f))
  rw[List.filterMap_append]
theorem a4t{N:List D}:∀(T:Tr) {S:List Sp4} {q:Sp4},Gd N S q T→∀k∈T.ids,N[k]? = some .non→k∈T.lvs
 | .lf k,_,_,_,x,m,_=>m
 | .ct k w t l r,S,q,⟨a,_,_,_,_,_,gz1,g2⟩,x,m,h=>by
  rcases List.mem_cons.mp m with rfl | m
  ·rw[a]at h;cases h
  ·rcases List.mem_append.mp m with m | m
   ·exact List.mem_append_left _ (a4t l gz1 x m h)
   ·exact List.mem_append_right _ (a4t r g2 x m h)
theorem a2z:∀T:Tr,T.ids.length+1=2*T.lvs.length
 | .lf _=>rfl
 | .ct k w t l r=>by
  show(k::(l.ids++r.ids)).length+1=2*(l.lvs++r.lvs).length
  rw[List.length_cons,List.length_append,List.length_append]
  have:=a2z l
  have:=a2z r
  omega
theorem a5C:∀(l:List Nat) (t:List Int),(∀k∈l,(k:Int)∈t)→M7 l t=none
 | [],_,_=>rfl
 | k::l,t,h=>by
  unfold M7
  rw[if_pos (h k List.mem_cons_self)]
  exact a5C l t fun k m=>h k (List.mem_cons_of_mem _ m)
abbrev lvL(W H:Int)(P:Pl):List Np:=(r8 ⟨0,0,W,H⟩ P).filter fun x=>!isC x.2
theorem b7m(NO:List D→Option R1)(b p:D)(L:List D)(h:NO [b,p]=some (.own L)):(h9 NO (aC (eV 0) (aC (eV 1) aN))) [.fz b,.fz p]=some (.ok (.lst L) [.fz b,.fz p]):=by
 walk_at "eh"
theorem b7n(IC:List D→Option R1)(q p:D)(b:Bool)(h:IC [p]=some (.ret (.bl b))):(B4 (bZ (h9 IC (aC (eV 1) aN)))) [.fz q,.fz p]=some (.ok (!b) [.fz q,.fz p]):=by
 walk_at "eh"
theorem b0u(W H:Int)(P:Pl)(hs:psz P≤1000):D3 [.tup [.int W,.int H],pD P]=some (.own ((lvL W H P).map G4)):=by
 have e:(a2I 2 [] (h9 B9 (aC (eV 0) (aC (eV 1) aN))) (C7 [(h7 0),(h7 1)]) (B4 (bZ (h9 u9 (aC (eV 1) aN)))) (eT (aC (eV 0) (aC (eV 1) aN)))) [.fz (.tup [.int W,.int H]),.fz (pD P)]=some (.ok ((lvL W H P).map G4) [.fz (.tup [.int W,.int H]),.fz (pD P)]):=by
  unfold a2I
  rw[b7m B9 _ _ _ (a6R W H P hs),a2e]
  show C3 (C7 [(h7 0),(h7 1)]) (B4 (bZ (h9 u9 (aC (eV 1) aN)))) (eT (aC (eV 0) (aC (eV 1) aN))) [.no,.no] _ ((r8 ⟨0,0,W,H⟩ P).map G4) []=_
  rw[a0E G4 G4 (fun x=>!isC x.2) (r8 ⟨0,0,W,H⟩ P) [] (by rw[a0h];show 0+_≤2 ^ 24;omega) (fun x _=>⟨[.fz (sD x.1),.fz (pD x.2)],[.fz (sD x.1),.fz (pD x.2)],rfl,b7n u9 _ _ _ (Z8 x.2),fun _=>⟨_,rfl⟩⟩)]
  rw[List.nil_append]
 have:D3 [.tup [.int W,.int H],pD P]=a06 (M3 ((a2I 2 [] (h9 B9 (aC (eV 0) (aC (eV 1) aN))) (C7 [(h7 0),(h7 1)]) (B4 (bZ (h9 u9 (aC (eV 1) aN)))) (eT (aC (eV 0) (aC (eV 1) aN)))) [.fz (.tup [.int W,.int H]),.fz (pD P)]) fun ds _=>some (.ro ds)):=rfl
 rw[this,e]
 rfl
theorem a6Y(ws:List W3):∀(l:List Np) (told t:List Int),F9 ws l told=.inr t→∀x∈l,∀i b,x.2=.en (.wr i b)→0≤i∧i<(ws.length:Int)
 | [],_,_,_,x,m,_,_,_=>by cases m
 | y::l,told,t,h,x,m,i,b,e=>by
  have h:(match S8 ws told y with | Sum.inl d=>(Sum.inl d:Sum D (List Int)) | Sum.inr t'=>F9 ws l t')=Sum.inr t:=h
  cases hs:S8 ws told y with
  | inl d=>rw[hs]at h;cases h
  | inr t' =>
   rw[hs]at h
   rcases List.mem_cons.mp m with rfl | m
   ·obtain⟨q,P⟩:=x
    cases e
    have hs:(if U6 ws q i b told=true then(Sum.inl (D.tup [.str "ware",.int i]):Sum D (List Int))else .inr (told++[i]))=.inr t':=hs
    by_cases z:U6 ws q i b told=true
    ·rw[if_pos z]at hs;cases hs
    ·unfold U6 at z
     simp only[Bool.or_eq_true,decide_eq_true_eq,not_or]at z
     omega
   ·exact a6Y ws l t' t h x m i b e
def plS(A:List D)(x:Np):List D:=match x.2 with
 | .en (.wr i b)=>A.set i.toNat (.tup [.int x.1.a,.int x.1.b,.bl b])
 | _=>A
def plF(l:List Np)(A:List D):List D:=l.foldl plS A
theorem a76(A:List D)(x:Np):(plS A x).length=A.length:=by
 unfold plS
 split
 ·rw[List.length_set]
 ·rfl
noncomputable abbrev cpB:SF:=(n8 (bZ (eB (u6 false) (eB d6 (eV 6) (eC (.int 0))) (eC (.str "ware")))) (a04 4 (eB d6 (eV 6) (eC (.int 1))) (eT (aC (eB d6 (eV 5) (eC (.int 0))) (aC (eB d6 (eV 5) (eC (.int 1))) (aC (eB d6 (eV 6) (eC (.int 2))) aN))))) r9)
abbrev W7(bx W pl:D)(A:List D)(s5 s6:Sl):DE:=[.fz bx,.fz W,.fz pl,.fz .non,.ow A,s5,s6]
theorem b6n(bx W pl:D)(A:List D)(q:D):cpB (W7 bx W pl A (.fz q) (.fz (.tup [.str "waste"])))=some (.nx (W7 bx W pl A (.fz q) (.fz (.tup [.str "waste"])))):=by
 unfold cpB W7
 walk_at "eh"
theorem b6o(bx W pl:D)(A:List D)(a b c d i:Int)(l:Bool)(n:Nat)(ix:P9 A.length i=some n):cpB (W7 bx W pl A (.fz (.tup [.int a,.int b,.int c,.int d])) (.fz (.tup [.str "ware",.int i,.bl l])))=some (.nx (W7 bx W pl (A.set n (.tup [.int a,.int b,.bl l])) (.fz (.tup [.int a,.int b,.int c,.int d])) (.fz (.tup [.str "ware",.int i,.bl l])))):=by
 unfold cpB W7
 walk_at "eh"
theorem a77(bx W pl:D)(n:Nat):∀(l:List Np) (A:List D) (o5 o6:Option D),A.length=n→(∀x∈l,isC x.2=false)→(∀x∈l,∀i b,x.2=.en (.wr i b)→0≤i∧i<(n:Int))→∃p5 p6,B3 (C7 [h7 5,h7 6]) cpB (l.map G4) (W7 bx W pl A (un o5) (un o6))=some (.nx (W7 bx W pl (plF l A) (un p5) (un p6)))
 | [],A,o5,o6,_,_,_=>⟨o5,o6,rfl⟩
 | x::l,A,o5,o6,hA,hc,hr=>by
  have hb:C7 [h7 5,h7 6] (G4 x) (W7 bx W pl A (un o5) (un o6))=some (W7 bx W pl A (.fz (sD x.1)) (.fz (pD x.2))):=by cases o5<;>cases o6<;>rfl
  have hc1:=hc x List.mem_cons_self
  have hr1:=hr x List.mem_cons_self
  obtain⟨q,P⟩:=x
  have l7:=a77 bx W pl n l (plS A (q,P)) (some (sD q)) (some (pD P)) (by rw[a76];exact hA) (fun x m=>hc x (List.mem_cons_of_mem _ m)) (fun x m=>hr x (List.mem_cons_of_mem _ m))
  rw[List.map_cons,N9,hb,C4]
  show ∃p5 p6,a0A _ _=some (.nx (W7 bx W pl (plF l (plS A (q,P))) (un p5) (un p6)))
  cases P with
  | ct w t l' r'=>cases hc1
  | en e =>
   cases e with
   | wa =>
    rw[show cpB (W7 bx W pl A (.fz (sD q)) (.fz (pD (.en .wa))))=_ from b6n bx W pl A (sD q),X5]
    exact l7
   | wr i b =>
    obtain⟨i0,i1⟩:=hr1 i b rfl
    have ix:P9 A.length i=some i.toNat:=by
     have:=a0k (n:=A.length) (k:=i.toNat) (by omega)
     rw[Int.toNat_of_nonneg i0]at this
     exact this
    rw[show cpB (W7 bx W pl A (.fz (sD q)) (.fz (pD (.en (.wr i b)))))=_ from b6o bx W pl A q.a q.b q.c q.d i b _ ix,X5]
    exact l7
theorem b7o(PF PO:List D→Option R1)(GR:D→D→Option (List D))(FB:SF)(bx W pl:D)(s:Str)(k:Int)(h:PF [bx,W,pl]=some (.ret (.tup [.str s,.int k]))):fD 7 3 (g0 (a33 3 PF (aC (eV 0) (aC (eV 1) (aC (eV 2) aN)))) (g0 (n8 (bZ (eB (J9 true) (eV 3) (eC .non))) (a1i "BadPlan" "why" (aC (eV 3) aN)) r9) (g0 (w8 4 (nB GR (zN (eL (aC (eC .non) aN))) (B5 v5 1))) (g0 FB (Z1 4))))) [bx,W,pl]=some (.ex (.v "BadPlan" "why" (.tup [.str s,.int k]))):=by
 walk_at "eh"
theorem b7p(PF:List D→Option R1)(GR:D→D→Option (List D))(FB:SF)(bx pl:D)(W A0 A:List D)(n:Nat)(o5 o6:Option D)(hn:W.length=n)(h:PF [bx,.lst W,pl]=some (.ret .non))(hg:GR (.lst [.non]) (.int (n:Int))=some A0)(hf:FB (W7 bx (.lst W) pl A0 .no .no)=some (.nx (W7 bx (.lst W) pl A (un o5) (un o6)))):fD 7 3 (g0 (a33 3 PF (aC (eV 0) (aC (eV 1) (aC (eV 2) aN)))) (g0 (n8 (bZ (eB (J9 true) (eV 3) (eC .non))) (a1i "BadPlan" "why" (aC (eV 3) aN)) r9) (g0 (w8 4 (nB GR (zN (eL (aC (eC .non) aN))) (B5 v5 1))) (g0 FB (Z1 4))))) [bx,.lst W,pl]=some (.own A):=by
 unfold W7 at hf
 cases o5<;>cases o6<;>simp only[un]at hf<;>walk_at "eh"
theorem b5S(n:Nat)(h:n≤1000):a3b (.lst [.non]) (.int (n:Int))=some (List.replicate n .non):=by
 rw[a3b,if_pos ⟨by omega,by omega,by rw[List.length_singleton,Int.toNat_natCast];show _≤2 ^ 24;omega⟩,Int.toNat_natCast,List.flatten_replicate_singleton]
theorem b4p{ws:List W3}{l:List Np}(h:T3 ws l=.non):∃t,F9 ws l []=.inr t:=by
 unfold T3 at h
 cases hr:F9 ws l []with
 | inl d =>
  rw[hr]at h
  obtain⟨s,k,e⟩:=a86 ws l [] d hr
  have h:d=.non:=h
  rw[e]at h
  cases h
 | inr t=>exact⟨t,rfl⟩
theorem a1Z(W H:Int)(ws:List W3)(hw:ws.length≤1000)(P:Pl)(hs:psz P≤1000)(h:T3 ws (r8 ⟨0,0,W,H⟩ P)=.non):A2 [.tup [.int W,.int H],.lst (ws.map w3),pD P]=some (.own (plF (lvL W H P) (List.replicate ws.length .non))):=by
 obtain⟨t,hr⟩:=b4p h
 have pf:=a1X W H ws hw P hs
 rw[h]at pf
 obtain⟨o5,o6,lp⟩:=a77 (.tup [.int W,.int H]) (.lst (ws.map w3)) (pD P) ws.length (lvL W H P) (List.replicate ws.length .non) none none List.length_replicate (fun x m=>by have:=(List.mem_filter.mp m).2;simpa using this) (fun x m=>a6Y ws _ [] t hr x (List.mem_filter.mp m).1)
 refine b7p K4 a3b _ _ _ _ _ _ ws.length o5 o6 (by rw[List.length_map]) pf (b5S _ hw) ?_
 have e:(h9 D3 (aC (eV 0) (aC (eV 2) aN))) (W7 (.tup [.int W,.int H]) (.lst (ws.map w3)) (pD P) (List.replicate ws.length .non) .no .no)=some (.ok (.lst ((lvL W H P).map G4)) (W7 (.tup [.int W,.int H]) (.lst (ws.map w3)) (pD P) (List.replicate ws.length .non) .no .no)):=by
  show a1A (D3 [.tup [.int W,.int H],pD P]) _=_
  rw[b0u W H P hs]
  rfl
 show W0 (h9 D3 (aC (eV 0) (aC (eV 2) aN))) (C7 [h7 5,h7 6]) cpB (W7 (.tup [.int W,.int H]) (.lst (ws.map w3)) (pD P) (List.replicate ws.length .non) .no .no)=_
 unfold W0
 rw[e,T5]
 exact lp
theorem a6Z(W H:Int)(ws:List W3)(hw:ws.length≤1000)(P:Pl)(hs:psz P≤1000)(s:Str)(k:Int)(h:T3 ws (r8 ⟨0,0,W,H⟩ P)=.tup [.str s,.int k]):A2 [.tup [.int W,.int H],.lst (ws.map w3),pD P]=some (.ex (.v "BadPlan" "why" (.tup [.str s,.int k]))):=by
 have pf:=a1X W H ws hw P hs
 rw[h]at pf
 exact b7o K4 D3 a3b _ _ _ _ s k pf
theorem a3u{N:List D}{S:List Sp4}(f:Nat→En):∀(T:Tr) (q:Sp4),Gd N S q T→∀x∈r8 q (T.pl f),∀e,x.2=.en e→∃k∈T.lvs,S[k]? = some x.1∧e=f k
 | .lf k,q,⟨_,hq⟩,x,m,e,h=>by
  rw[List.mem_singleton.mp m]at h ⊢
  cases h
  exact⟨k,List.mem_cons_self,hq,rfl⟩
 | .ct k w t l r,q,⟨_,_,_,_,_,_,gz1,g2⟩,x,m,e,h=>by
  rcases List.mem_cons.mp m with rfl | m
  ·cases h
  ·rcases List.mem_append.mp m with m | m
   ·obtain⟨j,a,b⟩:=a3u f l _ gz1 x m e h
    exact⟨j,List.mem_append_left _ a,b⟩
   ·obtain⟨j,a,b⟩:=a3u f r _ g2 x m e h
    exact⟨j,List.mem_append_right _ a,b⟩
theorem a3v{N:List D}{S:List Sp4}(f:Nat→En):∀(T:Tr) (q:Sp4),Gd N S q T→∀k∈T.lvs,∃p,S[k]? = some p∧(p,Pl.en (f k))∈r8 q (T.pl f)
 | .lf k,q,⟨_,hq⟩,x,m=>by
  rw[List.mem_singleton.mp m]
  exact⟨q,hq,List.mem_cons_self⟩
 | .ct k w t l r,q,⟨_,_,_,_,_,_,gz1,g2⟩,x,m=>by
  rcases List.mem_append.mp m with m | m
  ·obtain⟨p,a,b⟩:=a3v f l _ gz1 x m
   exact⟨p,a,List.mem_cons_of_mem _ (List.mem_append_left _ b)⟩
  ·obtain⟨p,a,b⟩:=a3v f r _ g2 x m
   exact⟨p,a,List.mem_cons_of_mem _ (List.mem_append_right _ b)⟩
theorem a78(P:Nat→D):∀(l:List Np) (A:List D),(∀x∈l,∀i b,x.2=.en (.wr i b)→∃j:Nat,i=(j:Int)∧P j=.tup [.int x.1.a,.int x.1.b,.bl b])→(plF l A).length=A.length∧∀j,j<A.length→(plF l A)[j]? = some (P j)∨((plF l A)[j]? = A[j]?∧∀x∈l,∀b,x.2≠.en (.wr (j:Int) b))
 | [],A,_=>⟨rfl,fun j _=>.inr ⟨rfl,fun x m=>by cases m⟩⟩
 | x::l,A,h=>by
  obtain⟨h1,h2⟩:=a78 P l (plS A x) fun x m=>h x (List.mem_cons_of_mem _ m)
  rw[a76]at h1 h2
  refine⟨h1,fun j hj=>?_⟩
  show(plF l (plS A x))[j]? = some (P j)∨((plF l (plS A x))[j]? = A[j]?∧_)
  rcases h2 j hj with z | ⟨z,nz⟩
  ·exact .inl z
  ·by_cases hx:∃b,x.2=.en (.wr (j:Int) b)
   ·obtain⟨b,hb⟩:=hx
    obtain⟨j',e1,e2⟩:=h x List.mem_cons_self _ _ hb
    have:j=j':=by omega
    subst this
    left
    rw[z]
    have es:plS A x=A.set ((j:Int).toNat) (.tup [.int x.1.a,.int x.1.b,.bl b]):=by
     unfold plS
     rw[hb]
    rw[es,Int.toNat_natCast,List.getElem?_set_self hj,e2]
   ·right
    refine⟨?_,fun y m b=>?_⟩
    ·rw[z]
     unfold plS
     split
     ·rename_i i b hb
      have ne:i.toNat≠j:=by
       obtain⟨j',e1,_⟩:=h x List.mem_cons_self i b hb
       intro e
       exact hx ⟨b,by rw[hb,show i=(j:Int) by omega]⟩
      rw[List.getElem?_set_ne ne]
     ·rfl
    ·rcases List.mem_cons.mp m with rfl | m
     ·exact fun e=>hx ⟨b,e⟩
     ·exact nz y m b
def E6(S:List Sp4)(mf:Nat→Int)(k:Nat):D:=.tup [.int (S.getD k ⟨0,0,0,0⟩).a,.int (S.getD k ⟨0,0,0,0⟩).b,.bl (Y6 (mf k))]
theorem b1S{N:List D}{S:List Sp4}{σ:List Nat}{mf:Nat→Int}{ws:List W3}{L:List En}(F:Fil S σ mf ws L){f:Nat→En}(hf:∀k,k<S.length→L[k]? = some (f k))(T:Tr)(W H:Int)(g:Gd N S ⟨0,0,W,H⟩ T)(hσ:∀k∈σ,k∈T.lvs):plF (lvL W H (T.pl f)) (List.replicate ws.length .non)=σ.map (E6 S mf):=by
 have wl:ws.length=σ.length:=by rw[F.w,List.length_map]
 have kl:∀{x:Nat},x∈T.lvs→x<S.length:=fun{x} mx=>by
  obtain⟨y,hy⟩:=a2w g x (A4 mx)
  exact(List.getElem?_eq_some_iff.mp hy).1
 obtain⟨h1,h2⟩:=a78 (fun j=>match σ[j]? with | some k=>E6 S mf k | none=>.non) (lvL W H (T.pl f)) (List.replicate ws.length .non) (fun x m i b e=>by
  obtain⟨k,mk,hk,ek⟩:=a3u f T _ g x (List.mem_filter.mp m).1 _ e
  obtain⟨j,e1,e2,e3⟩:=a6W F hf (kl mk) ek.symm
  refine⟨j,e1,?_⟩
  show(match σ[j]? with | some k=>E6 S mf k | none=>.non)=_
  rw[e2]
  show E6 S mf k=_
  unfold E6
  rw[List.getD_eq_getElem?_getD,hk,e3]
  rfl)
 rw[List.length_replicate]at h1 h2
 apply List.ext_getElem?
 intro j
 by_cases hj:j<ws.length
 ·have js:j<σ.length:=by omega
  rw[List.getElem?_map,List.getElem?_eq_getElem js]
  rcases h2 j hj with z | ⟨z,nz⟩
  ·rw[z]
   show some (match σ[j]? with | some k=>E6 S mf k | none=>.non)=_
   rw[List.getElem?_eq_getElem js]
   rfl
  ·exfalso
   have mk:=hσ _ (List.getElem_mem js)
   obtain⟨p,hp,mp⟩:=a3v f T _ g _ mk
   have ef:f σ[j]=.wr (j:Int) (Y6 (mf σ[j])):=by
    have e1:=hf _ (kl mk)
    have e2:=F.i j _ (List.getElem?_eq_getElem js)
    rw[e1]at e2
    exact Option.some.inj e2
   rw[ef]at mp
   exact nz _ (List.mem_filter.mpr ⟨mp,rfl⟩) _ rfl
 ·rw[List.getElem?_eq_none (by omega),List.getElem?_eq_none (by rw[List.length_map];omega)]
theorem b0v{N:List D}{S:List Sp4}{σ:List Nat}{mf:Nat→Int}{ws:List W3}{L:List En}(F:Fil S σ mf ws L){f:Nat→En}(hf:∀k,k<S.length→L[k]? = some (f k))(T:Tr)(W H:Int)(g:Gd N S ⟨0,0,W,H⟩ T)(nd:T.ids.Nodup)(hσ:∀k∈σ,k∈T.lvs)(hS:∀k∈T.lvs,k<S.length):T3 ws (r8 ⟨0,0,W,H⟩ (T.pl f))=.non:=by
 have r:=a2y F hf T ⟨0,0,W,H⟩ [] g nd (fun k _ i _=>List.not_mem_nil)
 unfold T3
 rw[r]
 show(match M7 (List.range ws.length) ([]++T.lvs.filterMap (idx f))with | some k=>lkD k | none=>.non)=_
 rw[a5C]
 intro j mj
 have wl:ws.length=σ.length:=by rw[F.w,List.length_map]
 have js:j<σ.length:=by have:=List.mem_range.mp mj;omega
 rw[List.nil_append]
 refine List.mem_filterMap.mpr ⟨σ[j],hσ _ (List.getElem_mem js),?_⟩
 have e1:=hf _ (hS _ (hσ _ (List.getElem_mem js)))
 have e2:=F.i j _ (List.getElem?_eq_getElem js)
 rw[e1]at e2
 unfold idx
 rw[Option.some.inj e2]
noncomputable abbrev smB(WH:List D→Option R1):SF:=(g0 (n8 (S7 (B4 (bZ (a0g 2 "tuple"))) (S7 (bZ (eB (u6 true) (B5 v5 2) (eC (.int 3)))) (B4 (bZ (V7 a3d (aC (eB d6 (eV 2) (eC (.int 2))) (aC (eC (.ty "bool")) aN))))))) (j0 (eC (.bl false))) r9) (n8 (S7 (B4 (bZ (h9 WH (aC (eB d6 (eV 2) (eC (.int 0))) aN)))) (B4 (bZ (h9 WH (aC (eB d6 (eV 2) (eC (.int 1))) aN))))) (j0 (eC (.bl false))) r9))
theorem b7q(WH:List D→Option R1)(X Y:D)(a b:Int)(l:Bool)(h1:WH [.int a]=some (.ret (.bl true)))(h2:WH [.int b]=some (.ret (.bl true))):smB WH [.fz X,.fz Y,.fz (.tup [.int a,.int b,.bl l])]=some (.nx [.fz X,.fz Y,.fz (.tup [.int a,.int b,.bl l])]):=by
 unfold smB
 walk_at "eh"
theorem b7r(LP:SF)(GE:D→D→Option D)(X:List D)(o2:Option D)(h:LP [.fz (.lst X),.fz (.lst X),.no]=some (.nx [.fz (.lst X),.fz (.lst X),un o2]))(g:GE (.lst X) (.lst X)=some (.bl true)):fD 3 2 (g0 (n8 (S7 (B4 (bZ (a0g 0 "list"))) (bZ (eB (u6 true) (B5 v5 0) (B5 v5 1)))) (j0 (eC (.bl false))) r9) (g0 LP (j0 (a3a GE 0 1)))) [.lst X,.lst X]=some (.ret (.bl true)):=by
 cases o2<;>simp only[un]at h<;>walk_at "eh"
theorem b4q(S:List Sp4)(mf:Nat→Int)(σ:List Nat):Q8 [.lst (σ.map (E6 S mf)),.lst (σ.map (E6 S mf))]=some (.ret (.bl true)):=by
 obtain⟨e',f,o2,rfl⟩:=a0j (b:=h7 2) (body:=smB D1) (E6 S mf) (fun pre e=>∃o2:Option D,e=[.fz (.lst (σ.map (E6 S mf))),.fz (.lst (σ.map (E6 S mf))),un o2]) σ [.fz (.lst (σ.map (E6 S mf))),.fz (.lst (σ.map (E6 S mf))),.no] ⟨none,rfl⟩ (by
  rintro pre k post e hq ⟨o2,rfl⟩
  have hb:h7 2 (E6 S mf k) [.fz (.lst (σ.map (E6 S mf))),.fz (.lst (σ.map (E6 S mf))),un o2]=some [.fz (.lst (σ.map (E6 S mf))),.fz (.lst (σ.map (E6 S mf))),.fz (E6 S mf k)]:=by cases o2<;>rfl
  rw[hb,C4]
  exact⟨_,(congrArg K5 (b7q D1 _ _ _ _ _ (a6O _) (a6O _))).trans rfl,some (E6 S mf k),rfl⟩)
 refine b7r _ (K3 false) _ o2 f (a2m false ?_ ?_ rfl)
 ·simp only[j6]
  exact a2Y fun x _=>rfl
 ·have:=a5o (f:=E6 S mf) (l:=σ) (n:=3) (fun x _=>by unfold E6;simp[Q5,M5])
  simp only[Q5]
  omega
theorem b0w(s:Str)(k:Int):L7 [.exv "BadPlan" "why" (.tup [.str s,.int k])]=some (.ret (.tup [.str s,.int k])):=by
 unfold L7 a4n
 rfl
theorem b5U(TR:SF)(a b c r:D)(s4:Sl)(h:TR [.fz a,.fz b,.fz c,.fz .non,.no]=some (.nx [.fz a,.fz b,.fz c,.fz r,s4])):fD 5 3 (g0 (m9 3 (eC .non)) (g0 TR (Z1 3))) [a,b,c]=some (.ret r):=by
 walk_at "eh"
theorem b7s(CP TO:List D→Option R1)(XO:Str→Option Bool)(a b c:D)(A:List D)(h:CP [a,b,c]=some (.own A)):a4a CP (aC (eV 0) (aC (eV 1) (aC (eV 2) aN))) (hAs 4 XO (K0 3 TO (aC (eV 4) aN)) hN) [.fz a,.fz b,.fz c,.fz .non,.no]=some (.nx [.fz a,.fz b,.fz c,.fz .non,.no]):=by
 show(match CP [a,b,c]with | some (.ret _)=>_ | some (.own _)=>some (RS.nx [.fz a,.fz b,.fz c,.fz .non,.no]) | some (.ex c)=>_ | _=>none)=_
 rw[h]
theorem b7t(CP TO:List D→Option R1)(XO:Str→Option Bool)(a b c r:D)(x:XN)(h:CP [a,b,c]=some (.ex x))(hx:XO x.nm=some true)(ht:TO [x.d]=some (.ret r)):a4a CP (aC (eV 0) (aC (eV 1) (aC (eV 2) aN))) (hAs 4 XO (K0 3 TO (aC (eV 4) aN)) hN) [.fz a,.fz b,.fz c,.fz .non,.no]=some (.nx [.fz a,.fz b,.fz c,.fz r,.no]):=by
 show(match CP [a,b,c]with | some (.ret _)=>_ | some (.own _)=>_ | some (.ex y)=>hAs 4 XO (K0 3 TO (aC (eV 4) aN)) hN y [.fz a,.fz b,.fz c,.fz .non,.no] | _=>none)=_
 rw[h]
 show(match XO x.nm with | some true=>_ | some false=>_ | none=>_)=_
 rw[hx]
 show a5U 4 (a1d 3 (TO [x.d]) [.fz a,.fz b,.fz c,.fz .non,.fz x.d])=_
 rw[ht]
 rfl
theorem b5V(W H:Int)(ws:List W3)(hw:ws.length≤1000)(P:Pl)(hs:psz P≤1000):Y3 [.tup [.int W,.int H],.lst (ws.map w3),pD P]=some (.ret (T3 ws (r8 ⟨0,0,W,H⟩ P))):=by
 rcases b2C ws (r8 ⟨0,0,W,H⟩ P)with e | ⟨s,k,e⟩
 ·rw[e]
  exact b5U _ _ _ _ _ _ (b7s A2 L7 K8 _ _ _ _ (a1Z W H ws hw P hs e))
 ·rw[e]
  exact b5U _ _ _ _ _ _ (b7t A2 L7 K8 _ _ _ _ (.v "BadPlan" "why" (.tup [.str s,.int k])) (a6Z W H ws hw P hs s k e) rfl (b0w s k))
noncomputable abbrev spB(GI GX GE:D→D→Option D)(ES:List D→Option R1):UF:=(L9 (uS (m9 4 (eB t8 (eV 2) (B5 v5 0)))) (L9 (uS (m9 5 (eB w4 (eB D4 (eV 2) (eC (.int 64))) (eB t8 (eV 2) (eC (.int 64)))))) (L9 (uIf (bZ (eB GI (t5 k8 0 (eV 4)) (eC .non))) (L9 (a3i 1 (eV 4) (h9 ES (aC (t5 k8 1 (eV 4)) (aC (eV 5) (aC (eV 3) aN))))) a8R) uNx) (L9 (uS (m9 6 (t5 k8 0 (eV 4)))) (L9 (uS (m9 7 (eB d6 (eV 6) (eC (.int 0))))) (L9 (uS (m9 8 (eB t8 (eB D4 (eV 5) (eC (.int 7))) (eB V9 (eC (.int 10)) (eC (.int 41)))))) (L9 (uS (m9 9 (eB GX (eT (aC (eB d6 (eV 6) (eC (.int 1))) (aC (eC (.int 0)) (aC (eB w4 (eB d6 (eV 6) (eC (.int 1))) (eC (.int 1))) (aC (eB w9 (eB d6 (eV 6) (eC (.int 1))) (eC (.int 1))) (aC (eV 8) (aC (eU a0v (eV 8)) (aC (eB w4 (eB d6 (eV 6) (eC (.int 1))) (eV 8)) aN)))))))) (eB t8 (eV 5) (eC (.int 7)))))) (L9 (uS (n8 (bZ (eB GE (eB t8 (eV 5) (eC (.int 7))) (eC (.int 0)))) (m9 7 (eB d6 (eT (aC (eC (.str "up")) (aC (eC (.str "across")) aN))) (V7 (g1 a1E) (aC (eB (u6 false) (eV 7) (eC (.str "up"))) aN)))) r9)) (a3i 0 (eV 4) (eT (aC (eV 7) (aC (eV 9) (aC (eB d6 (eV 6) (eC (.int 2))) (aC (eB d6 (eV 6) (eC (.int 3))) aN))))))))))))))
theorem b7u(GI GX GE:D→D→Option D)(ES:List D→Option R1)(N E:List D)(c m k r:Int)(n:Nat)(x y:D)(h0:0<(N.length:Int))(ha:c%(N.length:Int)=k)(hr:c/64+c%64=r)(a1:atI N k=some .non)(g:GI .non .non=some (.bl true))(a2:atI E k=some x)(hE:ES [x,.int r,.int m]=some (.ret y))(ix:P9 E.length k=some n):fU 10 (spB GI GX GE ES) [.hd N,.hd E,.fz (.int c),.fz (.int m)]=some [.hd N,.hd (E.set n y),.fz (.int c),.fz (.int m),.fz (.int k),.fz (.int r),.no,.no,.no,.no]:=by
 unfold spB
 walk_at "eh"
theorem b7v(GI GX GE:D→D→Option D)(ES:List D→Option R1)(N E:List D)(c m k r t i j x:Int)(n:Nat)(w z:Bool)(pk:Int→Int→Int→Int→Int→Int→Int→Int)(h0:0<(N.length:Int))(ha:c%(N.length:Int)=k)(hr:c/64+c%64=r)(a1:atI N k=some (.tup [.str (wS w),.int t,.int i,.int j]))(g:GI (.tup [.str (wS w),.int t,.int i,.int j]) .non=some (.bl false))(hx:r%7=x)(hG:∀a b c d e f g:Int,GX (.tup [.int a,.int b,.int c,.int d,.int e,.int f,.int g]) (.int x)=some (.int (pk a b c d e f g)))(he:GE (.int x) (.int 0)=some (.bl z))(ix:P9 N.length k=some n)(hp:a00 10 41)(hq:(0:Int)<10 ^ (41:Int).toNat):∃(w':Bool) (t':Int) (rr:DE),fU 10 (spB GI GX GE ES) [.hd N,.hd E,.fz (.int c),.fz (.int m)]=some (.hd (N.set n (.tup [.str (wS w'),.int t',.int i,.int j])) :: .hd E :: .fz (.int c) :: .fz (.int m)::rr):=by
 have s1:wS true = "up" := rfl
 have s0:wS false = "across" := rfl
 refine⟨xor w z,pk t 0 (t+1) (t-1) (r/7%10 ^ (41:Int).toNat) (-(r/7%10 ^ (41:Int).toNat)) (t+r/7%10 ^ (41:Int).toNat),?_⟩
 unfold spB
 have b1:(xor true true)=false:=rfl
 have b2:(xor true false)=true:=rfl
 have b3:(xor false true)=true:=rfl
 have b4:(xor false false)=false:=rfl
 refine⟨[.fz (.int k),.fz (.int r),.fz (.tup [.str (wS w),.int t,.int i,.int j]),.fz (.str (wS (xor w z))),.fz (.int (r/7%10 ^ (41:Int).toNat)),.fz (.int (pk t 0 (t+1) (t-1) (r/7%10 ^ (41:Int).toNat) (-(r/7%10 ^ (41:Int).toNat)) (t+r/7%10 ^ (41:Int).toNat)))],?_⟩
 cases w<;>cases z<;>simp only[s0,s1]at a1 g<;>walk_at "eh"
theorem b0x{n:Nat}{T:Tr}{N:List D}(I:TJ n T N)(h0:0<n)(L:List En)(hL:L.length=n)(c m:Int):∃(T':Tr) (N':List D) (L':List En) (r:DE),TJ n T' N'∧L'.length=n∧I0 [.hd N,.hd (L.map eD),.fz (.int c),.fz (.int m)]=some (.hd N' :: .hd (L'.map eD) :: .fz (.int c) :: .fz (.int m)::r):=by
 obtain⟨k,hk⟩:∃k:Nat,c%(N.length:Int)=(k:Int):=⟨(c%(N.length:Int)).toNat,(Int.toNat_of_nonneg (Int.emod_nonneg _ (by rw[I.lN];omega))).symm⟩
 have kn:k<n:=by
  have:=Int.emod_lt_of_pos c (b:=(N.length:Int)) (by rw[I.lN];omega)
  rw[hk,I.lN]at this
  omega
 have hN:=I.lN
 have p0:0<(N.length:Int):=by rw[hN];omega
 rcases I.at kn with e | ⟨w,t,i,j,e⟩
 ·have a1:atI N (k:Int)=some .non:=by
   rw[a84 (by omega)]
   rw[List.getElem?_eq_getElem (by omega)]at e
   exact e
  have a2:=b0s eD (L:=L) (k:=k) (by omega)
  obtain⟨e',he⟩:=a5L L[k] (c/64+c%64) m
  refine⟨T,N,L.set k e',[.fz (.int k),.fz (.int (c/64+c%64)),.no,.no,.no,.no],I,by rw[List.length_set];exact hL,?_⟩
  ·rw[List.map_set]
   exact b7u (J9 false) d6 (u6 false) E5 N (L.map eD) c m k _ k _ _ p0 hk rfl a1 rfl a2 he (a0k (by rw[List.length_map];omega))
 ·have a1:atI N (k:Int)=some (.tup [.str (wS w),.int t,.int (i:Int),.int (j:Int)]):=by
   rw[a84 (by omega)]
   rw[List.getElem?_eq_getElem (by omega)]at e
   exact e
  obtain⟨pk,hG⟩:=ix7 ((c/64+c%64)%7) (by omega) (by omega)
  obtain⟨w',t',rr,hh⟩:=b7v (J9 false) d6 (u6 false) E5 N (L.map eD) c m k _ t i j _ k w _ pk p0 hk rfl a1 rfl rfl hG (a7F ..) (a0k (by omega)) (by decide) (by decide)
  exact⟨T.rel k w' t',N.set k (nd w' t' i j),L,rr,I.rel e w' t',hL,hh⟩
theorem b6p(LO CE TR FI JO SM CP WY LF:List D→Option R1)(NS NP:NF)(LP:SF)(GE0 GE1:D→D→Option D)(ns:List Int)(w h c0 c1 c2:Int)(C A N0 N1 Wl E0 E1 O Q:List D)(s10:Sl)(p p2 dd:D)(k0:CE [.scr ns,.int 0]=some (.ret (.int c0)))(k1:CE [.scr ns,.int 1]=some (.ret (.int c1)))(k2:CE [.scr ns,.int 2]=some (.ret (.int c2)))(k4:LO [.int c0]=some (.ret (.int w)))(k5:LO [.int c1]=some (.ret (.int h)))
  (s1:NS [.fz (.scr ns),.fz (.tup [.int w,.int h]),.no,.no,.no,.no,.no,.no,.no,.no,.no,.no]=some (.ok C [.fz (.scr ns),.fz (.tup [.int w,.int h]),.no,.no,.no,.no,.no,.no,.no,.no,.no,.no])) (tr:TR [.tup [.int w,.int h],.lst C]=some (.owz [A,N0])) (fi:FI [.lst A,.lst N0,.int c2]=some (.owz [Wl,E0,O])) (n1:noLs Wl=true) (n2:noLs E0=true) (n3:noLs O=true) (np:NP [.fz (.scr ns),.fz (.tup [.int w,.int h]),.ow A,.ow N0,.ow Wl,.ow E0,.ow O,.no,.no,.no,.no,.no]=some (.ok Q [.fz (.scr ns),.fz (.tup [.int w,.int h]),.ow A,.ow N0,.ow Wl,.ow E0,.ow O,.no,.no,.no,.no,.no])) (jo:JO [.lst N0,.lst E0]=some (.ret p)) (np1:noL p=true) (hW:Wl.length≤sizeLine) (cp:CP [.tup [.int w,.int h],.lst Wl,p]=some (.own Q)) (sm:SM [.lst Q,.lst Q]=some (.ret (.bl true)))
  (l1:LP [.fz (.scr ns),.fz (.tup [.int w,.int h]),.ow A,.ow N0,.ow Wl,.ow E0,.ow O,.fz (.lst Q),.fz p,.fz (.lst Wl),.no,.no]=some (.nx [.fz (.scr ns),.fz (.tup [.int w,.int h]),.ow A,.ow N1,.ow Wl,.ow E1,.ow O,.fz (.lst Q),.fz p,.fz (.lst Wl),s10,.no])) (jo2:JO [.lst N1,.lst E1]=some (.ret p2)) (np2:noL p2=true) (wy:WY [.tup [.int w,.int h],.lst Wl,p2]=some (.ret dd)) (lf:LF [.tup [.int w,.int h],.lst Wl,p2]=some (.ret dd)) (ge1:GE1 dd dd=some (.bl false)) (ge0:GE0 (.lst Wl) (.lst Wl)=some (.bl true)) :
  fD 12 1 (g0 (m9 1 (eT (aC (h9 LO (aC (h9 CE (aC (eV 0) (aC (eC (.int 0)) aN))) aN)) (aC (h9 LO (aC (h9 CE (aC (eV 0) (aC (eC (.int 1)) aN))) aN)) aN)))) (g0 (a2M 2 3 TR (aC (eV 1) (aC (zN NS) aN))) (g0 (a1h 4 5 6 FI (aC (eV 2) (aC (eV 3) (aC (h9 CE (aC (eV 0) (aC (eC (.int 2)) aN))) aN)))) (g0 (w8 7 NP) (g0 (m9 8 (a1I (h9 JO (aC (eV 3) (aC (eV 5) aN))))) (g0 (w8 9 (nCV a1z 4)) (g0 (n8 (B4 (bZ (h9 SM (aC (Z0 CP (aC (eV 1) (aC (eV 9) (aC (eV 8) aN)))) (aC (eV 7) aN))))) (j0 (eC (.bl false))) r9) (g0 LP (g0 (m9 11 (a1I (h9 JO (aC (eV 3) (aC (eV 5) aN))))) (g0 (n8 (bZ (eB GE1 (h9 WY (aC (eV 1) (aC (eV 9) (aC (eV 11) aN)))) (h9 LF (aC (eV 1) (aC (eV 4) (aC (eV 11) aN)))))) (j0 (eC (.bl false))) r9) (j0 (a2g (h9 SM (aC (Z0 CP (aC (eV 1) (aC (eV 9) (aC (eV 8) aN)))) (aC (eV 7) aN))) (a3a GE0 9 4))))))))))))) [.scr ns]=some (.ret (.bl true)):=by
 walk_at "eh"
noncomputable abbrev spC(SP:DE→Option DE)(CE:List D→Option R1):SF:=(a2q 4 [0,1] SP (auM 3 (auM 5 (auE (h9 CE (aC (eV 0) (aC (eB w4 (eC (.int 4)) (eV 10)) aN))) (auE (B5 v5 4) auN)))))
theorem b7w(SP:DE→Option DE)(CE:List D→Option R1)(ns:List Int)(w h k c:Int)(A N E W N1 E1:List D)(s6 s7 s8 s9:Sl)(r:DE)(hc:CE [.scr ns,.int (4+k)]=some (.ret (.int c)))(hs:SP [.hd N,.hd E,.fz (.int c),.fz (.int (W.length:Int))]=some (.hd N1 :: .hd E1 :: .fz (.int c) :: .fz (.int (W.length:Int))::r)):spC SP CE [.fz (.scr ns),.fz (.tup [.int w,.int h]),.ow A,.ow N,.ow W,.ow E,s6,s7,s8,s9,.fz (.int k),.no]=some (.nx [.fz (.scr ns),.fz (.tup [.int w,.int h]),.ow A,.ow N1,.ow W,.ow E1,s6,s7,s8,s9,.fz (.int k),.no]):=by
 unfold spC
 walk_at "eh"
theorem b5X(ns:List Int)(w h:Int)(A W:List D)(s6 s7 s8 s9:Sl)(n:Nat)(h0:0<n)(T:Tr)(N:List D)(I:TJ n T N)(L:List En)(hL:L.length=n):∃(T':Tr) (N':List D) (L':List En) (o:Option D),TJ n T' N'∧L'.length=n∧(R7 W1 (aC (eB w4 (eC (.int 1)) (eB t8 (h9 A6 (aC (eV 0) (aC (eC (.int 3)) aN))) (eC (.int 2)))) aN) (h7 10) (a2q 4 [0,1] I0 (auM 3 (auM 5 (auE (h9 A6 (aC (eV 0) (aC (eB w4 (eC (.int 4)) (eV 10)) aN))) (auE (B5 v5 4) auN)))))) [.fz (.scr ns),.fz (.tup [.int w,.int h]),.ow A,.ow N,.ow W,.ow (L.map eD),s6,s7,s8,s9,.no,.no]=some (.nx [.fz (.scr ns),.fz (.tup [.int w,.int h]),.ow A,.ow N',.ow W,.ow (L'.map eD),s6,s7,s8,s9,un o,.no]):=by
 obtain⟨m,hm,e0⟩:∃m:Nat,m≤2∧(aC (eB w4 (eC (.int 1)) (eB t8 (h9 A6 (aC (eV 0) (aC (eC (.int 3)) aN))) (eC (.int 2)))) aN) [.fz (.scr ns),.fz (.tup [.int w,.int h]),.ow A,.ow N,.ow W,.ow (L.map eD),s6,s7,s8,s9,.no,.no]=some (.ok [.int (m:Int)] [.fz (.scr ns),.fz (.tup [.int w,.int h]),.ow A,.ow N,.ow W,.ow (L.map eD),s6,s7,s8,s9,.no,.no]):=by
  have ce:A6 [.scr ns,.int 3]=some (.ret (.int (O6 ns 3))):=a1k (by omega)
  refine⟨(1+O6 ns 3%2).toNat,by omega,?_⟩
  rw[Int.toNat_of_nonneg (by omega)]
  generalize A6=CE at *
  walk_at "eh"
 obtain⟨e',f,T',N',L',o,I',hL',rfl⟩:=a0j (b:=h7 10) (body:=spC I0 A6) (fun(k:Nat)=>D.int (k:Int)) (fun _ e=>∃(T':Tr) (N':List D) (L':List En) (o:Option D),TJ n T' N'∧L'.length=n∧e=[.fz (.scr ns),.fz (.tup [.int w,.int h]),.ow A,.ow N',.ow W,.ow (L'.map eD),s6,s7,s8,s9,un o,.no]) (List.range m) [.fz (.scr ns),.fz (.tup [.int w,.int h]),.ow A,.ow N,.ow W,.ow (L.map eD),s6,s7,s8,s9,.no,.no] ⟨T,N,L,none,I,hL,rfl⟩ (by
  rintro pre k post e hq ⟨T',N',L',o,I',hL',rfl⟩
  have hb:h7 10 (.int (k:Int)) [.fz (.scr ns),.fz (.tup [.int w,.int h]),.ow A,.ow N',.ow W,.ow (L'.map eD),s6,s7,s8,s9,un o,.no]=some [.fz (.scr ns),.fz (.tup [.int w,.int h]),.ow A,.ow N',.ow W,.ow (L'.map eD),s6,s7,s8,s9,.fz (.int (k:Int)),.no]:=by cases o<;>rfl
  rw[hb,C4]
  obtain⟨T2,N2,L2,r,I2,hL2,hh⟩:=b0x I' h0 L' hL' (O6 ns (4+(k:Int))) (W.length:Int)
  exact⟨_,(congrArg K5 (b7w I0 A6 ns w h k _ _ _ _ _ _ _ s6 s7 s8 s9 r (a1k (by omega)) hh)).trans rfl,T2,N2,L2,some (.int (k:Int)),I2,hL2,rfl⟩)
 refine⟨T',N',L',o,I',hL',?_⟩
 refine(Y4 e0 (a0K (by omega))).trans ?_
 rw[a3q]
 exact f
theorem b7x(A E:List D)(k a b c d i:Int)(l:Bool)(h1:atI A k=some (.tup [.int a,.int b,.int c,.int d]))(h2:atI E k=some (.tup [.str "ware",.int i,.bl l])):(eT (aC (eB d6 (t5 k8 1 (eV 0)) (eC (.int 0))) (aC (eB d6 (t5 k8 1 (eV 0)) (eC (.int 1))) (aC (eB d6 (t5 k8 2 (eV 0)) (eC (.int 2))) aN)))) [.fz (.int k),.hd A,.hd E]=some (.ok (.tup [.int a,.int b,.bl l]) [.fz (.int k),.hd A,.hd E]):=by
 walk_at "eh"
theorem b6q(ns:List Int)(w h:Int)(S:List Sp4)(σ:List Nat)(mf:Nat→Int)(ws:List W3)(L:List En)(F:Fil S σ mf ws L)(hs:σ.length≤1000)(N0:List D)(hσ:∀k∈σ,k<S.length):(a0z 6 1 [2,5] (h7 0) a0S (eT (aC (eB d6 (t5 k8 1 (eV 0)) (eC (.int 0))) (aC (eB d6 (t5 k8 1 (eV 0)) (eC (.int 1))) (aC (eB d6 (t5 k8 2 (eV 0)) (eC (.int 2))) aN))))) [.fz (.scr ns),.fz (.tup [.int w,.int h]),.ow (S.map sD),.ow N0,.ow (ws.map w3),.ow (L.map eD),.ow (oL σ),.no,.no,.no,.no,.no]=some (.ok (σ.map (E6 S mf)) [.fz (.scr ns),.fz (.tup [.int w,.int h]),.ow (S.map sD),.ow N0,.ow (ws.map w3),.ow (L.map eD),.ow (oL σ),.no,.no,.no,.no,.no]):=by
 show C3 (h7 0) a0S _ [.no,.hd (S.map sD),.hd (L.map eD)] _ (oL σ) []=_
 rw[a0E (fun(k:Nat)=>D.int (k:Int)) (E6 S mf) (fun _=>true) σ [] (by show 0+_≤2 ^ 24;omega) (fun k mk=>by
  have hk:=hσ k mk
  obtain⟨j,hj⟩:=List.getElem?_of_mem mk
  have e2:=F.i j k hj
  have lk:k<L.length:=by rw[F.l];exact hk
  have e3:L[k]=.wr (j:Int) (Y6 (mf k)):=by rw[List.getElem?_eq_getElem lk]at e2;exact Option.some.inj e2
  have a2:=b0s eD (L:=L) (k:=k) lk
  rw[e3]at a2
  refine⟨[.fz (.int (k:Int)),.hd (S.map sD),.hd (L.map eD)],[.fz (.int (k:Int)),.hd (S.map sD),.hd (L.map eD)],rfl,rfl,fun _=>⟨[.fz (.int (k:Int)),.hd (S.map sD),.hd (L.map eD)],(b7x (S.map sD) (L.map eD) (k:Int) _ _ _ _ _ _ (b1M hk) a2).trans ?_⟩⟩
  unfold E6
  rw[List.getD_eq_getElem?_getD,List.getElem?_eq_getElem hk]
  rfl)]
 rw[List.filter_eq_self.mpr (fun _ _=>rfl)]
 rfl
theorem b4r(ws:List W3)(l:List Np):a08 true (T3 ws l) (T3 ws l)=some (.bl false):=by
 rcases b2C ws l with e | ⟨s,k,e⟩<;>rw[e]
 ·rfl
 ·show K3 true (.tup [.str s,.int k]) (.tup [.str s,.int k])=_
  exact a2m true rfl (by simp[Q5,M5]) rfl
theorem b6r(ws:List W3):a08 false (.lst (ws.map w3)) (.lst (ws.map w3))=some (.bl true):=a2m false (by
  simp only[j6]
  exact a2Y fun x _=>rfl) (by
  have:=a5o (f:=w3) (l:=ws) (n:=3) (fun x _=>by unfold w3;simp[Q5,M5])
  simp only[Q5]
  omega) rfl
theorem main(ns:List Int)(hl:ns.length≤63)(hb:∀m∈ns,Builtin.Int.intBits m≤2 ^ 20):b2t [.scr ns]=some (.ret (.bl true)):=by
 obtain⟨w,w0,w1,hw⟩:=a7X (O6 ns 0)
 obtain⟨h,h0,h1,hh⟩:=a7X (O6 ns 1)
 obtain⟨cs,hcs⟩:∃cs,cs=(ns.drop 6).take 50:=⟨_,rfl⟩
 have lcs:cs.length≤50:=by rw[hcs,List.length_take];omega
 have hc:a4Q (ns.map D.int) (some 6) (some 56)=cs.map D.int:=by
  rw[b31 (by omega) (by omega),show(6:Int).toNat=6 by omega,show((56:Int)-6).toNat=50 by omega,hcs,List.map_take,List.map_drop]
 obtain⟨T,S,N0,U,I,tr⟩:=b4g w h cs (by omega)
 have leS:=I.le
 have J:=I.tj
 have p0:0<S.length:=by
  rw[← I.ln]
  cases T<;>simp[Tr.ids]
 have h64:∀K:List Nat,K.Nodup→(∀k∈K,N0[k]? = some .non)→K.length<64:=by
  intro K nK hK
  have le:=nodup_le (m:=T.lvs) nK fun k m=>by
   have kl:k<S.length:=by
    have:=(List.getElem?_eq_some_iff.mp (hK k m)).1
    rw[I.lN]at this
    exact this
   exact a4t T I.gd k (a4p I.ndp (by rw[I.ln];exact I.lt) (by rw[I.ln];exact kl)) (hK k m)
  have:=a2z T
  rw[I.ln]at this
  omega
 obtain⟨mf,ws,L,σ,F,nσ,hσ,lσ,fi⟩:=a7i S N0 I.lN (by omega) h64 (O6 ns 2)
 have wl:ws.length=σ.length:=by rw[F.w,List.length_map]
 have hσl:∀k∈σ,k∈T.lvs:=fun k m=>a4t T I.gd k (a4p I.ndp (by rw[I.ln];exact I.lt) (by rw[I.ln];exact(hσ k m).1)) (hσ k m).2
 have hSl:∀k∈T.lvs,k<S.length:=fun k m=>I.lt k (A4 m)
 obtain⟨f,hf⟩:∃f:Nat→En,f=fun k=>L.getD k .wa:=⟨_,rfl⟩
 have hfk:∀k,k<S.length→L[k]? = some (f k):=fun k hk=>by rw[hf];show _=some (L.getD k .wa);rw[List.getD_eq_getElem?_getD,List.getElem?_eq_getElem (by rw[F.l];exact hk)];rfl
 have jo:=a5x J (by omega) L F.l f hfk
 have sz:psz (T.pl f)≤1000:=by rw[a4r,J.ln];omega
 have rb:=b0v F hfk T w h I.gd I.ndp hσl hSl
 have cp:=a1Z w h ws (by omega) (T.pl f) sz rb
 rw[b1S F hfk T w h I.gd hσl]at cp
 obtain⟨T1,N1,L1,o10,J1,hL1,l1⟩:=b5X ns w h (S.map sD) (ws.map w3) (.ow (oL σ)) (.fz (.lst (σ.map (E6 S mf)))) (.fz (pD (T.pl f))) (.fz (.lst (ws.map w3))) S.length p0 T N0 J L F.l
 obtain⟨f1,hf1⟩:∃f1:Nat→En,f1=fun k=>L1.getD k .wa:=⟨_,rfl⟩
 have jo2:=a5x J1 (by omega) L1 hL1 f1 (fun k hk=>by rw[hf1];show _=some (L1.getD k .wa);rw[List.getD_eq_getElem?_getD,List.getElem?_eq_getElem (by omega)];rfl)
 have sz2:psz (T1.pl f1)≤1000:=by rw[a4r,J1.ln];omega
 refine b6p M1 A6 U5 O3 L5 Q8 A2 Y3 Q7 _ _ _ (a08 false) (a08 true) ns w h (O6 ns 0) (O6 ns 1) (O6 ns 2) (cs.map D.int) (S.map sD) N0 N1 (ws.map w3) (L.map eD) (L1.map eD) (oL σ) (σ.map (E6 S mf)) (un o10) (pD (T.pl f)) (pD (T1.pl f1)) _ (a1k (by omega)) (a1k (by omega)) (a1k (by omega)) hw hh ?_ tr fi (a1Q w3 (fun _=>rfl) _) (a1Q eD (fun e=>by cases e<;>rfl) _) (a1Q _ (fun _=>rfl) _) (b6q ns w h S σ mf ws L F (by omega) N0 (fun k m=>(hσ k m).1)) jo (a4s _) (by rw[List.length_map];show _≤2 ^ 24;omega) cp (b4q S mf σ) l1 jo2 (a4s _) (b5V w h ws (by omega) (T1.pl f1) sz2) (b0r w h ws (by omega) (T1.pl f1) sz2) (b4r ws _) (b6r ws)
 rw[← hc];rfl
def a4v(K:PySem.W.Frag)(c:Str→Addr):Sp:=fun vs H Q _=>∃a,∃ns:List Int,vs=[.ref a]∧Scr K H a (ns.map V.int)∧(∀m∈ns,Builtin.Int.intBits m≤2 ^ 20)∧ns.length≤63∧∀H',Q (.bl true) H'
theorem b5Y{TB:List (Addr×Str)}{f:Addr}{fd:FuncData}(F:Fun K "law" "law" U0 f fd)(T:Txt K mg c)(G_l_long:Own P w K mg base 3 "_law_long" ["_law_cell_here"] (i9 K c M1))(G_l_cell:Own P w K mg base 3 "_law_cell" ["_law_script","_law_k"] (i9 K c A6))(G_l_tree:Own P w K mg base 7 "_law_tree" ["_law_box","_law_cells"] (i9 K c U5))(G_l_filled:Own P w K mg base 8 "_law_filled" ["_law_spots","_law_nodes","_law_cell_here"] (spT TB (i9 K c O3)))(G_l_joined:Own P w K mg base 3 "_law_joined" ["_law_nodes","_law_ends"] (i9 K c L5))(G_l_same:Own P w K mg base 5 "_law_same" ["_law_found","_law_due"] (i9 K c Q8))(G_cut_places:Own P w K mg base 9 "cut_places" ["box","wares","plan"] (i9 K c A2))(G_l_spoilt:Own P w K mg base 5 "_law_spoilt" ["_law_nodes","_law_ends","_law_cell_here","_law_many"] (spU K c 4 [0,1] I0))(G_l_why:Own P w K mg base 11 "_law_why" ["_law_box","_law_wares","_law_plan"] (i9 K c Y3))(G_l_fault:Own P w K mg base 5 "_law_fault" ["_law_box","_law_wares","_law_plan"] (i9 K c Q7)):FnOk P w K mg base (y8 P w) 13 f fd ["_law_script"] (spT TB (a4v K c)) :=
 (b4f F T G_l_long G_l_cell G_l_tree G_l_filled G_l_joined G_l_same G_cut_places G_l_spoilt G_l_why G_l_fault ).imp fun vs H Q E ⟨hT,a,ns,e,h,hb,hl,q⟩=>⟨hT,b3c e h q (main ns hl hb)⟩
def cOf(l:List (Str×Addr))(x:Str):Addr:=(l.lookup x).getD 0
noncomputable abbrev cL(c0 c1 c2 c3 c4 c5 c6 c7 c8 c9 c10 c11 c12 c13 c14 c15 c16 c17:Addr):=cOf [("BadPacking",c0),("BadPlan",c1),("BadSide",c2),("BadTurn",c3),("CrateError",c4),("Full",c5),("Hangs",c6),("NoDeed",c7),("NoDrawing",c8),("NoPicker",c9),("NoSheet",c10),("NoText",c11),("NoWare",c12),("NoWeighing",c13),("NothingDone",c14),("Ring",c15),("TooMany",c16),("TooWide",c17)]
theorem all_mk{w:World}{K:PySem.W.Frag}{h:Heap}{mg:Str→Option Value}{fa:Addr}(X:K.In h)(G:h.Ns mainGlobals mg)(hfa:mg "law" = some (.ref fa)){q:Program}{loose:List Str}{mean:ExcName→Option Value}{mb:Str→Option Value}(Tp:PyProof.Rows.Top q loose mean mg mb h)
  {c0 c1 c2 c3 c4 c5 c6 c7 c8 c9 c10 c11 c12 c13 c14 c15 c16 c17:Addr} {f_1:Addr} {oc_1 kV_1 dc_1 pm_1 cd_1 ct_1:Value} {od_1 an_1:Option Addr} {sl_1:Array (Option Value)} {f_2:Addr} {oc_2 kV_2 dc_2 pm_2 cd_2 ct_2:Value} {od_2 an_2:Option Addr} {sl_2:Array (Option Value)} {f_3:Addr} {oc_3 kV_3 dc_3 pm_3 cd_3 ct_3:Value} {od_3 an_3:Option Addr} {sl_3:Array (Option Value)} {f_4:Addr} {oc_4 kV_4 dc_4 pm_4 cd_4 ct_4:Value} {od_4 an_4:Option Addr} {sl_4:Array (Option Value)} {f_5:Addr} {oc_5 kV_5 dc_5 pm_5 cd_5 ct_5:Value} {od_5 an_5:Option Addr} {sl_5:Array (Option Value)} {f_6:Addr} {oc_6 kV_6 dc_6 pm_6 cd_6 ct_6:Value} {od_6 an_6:Option Addr} {sl_6:Array (Option Value)} {f_7:Addr} {oc_7 kV_7 dc_7 pm_7 cd_7 ct_7:Value} {od_7 an_7:Option Addr} {sl_7:Array (Option Value)} {f_8:Addr} {oc_8 kV_8 dc_8 pm_8 cd_8 ct_8:Value} {od_8 an_8:Option Addr} {sl_8:Array (Option Value)} {f_9:Addr} {oc_9 kV_9 dc_9 pm_9 cd_9 ct_9:Value} {od_9 an_9:Option Addr} {sl_9:Array (Option Value)} {f_10:Addr} {oc_10 kV_10 dc_10 pm_10 cd_10 ct_10:Value} {od_10 an_10:Option Addr} {sl_10:Array (Option Value)} {f_11:Addr} {oc_11 kV_11 dc_11 pm_11 cd_11 ct_11:Value} {od_11 an_11:Option Addr} {sl_11:Array (Option Value)} {f_12:Addr} {oc_12 kV_12 dc_12 pm_12 cd_12 ct_12:Value} {od_12 an_12:Option Addr} {sl_12:Array (Option Value)} {f_13:Addr} {oc_13 kV_13 dc_13 pm_13 cd_13 ct_13:Value} {od_13 an_13:Option Addr} {sl_13:Array (Option Value)} {f_14:Addr} {oc_14 kV_14 dc_14 pm_14 cd_14 ct_14:Value} {od_14 an_14:Option Addr} {sl_14:Array (Option Value)} {f_15:Addr} {oc_15 kV_15 dc_15 pm_15 cd_15 ct_15:Value} {od_15 an_15:Option Addr} {sl_15:Array (Option Value)} {f_16:Addr} {oc_16 kV_16 dc_16 pm_16 cd_16 ct_16:Value} {od_16 an_16:Option Addr} {sl_16:Array (Option Value)} {f_17:Addr} {oc_17 kV_17 dc_17 pm_17 cd_17 ct_17:Value} {od_17 an_17:Option Addr} {sl_17:Array (Option Value)} {f_18:Addr} {oc_18 kV_18 dc_18 pm_18 cd_18 ct_18:Value} {od_18 an_18:Option Addr} {sl_18:Array (Option Value)} {f_19:Addr} {oc_19 kV_19 dc_19 pm_19 cd_19 ct_19:Value} {od_19 an_19:Option Addr} {sl_19:Array (Option Value)} {f_20:Addr} {oc_20 kV_20 dc_20 pm_20 cd_20 ct_20:Value} {od_20 an_20:Option Addr} {sl_20:Array (Option Value)} {f_21:Addr} {oc_21 kV_21 dc_21 pm_21 cd_21 ct_21:Value} {od_21 an_21:Option Addr} {sl_21:Array (Option Value)} {f_22:Addr} {oc_22 kV_22 dc_22 pm_22 cd_22 ct_22:Value} {od_22 an_22:Option Addr} {sl_22:Array (Option Value)} {f_23:Addr} {oc_23 kV_23 dc_23 pm_23 cd_23 ct_23:Value} {od_23 an_23:Option Addr} {sl_23:Array (Option Value)} {f_24:Addr} {oc_24 kV_24 dc_24 pm_24 cd_24 ct_24:Value} {od_24 an_24:Option Addr} {sl_24:Array (Option Value)} {f_25:Addr} {oc_25 kV_25 dc_25 pm_25 cd_25 ct_25:Value} {od_25 an_25:Option Addr} {sl_25:Array (Option Value)} {f_26:Addr} {oc_26 kV_26 dc_26 pm_26 cd_26 ct_26:Value} {od_26 an_26:Option Addr} {sl_26:Array (Option Value)} {f_27:Addr} {oc_27 kV_27 dc_27 pm_27 cd_27 ct_27:Value} {od_27 an_27:Option Addr} {sl_27:Array (Option Value)} {f_0:Addr} {oc_0 kV_0 dc_0 pm_0 cd_0 ct_0:Value} {od_0 an_0:Option Addr} {sl_0:Array (Option Value)} {cc_l_filled Pt_l_filled:Addr} {oq_l_filled:Value} {oe_l_filled:Option Addr} {vs_l_filled:Array Value} {sm_l_filled:Array (Option Value)}
  (a_1:PySem.W.nsIn K mainGlobals "is_number_of" = some (some (.ref f_1)))
  (l_1:K.lookup f_1=some ⟨oc_1,od_1,.func (PySem.W.fnOf "is_number_of" "is_number_of" (m7 J7) (j7 J7) (d9 J7) .none kV_1 dc_1 pm_1 an_1 cd_1 ct_1),sl_1⟩)
  (c_1:PySem.W.codeIn K cd_1 "is_number_of" = true)
  (k_1:PySem.W.keepIn K (.ref f_1)=true)
  (a_2:PySem.W.nsIn K mainGlobals "sides_of" = some (some (.ref f_2)))
  (l_2:K.lookup f_2=some ⟨oc_2,od_2,.func (PySem.W.fnOf "sides_of" "sides_of" (m7 R8) (j7 R8) (d9 R8) .none kV_2 dc_2 pm_2 an_2 cd_2 ct_2),sl_2⟩)
  (c_2:PySem.W.codeIn K cd_2 "sides_of" = true)
  (k_2:PySem.W.keepIn K (.ref f_2)=true)
  (a_3:PySem.W.nsIn K mainGlobals "is_cut" = some (some (.ref f_3)))
  (l_3:K.lookup f_3=some ⟨oc_3,od_3,.func (PySem.W.fnOf "is_cut" "is_cut" (m7 X8) (j7 X8) (d9 X8) .none kV_3 dc_3 pm_3 an_3 cd_3 ct_3),sl_3⟩)
  (c_3:PySem.W.codeIn K cd_3 "is_cut" = true)
  (k_3:PySem.W.keepIn K (.ref f_3)=true)
  (a_4:PySem.W.nsIn K mainGlobals "cut_side" = some (some (.ref f_4)))
  (l_4:K.lookup f_4=some ⟨oc_4,od_4,.func (PySem.W.fnOf "cut_side" "cut_side" (m7 R9) (j7 R9) (d9 R9) .none kV_4 dc_4 pm_4 an_4 cd_4 ct_4),sl_4⟩)
  (c_4:PySem.W.codeIn K cd_4 "cut_side" = true)
  (k_4:PySem.W.keepIn K (.ref f_4)=true)
  (a_5:PySem.W.nsIn K mainGlobals "cut_spots" = some (some (.ref f_5)))
  (l_5:K.lookup f_5=some ⟨oc_5,od_5,.func (PySem.W.fnOf "cut_spots" "cut_spots" (m7 P5) (j7 P5) (d9 P5) .none kV_5 dc_5 pm_5 an_5 cd_5 ct_5),sl_5⟩)
  (c_5:PySem.W.codeIn K cd_5 "cut_spots" = true)
  (k_5:PySem.W.keepIn K (.ref f_5)=true)
  (a_6:PySem.W.nsIn K mainGlobals "nodes_of" = some (some (.ref f_6)))
  (l_6:K.lookup f_6=some ⟨oc_6,od_6,.func (PySem.W.fnOf "nodes_of" "nodes_of" (m7 S0) (j7 S0) (d9 S0) .none kV_6 dc_6 pm_6 an_6 cd_6 ct_6),sl_6⟩)
  (c_6:PySem.W.codeIn K cd_6 "nodes_of" = true)
  (k_6:PySem.W.keepIn K (.ref f_6)=true)
  (a_7:PySem.W.nsIn K mainGlobals "is_right_ware" = some (some (.ref f_7)))
  (l_7:K.lookup f_7=some ⟨oc_7,od_7,.func (PySem.W.fnOf "is_right_ware" "is_right_ware" (m7 G3) (j7 G3) (d9 G3) .none kV_7 dc_7 pm_7 an_7 cd_7 ct_7),sl_7⟩)
  (c_7:PySem.W.codeIn K cd_7 "is_right_ware" = true)
  (k_7:PySem.W.keepIn K (.ref f_7)=true)
  (a_8:PySem.W.nsIn K mainGlobals "plan_fault" = some (some (.ref f_8)))
  (l_8:K.lookup f_8=some ⟨oc_8,od_8,.func (PySem.W.fnOf "plan_fault" "plan_fault" (m7 N5) (j7 N5) (d9 N5) .none kV_8 dc_8 pm_8 an_8 cd_8 ct_8),sl_8⟩)
  (c_8:PySem.W.codeIn K cd_8 "plan_fault" = true)
  (k_8:PySem.W.keepIn K (.ref f_8)=true)
  (a_9:PySem.W.nsIn K mainGlobals "pieces_of" = some (some (.ref f_9)))
  (l_9:K.lookup f_9=some ⟨oc_9,od_9,.func (PySem.W.fnOf "pieces_of" "pieces_of" (m7 J2) (j7 J2) (d9 J2) .none kV_9 dc_9 pm_9 an_9 cd_9 ct_9),sl_9⟩)
  (c_9:PySem.W.codeIn K cd_9 "pieces_of" = true)
  (k_9:PySem.W.keepIn K (.ref f_9)=true)
  (a_10:PySem.W.nsIn K mainGlobals "cut_places" = some (some (.ref f_10)))
  (l_10:K.lookup f_10=some ⟨oc_10,od_10,.func (PySem.W.fnOf "cut_places" "cut_places" (m7 N6) (j7 N6) (d9 N6) .none kV_10 dc_10 pm_10 an_10 cd_10 ct_10),sl_10⟩)
  (c_10:PySem.W.codeIn K cd_10 "cut_places" = true)
  (k_10:PySem.W.keepIn K (.ref f_10)=true)
  (a_11:PySem.W.nsIn K mainGlobals "_law_whole" = some (some (.ref f_11)))
  (l_11:K.lookup f_11=some ⟨oc_11,od_11,.func (PySem.W.fnOf "_law_whole" "_law_whole" (m7 Q6) (j7 Q6) (d9 Q6) .none kV_11 dc_11 pm_11 an_11 cd_11 ct_11),sl_11⟩)
  (c_11:PySem.W.codeIn K cd_11 "_law_whole" = true)
  (k_11:PySem.W.keepIn K (.ref f_11)=true)
  (a_12:PySem.W.nsIn K mainGlobals "_law_cell" = some (some (.ref f_12)))
  (l_12:K.lookup f_12=some ⟨oc_12,od_12,.func (PySem.W.fnOf "_law_cell" "_law_cell" (m7 X9) (j7 X9) (d9 X9) .none kV_12 dc_12 pm_12 an_12 cd_12 ct_12),sl_12⟩)
  (c_12:PySem.W.codeIn K cd_12 "_law_cell" = true)
  (k_12:PySem.W.keepIn K (.ref f_12)=true)
  (a_13:PySem.W.nsIn K mainGlobals "_law_mix" = some (some (.ref f_13)))
  (l_13:K.lookup f_13=some ⟨oc_13,od_13,.func (PySem.W.fnOf "_law_mix" "_law_mix" (m7 a0m) (j7 a0m) (d9 a0m) .none kV_13 dc_13 pm_13 an_13 cd_13 ct_13),sl_13⟩)
  (c_13:PySem.W.codeIn K cd_13 "_law_mix" = true)
  (k_13:PySem.W.keepIn K (.ref f_13)=true)
  (a_14:PySem.W.nsIn K mainGlobals "_law_cut" = some (some (.ref f_14)))
  (l_14:K.lookup f_14=some ⟨oc_14,od_14,.func (PySem.W.fnOf "_law_cut" "_law_cut" (m7 a0n) (j7 a0n) (d9 a0n) .none kV_14 dc_14 pm_14 an_14 cd_14 ct_14),sl_14⟩)
  (c_14:PySem.W.codeIn K cd_14 "_law_cut" = true)
  (k_14:PySem.W.keepIn K (.ref f_14)=true)
  (a_15:PySem.W.nsIn K mainGlobals "_law_parts" = some (some (.ref f_15)))
  (l_15:K.lookup f_15=some ⟨oc_15,od_15,.func (PySem.W.fnOf "_law_parts" "_law_parts" (m7 V1) (j7 V1) (d9 V1) .none kV_15 dc_15 pm_15 an_15 cd_15 ct_15),sl_15⟩)
  (c_15:PySem.W.codeIn K cd_15 "_law_parts" = true)
  (k_15:PySem.W.keepIn K (.ref f_15)=true)
  (a_16:PySem.W.nsIn K mainGlobals "_law_tree" = some (some (.ref f_16)))
  (l_16:K.lookup f_16=some ⟨oc_16,od_16,.func (PySem.W.fnOf "_law_tree" "_law_tree" (m7 Y0) (j7 Y0) (d9 Y0) .none kV_16 dc_16 pm_16 an_16 cd_16 ct_16),sl_16⟩)
  (c_16:PySem.W.codeIn K cd_16 "_law_tree" = true)
  (k_16:PySem.W.keepIn K (.ref f_16)=true)
  (a_17:PySem.W.nsIn K mainGlobals "_law_joined" = some (some (.ref f_17)))
  (l_17:K.lookup f_17=some ⟨oc_17,od_17,.func (PySem.W.fnOf "_law_joined" "_law_joined" (m7 S3) (j7 S3) (d9 S3) .none kV_17 dc_17 pm_17 an_17 cd_17 ct_17),sl_17⟩)
  (c_17:PySem.W.codeIn K cd_17 "_law_joined" = true)
  (k_17:PySem.W.keepIn K (.ref f_17)=true)
  (a_18:PySem.W.nsIn K mainGlobals "_law_filled" = some (some (.ref f_18)))
  (l_18:K.lookup f_18=some ⟨oc_18,od_18,.func (PySem.W.fnOf "_law_filled" "_law_filled" (m7 E9) (j7 E9) (d9 E9) .none kV_18 dc_18 pm_18 an_18 cd_18 ct_18),sl_18⟩)
  (c_18:PySem.W.codeIn K cd_18 "_law_filled" = true)
  (k_18:PySem.W.keepIn K (.ref f_18)=true)
  (a_19:PySem.W.nsIn K mainGlobals "_law_long" = some (some (.ref f_19)))
  (l_19:K.lookup f_19=some ⟨oc_19,od_19,.func (PySem.W.fnOf "_law_long" "_law_long" (m7 Y1) (j7 Y1) (d9 Y1) .none kV_19 dc_19 pm_19 an_19 cd_19 ct_19),sl_19⟩)
  (c_19:PySem.W.codeIn K cd_19 "_law_long" = true)
  (k_19:PySem.W.keepIn K (.ref f_19)=true)
  (a_20:PySem.W.nsIn K mainGlobals "_law_end_spoilt" = some (some (.ref f_20)))
  (l_20:K.lookup f_20=some ⟨oc_20,od_20,.func (PySem.W.fnOf "_law_end_spoilt" "_law_end_spoilt" (m7 J8) (j7 J8) (d9 J8) .none kV_20 dc_20 pm_20 an_20 cd_20 ct_20),sl_20⟩)
  (c_20:PySem.W.codeIn K cd_20 "_law_end_spoilt" = true)
  (k_20:PySem.W.keepIn K (.ref f_20)=true)
  (a_21:PySem.W.nsIn K mainGlobals "_law_spoilt" = some (some (.ref f_21)))
  (l_21:K.lookup f_21=some ⟨oc_21,od_21,.func (PySem.W.fnOf "_law_spoilt" "_law_spoilt" (m7 S4) (j7 S4) (d9 S4) .none kV_21 dc_21 pm_21 an_21 cd_21 ct_21),sl_21⟩)
  (c_21:PySem.W.codeIn K cd_21 "_law_spoilt" = true)
  (k_21:PySem.W.keepIn K (.ref f_21)=true)
  (a_22:PySem.W.nsIn K mainGlobals "_law_end_fault" = some (some (.ref f_22)))
  (l_22:K.lookup f_22=some ⟨oc_22,od_22,.func (PySem.W.fnOf "_law_end_fault" "_law_end_fault" (m7 K7) (j7 K7) (d9 K7) .none kV_22 dc_22 pm_22 an_22 cd_22 ct_22),sl_22⟩)
  (c_22:PySem.W.codeIn K cd_22 "_law_end_fault" = true)
  (k_22:PySem.W.keepIn K (.ref f_22)=true)
  (a_23:PySem.W.nsIn K mainGlobals "_law_fault" = some (some (.ref f_23)))
  (l_23:K.lookup f_23=some ⟨oc_23,od_23,.func (PySem.W.fnOf "_law_fault" "_law_fault" (m7 V2) (j7 V2) (d9 V2) .none kV_23 dc_23 pm_23 an_23 cd_23 ct_23),sl_23⟩)
  (c_23:PySem.W.codeIn K cd_23 "_law_fault" = true)
  (k_23:PySem.W.keepIn K (.ref f_23)=true)
  (a_24:PySem.W.nsIn K mainGlobals "_law_same" = some (some (.ref f_24)))
  (l_24:K.lookup f_24=some ⟨oc_24,od_24,.func (PySem.W.fnOf "_law_same" "_law_same" (m7 Y2) (j7 Y2) (d9 Y2) .none kV_24 dc_24 pm_24 an_24 cd_24 ct_24),sl_24⟩)
  (c_24:PySem.W.codeIn K cd_24 "_law_same" = true)
  (k_24:PySem.W.keepIn K (.ref f_24)=true)
  (a_25:PySem.W.nsIn K mainGlobals "_law_why_of" = some (some (.ref f_25)))
  (l_25:K.lookup f_25=some ⟨oc_25,od_25,.func (PySem.W.fnOf "_law_why_of" "_law_why_of" (m7 S5) (j7 S5) (d9 S5) .none kV_25 dc_25 pm_25 an_25 cd_25 ct_25),sl_25⟩)
  (c_25:PySem.W.codeIn K cd_25 "_law_why_of" = true)
  (k_25:PySem.W.keepIn K (.ref f_25)=true)
  (a_26:PySem.W.nsIn K mainGlobals "_law_why" = some (some (.ref f_26)))
  (l_26:K.lookup f_26=some ⟨oc_26,od_26,.func (PySem.W.fnOf "_law_why" "_law_why" (m7 a0o) (j7 a0o) (d9 a0o) .none kV_26 dc_26 pm_26 an_26 cd_26 ct_26),sl_26⟩)
  (c_26:PySem.W.codeIn K cd_26 "_law_why" = true)
  (k_26:PySem.W.keepIn K (.ref f_26)=true)
  (a_27:PySem.W.nsIn K mainGlobals "law" = some (some (.ref f_27)))
  (l_27:K.lookup f_27=some ⟨oc_27,od_27,.func (PySem.W.fnOf "law" "law" (m7 U0) (j7 U0) (d9 U0) .none kV_27 dc_27 pm_27 an_27 cd_27 ct_27),sl_27⟩)
  (c_27:PySem.W.codeIn K cd_27 "law" = true)
  (k_27:PySem.W.keepIn K (.ref f_27)=true)
  (a_0:PySem.W.findIn K (.ref c1) "__init__" = some (some (.ref f_0)))
  (i_BadPlan___init__:PySem.W.isFn K (.ref f_0)=true)
  (l_0:K.lookup f_0=some ⟨oc_0,od_0,.func (PySem.W.fnOf "__init__" "BadPlan.__init__" (m7 D0) (j7 D0) (d9 D0) .none kV_0 dc_0 pm_0 an_0 cd_0 ct_0),sl_0⟩)
  (c_0:PySem.W.codeIn K cd_0 "BadPlan.__init__" = true)
  (k_0:PySem.W.keepIn K (.ref f_0)=true)
  (tc_l_filled:cd_18=.ref cc_l_filled)
  (tk_l_filled:K.lookup cc_l_filled=some ⟨oq_l_filled,oe_l_filled,.fields vs_l_filled,sm_l_filled⟩)
  (tp_l_filled:vs_l_filled.getD 11 .none=.ref Pt_l_filled)
  (tn_l_filled:K.lookup Pt_l_filled=none)
  (tr_l_filled:(PyProof.Rows.recsOf q).any (fun d=>d.name == "_law_filled")=true)
  (z_ValueError:PySem.W.nsIn K mainGlobals "ValueError" = some none)
  (z_bool:PySem.W.nsIn K mainGlobals "bool" = some none)
  (z_int:PySem.W.nsIn K mainGlobals "int" = some none)
  (z_isinstance:PySem.W.nsIn K mainGlobals "isinstance" = some none)
  (z_len:PySem.W.nsIn K mainGlobals "len" = some none)
  (z_list:PySem.W.nsIn K mainGlobals "list" = some none)
  (z_max:PySem.W.nsIn K mainGlobals "max" = some none)
  (z_range:PySem.W.nsIn K mainGlobals "range" = some none)
  (z_sorted:PySem.W.nsIn K mainGlobals "sorted" = some none)
  (z_tuple:PySem.W.nsIn K mainGlobals "tuple" = some none)
  (m_BadPacking:PySem.W.nsIn K mainGlobals "BadPacking" = some (some (.ref c0)))
  (m_BadPlan:PySem.W.nsIn K mainGlobals "BadPlan" = some (some (.ref c1)))
  (m_BadSide:PySem.W.nsIn K mainGlobals "BadSide" = some (some (.ref c2)))
  (m_BadTurn:PySem.W.nsIn K mainGlobals "BadTurn" = some (some (.ref c3)))
  (m_CrateError:PySem.W.nsIn K mainGlobals "CrateError" = some (some (.ref c4)))
  (m_Full:PySem.W.nsIn K mainGlobals "Full" = some (some (.ref c5)))
  (m_Hangs:PySem.W.nsIn K mainGlobals "Hangs" = some (some (.ref c6)))
  (m_NoDeed:PySem.W.nsIn K mainGlobals "NoDeed" = some (some (.ref c7)))
  (m_NoDrawing:PySem.W.nsIn K mainGlobals "NoDrawing" = some (some (.ref c8)))
  (m_NoPicker:PySem.W.nsIn K mainGlobals "NoPicker" = some (some (.ref c9)))
  (m_NoSheet:PySem.W.nsIn K mainGlobals "NoSheet" = some (some (.ref c10)))
  (m_NoText:PySem.W.nsIn K mainGlobals "NoText" = some (some (.ref c11)))
  (m_NoWare:PySem.W.nsIn K mainGlobals "NoWare" = some (some (.ref c12)))
  (m_NoWeighing:PySem.W.nsIn K mainGlobals "NoWeighing" = some (some (.ref c13)))
  (m_NothingDone:PySem.W.nsIn K mainGlobals "NothingDone" = some (some (.ref c14)))
  (m_Ring:PySem.W.nsIn K mainGlobals "Ring" = some (some (.ref c15)))
  (m_TooMany:PySem.W.nsIn K mainGlobals "TooMany" = some (some (.ref c16)))
  (m_TooWide:PySem.W.nsIn K mainGlobals "TooWide" = some (some (.ref c17)))
  (xo_BadPlan:a3V K c1=true)
  (xa_BadPlan:PySem.W.findIn K (.ref c1) "__setattr__" = some (some (.builtin "object.__setattr__")))
  (xm_BadPlan:((PySem.W.clsIn K c1).any fun cd=>PySem.W.onlyVE cd.mro)=true)
  (xq_BadPlan:PySem.W.mroIn K c1 (.type "object")=some true)
  (x_BadTurn:PySem.W.excIn K c3 vErr "ValueError.__new__" = true)
  (t_exc_BadPlan1:PySem.W.findIn K (.ref c1) "__getattribute__" = some (some (.builtin "BaseException.__getattribute__")))
  (t_exc_BadPlan2:PySem.W.findIn K (.ref c1) "__getattr__" = some none)
  (t_exc_BadPlan3:PySem.W.findIn K (.ref c1) "__class__" = some (some (.builtin "object.__class__")))
  (t_exc_BadPlan4:PySem.W.mroIn K c1 (.type "object")=some true)
  (t_exc_BadPlan5:PySem.W.subIn K (.ref c1) (.type "BaseException")=some true)
  (t_exc_BadTurn1:PySem.W.findIn K (.ref c3) "__getattribute__" = some (some (.builtin "BaseException.__getattribute__")))
  (t_exc_BadTurn2:PySem.W.findIn K (.ref c3) "__getattr__" = some none)
  (t_exc_BadTurn3:PySem.W.findIn K (.ref c3) "__class__" = some (some (.builtin "object.__class__")))
  (t_exc_BadTurn4:PySem.W.mroIn K c3 (.type "object")=some true)
  (t_exc_BadTurn5:PySem.W.subIn K (.ref c3) (.type "BaseException")=some true)
  (hd_BadPlan:PySem.W.hasDictIn K c1=true)
  (xn_BadPlan:PySem.W.findIn K (.ref c1) "why" = some none)
  (t_any_BadPlan_0:PySem.W.kitAny K (.ref c1) [.ref c0,.ref c2,.ref c3,.ref c5,.ref c6,.ref c7,.ref c8,.ref c9,.ref c10]=some false)
  (t_any_BadPlan_1:PySem.W.kitAny K (.ref c1) [.ref c11,.ref c12,.ref c13,.ref c14,.ref c15,.ref c16,.ref c17]=some false)
  (t_one_BadPlan_BadPlan:PySem.W.kitOne K (.ref c1) (.ref c1)=some true)
  (t_one_BadPlan_ValueError:PySem.W.kitOne K (.ref c1) (.type "ValueError")=some true)
  (t_exo_BadPlan_CrateError:PySem.W.exmOne K (.ref c1) (.ref c4)=some true)
  (t_any_BadTurn_0:PySem.W.kitAny K (.ref c3) [.ref c0,.ref c2,.ref c3,.ref c5,.ref c6,.ref c7,.ref c8,.ref c9,.ref c10]=some true)
  (t_any_BadTurn_1:PySem.W.kitAny K (.ref c3) [.ref c11,.ref c12,.ref c13,.ref c14,.ref c15,.ref c16,.ref c17]=some false)
  (t_one_BadTurn_BadPlan:PySem.W.kitOne K (.ref c3) (.ref c1)=some false)
  (t_one_BadTurn_ValueError:PySem.W.kitOne K (.ref c3) (.type "ValueError")=some true)
  (t_exo_BadTurn_CrateError:PySem.W.exmOne K (.ref c3) (.ref c4)=some true)
  : ∃(fd:FuncData) (TB:List (Addr×Str)),(∀(s:Shared) (v:Value),BindsTo s fd ⟨[v],[]⟩ [("_law_script",v)])∧(∀Pa qq,TB.lookup Pa=some qq→(∃c,h.TableAt c Pa #[])∧K.lookup Pa=none)∧∃c:Str→Addr,∀base:Heap,K.In base→base.Ns mainGlobals mg→(∀b o,h.get? b=some o→o.cls≠.none→o.cls≠.type "list"→base.get? b=some o)→FnOk (PySem.Challenge.rw_cratefit_k60_places_that_are_cut).prog w K mg base (y8 (PySem.Challenge.rw_cratefit_k60_places_that_are_cut).prog w) 13 fa fd ["_law_script"] (spT TB (a4v K c)):=by
 have e:=hfa.symm.trans (PySem.W.mg_of X G a_27)
 cases e
 have T:Txt K mg (cL c0 c1 c2 c3 c4 c5 c6 c7 c8 c9 c10 c11 c12 c13 c14 c15 c16 c17):=⟨PySem.W.mg_none_of X G z_ValueError,PySem.W.mg_none_of X G z_bool,PySem.W.mg_none_of X G z_int,PySem.W.mg_none_of X G z_isinstance,PySem.W.mg_none_of X G z_len,PySem.W.mg_none_of X G z_list,PySem.W.mg_none_of X G z_max,PySem.W.mg_none_of X G z_range,PySem.W.mg_none_of X G z_sorted,PySem.W.mg_none_of X G z_tuple,PySem.W.mg_of X G m_BadPacking,PySem.W.mg_of X G m_BadPlan,PySem.W.mg_of X G m_BadSide,PySem.W.mg_of X G m_BadTurn,PySem.W.mg_of X G m_CrateError,PySem.W.mg_of X G m_Full,PySem.W.mg_of X G m_Hangs,PySem.W.mg_of X G m_NoDeed,PySem.W.mg_of X G m_NoDrawing,PySem.W.mg_of X G m_NoPicker,PySem.W.mg_of X G m_NoSheet,PySem.W.mg_of X G m_NoText,PySem.W.mg_of X G m_NoWare,PySem.W.mg_of X G m_NoWeighing,PySem.W.mg_of X G m_NothingDone,PySem.W.mg_of X G m_Ring,PySem.W.mg_of X G m_TooMany,PySem.W.mg_of X G m_TooWide,x_BadTurn,⟨t_exc_BadPlan1,t_exc_BadPlan2,t_exc_BadPlan3,t_exc_BadPlan4,t_exc_BadPlan5⟩,⟨t_exc_BadTurn1,t_exc_BadTurn2,t_exc_BadTurn3,t_exc_BadTurn4,t_exc_BadTurn5⟩,hd_BadPlan,xn_BadPlan,t_any_BadPlan_0,t_any_BadPlan_1,t_one_BadPlan_BadPlan,t_one_BadPlan_ValueError,t_exo_BadPlan_CrateError,t_any_BadTurn_0,t_any_BadTurn_1,t_one_BadTurn_BadPlan,t_one_BadTurn_ValueError,t_exo_BadTurn_CrateError⟩
 have TT_l_filled:=b4X Tp X tr_l_filled (PySem.W.mg_of X G a_18) l_18 tc_l_filled tk_l_filled tp_l_filled
 refine⟨PySem.W.fnOf "law" "law" (m7 U0) (j7 U0) (d9 U0) .none kV_27 dc_27 pm_27 an_27 cd_27 ct_27,[(Pt_l_filled,("_law_filled.<locals>.<lambda>" : Str))],fun s v=>.of_eq rfl,fun Pa qq e=>?_,cOf [("BadPacking",c0),("BadPlan",c1),("BadSide",c2),("BadTurn",c3),("CrateError",c4),("Full",c5),("Hangs",c6),("NoDeed",c7),("NoDrawing",c8),("NoPicker",c9),("NoSheet",c10),("NoText",c11),("NoWare",c12),("NoWeighing",c13),("NothingDone",c14),("Ring",c15),("TooMany",c16),("TooWide",c17)],fun base _ _ kp=>?_⟩
 ·simp only[List.lookup]at e
  split at e
  ·rename_i z;have z:=beq_iff_eq.mp z;subst z;exact⟨⟨_,TT_l_filled.1⟩,tn_l_filled⟩
  ·cases e
 have hL_l_filled:List.lookup Pt_l_filled [(Pt_l_filled,("_law_filled.<locals>.<lambda>" : Str))]=some "_law_filled.<locals>.<lambda>" := by simp[List.lookup]
 have F_0:=y6 (st:=D0) l_0 c_0 k_0
 have B_0:=F_0.binds (ps:=["self","why"]) fun _ _ _ _ _ _ us hl=>match us,hl with | [_,_],_=>rfl
 have OI_BadPlan___init__:=a11 (P:=(PySem.Challenge.rw_cratefit_k60_places_that_are_cut).prog) (w:=w) (mg:=mg) (base:=base) (c:=cOf [("BadPacking",c0),("BadPlan",c1),("BadSide",c2),("BadTurn",c3),("CrateError",c4),("Full",c5),("Hangs",c6),("NoDeed",c7),("NoDrawing",c8),("NoPicker",c9),("NoSheet",c10),("NoText",c11),("NoWare",c12),("NoWeighing",c13),("NothingDone",c14),("Ring",c15),("TooMany",c16),("TooWide",c17)]) F_0 ⟨xa_BadPlan,xm_BadPlan,xq_BadPlan,hd_BadPlan,xn_BadPlan⟩
 have XI_BadPlan:b1B (PySem.Challenge.rw_cratefit_k60_places_that_are_cut).prog w K mg base 3 "BadPlan" ((cL c0 c1 c2 c3 c4 c5 c6 c7 c8 c9 c10 c11 c12 c13 c14 c15 c16 c17) "BadPlan") ["self","why"] "why" := ⟨_,_,⟨xo_BadPlan,a_0,beq_iff_eq.mp i_BadPlan___init__⟩,OI_BadPlan___init__,B_0,PySem.W.mg_of X G m_BadPlan⟩
 have F_1:=y6 (st:=J7) l_1 c_1 k_1
 have B_1:=F_1.binds (ps:=["wares","k"]) fun _ _ _ _ _ _ us hl=>match us,hl with | [_,_],_=>rfl
 have O_1:Own (PySem.Challenge.rw_cratefit_k60_places_that_are_cut).prog w K mg base 3 "is_number_of" ["wares","k"] (i9 K (cL c0 c1 c2 c3 c4 c5 c6 c7 c8 c9 c10 c11 c12 c13 c14 c15 c16 c17) A1):=⟨_,_,a4i F_1 T ,B_1,k_1,PySem.W.mg_of X G a_1⟩
 have F_2:=y6 (st:=R8) l_2 c_2 k_2
 have B_2:=F_2.binds (ps:=["ware","lie"]) fun _ _ _ _ _ _ us hl=>match us,hl with | [_,_],_=>rfl
 have O_2:Own (PySem.Challenge.rw_cratefit_k60_places_that_are_cut).prog w K mg base 3 "sides_of" ["ware","lie"] (i9 K (cL c0 c1 c2 c3 c4 c5 c6 c7 c8 c9 c10 c11 c12 c13 c14 c15 c16 c17) F5):=⟨_,_,a68 F_2 T ,B_2,k_2,PySem.W.mg_of X G a_2⟩
 have F_3:=y6 (st:=X8) l_3 c_3 k_3
 have B_3:=F_3.binds (ps:=["plan"]) fun _ _ _ _ _ _ us hl=>match us,hl with | [_],_=>rfl
 have O_3:Own (PySem.Challenge.rw_cratefit_k60_places_that_are_cut).prog w K mg base 3 "is_cut" ["plan"] (i9 K (cL c0 c1 c2 c3 c4 c5 c6 c7 c8 c9 c10 c11 c12 c13 c14 c15 c16 c17) u9):=⟨_,_,b0e F_3 T ,B_3,k_3,PySem.W.mg_of X G a_3⟩
 have F_4:=y6 (st:=R9) l_4 c_4 k_4
 have B_4:=F_4.binds (ps:=["spot","plan"]) fun _ _ _ _ _ _ us hl=>match us,hl with | [_,_],_=>rfl
 have O_4:Own (PySem.Challenge.rw_cratefit_k60_places_that_are_cut).prog w K mg base 3 "cut_side" ["spot","plan"] (i9 K (cL c0 c1 c2 c3 c4 c5 c6 c7 c8 c9 c10 c11 c12 c13 c14 c15 c16 c17) B2):=⟨_,_,a6_ F_4 T ,B_4,k_4,PySem.W.mg_of X G a_4⟩
 have F_5:=y6 (st:=P5) l_5 c_5 k_5
 have B_5:=F_5.binds (ps:=["spot","plan"]) fun _ _ _ _ _ _ us hl=>match us,hl with | [_,_],_=>rfl
 have O_5:Own (PySem.Challenge.rw_cratefit_k60_places_that_are_cut).prog w K mg base 3 "cut_spots" ["spot","plan"] (i9 K (cL c0 c1 c2 c3 c4 c5 c6 c7 c8 c9 c10 c11 c12 c13 c14 c15 c16 c17) F6):=⟨_,_,a6I F_5 T ,B_5,k_5,PySem.W.mg_of X G a_5⟩
 have F_6:=y6 (st:=S0) l_6 c_6 k_6
 have B_6:=F_6.binds (ps:=["box","plan"]) fun _ _ _ _ _ _ us hl=>match us,hl with | [_,_],_=>rfl
 have O_6:Own (PySem.Challenge.rw_cratefit_k60_places_that_are_cut).prog w K mg base 5 "nodes_of" ["box","plan"] (i9 K (cL c0 c1 c2 c3 c4 c5 c6 c7 c8 c9 c10 c11 c12 c13 c14 c15 c16 c17) B9):=⟨_,_,a7a F_6 T O_3 O_5,B_6,k_6,PySem.W.mg_of X G a_6⟩
 have F_7:=y6 (st:=G3) l_7 c_7 k_7
 have B_7:=F_7.binds (ps:=["wares","spot","leaf","stood"]) fun _ _ _ _ _ _ us hl=>match us,hl with | [_,_,_,_],_=>rfl
 have O_7:Own (PySem.Challenge.rw_cratefit_k60_places_that_are_cut).prog w K mg base 5 "is_right_ware" ["wares","spot","leaf","stood"] (i9 K (cL c0 c1 c2 c3 c4 c5 c6 c7 c8 c9 c10 c11 c12 c13 c14 c15 c16 c17) u4):=⟨_,_,a3o F_7 T O_1 O_2,B_7,k_7,PySem.W.mg_of X G a_7⟩
 have F_8:=y6 (st:=N5) l_8 c_8 k_8
 have B_8:=F_8.binds (ps:=["box","wares","plan"]) fun _ _ _ _ _ _ us hl=>match us,hl with | [_,_,_],_=>rfl
 have O_8:Own (PySem.Challenge.rw_cratefit_k60_places_that_are_cut).prog w K mg base 7 "plan_fault" ["box","wares","plan"] (i9 K (cL c0 c1 c2 c3 c4 c5 c6 c7 c8 c9 c10 c11 c12 c13 c14 c15 c16 c17) K4):=⟨_,_,a5I F_8 T O_6 O_4 O_3 O_7,B_8,k_8,PySem.W.mg_of X G a_8⟩
 have F_9:=y6 (st:=J2) l_9 c_9 k_9
 have B_9:=F_9.binds (ps:=["box","plan"]) fun _ _ _ _ _ _ us hl=>match us,hl with | [_,_],_=>rfl
 have O_9:Own (PySem.Challenge.rw_cratefit_k60_places_that_are_cut).prog w K mg base 7 "pieces_of" ["box","plan"] (i9 K (cL c0 c1 c2 c3 c4 c5 c6 c7 c8 c9 c10 c11 c12 c13 c14 c15 c16 c17) D3):=⟨_,_,a6L F_9 T O_3 O_6,B_9,k_9,PySem.W.mg_of X G a_9⟩
 have F_10:=y6 (st:=N6) l_10 c_10 k_10
 have B_10:=F_10.binds (ps:=["box","wares","plan"]) fun _ _ _ _ _ _ us hl=>match us,hl with | [_,_,_],_=>rfl
 have O_10:Own (PySem.Challenge.rw_cratefit_k60_places_that_are_cut).prog w K mg base 9 "cut_places" ["box","wares","plan"] (i9 K (cL c0 c1 c2 c3 c4 c5 c6 c7 c8 c9 c10 c11 c12 c13 c14 c15 c16 c17) A2):=⟨_,_,a5J F_10 T O_8 O_9 XI_BadPlan,B_10,k_10,PySem.W.mg_of X G a_10⟩
 have F_11:=y6 (st:=Q6) l_11 c_11 k_11
 have B_11:=F_11.binds (ps:=["_law_found"]) fun _ _ _ _ _ _ us hl=>match us,hl with | [_],_=>rfl
 have O_11:Own (PySem.Challenge.rw_cratefit_k60_places_that_are_cut).prog w K mg base 3 "_law_whole" ["_law_found"] (i9 K (cL c0 c1 c2 c3 c4 c5 c6 c7 c8 c9 c10 c11 c12 c13 c14 c15 c16 c17) D1):=⟨_,_,a8V F_11 T ,B_11,k_11,PySem.W.mg_of X G a_11⟩
 have GW_l_whole:OwnW (PySem.Challenge.rw_cratefit_k60_places_that_are_cut).prog w K mg base 3 "_law_whole" ["_law_found"] (i9 K (cL c0 c1 c2 c3 c4 c5 c6 c7 c8 c9 c10 c11 c12 c13 c14 c15 c16 c17) D1):=⟨_,_,a7c F_11 T,B_11,k_11,PySem.W.mg_of X G a_11⟩
 have F_12:=y6 (st:=X9) l_12 c_12 k_12
 have B_12:=F_12.binds (ps:=["_law_script","_law_k"]) fun _ _ _ _ _ _ us hl=>match us,hl with | [_,_],_=>rfl
 have O_12:Own (PySem.Challenge.rw_cratefit_k60_places_that_are_cut).prog w K mg base 3 "_law_cell" ["_law_script","_law_k"] (i9 K (cL c0 c1 c2 c3 c4 c5 c6 c7 c8 c9 c10 c11 c12 c13 c14 c15 c16 c17) A6):=⟨_,_,b0g F_12 T ,B_12,k_12,PySem.W.mg_of X G a_12⟩
 have F_13:=y6 (st:=a0m) l_13 c_13 k_13
 have B_13:=F_13.binds (ps:=["_law_cell_here","_law_k","_law_prime"]) fun _ _ _ _ _ _ us hl=>match us,hl with | [_,_,_],_=>rfl
 have O_13:Own (PySem.Challenge.rw_cratefit_k60_places_that_are_cut).prog w K mg base 3 "_law_mix" ["_law_cell_here","_law_k","_law_prime"] (i9 K (cL c0 c1 c2 c3 c4 c5 c6 c7 c8 c9 c10 c11 c12 c13 c14 c15 c16 c17) t7):=⟨_,_,b1G F_13 T ,B_13,k_13,PySem.W.mg_of X G a_13⟩
 have F_14:=y6 (st:=a0n) l_14 c_14 k_14
 have B_14:=F_14.binds (ps:=["_law_spot","_law_cell_here"]) fun _ _ _ _ _ _ us hl=>match us,hl with | [_,_],_=>rfl
 have O_14:Own (PySem.Challenge.rw_cratefit_k60_places_that_are_cut).prog w K mg base 5 "_law_cut" ["_law_spot","_law_cell_here"] (i9 K (cL c0 c1 c2 c3 c4 c5 c6 c7 c8 c9 c10 c11 c12 c13 c14 c15 c16 c17) V3):=⟨_,_,b1H F_14 T O_13,B_14,k_14,PySem.W.mg_of X G a_14⟩
 have F_15:=y6 (st:=V1) l_15 c_15 k_15
 have B_15:=F_15.binds (ps:=["_law_spot","_law_way","_law_at"]) fun _ _ _ _ _ _ us hl=>match us,hl with | [_,_,_],_=>rfl
 have O_15:Own (PySem.Challenge.rw_cratefit_k60_places_that_are_cut).prog w K mg base 3 "_law_parts" ["_law_spot","_law_way","_law_at"] (i9 K (cL c0 c1 c2 c3 c4 c5 c6 c7 c8 c9 c10 c11 c12 c13 c14 c15 c16 c17) y9):=⟨_,_,a8X F_15 T ,B_15,k_15,PySem.W.mg_of X G a_15⟩
 have F_16:=y6 (st:=Y0) l_16 c_16 k_16
 have B_16:=F_16.binds (ps:=["_law_box","_law_cells"]) fun _ _ _ _ _ _ us hl=>match us,hl with | [_,_],_=>rfl
 have O_16:Own (PySem.Challenge.rw_cratefit_k60_places_that_are_cut).prog w K mg base 7 "_law_tree" ["_law_box","_law_cells"] (i9 K (cL c0 c1 c2 c3 c4 c5 c6 c7 c8 c9 c10 c11 c12 c13 c14 c15 c16 c17) U5):=⟨_,_,b0h F_16 T O_14 O_15,B_16,k_16,PySem.W.mg_of X G a_16⟩
 have F_17:=y6 (st:=S3) l_17 c_17 k_17
 have B_17:=F_17.binds (ps:=["_law_nodes","_law_ends"]) fun _ _ _ _ _ _ us hl=>match us,hl with | [_,_],_=>rfl
 have O_17:Own (PySem.Challenge.rw_cratefit_k60_places_that_are_cut).prog w K mg base 3 "_law_joined" ["_law_nodes","_law_ends"] (i9 K (cL c0 c1 c2 c3 c4 c5 c6 c7 c8 c9 c10 c11 c12 c13 c14 c15 c16 c17) L5):=⟨_,_,a7d F_17 T ,B_17,k_17,PySem.W.mg_of X G a_17⟩
 have F_18:=y6 (st:=E9) l_18 c_18 k_18
 have B_18:=F_18.binds (ps:=["_law_spots","_law_nodes","_law_cell_here"]) fun _ _ _ _ _ _ us hl=>match us,hl with | [_,_,_],_=>rfl
 have O_18:Own (PySem.Challenge.rw_cratefit_k60_places_that_are_cut).prog w K mg base 8 "_law_filled" ["_law_spots","_law_nodes","_law_cell_here"] (spT [(Pt_l_filled,("_law_filled.<locals>.<lambda>" : Str))] (i9 K (cL c0 c1 c2 c3 c4 c5 c6 c7 c8 c9 c10 c11 c12 c13 c14 c15 c16 c17) O3)):=⟨_,_,a7e F_18 T O_13 (tc_l_filled) (TT_l_filled.2 base kp).1 (TT_l_filled.2 base kp).2 hL_l_filled,B_18,k_18,PySem.W.mg_of X G a_18⟩
 have F_19:=y6 (st:=Y1) l_19 c_19 k_19
 have B_19:=F_19.binds (ps:=["_law_cell_here"]) fun _ _ _ _ _ _ us hl=>match us,hl with | [_],_=>rfl
 have O_19:Own (PySem.Challenge.rw_cratefit_k60_places_that_are_cut).prog w K mg base 3 "_law_long" ["_law_cell_here"] (i9 K (cL c0 c1 c2 c3 c4 c5 c6 c7 c8 c9 c10 c11 c12 c13 c14 c15 c16 c17) M1):=⟨_,_,b0j F_19 T ,B_19,k_19,PySem.W.mg_of X G a_19⟩
 have F_20:=y6 (st:=J8) l_20 c_20 k_20
 have B_20:=F_20.binds (ps:=["_law_end","_law_cell_here","_law_many"]) fun _ _ _ _ _ _ us hl=>match us,hl with | [_,_,_],_=>rfl
 have O_20:Own (PySem.Challenge.rw_cratefit_k60_places_that_are_cut).prog w K mg base 3 "_law_end_spoilt" ["_law_end","_law_cell_here","_law_many"] (i9 K (cL c0 c1 c2 c3 c4 c5 c6 c7 c8 c9 c10 c11 c12 c13 c14 c15 c16 c17) E5):=⟨_,_,a4m F_20 T ,B_20,k_20,PySem.W.mg_of X G a_20⟩
 have F_21:=y6 (st:=S4) l_21 c_21 k_21
 have B_21:=F_21.binds (ps:=["_law_nodes","_law_ends","_law_cell_here","_law_many"]) fun _ _ _ _ _ _ us hl=>match us,hl with | [_,_,_,_],_=>rfl
 have O_21:Own (PySem.Challenge.rw_cratefit_k60_places_that_are_cut).prog w K mg base 5 "_law_spoilt" ["_law_nodes","_law_ends","_law_cell_here","_law_many"] (spU K (cL c0 c1 c2 c3 c4 c5 c6 c7 c8 c9 c10 c11 c12 c13 c14 c15 c16 c17) 4 [0,1] I0):=⟨_,_,a7f F_21 T O_20,B_21,k_21,PySem.W.mg_of X G a_21⟩
 have F_22:=y6 (st:=K7) l_22 c_22 k_22
 have B_22:=F_22.binds (ps:=["_law_wares","_law_spot","_law_end","_law_told"]) fun _ _ _ _ _ _ us hl=>match us,hl with | [_,_,_,_],_=>rfl
 have O_22:Own (PySem.Challenge.rw_cratefit_k60_places_that_are_cut).prog w K mg base 3 "_law_end_fault" ["_law_wares","_law_spot","_law_end","_law_told"] (i9 K (cL c0 c1 c2 c3 c4 c5 c6 c7 c8 c9 c10 c11 c12 c13 c14 c15 c16 c17) z8):=⟨_,_,a43 F_22 T ,B_22,k_22,PySem.W.mg_of X G a_22⟩
 have F_23:=y6 (st:=V2) l_23 c_23 k_23
 have B_23:=F_23.binds (ps:=["_law_box","_law_wares","_law_plan"]) fun _ _ _ _ _ _ us hl=>match us,hl with | [_,_,_],_=>rfl
 have O_23:Own (PySem.Challenge.rw_cratefit_k60_places_that_are_cut).prog w K mg base 5 "_law_fault" ["_law_box","_law_wares","_law_plan"] (i9 K (cL c0 c1 c2 c3 c4 c5 c6 c7 c8 c9 c10 c11 c12 c13 c14 c15 c16 c17) Q7):=⟨_,_,a81 F_23 T O_22 O_15,B_23,k_23,PySem.W.mg_of X G a_23⟩
 have F_24:=y6 (st:=Y2) l_24 c_24 k_24
 have B_24:=F_24.binds (ps:=["_law_found","_law_due"]) fun _ _ _ _ _ _ us hl=>match us,hl with | [_,_],_=>rfl
 have O_24:Own (PySem.Challenge.rw_cratefit_k60_places_that_are_cut).prog w K mg base 5 "_law_same" ["_law_found","_law_due"] (i9 K (cL c0 c1 c2 c3 c4 c5 c6 c7 c8 c9 c10 c11 c12 c13 c14 c15 c16 c17) Q8):=⟨_,_,b0l F_24 T O_11,B_24,k_24,PySem.W.mg_of X G a_24⟩
 have F_25:=y6 (st:=S5) l_25 c_25 k_25
 have B_25:=F_25.binds (ps:=["_law_refusal"]) fun _ _ _ _ _ _ us hl=>match us,hl with | [_],_=>rfl
 have O_25:OwnW (PySem.Challenge.rw_cratefit_k60_places_that_are_cut).prog w K mg base 5 "_law_why_of" ["_law_refusal"] (i9 K (cL c0 c1 c2 c3 c4 c5 c6 c7 c8 c9 c10 c11 c12 c13 c14 c15 c16 c17) L7):=⟨_,_,a7h F_25 T GW_l_whole,B_25,k_25,PySem.W.mg_of X G a_25⟩
 have F_26:=y6 (st:=a0o) l_26 c_26 k_26
 have B_26:=F_26.binds (ps:=["_law_box","_law_wares","_law_plan"]) fun _ _ _ _ _ _ us hl=>match us,hl with | [_,_,_],_=>rfl
 have O_26:Own (PySem.Challenge.rw_cratefit_k60_places_that_are_cut).prog w K mg base 11 "_law_why" ["_law_box","_law_wares","_law_plan"] (i9 K (cL c0 c1 c2 c3 c4 c5 c6 c7 c8 c9 c10 c11 c12 c13 c14 c15 c16 c17) Y3):=⟨_,_,b1K F_26 T O_25 O_10,B_26,k_26,PySem.W.mg_of X G a_26⟩
 have F_27:=y6 (st:=U0) l_27 c_27 k_27
 exact b5Y F_27 T O_19 O_12 O_16 O_18 O_17 O_24 O_10 O_21 O_26 O_23
end Law
namespace Law
open PySem L2 PyProof.Rows
theorem walk{q:Program}{loose:List Str}{XP:(Str→Option Value)→Heap→Prop}{YP:World→Heap→Prop}{d:DefRec}{K:Params→PySem.W.Frag}(hdf:d.params.defaults=[])(hY:∀(w:World) (h:Heap),YP w h→(K w.params).In h)
  (F:∀(w:World) (mg mb:Str→Option Value) (fa:Addr) (h:Heap) (mean:ExcName→Option Value),(K w.params).In h→h.Ns mainGlobals mg→mg d.name=some (.ref fa)→PyProof.Rows.Top q (PySem.W.looseW q loose) mean mg mb h →
   ∃(fd:FuncData) (TB:List (Addr×Str)),(∀(s:Shared) (u:Value),BindsTo s fd ⟨[u],[]⟩ [("_law_script",u)])∧(∀Pa qq,TB.lookup Pa=some qq→(∃c,h.TableAt c Pa #[])∧(K w.params).lookup Pa=none)∧∃c:Str→Addr,∀base:Heap,(K w.params).In base→base.Ns mainGlobals mg→(∀b o,h.get? b=some o→o.cls≠.none→o.cls≠.type "list"→base.get? b=some o)→FnOk (PySem.Challenge.rw_cratefit_k60_places_that_are_cut).prog w (K w.params) mg base (y8 (PySem.Challenge.rw_cratefit_k60_places_that_are_cut).prog w) 13 fa fd ["_law_script"] (spT TB (a4v (K w.params) c))) :
  PySem.W.WalkO q loose XP YP (PySem.Challenge.rw_cratefit_k60_places_that_are_cut).row.toRowW d [] (fun f vs=>PySem.call f vs):=by
 refine L2.walk_ofT (l:=PySem.Challenge.rw_cratefit_k60_places_that_are_cut) (n:=63) (k:=13) (x := "_law_script") (K:=K) (CX:=fun w=>y8 (PySem.Challenge.rw_cratefit_k60_places_that_are_cut).prog w) (sp:=fun w vs H Q E=>∀c,a4v (K w.params) c vs H Q E) rfl (by decide) hdf ⟨rfl,by decide,by decide⟩ hY (fun w mg mb fa h mean KX G hm Tp=>?_) (fun w H a ns h1 h2 h3 c=>⟨a,ns,rfl,h3,h2,h1,fun _=>rfl⟩) fun w H s e s' z=>b52 H s e s' z
 obtain⟨fd,TB,hb,hTb,c,hF⟩:=F w mg mb fa h mean KX G hm Tp
 exact⟨fd,TB,hb,hTb,fun base kb nb kp=>(hF base kb nb kp).imp fun vs H Q E z=>⟨z.1,z.2 c⟩⟩
end Law
local macro_rules|`(#check 0)=>do
 let g:=fun(n:Lean.Name)=>do
  let y:=Lean.mkIdent (.str `PySem.W.Fast s!"tw{n.hash}")
  `(theorem $y:ident : True:=trivial)
 let mut r:=#[←g `PySem.Challenge.pw_cratefit_k60_places_that_are_cut]
 for x in ["sts_49","sts_64","sts_79","sts_94","sts_109","sts_124","sts_139","sts_154","sts_169","sts_184","sts_199","sts_214","sts_229","sts_244","sts_259","sts_281","sts_303","sts_325","sts_375","sts_452","heap_39","heap_46","heap_534","tree_47","tree_63","tree_78","tree_93","tree_108","tree_123","tree_138","tree_153","tree_168","tree_183","tree_198","tree_213","tree_228","tree_243","tree_258","tree_280","tree_302","tree_324","tree_374","tree_451","tree_533","env_41","view_39"]++(List.range 491).map (s!"o_{·+43}") do r:=r.push (←g (.str `PySem.Challenge.cw_cratefit_k60_places_that_are_cut_holds x))
 return Lean.mkNullNode r
#check 0
open PySem.W
set_option maxRecDepth 100000 in
set_option maxHeartbeats 0 in
theorem PySem.Challenge.cw_cratefit_k60_places_that_are_cut_holds : PySem.Challenge.rw_cratefit_k60_places_that_are_cut.Holds := by
 w_on;o_law;k_head; (case hw=>w_witness2)
 k_fill
 refine Law.walk rfl (fun w h Y=>PySem.W.km_in_of Y) ?F
 case F =>
  intro w mg mb fa h mean KX G hmg Tp
  refine' Law.all_mk KX G hmg Tp ?a_is_number_of ?l_is_number_of ?c_is_number_of ?k_is_number_of ?a_sides_of ?l_sides_of ?c_sides_of ?k_sides_of ?a_is_cut ?l_is_cut ?c_is_cut ?k_is_cut ?a_cut_side ?l_cut_side ?c_cut_side ?k_cut_side ?a_cut_spots ?l_cut_spots ?c_cut_spots ?k_cut_spots ?a_nodes_of ?l_nodes_of ?c_nodes_of ?k_nodes_of ?a_is_right_ware ?l_is_right_ware ?c_is_right_ware ?k_is_right_ware ?a_plan_fault ?l_plan_fault ?c_plan_fault ?k_plan_fault ?a_pieces_of ?l_pieces_of ?c_pieces_of ?k_pieces_of ?a_cut_places ?l_cut_places ?c_cut_places ?k_cut_places ?a_l_whole ?l_l_whole ?c_l_whole ?k_l_whole ?a_l_cell ?l_l_cell ?c_l_cell ?k_l_cell ?a_l_mix ?l_l_mix ?c_l_mix ?k_l_mix ?a_l_cut ?l_l_cut ?c_l_cut ?k_l_cut ?a_l_parts ?l_l_parts ?c_l_parts ?k_l_parts ?a_l_tree ?l_l_tree ?c_l_tree ?k_l_tree ?a_l_joined ?l_l_joined ?c_l_joined ?k_l_joined ?a_l_filled ?l_l_filled ?c_l_filled ?k_l_filled ?a_l_long ?l_l_long ?c_l_long ?k_l_long ?a_l_end_spoilt ?l_l_end_spoilt ?c_l_end_spoilt ?k_l_end_spoilt ?a_l_spoilt ?l_l_spoilt ?c_l_spoilt ?k_l_spoilt ?a_l_end_fault ?l_l_end_fault ?c_l_end_fault ?k_l_end_fault ?a_l_fault ?l_l_fault ?c_l_fault ?k_l_fault ?a_l_same ?l_l_same ?c_l_same ?k_l_same ?a_l_why_of ?l_l_why_of ?c_l_why_of ?k_l_why_of ?a_l_why ?l_l_why ?c_l_why ?k_l_why ?a_law ?l_law ?c_law ?k_law ?a_BadPlan___init__ ?i_BadPlan___init__ ?l_BadPlan___init__ ?c_BadPlan___init__ ?k_BadPlan___init__ ?tc_l_filled ?tk_l_filled ?tp_l_filled ?tn_l_filled ?tr_l_filled ?z_ValueError ?z_bool ?z_int ?z_isinstance ?z_len ?z_list ?z_max ?z_range ?z_sorted ?z_tuple ?m_BadPacking ?m_BadPlan ?m_BadSide ?m_BadTurn ?m_CrateError ?m_Full ?m_Hangs ?m_NoDeed ?m_NoDrawing ?m_NoPicker ?m_NoSheet ?m_NoText ?m_NoWare ?m_NoWeighing ?m_NothingDone ?m_Ring ?m_TooMany ?m_TooWide ?xo_BadPlan ?xa_BadPlan ?xm_BadPlan ?xq_BadPlan ?x_BadTurn ?t_exc_BadPlan1 ?t_exc_BadPlan2 ?t_exc_BadPlan3 ?t_exc_BadPlan4 ?t_exc_BadPlan5 ?t_exc_BadTurn1 ?t_exc_BadTurn2 ?t_exc_BadTurn3 ?t_exc_BadTurn4 ?t_exc_BadTurn5 ?hd_BadPlan ?xn_BadPlan ?t_any_BadPlan_0 ?t_any_BadPlan_1 ?t_one_BadPlan_BadPlan ?t_one_BadPlan_ValueError ?t_exo_BadPlan_CrateError ?t_any_BadTurn_0 ?t_any_BadTurn_1 ?t_one_BadTurn_BadPlan ?t_one_BadTurn_ValueError ?t_exo_BadTurn_CrateError
  (case m_BadPlan=>k_is)
  (case a_is_number_of=>k_is)
  (case l_is_number_of=>k_is)
  (case c_is_number_of=>k_is)
  (case k_is_number_of=>k_is)
  (case a_sides_of=>k_is)
  (case l_sides_of=>k_is)
  (case c_sides_of=>k_is)
  (case k_sides_of=>k_is)
  (case a_is_cut=>k_is)
  (case l_is_cut=>k_is)
  (case c_is_cut=>k_is)
  (case k_is_cut=>k_is)
  (case a_cut_side=>k_is)
  (case l_cut_side=>k_is)
  (case c_cut_side=>k_is)
  (case k_cut_side=>k_is)
  (case a_cut_spots=>k_is)
  (case l_cut_spots=>k_is)
  (case c_cut_spots=>k_is)
  (case k_cut_spots=>k_is)
  (case a_nodes_of=>k_is)
  (case l_nodes_of=>k_is)
  (case c_nodes_of=>k_is)
  (case k_nodes_of=>k_is)
  (case a_is_right_ware=>k_is)
  (case l_is_right_ware=>k_is)
  (case c_is_right_ware=>k_is)
  (case k_is_right_ware=>k_is)
  (case a_plan_fault=>k_is)
  (case l_plan_fault=>k_is)
  (case c_plan_fault=>k_is)
  (case k_plan_fault=>k_is)
  (case a_pieces_of=>k_is)
  (case l_pieces_of=>k_is)
  (case c_pieces_of=>k_is)
  (case k_pieces_of=>k_is)
  (case a_cut_places=>k_is)
  (case l_cut_places=>k_is)
  (case c_cut_places=>k_is)
  (case k_cut_places=>k_is)
  (case a_l_whole=>k_is)
  (case l_l_whole=>k_is)
  (case c_l_whole=>k_is)
  (case k_l_whole=>k_is)
  (case a_l_cell=>k_is)
  (case l_l_cell=>k_is)
  (case c_l_cell=>k_is)
  (case k_l_cell=>k_is)
  (case a_l_mix=>k_is)
  (case l_l_mix=>k_is)
  (case c_l_mix=>k_is)
  (case k_l_mix=>k_is)
  (case a_l_cut=>k_is)
  (case l_l_cut=>k_is)
  (case c_l_cut=>k_is)
  (case k_l_cut=>k_is)
  (case a_l_parts=>k_is)
  (case l_l_parts=>k_is)
  (case c_l_parts=>k_is)
  (case k_l_parts=>k_is)
  (case a_l_tree=>k_is)
  (case l_l_tree=>k_is)
  (case c_l_tree=>k_is)
  (case k_l_tree=>k_is)
  (case a_l_joined=>k_is)
  (case l_l_joined=>k_is)
  (case c_l_joined=>k_is)
  (case k_l_joined=>k_is)
  (case a_l_filled=>k_is)
  (case l_l_filled=>k_is)
  (case c_l_filled=>k_is)
  (case k_l_filled=>k_is)
  (case a_l_long=>k_is)
  (case l_l_long=>k_is)
  (case c_l_long=>k_is)
  (case k_l_long=>k_is)
  (case a_l_end_spoilt=>k_is)
  (case l_l_end_spoilt=>k_is)
  (case c_l_end_spoilt=>k_is)
  (case k_l_end_spoilt=>k_is)
  (case a_l_spoilt=>k_is)
  (case l_l_spoilt=>k_is)
  (case c_l_spoilt=>k_is)
  (case k_l_spoilt=>k_is)
  (case a_l_end_fault=>k_is)
  (case l_l_end_fault=>k_is)
  (case c_l_end_fault=>k_is)
  (case k_l_end_fault=>k_is)
  (case a_l_fault=>k_is)
  (case l_l_fault=>k_is)
  (case c_l_fault=>k_is)
  (case k_l_fault=>k_is)
  (case a_l_same=>k_is)
  (case l_l_same=>k_is)
  (case c_l_same=>k_is)
  (case k_l_same=>k_is)
  (case a_l_why_of=>k_is)
  (case l_l_why_of=>k_is)
  (case c_l_why_of=>k_is)
  (case k_l_why_of=>k_is)
  (case a_l_why=>k_is)
  (case l_l_why=>k_is)
  (case c_l_why=>k_is)
  (case k_l_why=>k_is)
  (case a_law=>k_is)
  (case l_law=>k_is)
  (case c_law=>k_is)
  (case k_law=>k_is)
  (case a_BadPlan___init__=>k_is)
  (case i_BadPlan___init__=>k_is)
  (case l_BadPlan___init__=>k_is)
  (case c_BadPlan___init__=>k_is)
  (case k_BadPlan___init__=>k_is)
  (case tc_l_filled=>exact rfl)
  (case tk_l_filled=>k_is)
  (case tp_l_filled=>exact rfl)
  (case tn_l_filled=>first | k_is | rfl | decide +kernel)
  (case tr_l_filled=>first | rfl | decide +kernel)
  (case z_ValueError=>k_is)
  (case z_bool=>k_is)
  (case z_int=>k_is)
  (case z_isinstance=>k_is)
  (case z_len=>k_is)
  (case z_list=>k_is)
  (case z_max=>k_is)
  (case z_range=>k_is)
  (case z_sorted=>k_is)
  (case z_tuple=>k_is)
  (case m_BadPacking=>k_is)
  (case m_BadSide=>k_is)
  (case m_BadTurn=>k_is)
  (case m_CrateError=>k_is)
  (case m_Full=>k_is)
  (case m_Hangs=>k_is)
  (case m_NoDeed=>k_is)
  (case m_NoDrawing=>k_is)
  (case m_NoPicker=>k_is)
  (case m_NoSheet=>k_is)
  (case m_NoText=>k_is)
  (case m_NoWare=>k_is)
  (case m_NoWeighing=>k_is)
  (case m_NothingDone=>k_is)
  (case m_Ring=>k_is)
  (case m_TooMany=>k_is)
  (case m_TooWide=>k_is)
  (case xo_BadPlan=>kernel_rfl)
  (case xa_BadPlan=>k_is)
  (case xm_BadPlan=>kernel_rfl)
  (case xq_BadPlan=>k_is)
  (case x_BadTurn=>kernel_rfl)
  (case t_exc_BadPlan1=>k_is)
  (case t_exc_BadPlan2=>k_is)
  (case t_exc_BadPlan3=>k_is)
  (case t_exc_BadPlan4=>k_is)
  (case t_exc_BadPlan5=>k_is)
  (case t_exc_BadTurn1=>k_is)
  (case t_exc_BadTurn2=>k_is)
  (case t_exc_BadTurn3=>k_is)
  (case t_exc_BadTurn4=>k_is)
  (case t_exc_BadTurn5=>k_is)
  (case hd_BadPlan=>k_is)
  (case xn_BadPlan=>k_is)
  (case t_any_BadPlan_0=>kit_is)
  (case t_any_BadPlan_1=>kit_is)
  (case t_one_BadPlan_BadPlan=>kit_is)
  (case t_one_BadPlan_ValueError=>kit_is)
  (case t_exo_BadPlan_CrateError=>kts_exm)
  (case t_any_BadTurn_0=>kit_is)
  (case t_any_BadTurn_1=>kit_is)
  (case t_one_BadTurn_BadPlan=>kit_is)
  (case t_one_BadTurn_ValueError=>kit_is)
  (case t_exo_BadTurn_CrateError=>kts_exm)
