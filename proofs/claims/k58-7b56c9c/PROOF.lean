import PyProof.Rows.All
import Wide.All
import OpenK.AllK
import Wide.FinOn
import Lean
import PyProof.EqAt
import PyProof.EqKinds
import PyProof.TupleCall
import KE.KLam
import KE.KSortKey
import PyProof.ListRange
import PyProof.CollectIter
import PyProof.Rows.RuleB_bool
import PySem.Challenge.RW_cratefit_k58_first_fault_of_a_plan
set_option Elab.async false
set_option linter.all false
set_option maxRecDepth 100000
set_option hygiene false
local macro_rules
|`('!')=>`((by omega))
|`('#')=>`((fun _ _=>rfl))
namespace L2
open PySem PySem.Spec PyProof.Rows
abbrev v9:=Sum Int Str
def a2C:v9→Value→Bool
 | .inl k,v=>Value.isInt k v
 | .inr x,v=>Value.isStrOf x v
def b5X(w:World):v9→Int
 | .inl k=>hashInt k
 | .inr x=>hashStr w x
theorem F6:∀{k:v9} {v:Value},a2C k v=true→(∃i t,k=Sum.inl i∧v=Value.int i t)∨(∃x t,k=Sum.inr x∧v=Value.str x t)
 | .inl i,v,h=>by
  obtain⟨t,e⟩:=Value.isInt_shape (k:=i) (v:=v) h
  exact .inl ⟨i,t,rfl,e⟩
 | .inr x,v,h=>by
  obtain⟨t,e⟩:=Value.isStrOf_shape (x:=x) (v:=v) h
  exact .inr ⟨x,t,rfl,e⟩
theorem a8N(i:Int)(t:Tok):a2C (.inl i) (.int i t)=true:=by simp[a2C,Value.isInt]
theorem a8O(x:Str)(t:Tok):a2C (.inr x) (.str x t)=true:=by simp[a2C,Value.isStrOf]
theorem b3y(a b:Int):decide ((Sum.inl a:v9)=Sum.inl b)=(a == b):=by
 by_cases e:a=b
 ·subst e;simp
 ·have h:¬(Sum.inl a:v9)=Sum.inl b:=fun q=>e (Sum.inl.inj q)
  rw[decide_eq_false h]
  exact(beq_eq_false_iff_ne.mpr e).symm
theorem b3z(a b:Str):decide ((Sum.inr a:v9)=Sum.inr b)=decide (a=b):=by
 by_cases e:a=b
 ·subst e;simp
 ·have h:¬(Sum.inr a:v9)=Sum.inr b:=fun q=>e (Sum.inr.inj q)
  rw[decide_eq_false h,decide_eq_false e]
theorem b3A(a:Int)(b:Str):decide ((Sum.inl a:v9)=Sum.inr b)=false:=decide_eq_false (fun q=>nomatch q)
theorem b3B(a:Str)(b:Int):decide ((Sum.inr a:v9)=Sum.inl b)=false:=decide_eq_false (fun q=>nomatch q)
noncomputable def J4(prog:Program)(w:World):PySem.KeyKind prog w v9 where
 is:=a2C
 hash:=b5X w
 inj:=fun v a b ha hb=>by
  rcases F6 ha with⟨i,t,rfl,rfl⟩ | ⟨x,t,rfl,rfl⟩
  ·rcases F6 hb with⟨j,u,rfl,e⟩ | ⟨y,u,rfl,e⟩
   ·injection e with e1 _;rw[e1]
   ·exact nomatch e
  ·rcases F6 hb with⟨j,u,rfl,e⟩ | ⟨y,u,rfl,e⟩
   ·exact nomatch e
   ·injection e with e1 _;rw[e1]
 byValue:=fun k v h=>by
  rcases F6 h with⟨i,t,rfl,rfl⟩ | ⟨x,t,rfl,rfl⟩<;>rfl
 pyHash:=fun hv h=>by
  rcases F6 hv with⟨i,t,rfl,rfl⟩ | ⟨x,t,rfl,rfl⟩
  ·exact wpAny_pyHash_int h
  ·exact wpAny_pyHash_str h
 eqBool:=fun hu hv h=>by
  rcases F6 hu with⟨i,t,rfl,rfl⟩ | ⟨x,t,rfl,rfl⟩
  ·rcases F6 hv with⟨j,u,rfl,rfl⟩ | ⟨y,u,rfl,rfl⟩
   ·rw[b3y]at h;exact wpAny_eqBool_int h
   ·rw[b3A]at h;exact SeqAt.EqAt.int_str i t y u _ _ _ _ h
  ·rcases F6 hv with⟨j,u,rfl,rfl⟩ | ⟨y,u,rfl,rfl⟩
   ·rw[b3B]at h;exact SeqAt.EqAt.str_int x t j u _ _ _ _ h
   ·rw[b3z]at h;exact wpAny_eqBool_str h
 «strs» := fun k x t v h=>by
  rcases F6 h with⟨i,u,rfl,e⟩ | ⟨y,u,rfl,e⟩
  ·exact nomatch e
  ·injection e with e1 _
   subst e1
   cases v<;>rfl
theorem a6y(prog:Program)(w:World)(i:Int)(t:Tok):(J4 prog w).is (.inl i) (.int i t)=true:=a8N i t
theorem a6z(prog:Program)(w:World)(x:Str)(t:Tok):(J4 prog w).is (.inr x) (.str x t)=true:=a8O x t
inductive V where
 | non | bl (b:Bool) | int (i:Int) | str (x:Str) | byt (b:Array UInt8) | flt (b:UInt64) | ref (a:Addr) | ty (n:String)
 deriving DecidableEq
def RelV:V→Value→Prop
 | .non,u=>u=Value.none
 | .bl b,u=>u=Value.bool b
 | .int i,u=>∃t,u=Value.int i t
 | .str x,u=>∃t,u=Value.str x t
 | .byt b,u=>∃t,u=Value.bytes b t
 | .flt b,u=>∃t,u=Value.float b t
 | .ref a,u=>u=Value.ref a
 | .ty n,u=>u=Value.type n
abbrev Vals:List V→List Value→Prop:=Paired RelV
theorem Vals.length{xs:List V}{us:List Value}(r:Vals xs us):xs.length=us.length:=Paired.length r
theorem Vals.get:∀{xs:List V} {us:List Value} {i:Nat} {x:V},Vals xs us→xs[i]? = some x→∃u,us[i]? = some u∧RelV x u
 | _,_,_,_,.nil,e=>by simp at e
 | _,_,0,_,.cons r _,e=>by simp at e;subst e;exact⟨_,rfl,r⟩
 | _,_,i+1,x,.cons _ t,e=>by
  obtain⟨u,h1,h2⟩:=Vals.get (i:=i) (x:=x) t (by simpa using e)
  exact⟨u,by simpa using h1,h2⟩
theorem Vals.set{x:V}{u:Value}(r:RelV x u):∀{xs:List V} {us:List Value} (i:Nat),Vals xs us→Vals (xs.set i x) (us.set i u)
 | _,_,_,.nil=>.nil
 | _,_,0,.cons _ t=>.cons r t
 | _,_,i+1,.cons q t=>.cons q (Vals.set r i t)
theorem Vals.append:∀{xs ys:List V} {us ws:List Value},Vals xs us→Vals ys ws→Vals (xs++ys) (us++ws)
 | _,_,_,_,.nil,s=>s
 | _,_,_,_,.cons r t,s=>.cons r (Vals.append t s)
theorem Vals.take:∀{xs:List V} {us:List Value} (n:Nat),Vals xs us→Vals (xs.take n) (us.take n)
 | _,_,0,_=>.nil
 | _,_,_+1,.nil=>.nil
 | _,_,n+1,.cons r t=>.cons r (Vals.take n t)
theorem Vals.drop:∀{xs:List V} {us:List Value} (n:Nat),Vals xs us→Vals (xs.drop n) (us.drop n)
 | _,_,0,r=>r
 | _,_,_+1,.nil=>.nil
 | _,_,n+1,.cons _ t=>Vals.drop n t
def RelO:Option V→Option Value→Prop
 | some v,some u=>RelV v u
 | none,none=>True
 | _,_=>False
def KV{κ:Type}:List (κ×V)→List (κ×Value)→Prop:=Paired fun(p:κ×V) (q:κ×Value)=>p.1=q.1∧RelV p.2 q.2
def kV:v9→V
 | .inl i=>.int i
 | .inr x=>.str x
inductive HO where
 /-- a list -/
 | lst (xs:List V)
 /-- a tuple (never changes) -/
 | tup (xs:List V)
 /-- a dict whose keys are ints and texts; one whose keys are tuples of ints and texts (the empty one is both) -/
 | dK (kvs:List (v9×V)) | dT (kvs:List (List v9×V))
 /-- a set of ints: its members, its size -/
 | set (S:Int→Bool) (n:Nat)
 /-- an instance of the class at C, its dict at dx, its attributes -/
 | ins (C dx:Addr) (fs:List (Str×V))
 /-- the dict of the instance at x -/
 | own (x:Addr)
 /-- the dict of an exception -/
 | xd (fs:List (Str×V))
 /-- a bound method, f of x -/
 | met (f x:Addr)
 /-- a range object lo, lo + 1, .. below hi -/
 | rng (lo hi:Int)
 /-- a thing that is known to the object (the script; a dict while a loop walks it): read, never written while it is so -/
 | frz (o:Obj) (u:HO)
 /-- a code object's table -/
 | tbl (ps:Array Value)
 /-- any other thing, by what is true of its one object (a def of one's own: SetO a S n := HO.ext fun h => ..) -/
 | ext (φ:Heap→Prop)
abbrev Hp:=Addr→Option HO
def upd(H:Hp)(a:Addr)(o:HO):Hp:=fun b=>if b=a then some o else H b
theorem j8{H:Hp}{a:Addr}{o:HO}:upd H a o a=some o:=by unfold upd;rw[if_pos rfl]
theorem g7{H:Hp}{a b:Addr}{o:HO}(h:b≠a):upd H a o b=H b:=by unfold upd;rw[if_neg h]
theorem b1i{H:Hp}{a b:Addr}{o u:HO}(h:H a=some o)(h':H b=some u)(d:o≠u):a≠b:=by
 intro e;subst e;rw[h]at h';exact d (Option.some.inj h')
theorem r8{H:Hp}{a b:Addr}{o:HO}(h:H a=some o)(h':H b=none):a≠b:=by
 intro e;subst e;rw[h]at h';cases h'
section
variable (P:Program)(w:World)
noncomputable def ObjOk(H:Hp)(h:Heap)(a:Addr):HO→Prop
 | .lst xs=>xs.length≤sizeLine∧∃(its:List Value) (n:Nat),Vals xs its∧h.get? a=some { cls:=.type "list",data:=.seq its.toArray n }
 | .tup xs=>xs.length≤sizeLine∧∃its:List Value,Vals xs its∧IsTup h a its.toArray
 | .dK kvs=>kvs.length≤sizeLine∧(a == sysModules)=false∧∃vs,KV kvs vs∧h.DictOf (J4 P w) a vs
 | .dT kvs=>kvs.length≤sizeLine∧(a == sysModules)=false∧∃xs:List (List v9×Addr×Value),
   Paired (fun(p:List v9×V) (q:List v9×Addr×Value)=>p.1=q.1∧H q.2.1=some (.tup (p.1.map kV))∧RelV p.2 q.2.2) kvs xs ∧
   ∃o es ep,h.get? a=some o∧o.ExactDict∧o.data=.dict es ep∧es.toList=xs.map (entryOfKey (tupleKind (J4 P w)))∧(xs.map (·.1)).Nodup
 | .set S n=>h.SetOf (intKind P w) a S n
 | .ins C dx fs=>H dx=some (.own a)∧fs.length≤1000∧dx≠a∧h.get? a=some (W.instObj C dx) ∧
   ∃mA,h.Ns1 dx mA∧(∀f,RelO (fs.lookup f) (mA f))∧PySem.Within mA (fs.map (·.1))
 | .own _=>∃o,h.get? a=some o
 | .xd fs=>∃mA,h.Ns1 a mA∧∀f,RelO (fs.lookup f) (mA f)
 | .rng lo hi=>∃t u v,h.get? a=some { cls:=.type "range",data:=.fields #[.int lo t,.int hi u,.int 1 v] }
 | .frz o u=>h.get? a=some o∧ObjOk H h a u
 | .tbl qs=>∃ps:Array Value,h.get? a=some { cls:=.none,data:=.fields ps }∧TriplesOk ps.toList∧∀pos cv,codeAmong pos ps.toList=some cv→∃c oc u,cv=Value.ref c∧H c=some (.frz oc u)∧∃vs q t t2,oc.data=.fields vs∧vs[1]? = some (Value.str q t2)∧qs[0]? = some (Value.str q t)
 | .met f x=>h.get? a=some (W.methodObj (.ref f) (.ref x))
 | .ext φ=>φ h∧(∃o,h.get? a=some o)∧∀h1 h2:Heap,φ h1→(∀o,h1.get? a=some o→h2.get? a=some o)→φ h2
def HOk(H:Hp)(h:Heap):Prop:=∀a o,H a=some o→ObjOk P w H h a o
end
section
variable {P:Program}{w:World}{H H':Hp}{h h':Heap}{a:Addr}{o:HO}
theorem ObjOk.lt(x:ObjOk P w H h a o):a<h.objs.size:=by
 cases o with
 | lst xs=>obtain⟨_,_,_,_,e⟩:=x;exact Heap.lt_size e
 | tup xs=>obtain⟨_,_,_,p⟩:=x;exact p.lt
 | dK kvs=>obtain⟨_,_,_,_,o,_,_,e,_⟩:=x;exact Heap.lt_size e
 | dT kvs=>obtain⟨_,_,_,_,o,_,_,e,_⟩:=x;exact Heap.lt_size e
 | set S n=>obtain⟨o,_,_,_,e,_⟩:=x;exact Heap.lt_size e
 | ins C dx fs=>obtain⟨_,_,_,e,_⟩:=x;exact Heap.lt_size e
 | own y=>obtain⟨_,e⟩:=x;exact Heap.lt_size e
 | xd fs=>obtain⟨_,⟨_,_,_,e,_⟩,_⟩:=x;exact Heap.lt_size e
 | rng lo hi=>obtain⟨_,_,_,e⟩:=x;exact Heap.lt_size e
 | frz ob u=>obtain⟨e,_⟩:=x;exact Heap.lt_size e
 | tbl ps=>obtain⟨_,e,_⟩:=x;exact Heap.lt_size e
 | met f y=>exact Heap.lt_size (show h.get? a=some _ from x)
 | ext φ=>obtain⟨_,⟨_,e⟩,_⟩:=x;exact Heap.lt_size e
theorem Paired.mapP{α β:Type}{F G:α→β→Prop}:∀{l₁:List α} {l₂:List β},Paired F l₁ l₂→(∀a b,F a b→G a b)→Paired G l₁ l₂
 | _,_,.nil,_=>.nil
 | _,_,.cons r t,f=>.cons (f _ _ r) (Paired.mapP t f)
theorem ObjOk.stay(x:ObjOk P w H h a o)(k:∀b u,(b=a∨H b=some (.own a))→h.get? b=some u→h'.get? b=some u)
  (ho:∀b,H b=some (.own a)→H' b=some (.own a)) (ht:∀b xs,H b=some (.tup xs)→H' b=some (.tup xs)) (hz:∀b ob u,H b=some (.frz ob u)→H' b=some (.frz ob u)):ObjOk P w H' h' a o:=by
 induction o with
 | lst xs=>obtain⟨z,its,n,r,e⟩:=x;exact⟨z,its,n,r,k _ _ (.inl rfl) e⟩
 | tup xs=>obtain⟨z,its,r,ob,e,c⟩:=x;exact⟨z,its,r,ob,k _ _ (.inl rfl) e,c⟩
 | dK kvs=>obtain⟨z,y,vs,r,ob,es,ep,e,c⟩:=x;exact⟨z,y,vs,r,ob,es,ep,k _ _ (.inl rfl) e,c⟩
 | dT kvs =>
  obtain⟨z,y,xs,r,ob,es,ep,e,c⟩:=x
  exact⟨z,y,xs,Paired.mapP r fun p q z=>⟨z.1,ht _ _ z.2.1,z.2.2⟩,ob,es,ep,k _ _ (.inl rfl) e,c⟩
 | set S n=>obtain⟨ob,es,ep,t,e,c⟩:=x;exact⟨ob,es,ep,t,k _ _ (.inl rfl) e,c⟩
 | ins C dx fs =>
  obtain⟨d,z,ne,e,mA,⟨od,es,ep,e2,c⟩,r⟩:=x
  exact⟨ho _ d,z,ne,k _ _ (.inl rfl) e,mA,⟨od,es,ep,k _ _ (.inr d) e2,c⟩,r⟩
 | own y=>obtain⟨ob,e⟩:=x;exact⟨ob,k _ _ (.inl rfl) e⟩
 | xd fs=>obtain⟨mA,⟨od,es,ep,e,c⟩,r⟩:=x;exact⟨mA,⟨od,es,ep,k _ _ (.inl rfl) e,c⟩,r⟩
 | rng lo hi=>obtain⟨t,u,v,e⟩:=x;exact⟨t,u,v,k _ _ (.inl rfl) e⟩
 | frz ob u ih=>obtain⟨e,q⟩:=x;exact⟨k _ _ (.inl rfl) e,ih q⟩
 | tbl qs =>
  obtain⟨ps,e,tr,al⟩:=x
  refine⟨ps,k a _ (.inl rfl) e,tr,fun pos cv q=>?_⟩
  obtain⟨c,oc,u,e1,e3,r⟩:=al pos cv q
  exact⟨c,oc,u,e1,hz _ _ _ e3,r⟩
 | met f y =>
  have e:h.get? a=some (W.methodObj (.ref f) (.ref y)):=x
  show h'.get? a=some (W.methodObj (.ref f) (.ref y))
  exact k a _ (.inl rfl) e
 | ext φ=>obtain⟨p,⟨o,e⟩,st⟩:=x;exact⟨st _ _ p fun o q=>k _ _ (.inl rfl) q,⟨o,k _ _ (.inl rfl) e⟩,st⟩
theorem HOk.lt(x:HOk P w H h)(e:H a=some o):a<h.objs.size:=(x a o e).lt
theorem HOk.fresh(x:HOk P w H h)(e:h.objs.size≤a):H a=none:=by
 cases q:H a with
 | none=>rfl
 | some u=>exact absurd (Nat.lt_of_lt_of_le (x.lt q) e) (Nat.lt_irrefl _)
theorem HOk.kept(x:HOk P w H h)(k:∀b u,h.get? b=some u→h'.get? b=some u):HOk P w H h':=fun a o e =>
 (x a o e).stay (fun b u _ q=>k b u q) (fun _ q=>q) (fun _ _ q=>q) fun _ _ _ q=>q
theorem HOk.laid(x:HOk P w H h)(k:∀b u,h.get? b=some u→h'.get? b=some u)(hp:h.objs.size≤a)(new:ObjOk P w (upd H a o) h' a o):HOk P w (upd H a o) h':=fun b u e=>by
 have hn:=x.fresh hp
 by_cases hb:b=a
 ·subst hb;rw[j8]at e;cases e;exact new
 ·rw[g7 hb]at e
  exact(x b u e).stay (fun c v _ q=>k c v q) (fun c q=>by rw[g7 (r8 q hn)];exact q) (fun c xs q=>by rw[g7 (r8 q hn)];exact q) fun c ob u q=>by rw[g7 (r8 q hn)];exact q
end
def Rd(H:Hp)(a:Addr)(u:HO):Prop:=H a=some u∨∃o,H a=some (.frz o u)
theorem Rd.of{H:Hp}{a:Addr}{u:HO}(h:H a=some u):Rd H a u:=.inl h
theorem Rd.ok{P:Program}{w:World}{H:Hp}{h:Heap}{a:Addr}{u:HO}(r:Rd H a u)(x:HOk P w H h):ObjOk P w H h a u:=by
 rcases r with r | ⟨o,r⟩
 ·exact x a u r
 ·obtain⟨_,q⟩:=x a _ r
  exact q
def Mut:Option HO→Prop
 | some (.lst _)=>True
 | some (.dK _)=>True
 | some (.dT _)=>True
 | some (.set _ _)=>True
 | some (.ins _ _ _)=>True
 | some (.ext _)=>True
 | _=>False
section
variable {P:Program}{w:World}{H:Hp}{h h':Heap}{x e:Addr}{o':HO}
theorem HOk.write(ok:HOk P w H h)(mu:Mut (H x))(he:e=x∨H e=some (.own x))(k:∀b u,b≠e→h.get? b=some u→h'.get? b=some u)(heo:∃u,h'.get? e=some u)
  (new:ObjOk P w (upd H x o') h' x o'):HOk P w (upd H x o') h':=fun b u q=>by
 have nown:∀c y,H c=some (.own y)→c≠x:=fun c y r z=>by subst z;rw[r]at mu;exact mu
 have ntup:∀c xs,H c=some (.tup xs)→c≠x:=fun c xs r z=>by subst z;rw[r]at mu;exact mu
 by_cases hb:b=x
 ·subst hb;rw[j8]at q;cases q;exact new
 ·rw[g7 hb]at q
  by_cases hbe:b=e
  ·have q':H b=some (.own x):=by
    rcases he with z | z
    ·exact absurd (hbe.trans z) hb
    ·rw[hbe];exact z
   rw[q]at q';cases q'
   obtain⟨v,hv⟩:=heo
   exact⟨v,by rw[hbe];exact hv⟩
  ·refine(ok b u q).stay (fun c v hc r=>k c v ?_ r) (fun c r=>by rw[g7 (nown c b r)];exact r) (fun c xs r=>by rw[g7 (ntup c xs r)];exact r) fun c ob u r=>by rw[g7 (fun z=>by subst z;rw[r]at mu;exact mu)];exact r
   rcases hc with rfl | hc
   ·exact hbe
   ·rintro rfl
    rcases he with z | z
    ·exact nown c b hc z
    ·rw[hc]at z;cases z;exact hb rfl
end
structure Un(fs ex:List Addr)(H H':Hp)(h h':Heap):Prop where
 keep:∀b o,h.get? b=some o→H b=none→b ∉ fs→b ∉ ex→h'.get? b=some o
 slot:∀b o,h.get? b=some o→H b=none→b∈fs→b ∉ ex→∃sl,h'.get? b=some { o with slots:=sl }
 free:∀b o,h.get? b=some o→H b=none→b ∉ ex→H' b=none
 there:∀b o,h.get? b=some o→b ∉ ex→∃o',h'.get? b=some o'
 tups:∀b xs,H b=some (.tup xs)→H' b=some (.tup xs)
 frzs:∀b o u,H b=some (.frz o u)→H' b=some (.frz o u)
 tbls:∀b ps,H b=some (.tbl ps)→∃more,H' b=some (.tbl (ps++more))
section
variable {fs fs' ex ex':List Addr}{H H1 H2:Hp}{h h1 h2 h':Heap}{a x e:Addr}{o:HO}
theorem Un.any(u:Un fs ex H H1 h h1){b:Addr}{ob:Obj}(q:h.get? b=some ob)(n:H b=none)(hx:b ∉ ex):∃sl,h1.get? b=some { ob with slots:=sl }:=by
 by_cases hb:b∈fs
 ·exact u.slot b ob q n hb hx
 ·exact⟨ob.slots,u.keep b ob q n hb hx⟩
theorem Un.trans(a:Un fs ex H H1 h h1)(b:Un fs ex H1 H2 h1 h2):Un fs ex H H2 h h2 where
 keep:=fun c ob q n hc hx=>b.keep c ob (a.keep c ob q n hc hx) (a.free c ob q n hx) hc hx
 slot:=fun c ob q n hc hx=>by
  obtain⟨sl,e1⟩:=a.slot c ob q n hc hx
  obtain⟨sl',e2⟩:=b.slot c _ e1 (a.free c ob q n hx) hc hx
  exact⟨sl',e2⟩
 free:=fun c ob q n hx=>by
  obtain⟨o',e1⟩:=a.there c ob q hx
  exact b.free c o' e1 (a.free c ob q n hx) hx
 there:=fun c ob q hx=>by
  obtain⟨o',e1⟩:=a.there c ob q hx
  exact b.there c o' e1 hx
 tups:=fun c xs q=>b.tups c xs (a.tups c xs q)
 frzs:=fun c ob xs q=>b.frzs c ob xs (a.frzs c ob xs q)
 tbls:=fun c ps q=>by
  obtain⟨m1,e1⟩:=a.tbls c ps q
  obtain⟨m2,e2⟩:=b.tbls c _ e1
  exact⟨m1++m2,by rw[e2,Array.append_assoc]⟩
theorem Un.kept(k:∀b u,h.get? b=some u→h'.get? b=some u):Un fs ex H H h h' :=
 ⟨fun b ob q _ _ _=>k b ob q,fun b ob q _ _ _=>⟨ob.slots,k b ob q⟩,fun _ _ _ n _=>n,fun b ob q _=>⟨ob,k b ob q⟩,fun _ _ q=>q,fun _ _ _ q=>q,fun _ ps q=>⟨#[],by rw[q];simp⟩⟩
theorem Un.refl:Un fs ex H H h h:=Un.kept fun _ _ q=>q
theorem Un.laid(k:∀b u,h.get? b=some u→h'.get? b=some u)(hp:h.objs.size≤a)(hn:H a=none):Un fs ex H (upd H a o) h h' where
 keep:=fun b u q _ _ _=>k b u q
 slot:=fun b u q _ _ _=>⟨u.slots,k b u q⟩
 free:=fun b u q n _=>by rw[g7 (Nat.ne_of_lt (Nat.lt_of_lt_of_le (Heap.lt_size q) hp))];exact n
 there:=fun b u q _=>⟨u,k b u q⟩
 tups:=fun b xs q=>by rw[g7 (r8 q hn)];exact q
 frzs:=fun b u xs q=>by rw[g7 (r8 q hn)];exact q
 tbls:=fun b ps q=>⟨#[],by rw[g7 (r8 q hn),q];simp⟩
theorem Un.write(mu:Mut (H x))(he:e=x∨H e=some (.own x))(k:∀b u,b≠e→h.get? b=some u→h'.get? b=some u)(heo:∃u,h'.get? e=some u):Un fs ex H (upd H x o) h h':=by
 have hx:∀b,H b=none→b≠x:=fun b n z=>by subst z;rw[n]at mu;exact mu
 have hb:∀b,H b=none→b≠e:=fun b n z=>by
  subst z
  rcases he with r | r
  ·exact hx b n r
  ·rw[n]at r;cases r
 have hm:∀b u,H b=some u→¬Mut (some u)→b≠x:=fun b u q nm z=>by subst z;rw[q]at mu;exact nm mu
 refine⟨fun b u q n _ _=>k b u (hb b n) q,fun b u q n _ _=>⟨u.slots,k b u (hb b n) q⟩,fun b u q n _=>by rw[g7 (hx b n)];exact n,fun b u q _=>?_,
  fun b xs q=>by rw[g7 (hm b _ q fun z=>z)];exact q,fun b u xs q=>by rw[g7 (hm b _ q fun z=>z)];exact q,fun b ps q=>⟨#[],by rw[g7 (hm b _ q fun z=>z),q];simp⟩⟩
 by_cases hbe:b=e
 ·subst hbe;exact heo
 ·exact⟨u,k b u hbe q⟩
theorem Un.mono(u:Un fs ex H H1 h h1)(hs:∀b∈fs,b∈fs')(hx:∀b∈ex,b∈ex'):Un fs' ex' H H1 h h1 :=
 ⟨fun b ob q n hb he=>u.keep b ob q n (fun z=>hb (hs b z)) fun z=>he (hx b z),fun _ _ q n _ he=>u.any q n fun z=>he (hx _ z),fun b ob q n he=>u.free b ob q n fun z=>he (hx b z),fun b ob q he=>u.there b ob q fun z=>he (hx b z),u.tups,u.frzs,u.tbls⟩
end
def trk(h:Heap)(H:Hp):List Addr:=(List.range h.objs.size).filter fun a=>(H a).isSome
def a08(h:Heap)(H:Hp):Heap:=W.hideAll h (trk h H)
theorem a8Q(h:Heap)(H:Hp):(a08 h H).objs.size=h.objs.size:=W.hideAll_size _ _
theorem a94{h:Heap}{H:Hp}{b:Addr}{o:Obj}(e:h.get? b=some o)(n:H b=none):(a08 h H).get? b=some o :=
 W.hideAll_get _ e fun hm=>by
  have q:(H b).isSome=true:=(List.mem_filter.mp hm).2
  rw[n]at q;simp at q
theorem b1Y{h:Heap}{H:Hp}{b:Addr}{o:Obj}(e:(a08 h H).get? b=some o):h.get? b=some o∧H b=none:=by
 have e':h.get? b=some o:=W.of_hideAll (trk h H) e
 refine⟨e',?_⟩
 cases q:H b with
 | none=>rfl
 | some x =>
  have hm:b∈trk h H:=List.mem_filter.mpr ⟨List.mem_range.mpr (Heap.lt_size e'),by simp[q]⟩
  have z:(a08 h H).get? b=none:=W.hideAll_none (trk h H) hm
  rw[z]at e;cases e
def b1Z(g h:Heap)(L:Addr):List (Addr×Obj):=(List.range h.objs.size).filterMap fun a=>if a=L∨(g.get? a).isSome=true then none else(h.get? a).map fun o=>(a,o)
def v7(g h:Heap)(L d:Addr):List (Addr×Obj):=(b1Z g h L).filter fun p=>decide (p.1≠d)
structure Mod(K:W.Frag)(mg:Str→Option Value)(base:Heap):Prop where
 kin:K.In base
 glob:base.Ns mainGlobals mg
 blt:∃mb,base.Ns builtinsNs mb∧∀x:Str,x≠"__name__"→mb x=bootBuiltins x
 nolimit:base.NoLimit
structure Cx where
 prog:Program
 w:World
 K:W.Frag
 mg:Str→Option Value
 base:Heap
 A:Around
 N:List Str
 s₀:Shared
 H₀:Hp
 env:Env
 outer:List Env
 stack:List Env
 ex:List Addr
 fn:Str→Bool
 calm:Bool
 pn:List (Addr×Obj)
 xe:Value→Shared→Prop
def N4(l:List Env):List Addr:=l.filterMap (·.frame)
abbrev Cx.fs(X:Cx):List Addr:=N4 X.outer
def Vis(sc:Scope)(x:Str):Prop:=sc.names.lookup x=some .local∨sc.names.lookup x=some .cell∨sc.names.lookup x=some .free
def Loc(sc:Scope)(x:Str):Prop:=sc.names.lookup x=some .local∨sc.names.lookup x=some .cell
def b5Y(env:Env)(h:Heap)(m:Str→Option Value)(x:Str)(u:Value):Prop :=
 (env.kindOf x=some .local∧m x=some u)∨((env.kindOf x=some .cell∨env.kindOf x=some .free)∧∃c,env.cells.lookup x=some c∧h.IsCell c (some u))
structure Cx.Ok(X:Cx):Prop where
 mod:Mod X.K X.mg X.base
 kind:X.env.scope.kind=.function
 glob:X.env.globals=mainGlobals
 blt:X.env.builtins=builtinsNs
 above:X.s₀.heap.objs.size≤X.env.locals
 inj:∀x y c,X.env.cells.lookup x=some c→X.env.cells.lookup y=some c→x=y
 has:∀x,(X.env.kindOf x=some .cell∨X.env.kindOf x=some .free)→∃c,X.env.cells.lookup x=some c
 cab:∀x c,X.fn x=true→X.env.cells.lookup x=some c→X.s₀.heap.objs.size≤c
 hd:X.calm=true→X.A.handled=none
 frames:X.A.frames=some X.stack
 stk:X.stack=X.outer∨(X.stack=X.env::X.outer∧X.env.frame=some X.env.locals)
 exf:∀b∈X.ex,b≠X.env.locals∧∀x c,X.env.cells.lookup x=some c→c≠b
 bs:∀b o,X.base.get? b=some o→X.s₀.heap.get? b=some o∧X.H₀ b=none
 bsz:X.base.objs.size≤X.s₀.heap.objs.size
 noex:∀b o,X.base.get? b=some o→b ∉ X.ex
 exfs:∀b∈X.ex,b ∉ X.fs
 funs:X.s₀.heap.FunFrames X.base X.outer
 frf:∀b∈X.fs,X.H₀ b=none
structure Inv(X:Cx)(pins:List (Addr×Obj))(σ:List (Option V))(H:Hp)(s:Shared):Prop where
 ok:X.Ok
 os:s.os=X.s₀.os
 bare:AllBare s.gens
 base:Un X.fs X.ex X.H₀ H X.s₀.heap s.heap
 loc:∃m,s.heap.Ns X.env.locals m∧∀(i:Nat) (x:Str) (v:V),X.N[i]? = some x→σ[i]? = some (some v)→Vis X.env.scope x→∃u,RelV v u∧b5Y X.env s.heap m x u
 cell:∀x c,X.env.cells.lookup x=some c→∃v,s.heap.IsCell c v
 free:H X.env.locals=none
 freeC:∀x c,X.env.cells.lookup x=some c→H c=none
 pin:∀p∈X.pn++pins,s.heap.get? p.1=some p.2∧H p.1=none∧p.1≠X.env.locals∧p.1 ∉ X.fs∧∀v,p.2.data≠.cell v
 hok:HOk X.prog X.w H s.heap
 len:σ.length=X.N.length
section
variable {X:Cx}{pins:List (Addr×Obj)}{σ:List (Option V)}{H H':Hp}{s:Shared}{h':Heap}
theorem Cx.Ok.nofr(ok:X.Ok){b:Addr}{o:Obj}(e:X.base.get? b=some o):b ∉ X.fs:=fun hb=>by
 have:=(ok.funs.mem hb).1
 rw[e]at this;cases this
theorem Inv.bs(I:Inv X pins σ H s):∀b o,X.base.get? b=some o→s.heap.get? b=some o∧H b=none:=fun b o e =>
 ⟨I.base.keep b o (I.ok.bs b o e).1 (I.ok.bs b o e).2 (I.ok.nofr e) (I.ok.noex b o e),I.base.free b o (I.ok.bs b o e).1 (I.ok.bs b o e).2 (I.ok.noex b o e)⟩
theorem Inv.bk(I:Inv X pins σ H s):∀b o,X.base.get? b=some o→s.heap.get? b=some o:=fun b o e=>(I.bs b o e).1
theorem Inv.mod(I:Inv X pins σ H s):Mod X.K X.mg X.base:=I.ok.mod
theorem Inv.kIn(I:Inv X pins σ H s):X.K.In s.heap:=I.ok.mod.kin.keeps I.bk
theorem Inv.nolimit(I:Inv X pins σ H s):s.heap.NoLimit:=I.ok.mod.nolimit.keeps I.bk
theorem Inv.fr(I:Inv X pins σ H s):∃m,Fr X.base X.env.locals s.heap m :=
 let ⟨m,hn,_⟩:=I.loc
 ⟨m,hn,I.bk,Nat.le_trans I.ok.bsz I.ok.above⟩
theorem Inv.lt(I:Inv X pins σ H s):X.env.locals<s.heap.objs.size:=let ⟨_,hn,_⟩:=I.loc;hn.lt
theorem Inv.sz(I:Inv X pins σ H s):X.s₀.heap.objs.size≤s.heap.objs.size:=Nat.le_trans I.ok.above (Nat.le_of_lt I.lt)
theorem Inv.nofs(I:Inv X pins σ H s){a:Addr}(h:s.heap.objs.size≤a):a ∉ X.fs:=fun hb=>by
 obtain⟨_,o,ho,_⟩:=I.ok.funs.mem hb
 exact absurd (Nat.lt_of_lt_of_le (Heap.lt_size ho) (Nat.le_trans I.sz h)) (Nat.lt_irrefl _)
theorem Inv.cne(I:Inv X pins σ H s):∀x c,X.env.cells.lookup x=some c→c≠X.env.locals:=fun x c e z=>by
 obtain⟨v,o,ho,hd⟩:=I.cell x c e
 obtain⟨m,⟨o',es,ep,ho',hd',_⟩,_⟩:=I.loc
 rw[z,ho']at ho;cases ho;rw[hd']at hd;cases hd
theorem Inv.funs(I:Inv X pins σ H s):s.heap.FunFrames X.base X.outer:=by
 have all:∀(l:List Env),(∀b∈N4 l,b∈X.fs)→X.s₀.heap.FunFrames X.base l→s.heap.FunFrames X.base l:=by
  intro l
  induction l with
  | nil=>intro _ _;trivial
  | cons env r ih =>
   intro hs hl
   obtain⟨hk,⟨L,o,hf,hn,ho,hd⟩,hr⟩:=hl
   have hL:L∈X.fs:=hs L (by unfold N4;rw[List.filterMap_cons,hf];exact List.mem_cons_self)
   obtain⟨sl,e⟩:=I.base.slot L o ho (I.ok.frf L hL) hL fun z=>I.ok.exfs L z hL
   exact⟨hk,⟨L,_,hf,hn,e,hd⟩,ih (fun b hb=>hs b (by unfold N4;rw[List.filterMap_cons,hf];exact List.mem_cons_of_mem _ hb)) hr⟩
 exact all X.outer (fun _ hb=>hb) I.ok.funs
theorem Inv.stack(I:Inv X pins σ H s):s.heap.FunFrames X.base X.stack:=by
 rcases I.ok.stk with e | ⟨e,hf⟩
 ·rw[e];exact I.funs
 ·rw[e]
  obtain⟨m,hn,_⟩:=I.loc
  refine .cons (by rw[I.ok.kind];decide) hf hn ?_ I.funs
  exact Heap.get?_none_of_le (Nat.le_trans I.ok.bsz I.ok.above)
theorem Inv.stkSub(I:Inv X pins σ H s):∀b∈N4 X.stack,b∈X.env.locals::X.fs:=fun b hb=>by
 rcases I.ok.stk with e | ⟨e,hf⟩
 ·rw[e]at hb;exact List.mem_cons_of_mem _ hb
 ·rw[e]at hb
  unfold N4 at hb
  rw[List.filterMap_cons,hf]at hb
  exact hb
theorem Inv.stkFree(I:Inv X pins σ H s):∀b∈N4 X.stack,H b=none:=fun b hb=>by
 rcases List.mem_cons.mp (I.stkSub b hb)with e | hb
 ·rw[e];exact I.free
 ·obtain⟨_,o,ho,_⟩:=I.ok.funs.mem hb
  exact I.base.free b o ho (I.ok.frf b hb) fun z=>I.ok.exfs b z hb
theorem Inv.step{g':Array GenState}{t':Nat}{d':Drawn}{ch:List Addr}(I:Inv X pins σ H s)
  (hch:∀b∈ch,(b∈X.ex∨X.s₀.heap.objs.size≤b)∧b≠X.env.locals∧(∀x c,X.env.cells.lookup x=some c→c≠b)∧∀p∈X.pn++pins,p.1≠b)
  (keep:∀b o,b≠X.env.locals→b ∉ X.fs→b ∉ ch→s.heap.get? b=some o→H b=none→h'.get? b=some o)
  (slot:∀b o,b≠X.env.locals→b∈X.fs→b ∉ ch→s.heap.get? b=some o→H b=none→∃sl,h'.get? b=some { o with slots:=sl }) (free:∀b o,b ∉ ch→s.heap.get? b=some o→H b=none→H' b=none)
  (there:∀b o,b ∉ ch→s.heap.get? b=some o→∃o',h'.get? b=some o')
  (tups:∀b xs,H b=some (.tup xs)→H' b=some (.tup xs)) (frzs:∀b o u,H b=some (.frz o u)→H' b=some (.frz o u)) (tbls:∀b ps,H b=some (.tbl ps)→∃more,H' b=some (.tbl (ps++more)))
  (ns:∀m,s.heap.Ns X.env.locals m→h'.Ns X.env.locals m) (hok:HOk X.prog X.w H' h') (hg:AllBare g') :
  Inv X pins σ H' { s with heap:=h',gens:=g',drawn:=d',toks:=t' }:=by
 have neL:∀b o,X.s₀.heap.get? b=some o→b≠X.env.locals:=fun b o e=>Nat.ne_of_lt (Nat.lt_of_lt_of_le (Heap.lt_size e) I.ok.above)
 have neC:∀b o,X.s₀.heap.get? b=some o→b ∉ X.ex→b ∉ ch:=fun b o e hx hb=>by
  rcases(hch b hb).1 with z | z
  ·exact hx z
  ·exact absurd (Nat.lt_of_lt_of_le (Heap.lt_size e) z) (Nat.lt_irrefl _)
 have cellK:∀x c,X.env.cells.lookup x=some c→∀v,s.heap.IsCell c v→h'.IsCell c v:=fun x c e v ⟨o,ho,hd⟩=>by
  have nch:c ∉ ch:=fun z=>(hch c z).2.2.1 x c e rfl
  by_cases hc:c∈X.fs
  ·obtain⟨sl,q⟩:=slot c o (I.cne x c e) hc nch ho (I.freeC x c e)
   exact⟨_,q,hd⟩
  ·exact⟨o,keep c o (I.cne x c e) hc nch ho (I.freeC x c e),hd⟩
 refine⟨I.ok,I.os,hg,⟨fun b o e n hb hx=>?_,fun b o e n hb hx=>?_,fun b o e n hx=>?_,fun b o e hx=>?_,fun b xs e=>tups b xs (I.base.tups b xs e),fun b o xs e=>frzs b o xs (I.base.frzs b o xs e),fun b ps e=>?_⟩,?_,fun x c e=>?_,?_,fun x c e=>?_,fun p hp=>?_,hok,I.len⟩
 ·exact keep b o (neL b o e) hb (neC b o e hx) (I.base.keep b o e n hb hx) (I.base.free b o e n hx)
 ·obtain⟨sl,e1⟩:=I.base.slot b o e n hb hx
  obtain⟨sl',e2⟩:=slot b _ (neL b o e) hb (neC b o e hx) e1 (I.base.free b o e n hx)
  exact⟨sl',e2⟩
 ·obtain⟨o',e1⟩:=I.base.there b o e hx
  exact free b o' (neC b o e hx) e1 (I.base.free b o e n hx)
 ·obtain⟨o',e1⟩:=I.base.there b o e hx
  exact there b o' (neC b o e hx) e1
 ·obtain⟨m1,e1⟩:=I.base.tbls b ps e
  obtain⟨m2,e2⟩:=tbls b _ e1
  exact⟨m1++m2,by rw[e2,Array.append_assoc]⟩
 ·obtain⟨m,hn,hl⟩:=I.loc
  refine⟨m,ns m hn,fun i x v e1 e2 e3=>?_⟩
  obtain⟨u,r,l⟩:=hl i x v e1 e2 e3
  refine⟨u,r,?_⟩
  rcases l with l | ⟨k,c,e,z⟩
  ·exact .inl l
  ·exact .inr ⟨k,c,e,cellK x c e _ z⟩
 ·obtain⟨v,z⟩:=I.cell x c e
  exact⟨v,cellK x c e v z⟩
 ·obtain⟨m,⟨o,_,_,ho,_⟩,_⟩:=I.loc
  exact free _ o (fun z=>(hch _ z).2.1 rfl) ho I.free
 ·obtain⟨v,o,ho,hd⟩:=I.cell x c e
  exact free c o (fun z=>(hch c z).2.2.1 x c e rfl) ho (I.freeC x c e)
 ·obtain⟨e,n,ne,nf,d⟩:=I.pin p hp
  have nch:p.1 ∉ ch:=fun z=>(hch p.1 z).2.2.2 p hp rfl
  exact⟨keep p.1 p.2 ne nf nch e n,free p.1 p.2 nch e n,ne,nf,d⟩
theorem Inv.un{t':Nat}(I:Inv X pins σ H s)(u:Un X.fs [] H H' s.heap h')(hok:HOk X.prog X.w H' h'):Inv X pins σ H' { s with heap:=h',toks:=t' }:=by
 obtain⟨m,⟨o,es,ep,ho,r⟩,_⟩:=id I.loc
 obtain⟨sl,hL⟩:=u.any ho I.free (by simp)
 exact I.step (g':=s.gens) (d':=s.drawn) (ch:=[]) (fun _ z=>nomatch z) (fun b o _ hb _ e n=>u.keep b o e n hb (by simp)) (fun b o _ hb _ e n=>u.slot b o e n hb (by simp)) (fun b o _ e n=>u.free b o e n (by simp)) (fun b o _ e=>u.there b o e (by simp)) u.tups u.frzs u.tbls (fun m' hm=>by
  obtain⟨o',es',ep',ho',r'⟩:=hm
  rw[ho]at ho';cases ho'
  exact⟨_,es',ep',hL,r'⟩) hok I.bare
theorem Inv.call{g':Array GenState}{t':Nat}{d':Drawn}{ch:List Addr}(I:Inv X pins σ H s)(u:Un (N4 X.stack) ch H H' s.heap h')(hok:HOk X.prog X.w H' h')(hg:AllBare g')
  (hch:∀b∈ch,(b∈X.ex∨X.s₀.heap.objs.size≤b)∧b≠X.env.locals∧(∀x c,X.env.cells.lookup x=some c→c≠b)∧∀p∈X.pn++pins,p.1≠b) :
  Inv X pins σ H' { s with heap:=h',gens:=g',drawn:=d',toks:=t' }:=by
 obtain⟨m,⟨o,es,ep,ho,r⟩,_⟩:=id I.loc
 obtain⟨sl,hL⟩:=u.any ho I.free fun z=>(hch _ z).2.1 rfl
 exact I.step (ch:=ch) hch (fun b o hL hb hc e n=>u.keep b o e n (fun z=>(List.mem_cons.mp (I.stkSub b z)).elim hL hb) hc) (fun b o _ _ hc e n=>u.any e n hc) (fun b o hc e n=>u.free b o e n hc) (fun b o hc e=>u.there b o e hc) u.tups u.frzs u.tbls (fun m' hm=>by
  obtain⟨o',es',ep',ho',r'⟩:=hm
  rw[ho]at ho';cases ho'
  exact⟨_,es',ep',hL,r'⟩) hok hg
theorem Inv.turned{t':Nat}{it:Addr}(I:Inv X pins σ H s)(k:∀b o,b≠it→s.heap.get? b=some o→h'.get? b=some o)(hn:H it=none)(hL:it≠X.env.locals)
  (h1:it∈X.ex∨X.s₀.heap.objs.size≤it) (h2:∀x c,X.env.cells.lookup x=some c→c≠it) (h3:∀p∈X.pn++pins,p.1≠it):Inv X pins σ H { s with heap:=h',toks:=t' }:=by
 have nit:∀b u,H b=some u→b≠it:=fun b u e z=>by rw[z,hn]at e;cases e
 refine I.step (g':=s.gens) (d':=s.drawn) (ch:=[it]) (fun b hb=>?_) (fun b o _ _ hc e _=>k b o (fun z=>hc (by simp[z])) e) (fun b o _ _ hc e _=>⟨o.slots,k b o (fun z=>hc (by simp[z])) e⟩) (fun _ _ _ _ n=>n)
  (fun b o hc e=>⟨o,k b o (fun z=>hc (by simp[z])) e⟩) (fun _ _ e=>e) (fun _ _ _ e=>e) (fun b ps e=>⟨#[],by rw[e];simp⟩) (fun m hm=>?_) (fun b u e=>?_) I.bare
 ·have e:b=it:=by simpa using hb
  subst e
  exact⟨h1,hL,h2,h3⟩
 ·obtain⟨o,es,ep,ho,r⟩:=hm
  exact⟨o,es,ep,k _ o (Ne.symm hL) ho,r⟩
 ·refine(I.hok b u e).stay (fun c v hc q=>k c v ?_ q) (fun _ q=>q) (fun _ _ q=>q) fun _ _ _ q=>q
  rcases hc with z | z
  ·rw[z];exact nit b u e
  ·exact nit c _ z
theorem Inv.tok(I:Inv X pins σ H s)(t:Nat):Inv X pins σ H { s with toks:=t }:=I.un (h':=s.heap) (t':=t) Un.refl I.hok
theorem Inv.kept{t':Nat}(I:Inv X pins σ H s)(k:∀b u,s.heap.get? b=some u→h'.get? b=some u):Inv X pins σ H { s with heap:=h',toks:=t' }:=I.un (Un.kept k) (I.hok.kept k)
theorem Inv.laid{a:Addr}{o:HO}{t':Nat}(I:Inv X pins σ H s)(k:∀b u,s.heap.get? b=some u→h'.get? b=some u)(hp:s.heap.objs.size≤a)(new:ObjOk X.prog X.w (upd H a o) h' a o) :
  Inv X pins σ (upd H a o) { s with heap:=h',toks:=t' }:=I.un (Un.laid k hp (I.hok.fresh hp)) (I.hok.laid k hp new)
theorem Inv.write{x e:Addr}{o:HO}{t':Nat}(I:Inv X pins σ H s)(mu:Mut (H x))(he:e=x∨H e=some (.own x))(k:∀b u,b≠e→s.heap.get? b=some u→h'.get? b=some u)(heo:∃u,h'.get? e=some u)
  (new:ObjOk X.prog X.w (upd H x o) h' x o):Inv X pins σ (upd H x o) { s with heap:=h',toks:=t' }:=I.un (Un.write mu he k heo) (I.hok.write mu he k heo new)
theorem Inv.weak{σ':List (Option V)}(I:Inv X pins σ H s)(hl:σ'.length=σ.length)(w:∀(i:Nat) v,σ'[i]? = some (some v)→σ[i]? = some (some v)):Inv X pins σ' H s :=
 ⟨I.ok,I.os,I.bare,I.base,let ⟨m,hn,hl'⟩:=I.loc; ⟨m,hn,fun i x v e1 e2 e3=>hl' i x v e1 (w i v e2) e3⟩,I.cell,I.free,I.freeC,I.pin,I.hok,hl.trans I.len⟩
theorem Inv.pins_of{pins':List (Addr×Obj)}(I:Inv X pins σ H s)(h:∀p∈pins',s.heap.get? p.1=some p.2∧H p.1=none∧p.1≠X.env.locals∧p.1 ∉ X.fs∧∀v,p.2.data≠.cell v):Inv X pins' σ H s :=
 ⟨I.ok,I.os,I.bare,I.base,I.loc,I.cell,I.free,I.freeC,fun p hp=>(List.mem_append.mp hp).elim (fun z=>I.pin p (List.mem_append_left _ z)) (h p),I.hok,I.len⟩
theorem a5x{N:List Str}(hN:N.Nodup){i j:Nat}{x:Str}(a:N[i]? = some x)(b:N[j]? = some x):i=j:=by
 obtain⟨h1,e1⟩:=List.getElem?_eq_some_iff.mp a
 obtain⟨h2,e2⟩:=List.getElem?_eq_some_iff.mp b
 exact(List.getElem_inj hN).mp (e1.trans e2.symm)
theorem a4N{M:Model}{A:Around}{E:Value→Shared→Prop}{i:Nat}{x:Str}{v:V}{u:Value}{Q:Unit→Shared→Prop}(I:Inv X pins σ H s)(hN:X.N.Nodup)(hi:X.N[i]? = some x)(hx:Loc X.env.scope x)(r:RelV v u)
  (h:∀s',Inv X pins (σ.set i (some v)) H s'→(∃a,Heap.SameBut a s.heap s'.heap∧(a=X.env.locals∨X.env.cells.lookup x=some a))→Q () s') (hf:X.fn x=true∨X.env.scope.names.lookup x=some .local:=by first | exact .inl rfl | exact .inr rfl | assumption):wpAny M A (storeName X.env x u) Q E s:=by
 obtain⟨m,hn,hl⟩:=id I.loc
 have hcls:(X.env.scope.kind == .class || (X.env.scope.kind == .module && X.env.locals != X.env.globals))=false:=by rw[I.ok.kind];rfl
 have hiσ:i<σ.length:=by rw[I.len];exact(List.getElem?_eq_some_iff.mp hi).1
 have cne:=I.cne
 have tracked:∀{a:Addr} {h':Heap},(∃o,s.heap.get? a=some o∧H a=none)→Heap.SameBut a s.heap h'→HOk X.prog X.w H h':=fun{a h'} ha hs b ob e=>by
  obtain⟨_,_,hfree⟩:=ha
  refine(I.hok b ob e).stay (fun c w' hc q=>(hs.2 c ?_).trans q) (fun _ q=>q) (fun _ _ q=>q) fun _ _ _ q=>q
  rintro rfl
  rcases hc with rfl | hc
  ·rw[hfree]at e;cases e
  ·rw[hfree]at hc;cases hc
 rcases hx with hk | hk
 ·refine wpAny_storeName_local hk hn (fun h' hn' hs=>?_) hcls
  obtain⟨oL,_,_,hoL,_⟩:=id hn
  refine h _ ⟨I.ok,I.os,I.bare,⟨fun b o e n hb hx=>?_,fun b o e n hb hx=>?_,I.base.free,fun b o e hx=>?_,I.base.tups,I.base.frzs,I.base.tbls⟩,⟨_,hn',fun j y v' e1 e2 e3=>?_⟩,fun y c e=>?_,I.free,I.freeC,fun p hp=>?_,tracked ⟨oL,hoL,I.free⟩ hs,by simpa using I.len⟩ ⟨_,hs,.inl rfl⟩
  ·exact(hs.2 b (Nat.ne_of_lt (Nat.lt_of_lt_of_le (Heap.lt_size e) I.ok.above))).trans (I.base.keep b o e n hb hx)
  ·obtain⟨sl,e1⟩:=I.base.slot b o e n hb hx
   exact⟨sl,(hs.2 b (Nat.ne_of_lt (Nat.lt_of_lt_of_le (Heap.lt_size e) I.ok.above))).trans e1⟩
  ·obtain⟨o',e1⟩:=I.base.there b o e hx
   exact⟨o',(hs.2 b (Nat.ne_of_lt (Nat.lt_of_lt_of_le (Heap.lt_size e) I.ok.above))).trans e1⟩
  ·by_cases hj:j=i
   ·subst hj
    rw[hi]at e1;cases e1
    rw[List.getElem?_set_self hiσ]at e2
    cases e2
    exact⟨u,r,.inl ⟨hk,by simp⟩⟩
   ·rw[List.getElem?_set_ne (Ne.symm hj)]at e2
    obtain⟨u',r',q⟩:=hl j y v' e1 e2 e3
    refine⟨u',r',?_⟩
    rcases q with⟨k,e⟩ | ⟨k,c,e,z⟩
    ·refine .inl ⟨k,?_⟩
     have:y≠x:=fun e=>hj (a5x hN e1 (e▸hi))
     simp[this,e]
    ·exact .inr ⟨k,c,e,z.sameBut hs (cne y c e)⟩
  ·obtain⟨w',z⟩:=I.cell y c e
   exact⟨w',z.sameBut hs (cne y c e)⟩
  ·obtain⟨e,n,ne,nf,d⟩:=I.pin p hp
   exact⟨(hs.2 p.1 ne).trans e,n,ne,nf,d⟩
 ·have hfn:X.fn x=true:=by
   rcases hf with z | z
   ·exact z
   ·rw[z]at hk;cases hk
  obtain⟨c,hc⟩:=I.ok.has x (.inl hk)
  obtain⟨w',z⟩:=I.cell x c hc
  refine wpAny_storeName_cell I.ok.kind hk hc z (fun h' hc' hs=>?_)
  obtain⟨oc,hoc,hocd⟩:=id z
  refine h { s with heap:=h' } ⟨I.ok,I.os,I.bare,⟨fun b o e n hb hx=>?_,fun b o e n hb hx=>?_,I.base.free,fun b o e hx=>?_,I.base.tups,I.base.frzs,I.base.tbls⟩,⟨m,hn.sameBut hs (Ne.symm (cne x c hc)),fun j y v' e1 e2 e3=>?_⟩,fun y c' e=>?_,I.free,I.freeC,fun p hp=>?_,tracked ⟨oc,hoc,I.freeC x c hc⟩ hs,by simpa using I.len⟩ ⟨c,hs,.inr hc⟩
  ·exact(hs.2 b (Nat.ne_of_lt (Nat.lt_of_lt_of_le (Heap.lt_size e) (I.ok.cab x c hfn hc)))).trans (I.base.keep b o e n hb hx)
  ·obtain⟨sl,e1⟩:=I.base.slot b o e n hb hx
   exact⟨sl,(hs.2 b (Nat.ne_of_lt (Nat.lt_of_lt_of_le (Heap.lt_size e) (I.ok.cab x c hfn hc)))).trans e1⟩
  ·obtain⟨o',e1⟩:=I.base.there b o e hx
   exact⟨o',(hs.2 b (Nat.ne_of_lt (Nat.lt_of_lt_of_le (Heap.lt_size e) (I.ok.cab x c hfn hc)))).trans e1⟩
  ·by_cases hj:j=i
   ·subst hj
    rw[hi]at e1;cases e1
    rw[List.getElem?_set_self hiσ]at e2
    cases e2
    exact⟨u,r,.inr ⟨.inl hk,c,hc,hc'⟩⟩
   ·rw[List.getElem?_set_ne (Ne.symm hj)]at e2
    obtain⟨u',r',q⟩:=hl j y v' e1 e2 e3
    refine⟨u',r',?_⟩
    rcases q with q | ⟨k,c',e,z'⟩
    ·exact .inl q
    ·refine .inr ⟨k,c',e,z'.sameBut hs ?_⟩
     rintro rfl
     exact hj (a5x hN e1 (I.ok.inj _ _ _ e hc▸hi))
  ·by_cases hcc:c'=c
   ·subst hcc;exact⟨_,hc'⟩
   ·obtain⟨w2,z2⟩:=I.cell y c' e
    exact⟨w2,z2.sameBut hs hcc⟩
  ·obtain⟨e,n,ne,nf,d⟩:=I.pin p hp
   refine⟨(hs.2 p.1 ?_).trans e,n,ne,nf,d⟩
   intro q
   rw[q,hoc]at e
   have q':oc=p.2:=Option.some.inj e
   exact d w' (by rw[← q'];exact hocd)
theorem a5y{M:Model}{A:Around}{E:Value→Shared→Prop}{i:Nat}{x:Str}{v:V}{u:Value}{Q:Unit→Shared→Prop}(I:Inv X pins σ H s)(hN:X.N.Nodup)(hi:X.N[i]? = some x)(hx:Loc X.env.scope x)(r:RelV v u)
  (h:∀s',Inv X pins (σ.set i (some v)) H s'→Q () s') (hf:X.fn x=true∨X.env.scope.names.lookup x=some .local:=by first | exact .inl rfl | exact .inr rfl | assumption):wpAny M A (storeName X.env x u) Q E s :=
 a4N I hN hi hx r (fun s' I' _=>h s' I') hf
theorem Inv.call'{s':Shared}{ch:List Addr}(I:Inv X pins σ H s)(ho:s'.os=s.os)(u:Un (N4 X.stack) ch H H' s.heap s'.heap)(hok:HOk X.prog X.w H' s'.heap)(hg:AllBare s'.gens)
  (hch:∀b∈ch,(b∈X.ex∨X.s₀.heap.objs.size≤b)∧b≠X.env.locals∧(∀x c,X.env.cells.lookup x=some c→c≠b)∧∀p∈X.pn++pins,p.1≠b):Inv X pins σ H' s':=by
 obtain⟨h',g',d',t',o'⟩:=s'
 have e:o'=s.os:=ho
 subst e
 exact I.call (g':=g') (t':=t') (d':=d') u hok hg hch
end
abbrev XK:=Value→Option Addr→Hp→Prop
abbrev St:=List (Option V)
abbrev VK:=V→Hp→Prop
abbrev TE:=St→Hp→VK→Prop
abbrev TT:=St→Hp→(Bool→Hp→Prop)→Prop
abbrev TA:=St→Hp→(List V→Hp→Prop)→Prop
structure Ends where
 nx:St→Hp→Prop
 rt:VK
 bk:St→Hp→Prop:=fun _ _=>False
 ct:St→Hp→Prop:=fun _ _=>False
abbrev TS:=Ends→St→Hp→Prop
def EP(X:Cx)(pins:List (Addr×Obj))(σ:St)(Q:VK)(u:Value)(s':Shared):Prop:=∃v H',Inv X pins σ H' s'∧RelV v u∧Q v H'
def TP(X:Cx)(pins:List (Addr×Obj))(σ:St)(Q:Bool→Hp→Prop)(b:Bool)(s':Shared):Prop:=∃H',Inv X pins σ H' s'∧Q b H'
def AP(X:Cx)(pins:List (Addr×Obj))(σ:St)(Q:List V→Hp→Prop)(us:List Value)(s':Shared):Prop:=∃vs H',Inv X pins σ H' s'∧Vals vs us∧Q vs H'
def SP(X:Cx)(pins:List (Addr×Obj))(D:Ends)(f:Flow)(s':Shared):Prop :=
 match f with
 | .next=>∃σ' H',Inv X pins σ' H' s'∧D.nx σ' H'
 | .brk=>∃σ' H',Inv X pins σ' H' s'∧D.bk σ' H'
 | .cont=>∃σ' H',Inv X pins σ' H' s'∧D.ct σ' H'
 | .ret u=>∃v σ' H',Inv X pins σ' H' s'∧RelV v u∧D.rt v H'
def PE(X:Cx)(e:Expr)(t:TE):Prop :=
 ∀(pins:List (Addr×Obj)) (s:Shared) (σ:St) (H:Hp) (Q:VK),Inv X pins σ H s→t σ H Q→wpAny (model X.prog X.w) X.A (eval e X.env) (EP X pins σ Q) X.xe s
def PT(X:Cx)(e:Expr)(t:TT):Prop :=
 ∀(pins:List (Addr×Obj)) (s:Shared) (σ:St) (H:Hp) (Q:Bool→Hp→Prop),Inv X pins σ H s→t σ H Q→wpAny (model X.prog X.w) X.A (isTrue e X.env (eval e X.env)) (TP X pins σ Q) X.xe s
def PW(X:Cx)(e:Expr)(t:TT):Prop :=
 ∀(whole:Sem Value) (pins:List (Addr×Obj)) (s:Shared) (σ:St) (H:Hp) (Q:Bool→Hp→Prop),Inv X pins σ H s→t σ H Q→wpAny (model X.prog X.w) X.A (isTrue e X.env whole) (TP X pins σ Q) X.xe s
theorem PW.pt{X:Cx}{e:Expr}{t:TT}(h:PW X e t):PT X e t:=h _
def PA(X:Cx)(es:List Expr)(t:TA):Prop :=
 ∀(pos:Pos) (pins:List (Addr×Obj)) (s:Shared) (σ:St) (H:Hp) (Q:List V→Hp→Prop),Inv X pins σ H s→t σ H Q→wpAny (model X.prog X.w) X.A (spliced (backTo pos (starEach es X.env))) (AP X pins σ Q) X.xe s
def PS(X:Cx)(st:Stmt)(t:TS):Prop :=
 ∀(pins:List (Addr×Obj)) (s:Shared) (σ:St) (H:Hp) (D:Ends),Inv X pins σ H s→t D σ H→wpAny (model X.prog X.w) X.A (exec st X.env) (SP X pins D) X.xe s
def PSs(X:Cx)(st:List Stmt)(t:TS):Prop :=
 ∀(pins:List (Addr×Obj)) (s:Shared) (σ:St) (H:Hp) (D:Ends),Inv X pins σ H s→t D σ H→wpAny (model X.prog X.w) X.A (execs st X.env) (SP X pins D) X.xe s
theorem t6{α:Type}{t:Sem α}{Q Q':α→Shared→Prop}{M:Model}{A:Around}{E:Value→Shared→Prop}{s:Shared}(h:wpAny M A t Q E s)(hQ:∀a s,Q a s→Q' a s):wpAny M A t Q' E s:=wpAny_mono h hQ fun _ _ x=>x
section
variable {X:Cx}
def D7(i:Nat):TE:=fun σ H Q=>∃v,σ[i]? = some (some v)∧Q v H
def tC(v:V):TE:=fun _ H Q=>Q v H
theorem b3D{i:Nat}{x:Str}{pos:Pos}(hN:X.N[i]? = some x)(hv:Vis X.env.scope x)(hd:(x == ("__debug__" : Str))=false:=by decide)(hcd:(x == ("__classdict__" : Str))=false:=by decide):PE X (.Name x pos) (D7 i):=by
 intro pins s σ H Q I h
 obtain⟨v,e,h⟩:=h
 obtain⟨m,hn,hl⟩:=I.loc
 obtain⟨u,r,l⟩:=hl i x v hN e hv
 have fin:EP X pins σ Q u s:=⟨v,H,I,r,h⟩
 rcases l with⟨hk,hm⟩ | ⟨hk,c,hc,hcell⟩
 ·exact wpAny_Name (wpAny_loadName_local I.ok.kind hk hn hm fin) hd
 ·rcases hk with hk | hk
  ·exact wpAny_Name (wpAny_loadName_cell I.ok.kind hk hc hcell fin) hd
  ·exact wpAny_Name (wpAny_loadName_free I.ok.kind hk hc hcell fin hcd) hd
theorem a8{i j pos}:PE X (.Constant (.int i) j pos) (tC (.int i)):=fun _ _ _ H _ I h=>wpAny_Constant_int ⟨.int i,H,I.tok _,⟨_,rfl⟩,h⟩
theorem a1t{b j pos}:PE X (.Constant (.bool b) j pos) (tC (.bl b)):=fun _ _ _ H _ I h=>Constant_bool ⟨.bl b,H,I,rfl,h⟩
theorem R6{j pos}:PE X (.Constant .none j pos) (tC .non):=fun _ _ _ H _ I h=>Constant_none ⟨.non,H,I,rfl,h⟩
theorem A3{x j pos}:PE X (.Constant (.str x) j pos) (tC (.str x)):=fun _ _ _ H _ I h=>Calls.Constant_str ⟨.str x,H,I.tok _,⟨_,rfl⟩,h⟩
def Gl(X:Cx)(x:Str):Prop:=X.env.kindOf x=some .globalImplicit
theorem a6V{E:Value→Shared→Prop}{pins:List (Addr×Obj)}{s:Shared}{σ:St}{H:Hp}{x:Str}{u:Value}{pos:Pos}{Q:Value→Shared→Prop}(I:Inv X pins σ H s)(hg:Gl X x)(hm:X.mg x=some u)(h:Q u s)
  (hd:(x == ("__debug__" : Str))=false:=by decide):wpAny (model X.prog X.w) X.A (eval (.Name x pos) X.env) Q E s :=
 Calls.Name_function_global I.ok.kind hg (Calls.loadGlobal_global (by rw[I.ok.glob];exact I.mod.glob.keeps I.bk) hm h) hd
theorem a1_{E:Value→Shared→Prop}{pins:List (Addr×Obj)}{s:Shared}{σ:St}{H:Hp}{x:Str}{u:Value}{pos:Pos}{Q:Value→Shared→Prop}(I:Inv X pins σ H s)(hg:Gl X x)(hm:X.mg x=none)(hv:bootBuiltins x=some u)(h:Q u s)
  (hn:x≠"__name__" := by decide) (hd:(x == ("__debug__" : Str))=false:=by decide):wpAny (model X.prog X.w) X.A (eval (.Name x pos) X.env) Q E s:=by
 obtain⟨mb,h1,h2⟩:=I.mod.blt
 exact Calls.Name_function_global I.ok.kind hg (Calls.loadGlobal_builtin (by rw[I.ok.glob];exact I.mod.glob.keeps I.bk) hm (by rw[I.ok.blt];exact h1.keeps I.bk) ((h2 x hn).trans hv) h) hd
theorem a2D{x:Str}{v:V}{u:Value}{pos:Pos}(hg:Gl X x)(hm:X.mg x=none)(hv:bootBuiltins x=some u)(r:RelV v u)(hn:x≠"__name__" := by decide)(hd:(x == ("__debug__" : Str))=false:=by decide):PE X (.Name x pos) (tC v) :=
 fun _ _ _ H _ I h=>a1_ I hg hm hv ⟨v,H,I,r,h⟩ hn hd
variable {a b:Expr}{ta tb:TE}{pos:Pos}
def tB(t:TE):TT:=fun σ H Q=>t σ H fun x H1=>∃c,x=.bl c∧Q c H1
theorem G9{e:Expr}{t:TE}(h:PE X e t)(he:∀whole,isTrue e X.env whole=(do let v ← whole;standAt e.pos;holding [v] (truthy v)):=by intro _;rfl):PT X e (tB t):=by
 intro pins s σ H Q I hw
 refine isTrue_plain (t6 (h pins s σ H _ I hw) fun v s1 ⟨x,H1,I1,r1,q1⟩=>?_) (he _)
 obtain⟨d,rfl,q⟩:=q1
 cases r1
 exact wpAny_truthy_bool ⟨H1,I1,q⟩
variable {tA tB':TT}{v7:List Expr}
def b3E(t u:TT):TT:=fun σ H Q=>t σ H fun c H1=>if c=true then u σ H1 Q else Q false H1
def tOr(t u:TT):TT:=fun σ H Q=>t σ H fun c H1=>if c=true then Q true H1 else u σ H1 Q
def b3F(t:TT):TT:=fun σ H Q=>t σ H fun c H1=>Q (!c) H1
theorem a0s(ha:PT X a tA):PW X (.BoolOp .And [a] pos) tA:=by
 intro wh pins s σ H Q I h
 refine isTrue_and (t6 (ha pins s σ H Q I h) fun c s1 e=>?_)
 cases c with
 | true=>exact isTrue_and_nil e
 | false=>exact e
theorem a3v(ha:PT X a tA):PW X (.BoolOp .Or [a] pos) tA:=by
 intro wh pins s σ H Q I h
 refine isTrue_or (t6 (ha pins s σ H Q I h) fun c s1 e=>?_)
 cases c with
 | false=>exact isTrue_or_nil e
 | true=>exact e
theorem Z6(ha:PT X a tA)(hb:PW X (.BoolOp .And (b::v7) pos) tB'):PW X (.BoolOp .And (a::b::v7) pos) (b3E tA tB'):=by
 intro wh pins s σ H Q I h
 refine isTrue_and (t6 (ha pins s σ H _ I h) fun c s1 ⟨H1,I1,q1⟩=>?_)
 cases c with
 | true=>exact hb wh pins s1 σ H1 Q I1 q1
 | false=>exact⟨H1,I1,q1⟩
theorem a1u(ha:PT X a tA)(hb:PW X (.BoolOp .Or (b::v7) pos) tB'):PW X (.BoolOp .Or (a::b::v7) pos) (tOr tA tB'):=by
 intro wh pins s σ H Q I h
 refine isTrue_or (t6 (ha pins s σ H _ I h) fun c s1 ⟨H1,I1,q1⟩=>?_)
 cases c with
 | true=>exact⟨H1,I1,q1⟩
 | false=>exact hb wh pins s1 σ H1 Q I1 q1
theorem V7(ha:PT X a tA):PT X (.UnaryOp .Not a pos) (b3F tA):=by
 intro pins s σ H Q I h
 exact isTrue_not (ha pins s σ H (fun c H1=>Q (!c) H1) I h)
def b1l(ta tb:TE):TE:=fun σ H Q=>ta σ H fun x H1=>∃c,x=.bl c∧if c=true then tb σ H1 Q else Q (.bl false) H1
def b1m(ta:TE):TE:=fun σ H Q=>ta σ H fun x H1=>∃c,x=.bl c∧Q (.bl (!c)) H1
theorem a3w{op}{t:TE}(h:PE X a t):PE X (.BoolOp op [a] pos) t:=fun pins s σ H Q I hw=>BoolOp_one (h pins s σ H Q I hw)
theorem a3x(ha:PE X a ta)(hb:PE X (.BoolOp .And (b::v7) pos) tb):PE X (.BoolOp .And (a::b::v7) pos) (b1l ta tb):=by
 intro pins s σ H Q I h
 refine BoolOp_and (t6 (ha pins s σ H _ I h) fun v s1 ⟨x,H1,I1,r1,q1⟩=>?_)
 obtain⟨c,rfl,q1⟩:=q1
 cases r1
 refine wpAny_truthy_bool ?_
 cases c with
 | true=>exact hb pins s1 σ H1 Q I1 q1
 | false=>exact⟨.bl false,H1,I1,rfl,q1⟩
theorem a8R(ha:PE X a ta):PE X (.UnaryOp .Not a pos) (b1m ta):=by
 intro pins s σ H Q I h
 refine UnaryOp_ (t6 (ha pins s σ H _ I h) fun v s1 ⟨x,H1,I1,r1,q1⟩=>?_)
 obtain⟨c,rfl,q1⟩:=q1
 cases r1
 exact not_of (wpAny_truthy_bool ⟨.bl (!c),H1,I1,rfl,q1⟩)
def tIf(t:TT)(ta tb:TE):TE:=fun σ H Q=>t σ H fun c H1=>if c=true then ta σ H1 Q else tb σ H1 Q
theorem a95{c:Expr}(hc:PT X c tA)(ha:PE X a ta)(hb:PE X b tb):PE X (.IfExp c a b pos) (tIf tA ta tb):=by
 intro pins s σ H Q I h
 refine wpAny_IfExp (t6 (hc pins s σ H _ I h) fun d s1 ⟨H1,I1,q1⟩=>?_)
 cases d with
 | true=>exact ha pins s1 σ H1 Q I1 q1
 | false=>exact hb pins s1 σ H1 Q I1 q1
end
def SqL(K:W.Frag)(H:Hp)(a:Addr)(xs:List V):Prop :=
 Rd H a (.lst xs) ∨
  ∃(o:Obj) (its:Array Value) (n:Nat),K.lookup a=some o∧o.cls=.type "list"∧o.dict=none∧o.data=.seq its n∧its.size≤sizeLine∧Vals xs its.toList
def SqT(K:W.Frag)(H:Hp)(a:Addr)(xs:List V):Prop :=
 Rd H a (.tup xs) ∨
  ∃(o:Obj) (its:Array Value) (n:Nat),K.lookup a=some o∧o.cls=.type "tuple"∧o.data=.seq its n∧its.size≤sizeLine∧Vals xs its.toList
def b5Z:Value→Option V
 | .none=>some .non
 | .bool b=>some (.bl b)
 | .int i _=>some (.int i)
 | .str x _=>some (.str x)
 | .bytes b _=>some (.byt b)
 | .float b _=>some (.flt b)
 | .ref a=>some (.ref a)
 | .type n=>some (.ty n)
 | _=>none
theorem RelV.abs{x:V}{u:Value}(r:RelV x u):b5Z u=some x:=by
 cases x with
 | non=>cases r;rfl
 | bl _=>cases r;rfl
 | int _=>obtain⟨t,rfl⟩:=r;rfl
 | str _=>obtain⟨t,rfl⟩:=r;rfl
 | byt _=>obtain⟨t,rfl⟩:=r;rfl
 | flt _=>obtain⟨t,rfl⟩:=r;rfl
 | ref _=>cases r;rfl
 | ty _=>cases r;rfl
theorem RelV.inj{x y:V}{u:Value}(r:RelV x u)(q:RelV y u):x=y:=Option.some.inj (r.abs.symm.trans q.abs)
theorem Vals.inj:∀{xs ys:List V} {us:List Value},Vals xs us→Vals ys us→xs=ys
 | _,_,_,.nil,.nil=>rfl
 | _,_,_,.cons r t,.cons r' t'=>by rw[r.inj r',Vals.inj t t']
section
variable {X:Cx}{pins:List (Addr×Obj)}{σ:St}{H:Hp}{s:Shared}{a:Addr}{xs ys:List V}
theorem SqL.of{K:W.Frag}(h:H a=some (.lst xs)):SqL K H a xs:=.inl (.inl h)
theorem SqT.of{K:W.Frag}(h:H a=some (.tup xs)):SqT K H a xs:=.inl (.inl h)
theorem Inv.list(I:Inv X pins σ H s)(h:SqL X.K H a xs):∃its:List Value,Vals xs its∧PlainL s.heap a its.toArray∧xs.length≤sizeLine:=by
 rcases h with h | ⟨o,its,n,hk,hc,hd,hs,hz,r⟩
 ·obtain⟨z,its,n,r,e⟩:=h.ok I.hok
  exact⟨its,r,⟨_,n,e,rfl,rfl,rfl⟩,z⟩
 ·refine⟨its.toList,r,⟨o,n,I.kIn a o hk,hc,hd,by simpa using hs⟩,?_⟩
  have e:=r.length
  simp only[Array.length_toList]at e
  omega
theorem Inv.tuple(I:Inv X pins σ H s)(h:SqT X.K H a xs):∃its:List Value,Vals xs its∧IsTup s.heap a its.toArray∧xs.length≤sizeLine:=by
 rcases h with h | ⟨o,its,n,hk,hc,hs,hz,r⟩
 ·obtain⟨z,its,r,p⟩:=h.ok I.hok
  exact⟨its,r,p,z⟩
 ·refine⟨its.toList,r,⟨o,I.kIn a o hk,hc,n,by simpa using hs⟩,?_⟩
  have e:=r.length
  simp only[Array.length_toList]at e
  omega
theorem Inv.list_inj(I:Inv X pins σ H s)(h:SqL X.K H a xs)(h':SqL X.K H a ys):xs=ys:=by
 obtain⟨its,r,⟨o,n,e,_,_,d⟩,_⟩:=I.list h
 obtain⟨its',r',⟨o',n',e',_,_,d'⟩,_⟩:=I.list h'
 rw[e]at e';cases e'
 rw[d]at d'
 injection d' with d1 _
 have:its=its':=by simpa using congrArg Array.toList d1
 subst this
 exact r.inj r'
theorem Inv.tuple_inj(I:Inv X pins σ H s)(h:SqT X.K H a xs)(h':SqT X.K H a ys):xs=ys:=by
 obtain⟨its,r,⟨o,e,_,n,d⟩,_⟩:=I.tuple h
 obtain⟨its',r',⟨o',e',_,n',d'⟩,_⟩:=I.tuple h'
 rw[e]at e';cases e'
 rw[d]at d'
 injection d' with d1 _
 have:its=its':=by simpa using congrArg Array.toList d1
 subst this
 exact r.inj r'
end
abbrev Cx.wish(X:Cx)(E:Value→Shared→Prop):Cx:={ X with xe:=E }
abbrev Cx.nox(X:Cx):Cx:=X.wish fun _ _=>False
theorem Cx.Ok.wish{X:Cx}(ok:X.Ok)(E:Value→Shared→Prop):(X.wish E).Ok :=
 ⟨ok.mod,ok.kind,ok.glob,ok.blt,ok.above,ok.inj,ok.has,ok.cab,ok.hd,ok.frames,ok.stk,ok.exf,ok.bs,ok.bsz,ok.noex,ok.exfs,ok.funs,ok.frf⟩
theorem Cx.Ok.unwish{X:Cx}{E:Value→Shared→Prop}(ok:(X.wish E).Ok):X.Ok :=
 ⟨ok.mod,ok.kind,ok.glob,ok.blt,ok.above,ok.inj,ok.has,ok.cab,ok.hd,ok.frames,ok.stk,ok.exf,ok.bs,ok.bsz,ok.noex,ok.exfs,ok.funs,ok.frf⟩
section
variable {X:Cx}{pins:List (Addr×Obj)}{σ:St}{H:Hp}{s:Shared}{E:Value→Shared→Prop}
theorem Inv.wish(I:Inv X pins σ H s)(E:Value→Shared→Prop):Inv (X.wish E) pins σ H s:=⟨I.ok.wish E,I.os,I.bare,I.base,I.loc,I.cell,I.free,I.freeC,I.pin,I.hok,I.len⟩
theorem Inv.unwish(I:Inv (X.wish E) pins σ H s):Inv X pins σ H s:=⟨I.ok.unwish,I.os,I.bare,I.base,I.loc,I.cell,I.free,I.freeC,I.pin,I.hok,I.len⟩
theorem SP.unwish{D:Ends}{f:Flow}{s':Shared}(h:SP (X.wish E) pins D f s'):SP X pins D f s':=by
 cases f with
 | next=>obtain⟨σ',H',I,q⟩:=h;exact⟨σ',H',I.unwish,q⟩
 | brk=>obtain⟨σ',H',I,q⟩:=h;exact⟨σ',H',I.unwish,q⟩
 | cont=>obtain⟨σ',H',I,q⟩:=h;exact⟨σ',H',I.unwish,q⟩
 | ret u=>obtain⟨v,σ',H',I,r,q⟩:=h;exact⟨v,σ',H',I.unwish,r,q⟩
theorem PE.nox{e:Expr}{t:TE}(h:PE X.nox e t):PE X e t:=fun pins s σ H Q I hw =>
 wpAny_mono (h pins s σ H Q (I.wish _) hw) (fun _ _ ⟨v,H',I',r,q⟩=>⟨v,H',I'.unwish,r,q⟩) fun _ _ z=>False.elim z
theorem PT.nox{e:Expr}{t:TT}(h:PT X.nox e t):PT X e t:=fun pins s σ H Q I hw =>
 wpAny_mono (h pins s σ H Q (I.wish _) hw) (fun _ _ ⟨H',I',q⟩=>⟨H',I'.unwish,q⟩) fun _ _ z=>False.elim z
theorem PSs.nox{st:List Stmt}{t:TS}(h:PSs X.nox st t):PSs X st t:=fun pins s σ H D I hw =>
 wpAny_mono (h pins s σ H D (I.wish _) hw) (fun _ _ q=>q.unwish) fun _ _ z=>False.elim z
end
section
variable {X:Cx}{st:Stmt}{v7:List Stmt}{t u:TS}{e:Expr}{te:TE}{pos:Pos}
def a7K:TS:=fun D σ H=>D.nx σ H
def a96(t u:TS):TS:=fun D σ H=>t { D with nx:=u D } σ H
theorem k9:PSs X [] a7K:=fun _ _ σ H _ I h=>wpAny_execs_nil ⟨σ,H,I,h⟩
theorem c8(h1:PS X st t)(h2:PSs X v7 u):PSs X (st::v7) (a96 t u):=by
 intro pins s σ H D I h
 refine wpAny_execs_cons (t6 (h1 pins s σ H { D with nx:=u D } I h) fun f s1 q=>?_)
 cases f with
 | next =>
  obtain⟨σ',H',I',q⟩:=q
  exact h2 pins s1 σ' H' D I' q
 | ret v=>exact q
 | brk=>exact q
 | cont=>exact q
theorem g6(h1:PS X st t):PSs X [st] t:=by
 intro pins s σ H D I h
 refine wpAny_execs_cons (t6 (h1 pins s σ H D I h) fun f s1 q=>?_)
 cases f with
 | next=>exact wpAny_execs_nil q
 | ret v=>exact q
 | brk=>exact q
 | cont=>exact q
theorem Inv.quiet{pins:List (Addr×Obj)}{σ:St}{H:Hp}{s:Shared}(I:Inv X pins σ H s):interactive X.env=false:=by simp[interactive,I.ok.kind]
def a5m(te:TE):TS:=fun D σ H=>te σ H fun _ H1=>D.nx σ H1
theorem D1(he:PE X e te)(hs:swapsWith e none pos.line X.env=pure false:=by rfl):PS X (.Expr e pos) (a5m te):=by
 intro pins s σ H D I h
 exact wpAny_Expr_any (t6 (he pins s σ H _ I h) fun v s1 ⟨x,H1,I1,r1,q1⟩=>⟨σ,H1,I1,q1⟩) I.quiet hs
def a5z(te:TE):TS:=fun D σ H=>te σ H D.rt
theorem l7(he:PE X e te):PS X (.Return (some e) pos) (a5z te):=by
 intro pins s σ H D I h
 exact wpAny_Return_some (t6 (he pins s σ H _ I h) fun v s1 ⟨x,H1,I1,r1,q1⟩=>⟨x,σ,H1,I1,r1,q1⟩)
def b1n:TS:=fun D _ H=>D.rt .non H
theorem a6W:PS X (.Return none pos) b1n:=fun _ _ σ H _ I h=>wpAny_Return_none ⟨.non,σ,H,I,rfl,h⟩
def a97(c:TT)(t u:TS):TS:=fun D σ H=>c σ H fun b H1=>if b=true then t D σ H1 else u D σ H1
theorem w4{c:Expr}{a b:List Stmt}{tc:TT}(hc:PT X c tc)(ha:PSs X a t)(hb:PSs X b u):PS X (.If c a b pos) (a97 tc t u):=by
 intro pins s σ H D I h
 refine wpAny_If (t6 (hc pins s σ H _ I h) fun d s1 ⟨H1,I1,q1⟩=>?_)
 cases d with
 | true=>exact ha pins s1 σ H1 D I1 q1
 | false=>exact hb pins s1 σ H1 D I1 q1
end
abbrev TG:=V→St→Hp→(St→Hp→Prop)→Prop
abbrev TGs:=List V→St→Hp→(St→Hp→Prop)→Prop
def PG(X:Cx)(target:Expr)(t:TG):Prop :=
 ∀(pins:List (Addr×Obj)) (s:Shared) (σ:St) (H:Hp) (v:V) (u:Value) (Q:St→Hp→Prop),Inv X pins σ H s→RelV v u→t v σ H Q →
  wpAny (model X.prog X.w) X.A (assign target X.env u) (fun _ s'=>∃σ' H',Inv X pins σ' H' s'∧Q σ' H') X.xe s
def PGs(X:Cx)(ts:List Expr)(t:TGs):Prop :=
 ∀(pins:List (Addr×Obj)) (s:Shared) (σ:St) (H:Hp) (vs:List V) (us:List Value) (Q:St→Hp→Prop),Inv X pins σ H s→Vals vs us→t vs σ H Q →
  wpAny (model X.prog X.w) X.A (assignInOrder ((assignEach ts X.env).map (·.2)) us) (fun _ s'=>∃σ' H',Inv X pins σ' H' s'∧Q σ' H') X.xe s
abbrev a98:=V→V→V→Hp→(Hp→Prop)→Prop
def b3G(X:Cx)(t:a98):Prop :=
 ∀(pins:List (Addr×Obj)) (s:Shared) (σ:St) (H:Hp) (o i v:V) (ov iv u:Value) (Q:Hp→Prop),Inv X pins σ H s→RelV o ov→RelV i iv→RelV v u→t o i v H Q →
  wpAny (model X.prog X.w) X.A (setItem ov iv u) (fun _ s'=>∃H',Inv X pins σ H' s'∧Q H') X.xe s
section
variable {X:Cx}{pos:Pos}
def S3(i:Nat):TG:=fun v σ H Q=>Q (σ.set i (some v)) H
theorem r9{i:Nat}{x:Str}(hN:X.N.Nodup)(hi:X.N[i]? = some x)(hx:Loc X.env.scope x)(hf:X.fn x=true∨X.env.scope.names.lookup x=some .local:=by first | exact .inl rfl | exact .inr rfl | assumption):PG X (.Name x pos) (S3 i):=by
 intro pins s σ H v u Q I r h
 exact wpAny_assign_Name (a5y I hN hi hx r (fun s' I'=>⟨_,H,I',h⟩) hf)
def a7L:TGs:=fun vs σ H Q=>vs=[]∧Q σ H
def a1v(t:TG)(u:TGs):TGs:=fun vs σ H Q=>∃v r,vs=v::r∧t v σ H fun σ' H'=>u r σ' H' Q
theorem U7:PGs X [] a7L:=by
 intro pins s σ H vs us Q I r h
 obtain⟨e,h⟩:=h
 subst e
 cases r
 exact assignInOrder_nil ⟨σ,H,I,h⟩
theorem z8{e:Expr}{es:List Expr}{t:TG}{u:TGs}(h1:PG X e t)(h2:PGs X es u)
  (hs:(assignEach (e::es) X.env).map (·.2)=assign e X.env::(assignEach es X.env).map (·.2):=by rfl):PGs X (e::es) (a1v t u):=by
 intro pins s σ H vs us Q I r h
 obtain⟨v,vr,e1,h⟩:=h
 subst e1
 cases r with
 | cons r rr =>
  rw[hs]
  refine assignInOrder_cons (t6 (h1 pins s σ H _ _ _ I r h) fun _ s1 ⟨σ1,H1,I1,q1⟩=>?_)
  exact h2 pins s1 σ1 H1 _ _ Q I1 rr q1
def a5A(K:W.Frag)(n:Nat)(t:TGs):TG:=fun v σ H Q=>∃a xs,v=.ref a∧SqT K H a xs∧xs.length=n∧t xs σ H Q
theorem b3H{es:List Expr}{k:Nat}{t:TGs}{n:Nat}(hc:X.calm=true)(h:PGs X es t)
  (hn:(assignEach es X.env).length=n:=by rfl) (hst:(assignEach es X.env).findIdx? (·.1)=none:=by rfl):PG X (.Tuple es k pos) (a5A X.K n t):=by
 intro pins s σ H v u Q I r hw
 obtain⟨a,xs,e1,hq,hl,hw⟩:=hw
 subst e1
 cases r
 obtain⟨its,rv,ht,hz⟩:=I.tuple hq
 refine assign_Tuple_tuple (I.ok.hd hc) ht (by simp[hn,← hl,rv.length]) hst fun h' hx=>?_
 have I1:Inv X pins σ H { s with heap:=h' }:=I.kept (t':=s.toks) fun b o e=>hx b o (Nat.ne_of_lt (Heap.lt_size e)) e
 exact h pins _ σ H xs _ Q I1 (by simpa using rv) hw
def a99(to ti:TE)(t:a98):TG:=fun v σ H Q=>to σ H fun o H1=>ti σ H1 fun i H2=>t o i v H2 fun H3=>Q σ H3
theorem a0A{o i:Expr}{to ti:TE}{t:a98}(ho:PE X o to)(hi:PE X i ti)(hs:b3G X t)
  (ha:∀v,assign (.Subscript o i pos) X.env v=(do
   let ov ← holding [v] (eval o X.env)
   let iv ← holding [v,ov] (eval i X.env)
   standAt pos
   holding [v,ov,iv] (setItem ov iv v)
   release [v,ov,iv] []):=by intro _;rfl):PG X (.Subscript o i pos) (a99 to ti t):=by
 intro pins s σ H v u Q I r h
 rw[ha]
 refine wpAny_bind (wpAny_holding (t6 (ho pins s σ H _ I h) fun ov s1 ⟨x,H1,I1,r1,q1⟩=>?_))
 refine wpAny_bind (wpAny_holding (t6 (hi pins s1 σ H1 _ I1 q1) fun iv s2 ⟨y,H2,I2,r2,q2⟩=>?_))
 refine wpAny_bind (wpAny_standAt (wpAny_bind (wpAny_holding (t6 (hs pins s2 σ H2 x y v ov iv u _ I2 r1 r2 r q2) fun _ s3 ⟨H3,I3,q3⟩=>?_))))
 exact wpAny_release ⟨σ,H3,I3,q3⟩
def a0d(te:TE)(g:TG):TS:=fun D σ H=>te σ H fun x H1=>g x σ H1 D.nx
theorem L6{tg e:Expr}{te:TE}{g:TG}(he:PE X e te)(hg:PG X tg g)(hs:swapsWithSole [tg] e pos.line X.env=pure false:=by rfl)(hw:swappedStores [tg] e X.env=pure none:=by rfl)
  (h1:(assignEach [tg] X.env).map (·.2)=[assign tg X.env]:=by rfl):PS X (.Assign [tg] e pos) (a0d te g):=by
 intro pins s σ H D I h
 refine wpAny_Assign_stores (t6 (he pins s σ H _ I h) fun v s1 ⟨x,H1,I1,r1,q1⟩=>?_) hs hw
 rw[h1]
 exact t6 (hg pins s1 σ H1 x v _ I1 r1 q1) fun _ s2 q=>q
theorem i9{i:Nat}{x:Str}{e:Expr}{te:TE}{pos':Pos}(hN:X.N.Nodup)(hi:X.N[i]? = some x)(hx:Loc X.env.scope x)(he:PE X e te)(hs:swapsWith e (some (.Name x pos')) pos.line X.env=pure false:=by rfl)(hf:X.fn x=true∨X.env.scope.names.lookup x=some .local:=by first | exact .inl rfl | exact .inr rfl | assumption) :
  PS X (.Assign [.Name x pos'] e pos) (a0d te (S3 i)):=by
 intro pins s σ H D I h
 refine wpAny_Assign_Name (t6 (he pins s σ H _ I h) fun v s1 ⟨y,H1,I1,r1,q1⟩=>?_) hs
 exact a5y I1 hN hi hx r1 (fun s2 I2=>⟨_,H1,I2,q1⟩) hf
end
section
variable {X:Cx}{pos:Pos}
def a8T(c:TT)(tb:TS):TS:=fun D σ H=>∃W:Nat→St→Hp→Prop,(∃m,W m σ H)∧∀m σ H,W m σ H →
 c σ H fun b H1=>if b=true then ∃N:St→Hp→Prop,(∀σ' H',N σ' H'→∃m',m'<m∧W m' σ' H')∧tb { D with nx:=N,ct:=N,bk:=D.nx } σ H1 else D.nx σ H1
theorem a5B{c:Expr}{body:List Stmt}{tc:TT}{tb:TS}(hp:PassesOwn (model X.prog X.w) X.A X.env X.xe)(hc:PT X c tc)(hb:PSs X body tb):PS X (.While c body [] pos) (a8T tc tb):=by
 intro pins s σ H D I h
 obtain⟨W,⟨m0,w0⟩,turn⟩:=h
 refine wpAny_While (codeAny_whileLoop (fun n s'=>∃σ' H',Inv X pins σ' H' s'∧W n σ' H') ?_ m0 ⟨σ,H,I,w0⟩)
 rintro n s1 ⟨σ1,H1,I1,w1⟩
 refine wpAny_passesOwn hp (t6 (hc pins s1 σ1 H1 _ I1 (turn n σ1 H1 w1)) fun b s2 ⟨H2,I2,q2⟩=>?_)
 cases b with
 | true =>
  obtain⟨N,hN,q2⟩:=q2
  rw[if_pos rfl]
  refine wpAny_passesOwn hp (t6 (hb pins s2 σ1 H2 _ I2 q2) fun f s3 q3=>?_)
  cases f with
  | next =>
   obtain⟨σ3,H3,I3,n3⟩:=q3
   obtain⟨m',hm,w3⟩:=hN σ3 H3 n3
   exact⟨m',hm,σ3,H3,I3,w3⟩
  | cont =>
   obtain⟨σ3,H3,I3,n3⟩:=q3
   obtain⟨m',hm,w3⟩:=hN σ3 H3 n3
   exact⟨m',hm,σ3,H3,I3,w3⟩
  | brk=>exact q3
  | ret v=>exact q3
 | false =>
  rw[if_neg Bool.false_ne_true]
  exact wpAny_execs_nil ⟨σ1,H2,I2,q2⟩
end
structure It where
 go:Nat→Hp→Prop
 yld:Nat→Hp→V→Hp→Prop
 stop:Nat→Hp→Prop
def FpOk(X:Cx)(pins:List (Addr×Obj))(H:Hp)(b:Addr):Prop :=
 H b=none∧b≠X.env.locals∧b ∉ X.fs∧(b∈X.ex∨X.s₀.heap.objs.size≤b)∧(∀x c,X.env.cells.lookup x=some c→c≠b)∧∀p∈X.pn++pins,p.1≠b
theorem Inv.fpOk{X:Cx}{pins:List (Addr×Obj)}{σ:St}{H H':Hp}{s:Shared}{b:Addr}(I:Inv X pins σ H s)(hb:s.heap.objs.size≤b)(hn:H' b=none):FpOk X pins H' b:=by
 refine⟨hn,Nat.ne_of_gt (Nat.lt_of_lt_of_le I.lt hb),I.nofs hb,.inr (Nat.le_trans I.sz hb),fun x c e z=>?_,fun p hp z=>?_⟩
 ·obtain⟨v,q⟩:=I.cell x c e
  exact absurd (Nat.lt_of_lt_of_le q.lt (by rw[z];exact hb)) (Nat.lt_irrefl _)
 ·exact absurd (Nat.lt_of_lt_of_le (Heap.lt_size (I.pin p hp).1) (by rw[z];exact hb)) (Nat.lt_irrefl _)
structure Turn(P:Program)(w:World)(K:W.Frag)(tg:Expr)(J:It)(fp:List Addr)(it:Addr)(tn:Nat→Heap→Prop):Prop where
 mem:it∈fp
 obj:∀i h,tn i h→∀b∈fp,∃o,h.get? b=some o∧∀v,o.data≠.cell v
 keep:∀i h h',tn i h→(∀b∈fp,∀o,h.get? b=some o→h'.get? b=some o)→tn i h'
 item:∀(X:Cx),X.prog=P→X.w=w→X.K=K→X.calm=true→∀(i:Nat) (pins:List (Addr×Obj)) (s:Shared) (σ:St) (H:Hp) (E:Value→Shared→Prop),Inv X pins σ H s→(∀b∈fp,FpOk X pins H b)→tn i s.heap→J.go i H →
  wpAny (model P w) X.A (pyNext (.ref it)) (fun r s1=>∃u,r=some u ∧
   wpAny (model P w) X.A (letOwnedTupleGo tg (.ref it) u) (fun _ s2=>∃x H',Inv X pins σ H' s2∧RelV x u∧J.yld i H x H'∧tn (i+1) s2.heap∧∀b∈fp,H' b=none) E s1) E s
 done:∀(X:Cx),X.prog=P→X.w=w→X.K=K→X.calm=true→∀(i:Nat) (pins:List (Addr×Obj)) (s:Shared) (σ:St) (H:Hp) (E:Value→Shared→Prop),Inv X pins σ H s→(∀b∈fp,FpOk X pins H b)→tn i s.heap→J.stop i H →
  wpAny (model P w) X.A (pyNext (.ref it)) (fun r s1=>r=none∧Inv X pins σ H s1) E s
 self:∀(A:Around) (i:Nat) (s:Shared) (Q:Value→Shared→Prop) (E:Value→Shared→Prop),tn i s.heap→Q (.ref it) s→wpAny (model P w) A (pyIter (.ref it)) Q E s
abbrev TI:=St→Hp→(It→Hp→Prop)→Prop
def PIE(X:Cx)(pins:List (Addr×Obj))(σ:St)(tg:Expr)(R:It→Hp→Prop)(itv:Value)(s2:Shared):Prop :=
 ∃(it:Addr) (fp:List Addr) (tn:Nat→Heap→Prop) (J:It) (H':Hp),itv=.ref it∧Inv X pins σ H' s2∧Turn X.prog X.w X.K tg J fp it tn∧tn 0 s2.heap∧(∀b∈fp,FpOk X pins H' b)∧R J H'
def PI(X:Cx)(tg iter:Expr)(wi:TI):Prop :=
 ∀(pins:List (Addr×Obj)) (s:Shared) (σ:St) (H:Hp) (R:It→Hp→Prop),Inv X pins σ H s→wi σ H R →
  wpAny (model X.prog X.w) X.A (eval iter X.env) (fun v s1=>wpAny (model X.prog X.w) X.A (pyIter v) (PIE X pins σ tg R) X.xe s1) X.xe s
theorem a7M{M:Model}{A:Around}{E:Value→Shared→Prop}{s:Shared}{tg:Expr}{it:Addr}{u:Value}{o:Obj}{n:String}{vs:Array Value}{Q:Unit→Shared→Prop}(ho:s.heap.get? it=some o)(hc:o.cls=.type n)(hd:o.data=.fields vs)
  (hn:["enumerate","zip","dict_itemiterator","dict_reverseitemiterator","odict_iterator","itertools.zip_longest","itertools.pairwise"].contains n=false) (hQ:Q () s):wpAny M A (letOwnedTupleGo tg (.ref it) u) Q E s:=by
 unfold letOwnedTupleGo
 cases tg<;>first
  | exact wpAny_pure hQ
  | (cases u<;>first
    | exact wpAny_pure hQ
    | (refine wpAny_bind (wpAny_load ho ?_)
       rw[hc,hd]
       show wpAny M A (if(["enumerate","zip","dict_itemiterator","dict_reverseitemiterator","odict_iterator","itertools.zip_longest","itertools.pairwise"].contains n && vs[0]? == some (rawInt _))=true then _ else _) Q E s
       rw[if_neg (by intro h;rw[hn,Bool.false_and]at h;cases h)]
       exact wpAny_pure hQ))
def Itl(K:W.Frag)(a:Addr):It :=
 ⟨fun i H=>∃xs x,SqL K H a xs∧xs[i]? = some x,fun i H x H'=>H'=H∧∀xs,SqL K H a xs→xs[i]? = some x,fun i H=>∃xs,SqL K H a xs∧xs.length≤i⟩
def Itt(K:W.Frag)(a:Addr):It :=
 ⟨fun i H=>∃xs x,SqT K H a xs∧xs[i]? = some x,fun i H x H'=>H'=H∧∀xs,SqT K H a xs→xs[i]? = some x,fun i H=>∃xs,SqT K H a xs∧xs.length≤i⟩
def Itr(lo:Int)(n:Nat):It:=⟨fun i _=>i<n,fun i H x H'=>H'=H∧x=.int (lo+i),fun i _=>n≤i⟩
theorem a8U{P:Program}{w:World}{K:W.Frag}{tg:Expr}(a it:Addr):Turn P w K tg (Itl K a) [it] it (fun i h=>h.IsListIter it a i) where
 mem:=by simp
 obj:=fun i h st b hb=>by
  have e:b=it:=by simpa using hb
  subst e
  obtain⟨o,e,c,d⟩:=st
  exact⟨o,e,fun v z=>by rw[d]at z;cases z⟩
 keep:=fun i h h' st k=>st.at fun o e=>k it (by simp) o e
 item:=by
  intro X hP hw hK hc i pins s σ H E I hf st hg
  subst hP hw hK
  obtain⟨xs,x,hq,hx⟩:=hg
  obtain⟨its,rv,p,hz⟩:=I.list hq
  obtain⟨u,hu,ru⟩:=rv.get hx
  obtain⟨f0,f1,f2,f3,f4,f5⟩:=hf it (by simp)
  refine wpAny_pyNext_list_item st p.isList (x:=u) (by simpa using hu) fun h' st' sb=>?_
  have I1:Inv X pins σ H { s with heap:=h' }:=I.turned (t':=s.toks) (fun b o hb e=>(sb.2 b hb).trans e) f0 f1 f3 f4 f5
  obtain⟨o,e,c,d⟩:=id st'
  exact⟨u,rfl,a7M (s:={ s with heap:=h' }) e c d (by decide) ⟨x,H,I1,ru,⟨rfl,fun ys hy=>by rw[I.list_inj hy hq];exact hx⟩,st',fun b hb=>(hf b hb).1⟩⟩
 done:=by
  intro X hP hw hK hc i pins s σ H E I hf st hg
  subst hP hw hK
  obtain⟨xs,hq,hx⟩:=hg
  obtain⟨its,rv,p,hz⟩:=I.list hq
  obtain⟨f0,f1,f2,f3,f4,f5⟩:=hf it (by simp)
  have hl:=rv.length
  exact wpAny_pyNext_list_end (I.ok.hd hc) st p.isList (by simp;omega) fun h' eb=>⟨rfl,I.turned (t':=s.toks) (fun b o hb e=>eb b o hb e) f0 f1 f3 f4 f5⟩
 self:=fun _ _ _ _ _ st h=>wpAny_pyIter_listiter st h
theorem a7N{P:Program}{w:World}{K:W.Frag}{tg:Expr}(a it:Addr):Turn P w K tg (Itt K a) [it] it (fun i h=>h.IsTupleIter it a i) where
 mem:=by simp
 obj:=fun i h st b hb=>by
  have e:b=it:=by simpa using hb
  subst e
  obtain⟨o,e,c,d⟩:=st
  exact⟨o,e,fun v z=>by rw[d]at z;cases z⟩
 keep:=fun i h h' st k=>st.at fun o e=>k it (by simp) o e
 item:=by
  intro X hP hw hK hc i pins s σ H E I hf st hg
  subst hP hw hK
  obtain⟨xs,x,hq,hx⟩:=hg
  obtain⟨its,rv,p,hz⟩:=I.tuple hq
  obtain⟨u,hu,ru⟩:=rv.get hx
  obtain⟨f0,f1,f2,f3,f4,f5⟩:=hf it (by simp)
  refine wpAny_pyNext_tuple_item st (show s.heap.IsTuple a its.toArray from p) (x:=u) (by simpa using hu) fun h' st' sb=>?_
  have I1:Inv X pins σ H { s with heap:=h' }:=I.turned (t':=s.toks) (fun b o hb e=>(sb.2 b hb).trans e) f0 f1 f3 f4 f5
  obtain⟨o,e,c,d⟩:=id st'
  exact⟨u,rfl,a7M (s:={ s with heap:=h' }) e c d (by decide) ⟨x,H,I1,ru,⟨rfl,fun ys hy=>by rw[I.tuple_inj hy hq];exact hx⟩,st',fun b hb=>(hf b hb).1⟩⟩
 done:=by
  intro X hP hw hK hc i pins s σ H E I hf st hg
  subst hP hw hK
  obtain⟨xs,hq,hx⟩:=hg
  obtain⟨its,rv,p,hz⟩:=I.tuple hq
  obtain⟨f0,f1,f2,f3,f4,f5⟩:=hf it (by simp)
  have hl:=rv.length
  exact wpAny_pyNext_tuple_end (I.ok.hd hc) st (show s.heap.IsTuple a its.toArray from p) (by simp;omega) fun h' eb=>⟨rfl,I.turned (t':=s.toks) (fun b o hb e=>eb b o hb e) f0 f1 f3 f4 f5⟩
 self:=fun _ _ _ _ _ st h=>wpAny_pyIter_tupleiter st h
theorem a7O{P:Program}{w:World}{K:PySem.W.Frag}{tg:Expr}(it:Addr)(lo:Int)(n:Nat):Turn P w K tg (Itr lo n) [it] it (fun i h=>IsRangeIter h it (lo+(i:Nat)*1) ((n:Int)-(i:Nat)) 1) where
 mem:=by simp
 obj:=fun i h st b hb=>by
  have e:b=it:=by simpa using hb
  subst e
  exact⟨_,st,fun v z=>by
   have z':Data.fields _=Data.cell v:=z
   cases z'⟩
 keep:=fun i h h' st k=>k it (by simp) _ st
 item:=by
  intro X hP hw hK hc i pins s σ H E I hf st hg
  subst hP hw hK
  obtain⟨f0,f1,f2,f3,f4,f5⟩:=hf it (by simp)
  have W:=Walks.range (prog:=X.prog) (w:=X.w) (I.ok.hd hc) it lo 1 n
  refine W.item i s _ _ hg st fun v h' tk hv st' kk=>?_
  obtain⟨t,rfl⟩:=hv
  have I1:Inv X pins σ H { s with heap:=h',toks:=tk }:=I.turned (fun b o hb e=>kk b o (by simpa using hb) e) f0 f1 f3 f4 f5
  refine⟨_,rfl,a7M (s:={ s with heap:=h',toks:=tk }) (n := "range_iterator") st' rfl rfl (by decide) ⟨.int (lo+i),H,I1,⟨t,?_⟩,⟨rfl,rfl⟩,st',fun b hb=>(hf b hb).1⟩⟩
  rw[Int.mul_one]
 done:=by
  intro X hP hw hK hc i pins s σ H E I hf st hg
  subst hP hw hK
  obtain⟨f0,f1,f2,f3,f4,f5⟩:=hf it (by simp)
  exact wpAny_pyNext_range_end (I.ok.hd hc) st (by have:n≤i:=hg;omega) fun h' eb=>⟨rfl,I.turned (t':=s.toks) (fun b o hb e=>eb b o hb e) f0 f1 f3 f4 f5⟩
 self:=fun _ _ _ _ _ st h=>wpAny_pyIter_rangeiter st h
section
variable {X:Cx}{tg:Expr}
def a3z(K:W.Frag)(tl:TE):TI:=fun σ H R=>tl σ H fun x H1=>∃a,x=.ref a∧(∃xs,SqL K H1 a xs)∧R (Itl K a) H1
def b3I(K:W.Frag)(tl:TE):TI:=fun σ H R=>tl σ H fun x H1=>∃a,x=.ref a∧(∃xs,SqT K H1 a xs)∧R (Itt K a) H1
theorem a1e{l:Expr}{tl:TE}(hl:PE X l tl):PI X tg l (a3z X.K tl):=by
 intro pins s σ H R I h
 refine t6 (hl pins s σ H _ I h) fun v s1 ⟨x,H1,I1,r1,q1⟩=>?_
 obtain⟨a,e,⟨xs,hq⟩,q⟩:=q1
 subst e
 cases r1
 obtain⟨its,rv,p,hz⟩:=I1.list hq
 refine wpAny_pyIter_list p.isList ?_
 refine⟨s1.heap.objs.size,[s1.heap.objs.size],_,_,H1,rfl,I1.kept (t':=s1.toks) fun b o e=>Heap.get?_push_of_some _ e,a8U a _,⟨_,Heap.get?_push_size _ rfl,rfl,rfl⟩,fun b hb=>?_,q⟩
 have e:b=s1.heap.objs.size:=by simpa using hb
 subst e
 exact I1.fpOk (Nat.le_refl _) (I1.hok.fresh (Nat.le_refl _))
theorem b3J{l:Expr}{tl:TE}(hl:PE X l tl):PI X tg l (b3I X.K tl):=by
 intro pins s σ H R I h
 refine t6 (hl pins s σ H _ I h) fun v s1 ⟨x,H1,I1,r1,q1⟩=>?_
 obtain⟨a,e,⟨xs,hq⟩,q⟩:=q1
 subst e
 cases r1
 obtain⟨its,rv,p,hz⟩:=I1.tuple hq
 refine wpAny_pyIter_tuple (show s1.heap.IsTuple a its.toArray from p) ?_
 refine⟨s1.heap.objs.size,[s1.heap.objs.size],_,_,H1,rfl,I1.kept (t':=s1.toks) fun b o e=>Heap.get?_push_of_some _ e,a7N a _,⟨_,Heap.get?_push_size _ rfl,rfl,rfl⟩,fun b hb=>?_,q⟩
 have e:b=s1.heap.objs.size:=by simpa using hb
 subst e
 exact I1.fpOk (Nat.le_refl _) (I1.hok.fresh (Nat.le_refl _))
theorem a9_{pins:List (Addr×Obj)}{σ:St}{H:Hp}{s:Shared}{R:It→Hp→Prop}{E:Value→Shared→Prop}{lo hi:Int}{t u v:Tok}{tk:Nat}(I:Inv X pins σ H s)(h1 : -(2 ^ 62)≤lo)(h2:lo<2 ^ 62)(h3 : -(2 ^ 62)≤hi)(h4:hi<2 ^ 62)
  (q:R (Itr lo (hi-lo).toNat) H):wpAny (model X.prog X.w) X.A (pyIter (.ref s.heap.objs.size)) (PIE X pins σ tg R) E { s with heap:=s.heap.push { cls:=.type "range",data:=.fields #[.int lo t,.int hi u,.int 1 v] },toks:=tk }:=by
 refine wpAny_pyIter_range (IsRange.new ..) (small_one h1 h2 h3 h4) ?_
 have I1:Inv X pins σ H { s with heap:=s.heap.push { cls:=.type "range",data:=.fields #[.int lo t,.int hi u,.int 1 v] },toks:=tk }:=I.kept fun b o e=>Heap.get?_push_of_some _ e
 refine⟨(s.heap.push { cls:=.type "range",data:=.fields #[.int lo t,.int hi u,.int 1 v] }).objs.size,[(s.heap.push { cls:=.type "range",data:=.fields #[.int lo t,.int hi u,.int 1 v] }).objs.size],_,_,H,rfl,
  I1.kept (t':=tk) fun b o e=>Heap.get?_push_of_some _ e,a7O _ lo (hi-lo).toNat,?_,fun b hb=>?_,q⟩
 ·have e1:lo+((0:Nat):Int)*1=lo:=by simp
  have e2:(((hi-lo).toNat:Nat):Int)-((0:Nat):Int)=Builtin.Range.rangeSize lo hi 1:=by rw[rangeSize_one];split<;>omega
  show IsRangeIter _ _ (lo+((0:Nat):Int)*1) ((((hi-lo).toNat:Nat):Int)-((0:Nat):Int)) 1
  rw[e1,e2]
  exact Heap.get?_push_size _ rfl
 ·have e:b=(s.heap.push { cls:=.type "range",data:=.fields #[.int lo t,.int hi u,.int 1 v] }).objs.size:=by simpa using hb
  subst e
  exact I1.fpOk (Nat.le_refl _) (I1.hok.fresh (Nat.le_refl _))
def a7P(ta:TA):TI:=fun σ H R=>ta σ H fun vs H1=>∃j:Int,vs=[.int j]∧-(2 ^ 62)≤j∧j<2 ^ 62∧R (Itr 0 j.toNat) H1
theorem O2{a:Expr}{ta:TA}{p pos:Pos}(hg:Gl X "range")(hm:X.mg "range" = none)(ha:PA X [a] ta)(hs:starEach [a] X.env=[(false,eval a X.env)]:=by rfl):PI X tg (.Call (.Name "range" p) [a] [] pos) (a7P ta):=by
 intro pins s σ H R I h
 refine Call_ (a1_ I hg hm boot_range (PyProof.Rows.callWith_type1 (t6 (ha pos pins s σ H _ I h) fun us s1 ⟨vs,H1,I1,r1,q1⟩=>?_) hs rfl))
 obtain⟨j,e,q1,q2,q⟩:=q1
 subst e
 cases r1 with
 | cons r rr =>
  cases rr
  obtain⟨t,rfl⟩:=r
  exact call_range_1 (a9_ I1 '!' '!' q1 q2 (by simpa using q))
def a3a(wi:TI)(g:TG)(tb:TS):TS:=fun D σ H=>wi σ H fun J H1=>∃W:Nat→Nat→St→Hp→Prop,(∃m,W 0 m σ H1)∧∀i m σ H,W i m σ H →
 (J.stop i H∧D.nx σ H)∨(J.go i H∧∃N:St→Hp→Prop,(∀σ' H',N σ' H'→∃m',m'<m∧W (i+1) m' σ' H')∧∀x H',J.yld i H x H'→g x σ H' fun σ2 H2=>tb { D with nx:=N,ct:=N,bk:=D.nx } σ2 H2)
def a2b(fp:List Addr)(h:Heap):List (Addr×Obj):=fp.filterMap fun b=>(h.get? b).map fun o=>(b,o)
theorem a0n{fp:List Addr}{h:Heap}{b:Addr}{o:Obj}(hb:b∈fp)(e:h.get? b=some o):(b,o)∈a2b fp h:=List.mem_filterMap.mpr ⟨b,hb,by rw[e];rfl⟩
theorem a8V{fp:List Addr}{h:Heap}{p:Addr×Obj}(hp:p∈a2b fp h):p.1∈fp∧h.get? p.1=some p.2:=by
 obtain⟨b,hb,e⟩:=List.mem_filterMap.mp hp
 cases q:h.get? b with
 | none=>rw[q]at e;cases e
 | some o =>
  rw[q]at e
  have e':(b,o)=p:=Option.some.inj e
  subst e'
  exact⟨hb,q⟩
theorem Inv.pinned{pins:List (Addr×Obj)}{σ:St}{H:Hp}{s:Shared}{fp:List Addr}(I:Inv X pins σ H s)(hf:∀b∈fp,FpOk X pins H b)(ho:∀b∈fp,∃o,s.heap.get? b=some o∧∀v,o.data≠.cell v):Inv X (pins++a2b fp s.heap) σ H s :=
 I.pins_of fun p hp=>(List.mem_append.mp hp).elim (fun z=>I.pin p (List.mem_append_right _ z)) fun z=>by
  obtain⟨hb,e⟩:=a8V z
  obtain⟨f0,f1,f2,_⟩:=hf p.1 hb
  obtain⟨o,e',d⟩:=ho p.1 hb
  rw[e]at e';cases e'
  exact⟨e,f0,f1,f2,d⟩
theorem Inv.unpinned{pins pl:List (Addr×Obj)}{σ:St}{H:Hp}{s:Shared}(I:Inv X (pins++pl) σ H s):Inv X pins σ H s:=I.pins_of fun p hp=>I.pin p (List.mem_append_right _ (List.mem_append_left _ hp))
theorem N6{iter:Expr}{body:List Stmt}{wi:TI}{g:TG}{tb:TS}{pos:Pos}(hp:PassesOwn (model X.prog X.w) X.A X.env X.xe)(hc:X.calm=true)(hi:PI X tg iter wi)(hg:PG X tg g)(hb:PSs X body tb)
  (hs:∀x,foldedSetIterable iter X.env x=pure x:=by intro _;rfl):PS X (.For tg iter body [] pos) (a3a wi g tb):=by
 intro pins s σ H D I h
 refine wpAny_For (t6 (hi pins s σ H _ I h) fun v s1 h1=>t6 h1 fun itv s2 h2=>?_) hs
 obtain⟨it,fp,tn,J,H2,e,I2,T,st2,f2,W,⟨m0,w0⟩,turn⟩:=h2
 subst e
 -- what stays true of the iterator's objects through the loop
 have stat:∀{H':Hp},(∀b∈fp,H' b=none)→∀b∈fp,FpOk X pins H' b:=fun hn b hb=>⟨hn b hb,(f2 b hb).2⟩
 refine codeAny_forLoop_any (fun n s'=>∃i σ' H',Inv X pins σ' H' s'∧tn i s'.heap∧(∀b∈fp,H' b=none)∧W i n σ' H') ?_ m0 ⟨0,σ,H2,I2,st2,fun b hb=>(f2 b hb).1,w0⟩
 rintro n s3 ⟨i,σ3,H3,I3,st3,fr3,w3⟩
 rcases turn i n σ3 H3 w3 with⟨stop,qn⟩ | ⟨go,N,hN,step⟩
 ·refine wpAny_passesOwn hp (t6 (T.done X rfl rfl rfl hc i pins s3 σ3 H3 X.xe I3 (stat fr3) st3 stop) fun r s4 ⟨hr,I4⟩=>?_)
  subst hr
  exact wpAny_execs_nil ⟨σ3,H3,I4,qn⟩
 ·refine wpAny_passesOwn hp (t6 (T.item X rfl rfl rfl hc i pins s3 σ3 H3 X.xe I3 (stat fr3) st3 go) fun r s4 ⟨u,hr,h4⟩=>?_)
  subst hr
  refine wpAny_passesOwn hp (t6 h4 fun _ s5 ⟨x,H5,I5,r5,y5,st5,fr5⟩=>?_)
  have I5':=I5.pinned (stat fr5) (T.obj _ _ st5)
  refine wpAny_passesOwn hp (t6 (hg _ s5 σ3 H5 x u _ I5' r5 (step x H5 y5)) fun _ s6 ⟨σ6,H6,I6,q6⟩=>?_)
  refine wpAny_passesOwn hp (t6 (hb _ s6 σ6 H6 _ I6 q6) fun f s7 q7=>?_)
  have again:∀{σ7:St} {H7:Hp},Inv X (pins++a2b fp s5.heap) σ7 H7 s7→N σ7 H7→∃m,m<n∧∃i σ' H',Inv X pins σ' H' s7∧tn i s7.heap∧(∀b∈fp,H' b=none)∧W i m σ' H':=fun{σ7 H7} I7 n7=>by
   obtain⟨m',hm,w7⟩:=hN σ7 H7 n7
   refine⟨m',hm,i+1,σ7,H7,I7.unpinned,T.keep _ _ _ st5 fun b hb o e=>(I7.pin (b,o) (List.mem_append_right _ (List.mem_append_right _ (a0n hb e)))).1,fun b hb=>?_,w7⟩
   obtain⟨o,e,d⟩:=T.obj _ _ st5 b hb
   exact(I7.pin (b,o) (List.mem_append_right _ (List.mem_append_right _ (a0n hb e)))).2.1
  cases f with
  | next=>obtain⟨σ7,H7,I7,n7⟩:=q7;exact again I7 n7
  | cont=>obtain⟨σ7,H7,I7,n7⟩:=q7;exact again I7 n7
  | brk=>obtain⟨σ7,H7,I7,q7⟩:=q7;exact⟨σ7,H7,I7.unpinned,q7⟩
  | ret v=>obtain⟨x7,σ7,H7,I7,r7,q7⟩:=q7;exact⟨x7,σ7,H7,I7.unpinned,r7,q7⟩
end
theorem a5C{K:PySem.W.Frag}{a:Addr}{xs:List V}{g:TG}{tb:TS}{D:Ends}{σ:St}{H:Hp}(Pv:Nat→St→Hp→Prop)(h0:Pv 0 σ H)(hl:∀i σ H,i≤xs.length→Pv i σ H→SqL K H a xs)
  (hs:∀i x σ H,xs[i]? = some x→Pv i σ H→g x σ H fun σ2 H2=>tb { D with nx:=Pv (i+1),ct:=Pv (i+1),bk:=D.nx } σ2 H2) (hd:∀σ H,Pv xs.length σ H→D.nx σ H) :
  ∃W:Nat→Nat→St→Hp→Prop,(∃m,W 0 m σ H)∧∀i m σ H,W i m σ H →
   ((Itl K a).stop i H∧D.nx σ H)∨((Itl K a).go i H∧∃N:St→Hp→Prop,(∀σ' H',N σ' H'→∃m',m'<m∧W (i+1) m' σ' H')∧∀x H',(Itl K a).yld i H x H'→g x σ H' fun σ2 H2=>tb { D with nx:=N,ct:=N,bk:=D.nx } σ2 H2):=by
 refine⟨fun i m σ H=>m=xs.length-i∧i≤xs.length∧Pv i σ H,⟨xs.length,by simp,Nat.zero_le _,h0⟩,?_⟩
 rintro i m σ H ⟨rfl,hi,p⟩
 have q:=hl i σ H hi p
 by_cases hlt:i<xs.length
 ·refine .inr ⟨⟨xs,xs[i],q,by simp[hlt]⟩,Pv (i+1),fun σ' H' p'=>⟨xs.length-(i+1),by omega,rfl,hlt,p'⟩,fun x H' y=>?_⟩
  obtain⟨e,y⟩:=y
  subst e
  exact hs i x σ _ (y xs q) p
 ·have e:i=xs.length:=by omega
  subst e
  exact .inl ⟨⟨xs,q,Nat.le_refl _⟩,hd σ H p⟩
theorem b10{K:PySem.W.Frag}{a:Addr}{xs:List V}{g:TG}{tb:TS}{D:Ends}{σ:St}{H:Hp}(Pv:Nat→St→Hp→Prop)(h0:Pv 0 σ H)(hl:∀i σ H,i≤xs.length→Pv i σ H→SqT K H a xs)
  (hs:∀i x σ H,xs[i]? = some x→Pv i σ H→g x σ H fun σ2 H2=>tb { D with nx:=Pv (i+1),ct:=Pv (i+1),bk:=D.nx } σ2 H2) (hd:∀σ H,Pv xs.length σ H→D.nx σ H) :
  ∃W:Nat→Nat→St→Hp→Prop,(∃m,W 0 m σ H)∧∀i m σ H,W i m σ H →
   ((Itt K a).stop i H∧D.nx σ H)∨((Itt K a).go i H∧∃N:St→Hp→Prop,(∀σ' H',N σ' H'→∃m',m'<m∧W (i+1) m' σ' H')∧∀x H',(Itt K a).yld i H x H'→g x σ H' fun σ2 H2=>tb { D with nx:=N,ct:=N,bk:=D.nx } σ2 H2):=by
 refine⟨fun i m σ H=>m=xs.length-i∧i≤xs.length∧Pv i σ H,⟨xs.length,by simp,Nat.zero_le _,h0⟩,?_⟩
 rintro i m σ H ⟨rfl,hi,p⟩
 have q:=hl i σ H hi p
 by_cases hlt:i<xs.length
 ·refine .inr ⟨⟨xs,xs[i],q,by simp[hlt]⟩,Pv (i+1),fun σ' H' p'=>⟨xs.length-(i+1),by omega,rfl,hlt,p'⟩,fun x H' y=>?_⟩
  obtain⟨e,y⟩:=y
  subst e
  exact hs i x σ _ (y xs q) p
 ·have e:i=xs.length:=by omega
  subst e
  exact .inl ⟨⟨xs,q,Nat.le_refl _⟩,hd σ H p⟩
theorem a4P{lo:Int}{n:Nat}{g:TG}{tb:TS}{D:Ends}{σ:St}{H:Hp}(Pv:Nat→St→Hp→Prop)(h0:Pv 0 σ H)
  (hs:∀i σ H,i<n→Pv i σ H→g (.int (lo+i)) σ H fun σ2 H2=>tb { D with nx:=Pv (i+1),ct:=Pv (i+1),bk:=D.nx } σ2 H2) (hd:∀σ H,Pv n σ H→D.nx σ H) :
  ∃W:Nat→Nat→St→Hp→Prop,(∃m,W 0 m σ H)∧∀i m σ H,W i m σ H →
   ((Itr lo n).stop i H∧D.nx σ H)∨((Itr lo n).go i H∧∃N:St→Hp→Prop,(∀σ' H',N σ' H'→∃m',m'<m∧W (i+1) m' σ' H')∧∀x H',(Itr lo n).yld i H x H'→g x σ H' fun σ2 H2=>tb { D with nx:=N,ct:=N,bk:=D.nx } σ2 H2):=by
 refine⟨fun i m σ H=>m=n-i∧i≤n∧Pv i σ H,⟨n,by simp,Nat.zero_le _,h0⟩,?_⟩
 rintro i m σ H ⟨rfl,hi,p⟩
 by_cases hlt:i<n
 ·refine .inr ⟨hlt,Pv (i+1),fun σ' H' p'=>⟨n-(i+1),by omega,rfl,hlt,p'⟩,fun x H' y=>?_⟩
  obtain⟨e,y⟩:=y
  subst e y
  exact hs i σ _ hlt p
 ·have e:i=n:=by omega
  subst e
  exact .inl ⟨Nat.le_refl _,hd σ H p⟩
abbrev R2:=V→V→Hp→VK→Prop
def K7(X:Cx)(f:Value→Value→Sem Value)(r:R2):Prop :=
 ∀(pins:List (Addr×Obj)) (s:Shared) (σ:St) (H:Hp) (x y:V) (v u:Value) (Q:VK),Inv X pins σ H s→RelV x v→RelV y u→r x y H Q →
  wpAny (model X.prog X.w) X.A (f v u) (EP X pins σ Q) X.xe s
def UnR(X:Cx)(f:Value→Sem Value)(r:V→Hp→VK→Prop):Prop :=
 ∀(pins:List (Addr×Obj)) (s:Shared) (σ:St) (H:Hp) (x:V) (v:Value) (Q:VK),Inv X pins σ H s→RelV x v→r x H Q →
  wpAny (model X.prog X.w) X.A (f v) (EP X pins σ Q) X.xe s
def Y8(X:Cx)(f:Value)(r:List V→Hp→VK→Prop):Prop :=
 ∀(pins:List (Addr×Obj)) (s:Shared) (σ:St) (H:Hp) (xs:List V) (us:List Value) (Q:VK),Inv X pins σ H s→Vals xs us→r xs H Q →
  wpAny (model X.prog X.w) X.A (call f us) (EP X pins σ Q) X.xe s
def tOp(r:R2)(ta tb:TE):TE:=fun σ H Q=>ta σ H fun x H1=>tb σ H1 fun y H2=>r x y H2 Q
def tUn(r:V→Hp→VK→Prop)(ta:TE):TE:=fun σ H Q=>ta σ H fun x H1=>r x H1 Q
def rI(C:Int→Int→Prop)(g:Int→Int→V):R2:=fun x y H Q=>∃i j,x=.int i∧y=.int j∧C i j∧Q (g i j) H
def rI0(g:Int→Int→V):R2:=fun x y H Q=>∃i j,x=.int i∧y=.int j∧Q (g i j) H
def rU(g:Int→V):V→Hp→VK→Prop:=fun x H Q=>∃i,x=.int i∧Q (g i) H
section
variable {X:Cx}{a b c:Expr}{ta tb tc:TE}{pos:Pos}
theorem b0a(ha:PE X a ta)(hb:PE X b tb){pins:List (Addr×Obj)}{s:Shared}{σ:St}{H:Hp}{R:V→V→Hp→Prop}(I:Inv X pins σ H s)
  (h:ta σ H fun x H1=>tb σ H1 fun y H2=>R x y H2) {Q:Value→Shared→Prop} {f:Value→Value→Sem Value}
  (hf:∀v u s2 x y H2,Inv X pins σ H2 s2→RelV x v→RelV y u→R x y H2→wpAny (model X.prog X.w) X.A (f v u) Q X.xe s2) :
  wpAny (model X.prog X.w) X.A (eval a X.env) (fun v s₁=>wpAny (model X.prog X.w) X.A (eval b X.env) (fun u s₂=>wpAny (model X.prog X.w) X.A (f v u) Q X.xe s₂) X.xe s₁) X.xe s:=by
 refine t6 (ha pins s σ H _ I h) fun v s1 ⟨x,H1,I1,r1,q1⟩=>?_
 refine t6 (hb pins s1 σ H1 _ I1 q1) fun u s2 ⟨y,H2,I2,r2,q2⟩=>?_
 exact hf v u s2 x y H2 I2 r1 r2 q2
theorem h7{op:Operator}{r:R2}(ho:K7 X (binaryOp op) r)(ha:PE X a ta)(hb:PE X b tb):PE X (.BinOp a op b pos) (tOp r ta tb):=by
 intro pins s σ H Q I h
 exact wpAny_BinOp (b0a ha hb I h fun v u s2 x y H2 I2 rx ry q=>ho pins s2 σ H2 x y v u Q I2 rx ry q)
theorem a7Q{op:UnaryOp}{r:V→Hp→VK→Prop}(ho:UnR X (unaryOp op) r)(ha:PE X a ta):PE X (.UnaryOp op a pos) (tUn r ta):=by
 intro pins s σ H Q I h
 exact UnaryOp_ (t6 (ha pins s σ H _ I h) fun v s1 ⟨x,H1,I1,r1,q1⟩=>ho pins s1 σ H1 x v Q I1 r1 q1)
theorem opI{f:Value→Value→Sem Value}{C:Int→Int→Prop}{g:Int→Int→Int}
  (rule:∀(i j:Int) (t u:Tok) (s:Shared) (Q:Value→Shared→Prop) (E:Value→Shared→Prop),C i j→Q (.int (g i j) s.toks) { s with toks:=s.toks+1 }→wpAny (model X.prog X.w) X.A (f (.int i t) (.int j u)) Q E s) :
  K7 X f (rI C fun i j=>.int (g i j)):=by
 intro pins s σ H x y v u Q I rx ry h
 obtain⟨i,j,rfl,rfl,hc,q⟩:=h
 obtain⟨t,rfl⟩:=rx
 obtain⟨t',rfl⟩:=ry
 exact rule i j t t' s _ _ hc ⟨.int (g i j),H,I.tok _,⟨_,rfl⟩,q⟩
theorem b3L{f:Value→Value→Sem Value}{g:Int→Int→Int}
  (rule:∀(i j:Int) (t u:Tok) (s:Shared) (Q:Value→Shared→Prop) (E:Value→Shared→Prop),Q (.int (g i j) s.toks) { s with toks:=s.toks+1 }→wpAny (model X.prog X.w) X.A (f (.int i t) (.int j u)) Q E s) :
  K7 X f (rI0 fun i j=>.int (g i j)):=by
 intro pins s σ H x y v u Q I rx ry h
 obtain⟨i,j,rfl,rfl,q⟩:=h
 obtain⟨t,rfl⟩:=rx
 obtain⟨t',rfl⟩:=ry
 exact rule i j t t' s _ _ ⟨.int (g i j),H,I.tok _,⟨_,rfl⟩,q⟩
theorem a7R{f:Value→Value→Sem Value}{g:Int→Int→Bool}
  (rule:∀(i j:Int) (t u:Tok) (s:Shared) (Q:Value→Shared→Prop) (E:Value→Shared→Prop),Q (.bool (g i j)) s→wpAny (model X.prog X.w) X.A (f (.int i t) (.int j u)) Q E s) :
  K7 X f (rI0 fun i j=>.bl (g i j)):=by
 intro pins s σ H x y v u Q I rx ry h
 obtain⟨i,j,rfl,rfl,q⟩:=h
 obtain⟨t,rfl⟩:=rx
 obtain⟨t',rfl⟩:=ry
 exact rule i j t t' s _ _ ⟨.bl (g i j),H,I,rfl,q⟩
def a09(i j:Int):Prop:=0≤j∧j≤1000000∧i.natAbs<2 ^ 64
def CMul(i j:Int):Prop:=(-(2 ^ 64)<i∧i<2 ^ 64)∨(-(2 ^ 64)<j∧j<2 ^ 64)
theorem CMul.ok{i j:Int}(h:CMul i j):IntMulOk i j:=by
 rcases h with⟨h1,h2⟩ | ⟨h1,h2⟩
 ·exact .of_left (intBits_le_64 h1 h2)
 ·exact .of_right (intBits_le_64 h1 h2)
theorem z9:K7 X (binaryOp .Add) (rI0 fun i j=>.int (i+j)):=b3L fun _ _ _ _ _ _ _ q=>add_int q
theorem B4:K7 X (binaryOp .Sub) (rI0 fun i j=>.int (i-j)):=b3L fun _ _ _ _ _ _ _ q=>sub_int q
theorem w9:K7 X (binaryOp .Mod) (rI (fun _ j=>0<j) fun i j=>.int (i%j)):=opI fun i j _ _ _ _ _ hc q=>by
 have h1:(0:Int)<j:=hc
 exact mod_int' '!' (by rw[Int.fmod_eq_emod_of_nonneg i '!'];exact q)
theorem a3A:K7 X (binaryOp .Pow) (rI a09 fun i j=>.int (i ^ j.toNat)):=opI fun _ _ _ _ _ _ _ hc q=>pow_int_small hc.1 hc.2.1 hc.2.2 q
theorem unI{f:Value→Sem Value}{g:Int→Int}
  (rule:∀(i:Int) (t:Tok) (s:Shared) (Q:Value→Shared→Prop) (E:Value→Shared→Prop),Q (.int (g i) s.toks) { s with toks:=s.toks+1 }→wpAny (model X.prog X.w) X.A (f (.int i t)) Q E s) :
  UnR X f (rU fun i=>.int (g i)):=by
 intro pins s σ H x v Q I rx h
 obtain⟨i,rfl,q⟩:=h
 obtain⟨t,rfl⟩:=rx
 exact rule i t s _ _ ⟨.int (g i),H,I.tok _,⟨_,rfl⟩,q⟩
theorem a5D:UnR X (unaryOp .USub) (rU fun i=>.int (-i)):=unI fun _ _ _ _ _ q=>neg_int q
end
def a5E:V→V→Bool
 | .non,.non=>true | .non,.int _=>true | .int _,.non=>true | .non,.bl _=>true | .bl _,.non=>true | .non,.str _=>true | .str _,.non=>true
 | .int _,.int _=>true | .bl _,.bl _=>true | .str _,.str _=>true | .byt _,.byt _=>true
 | .int _,.str _=>true | .str _,.int _=>true | .bl _,.str _=>true | .str _,.bl _=>true
 | _,_=>false
def rEq:R2:=fun x y H Q=>a5E x y=true∧Q (.bl (decide (x=y))) H
def rNe:R2:=fun x y H Q=>a5E x y=true∧Q (.bl (!decide (x=y))) H
theorem a6X{i j:Int}:decide (V.int i=V.int j)=(i == j):=by
 rw[Bool.eq_iff_iff]
 simp
theorem a8W{i j:Bool}:decide (V.bl i=V.bl j)=(i == j):=by
 rw[Bool.eq_iff_iff]
 simp
theorem a6Y{i j:Str}:decide (V.str i=V.str j)=(i == j):=by
 rw[Bool.eq_iff_iff]
 simp
theorem a6Z{i j:Array UInt8}:decide (V.byt i=V.byt j)=(i.toList == j.toList):=by
 rw[Bool.eq_iff_iff]
 cases i
 cases j
 simp
section
variable {X:Cx}{a b c:Expr}{ta tb tc:TE}{pos:Pos}
theorem w6{pins:List (Addr×Obj)}{σ:St}{H:Hp}{s:Shared}{Q:VK}{k k':Bool}(I:Inv X pins σ H s)(q:Q (.bl k) H)(e:k=k'):EP X pins σ Q (.bool k') s:=by
 subst e
 exact⟨.bl k,H,I,rfl,q⟩
theorem C7:K7 X (compareOp .Eq) rEq:=by
 intro pins s σ H x y v u Q I rx ry h
 obtain⟨hs,q⟩:=h
 cases x with
 | non =>
  cases rx
  cases y with
  | non=>cases ry;exact PySem.EqNone.eq_none_none (w6 I q (by simp))
  | bl j=>cases ry;exact PySem.EqNone.eq_none_bool (w6 I q (by simp))
  | int j=>obtain⟨t',rfl⟩:=ry;exact PySem.EqNone.eq_none_int (w6 I q (by simp))
  | str j=>obtain⟨t',rfl⟩:=ry;exact PySem.EqNone.eq_none_str (w6 I q (by simp))
  | _=>exact absurd (show false=true from hs) Bool.false_ne_true
 | bl i =>
  cases rx
  cases y with
  | non=>cases ry;exact PySem.EqNone.eq_bool_none (w6 I q (by simp))
  | bl j=>cases ry;exact eq_bool (w6 I q a8W)
  | str j=>obtain⟨t',rfl⟩:=ry;exact PySem.EqMixed.eq_bool_str (w6 I q (by simp))
  | _=>exact absurd (show false=true from hs) Bool.false_ne_true
 | int i =>
  obtain⟨t,rfl⟩:=rx
  cases y with
  | non=>cases ry;exact PySem.EqNone.eq_int_none (w6 I q (by simp))
  | int j=>obtain⟨t',rfl⟩:=ry;exact eq_int (w6 I q a6X)
  | str j=>obtain⟨t',rfl⟩:=ry;exact PySem.EqMixed.eq_int_str (w6 I q (by simp))
  | _=>exact absurd (show false=true from hs) Bool.false_ne_true
 | str i =>
  obtain⟨t,rfl⟩:=rx
  cases y with
  | non=>cases ry;exact PySem.EqNone.eq_str_none (w6 I q (by simp))
  | bl j=>cases ry;exact PySem.EqMixed.eq_str_bool (w6 I q (by simp))
  | int j=>obtain⟨t',rfl⟩:=ry;exact PySem.EqMixed.eq_str_int (w6 I q (by simp))
  | str j=>obtain⟨t',rfl⟩:=ry;exact eq_str (w6 I q a6Y)
  | _=>exact absurd (show false=true from hs) Bool.false_ne_true
 | byt i =>
  obtain⟨t,rfl⟩:=rx
  cases y with
  | byt j=>obtain⟨t',rfl⟩:=ry;exact W.eq_bytes (w6 I q a6Z)
  | _=>exact absurd (show false=true from hs) Bool.false_ne_true
 | _=>cases y<;>exact absurd (show false=true from hs) Bool.false_ne_true
theorem a7S:K7 X (compareOp .NotEq) rNe:=by
 intro pins s σ H x y v u Q I rx ry h
 obtain⟨hs,q⟩:=h
 cases x with
 | non =>
  cases rx
  cases y with
  | non=>cases ry;exact PySem.EqNone.ne_none_none (w6 I q (by simp))
  | bl j=>cases ry;exact PySem.EqNone.ne_none_bool (w6 I q (by simp))
  | int j=>obtain⟨t',rfl⟩:=ry;exact PySem.EqNone.ne_none_int (w6 I q (by simp))
  | str j=>obtain⟨t',rfl⟩:=ry;exact PySem.EqNone.ne_none_str (w6 I q (by simp))
  | _=>exact absurd (show false=true from hs) Bool.false_ne_true
 | bl i =>
  cases rx
  cases y with
  | non=>cases ry;exact PySem.EqNone.ne_bool_none (w6 I q (by simp))
  | bl j=>cases ry;exact ne_bool (w6 I q (congrArg not a8W))
  | str j=>obtain⟨t',rfl⟩:=ry;exact PySem.EqMixed.ne_bool_str (w6 I q (by simp))
  | _=>exact absurd (show false=true from hs) Bool.false_ne_true
 | int i =>
  obtain⟨t,rfl⟩:=rx
  cases y with
  | non=>cases ry;exact PySem.EqNone.ne_int_none (w6 I q (by simp))
  | int j=>obtain⟨t',rfl⟩:=ry;exact ne_int (w6 I q (congrArg not a6X))
  | str j=>obtain⟨t',rfl⟩:=ry;exact PySem.EqMixed.ne_int_str (w6 I q (by simp))
  | _=>exact absurd (show false=true from hs) Bool.false_ne_true
 | str i =>
  obtain⟨t,rfl⟩:=rx
  cases y with
  | non=>cases ry;exact PySem.EqNone.ne_str_none (w6 I q (by simp))
  | bl j=>cases ry;exact PySem.EqMixed.ne_str_bool (w6 I q (by simp))
  | int j=>obtain⟨t',rfl⟩:=ry;exact PySem.EqMixed.ne_str_int (w6 I q (by simp))
  | str j=>obtain⟨t',rfl⟩:=ry;exact ne_str (w6 I q (congrArg not a6Y))
  | _=>exact absurd (show false=true from hs) Bool.false_ne_true
 | byt i =>
  obtain⟨t,rfl⟩:=rx
  cases y with
  | byt j=>obtain⟨t',rfl⟩:=ry;exact W.ne_bytes (w6 I q (congrArg not a6Z))
  | _=>exact absurd (show false=true from hs) Bool.false_ne_true
 | _=>cases y<;>exact absurd (show false=true from hs) Bool.false_ne_true
theorem a1w:K7 X (compareOp .Lt) (rI0 fun i j=>.bl (decide (i<j))):=a7R fun _ _ _ _ _ _ _ q=>lt_int q
theorem b48:K7 X (compareOp .LtE) (rI0 fun i j=>.bl (decide (i≤j))):=a7R fun _ _ _ _ _ _ _ q=>le_int q
theorem a2E:K7 X (compareOp .Gt) (rI0 fun i j=>.bl (decide (j<i))):=a7R fun _ _ _ _ _ _ _ q=>gt_int q
theorem a7T:K7 X (compareOp .GtE) (rI0 fun i j=>.bl (decide (j≤i))):=a7R fun _ _ _ _ _ _ _ q=>ge_int q
theorem a3B:K7 X (compareOp .Is) (fun x y H Q=>y=.non∧Q (.bl (decide (x=.non))) H):=by
 intro pins s σ H x y v u Q I rx ry h
 obtain⟨rfl,q⟩:=h
 cases ry
 refine is_none_gen (w6 I q ?_)
 cases x<;>first
  | (cases rx;rfl)
  | (obtain⟨t,rfl⟩:=rx;rfl)
theorem a60:K7 X (compareOp .IsNot) (fun x y H Q=>y=.non∧Q (.bl (!decide (x=.non))) H):=by
 intro pins s σ H x y v u Q I rx ry h
 obtain⟨rfl,q⟩:=h
 cases ry
 refine isnot_none_gen (w6 I q ?_)
 cases x<;>first
  | (cases rx;rfl)
  | (obtain⟨t,rfl⟩:=rx;rfl)
theorem i8(b:Expr){op:CmpOp}(h:op≠.In:=by decide)(h2:op≠.NotIn:=by decide):behindInMarks op b=false:=by
 have e1:(op == CmpOp.In)=false:=by cases op<;>first | rfl | exact absurd rfl h
 have e2:(op == CmpOp.NotIn)=false:=by cases op<;>first | rfl | exact absurd rfl h2
 cases b<;>simp[behindInMarks,e1,e2]
theorem C4{op:CmpOp}{r:R2}(ho:K7 X (compareOp op) r)(ha:PE X a ta)(hb:PE X b tb)(hm:behindInMarks op b=false):PE X (.Compare a [op] [b] pos) (tOp r ta tb):=by
 intro pins s σ H Q I h
 exact wpAny_Compare1 (b0a ha hb I h fun v u s2 x y H2 I2 rx ry q=>ho pins s2 σ H2 x y v u Q I2 rx ry q) hm
def a7U(t:TE):TT:=fun σ H Q=>t σ H fun x H'=>∃k,x=.bl k∧Q k H'
theorem j7{op:CmpOp}{r:R2}(ho:K7 X (compareOp op) r)(ha:PE X a ta)(hb:PE X b tb)(hm:behindInMarks op b=false):PT X (.Compare a [op] [b] pos) (a7U (tOp r ta tb)):=by
 intro pins s σ H Q I h
 refine wpAny_isTrue_Compare1 (t6 (ha pins s σ H _ I h) fun v s1 ⟨x,H1,I1,r1,q1⟩=>t6 (hb pins s1 σ H1 _ I1 q1) fun u s2 ⟨y,H2,I2,r2,q2⟩ =>
  t6 (ho pins s2 σ H2 x y v u _ I2 r1 r2 q2) fun c s3 ⟨z,H3,I3,r3,k,e,q3⟩=>?_) hm
 subst e
 cases r3
 exact wpAny_truthy_bool ⟨H3,I3,q3⟩
def a8X(r r':R2)(ta tb tc:TE):TE:=fun σ H Q=>ta σ H fun x H1=>tb σ H1 fun y H2=>r x y H2 fun z H3=>∃k,z=.bl k ∧
 (if k=true then tc σ H3 fun w' H4=>r' y w' H4 Q else Q (.bl false) H3)
theorem b0b{op op':CmpOp}{r r':R2}(ho:K7 X (compareOp op) r)(ho':K7 X (compareOp op') r')(ha:PE X a ta)(hb:PE X b tb)(hc:PE X c tc)
  (hm:lastMarks [op,op'] [b,c]=false:=by with_unfolding_all rfl):PT X (.Compare a [op,op'] [b,c] pos) (a7U (a8X r r' ta tb tc)):=by
 intro pins s σ H Q I h
 refine isTrue_chain (t6 (ha pins s σ H _ I h) fun v s1 ⟨x,H1,I1,r1,q1⟩=>test_link (t6 (hb pins s1 σ H1 _ I1 q1) fun u s2 ⟨y,H2,I2,r2,q2⟩ =>
  t6 (ho pins s2 σ H2 x y v u _ I2 r1 r2 q2) fun d s3 ⟨z,H3,I3,r3,k,e,q3⟩=>?_)) hm
 subst e
 cases r3
 refine wpAny_truthy_bool ?_
 cases k with
 | false =>
  obtain⟨k',e',q'⟩:=q3
  cases e'
  exact ite_ff ⟨H3,I3,q'⟩
 | true =>
  refine ite_tt (test_last (t6 (hc pins s3 σ H3 _ I3 q3) fun w' s4 ⟨z',H4,I4,r4,q4⟩=>t6 (ho' pins s4 σ H4 y z' u w' _ I4 r2 r4 q4) fun d' s5 ⟨z2,H5,I5,r5,k2,e2,q5⟩=>?_))
  subst e2
  cases r5
  exact wpAny_truthy_bool ⟨H5,I5,q5⟩
theorem a3C:(sizeLine:Nat)<2 ^ 63:=by rw[sizeLine_eq];decide
theorem a5n{x:V}{us:List Value}(r:Vals [x] us):∃u,us=[u]∧RelV x u:=by
 cases r with
 | cons r1 r2=>cases r2;exact⟨_,rfl,r1⟩
theorem b1p{x y:V}{us:List Value}(r:Vals [x,y] us):∃u w',us=[u,w']∧RelV x u∧RelV y w':=by
 cases r with
 | cons r1 r2 =>
  cases r2 with
  | cons r3 r4=>cases r4;exact⟨_,_,rfl,r1,r3⟩
theorem a2c(hc:X.calm=true):Y8 X (.builtin "max") (fun xs H Q=>∃i j,xs=[.int i,.int j]∧Q (.int (if j > i then j else i)) H):=by
 intro pins s σ H xs us Q I r h
 obtain⟨i,j,rfl,q⟩:=h
 obtain⟨u,w',rfl,⟨t,rfl⟩,⟨t',rfl⟩⟩:=b1p r
 refine max_two_ints (I.ok.hd hc) fun h' tk k=>⟨_,H,I.kept k,?_,q⟩
 by_cases hj:j > i
 ·rw[if_pos hj,if_pos hj];exact⟨_,rfl⟩
 ·rw[if_neg hj,if_neg hj];exact⟨_,rfl⟩
theorem a2d:Y8 X (.type "int") (fun xs H Q=>(∃i,xs=[.int i]∧Q (.int i) H)∨∃k,xs=[.bl k]∧Q (.int (if k then 1 else 0)) H):=by
 intro pins s σ H xs us Q I r h
 rcases h with⟨i,rfl,q⟩ | ⟨k,rfl,q⟩
 ·obtain⟨u,rfl,t,rfl⟩:=a5n r
  exact call_int_int ⟨.int i,H,I,⟨_,rfl⟩,q⟩
 ·obtain⟨u,rfl,r1⟩:=a5n r
  cases r1
  exact call_int_bool ⟨.int (if k then 1 else 0),H,I.tok _,⟨_,rfl⟩,q⟩
end
structure ObjM(h:Heap)(x dx C:Addr)(mA:Str→Option Value):Prop where
 obj:h.get? x=some (W.instObj C dx)
 ns:h.Ns1 dx mA
 ne:dx≠x
theorem a8Y{h:Heap}{dx:Addr}{mA:Str→Option Value}(n:h.Ns1 dx mA):∃od,h.get? dx=some od∧∀name,W.lookIn name od=some (mA name):=by
 obtain⟨o,es,ep,ho,hd,hk,_,hm⟩:=n
 refine⟨o,ho,fun name=>?_⟩
 have e:=hm name
 unfold nsFind findBy at e
 rw[← Array.find?_toList]at e
 unfold W.lookIn
 rw[hd]
 dsimp only
 split
 ·rename_i y q
  rw[q]at e
  exact congrArg some e
 ·rename_i q
  rw[q]at e
  have a:es.toList.any (·.refKey)=false:=by
   rw[List.any_eq_false]
   intro y hy
   obtain⟨z,t,hkey⟩:=hk y (Array.mem_toList_iff.mp hy)
   simp[DictEntry.refKey,hkey]
  have a':¬es.toList.any (·.refKey)=true:=by rw[a];exact Bool.false_ne_true
  rw[if_neg a']
  exact congrArg some e
theorem ObjM.look{h:Heap}{x dx C:Addr}{mA:Str→Option Value}(I:ObjM h x dx C mA):∃od,W.InstAt h x (W.instObj C dx) C (some od)∧∀name,W.lookIn name od=some (mA name) :=
 let ⟨od,ho,hl⟩:=a8Y I.ns
 ⟨od,⟨I.obj,rfl,rfl,ho⟩,hl⟩
section
variable {P:Program}{w:World}{H H':Hp}{h h':Heap}{a C dx:Addr}{fs fs':List (Str×V)}
theorem b11(hok:HOk P w H h)(e:H a=some (.ins C dx fs)):∃mA,ObjM h a dx C mA∧(∀f,RelO (fs.lookup f) (mA f))∧PySem.Within mA (fs.map (·.1))∧fs.length≤1000∧H dx=some (.own a):=by
 obtain⟨d,z,ne,ob,mA,n,r,q⟩:=(show ObjOk P w H h a (.ins C dx fs)from hok a _ e)
 exact⟨mA,⟨ob,n,ne⟩,r,q,z,d⟩
end
structure Cls(K:W.Frag)(C:Addr):Prop where
 pg:W.plainGet K C Str.empty=true
 hd:W.hasDictIn K C=true
 po:W.plainOver K C=true
 sa:W.findIn K (.ref C) "__setattr__" = some (some (.builtin "object.__setattr__"))
theorem Cls.get{K:W.Frag}{C:Addr}(c:Cls K C)(f:Str):W.plainGet K C f=true:=c.pg
section
variable {X:Cx}{pins:List (Addr×Obj)}{σ:St}{H:Hp}{s:Shared}{a C dx:Addr}{fs:List (Str×V)}{f:Str}{v:V}{A:Around}{E:Value→Shared→Prop}
theorem Inv.made(I:Inv X pins σ H s):Inv X pins σ (upd (upd H s.heap.objs.size (.own (s.heap.objs.size+1))) (s.heap.objs.size+1) (.ins C s.heap.objs.size []))
  { s with heap:=(s.heap.push W.emptyDict).push (W.instObj C s.heap.objs.size) }:=by
 have e1:(s.heap.push W.emptyDict).get? s.heap.objs.size=some W.emptyDict:=Heap.get?_push_size s.heap rfl
 have e2:((s.heap.push W.emptyDict).push (W.instObj C s.heap.objs.size)).get? (s.heap.objs.size+1)=some (W.instObj C s.heap.objs.size):=by
  have:=Heap.get?_push_size (s.heap.push W.emptyDict) (o:=W.instObj C s.heap.objs.size) rfl
  rwa [Heap.size_push]at this
 have e3:(s.heap.push W.emptyDict).Ns s.heap.objs.size (fun _=>none):=⟨W.emptyDict,#[],_,e1,rfl,(fun e he=>absurd he (by simp)),fun _=>rfl⟩
 have I1:=I.laid (a:=s.heap.objs.size) (o:=.own (s.heap.objs.size+1)) (h':=s.heap.push W.emptyDict) (t':=s.toks) (fun b u q=>Heap.get?_push_of_some _ q) (Nat.le_refl _) ⟨_,e1⟩
 refine I1.laid (a:=s.heap.objs.size+1) (o:=.ins C s.heap.objs.size []) (t':=s.toks) (fun b u q=>Heap.get?_push_of_some _ q) (Nat.le_of_eq (Heap.size_push _ _)) ?_
 have ne:s.heap.objs.size≠s.heap.objs.size+1:=Nat.ne_of_lt (Nat.lt_succ_self _)
 refine⟨by rw[g7 ne,j8],Nat.zero_le _,ne,e2,fun _=>none,(Heap.Ns1.of_empty e3).at fun o q=>Heap.get?_push_of_some _ q,fun _=>True.intro,fun y hy=>absurd rfl hy⟩
end
section
variable {X:Cx}{pins:List (Addr×Obj)}{σ:St}{H:Hp}{s:Shared}{A:Around}{E:Value→Shared→Prop}{Q:Value→Shared→Prop}{c:Value}{b:Bool}
inductive TyOf(K:W.Frag)(H:Hp):V→Value→Prop where
 | non:TyOf K H .non (.type "NoneType")
 | bl (x:Bool):TyOf K H (.bl x) (.type "bool")
 | int (i:Int):TyOf K H (.int i) (.type "int")
 | str (x:Str):TyOf K H (.str x) (.type "str")
 | flt (x:UInt64):TyOf K H (.flt x) (.type "float")
 | lst {a:Addr} {xs:List V} (e:H a=some (.lst xs)):TyOf K H (.ref a) (.type "list")
 | frz {a:Addr} {o:Obj} {xs:List V} (e:H a=some (.frz o (.lst xs))):TyOf K H (.ref a) (.type "list")
 | tup {a:Addr} {xs:List V} (e:H a=some (.tup xs)):TyOf K H (.ref a) (.type "tuple")
 | dK {a:Addr} {kvs:List (v9×V)} (e:H a=some (.dK kvs)):TyOf K H (.ref a) (.type "dict")
 | dT {a:Addr} {kvs:List (List v9×V)} (e:H a=some (.dT kvs)):TyOf K H (.ref a) (.type "dict")
 | ins {a C dx:Addr} {fs:List (Str×V)} (e:H a=some (.ins C dx fs)) (cl:Cls K C) (ha:W.findIn K (.ref C) "__class__" = some (some (.builtin "object.__class__")))
   (hn:W.specialIn K (.builtin "object.__class__") "__get__" = some (some (.builtin "getset_descriptor.__get__"))) (htk:W.takesIn K (.builtin "object.__class__")=some true)
   (hm:W.mroIn K C (.type "object")=some true):TyOf K H (.ref a) (.ref C)
end
structure Room(k:Nat)(A:Around):Prop where
 hd:A.handled=none
 dp:A.depth+3*k+5<recursionLimit
 un:A.units+16*k+200<cLine
theorem Room.mono{j k:Nat}{A:Around}(r:Room k A)(h:j≤k):Room j A:=⟨r.hd,by have:=r.dp;omega,by have:=r.un;omega⟩
theorem Room.deeper{k:Nat}{A:Around}(r:Room (k+1) A)(env:Env):Room k (A.deeper env) :=
 ⟨r.hd,by have:=r.dp;show A.depth+1+3*k+5<_;omega,by have:=r.un;show A.units+3+16*k+200<_;omega⟩
theorem Room.in1{k:Nat}{A:Around}(r:Room (k+1) A):Room k A.in1 :=
 ⟨r.hd,by have:=r.dp;show A.depth+3*k+5<_;omega,by have:=r.un;show A.units+1+16*k+200<_;omega⟩
theorem Room.depth{k:Nat}{A:Around}(r:Room k A):A.depth<recursionLimit:=by have:=r.dp;omega
theorem Room.units{k:Nat}{A:Around}(r:Room k A):A.units+64<cLine:=by have:=r.un;omega
def a0C:TA:=fun _ H Q=>Q [] H
def L7(ta:TE)(tr:TA):TA:=fun σ H Q=>ta σ H fun x H1=>tr σ H1 fun xs H2=>Q (x::xs) H2
section
variable {X:Cx}{e:Expr}{es:List Expr}{te:TE}{t:TA}{pos:Pos}
theorem c6:PA X [] a0C:=fun _ _ _ _ H Q I h=>Calls.spliced_nil ⟨[],H,I,.nil,h⟩
theorem a6(ha:PE X e te)(hr:PA X es t)(hs:starEach (e::es) X.env=(false,eval e X.env)::starEach es X.env:=by rfl):PA X (e::es) (L7 te t):=by
 intro pos pins s σ H Q I h
 rw[hs]
 show wpAny _ _ (spliced ((false,eval e X.env)::backTo pos (starEach es X.env))) _ _ s
 refine Calls.spliced_cons (t6 (ha pins s σ H _ I h) fun u s1 ⟨x,H1,I1,r1,q1⟩=>?_)
 exact t6 (hr pos pins s1 σ H1 _ I1 q1) fun us s2 ⟨xs,H2,I2,r2,q2⟩=>⟨x::xs,H2,I2,.cons r1 r2,q2⟩
def a7V(t:TA):TE:=fun σ H Q=>t σ H fun xs H1=>xs.length≤sizeLine∧∀p,H1 p=none→Q (.ref p) (upd H1 p (.tup xs))
def b3M(t:TA):TE:=fun σ H Q=>t σ H fun xs H1=>xs.length≤sizeLine∧∀p,H1 p=none→Q (.ref p) (upd H1 p (.lst xs))
theorem i0{x1}(h:PA X es t):PE X (.Tuple es x1 pos) (a7V t):=by
 intro pins s σ H Q I hq
 refine wpAny_Tuple_spliced (t6 (h pos pins s σ H _ I hq) fun us s1 ⟨xs,H1,I1,r,z,q⟩=>⟨by rw[← r.length];exact z,?_⟩)
 have hf:H1 s1.heap.objs.size=none:=I1.hok.fresh (Nat.le_refl _)
 refine⟨.ref s1.heap.objs.size,upd H1 s1.heap.objs.size (.tup xs),I1.laid (t':=s1.toks) (fun b u e=>Heap.get?_push_of_some _ e) (Nat.le_refl _) ?_,rfl,q _ hf⟩
 exact⟨z,us,r,⟨_,Heap.get?_push_size _ rfl,rfl,_,rfl⟩⟩
theorem V8(h:PA X es t):PE X (.List es pos) (b3M t):=by
 intro pins s σ H Q I hq
 refine wpAny_List_spliced (t6 (h pos pins s σ H _ I hq) fun us s1 ⟨xs,H1,I1,r,z,q⟩=>⟨by rw[← r.length];exact z,?_⟩)
 have hf:H1 s1.heap.objs.size=none:=I1.hok.fresh (Nat.le_refl _)
 refine⟨.ref s1.heap.objs.size,upd H1 s1.heap.objs.size (.lst xs),I1.laid (t':=s1.toks) (fun b u e=>Heap.get?_push_of_some _ e) (Nat.le_refl _) ?_,rfl,q _ hf⟩
 exact⟨z,us,0,r,Heap.get?_push_size _ rfl⟩
end
abbrev Sp:=List V→Hp→VK→XK→Prop
abbrev CXT:=List Env→Hp→Shared→XK→Value→Shared→Prop
structure Env0(P:Program)(w:World)(K:W.Frag)(mg:Str→Option Value)(base:Heap)(A:Around)(outer:List Env)(s:Shared)(H:Hp):Prop where
 frames:A.frames=some outer
 mod:Mod K mg base
 bs:∀b o,base.get? b=some o→s.heap.get? b=some o∧H b=none
 bsz:base.objs.size≤s.heap.objs.size
 funs:s.heap.FunFrames base outer
 frf:∀b∈N4 outer,H b=none
 hok:HOk P w H s.heap
 bare:AllBare s.gens
def CE(outer:List Env)(P:Program)(w:World)(H:Hp)(s:Shared)(Q:VK)(u:Value)(s':Shared):Prop :=
 ∃v H',s'.os=s.os∧AllBare s'.gens∧Un (N4 outer) [] H H' s.heap s'.heap∧HOk P w H' s'.heap∧RelV v u∧Q v H'
def CR(CX:CXT)(outer:List Env)(P:Program)(w:World)(H:Hp)(s:Shared)(Q:VK)(E:XK)(r:Result)(s':Shared):Prop :=
 match r with
 | .ok (.ret u)=>CE outer P w H s Q u s'
 | .ok _=>False
 | .error e=>CX outer H s E e s'
structure FnOk(P:Program)(w:World)(K:W.Frag)(mg:Str→Option Value)(base:Heap)(CX:CXT)(k:Nat)(f:Addr)(fd:FuncData)(ps:List Str)(sp:Sp):Prop where
 len:∀vs H Q E,sp vs H Q E→vs.length=ps.length
 run:∀(A:Around) (outer:List Env) (s:Shared) (H:Hp) (args:Args) (us:List Value) (vs:List V) (Q:VK) (E:XK),Room k A→Env0 P w K mg base A outer s H→BindsTo s fd args (ps.zip us)→Vals vs us→sp vs H Q E →
  codeAny (model P w) A (.call (.ref f) args) (CR CX outer P w H s Q E) s
theorem FnOk.mono{P:Program}{w:World}{K:W.Frag}{mg:Str→Option Value}{base:Heap}{CX:CXT}{j k:Nat}{f:Addr}{fd:FuncData}{ps:List Str}{sp:Sp}(F:FnOk P w K mg base CX j f fd ps sp)(h:j≤k) :
  FnOk P w K mg base CX k f fd ps sp:=⟨F.len,fun A outer s H args us vs Q E hr=>F.run A outer s H args us vs Q E (hr.mono h)⟩
theorem FnOk.imp{P:Program}{w:World}{K:W.Frag}{mg:Str→Option Value}{base:Heap}{CX:CXT}{k:Nat}{f:Addr}{fd:FuncData}{ps:List Str}{sp sp':Sp}(F:FnOk P w K mg base CX k f fd ps sp)
  (h:∀vs H Q E,sp' vs H Q E→sp vs H Q E):FnOk P w K mg base CX k f fd ps sp' :=
 ⟨fun vs H Q E q=>F.len vs H Q E (h _ _ _ _ q),fun A outer s H args us vs Q E hr he hb hv hs=>F.run A outer s H args us vs Q E hr he hb hv (h _ _ _ _ hs)⟩
theorem Env0.in1{P:Program}{w:World}{K:W.Frag}{mg:Str→Option Value}{base:Heap}{A:Around}{outer:List Env}{s:Shared}{H:Hp}(e:Env0 P w K mg base A outer s H) :
  Env0 P w K mg base A.in1 outer s H:=⟨e.frames,e.mod,e.bs,e.bsz,e.funs,e.frf,e.hok,e.bare⟩
section
variable {X:Cx}{pins:List (Addr×Obj)}{σ:St}{H:Hp}{s s':Shared}
theorem Inv.env0(I:Inv X pins σ H s):Env0 X.prog X.w X.K X.mg X.base X.A X.stack s H :=
 ⟨I.ok.frames,I.ok.mod,I.bs,Nat.le_trans I.ok.bsz I.sz,I.stack,I.stkFree,I.hok,I.bare⟩
theorem Inv.after{Q:VK}{u:Value}(I:Inv X pins σ H s)(h:CE X.stack X.prog X.w H s Q u s'):EP X pins σ Q u s':=by
 obtain⟨v,H',os,bare,un,hok,r,q⟩:=h
 obtain⟨hh,g,d,t,os'⟩:=s'
 obtain rfl:os'=s.os:=os
 exact⟨v,H',I.call (h':=hh) (g':=g) (d':=d) (t':=t) (ch:=[]) un hok bare (fun b z=>absurd z (by simp)),r,q⟩
end
def Y9(sp:Sp)(dvs:List V)(E:XK)(t:TA):TE:=fun σ H Q=>t σ H fun vs H1=>sp (vs++dvs) H1 Q E
def Binds(K:W.Frag)(fd:FuncData)(ps:List Str)(ds:List Value):Prop :=
 ∀(s:Shared) (us:List Value),K.In s.heap→(us++ds).length=ps.length→BindsTo s fd ⟨us,[]⟩ (ps.zip (us++ds))
theorem Binds.all{K:W.Frag}{fd:FuncData}{ps:List Str}(h:∀us:List Value,us.length=ps.length→bindArgs fd ⟨us,[]⟩=pure (ps.zip us)):Binds K fd ps []:=fun s us _ hl=>by
 rw[List.append_nil]at hl ⊢
 exact .of_eq (h us hl)
def a1f(CX:CXT)(X:Cx)(E:XK):Prop:=∀(pins:List (Addr×Obj)) (σ:St) (H:Hp) (s:Shared) (e:Value) (s':Shared),Inv X pins σ H s→CX X.stack H s E e s'→X.xe e s'
section
variable {X:Cx}{CX:CXT}{k:Nat}{f C:Addr}{fd:FuncData}{ps:List Str}{sp:Sp}{dvs:List V}{ds:List Value}{E:XK}{x m:Str}{p pos apos:Pos}{e o:Expr}{es:List Expr}{ta:TE}{t:TA}
theorem b3N{pins:List (Addr×Obj)}{σ:St}{H:Hp}{s:Shared}{Q:VK}{us:List Value}{vs:List V}(F:FnOk X.prog X.w X.K X.mg X.base CX k f fd ps sp)(hr:Room k X.A)(hb:Binds X.K fd ps ds)(hd:Vals dvs ds)(hx:a1f CX X E)
  (I:Inv X pins σ H s) (r:Vals vs us) (h:sp (vs++dvs) H Q E):wpAny (model X.prog X.w) X.A (call (.ref f) us) (EP X pins σ Q) X.xe s:=by
 have r2:Vals (vs++dvs) (us++ds):=r.append hd
 have hl:(us++ds).length=ps.length:=by rw[← r2.length];exact F.len _ _ _ _ h
 refine wpAny_call (codeAny_mono (F.run X.A X.stack s H ⟨us,[]⟩ (us++ds) (vs++dvs) Q E hr I.env0 (hb s us I.kIn hl) r2 h) fun r s' hq=>?_)
 cases r with
 | error e=>exact hx pins σ H s e s' I hq
 | ok fl =>
  cases fl with
  | ret u=>exact I.after hq
  | next=>exact False.elim hq
  | brk=>exact False.elim hq
  | cont=>exact False.elim hq
theorem b12(F:FnOk X.prog X.w X.K X.mg X.base CX k f fd ps sp)(hr:Room k X.A)(hg:Gl X x)(hm:X.mg x=some (.ref f))(hk:W.keepIn X.K (.ref f)=true)(hb:Binds X.K fd ps ds)(hd:Vals dvs ds)(hx:a1f CX X E)
  (ha:PA X (e::es) t) (hdb:(x == ("__debug__" : Str))=false:=by decide) (he:starEach (e::es) X.env=(false,eval e X.env)::starEach es X.env:=by rfl) (hpl:(backTo pos (starEach es X.env)).any (·.1)=false:=by rfl) :
  PE X (.Call (.Name x p) (e::es) [] pos) (Y9 sp dvs E t):=by
 intro pins s σ H Q I h
 refine wpAny_Call_Name_kw (a6V I hg hm ?_ hdb)
 refine W.callWith_K (h₀:=X.base) I.ok.mod.kin hk (t6 (ha pos pins s σ H _ I h) fun us s1 ⟨vs,H1,I1,r,q⟩=>⟨I1.kIn,?_⟩) he hpl
 exact b3N F hr hb hd hx I1 r q
end
def PK(X:Cx)(kws:List Keyword)(t:TA):Prop :=
 ∀(pos:Pos) (pins:List (Addr×Obj)) (s:Shared) (σ:St) (H:Hp) (Q:List V→Hp→Prop),Inv X pins σ H s→t σ H Q→wpAny (model X.prog X.w) X.A (evalAll ((backToKw pos (keywordEach kws X.env)).map (·.2))) (AP X pins σ Q) X.xe s
section
variable {X:Cx}{CX:CXT}{k:Nat}{f C:Addr}{fd:FuncData}{ps ks:List Str}{sp:Sp}{E:XK}{x m:Str}{p pos apos kpos:Pos}{e o:Expr}{es:List Expr}{kws:List Keyword}{te ta:TE}{t tk:TA}{nm:Option Str}
theorem b3O:PK X [] a0C:=fun _ _ _ _ H Q I h=>wpAny_evalAll_nil ⟨[],H,I,.nil,h⟩
theorem b13(ha:PE X e te)(hr:PK X kws t):PK X (⟨nm,e,kpos⟩ :: kws) (L7 te t):=by
 intro pos pins s σ H Q I h
 show wpAny _ _ (evalAll ((do let v ← eval e X.env;standAt pos;pure v)::(backToKw pos (keywordEach kws X.env)).map (·.2))) _ _ s
 refine wpAny_evalAll_cons (wpAny_bind (t6 (ha pins s σ H _ I h) fun u s1 ⟨x,H1,I1,r1,q1⟩=>wpAny_bind (wpAny_standAt (wpAny_pure ?_))))
 exact t6 (hr pos pins s1 σ H1 _ I1 q1) fun us s2 ⟨xs,H2,I2,r2,q2⟩=>⟨x::xs,H2,I2,.cons r1 r2,q2⟩
variable {g:List Value→List Value→List Value}{gV:List V→List V→List V}
end
structure FnScope(N P:List Str)(sc:Scope):Prop where
 kind:sc.kind=.function
 co:sc.isCoroutine=false
 gen:sc.isGenerator=false
 nd:N.Nodup
 pre:N.take P.length=P
 par:∀x∈P,sc.names.lookup x=some .local∨sc.names.lookup x=some .cell
 nofree:∀y∈sc.names,y.2≠.free
theorem a4Q{kindOf:Str→Option NameKind}{x:Str}:∀{binds:List (Str×Value)} {m:Str→Option Value},(∀v,(x,v) ∉ binds)→bindL kindOf binds m x=m x
 | [],_,_=>rfl
 | (n,v)::r,m,h=>by
  unfold bindL
  rw[a4Q fun w hw=>h w (List.mem_cons_of_mem _ hw)]
  split
  ·have:x≠n:=by rintro rfl;exact h v List.mem_cons_self
   simp[this]
  ·rfl
theorem a4R{kindOf:Str→Option NameKind}{x:Str}:∀{binds:List (Str×Value)} {m:Str→Option Value},(∀v,(x,v) ∉ binds)→bindC kindOf binds m x=m x
 | [],_,_=>rfl
 | (n,v)::r,m,h=>by
  unfold bindC
  rw[a4R fun w hw=>h w (List.mem_cons_of_mem _ hw)]
  split
  ·rfl
  ·have:x≠n:=by rintro rfl;exact h v List.mem_cons_self
   simp[this]
theorem a4S{kindOf:Str→Option NameKind}{x:Str}{v:Value}:∀{P:List Str} {vs:List Value} {i:Nat} {m:Str→Option Value},P.Nodup→P[i]? = some x→vs[i]? = some v→kindOf x=some .local →
  bindL kindOf (P.zip vs) m x=some v
 | [],_,_,_,_,h,_,_=>by simp at h
 | _::_,[],_,_,_,_,h,_=>by simp at h
 | p::P,w::vs,0,m,nd,h1,h2,hk=>by
  simp at h1 h2;subst h1;subst h2
  show bindL kindOf ((p,w)::P.zip vs) m p=_
  unfold bindL
  rw[a4Q fun v hv=>(List.nodup_cons.mp nd).1 (List.of_mem_zip hv).1,if_pos hk]
  simp
 | p::P,w::vs,i+1,m,nd,h1,h2,hk=>by
  show bindL kindOf ((p,w)::P.zip vs) m x=_
  unfold bindL
  exact a4S (i:=i) (List.nodup_cons.mp nd).2 (by simpa using h1) (by simpa using h2) hk
theorem a4T{kindOf:Str→Option NameKind}{x:Str}{v:Value}:∀{P:List Str} {vs:List Value} {i:Nat} {m:Str→Option Value},P.Nodup→P[i]? = some x→vs[i]? = some v→kindOf x≠some .local →
  bindC kindOf (P.zip vs) m x=some v
 | [],_,_,_,_,h,_,_=>by simp at h
 | _::_,[],_,_,_,_,h,_=>by simp at h
 | p::P,w::vs,0,m,nd,h1,h2,hk=>by
  simp at h1 h2;subst h1;subst h2
  show bindC kindOf ((p,w)::P.zip vs) m p=_
  unfold bindC
  rw[a4R fun v hv=>(List.nodup_cons.mp nd).1 (List.of_mem_zip hv).1,if_neg hk]
  simp
 | p::P,w::vs,i+1,m,nd,h1,h2,hk=>by
  show bindC kindOf ((p,w)::P.zip vs) m x=_
  unfold bindC
  exact a4T (i:=i) (List.nodup_cons.mp nd).2 (by simpa using h1) (by simpa using h2) hk
def start(N:List Str)(vs:List V):St:=vs.map some++List.replicate (N.length-vs.length) none
noncomputable def U0(CX:CXT)(P:Program)(w:World)(K:W.Frag)(mg:Str→Option Value)(base:Heap)(N:List Str)(qual:Str)(scope:Scope)(f:Addr)(cd:Value)(A:Around)(outer:List Env)(s:Shared)(H:Hp)(E:XK):Cx where
 prog:=P
 w:=w
 K:=K
 mg:=mg
 base:=base
 A:=A.deeper (envOfC qual scope s.heap.objs.size f cd)
 N:=N
 s₀:=s
 H₀:=H
 env:=envOfC qual scope s.heap.objs.size f cd
 outer:=outer
 stack:=envOfC qual scope s.heap.objs.size f cd::outer
 ex:=[]
 calm:=true
 fn:=fun _=>true
 pn:=[]
 xe:=fun e s'=>wpAny (model P w) (A.deeper (envOfC qual scope s.heap.objs.size f cd)) (leaving (envOfC qual scope s.heap.objs.size f cd) e) (fun _ s''=>CX outer H s E e s'') (fun e' s''=>CX outer H s E e' s'') s'
theorem a5F{sc:Scope}{n:Nat}{x:Str}(h:sc.names.lookup x=some .cell):∃c,(cellsFrom n sc.names []).lookup x=some c:=by
 have q:=W.cellsFrom_some sc.names n [] (.inl h)
 exact Option.isSome_iff_exists.mp q
theorem a8Z{CX:CXT}{P:Program}{w:World}{K:W.Frag}{mg:Str→Option Value}{base:Heap}{N ps:List Str}{qual:Str}{scope:Scope}{f:Addr}{cd:Value}{A:Around}{outer:List Env}{s s1:Shared}{H:Hp}{E:XK}{us:List Value}{vs:List V}
  (S:FnScope N ps scope) (hd:A.handled=none) (e0:Env0 P w K mg base A outer s H) (hl:vs.length=ps.length) (r:Vals vs us)
  (x:InCallC s s.heap.objs.size (bindL (envOfC qual scope s.heap.objs.size f cd).kindOf (ps.zip us) fun _=>none) (cellsFrom (s.heap.objs.size+1) scope.names []) (bindC (envOfC qual scope s.heap.objs.size f cd).kindOf (ps.zip us) fun _=>none) s1) :
  Inv (U0 CX P w K mg base N qual scope f cd A outer s H E) [] (start N vs) H s1:=by
 have hpl:ps.length≤N.length:=by have:=congrArg List.length S.pre;rw[List.length_take]at this;omega
 obtain⟨h1,tk,rfl,hk⟩:=x.done
 have noA:∀b:Addr,b ∉ (U0 CX P w K mg base N qual scope f cd A outer s H E).ex:=fun b z=>absurd (show b∈([]:List Addr)from z) (by simp)
 refine⟨⟨e0.mod,S.kind,rfl,rfl,Nat.le_refl _,fun y z c h1 h2=>?_,fun y hy=>?_,fun y c _ h=>?_,fun _=>hd,Around.frames_deeper e0.frames,.inr ⟨rfl,rfl⟩,fun b z=>absurd z (noA b),e0.bs,e0.bsz,fun b _ _=>noA b,fun b z=>absurd z (noA b),e0.funs,e0.frf⟩,
  rfl,e0.bare,Un.kept hk,⟨_,x.toInCall.ns,fun i y v h1 h2 h3=>?_⟩,fun y c h=>⟨_,x.cell y c h⟩,e0.hok.fresh (Nat.le_refl _),fun y c h=>?_,fun p hp=>absurd (show p∈([]:List (Addr×Obj))from hp) (by simp),e0.hok.kept hk,?_⟩
 ·exact name_of_addr x.apart (PySem.mem_of_lookup h1) (PySem.mem_of_lookup h2)
 ·have hy:scope.names.lookup y=some .cell∨scope.names.lookup y=some .free:=hy
  rcases hy with hy | hy
  ·exact a5F hy
  ·exact absurd rfl (S.nofree _ (PySem.mem_of_lookup hy))
 ·exact Nat.le_of_lt (x.above y c (PySem.mem_of_lookup h))
 ·have hi:i<vs.length:=by
   unfold start at h2
   by_cases hi:i<vs.length
   ·exact hi
   ·rw[List.getElem?_append_right (by simpa using hi)]at h2
    rw[List.getElem?_replicate]at h2
    split at h2<;>cases h2
  have ha:vs[i]? = some v:=by
   unfold start at h2
   rw[List.getElem?_append_left (by simpa using hi),List.getElem?_map]at h2
   cases e:vs[i]? with
   | none=>rw[e]at h2;cases h2
   | some a=>rw[e]at h2;cases h2;rfl
  obtain⟨u,hu,rv⟩:=r.get ha
  have hp:ps[i]? = some y:=by
   rw[← S.pre,List.getElem?_take_of_lt '!'];exact h1
  have ndP:ps.Nodup:=by rw[← S.pre];exact S.nd.sublist (List.take_sublist _ _)
  refine⟨u,rv,?_⟩
  rcases S.par y (List.mem_of_getElem? hp)with k | k
  ·exact .inl ⟨k,a4S ndP hp hu k⟩
  ·obtain⟨c,e⟩:=a5F (n:=s.heap.objs.size+1) k
   refine .inr ⟨.inl k,c,e,?_⟩
   have q:=x.cell y c e
   rw[a4T ndP hp hu (by show scope.names.lookup y≠_;rw[k];decide)]at q
   exact q
 ·exact e0.hok.fresh (Nat.le_of_lt (x.above y c (PySem.mem_of_lookup h)))
 ·unfold start
  show _=N.length
  rw[List.length_append,List.length_map,List.length_replicate]
  omega
theorem a3D{CX:CXT}{P:Program}{w:World}{K:W.Frag}{mg:Str→Option Value}{base:Heap}{k:Nat}{f:Addr}{name qual:Str}{params:Arguments}{body:List Stmt}{scope:Scope}{dV kV doc pm cdv ct oc:Value}{an od:Option Addr}
  {osl:Array (Option Value)} {N ps:List Str} {sp:Sp} (lk:K.lookup f=some ⟨oc,od,.func (W.fnOf name qual params body scope dV kV doc pm an cdv ct),osl⟩) (hcd:W.codeIn K cdv qual=true) (S:FnScope N ps scope)
  (len:∀vs H Q E,sp vs H Q E→vs.length=ps.length)
  (hbody:∀(A:Around) (outer:List Env) (s:Shared) (H:Hp) (vs:List V) (Q:VK) (E:XK),Room k (A.deeper (envOfC qual scope s.heap.objs.size f cdv))→sp vs H Q E →
   ∃t,PSs (U0 CX P w K mg base N qual scope f cdv A outer s H E) body t∧t { nx:=fun _ H'=>Q .non H',rt:=Q } (start N vs) H) :
  FnOk P w K mg base CX (k+1) f (W.fnOf name qual params body scope dV kV doc pm an cdv ct) ps sp:=by
 refine⟨len,fun A outer s H args us vs Q E hr e0 hb r hsp=>?_⟩
 have hl:=len _ _ _ _ hsp
 have KX:K.In s.heap:=e0.mod.kin.keeps fun b o e=>(e0.bs b o e).1
 have lim:s.heap.NoLimit:=e0.mod.nolimit.keeps fun b o e=>(e0.bs b o e).1
 have hkind:∀y∈ps.zip us,scope.names.lookup y.1=some .local∨(scope.names.lookup y.1=some .cell∧((cellsFrom (s.heap.objs.size+1) scope.names []).lookup y.1).isSome=true):=fun⟨n,v⟩ hy=>by
  rcases S.par n (List.of_mem_zip hy).1 with q | q
  ·exact .inl q
  ·exact .inr ⟨q,W.cellsFrom_some _ _ _ (.inl q)⟩
 refine codeAny_call_function hr.depth (KX _ _ lk) rfl S.co S.gen rfl (W.codeRec_of KX hcd) (hb _ _ _ _ ?_)
 refine wpAny_newFunctionEnv_cells S.kind hkind fun env he s1 x=>?_
 subst he
 refine⟨lim.keeps x.toInCall.keep,codeAny_func ?_⟩
 obtain⟨t,ht,hq⟩:=hbody A outer s H vs Q E (hr.deeper _) hsp
 have I:Inv (U0 CX P w K mg base N qual scope f cdv A outer s H E) [] (start N vs) H s1:=a8Z S hr.hd e0 hl r x
 refine wpAny_mono (ht [] s1 (start N vs) H _ I hq) (fun fl s' hs=>?_) fun e s' hs=>hs
 have fin:∀{σ':St} {H':Hp} {v:V} {u:Value},Inv (U0 CX P w K mg base N qual scope f cdv A outer s H E) [] σ' H' s'→RelV v u→Q v H'→CE outer P w H s Q u s' :=
  fun{σ' H' v u} J rv q=>⟨v,H',J.os,J.bare,J.base,J.hok,rv,q⟩
 cases fl with
 | ret u =>
  obtain⟨v,σ',H',J,rv,q⟩:=hs
  exact fin J rv q
 | next =>
  obtain⟨σ',H',J,q⟩:=hs
  exact fin (v:=V.non) (u:=Value.none) J rfl q
 | brk =>
  obtain⟨_,_,_,q⟩:=hs
  exact False.elim q
 | cont =>
  obtain⟨_,_,_,q⟩:=hs
  exact False.elim q
section
variable {X:Cx}{x:Str}{p pos:Pos}{e:Expr}{es:List Expr}{t:TA}{id T:String}{r:List V→Hp→VK→Prop}
def tCB(r:List V→Hp→VK→Prop)(t:TA):TE:=fun σ H Q=>t σ H fun vs H1=>r vs H1 Q
theorem n8(hc:Y8 X (.builtin id) r)(hg:Gl X x)(hm:X.mg x=none)(hv:bootBuiltins x=some (.builtin id))(ha:PA X (e::es) t)(hn:x≠"__name__" := by decide)(hdb:(x == ("__debug__" : Str))=false:=by decide)
  (he:starEach (e::es) X.env=(false,eval e X.env)::starEach es X.env:=by rfl) (hpl:(backTo pos (starEach es X.env)).any (·.1)=false:=by rfl):PE X (.Call (.Name x p) (e::es) [] pos) (tCB r t):=by
 intro pins s σ H Q I h
 refine wpAny_Call_Name_kw (a1_ I hg hm hv ?_ hn hdb)
 exact PyProof.Rows.callWith_builtin1 (t6 (ha pos pins s σ H _ I h) fun us s1 ⟨vs,H1,I1,r1,q1⟩=>hc pins s1 σ H1 vs us Q I1 r1 q1) he hpl
theorem Z7(hc:Y8 X (.type T) r)(hg:Gl X x)(hm:X.mg x=none)(hv:bootBuiltins x=some (.type T))(ha:PA X (e::es) t)(hn:x≠"__name__" := by decide)(hdb:(x == ("__debug__" : Str))=false:=by decide)
  (he:starEach (e::es) X.env=(false,eval e X.env)::starEach es X.env:=by rfl) (hpl:(backTo pos (starEach es X.env)).any (·.1)=false:=by rfl):PE X (.Call (.Name x p) (e::es) [] pos) (tCB r t):=by
 intro pins s σ H Q I h
 refine wpAny_Call_Name_kw (a1_ I hg hm hv ?_ hn hdb)
 exact PyProof.Rows.callWith_type1 (t6 (ha pos pins s σ H _ I h) fun us s1 ⟨vs,H1,I1,r1,q1⟩=>hc pins s1 σ H1 vs us Q I1 r1 q1) he hpl
end
end L2
namespace HT
open PySem PyProof.Rows
def lexLt:List Int→List Int→Bool
 | [],[]=>false
 | [],_::_=>true
 | _::_,[]=>false
 | x::xs,y::ys=>if x=y then lexLt xs ys else decide (x<y)
theorem lexLt_cons(x y:Int)(xs ys:List Int):lexLt (x::xs) (y::ys)=if x=y then lexLt xs ys else decide (x<y):=rfl
section
variable {prog:Program}{w:World}{A:Around}{E:Value→Shared→Prop}{s:Shared}
def sIx(n d:Nat):Option Int→Nat
 | none=>d
 | some v=>if v<0 then(v+(n:Int)).toNat else min v.toNat n
theorem sIx_nat(n d k:Nat):sIx n d (some (k:Int))=min k n:=by
 show(if(k:Int)<0 then((k:Int)+(n:Int)).toNat else min (k:Int).toNat n)=min k n
 rw[if_neg '!',Int.toNat_natCast]
end
end HT
namespace L2
open PySem PySem.Spec PyProof.Rows
abbrev TO:=St→Hp→(Option Int→Hp→Prop)→Prop
def PO(X:Cx)(e:Option Expr)(t:TO):Prop :=
 ∀(pins:List (Addr×Obj)) (s:Shared) (σ:St) (H:Hp) (Q:Option Int→Hp→Prop),Inv X pins σ H s→t σ H Q →
  wpAny (model X.prog X.w) X.A (evalPart e X.env) (fun u s'=>∃o H',Inv X pins σ H' s'∧IsPart u o∧Q o H') X.xe s
def b1q(t:TE):TO:=fun σ H Q=>t σ H fun x H1=>∃i,x=.int i∧Q (some i) H1
section
variable {X:Cx}{e:Expr}{te:TE}{lo hi:Option Expr}{tl th:TO}{pos p2:Pos}
theorem a62(h:PE X e te):PO X (some e) (b1q te):=by
 intro pins s σ H Q I hw
 rw[evalPart_some]
 refine t6 (h pins s σ H _ I hw) fun u s1 ⟨x,H1,I1,r1,q1⟩=>?_
 obtain⟨i,rfl,q⟩:=q1
 obtain⟨t,rfl⟩:=r1
 exact⟨some i,H1,I1,.int i t,q⟩
def SlR(X:Cx)(r:V→Option Int→Option Int→Hp→VK→Prop):Prop :=
 ∀(pins:List (Addr×Obj)) (s:Shared) (σ:St) (H:Hp) (x:V) (v vl vu:Value) (lo hi:Option Int) (sl:Addr) (Q:VK),Inv X pins σ H s→RelV x v→s.heap.IsSliceOf sl vl vu .none→IsPart vl lo→IsPart vu hi→r x lo hi H Q →
  ∃T id,typeLookup (.type T) "__getitem__" = pure (some (.builtin id))∧s.TypeIs v T∧wpAny (model X.prog X.w) X.A (getItem v (.ref sl)) (EP X pins σ Q) X.xe s
def tSl(r:V→Option Int→Option Int→Hp→VK→Prop)(te:TE)(tl th:TO):TE:=fun σ H Q=>te σ H fun x H1=>tl σ H1 fun l H2=>th σ H2 fun u H3=>r x l u H3 Q
theorem b0c{r:V→Option Int→Option Int→Hp→VK→Prop}(hr:SlR X r)(he:PE X e te)(hl:PO X lo tl)(hu:PO X hi th):PE X (.Subscript e (.Slice lo hi none p2) pos) (tSl r te tl th):=by
 intro pins s σ H Q I h
 refine Subscript_ (t6 (he pins s σ H _ I h) fun v s1 ⟨x,H1,I1,r1,q1⟩=>?_)
 refine wpAny_Slice (t6 (hl pins s1 σ H1 _ I1 q1) fun vl s2 ⟨l,H2,I2,pl,q2⟩=>t6 (hu pins s2 σ H2 _ I2 q2) fun vu s3 ⟨u,H3,I3,pu,q3⟩=>?_)
 rw[evalPart_none]
 refine wpAny_pure ?_
 have I4:Inv X pins σ H3 { s3 with heap:=s3.heap.push { cls:=.type "slice",data:=.fields #[vl,vu,.none] } }:=I3.kept (t':=s3.toks) fun b ob q=>Heap.get?_push_of_some _ q
 obtain⟨T,id,hT,ht,hg⟩:=hr pins { s3 with heap:=s3.heap.push { cls:=.type "slice",data:=.fields #[vl,vu,.none] } } σ H3 x v vl vu l u s3.heap.objs.size Q I4 r1 (Heap.IsSliceOf.new ..) pl pu q3
 show wpAny (model X.prog X.w) X.A (subscriptTail e (.Slice lo hi none p2) v (.ref s3.heap.objs.size)) (EP X pins σ Q) X.xe { s3 with heap:=s3.heap.push { cls:=.type "slice",data:=.fields #[vl,vu,.none] } }
 exact tail_any (ops:=[.ref s3.heap.objs.size,v]) ht hT hg (by with_unfolding_all rfl)
def a4i(xs:List V)(lo hi:Option Int):List V:=(xs.drop (HT.sIx xs.length 0 lo)).take (HT.sIx xs.length xs.length hi-HT.sIx xs.length 0 lo)
theorem a6A(xs:List V)(lo hi:Option Int):(a4i xs lo hi).length≤xs.length:=by
 unfold a4i
 rw[List.length_take,List.length_drop]
 omega
end
def Q9(n:Nat)(i:Int):Option Nat:=if 0≤i then(if i<n then some i.toNat else none)else if -(n:Int)≤i then some (i+n).toNat else none
def atI{α:Type}(xs:List α)(i:Int):Option α:=(Q9 xs.length i).bind fun j=>xs[j]?
theorem a63{n:Nat}{i:Int}{j:Nat}(h:Q9 n i=some j):seqIndex? i n=some j∧j<n∧-(n:Int)≤i∧i<n:=by
 unfold Q9 at h
 by_cases h0:0≤i
 ·rw[if_pos h0]at h
  by_cases h1:i<n
  ·rw[if_pos h1]at h
   have e:i.toNat=j:=Option.some.inj h
   exact⟨by rw[seqIndex_of h0 h1,e],by omega,by omega,h1⟩
  ·rw[if_neg h1]at h;cases h
 ·rw[if_neg h0]at h
  by_cases h1 : -(n:Int)≤i
  ·rw[if_pos h1]at h
   have e:(i+n).toNat=j:=Option.some.inj h
   exact⟨by rw[seqIndex_neg '!' h1,e],by omega,h1,by omega⟩
  ·rw[if_neg h1]at h;cases h
theorem a64{α:Type}{xs:List α}{i:Int}{v:α}(h:atI xs i=some v):∃j,seqIndex? i xs.length=some j∧xs[j]? = some v∧j<xs.length∧-(xs.length:Int)≤i∧i<xs.length:=by
 unfold atI at h
 cases e:Q9 xs.length i with
 | none=>rw[e]at h;cases h
 | some j =>
  rw[e]at h
  obtain⟨h1,h2,h3,h4⟩:=a63 e
  exact⟨j,h1,h,h2,h3,h4⟩
theorem Q2{α:Type}{xs:List α}{j:Nat}{v:α}(h:xs[j]? = some v):atI xs (j:Int)=some v:=by
 have hj:j<xs.length:=(List.getElem?_eq_some_iff.mp h).1
 have e:Q9 xs.length (j:Int)=some j:=by
  unfold Q9
  rw[if_pos '!',if_pos '!'];simp
 unfold atI;rw[e];exact h
def b14(b:Expr):Prop:=∀o i,subscripted b false o i=operate [o,i] (getItem o i)
def IxR(X:Cx)(r:R2):Prop :=
 ∀(value slice:Expr) (pins:List (Addr×Obj)) (s:Shared) (σ:St) (H:Hp) (x y:V) (v u:Value) (Q:VK),Inv X pins σ H s→RelV x v→RelV y u→r x y H Q →
  subscripted slice false v u=operate [v,u] (getItem v u)→wpAny (model X.prog X.w) X.A (subscriptTail value slice v u) (EP X pins σ Q) X.xe s
def MtR(X:Cx)(id:String)(r:V→List V→Hp→VK→Prop):Prop :=
 ∀(pins:List (Addr×Obj)) (s:Shared) (σ:St) (H:Hp) (x:V) (xs:List V) (v:Value) (us:List Value) (Q:VK),Inv X pins σ H s→RelV x v→Vals xs us→r x xs H Q →
  wpAny (model X.prog X.w) X.A (call (.builtin id) (v::us)) (EP X pins σ Q) X.xe s
section
variable {X:Cx}{a b:Expr}{ta tb:TE}{pos:Pos}
theorem d5{r:R2}(hr:IxR X r)(ha:PE X a ta)(hb:PE X b tb)(hs:b14 b):PE X (.Subscript a b pos) (tOp r ta tb):=by
 intro pins s σ H Q I h
 exact Subscript_ (b0a ha hb I h fun v u s2 x y H2 I2 rx ry q=>hr a b pins s2 σ H2 x y v u Q I2 rx ry q (hs _ _))
def b0d(K:W.Frag):R2:=fun x y H Q=>∃p xs i v,x=.ref p∧y=.int i∧SqL K H p xs∧atI xs i=some v∧Q v H
def b0e(K:W.Frag):R2:=fun x y H Q=>∃p xs i v,x=.ref p∧y=.int i∧SqT K H p xs∧atI xs i=some v∧Q v H
theorem b15:IxR X (b0d X.K):=by
 intro value slice pins s σ H x y v u Q I rx ry h hs
 obtain⟨p,xs,i,z,rfl,rfl,hq,he,q⟩:=h
 cases rx
 obtain⟨t,rfl⟩:=ry
 obtain⟨its,r,pl,hz⟩:=I.list hq
 obtain⟨j,h1,h2,h3,h4,h5⟩:=a64 he
 obtain⟨w,ew,rw'⟩:=r.get h2
 have hl:=r.length
 have hn:=a3C
 have fin:EP X pins σ Q w s:=⟨z,H,I,rw',q⟩
 by_cases h0:0≤i
 ·have hj:i.toNat=j:=by
   rw[seqIndex_of h0 h5]at h1
   exact Option.some.inj h1
  exact item_listR pl.isList h0 '!' (by rw[hj];simpa using ew) fin hs
 ·have hj:(i+(its.toArray.size:Int)).toNat=j:=by
   rw[seqIndex_neg '!' h4]at h1
   rw[List.size_toArray,← hl]
   exact Option.some.inj h1
  exact subscriptTail_builtinR (x:=w) pl.isList.typeIs slot_list_getitem.lookup
   (wpAny_getItem_list_neg (Q:=fun r s'=>r=w∧EP X pins σ Q r s') pl.isList '!' (by rw[List.size_toArray]<;>omega) '!' (by rw[hj];simpa using ew) ⟨rfl,fin⟩) hs
theorem b3Q:IxR X (b0e X.K):=by
 intro value slice pins s σ H x y v u Q I rx ry h hs
 obtain⟨p,xs,i,z,rfl,rfl,hq,he,q⟩:=h
 cases rx
 obtain⟨t,rfl⟩:=ry
 obtain⟨its,r,pl,hz⟩:=I.tuple hq
 obtain⟨j,h1,h2,h3,h4,h5⟩:=a64 he
 obtain⟨w,ew,rw'⟩:=r.get h2
 have hl:=r.length
 have hn:=a3C
 have fin:EP X pins σ Q w s:=⟨z,H,I,rw',q⟩
 exact subscriptTail_builtinR (x:=w) pl.typeIs slot_tuple_getitem.lookup
  (getItem_tuple (j:=j) (Q:=fun r s'=>r=w∧EP X pins σ Q r s') pl '!' '!' (by rw[List.size_toArray,← hl];exact h1) (by simpa using ew) ⟨rfl,fin⟩) hs
theorem a7W(its:List Value)(n j:Nat)(u:Value):Obj.mapSeq (·.setIfInBounds j u) { cls:=.type "list",data:=.seq its.toArray n }={ cls:=.type "list",data:=.seq (its.set j u).toArray n }:=by
 simp[Obj.mapSeq]
theorem Inv.lst{pins:List (Addr×Obj)}{σ:St}{H:Hp}{s:Shared}{p:Addr}{xs:List V}(I:Inv X pins σ H s)(h:H p=some (.lst xs)) :
  ∃(its:List Value) (n:Nat),Vals xs its∧s.heap.get? p=some { cls:=.type "list",data:=.seq its.toArray n }∧xs.length≤sizeLine:=by
 obtain⟨z,its,n,r,e⟩:=I.hok p _ h
 exact⟨its,n,r,e,z⟩
theorem Inv.lstUpd{pins:List (Addr×Obj)}{σ:St}{H:Hp}{s:Shared}{p:Addr}{xs ys:List V}{its its':List Value}{n n':Nat}{f:Obj→Obj}(I:Inv X pins σ H s)(h:H p=some (.lst xs))
  (ho:s.heap.get? p=some { cls:=.type "list",data:=.seq its.toArray n }) (hf:f { cls:=.type "list",data:=.seq its.toArray n }={ cls:=.type "list",data:=.seq its'.toArray n' }) (r:Vals ys its') (hz:ys.length≤sizeLine) (t:Nat) :
  Inv X pins σ (upd H p (.lst ys)) { s with heap:=s.heap.update p f,toks:=t }:=by
 have e:(s.heap.update p f).get? p=some { cls:=.type "list",data:=.seq its'.toArray n' }:=by
  rw[Heap.get?_update_self f ho (by rw[hf]<;>rfl),hf]
 refine I.write (x:=p) (e:=p) (by rw[h];trivial) (.inl rfl) (fun b u hb q=>(Heap.get?_update_other _ _ (Ne.symm hb)).trans q) ⟨_,e⟩ ?_
 exact⟨hz,its',n',r,e⟩
def a7X:V→V→V→Hp→(Hp→Prop)→Prop:=fun o i v H Q=>∃p xs k j,o=.ref p∧i=.int k∧H p=some (.lst xs)∧Q9 xs.length k=some j∧Q (upd H p (.lst (xs.set j v)))
theorem U1:b3G X a7X:=by
 intro pins s σ H o i v ov iv u Q I ro ri rv h
 obtain⟨p,xs,k,j,rfl,rfl,hp,hj,q⟩:=h
 cases ro
 obtain⟨t,rfl⟩:=ri
 obtain⟨its,n,r,ho,hz⟩:=I.lst hp
 obtain⟨h1,h2,h3,h4⟩:=a63 hj
 have hl:=r.length
 have hn:=a3C
 have I':Inv X pins σ (upd H p (.lst (xs.set j v))) { s with heap:=s.heap.update p (Obj.mapSeq (·.setIfInBounds j u)) } :=
  I.lstUpd hp ho (a7W its n j u) (r.set rv j) (by rw[List.length_set];exact hz) s.toks
 by_cases h0:0≤k
 ·have hk:k.toNat=j:=by
   rw[seqIndex_of h0 h4]at h1
   exact Option.some.inj h1
  exact W.ki_setAt ho h0 '!' (by rw[List.size_toArray,← hl];exact h4) (by rw[hk];exact⟨_,I',q⟩)
 ·have hk:(k+(its.toArray.size:Int)).toNat=j:=by
   rw[seqIndex_neg '!' h3]at h1
   rw[List.size_toArray,← hl]
   exact Option.some.inj h1
  exact W.ki_setBack ho '!' (by rw[List.size_toArray,← hl];exact h3) '!' (by rw[hk];exact⟨_,I',q⟩)
theorem a5G(lo hi:Option Int)(n:Nat):(sliceBounds lo hi none n).1=((HT.sIx n 0 lo:Nat):Int)∧(sliceBounds lo hi none n).2.1=((HT.sIx n n hi:Nat):Int)∧(sliceBounds lo hi none n).2.2=1:=by
 refine⟨?_,?_,rfl⟩
 ·cases lo with
  | none=>simp[sliceBounds,HT.sIx]
  | some i =>
   simp only[sliceBounds,HT.sIx,Option.getD_none,show(1:Int) > 0 by decide,if_true]
   by_cases h:i<0
   ·simp only[h,if_true]<;>omega
   ·simp only[h,if_false]<;>omega
 ·cases hi with
  | none=>simp[sliceBounds,HT.sIx]
  | some i =>
   simp only[sliceBounds,HT.sIx,Option.getD_none,show(1:Int) > 0 by decide,if_true]
   by_cases h:i<0
   ·simp only[h,if_true]<;>omega
   ·simp only[h,if_false]<;>omega
theorem a5c(its:List Value)(lo hi:Option Int):slicePick its.toArray lo hi none=((its.drop (HT.sIx its.length 0 lo)).take (HT.sIx its.length its.length hi-HT.sIx its.length 0 lo)).toArray:=by
 obtain⟨h1,h2,h3⟩:=a5G lo hi its.toArray.size
 unfold slicePick
 rw[h1,h2,h3]
 simp only[sliceRange_one,pick_run,List.size_toArray]<;>rfl
def b0f(K:W.Frag):V→Option Int→Option Int→Hp→VK→Prop:=fun x lo hi H Q=>∃a xs,x=.ref a∧SqL K H a xs∧∀p,H p=none→Q (.ref p) (upd H p (.lst (a4i xs lo hi)))
theorem b16:SlR X (b0f X.K):=by
 intro pins s σ H x v vl vu lo hi sl Q I rx hs pl pu h
 obtain⟨a,xs,rfl,hx,q⟩:=h
 cases rx
 obtain⟨its,r,ht,hz⟩:=I.list hx
 have hlen:=r.length
 refine⟨"list",_,slot_list_getitem.lookup,ht.isList.typeIs,?_⟩
 refine wpAny_getItem_list_slice ht.isList hs pl pu .none (by simp) ?_ (by rw[List.size_toArray]<;>omega)
 rw[a5c,← hlen]
 refine⟨.ref s.heap.objs.size,_,I.laid (t':=s.toks) (o:=.lst (a4i xs lo hi)) (fun b ob q=>Heap.get?_push_of_some _ q) (Nat.le_refl _) ?_,rfl,q _ (I.hok.fresh (Nat.le_refl _))⟩
 exact⟨Nat.le_trans (a6A xs lo hi) hz,_,0,(r.drop (HT.sIx xs.length 0 lo)).take (HT.sIx xs.length xs.length hi-HT.sIx xs.length 0 lo),Heap.get?_push_size _ rfl⟩
def Z0:V→Bool
 | .non=>true
 | .bl _=>true
 | .int _=>true
 | .str _=>true
 | _=>false
def eqV:V→V→Bool
 | .non,.non=>true
 | .bl a,.bl b=>a == b
 | .bl a,.int b=>(if a then 1 else 0) == b
 | .int a,.bl b=>a == (if b then 1 else 0)
 | .int a,.int b=>a == b
 | .str a,.str b=>a == b
 | _,_=>false
theorem a81{A:Around}{s:Shared}{y x:V}{u v:Value}(ry:RelV y u)(rx:RelV x v)(fy:Z0 y=true)(fx:Z0 x=true):SeqAt.EqAt A s u v (eqV y x):=by
 cases y with
 | non =>
  cases ry
  cases x with
  | non=>cases rx;exact SeqAt.EqAt.same _
  | bl b=>cases rx;exact SeqAt.EqAt.none_bool b
  | int b=>obtain⟨t,rfl⟩:=rx;exact SeqAt.EqAt.none_int b t
  | str b=>obtain⟨t,rfl⟩:=rx;exact SeqAt.EqAt.none_str b t
  | _=>exact absurd (show false=true from fx) Bool.false_ne_true
 | bl a =>
  cases ry
  cases x with
  | non=>cases rx;exact SeqAt.EqAt.bool_none a
  | bl b=>cases rx;exact SeqAt.EqAt.bool_bool a b
  | int b=>obtain⟨t,rfl⟩:=rx;exact SeqAt.EqAt.bool_int a b t
  | str b=>obtain⟨t,rfl⟩:=rx;exact SeqAt.EqAt.bool_str a b t
  | _=>exact absurd (show false=true from fx) Bool.false_ne_true
 | int a =>
  obtain⟨t',rfl⟩:=ry
  cases x with
  | non=>cases rx;exact SeqAt.EqAt.int_none a t'
  | bl b=>cases rx;exact SeqAt.EqAt.int_bool a t' b
  | int b=>obtain⟨t,rfl⟩:=rx;exact SeqAt.EqAt.int_int a t' b t
  | str b=>obtain⟨t,rfl⟩:=rx;exact SeqAt.EqAt.int_str a t' b t
  | _=>exact absurd (show false=true from fx) Bool.false_ne_true
 | str a =>
  obtain⟨t',rfl⟩:=ry
  cases x with
  | non=>cases rx;exact SeqAt.EqAt.str_none a t'
  | bl b=>cases rx;exact SeqAt.EqAt.str_bool a t' b
  | int b=>obtain⟨t,rfl⟩:=rx;exact SeqAt.EqAt.str_int a t' b t
  | str b=>obtain⟨t,rfl⟩:=rx;exact SeqAt.EqAt.str_str a t' b t
  | _=>exact absurd (show false=true from fx) Bool.false_ne_true
 | _=>exact absurd (show false=true from fy) Bool.false_ne_true
def eqU(x:V)(u:Value):Bool:=match u with
 | .none=>eqV .non x
 | .bool b=>eqV (.bl b) x
 | .int i _=>eqV (.int i) x
 | .str z _=>eqV (.str z) x
 | _=>false
theorem a82{x y:V}{u:Value}(r:RelV y u)(f:Z0 y=true):eqU x u=eqV y x:=by
 cases y with
 | non=>cases r;rfl
 | bl b=>cases r;rfl
 | int i=>obtain⟨t,rfl⟩:=r;rfl
 | str z=>obtain⟨t,rfl⟩:=r;rfl
 | _=>exact absurd (show false=true from f) Bool.false_ne_true
theorem a1g{x:V}:∀{xs:List V} {us:List Value},Vals xs us→xs.all Z0=true→us.any (eqU x)=xs.any fun y=>eqV y x
 | _,_,.nil,_=>rfl
 | y::xs,u::us,.cons r t,f=>by
  rw[List.all_cons,Bool.and_eq_true]at f
  rw[List.any_cons,List.any_cons,a82 r f.1,a1g t f.2]
theorem a0E{A:Around}{s:Shared}{x:V}{v:Value}(rx:RelV x v)(fx:Z0 x=true):∀{xs:List V} {us:List Value},Vals xs us→xs.all Z0=true→∀u∈us,SeqAt.EqAt A s u v (eqU x u)
 | _,_,.nil,_=>fun u hu=>by cases hu
 | y::xs,u::us,.cons r t,f=>fun u' hu=>by
  rw[List.all_cons,Bool.and_eq_true]at f
  rcases List.mem_cons.mp hu with rfl | hu
  ·rw[a82 r f.1];exact a81 r rx f.1 fx
  ·exact a0E rx fx t f.2 u' hu
def inV(x:V)(xs:List V):Bool:=xs.any fun y=>eqV y x
def rIn(K:W.Frag)(neg:Bool):R2:=fun x y H Q=>∃p xs,y=.ref p∧(SqL K H p xs∨SqT K H p xs)∧Z0 x=true∧xs.all Z0=true∧Q (.bl (if neg then !inV x xs else inV x xs)) H
theorem a84:K7 X (compareOp .In) (rIn X.K false):=by
 intro pins s σ H x y v u Q I rx ry h
 obtain⟨p,xs,rfl,hq,fx,fs,q⟩:=h
 cases ry
 rcases hq with hq | hq
 ·obtain⟨its,r,pl,hz⟩:=I.list hq
  refine SeqAt.in_listAt (eqU x) pl.isList (fun w hw=>a0E rx fx r fs w (by simpa using hw)) ⟨.bl _,H,I,rfl,?_⟩
  rw[show its.toArray.any (eqU x)=its.any (eqU x) by simp,a1g r fs]
  exact q
 ·obtain⟨its,r,pl,hz⟩:=I.tuple hq
  refine SeqAt.in_tupleAt (eqU x) pl (fun w hw=>a0E rx fx r fs w (by simpa using hw)) ⟨.bl _,H,I,rfl,?_⟩
  rw[show its.toArray.any (eqU x)=its.any (eqU x) by simp,a1g r fs]
  exact q
theorem a5H:K7 X (compareOp .NotIn) (rIn X.K true):=by
 intro pins s σ H x y v u Q I rx ry h
 obtain⟨p,xs,rfl,hq,fx,fs,q⟩:=h
 cases ry
 rcases hq with hq | hq
 ·obtain⟨its,r,pl,hz⟩:=I.list hq
  refine SeqAt.notIn_listAt (eqU x) pl.isList (fun w hw=>a0E rx fx r fs w (by simpa using hw)) ⟨.bl _,H,I,rfl,?_⟩
  rw[show its.toArray.any (eqU x)=its.any (eqU x) by simp,a1g r fs]
  exact q
 ·obtain⟨its,r,pl,hz⟩:=I.tuple hq
  refine SeqAt.notIn_tupleAt (eqU x) pl (fun w hw=>a0E rx fx r fs w (by simpa using hw)) ⟨.bl _,H,I,rfl,?_⟩
  rw[show its.toArray.any (eqU x)=its.any (eqU x) by simp,a1g r fs]
  exact q
theorem a5I:Y8 X (.builtin "len") (fun xs H Q=>∃p ys,xs=[.ref p]∧(SqL X.K H p ys∨SqT X.K H p ys)∧Q (.int ys.length) H):=by
 intro pins s σ H xs us Q I r h
 obtain⟨p,ys,rfl,hq,q⟩:=h
 obtain⟨u,rfl,rx⟩:=a5n r
 cases rx
 have hn:=a3C
 rcases hq with hq | hq
 ·obtain⟨its,r',pl,hz⟩:=I.list hq
  have hlen:=r'.length
  exact Calls.call_len_list pl.isList (by simp only[List.size_toArray]<;>omega) ⟨.int ys.length,H,I.tok _,⟨s.toks+1,by rw[List.size_toArray,hlen]⟩,q⟩
 ·obtain⟨its,r',pl,hz⟩:=I.tuple hq
  have hlen:=r'.length
  exact len_tuple pl (by simp only[List.size_toArray]<;>omega) ⟨.int ys.length,H,I.tok _,⟨s.toks+1,by rw[List.size_toArray,hlen]⟩,q⟩
theorem a5J:Y8 X (.type "list") (fun xs H Q=>∃p ys,xs=[.ref p]∧(SqL X.K H p ys∨SqT X.K H p ys)∧∀l,H l=none→Q (.ref l) (upd H l (.lst ys))):=by
 intro pins s σ H xs us Q I r h
 obtain⟨p,ys,rfl,hq,q⟩:=h
 obtain⟨u,rfl,rx⟩:=a5n r
 cases rx
 have fin:∀(its:List Value),Vals ys its→ys.length≤sizeLine→∀(h':Heap) (c':Nat),(∀b o',s.heap.get? b=some o'→h'.get? b=some o') →
   h'.get? s.heap.objs.size=some { cls:=.type "list",dict:=none,data:=.seq its.toArray c',slots := #[] }→EP X pins σ Q (.ref s.heap.objs.size) { s with heap:=h' }:=fun its r' hz h' c' kp e =>
  ⟨.ref s.heap.objs.size,_,I.laid (t':=s.toks) kp (Nat.le_refl _) (show ObjOk X.prog X.w _ h' _ (.lst ys)from⟨hz,its,c',r',e⟩),rfl,q _ (I.hok.fresh (Nat.le_refl _))⟩
 rcases hq with hq | hq
 ·obtain⟨its,r',pl,hz⟩:=I.list hq
  have hlen:=r'.length
  obtain⟨o,ho,hc,n,hd⟩:=pl.isList
  exact call_list_seq p (.inl rfl) ho hc hd (fun h' c' kp e=>fin its r' hz h' c' kp e) (by simp only[List.size_toArray]<;>omega)
 ·obtain⟨its,r',pl,hz⟩:=I.tuple hq
  have hlen:=r'.length
  obtain⟨o,ho,hc,n,hd⟩:=pl
  exact call_list_seq p (.inr rfl) ho hc hd (fun h' c' kp e=>fin its r' hz h' c' kp e) (by simp only[List.size_toArray]<;>omega)
def tyV(K:W.Frag)(T:String)(x:V)(H:Hp):Prop:=match x with
 | .str _=>T = "str"
 | .int _=>T = "int"
 | .ref p=>(T = "list"∧∃xs,SqL K H p xs)∨(T = "tuple"∧∃o,K.lookup p=some o∧o.cls=.type "tuple"∧o.dict=none) ∨
   (T = "dict"∧((∃kvs,H p=some (.dK kvs))∨∃kvs,H p=some (.dT kvs)))∨(T = "set"∧∃S n,H p=some (.set S n))
 | _=>False
theorem a85{pins:List (Addr×Obj)}{σ:St}{H:Hp}{s:Shared}{T:String}{x:V}{v:Value}(I:Inv X pins σ H s)(r:RelV x v)(ty:tyV X.K T x H) :
  s.TypeIs v T∧∀a,v=.ref a→∃ob,s.heap.get? a=some ob∧ob.dict=none:=by
 cases x with
 | str z =>
  obtain⟨t,rfl⟩:=r
  cases (show T = "str" from ty)
  exact⟨typeIs_str s z t,fun _ e=>nomatch e⟩
 | int i =>
  obtain⟨t,rfl⟩:=r
  cases (show T = "int" from ty)
  exact⟨typeIs_int s i t,fun _ e=>nomatch e⟩
 | ref p =>
  cases r
  rcases ty with⟨rfl,xs,hq⟩ | ⟨rfl,o,hk,hc,hd⟩ | ⟨rfl,hk⟩ | ⟨rfl,S,n,hk⟩
  ·obtain⟨its,_,pl,_⟩:=I.list hq
   refine⟨pl.isList.typeIs,fun a e=>?_⟩
   cases e
   obtain⟨o,n,e,c,hd,_⟩:=pl
   exact⟨o,e,hd⟩
  ·refine⟨⟨o,I.kIn p o hk,hc⟩,fun a e=>?_⟩
   cases e
   exact⟨o,I.kIn _ o hk,hd⟩
  ·have z:∃o,s.heap.get? p=some o∧o.ExactDict:=by
    rcases hk with⟨kvs,hk⟩ | ⟨kvs,hk⟩
    ·obtain⟨_,_,_,_,o,_,_,e,ex,_⟩:=I.hok p _ hk
     exact⟨o,e,ex⟩
    ·obtain⟨_,_,_,_,o,_,_,e,ex,_⟩:=I.hok p _ hk
     exact⟨o,e,ex⟩
   obtain⟨o,e,ex⟩:=z
   refine⟨⟨o,e,ex.1⟩,fun a e2=>?_⟩
   cases e2
   exact⟨o,e,ex.2.1⟩
  ·obtain⟨o,_,_,_,e,ex,_⟩:=I.hok p _ hk
   refine⟨⟨o,e,ex.1⟩,fun a e2=>?_⟩
   cases e2
   exact⟨o,e,ex.2.1⟩
 | _=>exact False.elim ty
def b0g(K:W.Frag)(T:String)(r:V→List V→Hp→VK→Prop)(to:TE):TE:=fun σ H Q=>to σ H fun x H1=>tyV K T x H1∧r x [] H1 Q
def tBM(K:W.Frag)(T:String)(r:V→List V→Hp→VK→Prop)(to:TE)(t:TA):TE:=fun σ H Q=>to σ H fun x H1=>tyV K T x H1∧t σ H1 fun xs H2=>r x xs H2 Q
variable {o e:Expr}{es:List Expr}{to:TE}{t:TA}{name:Str}{apos cpos:Pos}{T id:String}{r:V→List V→Hp→VK→Prop}
theorem b3R(pa:PlainAttrs T)(slot:Slot T name id)(hty:typeOf (.builtin id)=pure (.type "method_descriptor"))(hm:MtR X id r)(ho:PE X o to)
  (hbase:attributeBase o name X.env (eval o X.env)=eval o X.env:=by rfl) (hline:(apos.endLine == cpos.line)=true:=by rfl):PE X (.Call (.Attribute o name apos) [] [] cpos) (b0g X.K T r to):=by
 intro pins s σ H Q I h
 refine wpAny_Call_method0_late hbase hline (t6 (ho pins s σ H _ I h) fun v s1 ⟨x,H1,I1,r1,ty,q1⟩=>?_)
 obtain⟨h1,h2⟩:=a85 I1 r1 ty
 exact⟨T,id,pa,slot,hty,h1,h2,Calls.callWith_builtin rfl (PySem.evalArgs_none (hm pins s1 σ H1 x [] v [] Q I1 r1 .nil q1))⟩
theorem b49(pa:PlainAttrs T)(slot:Slot T name id)(hty:typeOf (.builtin id)=pure (.type "method_descriptor"))(hm:MtR X id r)(ho:PE X o to)(ha:PA X (e::es) t)
  (hbase:attributeBase o name X.env (eval o X.env)=eval o X.env:=by rfl)
  (hfew:((backTo cpos (starEach (e::es) X.env)).all (fun x=>!x.1) && (backToKw cpos (keywordEach [] X.env)).all (fun x=>x.1.isSome)
   && decide ((e::es).length+([]:List Keyword).length+(if([]:List Keyword).isEmpty then 0 else 1)<30))=true:=by rfl)
  (hline:(apos.endLine == cpos.line)=true:=by rfl) (hs:starEach (e::es) X.env=(false,eval e X.env)::starEach es X.env:=by rfl) (hplain:(backTo cpos (starEach es X.env)).any (·.1)=false:=by rfl) :
  PE X (.Call (.Attribute o name apos) (e::es) [] cpos) (tBM X.K T r to t):=by
 intro pins s σ H Q I h
 refine wpAny_Call_method_late hbase hfew hline rfl (t6 (ho pins s σ H _ I h) fun v s1 ⟨x,H1,I1,r1,ty,q1⟩=>?_)
 obtain⟨h1,h2⟩:=a85 I1 r1 ty
 refine⟨T,id,pa,slot,hty,h1,h2,?_⟩
 have hA:=ha cpos pins s1 σ H1 _ I1 q1
 rw[hs]at hA ⊢
 refine Calls.callWith_builtin (by show(false || (backTo cpos (starEach es X.env)).any (·.1))=false;rw[hplain]<;>rfl) (Calls.evalArgs_plain ?_)
 exact t6 hA fun us s2 ⟨vs,H2,I2,r2,q2⟩=>hm pins s2 σ H2 x vs v us Q I2 r1 r2 q2
end
def MtM(X:Cx)(id:String)(r:V→List V→Hp→VK→Prop):Prop :=
 ∀(pins:List (Addr×Obj)) (s:Shared) (σ:St) (H:Hp) (x:V) (xs:List V) (v:Value) (us:List Value) (Q:VK),Inv X pins σ H s→RelV x v→Vals xs us→r x xs H Q →
  wpAny (model X.prog X.w) X.A (call (.builtin id) (v::us)) (EP X pins σ Q) X.xe s
theorem Vals.one:∀{x:V} {us:List Value},Vals [x] us→∃u,us=[u]∧RelV x u
 | _,_,.cons r .nil=>⟨_,rfl,r⟩
theorem Vals.zero:∀{us:List Value},Vals [] us→us=[]
 | _,.nil=>rfl
theorem Vals.dropLast{xs:List V}{us:List Value}(h:Vals xs us):Vals xs.dropLast us.dropLast:=by
 induction h with
 | nil=>exact .nil
 | cons r t ih =>
  cases t with
  | nil=>exact .nil
  | cons q t'=>exact .cons r ih
theorem Vals.eraseIdx:∀{xs:List V} {us:List Value} (i:Nat),Vals xs us→Vals (xs.eraseIdx i) (us.eraseIdx i)
 | _,_,_,.nil=>.nil
 | _,_,0,.cons _ t=>t
 | _,_,i+1,.cons r t=>.cons r (Vals.eraseIdx i t)
theorem Vals.reverse{xs:List V}{us:List Value}(h:Vals xs us):Vals xs.reverse us.reverse:=by
 induction h with
 | nil=>exact .nil
 | cons r t ih=>rw[List.reverse_cons,List.reverse_cons];exact Vals.append ih (.cons r .nil)
theorem Vals.rep{xs:List V}{us:List Value}(h:Vals xs us):∀k:Nat,Vals (List.replicate k xs).flatten (List.replicate k us).flatten
 | 0=>.nil
 | k+1=>by
  rw[List.replicate_succ,List.replicate_succ,List.flatten_cons,List.flatten_cons]
  exact Vals.append h (Vals.rep h k)
theorem a7Y{α:Type}(l:List α):l.eraseIdx (l.length-1)=l.dropLast:=by
 induction l with
 | nil=>rfl
 | cons a r ih =>
  cases r with
  | nil=>rfl
  | cons b r =>
   have e:(a::b::r).length-1=((b::r).length-1)+1:=by
    have h1:(a::b::r).length=r.length+2:=rfl
    have h2:(b::r).length=r.length+1:=rfl
    omega
   rw[e,List.eraseIdx_cons_succ,ih]
   all_goals rfl
theorem a4U{α:Type}:∀(l:List α) (i:Nat),(l.eraseIdx i).length≤l.length
 | [],_=>Nat.le_refl _
 | _::_,0=>Nat.le_succ _
 | _::r,i+1=>Nat.succ_le_succ (a4U r i)
section
variable {X:Cx}{pins:List (Addr×Obj)}{σ:St}{H:Hp}{s:Shared}{l b:Addr}{xs ys zs:List V}
theorem Inv.lset{its its':List Value}{n:Nat}{f:Array Value→Array Value}{t':Nat}(I:Inv X pins σ H s)(hH:H l=some (.lst xs))
  (e:s.heap.get? l=some { cls:=.type "list",data:=.seq its.toArray n }) (hf:f its.toArray=its'.toArray) (hv:Vals ys its') (hz:ys.length≤sizeLine) :
  Inv X pins σ (upd H l (.lst ys)) { s with heap:=s.heap.update l (Obj.mapSeq f),toks:=t' }:=by
 have q:=PySem.IsL.update e f
 rw[hf]at q
 refine I.write (x:=l) (e:=l) (by rw[hH];exact trivial) (.inl rfl) (fun b' u hb hu=>(Heap.get?_update_other s.heap (Obj.mapSeq f) (Ne.symm hb)).trans hu) ⟨_,q⟩ ?_
 exact⟨hz,its',_,hv,q⟩
theorem Inv.lnew{its:List Value}{t':Nat}(I:Inv X pins σ H s)(hv:Vals ys its)(hz:ys.length≤sizeLine) :
  Inv X pins σ (upd H s.heap.objs.size (.lst ys)) { s with heap:=s.heap.push { cls:=.type "list",data:=.seq its.toArray },toks:=t' } :=
 I.laid (fun _ _ q=>Heap.get?_push_of_some _ q) (Nat.le_refl _) ⟨hz,its,0,hv,Heap.get?_push_size _ rfl⟩
theorem Inv.fresh(I:Inv X pins σ H s):H s.heap.objs.size=none:=I.hok.fresh (Nat.le_refl _)
theorem Inv.lstM(I:Inv X pins σ H s)(hH:H l=some (.lst xs)):xs.length≤sizeLine∧∃(its:List Value) (n:Nat),Vals xs its∧xs.length=its.length∧s.heap.get? l=some { cls:=.type "list",data:=.seq its.toArray n }:=by
 obtain⟨z,its,n,r,e⟩:=I.hok l _ hH
 exact⟨z,its,n,r,r.length,e⟩
end
section
variable {X:Cx}
def a65:V→List V→Hp→VK→Prop:=fun x vs H Q=>∃l xs y,x=.ref l∧vs=[y]∧H l=some (.lst xs)∧xs.length<sizeLine∧Q .non (upd H l (.lst (xs++[y])))
theorem C3:MtM X "list.append" a65:=by
 intro pins s σ H x vs v us Q I rx rv h
 obtain⟨l,xs,y,rfl,rfl,hH,hz,q⟩:=h
 cases rx
 obtain⟨u,rfl,ru⟩:=rv.one
 obtain⟨z,its,n,r,hl,e⟩:=I.lstM hH
 refine call_meets F.slot_list_append ⟨_,e,rfl⟩ F.entry_list_append (F.args_list_append_2 _ _) (PySem.list_append l its.toArray n u (by rw[List.size_toArray];omega)) ⟨e,?_⟩
 refine⟨.non,_,I.lset (its':=its++[u]) hH e (by simp) (r.append (.cons ru .nil)) ?_,rfl,q⟩
 rw[List.length_append,List.length_singleton]
 omega
def b3T:V→List V→Hp→VK→Prop:=fun x vs H Q=>∃l xs y,x=.ref l∧vs=[]∧H l=some (.lst xs)∧xs[xs.length-1]? = some y∧Q y (upd H l (.lst xs.dropLast))
theorem a5K:MtM X "list.pop" b3T:=by
 intro pins s σ H x vs v us Q I rx rv h
 obtain⟨l,xs,y,rfl,rfl,hH,hy,q⟩:=h
 cases rx
 have hus:=rv.zero
 subst hus
 obtain⟨z,its,n,r,hl,e⟩:=I.lstM hH
 obtain⟨u,hu,ru⟩:=r.get hy
 have hy':its.toArray[its.toArray.size-1]? = some u:=by
  show its.toArray[its.length-1]? = some u
  rw[← Array.getElem?_toList,← hl]
  exact hu
 refine call_meets F.slot_list_pop ⟨_,e,rfl⟩ F.entry_list_pop (F.args_list_pop_1 _) (MeetsSeq.list_pop_last l its.toArray n u hy' (by rw[List.size_toArray];omega)) ⟨e,?_⟩
 refine⟨y,_,I.lset (its':=its.dropLast) hH e ?_ r.dropLast ?_,ru,q⟩
 ·show its.toArray.eraseIdxIfInBounds (its.toArray.size-1)=its.dropLast.toArray
  rw[List.size_toArray,List.eraseIdxIfInBounds_toArray,a7Y]
 ·rw[List.length_dropLast]
  omega
def a86:V→List V→Hp→VK→Prop:=fun x vs H Q=>∃l xs i k y,x=.ref l∧vs=[.int i]∧H l=some (.lst xs)∧-(2 ^ 63)≤i∧i<2 ^ 63∧seqIndex? i xs.length=some k∧xs[k]? = some y∧Q y (upd H l (.lst (xs.eraseIdx k)))
theorem b0h:MtM X "list.pop" a86:=by
 intro pins s σ H x vs v us Q I rx rv h
 obtain⟨l,xs,i,k,y,rfl,rfl,hH,h1,h2,hk,hy,q⟩:=h
 cases rx
 obtain⟨u,rfl,ru⟩:=rv.one
 obtain⟨t,rfl⟩:=ru
 obtain⟨z,its,n,r,hl,e⟩:=I.lstM hH
 obtain⟨w,hw,rw'⟩:=r.get hy
 refine call_meets F.slot_list_pop ⟨_,e,rfl⟩ F.entry_list_pop (F.args_list_pop_2 _ _)
  (MeetsSeq.list_pop_at l its.toArray n i t k w (fitsIndex_both h1 h2) (by rw[List.size_toArray,← hl];exact hk) (by rw[← Array.getElem?_toList];exact hw) (by rw[List.size_toArray];omega)) ⟨e,?_⟩
 refine⟨y,_,I.lset (its':=its.eraseIdx k) hH e ?_ (r.eraseIdx k) ?_,rw',q⟩
 ·show its.toArray.eraseIdxIfInBounds k=(its.eraseIdx k).toArray
  rw[List.eraseIdxIfInBounds_toArray]
 ·have:=a4U xs k
  omega
end
end L2
namespace Att
open PySem PySem.W PySem.Calls PyProof.Rows
theorem a3E{P:Params}{h:Heap}:∀(ns:List Int) (vs:List Value),WellAll P h vs (ns.map WData.int)→IntsAre vs ns:=by
 intro ns
 induction ns with
 | nil =>
  intro vs w
  rw[List.map_nil]at w
  cases w
  exact .nil
 | cons n ns ih =>
  intro vs w
  rw[List.map_cons]at w
  cases w with
  | cons a b =>
   cases a
   exact .cons _ _ (ih _ b)
theorem script_of{l:OpenLaw}{n:Nat}(hn:l.most=some n){P:Params}{h:Heap}{args:List WData}{vals:List Value}
  (hpre:l.row.toRowW.claim.pre args=true) (hwl:WellAll P h vals args) :
  ∃a vs ns,vals=[Value.ref a]∧args=[WData.list (ns.map WData.int)]∧h.get? a=some { cls:=.type "list",data:=.seq vs.toArray }∧IntsAre vs ns∧ns.length≤n:=by
 have hsh:WShape.hasAll [] args [.list .int]=true:=(pre_splitW hpre).1
 have hc:l.pre.holds [] { args:=args }=true:=(pre_splitW hpre).2
 obtain⟨d,r,rfl,h1,h2⟩:=hasAllW_cons hsh
 obtain rfl:=hasAllW_nil h2
 obtain⟨xs,rfl,h3⟩:=hasW_list h1
 obtain⟨ns,rfl⟩:=items_int h3
 have hlen:ns.length≤n:=by
  unfold OpenLaw.pre at hc
  have h4:(WTm.not (.lt (.lit (.int (n:Int))) (.len (.arg 0)))).holds [] { args:=[.list (ns.map .int)] }=true:=by
   have h4:=(holds_andW hc).1
   rw[hn]at h4
   exact h4
  have h5:=condW_of h4 (w_not (w_lt w_lit (w_len_list (w_arg rfl))))
  rw[List.length_map]at h5
  refine Nat.le_of_not_lt fun q=>?_
  have q':(n:Int)<((ns.length:Nat):Int):=by omega
  first
   | (rw[decide_eq_true q']at h5;exact absurd h5 (by decide))
   | (simp at h5;omega)
 cases hwl with
 | cons w1 w2 =>
  cases w2
  cases w1 with
  | list ho hall=>exact⟨_,_,ns,rfl,rfl,ho,a3E ns _ hall,hlen⟩
theorem post_true(l:OpenLaw)(args:List WData):l.row.toRowW.claim.post args (.bool true) args=true :=
 postW_of (r:=l.row.toRowW) (X:=(true == true))
  (show WShape.has [] (.bool true) .bool=true by first | rfl | decide | simp[WShape.has,WShape.arms,WShape.armsAll])
  (show(WTm.eq .res (.lit (.bool true))).value [] { args:=args,res:=some (.bool true),after:=args }=some (.bool (true == true))from w_eq_bool (w_res rfl) w_lit) rfl
end Att
namespace L2
open PySem PySem.Spec PyProof.Rows
theorem a4V:∀{vs:List Value} {ns:List Int},IntsAre vs ns→Vals (ns.map V.int) vs
 | _,_,.nil=>.nil
 | _,_,.cons n t h=>.cons ⟨t,rfl⟩ (a4V h)
def b50(H:Hp):Prop:=∀b,H b=none∨∃o xs,H b=some (.frz o (.lst xs))
def u4(s:Stmt):Arguments:=match s with
 | .FunctionDef _ a _ _ _ _ _ _ _ _=>a
 | _=>{ posonlyargs:=[],args:=[],vararg:=none,kwonlyargs:=[],kw_defaults:=[],kwarg:=none,defaults:=[] }
def k6(s:Stmt):List Stmt:=match s with
 | .FunctionDef _ _ b _ _ _ _ _ _ _=>b
 | _=>[]
def d9(s:Stmt):Scope:=match s with
 | .FunctionDef _ _ _ _ _ _ sc _ _ _=>sc
 | _=>{ kind:=.function,names:=[],isGenerator:=false,isCoroutine:=false }
abbrev CX0:CXT:=fun _ _ _ _ _ _=>False
abbrev E0:XK:=fun _ _ _=>False
structure Fun(K:W.Frag)(x qual:Str)(st:Stmt)(f:Addr)(fd:FuncData):Prop where
 ex:∃(oc:Value) (od:Option Addr) (kV doc pm:Value) (an:Option Addr) (cdv ct:Value) (osl:Array (Option Value)),
  fd=W.fnOf x qual (u4 st) (k6 st) (d9 st) .none kV doc pm an cdv ct∧K.lookup f=some ⟨oc,od,.func fd,osl⟩∧W.codeIn K cdv qual=true
 kp:W.keepIn K (.ref f)=true
section
variable {P:Program}{w:World}{K:W.Frag}{mg:Str→Option Value}{base:Heap}
theorem Fun.ok{x qual:Str}{st:Stmt}{f:Addr}{fd:FuncData}{N ps:List Str}{k:Nat}{sp:Sp}(F:Fun K x qual st f fd)(S:FnScope N ps (d9 st))(len:∀vs H Q E,sp vs H Q E→vs.length=ps.length)
  (hbody:∀(cdv:Value) (A:Around) (outer:List Env) (s:Shared) (H:Hp) (vs:List V) (Q:VK) (E:XK),Room k (A.deeper (envOfC qual (d9 st) s.heap.objs.size f cdv))→sp vs H Q E →
   ∃t,PSs (U0 CX0 P w K mg base N qual (d9 st) f cdv A outer s H E).nox (k6 st) t∧t { nx:=fun _ H'=>Q .non H',rt:=Q } (start N vs) H):FnOk P w K mg base CX0 (k+1) f fd ps sp:=by
 obtain⟨oc,od,kV,doc,pm,an,cdv,ct,osl,rfl,lk,hcd⟩:=F.ex
 refine a3D lk hcd S len fun A outer s H vs Q E hr hsp=>?_
 obtain⟨t,h,q⟩:=hbody cdv A outer s H vs Q E hr hsp
 exact⟨t,h.nox,q⟩
theorem Fun.binds{x qual:Str}{st:Stmt}{f:Addr}{fd:FuncData}{ps:List Str}(F:Fun K x qual st f fd)
  (h:∀(kV doc pm:Value) (an:Option Addr) (cdv ct:Value) (us:List Value),us.length=ps.length→bindArgs (W.fnOf x qual (u4 st) (k6 st) (d9 st) .none kV doc pm an cdv ct) ⟨us,[]⟩=pure (ps.zip us)):Binds K fd ps []:=by
 obtain⟨oc,od,kV,doc,pm,an,cdv,ct,osl,rfl,lk,hcd⟩:=F.ex
 exact .all (h kV doc pm an cdv ct)
theorem B1{x qual:Str}{st:Stmt}{f:Addr}{oc:Value}{od an:Option Addr}{osl:Array (Option Value)}{kV doc pm cdv ct:Value}(l:K.lookup f=some ⟨oc,od,.func (W.fnOf x qual (u4 st) (k6 st) (d9 st) .none kV doc pm an cdv ct),osl⟩)
  (c:W.codeIn K cdv qual=true) (k:W.keepIn K (.ref f)=true):Fun K x qual st f (W.fnOf x qual (u4 st) (k6 st) (d9 st) .none kV doc pm an cdv ct):=⟨⟨oc,od,kV,doc,pm,an,cdv,ct,osl,rfl,l,c⟩,k⟩
end
section
variable {X:Cx}
theorem pv(i:Nat){x:Str}{pos:Pos}(hN:X.N[i]? = some x:=by rfl)(hv:Vis X.env.scope x:=by first | exact Or.inl rfl | exact Or.inr (Or.inl rfl) | exact Or.inr (Or.inr rfl))(hd:(x == ("__debug__" : Str))=false:=by decide)
  (hcd:(x == ("__classdict__" : Str))=false:=by decide):PE X (.Name x pos) (D7 i):=b3D hN hv hd hcd
end
def Same(H H':Hp):Prop:=∀b o,H b=some o→H' b=some o
theorem Same.refl(H:Hp):Same H H:=fun _ _ h=>h
theorem Same.trans{H H1 H2:Hp}(a:Same H H1)(b:Same H1 H2):Same H H2:=fun c o h=>b c o (a c o h)
theorem Same.free{H H':Hp}(e:Same H H'){l:Addr}(h:H' l=Option.none):H l=Option.none:=by
 cases q:H l with
 | none=>rfl
 | some o =>
  rw[e l o q]at h
  cases h
theorem Same.seq{K:W.Frag}{H H':Hp}{a:Addr}{xs:List V}(e:Same H H')(h:SqL K H a xs):SqL K H' a xs:=by
 rcases h with(h | ⟨o,h⟩) | h
 ·exact .inl (.inl (e _ _ h))
 ·exact .inl (.inr ⟨o,e _ _ h⟩)
 ·exact .inr h
end L2
set_option maxHeartbeats 4000000
namespace L2
open PySem PySem.Spec PyProof.Rows
theorem ObjOk.there{P:Program}{w:World}{H:Hp}{h:Heap}{a:Addr}{o:HO}(x:ObjOk P w H h a o):∃ob,h.get? a=some ob:=by
 cases o with
 | lst xs=>obtain⟨_,_,_,_,e⟩:=x;exact⟨_,e⟩
 | tup xs=>obtain⟨_,_,_,p⟩:=x;obtain⟨o,e,_⟩:=p;exact⟨_,e⟩
 | dK kvs=>obtain⟨_,_,_,_,o,_,_,e,_⟩:=x;exact⟨_,e⟩
 | dT kvs=>obtain⟨_,_,_,_,o,_,_,e,_⟩:=x;exact⟨_,e⟩
 | set S n=>obtain⟨o,_,_,_,e,_⟩:=x;exact⟨_,e⟩
 | ins C dx fs=>obtain⟨_,_,_,e,_⟩:=x;exact⟨_,e⟩
 | own y=>obtain⟨_,e⟩:=x;exact⟨_,e⟩
 | xd fs=>obtain⟨_,⟨_,_,_,e,_⟩,_⟩:=x;exact⟨_,e⟩
 | rng lo hi=>obtain⟨_,_,_,e⟩:=x;exact⟨_,e⟩
 | frz ob u=>obtain⟨e,_⟩:=x;exact⟨_,e⟩
 | tbl ps=>obtain⟨_,e,_⟩:=x;exact⟨_,e⟩
 | met f y=>exact⟨_,(show h.get? a=some _ from x)⟩
 | ext φ=>obtain⟨_,⟨_,e⟩,_⟩:=x;exact⟨_,e⟩
def Imp(X:Cx)(pins:List (Addr×Obj))(H:Hp)(b:Addr):Prop:=H b≠none∨(b ∉ X.ex∧∃o,X.s₀.heap.get? b=some o)∨∃p∈X.pn++pins,p.1=b
def a3b:Option Addr→Value
 | none=>.none
 | some a=>.ref a
def TrX(h B:Heap)(e:Addr)(cls:Value)(cx:Option Addr)(fl:Value):Prop :=
 ∃oe vs T oT ts,(h.get? e=some oe∧oe.cls=cls∧oe.data=.fields vs)∧(vs[1]? = some (.ref T)∧vs[2]? = some (a3b cx))∧(B.get? T=none∧T≠e)∧h.get? T=some oT∧oT.data=.fields ts∧ts[3]? = some fl
theorem a0F(T:Addr):(Value.ref T != Value.none)=true:=by simp
inductive Ph where | new | fly | any
def XTr(B h:Heap)(a:Addr)(cls:Value)(cx:Option Addr):Ph→Prop
 | .new=>∃oe vs,h.get? a=some oe∧oe.cls=cls∧oe.data=.fields vs∧vs[1]? = some .none∧vs[2]? = some (a3b cx)
 | .fly=>TrX h B a cls cx .none
 | .any=>∃fl,TrX h B a cls cx fl
theorem XTr.there{B h:Heap}{a:Addr}{cls:Value}{cx:Option Addr}{ph:Ph}(x:XTr B h a cls cx ph):∃oe vs,h.get? a=some oe∧oe.cls=cls∧oe.data=.fields vs∧vs[2]? = some (a3b cx):=by
 cases ph with
 | new=>obtain⟨oe,vs,h1,h2,h3,_,h4⟩:=x;exact⟨oe,vs,h1,h2,h3,h4⟩
 | fly=>obtain⟨oe,vs,_,_,_,⟨h1,h2,h3⟩,⟨_,h4⟩,_⟩:=x;exact⟨oe,vs,h1,h2,h3,h4⟩
 | any=>obtain⟨_,oe,vs,_,_,_,⟨h1,h2,h3⟩,⟨_,h4⟩,_⟩:=x;exact⟨oe,vs,h1,h2,h3,h4⟩
section
variable {M:Model}{A:Around}{E:Value→Shared→Prop}{s:Shared}
def a3G(B:Heap)(l:List Env)(e:Addr)(cls:Value)(cx:Option Addr)(fl:Value)(h h':Heap):Prop:=B.StaysIn h'∧h'.FunFrames B l∧TrX h' B e cls cx fl∧h.UpToSlots h'
theorem a66{B:Heap}{env:Env}{outer:List Env}{L e:Addr}{oe:Obj}{vs:Array Value}{head:Value}{cx:Option Addr}{nx:Bool}{Q:Unit→Shared→Prop}(fr:A.frames=some (env::outer))(ff:s.heap.FunFrames B (env::outer))(hf:env.frame=some L)
  (ge:s.heap.get? e=some oe) (st:B.StaysIn s.heap) (be:B.get? e=none) (de:oe.data=.fields vs) (z1:1<vs.size) (z2:vs[2]? = some (a3b cx)) (q:∀h',a3G B (env::outer) e oe.cls cx (rawInt L) s.heap h'→Q () { s with heap:=h' }) :
  wpAny M A (do let a ← frameOf env;let pl ← entryPlaceOf L nx;let b ← EntryCells.newEntry head a .none (rawInt L) .none pl;setField (.ref e) 1 b) Q E s:=by
 have nf:∀b o,s.heap.get? b=some o→(∀ws,o.data≠.fields ws)→b≠e:=fun b o gb nb zb=>by subst zb;rw[ge]at gb;cases gb;exact nb vs de
 have out:e ∉ (env::outer).filterMap (·.frame):=fun m=>by obtain⟨_,o,go,no⟩:=ff.mem m;exact nf e o go no rfl
 refine wpAny_bind (wpAny_frameOf_fun fr ff hf fun h1 only=>wpAny_bind (wpAny_entryPlaceOf fun pl place=>?_))
 unfold EntryCells.newEntry newFields
 refine wpAny_bind (wpAny_newObj_type ?_ (place.sizeOk5 _ _ _ _ _))
 have ge1:h1.get? e=some oe:=(only.2.1 e out).trans ge
 have st1:B.StaysIn h1:=fun b o gb=>(only.2.1 b fun m=>by have:=(ff.mem m).1;rw[this]at gb;cases gb).trans (st b o gb)
 have ne1:h1.objs.size≠e:=fun z=>absurd (Heap.lt_size ge1) (by rw[z];exact Nat.lt_irrefl _)
 refine wpAny_setField (Heap.get?_push_of_some _ ge1) de z1 (q _ ?_)
 have far:∀{ob:Obj} {g:Obj→Obj} {b:Addr} {o:Obj},b≠e→h1.get? b=some o→((h1.push ob).update e g).get? b=some o:=fun ne gb=>(Heap.get?_update_other _ _ (Ne.symm ne)).trans (Heap.get?_push_of_some _ gb)
 refine⟨fun b o gb=>far (fun z=>by rw[z,be]at gb;cases gb) (st1 b o gb),ff.of_keeps fun b o gb nb=>?_,?_,fun b o gb nb=>?_⟩
 ·obtain⟨sl,g⟩:=only.2.2 b o gb;exact⟨_,far (nf b o gb nb) g,rfl⟩
 ·have dd:=Obj.data_mapFields de (·.setIfInBounds 1 (Value.ref h1.objs.size))
  refine⟨_,_,h1.objs.size,_,_,⟨Heap.get?_update_self _ (Heap.get?_push_of_some _ ge1) (Obj.isFreed_of_fields dd),Obj.cls_mapFields _ _,dd⟩,⟨by simp[z1],by rw[Array.getElem?_setIfInBounds_ne (by decide)];exact z2⟩,⟨st1.fresh,ne1⟩,(Heap.get?_update_other _ _ (Ne.symm ne1)).trans (Heap.get?_push_size h1 rfl),rfl,?_⟩
  first | (simp;done) | (rcases place with rfl | ⟨_,_,_,_,_,_,_,rfl⟩<;>simp)
 ·obtain⟨sl,g⟩:=only.2.2 b o gb;exact⟨sl,far (nf b o gb nb) g⟩
theorem a7Z{B:Heap}{env:Env}{outer:List Env}{L e:Addr}{oe:Obj}{vs:Array Value}{cx:Option Addr}{Q:Unit→Shared→Prop}(fr:A.frames=some (env::outer))(ff:s.heap.FunFrames B (env::outer))(hf:env.frame=some L)
  (ge:s.heap.get? e=some oe) (st:B.StaysIn s.heap) (be:B.get? e=none) (de:oe.data=.fields vs) (z1:vs[1]? = some .none) (z2:vs[2]? = some (a3b cx)) (q:∀h',a3G B (env::outer) e oe.cls cx (rawInt L) s.heap h'→Q () { s with heap:=h' }):wpAny M A (noteFrame (.ref e) env) Q E s:=by
 unfold noteFrame
 simp only[hf]
 refine wpAny_bind (wpAny_field ge de z1 ?_)
 rw[if_neg (by decide)]
 exact a66 fr ff hf ge st be de (Array.getElem?_eq_some_iff.mp z1).1 z2 q
theorem b17{B:Heap}{env:Env}{outer:List Env}{L e:Addr}{cls:Value}{cx:Option Addr}{Q:Unit→Shared→Prop}(fr:A.frames=some (env::outer))(ff:s.heap.FunFrames B (env::outer))(hf:env.frame=some L)
  {fl:Value} (t:TrX s.heap B e cls cx fl) (nl:¬(fl == rawInt L)=true) (st:B.StaysIn s.heap) (be:B.get? e=none) (q:∀h',a3G B (env::outer) e cls cx (rawInt L) s.heap h'→Q () { s with heap:=h' }):wpAny M A (noteFrame (.ref e) env) Q E s:=by
 obtain⟨oe,vs,T,oT,ts,⟨ge,rfl,de⟩,⟨z1,z2⟩,⟨bT,nT⟩,gT,dT,z3⟩:=t
 unfold noteFrame
 simp only[hf]
 refine wpAny_bind (wpAny_field ge de z1 ?_)
 rw[if_pos (a0F T)]
 refine wpAny_bind (wpAny_field gT dT z3 ?_)
 rw[if_neg nl]
 refine wpAny_bind (wpAny_setField gT dT (Array.getElem?_eq_some_iff.mp z3).1 ?_)
 have far:∀{g:Obj→Obj} b,b≠T→(s.heap.update T g).get? b=s.heap.get? b:=fun b ne=>Heap.get?_update_other _ _ (Ne.symm ne)
 have nf:∀b o,s.heap.get? b=some o→(∀ws,o.data≠.fields ws)→b≠T:=fun b o gb nb zb=>by subst zb;rw[gT]at gb;cases gb;exact nb ts dT
 refine a66 fr (ff.of_keeps fun b o gb nb=>⟨o,(far b (nf b o gb nb)).trans gb,rfl⟩) hf ((far e (Ne.symm nT)).trans ge) (fun b o gb=>(far b fun z=>by rw[z,bT]at gb;cases gb).trans (st b o gb)) be de (Array.getElem?_eq_some_iff.mp z1).1 z2 fun h' x=>q h' ⟨x.1,x.2.1,x.2.2.1,fun b o gb nb=>?_⟩
 exact x.2.2.2 b o ((far b (nf b o gb nb)).trans gb) nb
theorem a70{B:Heap}{env:Env}{L e:Addr}{cls:Value}{cx:Option Addr}{fl:Value}{Q:Unit→Shared→Prop}(hf:env.frame=some L)(t:TrX s.heap B e cls cx fl)(el:(fl == rawInt L)=true)(q:Q () s):wpAny M A (noteFrame (.ref e) env) Q E s:=by
 obtain⟨oe,vs,T,oT,ts,⟨ge,rfl,de⟩,⟨z1,z2⟩,⟨bT,nT⟩,gT,dT,z3⟩:=t
 unfold noteFrame
 simp only[hf]
 refine wpAny_bind (wpAny_field ge de z1 ?_)
 rw[if_pos (a0F T)]
 refine wpAny_bind (wpAny_field gT dT z3 ?_)
 rw[if_pos el]
 exact wpAny_pure q
theorem b0i{B:Heap}{l:List Env}{e:Addr}{cls fl:Value}{cx fr:Option Addr}{Q:Unit→Shared→Prop}(st:B.StaysIn s.heap)(ff:s.heap.FunFrames B l)(t:TrX s.heap B e cls cx fl)
  (q:∀h',a3G B l e cls cx (fr.elim Value.none fun f=>rawInt f) s.heap h'→Q () { s with heap:=h' }):wpAny M A (setFlight (.ref e) fr) Q E s:=by
 obtain⟨oe,vs,T,oT,ts,⟨ge,rfl,de⟩,⟨z1,z2⟩,⟨bT,nT⟩,gT,dT,z3⟩:=t
 have z4:3<ts.size:=(Array.getElem?_eq_some_iff.mp z3).1
 have far:∀{g:Obj→Obj} b,b≠T→(s.heap.update T g).get? b=s.heap.get? b:=fun b ne=>Heap.get?_update_other _ _ (Ne.symm ne)
 have nf:∀b o,s.heap.get? b=some o→(∀ws,o.data≠.fields ws)→b≠T:=fun b o gb nb zb=>by subst zb;rw[gT]at gb;cases gb;exact nb ts dT
 unfold setFlight
 refine wpAny_bind (wpAny_field ge de z1 ?_)
 rw[if_pos (a0F T)]
 refine wpAny_setField gT dT z4 (q _ ⟨fun b o gb=>(far b fun z=>by rw[z,bT]at gb;cases gb).trans (st b o gb),ff.of_keeps fun b o gb nb=>⟨o,(far b (nf b o gb nb)).trans gb,rfl⟩,?_,fun b o gb nb=>⟨o.slots,(far b (nf b o gb nb)).trans gb⟩⟩)
 have dd:=Obj.data_mapFields dT (·.setIfInBounds 3 (fr.elim Value.none fun f=>rawInt f))
 exact⟨oe,vs,T,_,_,⟨(far e (Ne.symm nT)).trans ge,rfl,de⟩,⟨z1,z2⟩,⟨bT,nT⟩,Heap.get?_update_self _ gT (Obj.isFreed_of_fields dd),dd,by simp[z4]⟩
end
structure XAt(X:Cx)(pins:List (Addr×Obj))(H:Hp)(s:Shared)(a:Addr)(cls:Value)(cx:Option Addr)(B:Heap)(ph:Ph):Prop where
 free:H a=none
 stays:B.StaysIn s.heap
 fresh:B.get? a=none
 frames:s.heap.FunFrames B X.stack
 cov:∀b o,s.heap.get? b=some o→Imp X pins H b→b ∉ N4 X.stack→B.get? b=some o
 tr:XTr B s.heap a cls cx ph
section
variable {X:Cx}{pins:List (Addr×Obj)}{σ:St}{H:Hp}{s:Shared}{a:Addr}{cls:Value}{cx:Option Addr}{B h':Heap}{ph:Ph}
theorem Imp.there(I:Inv X pins σ H s){b:Addr}(i:Imp X pins H b):∃o,s.heap.get? b=some o:=by
 rcases i with i | ⟨hx,o,i⟩ | ⟨p,hp,e⟩
 ·cases q:H b with
  | none=>exact absurd q i
  | some u=>exact(I.hok b u q).there
 ·exact I.base.there b o i hx
 ·exact⟨p.2,by rw[← e];exact(I.pin p hp).1⟩
theorem Inv.exc(I:Inv X pins σ H s)(cov:∀b o,s.heap.get? b=some o→Imp X pins H b→b ∉ N4 X.stack→B.get? b=some o)(st:B.StaysIn h')(ups:s.heap.UpToSlots h') :
  Inv X pins σ H { s with heap:=h' }:=by
 have fr:∀b,b∈N4 X.stack→∀o,s.heap.get? b=some o→∃sl,h'.get? b=some { o with slots:=sl }:=fun b hb o e=>by
  obtain⟨_,o',e',d⟩:=I.stack.mem hb
  rw[e]at e';cases e'
  exact ups b o e d
 have nfr:∀b,b ∉ X.fs→b≠X.env.locals→b ∉ N4 X.stack:=fun b h1 h2 z=>(List.mem_cons.mp (I.stkSub b z)).elim h2 h1
 have neL:∀b o,X.s₀.heap.get? b=some o→b≠X.env.locals:=fun b o e=>Nat.ne_of_lt (Nat.lt_of_lt_of_le (Heap.lt_size e) I.ok.above)
 have cellK:∀c v,s.heap.IsCell c v→h'.IsCell c v:=fun c v ⟨o,ho,hd⟩=>by
  obtain⟨sl,q⟩:=ups c o ho (fun vs z=>by rw[hd]at z;cases z)
  exact⟨_,q,hd⟩
 refine⟨I.ok,I.os,I.bare,⟨fun b o e n hb hx=>?_,fun b o e n hb hx=>?_,I.base.free,fun b o e hx=>?_,I.base.tups,I.base.frzs,I.base.tbls⟩,?_,fun x c e=>?_,I.free,I.freeC,fun p hp=>?_,?_,I.len⟩
 ·exact st _ _ (cov b o (I.base.keep b o e n hb hx) (.inr (.inl ⟨hx,o,e⟩)) (nfr b hb (neL b o e)))
 ·obtain⟨sl,e1⟩:=I.base.slot b o e n hb hx
  have hb':b∈N4 X.stack:=by
   rcases I.ok.stk with q | ⟨q,hf⟩
   ·rw[q];exact hb
   ·rw[q];unfold N4;rw[List.filterMap_cons,hf];exact List.mem_cons_of_mem _ hb
  obtain⟨sl',e2⟩:=fr b hb' _ e1
  exact⟨sl',e2⟩
 ·obtain⟨o',e1⟩:=I.base.there b o e hx
  by_cases hb:b∈N4 X.stack
  ·obtain⟨sl,q⟩:=fr b hb _ e1
   exact⟨_,q⟩
  ·exact⟨o',st _ _ (cov b o' e1 (.inr (.inl ⟨hx,o,e⟩)) hb)⟩
 ·obtain⟨m,hn,hl⟩:=I.loc
  refine⟨m,ups.ns hn,fun i x v e1 e2 e3=>?_⟩
  obtain⟨u,r,l⟩:=hl i x v e1 e2 e3
  refine⟨u,r,?_⟩
  rcases l with l | ⟨k,c,e,z⟩
  ·exact .inl l
  ·exact .inr ⟨k,c,e,cellK c _ z⟩
 ·obtain⟨v,z⟩:=I.cell x c e
  exact⟨v,cellK c v z⟩
 ·obtain⟨e,n,ne,nf,d⟩:=I.pin p hp
  exact⟨st _ _ (cov p.1 p.2 e (.inr (.inr ⟨p,hp,rfl⟩)) (nfr p.1 nf ne)),n,ne,nf,d⟩
 ·intro b u e
  refine(I.hok b u e).stay (fun c v hc q=>?_) (fun _ q=>q) (fun _ _ q=>q) fun _ _ _ q=>q
  have hc':H c≠none:=by
   rcases hc with z | z
   ·rw[z,e];exact fun q=>nomatch q
   ·rw[z];exact fun q=>nomatch q
  exact st _ _ (cov c v q (.inl hc') fun z=>hc' (I.stkFree c z))
theorem XAt.cov'(x:XAt X pins H s a cls cx B ph)(I:Inv X pins σ H s)(st:B.StaysIn h'):∀b o,h'.get? b=some o→Imp X pins H b→b ∉ N4 X.stack→B.get? b=some o:=fun b o e i n=>by
 obtain⟨o1,e1⟩:=i.there I
 have q:=x.cov b o1 e1 i n
 have q2:=st _ _ q
 rw[e]at q2;cases q2
 exact q
variable {M:Model}{A:Around}{E:Value→Shared→Prop}{Q:Unit→Shared→Prop}
theorem b0j{e:Value}{env env0:Env}(h:env0.frame=env.frame):noteFrame e env=noteFrame e env0:=by
 unfold noteFrame PySem.frameOf
 rw[h]
theorem b18{env0:Env}{out0:List Env}{F:Addr}(hA:A.frames=some X.stack)(hs:X.stack=env0::out0)(h0:env0.frame=X.env.frame)(hf:X.env.frame=some F)(I:Inv X pins σ H s)(x:XAt X pins H s a cls cx B ph)
  (hQ:∀h',Inv X pins σ H { s with heap:=h' }→XAt X pins H { s with heap:=h' } a cls cx B .any→Q () { s with heap:=h' }):wpAny M A (noteFrame (.ref a) X.env) Q E s:=by
 have hfr:A.frames=some (env0::out0):=by rw[hA,hs]
 have hl:s.heap.FunFrames B (env0::out0):=by rw[← hs];exact x.frames
 rw[b0j h0]
 have hf:env0.frame=some F:=h0.trans hf
 have fin:∀{fl:Value} h',a3G B (env0::out0) a cls cx fl s.heap h'→Q () { s with heap:=h' }:=fun h' ⟨k1,k2,k3,k4⟩ =>
  hQ h' (I.exc x.cov k1 k4) ⟨x.free,k1,x.fresh,by rw[hs];exact k2,x.cov' I k1,_,k3⟩
 have on:∀fl,TrX s.heap B a cls cx fl→wpAny M A (noteFrame (.ref a) env0) Q E s:=fun fl t=>by
  by_cases z:(fl == rawInt F)=true
  ·exact a70 hf t z (hQ s.heap I ⟨x.free,x.stays,x.fresh,x.frames,x.cov,fl,t⟩)
  ·exact b17 hfr hl hf t z x.stays x.fresh fin
 cases ph with
 | new =>
  obtain⟨oe,vs,he,hc,hd,h1,h2⟩:=x.tr
  refine a7Z hfr hl hf he x.stays x.fresh hd h1 h2 fun h' hN=>?_
  rw[hc]at hN
  exact fin h' hN
 | fly=>exact on _ x.tr
 | any=>obtain⟨fl,t⟩:=x.tr;exact on fl t
theorem b19(I:Inv X pins σ H s)(x:XAt X pins H s a cls cx B ph)(hn:ph≠.new)
  (hQ:∀h',Inv X pins σ H { s with heap:=h' }→XAt X pins H { s with heap:=h' } a cls cx B .fly→Q () { s with heap:=h' }):wpAny M A (setFlight (.ref a) none) Q E s:=by
 have go:∀fl,TrX s.heap B a cls cx fl→wpAny M A (setFlight (.ref a) none) Q E s:=fun fl ht =>
  b0i x.stays x.frames ht fun h' ⟨k1,k2,k3,k4⟩=>hQ h' (I.exc x.cov k1 k4) ⟨x.free,k1,x.fresh,k2,x.cov' I k1,k3⟩
 cases ph with
 | new=>exact absurd rfl hn
 | fly=>exact go _ x.tr
 | any=>obtain⟨fl,t⟩:=x.tr;exact go fl t
end
def A6(P:Program)(w:World):CXT:=fun outer H s E e s' =>
 ∃(a:Addr) (cls:Value) (cx:Option Addr) (H':Hp) (B:Heap),e=.ref a∧s'.os=s.os∧AllBare s'.gens∧Un (N4 outer) [] H H' s.heap s'.heap∧HOk P w H' s'.heap∧B.StaysIn s'.heap∧B.get? a=none∧s'.heap.FunFrames B outer ∧
  TrX s'.heap B a cls cx .none∧H' a=none∧(∀b o,s'.heap.get? b=some o→(H' b≠none∨∃o',s.heap.get? b=some o')→b ∉ N4 outer→B.get? b=some o)∧E cls cx H'
def XAcc(X:Cx)(E:XK):Prop:=∀(pins:List (Addr×Obj)) (σ:St) (H:Hp) (s:Shared) (a:Addr) (cls:Value) (cx:Option Addr) (B:Heap) (ph:Ph),Inv X pins σ H s→XAt X pins H s a cls cx B ph→E cls cx H→X.xe (.ref a) s
theorem a2F{P:Program}{w:World}{K:W.Frag}{mg:Str→Option Value}{base:Heap}{N:List Str}{qual:Str}{scope:Scope}{f:Addr}{cd:Value}{A:Around}{outer:List Env}{s:Shared}{H:Hp}{E:XK} :
  XAcc (U0 (A6 P w) P w K mg base N qual scope f cd A outer s H E) E:=by
 intro pins σ H1 s1 a cls cx B ph I x e
 show wpAny (model P w) (A.deeper (envOfC qual scope s.heap.objs.size f cd)) (leaving (envOfC qual scope s.heap.objs.size f cd) (.ref a)) _ _ s1
 unfold leaving
 refine wpAny_bind (b18 (X:=U0 (A6 P w) P w K mg base N qual scope f cd A outer s H E) I.ok.frames rfl rfl rfl I x fun h1 I1 x1=>?_)
 refine b19 I1 x1 (fun z=>nomatch z) fun h2 I2 x2=>?_
 refine⟨a,cls,cx,H1,B,rfl,I2.os,I2.bare,I2.base,I2.hok,x2.stays,x2.fresh,x2.frames.2.2,x2.tr,x2.free,fun b o e1 i n=>?_,e⟩
 have nl:b≠(envOfC qual scope s.heap.objs.size f cd).locals:=fun z=>by
  rcases i with i | ⟨o',i⟩
  ·exact i (by rw[z];exact I2.free)
  ·have:=Heap.lt_size i
   rw[z]at this
   exact absurd this (Nat.lt_irrefl _)
 refine x2.cov b o e1 (i.elim .inl fun z=>.inr (.inl ⟨List.not_mem_nil,z⟩)) fun z=>?_
 rcases List.mem_cons.mp (I2.stkSub b z)with q | q
 ·exact nl q
 ·exact n q
theorem XAcc.passes{X:Cx}{E:XK}(acc:XAcc X E):a1f (A6 X.prog X.w) X E:=by
 intro pins σ H s e s' I h
 obtain⟨a,cls,cx,H',B,rfl,os,bare,un,hok,st,fr,ff,tr,free,cov,hE⟩:=h
 have I':Inv X pins σ H' s':=I.call' (ch:=[]) os un hok bare (fun b z=>absurd z (by simp))
 refine acc pins σ H' s' a cls cx B .fly I' ⟨free,st,fr,ff,fun b o e i n=>cov b o e ?_ n,tr⟩ hE
 rcases i with i | ⟨hx,o',i⟩ | ⟨p,hp,q⟩
 ·exact .inl i
 ·exact .inr (I.base.there b o' i hx)
 ·exact .inr ⟨p.2,by rw[← q];exact(I.pin p hp).1⟩
end L2
namespace PySem.W
open PySem PySem.Spec PySem.Calls PyProof.Rows
structure ExcT(K:Frag)(C:Addr):Prop where
 ga:findIn K (.ref C) "__getattribute__" = some (some (.builtin "BaseException.__getattribute__"))
 gt:findIn K (.ref C) "__getattr__" = some none
 cl:findIn K (.ref C) "__class__" = some (some (.builtin "object.__class__"))
 mo:mroIn K C (.type "object")=some true
 sb:subIn K (.ref C) (.type "BaseException")=some true
section
variable {prog:Program}{w:World}{A:Around}{E:Value→Shared→Prop}{h:Heap}{g:Array GenState}{d:Drawn}{t:Nat}{os:OsState}{K:Frag}{x C:Addr}{o:Obj}{R:Result→Shared→Prop}
theorem a5d{tp:Value}(X:K.In h)(hx:h.get? x=some o)(hc:o.cls=.ref C)(hm:mroIn K C (.type "object")=some true)
  (q:R (.ok (.ret (.ref C))) ⟨h,g,d,t,os⟩):codeAny (model prog w) A (.call (.builtin "getset_descriptor.__get__") ⟨[.builtin "object.__class__",.ref x,tp],[]⟩) R ⟨h,g,d,t,os⟩:=by
 have L0:Looks (model prog w) h (typeOf (.ref x)) (.ref C):=hc▸(Looks.ld hx).andThen .now
 have L1:=looks_mroIn (M:=model prog w) X hm
 refine codeAny_call_builtin KF.slot_gs.plain KF.entry_gs (KF.slot_gs.check _ _ _ _ _ _ _ _ KF.type_class (KF.args_gs _ _ _) ?_)
 unfold Builtin.«getset_descriptor.__get__» Builtin.Getset_descriptor.descrGet
 rw[dga_obj]
 refine wpAny_bind (wpAny_pure ?_)
 unfold Builtin.Getset_descriptor.descrGetter Builtin.Getset_descriptor.descrCheckInstance Builtin.Getset_descriptor.descrNameAndClass isInstance
 simp only[KF.owner_class]
 repeat lk
 refine⟨Code.quiet_builtin _ (by decide +kernel),codeAny_builtin KF.entry_class ?_⟩
 unfold Builtin.«object.__class__» shownTypeOf
 repeat lk
 exact q
theorem a3H{tk:Tok}{Q:Fin→Shared→Prop}(X:K.In h)(T:ExcT K C)(hx:h.get? x=some o)(hc:o.cls=.ref C)(q:Q (.done (.ret (.ref C))) ⟨h,g,d,t,os⟩) :
  wpAny (model prog w) A (Builtin.«object.__getattribute__» ⟨[.ref x,.str "__class__" tk],[]⟩) Q E ⟨h,g,d,t,os⟩:=by
 have L0:Looks (model prog w) h (typeOf (.ref x)) (.ref C):=hc▸(Looks.ld hx).andThen .now
 have L1:=looks_findIn (M:=model prog w) X T.cl
 have hT5:(⟨h,g,d,t,os⟩:Shared).TypeIs (.builtin "object.__class__") "getset_descriptor" := F.typeOf_object_class
 have f5:=F.typeOf_object_class
 have f6:=F.slot_gs_get.lookup
 have f7:=F.slot_gs_set.lookup
 repeat (any_goals (first | assumption | (with_reducible refine L0.at ?_) | (with_reducible refine wpAny_bind (L0.at ?_)) | (with_reducible refine L1.at ?_) | (with_reducible refine wpAny_bind (L1.at ?_)) | wp_step))
 refine a5d X hx hc T.mo ?_
 repeat (any_goals (first | assumption | wp_step))
theorem a5L{M:Model}{nameV:Value}{Q:Unit→Shared→Prop}(X:K.In h)(T:ExcT K C)(hx:h.get? x=some o)(hc:o.cls=.ref C)(hq:Q () ⟨h,g,d,t,os⟩):wpAny M A (checkBuiltinCall "BaseException.__getattribute__" ⟨[.ref x,nameV],[]⟩) Q E ⟨h,g,d,t,os⟩:=by
 have hk:builtinKind "BaseException.__getattribute__" = some .slot:=by decide +kernel
 have hsplit:splitId "BaseException.__getattribute__" = some ("BaseException","__getattribute__"):=by decide +kernel
 have L0:Looks M h (typeOf (.ref x)) (.ref C):=hc▸(Looks.ld hx).andThen .now
 have L1:=looks_subIn (M:=M) X T.sb
 have L2:Looks M h (isInstance (.ref x) (.type "BaseException")) true:=L0.andThen L1
 have ha:=F.args_bexc_ga (.ref x) nameV
 simp only[checkBuiltinCall,hk,hsplit]
 refine wpAny_bind (L2.at ?_)
 repeat (first | assumption | wp_step)
theorem a5M{tk:Tok}{Q:Value→Shared→Prop}(X:K.In h)(T:ExcT K C)(hx:h.get? x=some o)(hc:o.cls=.ref C)(hq:Q (.ref C) ⟨h,g,d,t,os⟩):wpAny (model prog w) A (getAttrBy (.ref x) (.str "__class__" tk) false) Q E ⟨h,g,d,t,os⟩:=by
 have L0:Looks (model prog w) h (typeOf (.ref x)) (.ref C):=hc▸(Looks.ld hx).andThen .now
 have L1:=looks_findIn (M:=model prog w) X T.ga
 have L2:=looks_findIn (M:=model prog w) X T.gt
 have f3:=F.attr_ValueError.ga.bind (.ref x)
 have hx2:(Value.builtin "BaseException.__getattribute__" == Value.builtin "object.__getattribute__")=false:=by decide +kernel
 have hx1:(onTheHeap (Value.ref C) && Value.builtin "BaseException.__getattribute__" == Value.builtin "object.__getattribute__")=false:=by rw[hx2];rfl
 repeat (any_goals (first | assumption | (with_reducible refine L0.at ?_) | (with_reducible refine wpAny_bind (L0.at ?_)) | (with_reducible refine L1.at ?_) | (with_reducible refine wpAny_bind (L1.at ?_)) | (with_reducible refine L2.at ?_) | (with_reducible refine wpAny_bind (L2.at ?_)) | wp_step))
 refine codeAny_call_builtin F.attr_ValueError.ga.plain F.entry_bexc_ga (a5L X T hx hc (a3H X T hx hc ?_))
 repeat (any_goals (first | assumption | wp_step))
theorem a4j{Q:Option Value→Shared→Prop}(X:K.In h)(T:ExcT K C)(hx:h.get? x=some o)(hc:o.cls=.ref C)(hq:Q (some (.ref C)) ⟨h,g,d,t+1,os⟩):wpAny (model prog w) A (getAttr? (.ref x) "__class__") Q E ⟨h,g,d,t,os⟩:=by
 unfold getAttr? getAttrBy?
 repeat (any_goals (first | assumption | with_reducible apply a5M X T hx hc | wp_step))
end
def b3U(x C:Addr)(h:Heap):Prop:=∃o vs,h.get? x=some o∧o.cls=.ref C∧o.data=.fields vs
theorem kitx_exc{K:Frag}{x C:Addr}(T:ExcT K C):KitX K (.ref x) (.ref C) (b3U x C) where
 ty:=fun _ _ _ ⟨_,_,hx,hc,_⟩=>hc▸(Looks.ld hx).andThen .now
 it:=fun M h X _=>by
  have hm:=T.mo
  unfold mroIn at hm
  obtain⟨cd,hcd⟩:∃cd,clsIn K C=some cd:=by
   cases q:clsIn K C with
   | none=>rw[q]at hm;cases hm
   | some cd=>exact⟨cd,rfl⟩
  unfold clsIn at hcd
  split at hcd
  ·rename_i c' d' cd' sl' ho
   intro A' Q' E' s' k q
   unfold isType loadHead
   exact wpAny_bind (wpAny_loadPart (k _ _ (X _ _ ho)) (wpAny_pure q))
  ·cases hcd
 ne:=fun h tp dd its n sl X htp=>by
  have hm:=T.mo
  unfold mroIn at hm
  obtain⟨cd,hcd⟩:∃cd,clsIn K C=some cd:=by
   cases q:clsIn K C with
   | none=>rw[q]at hm;cases hm
   | some cd=>exact⟨cd,rfl⟩
  refine Bool.eq_false_iff.mpr fun q=>?_
  have e:C=tp:=Value.ref.inj (beq_iff_eq.mp q)
  subst e
  unfold clsIn at hcd
  split at hcd
  ·rename_i c' d' cd' sl' ho
   have z:=(X _ _ ho).symm.trans htp
   cases z
  ·cases hcd
 ca:=fun{_ _ _ _ _ s} X ⟨_,_,hx,hc,_⟩ k=>by
  obtain⟨h,g,d,t,os⟩:=s
  exact a4j X T hx hc k
end PySem.W
namespace L2
open PySem PySem.Spec PyProof.Rows
abbrev TJ:=St→Hp→Str→(Str→Hp→Prop)→Prop
def a5N:List Value:=[.type "ValueError",.type "Exception",.type "BaseException",.type "object"]
theorem b1_{K:W.Frag}{h₀:Heap}{C:Addr}(KX:K.In h₀)(q:W.excIn K C a5N "ValueError.__new__" = true) :
  ∃bm N nm q bs hdct sn sub ab col dd k0 k1 k2 k3 k5 mN,h₀.get? C=some (excClassObj nm q C N bs bm hdct sn sub ab col dd k0 k1 k2 k3 k5 "ValueError.__new__")∧h₀.Ns N mN∧mN "__init__" = none∧OwnTail h₀ a5N bm:=by
 unfold W.excIn at q
 split at q
 ·rename_i dd cd sl ho
  split at q
  ·rename_i C' bm k0 k1 k2 k3 n k5 hm hs
   simp only[Bool.and_eq_true,beq_iff_eq,Bool.not_eq_true']at q
   obtain⟨⟨⟨⟨⟨rfl,rfl⟩,hdel⟩,ht⟩,hok⟩,hni⟩:=q
   obtain⟨nm,bs,mro,ns,qn,hd,sn,sub,ab,col,del⟩:=cd
   dsimp only at hm hdel hok hni
   subst hm hdel
   have hsl:sl = #[k0,k1,k2,k3,some (.builtin "ValueError.__new__"),k5]:=by
    obtain⟨l⟩:=sl
    simp only at hs
    rw[hs]
   subst hsl
   exact⟨bm,ns,nm,qn,bs,hd,sn,sub,ab,col,dd,k0,k1,k2,k3,k5,_,KX _ _ ho,.of_isNs (W.isNs_of_in KX hok),W.nsMap_none_of_in KX hok hni,W.tail_of_in KX ht⟩
  ·cases q
 ·cases q
section
variable {X:Cx}{E:XK}
theorem XAt.first{pins:List (Addr×Obj)}{σ:St}{H:Hp}{s:Shared}{h':Heap}{a:Addr}{cls:Value}{cx:Option Addr}{oe:Obj}{vs:Array Value}(I:Inv X pins σ H s)(k:∀b o,s.heap.get? b=some o→h'.get? b=some o)
  (n:s.heap.get? a=none) (g:h'.get? a=some oe) (hc:oe.cls=cls) (hd:oe.data=.fields vs) (z1:vs[1]? = some .none) (z2:vs[2]? = some (a3b cx)) :
  Inv X pins σ H { s with heap:=h' }∧XAt X pins H { s with heap:=h' } a cls cx (W.hideAll s.heap (N4 X.stack)) .new:=by
 have I':Inv X pins σ H { s with heap:=h' }:=I.kept (t':=s.toks) k
 have fr:H a=none:=by
  cases q:H a with
  | none=>rfl
  | some u=>obtain⟨o,e⟩:=(I.hok a u q).there;rw[n]at e;cases e
 refine⟨I',fr,fun b o e=>k b o (W.of_hideAll _ e),?_,(W.funFrames_hide I.stack fun env he b hb=>List.mem_filterMap.mpr ⟨env,he,hb⟩).of_keeps fun b o e _=>⟨o,k b o e,rfl⟩,fun b o e i n=>?_,⟨oe,vs,g,hc,hd,z1,z2⟩⟩
 ·cases q:(W.hideAll s.heap (N4 X.stack)).get? a with
  | none=>rfl
  | some o=>have:=W.of_hideAll _ q;rw[n]at this;cases this
 ·obtain⟨o1,e1⟩:=i.there I
  have e2:=k _ _ e1
  rw[e]at e2;cases e2
  exact W.hideAll_get _ e1 n
theorem XAt.made{pins:List (Addr×Obj)}{σ:St}{H:Hp}{s:Shared}{h':Heap}{a:Addr}{cls:Value}{vs:List Value}(I:Inv X pins σ H s)(m:Heap.MadeExcOf s.heap h' a cls vs) :
  Inv X pins σ H { s with heap:=h' }∧XAt X pins H { s with heap:=h' } a cls none (W.hideAll s.heap (N4 X.stack)) .new:=by
 obtain⟨t,he,_,_⟩:=m.there
 exact XAt.first I m.keeps m.new he rfl rfl rfl rfl
def a87(C:Addr)(E:XK)(ta:TA):TS:=fun _ σ H=>ta σ H fun vs H1=>vs.length≤sizeLine∧E (.ref C) none H1
theorem b0k{x:Str}{C:Addr}{e₀:Expr}{v7:List Expr}{np cpos pos:Pos}{ta:TA}(acc:XAcc X E)(q:W.excIn X.K C a5N "ValueError.__new__" = true)(hg:Gl X x)(hm:X.mg x=some (.ref C))(ha:PA X (e₀::v7) ta)
  (hc:X.calm=true:=by rfl) (hex:X.ex=[]:=by rfl)
  (he:starEach (e₀::v7) X.env=(false,eval e₀ X.env)::starEach v7 X.env:=by rfl) (hplain:(backTo cpos (starEach v7 X.env)).any (·.1)=false:=by rfl) (hd:(x == ("__debug__" : Str))=false:=by decide) :
  PS X (.Raise (some (.Call (.Name x np) (e₀::v7) [] cpos)) none pos) (a87 C E ta):=by
 intro pins s σ H D I h
 obtain⟨tl,N,nm,qn,bs,hdct,sn,sub,ab,col,dd,k0,k1,k2,k3,k5,mN,hC,hN,hni,T⟩:=b1_ I.mod.kin q
 have hp:=ha cpos pins s σ H _ I h
 rw[he]at hp
 refine wpAny_Raise_call_subT (C:=C) (nm:=nm) (q:=qn) (N:=N) (bs:=bs) (bm:=tl) (hdct:=hdct) (sn:=sn) (sub:=sub) (ab:=ab) (col:=col) (dd:=dd) (k0:=k0) (k1:=k1) (k2:=k2) (k3:=k3) (k5:=k5)
  PySem.F.excBase_ValueError (mN:=mN) (T.hasType PySem.F.excBase_ValueError.hasBase) (I.ok.hd hc) (by rw[he];show(false || (backTo cpos (starEach v7 X.env)).any (·.1))=false;rw[hplain];rfl) hni (a6V I hg hm ⟨rfl,?_⟩ hd)
 rw[he]
 refine Calls.evalArgs_plain (t6 hp fun us s2 ⟨vs,H2,I2,rv,z,hE⟩=>⟨rfl,by rw[← rv.length];exact z,I2.bk _ _ hC,hN.keeps I2.bk,T.keeps I2.bk,fun h' e m=>?_⟩)
 obtain⟨I3,x3⟩:=XAt.made I2 m
 exact acc pins σ H2 _ e _ none _ .new I3 x3 hE
end
def a71(a:Addr)(cls:Value)(cx:Option Addr):HO:=.ext fun h=>∃o vs,h.get? a=some o∧o.cls=cls∧o.data=.fields vs∧vs[2]? = some (a3b cx)
section
variable {X:Cx}{pins:List (Addr×Obj)}{σ:St}{H:Hp}{s:Shared}{a:Addr}{cls:Value}{cx:Option Addr}{B:Heap}{ph:Ph}
theorem XAt.nofr(x:XAt X pins H s a cls cx B ph):a ∉ N4 X.stack:=fun z=>by
 obtain⟨oe,vs,e,_,d,_⟩:=x.tr.there
 obtain⟨_,o,e',d'⟩:=x.frames.mem z
 rw[e]at e';cases e'
 exact d' vs d
end
theorem u5{X:Cx}{P:Program}{w:World}:a1f (A6 P w) X E0:=fun _ _ _ _ _ _ _ h=>by
 obtain⟨_,_,_,_,_,_,_,_,_,_,_,_,_,_,_,_,hE⟩:=h
 exact hE.elim
section
variable {P:Program}{w:World}{K:W.Frag}{mg:Str→Option Value}{base:Heap}
theorem Fun.okE{x qual:Str}{st:Stmt}{f:Addr}{fd:FuncData}{N ps:List Str}{k:Nat}{sp:Sp}(F:Fun K x qual st f fd)(S:FnScope N ps (d9 st))(len:∀vs H Q E,sp vs H Q E→vs.length=ps.length)
  (hbody:∀(cdv:Value) (A:Around) (outer:List Env) (s:Shared) (H:Hp) (vs:List V) (Q:VK) (E:XK),Room k (A.deeper (envOfC qual (d9 st) s.heap.objs.size f cdv))→sp vs H Q E →
   ∃t,PSs (U0 (A6 P w) P w K mg base N qual (d9 st) f cdv A outer s H E) (k6 st) t∧t { nx:=fun _ H'=>Q .non H',rt:=Q } (start N vs) H):FnOk P w K mg base (A6 P w) (k+1) f fd ps sp:=by
 obtain⟨oc,od,kV,doc,pm,an,cdv,ct,osl,rfl,lk,hcd⟩:=F.ex
 exact a3D lk hcd S len fun A outer s H vs Q E hr hsp=>hbody cdv A outer s H vs Q E hr hsp
structure FunD(K:W.Frag)(x qual:Str)(st:Stmt)(dT:Addr)(f:Addr)(fd:FuncData):Prop where
 ex:∃(oc:Value) (od:Option Addr) (kV doc pm:Value) (an:Option Addr) (cdv ct:Value) (osl:Array (Option Value)),
  fd=W.fnOf x qual (u4 st) (k6 st) (d9 st) (.ref dT) kV doc pm an cdv ct∧K.lookup f=some ⟨oc,od,.func fd,osl⟩∧W.codeIn K cdv qual=true
 kp:W.keepIn K (.ref f)=true
theorem FunD.okE{x qual:Str}{st:Stmt}{dT f:Addr}{fd:FuncData}{N ps:List Str}{k:Nat}{sp:Sp}(F:FunD K x qual st dT f fd)(S:FnScope N ps (d9 st))(len:∀vs H Q E,sp vs H Q E→vs.length=ps.length)
  (hbody:∀(cdv:Value) (A:Around) (outer:List Env) (s:Shared) (H:Hp) (vs:List V) (Q:VK) (E:XK),Room k (A.deeper (envOfC qual (d9 st) s.heap.objs.size f cdv))→sp vs H Q E →
   ∃t,PSs (U0 (A6 P w) P w K mg base N qual (d9 st) f cdv A outer s H E) (k6 st) t∧t { nx:=fun _ H'=>Q .non H',rt:=Q } (start N vs) H):FnOk P w K mg base (A6 P w) (k+1) f fd ps sp:=by
 obtain⟨oc,od,kV,doc,pm,an,cdv,ct,osl,rfl,lk,hcd⟩:=F.ex
 exact a3D lk hcd S len fun A outer s H vs Q E hr hsp=>hbody cdv A outer s H vs Q E hr hsp
theorem FunD.binds{x qual:Str}{st:Stmt}{dT f:Addr}{fd:FuncData}{ps:List Str}{ds:List Value}{items:List Value}{o:Obj}{nn:Nat}(F:FunD K x qual st dT f fd)(ho:K.lookup dT=some o)(hs:o.data=.seq items.toArray nn)
  (h:∀(kV doc pm:Value) (an:Option Addr) (cdv ct:Value) (us:List Value),(us++ds).length=ps.length→∃k:Option (Array Value)→Sem (List (Str×Value)),
   bindArgs (W.fnOf x qual (u4 st) (k6 st) (d9 st) (.ref dT) kV doc pm an cdv ct) ⟨us,[]⟩=seqItems? (.ref dT) >>= k∧k (some items.toArray)=pure (ps.zip (us++ds))):Binds K fd ps ds:=by
 obtain⟨oc,od,kV,doc,pm,an,cdv,ct,osl,rfl,lk,hcd⟩:=F.ex
 intro s us KX hl
 obtain⟨k,h1,h2⟩:=h kV doc pm an cdv ct us hl
 exact W.binds_K KX rfl ho hs h1 h2
end
structure RoomW(k:Nat)(A:Around):Prop where
 dp:A.depth+3*k+5<recursionLimit
 un:A.units+16*k+200<cLine
theorem Room.w{k:Nat}{A:Around}(r:Room k A)(h:Option Value):RoomW k (A.mark h):=⟨r.dp,r.un⟩
theorem RoomW.deeper{k:Nat}{A:Around}(r:RoomW (k+1) A)(env:Env):RoomW k (A.deeper env) :=
 ⟨by have:=r.dp;show A.depth+1+3*k+5<_;omega,by have:=r.un;show A.units+3+16*k+200<_;omega⟩
def b3V:V→Option Value
 | .ty n=>some (.type n)
 | .ref a=>some (.ref a)
 | _=>none
theorem b2a{y:V}{c u:Value}(e:b3V y=some c)(r:RelV y u):u=c:=by
 cases y with
 | ty n=>cases e;exact r
 | ref a=>cases e;exact r
 | _=>cases e
inductive TyX(K:W.Frag)(H:Hp):V→Value→Prop where
 | of {x:V} {t:Value} (h:TyOf K H x t):TyX K H x t
 | exc {a C:Addr} {cx:Option Addr} (h:H a=some (a71 a (.ref C) cx)) (T:W.ExcT K C):TyX K H (.ref a) (.ref C)
section
variable {X:Cx}{pins:List (Addr×Obj)}{σ:St}{H:Hp}{s:Shared}{A:Around}{E:Value→Shared→Prop}{Q:Value→Shared→Prop}
theorem TyX.kit{x:V}{u t:Value}(I:Inv X pins σ H s)(rx:RelV x u)(ty:TyX X.K H x t):∃Φ:Heap→Prop,W.KitX X.K u t Φ∧Φ s.heap∧u≠.builtin "__main__.__loader__#opaque" := by
 cases ty with
 | @exc a C cx h T =>
  cases (show u=Value.ref a from rx)
  obtain⟨⟨o,vs,h1,h2,h3,_⟩,_⟩:=(show ObjOk X.prog X.w H s.heap a (a71 a (.ref C) cx)from I.hok a _ h)
  exact⟨_,W.kitx_exc T,⟨o,vs,h1,h2,h3⟩,fun z=>nomatch z⟩
 | of h =>
 cases h with
 | non=>cases (show u=Value.none from rx);exact⟨_,W.kitx_none,True.intro,fun z=>nomatch z⟩
 | bl y=>cases (show u=Value.bool y from rx);exact⟨_,W.kitx_bool,True.intro,fun z=>nomatch z⟩
 | int i=>obtain⟨t,q⟩:=(show ∃t,u=Value.int i t from rx);cases q;exact⟨_,W.kitx_int,True.intro,fun z=>nomatch z⟩
 | str y=>obtain⟨t,q⟩:=(show ∃t,u=Value.str y t from rx);cases q;exact⟨_,W.kitx_str,True.intro,fun z=>nomatch z⟩
 | flt y=>obtain⟨t,q⟩:=(show ∃t,u=Value.float y t from rx);cases q;exact⟨_,W.kitx_float,True.intro,fun z=>nomatch z⟩
 | @lst a xs ea =>
  cases (show u=Value.ref a from rx)
  obtain⟨_,_,n,_,h1⟩:=(show ObjOk X.prog X.w H s.heap a (.lst xs)from I.hok a _ ea)
  exact⟨_,W.kitx_list,⟨_,h1,rfl⟩,fun z=>nomatch z⟩
 | @frz a ob xs ea =>
  cases (show u=Value.ref a from rx)
  obtain⟨_,_,_,n,_,h1⟩:=(show ObjOk X.prog X.w H s.heap a (.frz ob (.lst xs))from I.hok a _ ea)
  exact⟨_,W.kitx_list,⟨_,h1,rfl⟩,fun z=>nomatch z⟩
 | @tup a xs ea =>
  cases (show u=Value.ref a from rx)
  obtain⟨_,_,_,p⟩:=(show ObjOk X.prog X.w H s.heap a (.tup xs)from I.hok a _ ea)
  obtain⟨o,h1,h2,_⟩:=p
  exact⟨_,W.kitx_tuple,⟨o,h1,h2⟩,fun z=>nomatch z⟩
 | @dK a kvs ea =>
  cases (show u=Value.ref a from rx)
  obtain⟨_,_,vs,_,p⟩:=(show ObjOk X.prog X.w H s.heap a (.dK kvs)from I.hok a _ ea)
  obtain⟨o,es,ep,h1,h2,_⟩:=p
  exact⟨_,W.kitx_dict,⟨o,h1,h2.1⟩,fun z=>nomatch z⟩
 | @dT a kvs ea =>
  cases (show u=Value.ref a from rx)
  obtain⟨_,_,xs,_,o,es,ep,h1,h2,_⟩:=(show ObjOk X.prog X.w H s.heap a (.dT kvs)from I.hok a _ ea)
  exact⟨_,W.kitx_dict,⟨o,h1,h2.1⟩,fun z=>nomatch z⟩
 | @ins a C dx fs ea cl ha hn htk hm =>
  cases (show u=Value.ref a from rx)
  obtain⟨mA,O,_⟩:=b11 I.hok ea
  obtain⟨od,J,_⟩:=O.look
  exact⟨_,W.kitx_own (cl.get _) cl.hd ha hn htk hm,J,fun z=>nomatch z⟩
def a72(K:W.Frag):List V→Hp→VK→Prop:=fun xs H Q=>∃x y t c b,xs=[x,y]∧b3V y=some c∧TyX K H x t∧W.kitOne K t c=some b∧Q (.bl b) H
theorem b0l:Y8 X (.builtin "isinstance") (a72 X.K):=by
 intro pins s σ H xs us Q I r h
 obtain⟨x,y,t,c,b,rfl,e1,e2,e3,q⟩:=h
 obtain⟨u,v,rfl,r1,r2⟩:=b1p r
 obtain rfl:=b2a e1 r2
 obtain⟨Φ,Z,p,n⟩:=e2.kit I r1
 exact W.kia_one Z I.kIn p e3 n fun tk=>⟨.bl b,H,I.tok _,rfl,q⟩
end
def b0m:List V→List V→Bool
 | [],[]=>true
 | x::xs,y::ys=>eqV x y && b0m xs ys
 | _,_=>false
section
variable {X:Cx}{pins:List (Addr×Obj)}{σ:St}{H:Hp}{s:Shared}
theorem a1h:K7 X (binaryOp .Mult) (rI IntMulOk fun i j=>.int (i*j)):=opI fun _ _ _ _ _ _ _ hc q=>mul_int q hc
theorem D8:K7 X (binaryOp .FloorDiv) (rI (fun _ j=>0<j∧j.natAbs.log2<9000) fun i j=>.int (i/j)):=opI fun i j _ _ _ _ _ hc q=>by
 have h0:j≠0:=by have:=hc.1;omega
 refine floordiv_int h0 ?_ (.inl (PyProof.noPylong_of_log2 hc.2))
 rw[Int.fdiv_eq_ediv_of_nonneg _ (Int.le_of_lt hc.1)]
 exact q
end
open PySem.W PySem.Calls
theorem a6B{ns:List Int}(h:WData.layableAll [WData.list (ns.map WData.int)]=true):∀n∈ns,Builtin.Int.intBits n≤2 ^ 20:=fun n hn=>by
 have h1:(WData.list (ns.map WData.int)).layable=true:=layableW_arg h _ (List.mem_singleton.mpr rfl)
 have h2:=layableW_item h1 (WData.int n) (List.mem_map.mpr ⟨n,hn,rfl⟩)
 have h3:=(layableW_iff.mp h2).2.2
 simpa only[WData.weight,Builtin.Int.intBits]using h3
theorem b4_{P:Program}{w:World}{outer:List Env}(H:Hp)(s:Shared)(e:Value)(s':Shared)(h:A6 P w outer H s (fun _ _ _=>False) e s'):False:=by
 obtain⟨_,_,_,_,_,_,_,_,_,_,_,_,_,_,_,_,hE⟩:=h
 exact hE
structure Own(P:Program)(w:World)(K:W.Frag)(mg:Str→Option Value)(base:Heap)(k:Nat)(x:Str)(ps:List Str)(sp:Sp):Prop where
 ex:∃f fd,FnOk P w K mg base (A6 P w) k f fd ps sp∧Binds K fd ps []∧W.keepIn K (.ref f)=true∧mg x=some (.ref f)
structure OwnD(P:Program)(w:World)(K:W.Frag)(mg:Str→Option Value)(base:Heap)(k:Nat)(x:Str)(ps:List Str)(sp:Sp)(d:V):Prop where
 ex:∃f fd du,FnOk P w K mg base (A6 P w) k f fd ps sp∧Binds K fd ps []∧Binds K fd ps [du]∧RelV d du∧W.keepIn K (.ref f)=true∧mg x=some (.ref f)
section
variable {X:Cx}{k k':Nat}{ps:List Str}{sp:Sp}{x:Str}{p pos:Pos}{e:Expr}{es:List Expr}{t:TA}{E:XK}{d:V}
theorem t7(G:Own X.prog X.w X.K X.mg X.base k x ps sp)(hr:Room k' X.A)(hk:k≤k')(hx:a1f (A6 X.prog X.w) X E)(ha:PA X (e::es) t)(hg:Gl X x:=by rfl)
  (hdb:(x == ("__debug__" : Str))=false:=by decide) (he:starEach (e::es) X.env=(false,eval e X.env)::starEach es X.env:=by rfl) (hpl:(backTo pos (starEach es X.env)).any (·.1)=false:=by rfl) :
  PE X (.Call (.Name x p) (e::es) [] pos) (Y9 sp [] E t):=by
 obtain⟨f,fd,F,b,kp,m⟩:=G.ex
 exact b12 F (hr.mono hk) hg m kp b .nil hx ha hdb he hpl
end
theorem a3I:bootBuiltins "int" = some (.type "int"):=by decide +kernel
theorem b2b:bootBuiltins "bool" = some (.type "bool"):=by decide +kernel
theorem b3W:bootBuiltins "str" = some (.type "str"):=by decide +kernel
theorem a67:bootBuiltins "list" = some (.type "list"):=by decide +kernel
theorem b0n:bootBuiltins "tuple" = some (.type "tuple"):=by decide +kernel
theorem T9:bootBuiltins "isinstance" = some (.builtin "isinstance"):=by decide +kernel
theorem B5:bootBuiltins "len" = some (.builtin "len"):=by decide +kernel
theorem X6{H:Hp}{p:Addr}(h:H p=none)(o:HO):Same H (upd H p o):=fun b u q=>by rw[g7 (r8 q h)];exact q
def Scr(K:W.Frag)(H:Hp)(a:Addr)(xs:List V):Prop:=(∃o,H a=some (.frz o (.lst xs))) ∨
  ∃(o:Obj) (its:Array Value) (n:Nat),K.lookup a=some o∧o.cls=.type "list"∧o.dict=none∧o.data=.seq its n∧its.size≤sizeLine∧Vals xs its.toList
theorem Scr.seq{K:W.Frag}{H:Hp}{a:Addr}{xs:List V}(h:Scr K H a xs):SqL K H a xs:=h.elim (fun z=>.inl (.inr z)) .inr
theorem Scr.of{K:W.Frag}{H:Hp}{a:Addr}{xs:List V}(h:SqL K H a xs)(o:b50 H):Scr K H a xs:=by
 rcases h with(h | h) | h
 ·rcases o a with z | ⟨o,ys,z⟩
  ·rw[h]at z;cases z
  ·rw[h]at z;cases z
 ·exact .inl h
 ·exact .inr h
theorem Scr.same{K:W.Frag}{H H':Hp}{a:Addr}{xs:List V}(g:Same H H')(h:Scr K H a xs):Scr K H' a xs:=h.elim (fun⟨o,z⟩=>.inl ⟨o,g _ _ z⟩) .inr
theorem Scr.upd{K:W.Frag}{H:Hp}{a l:Addr}{xs ys:List V}{o:HO}(hl:H l=some (.lst ys))(h:Scr K H a xs):Scr K (L2.upd H l o) a xs:=h.elim (fun⟨ob,z⟩=>.inl ⟨ob,by rw[g7 (b1i z hl (by intro q;cases q))];exact z⟩) .inr
section
variable {prog:Program}{w:World}{A:Around}{R:Result→Shared→Prop}{s:Shared}
theorem a6C{elt target iter:Expr}{ifs:List Expr}{scope:Scope}{pos:Pos}{it acc:Value}{env:Env}{N:Value→Shared→Prop}(hN:N=notedBy (model prog w) A env fun e s'=>R (.error e) s')(I:Nat→Shared→Prop)
  (turn:∀n s,I n s→wpAny (model prog w) A (pyNext it) (fun r s₁=>match r with
   | none=>R (.ok .next) s₁
   | some v=>wpAny (model prog w) A (letOwnedTupleGo target it v) (fun _ s₁'=>wpAny (model prog w) A (assign target env v) (fun _ s₂ =>
     wpAny (model prog w) A (forIn ifs true fun c r=>if r=true then do let ok ← isTrue c env (eval c env);pure (ForInStep.yield ok)else pure (ForInStep.yield r)) (fun ok s₃ =>
      if ok=true then wpAny (model prog w) A (eval elt env) (fun x s₄ =>
       wpAny (model prog w) A (call (.builtin "list.append") [acc,x]) (fun _ s₅=>∃m,m<n∧I m s₅) N s₄) N s₃
      else ∃m,m<n∧I m s₃) N s₂) N s₁') N s₁) N s)
  (n:Nat) (h:I n s) :
  codeAny (model prog w) A (.compLoop (.ListComp elt [⟨target,iter,ifs,0⟩] scope pos) 0 it acc env) R s:=by
 subst hN
 refine codeAny_loop rfl I (fun k z q=>?_) n h
 show wpAny _ A ((compTurn (.ListComp elt [⟨target,iter,ifs,0⟩] scope pos) 0 it acc env).onRaise (fun ex=>do noteFrame ex env;theTreesLotGoes ex)) _ _ z
 refine wpAny_noted ?_
 rw[compTurn_list]
 refine wpAny_bind (wpAny_standAt (wpAny_bind (t6 (turn k z q) fun r z1 q1=>?_)))
 cases r with
 | none=>exact wpAny_pure q1
 | some v =>
  refine wpAny_bind (t6 q1 fun _ z2 q2=>?_)
  refine wpAny_bind (t6 q2 fun _ z3 q3=>?_)
  refine wpAny_bind (t6 q3 fun ok z4 q4=>?_)
  cases ok with
  | false=>exact wpAny_pure ⟨rfl,q4⟩
  | true=>exact wpAny_bind (wpAny_bind (t6 q4 fun x z5 q5=>wpAny_bind (t6 q5 fun _ z6 q6=>wpAny_pure (wpAny_pure ⟨rfl,q6⟩))))
end
def G3(cells:List (Str×Addr)):List (Str×NameKind)→List (Str×Addr)→List (Str×Addr)
 | [],acc=>acc
 | (n,k)::r,acc=>if k == .free then(match cells.lookup n with
   | some c=>G3 cells r ((n,c)::acc)
   | none=>G3 cells r acc)else G3 cells r acc
theorem a0Y{cells:List (Str×Addr)}{x:Str}{c:Addr}:∀{names:List (Str×NameKind)} {acc:List (Str×Addr)},(∀d,acc.lookup x=some d→cells.lookup x=some d)→(G3 cells names acc).lookup x=some c→cells.lookup x=some c
 | [],acc,h,e=>h c e
 | (n,k)::r,acc,h,e=>by
  unfold G3 at e
  split at e
  ·split at e
   ·rename_i c' hc'
    refine a0Y (fun d q=>?_) e
    rw[List.lookup_cons]at q
    split at q
    ·rename_i hx
     have hx':x=n:=by simpa using hx
     cases q
     rw[hx'];exact hc'
    ·exact h d q
   ·exact a0Y h e
  ·exact a0Y h e
theorem Z1{cells:List (Str×Addr)}{x:Str}:∀{names:List (Str×NameKind)} {acc:List (Str×Addr)},(∃d,acc.lookup x=some d)→∃d,(G3 cells names acc).lookup x=some d
 | [],acc,h=>h
 | (n,k)::r,acc,h=>by
  unfold G3
  split
  ·split
   ·refine Z1 ?_
    rw[List.lookup_cons]
    split
    ·exact⟨_,rfl⟩
    ·exact h
   ·exact Z1 h
  ·exact Z1 h
theorem R7{cells:List (Str×Addr)}{x:Str}:∀{names:List (Str×NameKind)} {acc:List (Str×Addr)},(x,NameKind.free)∈names→(∃c,cells.lookup x=some c)→∃d,(G3 cells names acc).lookup x=some d
 | [],acc,h,_=>by simp at h
 | (n,k)::r,acc,h,hc=>by
  unfold G3
  rcases List.mem_cons.mp h with e | h
  ·cases e
   obtain⟨c,hc⟩:=hc
   rw[if_pos (by rfl),hc]
   exact Z1 ⟨c,by simp[List.lookup_cons]⟩
  ·split
   ·split
    ·exact R7 h hc
    ·exact R7 h hc
   ·exact R7 h hc
theorem a1x{env:Env}:∀(names:List (Str×NameKind)) (acc:List (Str×Addr)),(∀y∈names,y.2=.free→∃c,env.cells.lookup y.1=some c) →
  (forIn names acc fun(x:Str×NameKind) (cs:List (Str×Addr))=>if(x.2 == NameKind.free)=true then do let a ← cellOf env x.1;pure (ForInStep.yield ((x.1,a)::cs))else pure (ForInStep.yield cs):Sem (List (Str×Addr)))=pure (G3 env.cells names acc)
 | [],acc,_=>rfl
 | (n,k)::r,acc,h=>by
  rw[List.forIn_cons]
  unfold G3
  by_cases hk:(k == NameKind.free)=true
  ·obtain⟨c,hc⟩:=h (n,k) List.mem_cons_self (by simpa using hk)
   have e:cellOf env n=pure c:=by unfold cellOf;rw[hc]
   rw[if_pos hk,if_pos hk,hc,e]
   exact a1x r _ fun y hy=>h y (List.mem_cons_of_mem _ hy)
  ·rw[if_neg hk,if_neg hk]
   exact a1x r acc fun y hy=>h y (List.mem_cons_of_mem _ hy)
theorem a2Z{scope:Scope}{env:Env}(h:∀y∈scope.names,y.2=.free→∃c,env.cells.lookup y.1=some c):closureFor scope env=pure (G3 env.cells scope.names []):=by
 have:=a1x (env:=env) scope.names [] h
 unfold closureFor
 exact(congrArg (· >>= pure) this).trans (by first | rfl | simp)
theorem S4{env:Env}:∀{names:List (Str×NameKind)} {x:Str} {k':NameKind},
  (names.map fun(n,k)=>if(k == NameKind.free && env.scope.kind == .function && env.kindOf n == some .cell)then(n,NameKind.cell)else(n,k)).lookup x=some k' →
  ∃k,names.lookup x=some k∧(k'=k∨(k=.free∧k'=.cell))
 | [],_,_,h=>by simp at h
 | (n,k)::r,x,k',h=>by
  rw[List.map_cons]at h
  dsimp only at h
  by_cases hc:(k == NameKind.free && env.scope.kind == .function && env.kindOf n == some .cell)=true
  ·rw[if_pos hc,List.lookup_cons]at h
   rw[List.lookup_cons]
   split at h
   ·rename_i hx
    cases h
    have hk:k=.free:=by
     have:=(Bool.and_eq_true _ _▸(Bool.and_eq_true _ _▸hc).1).1
     simpa using this
    exact⟨k,rfl,.inr ⟨hk,rfl⟩⟩
   ·rename_i hx
    obtain⟨k2,q1,q2⟩:=S4 h
    exact⟨k2,q1,q2⟩
  ·rw[if_neg hc,List.lookup_cons]at h
   rw[List.lookup_cons]
   split at h
   ·rename_i hx
    cases h
    exact⟨k,rfl,.inl rfl⟩
   ·rename_i hx
    obtain⟨k2,q1,q2⟩:=S4 h
    exact⟨k2,q1,q2⟩
theorem Q6{env:Env}:∀{names:List (Str×NameKind)} {x:Str},names.lookup x=some .free →
  (names.map fun(n,k)=>if(k == NameKind.free && env.scope.kind == .function && env.kindOf n == some .cell)then(n,NameKind.cell)else(n,k)).lookup x=some .cell ∨
  (names.map fun(n,k)=>if(k == NameKind.free && env.scope.kind == .function && env.kindOf n == some .cell)then(n,NameKind.cell)else(n,k)).lookup x=some .free
 | [],_,h=>by simp at h
 | (n,k)::r,x,h=>by
  rw[List.map_cons]
  dsimp only
  rw[List.lookup_cons]at h
  by_cases hc:(k == NameKind.free && env.scope.kind == .function && env.kindOf n == some .cell)=true
  ·rw[if_pos hc,List.lookup_cons]
   split at h
   ·rename_i hx
    left;rfl
   ·rename_i hx
    exact Q6 (env:=env) h
  ·rw[if_neg hc,List.lookup_cons]
   split at h
   ·rename_i hx
    right;exact h
   ·rename_i hx
    exact Q6 (env:=env) h
structure CompSc(Sc scope:Scope)(N Nc:List Str)(k:Nat)(js:List Nat):Prop where
 cell:∀y∈scope.names,y.2≠.cell
 kind:scope.kind=.function
 names:∀y∈scope.names,y.2=.local→scope.names.lookup y.1=some .local
 free:∀y∈scope.names,y.2=.free→Sc.names.lookup y.1=some .cell∨Sc.names.lookup y.1=some .free
 nd:Nc.Nodup
 len:Nc.length=k+js.length
 cap:(Nc.drop k).map some=js.map fun j=>N[j]?
 caps:∀x∈Nc.drop k,scope.names.lookup x=some .free
def A0(k:Nat)(js:List Nat)(σ:St):St:=List.replicate k none++js.map fun j=>(σ[j]?).getD none
theorem M7{names:List (Str×NameKind)}{x:Str}{k:NameKind}(h:names.lookup x=some k):(x,k)∈names:=PySem.mem_of_lookup h
abbrev J9(X:Cx)(scope:Scope)(Nc:List Str)(C:Addr)(s3:Shared)(H3:Hp)(fp:List Addr)(xe:Value→Shared→Prop):Cx :=
 { X with N:=Nc,s₀:=s3,H₀:=H3,env:=compEnvC scope (G3 X.env.cells scope.names []) C X.env,outer:=X.stack,ex:=fp,fn:=fun _=>false,pn:=[],xe:=xe }
section
variable {X:Cx}{pins:List (Addr×Obj)}{σ:St}{H3:Hp}{s3:Shared}{scope:Scope}{Nc:List Str}{k:Nat}{js:List Nat}{fp:List Addr}{xe:Value→Shared→Prop}{h₁:Heap}{m₀:Str→Option Value}{tk:Nat}
theorem a73(I:Inv X pins σ H3 s3)(S:CompSc X.env.scope scope X.N Nc k js):∀y∈scope.names,y.2=.free→∃c,X.env.cells.lookup y.1=some c:=fun y hy hk=>I.ok.has y.1 (S.free y hy hk)
theorem G7{x:Str}{c:Addr}(e:(G3 X.env.cells scope.names []).lookup x=some c):X.env.cells.lookup x=some c:=a0Y (fun d q=>by simp at q) e
theorem b0o(I:Inv X pins σ H3 s3)(S:CompSc X.env.scope scope X.N Nc k js)(hf:∀b∈fp,FpOk X pins H3 b)(hfo:∀b∈fp,b<s3.heap.objs.size)(hns:h₁.Ns s3.heap.objs.size m₀)(old:∀b o,s3.heap.get? b=some o→h₁.get? b=some o) :
  Inv (J9 X scope Nc s3.heap.objs.size s3 H3 fp xe) [] (A0 k js σ) H3 { s3 with heap:=h₁,toks:=tk }:=by
 have ok:=I.ok
 have hb0:∀b o,X.base.get? b=some o→b<X.s₀.heap.objs.size:=fun b o e=>Nat.lt_of_lt_of_le (Heap.lt_size e) ok.bsz
 refine⟨⟨ok.mod,S.kind,ok.glob,ok.blt,Nat.le_refl _,fun x y c h1 h2=>ok.inj x y c (G7 h1) (G7 h2),fun x hx=>?_,(fun x c z=>nomatch z),ok.hd,ok.frames,.inl rfl,fun b hb=>⟨Nat.ne_of_lt (hfo b hb),fun x c e=>(hf b hb).2.2.2.2.1 x c (G7 e)⟩,I.bs,Nat.le_trans ok.bsz I.sz,fun b o e hb=>?_,fun b hb z=>?_,I.stack,I.stkFree⟩,
  rfl,I.bare,Un.kept old,⟨m₀,hns,fun i x v e1 e2 e3=>?_⟩,fun x c e=>?_,I.hok.fresh (Nat.le_refl _),fun x c e=>I.freeC x c (G7 e),fun p hp=>absurd (show p∈([]:List (Addr×Obj))from hp) (by simp),I.hok.kept old,?_⟩
 ·have hx:(relabel scope X.env).names.lookup x=some .cell∨(relabel scope X.env).names.lookup x=some .free:=hx
  have hfree:scope.names.lookup x=some .free:=by
   rcases hx with hx | hx
   ·obtain⟨k2,q1,q2⟩:=S4 (env:=X.env) hx
    rcases q2 with q2 | ⟨q2,_⟩
    ·subst q2;exact absurd rfl (S.cell _ (M7 q1))
    ·rw[q2]at q1;exact q1
   ·obtain⟨k2,q1,q2⟩:=S4 (env:=X.env) hx
    rcases q2 with q2 | ⟨q2,q3⟩
    ·subst q2;exact q1
    ·cases q3
  exact R7 (M7 hfree) (ok.has x (S.free _ (M7 hfree) rfl))
 ·rcases(hf b hb).2.2.2.1 with z | z
  ·exact ok.noex b o e z
  ·exact absurd (Nat.lt_of_lt_of_le (hb0 b o e) z) (Nat.lt_irrefl _)
 ·rcases List.mem_cons.mp (I.stkSub b z)with q | q
  ·exact(hf b hb).2.1 q
  ·exact(hf b hb).2.2.1 q
 ·have hlen:(List.replicate k (none:Option V)).length=k:=List.length_replicate
  by_cases hi:i<k
  ·unfold A0 at e2
   rw[List.getElem?_append_left '!',List.getElem?_replicate]at e2
   split at e2<;>cases e2
  ·unfold A0 at e2
   rw[List.getElem?_append_right '!',hlen,List.getElem?_map]at e2
   cases hj:js[i-k]? with
   | none=>rw[hj]at e2;cases e2
   | some j =>
    rw[hj]at e2
    have e2':(σ[j]?).getD none=some v:=Option.some.inj e2
    have hσ:σ[j]? = some (some v):=by
     cases q:σ[j]? with
     | none=>rw[q]at e2';cases e2'
     | some y=>rw[q]at e2';simp at e2';rw[e2']
    have hx:(Nc.drop k)[i-k]? = some x:=by rw[List.getElem?_drop];rw[show k+(i-k)=i by omega];exact e1
    have hNj:X.N[j]? = some x:=by
     have:=congrArg (fun l=>l[i-k]?) S.cap
     simp only[List.getElem?_map,hx,hj,Option.map_some]at this
     exact(Option.some.inj this).symm
    have hfr:scope.names.lookup x=some .free:=S.caps x (List.mem_of_getElem? hx)
    have hk:=S.free _ (M7 hfr) rfl
    obtain⟨m,hn,hl⟩:=I.loc
    obtain⟨u,r,l⟩:=hl j x v hNj hσ (.inr hk)
    refine⟨u,r,.inr ⟨Q6 hfr,?_⟩⟩
    rcases l with⟨l1,_⟩ | ⟨_,c,hc,hcell⟩
    ·have l1:X.env.scope.names.lookup x=some .local:=l1
     rcases hk with hk | hk
     ·rw[l1]at hk;cases hk
     ·rw[l1]at hk;cases hk
    ·obtain⟨d,hd⟩:=R7 (cells:=X.env.cells) (acc:=[]) (M7 hfr) ⟨c,hc⟩
     have:=G7 hd
     rw[hc]at this;cases this
     obtain⟨o,ho,hdd⟩:=hcell
     exact⟨c,hd,⟨o,old _ _ ho,hdd⟩⟩
 ·obtain⟨v,o,ho,hd⟩:=I.cell x c (G7 e)
  exact⟨v,o,old _ _ ho,hd⟩
 ·unfold A0
  rw[List.length_append,List.length_replicate,List.length_map]
  exact S.len.symm
end
def PF(X:Cx)(ifs:List Expr)(t:TT):Prop :=
 ∀(pins:List (Addr×Obj)) (s:Shared) (σ:St) (H:Hp) (Q:Bool→Hp→Prop),Inv X pins σ H s→t σ H Q →
  wpAny (model X.prog X.w) X.A (forIn ifs true fun c r=>if r=true then do let ok ← isTrue c X.env (eval c X.env);pure (ForInStep.yield ok)else pure (ForInStep.yield r)) (TP X pins σ Q) X.xe s
def b1u:TT:=fun _ H Q=>Q true H
theorem b3X{X:Cx}:PF X [] b1u:=fun pins s σ H Q I h=>wpAny_tests_nil ⟨H,I,h⟩
def a2e(J:It)(g:TG)(tf:TT)(te:TE)(k:Nat)(σ0:St)(D:Addr)(Fin:Hp→Prop)(H1:Hp):Prop :=
 ∃W:Nat→Nat→List V→Hp→Prop,(∃m,W 0 m [] (upd H1 D (.lst [])))∧∀i m ys H,W i m ys H →
  (J.stop i H∧Fin H)∨(J.go i H∧∃N:List V→Hp→Prop,(∀ys' H',N ys' H'→∃m',m'<m∧W (i+1) m' ys' H')∧∀x H',J.yld i H x H'→g x σ0 H' fun σ2 H2=>(σ2.drop k=σ0.drop k∧σ2.length=σ0.length)∧tf σ2 H2 fun b H3 =>
   if b=true then te σ2 H3 fun y H4=>H4 D=some (.lst ys)∧ys.length<sizeLine∧N (ys++[y]) (upd H4 D (.lst (ys++[y])))else N ys H3)
section
variable {X:Cx}{pins:List (Addr×Obj)}{σ:St}{H:Hp}{s:Shared}{elt tg iter:Expr}{ifs:List Expr}{scope:Scope}{pos:Pos}{Nc:List Str}{k:Nat}{js:List Nat}{g:TG}{tf:TT}{te:TE}
theorem a74{J:It}{fp:List Addr}{it:Addr}{tn:Nat→Heap→Prop}{E:Value→Shared→Prop}{RR:Value→Addr→Result→Shared→Prop}{Fin:Addr→Hp→Prop}(hc:X.calm=true)(S:CompSc X.env.scope scope X.N Nc k js)
  (hg:∀C s3 H3 fp xe,PG (J9 X scope Nc C s3 H3 fp xe) tg g) (hf:∀C s3 H3 fp xe,PF (J9 X scope Nc C s3 H3 fp xe) ifs tf)
  (he:∀C D H3,∃xe:Value→Shared→Prop,(∀e s',xe e s'→notedBy (model X.prog X.w) X.A (compEnvC scope (G3 X.env.cells scope.names []) C X.env) (fun e s'=>RR (.ref D) C (.error e) s') e s') ∧
   ∀s3,Inv X pins σ H3 s3→C=s3.heap.objs.size→(∀b∈fp,FpOk X pins H3 b)→PE (J9 X scope Nc C s3 H3 fp xe) elt te)
  (I2:Inv X pins σ H s) (T:Turn X.prog X.w X.K tg J fp it tn) (st2:tn 0 s.heap) (f2:∀b∈fp,FpOk X pins H b) (hR:∀D,H D=none→a2e J g tf te k (A0 k js σ) D (Fin D) H)
  (hRR:∀D C H' s' m',Inv X pins σ H' s'→s'.heap.Ns C m'→H' C=none→C≠X.env.locals→X.s₀.heap.objs.size≤C→(∀x c,X.env.cells.lookup x=some c→c≠C)→(∀p∈X.pn++pins,p.1≠C)→Fin D H'→RR (.ref D) C (.ok .next) s') :
  wpAny (model X.prog X.w) X.A (newList []) (fun acc s₃=>wpAny (model X.prog X.w) X.A (newFunctionEnv scope X.env.globals (G3 X.env.cells scope.names []) [] X.env.qual none .none (some X.env)) (fun cenv s₄ =>
   codeAny (model X.prog X.w) X.A (.compStart (.ListComp elt [⟨tg,iter,ifs,0⟩] scope pos) 0 (.ref it) acc { cenv with scope:=relabel scope X.env }) (RR acc cenv.locals) s₄) E s₃) E s:=by
 refine wpAny_newObj_type (wpAny_newFunctionEnv S.cell (by intro y hy;simp at hy) (fun h₁ hns₁ hsb₁=>?_) S.kind)
 dsimp only at hns₁ hsb₁ ⊢
 have I3:Inv X pins σ (upd H s.heap.objs.size (.lst [])) { s with heap:=s.heap.push { cls:=.type "list",data:=.seq ([]:List Value).toArray },toks:=s.toks }:=I2.lnew (its:=[]) .nil (Nat.zero_le _)
 have hDn:H s.heap.objs.size=none:=I2.fresh
 obtain⟨W,⟨m0,w0⟩,turn⟩:=hR _ hDn
 generalize hs3:({ s with heap:=s.heap.push { cls:=.type "list",data:=.seq ([]:List Value).toArray },toks:=s.toks }:Shared)=s3 at I3
 have e3:s3.heap=s.heap.push { cls:=.type "list",dict:=none,data:=.seq ([]:List Value).toArray }:=by rw[← hs3]
 rw[← e3]at hns₁ hsb₁ ⊢
 have fpo:∀b∈fp,b<s.heap.objs.size:=fun b hb=>by obtain⟨o,e,_⟩:=T.obj _ _ st2 b hb;exact Heap.lt_size e
 have sz3:s3.heap.objs.size=s.heap.objs.size+1:=by rw[e3,Heap.size_push]
 have fpo3:∀b∈fp,b<s3.heap.objs.size:=fun b hb=>by rw[sz3];exact Nat.lt_succ_of_lt (fpo b hb)
 have f3:∀b∈fp,FpOk X pins (upd H s.heap.objs.size (.lst [])) b:=fun b hb=>⟨by rw[g7 (Nat.ne_of_lt (fpo b hb))];exact(f2 b hb).1,(f2 b hb).2⟩
 have old:∀b o,s3.heap.get? b=some o→h₁.get? b=some o:=fun b o e=>hsb₁.extBut b o (Nat.ne_of_lt (Heap.lt_size e)) (Heap.get?_push_of_some _ e)
 have oldS:∀b o,s.heap.get? b=some o→h₁.get? b=some o:=fun b o e=>old b o (by rw[e3];exact Heap.get?_push_of_some _ e)
 obtain⟨xe,hxe,hel⟩:=he s3.heap.objs.size s.heap.objs.size (upd H s.heap.objs.size (.lst []))
 have hel:=hel s3 I3 rfl f3
 have I4:Inv (J9 X scope Nc s3.heap.objs.size s3 (upd H s.heap.objs.size (.lst [])) fp xe) [] (A0 k js σ) (upd H s.heap.objs.size (.lst [])) { s3 with heap:=h₁,toks:=s.toks+([]:List (Str×Value)).length } :=
  b0o I3 S f3 fpo3 hns₁ old
 have st4:tn 0 h₁:=T.keep _ _ _ st2 fun b hb o e=>oldS b o e
 have es3:({ s3 with heap:=h₁,toks:=s.toks+([]:List (Str×Value)).length }:Shared)={ s with heap:=h₁,toks:=s.toks+([]:List (Str×Value)).length }:=by rw[← hs3]
 rw[es3]at I4
 have ok:=I2.ok
 have lk:=I3.lt
 have hCL:s3.heap.objs.size≠X.env.locals:=Nat.ne_of_gt lk
 have stat:∀{H':Hp},(∀b∈fp,H' b=none)→∀b∈fp,FpOk (J9 X scope Nc s3.heap.objs.size s3 (upd H s.heap.objs.size (.lst [])) fp xe) [] H' b:=fun hn b hb =>
  ⟨hn b hb,Nat.ne_of_lt (fpo3 b hb),fun z=>(List.mem_cons.mp (I3.stkSub b z)).elim (fun q=>(f3 b hb).2.1 q) fun q=>(f3 b hb).2.2.1 q,.inl hb,fun x c e=>(f3 b hb).2.2.2.2.1 x c (G7 e),fun p hp=>absurd (show p∈([]:List (Addr×Obj))from hp) (by simp)⟩
 have loop:codeAny (model X.prog X.w) X.A (.compLoop (.ListComp elt [⟨tg,iter,ifs,0⟩] scope pos) 0 (.ref it) (.ref s.heap.objs.size) (compEnvC scope (G3 X.env.cells scope.names []) s3.heap.objs.size X.env))
    (RR (.ref s.heap.objs.size) s3.heap.objs.size) { s with heap:=h₁,toks:=s.toks+([]:List (Str×Value)).length }:=by
  refine a6C rfl (fun n s'=>∃i ys H',Inv (J9 X scope Nc s3.heap.objs.size s3 (upd H s.heap.objs.size (.lst [])) fp xe) [] (A0 k js σ) H' s'∧tn i s'.heap∧(∀b∈fp,H' b=none)∧W i n ys H') ?_ m0 ⟨0,[],_,I4,st4,fun b hb=>(f3 b hb).1,w0⟩
  rintro n s5 ⟨i,ys,H5,I5,st5,fr5,w5⟩
  rcases turn i n ys H5 w5 with⟨stop,fin⟩ | ⟨go,Nx,hNx,step⟩
  ·refine t6 (T.done (J9 X scope Nc s3.heap.objs.size s3 (upd H s.heap.objs.size (.lst [])) fp xe) rfl rfl rfl hc i [] s5 (A0 k js σ) H5 _ I5 (stat fr5) st5 stop) fun r s6 ⟨hr,I6⟩=>?_
   subst hr
   obtain⟨m6,hn6,_⟩:=I6.loc
   have J:Inv X pins σ H5 s6:=I3.call' (ch:=fp) (I6.os.trans rfl) I6.base I6.hok I6.bare fun b hb=>⟨(f3 b hb).2.2.2.1,(f3 b hb).2.1,(f3 b hb).2.2.2.2.1,(f3 b hb).2.2.2.2.2⟩
   refine hRR _ _ H5 s6 m6 J hn6 I6.free hCL (I3.sz) (fun x c e z=>?_) (fun p hp z=>?_) fin
   ·obtain⟨v,q⟩:=I3.cell x c e
    exact absurd q.lt (by rw[z];exact Nat.lt_irrefl _)
   ·exact absurd (Heap.lt_size (I3.pin p hp).1) (by rw[z];exact Nat.lt_irrefl _)
  ·refine t6 (T.item (J9 X scope Nc s3.heap.objs.size s3 (upd H s.heap.objs.size (.lst [])) fp xe) rfl rfl rfl hc i [] s5 (A0 k js σ) H5 _ I5 (stat fr5) st5 go) fun r s6 ⟨u,hr,h6⟩=>?_
   subst hr
   refine t6 h6 fun _ s7 ⟨x,H7,I7,r7,y7,st7,fr7⟩=>?_
   have I7':=I7.pinned (stat fr7) (T.obj _ _ st7)
   refine wpAny_mono (hg _ _ _ _ _ _ s7 _ H7 x u _ I7' r7 (step x H7 y7)) (fun _ s8 ⟨σ8,H8,I8,⟨d8,l8⟩,q8⟩=>?_) fun e s' z=>hxe e s' z
   refine wpAny_mono (hf _ _ _ _ _ _ s8 σ8 H8 _ I8 q8) (fun b s9 ⟨H9,I9,q9⟩=>?_) fun e s' z=>hxe e s' z
   have again:∀{H':Hp} {s':Shared} {ys':List V},Inv (J9 X scope Nc s3.heap.objs.size s3 (upd H s.heap.objs.size (.lst [])) fp xe) ([]++a2b fp s7.heap) σ8 H' s'→Nx ys' H' →
     ∃m,m<n∧∃i ys H',Inv (J9 X scope Nc s3.heap.objs.size s3 (upd H s.heap.objs.size (.lst [])) fp xe) [] (A0 k js σ) H' s'∧tn i s'.heap∧(∀b∈fp,H' b=none)∧W i m ys H':=fun{H' s' ys'} I' hw=>by
    obtain⟨m',hm,w'⟩:=hNx _ _ hw
    refine⟨m',hm,i+1,ys',H',(I'.unpinned).weak l8.symm fun j v e=>?_,T.keep _ _ _ st7 fun b hb o e=>(I'.pin (b,o) (List.mem_append_right _ (List.mem_append_right _ (a0n hb e)))).1,fun b hb=>?_,w'⟩
    ·by_cases hj:j<k
     ·unfold A0 at e
      rw[List.getElem?_append_left (by rw[List.length_replicate];exact hj),List.getElem?_replicate]at e
      split at e<;>cases e
     ·have e':((A0 k js σ).drop k)[j-k]? = some (some v):=by rw[List.getElem?_drop,show k+(j-k)=j by omega];exact e
      rw[← d8,List.getElem?_drop,show k+(j-k)=j by omega]at e'
      exact e'
    ·obtain⟨o,e,d⟩:=T.obj _ _ st7 b hb
     exact(I'.pin (b,o) (List.mem_append_right _ (List.mem_append_right _ (a0n hb e)))).2.1
   cases b with
   | false =>
    rw[if_neg Bool.false_ne_true]at q9 ⊢
    exact again I9 q9
   | true =>
    rw[if_pos rfl]at q9 ⊢
    refine wpAny_mono (hel _ s9 σ8 H9 _ I9 q9) (fun v s10 ⟨y,H10,I10,r10,hD,hz,w'⟩=>?_) fun e s' z=>hxe e s' z
    refine wpAny_mono (C3 (X:=J9 X scope Nc s3.heap.objs.size s3 (upd H s.heap.objs.size (.lst [])) fp xe) _ s10 σ8 H10 (.ref s.heap.objs.size) [y] (.ref s.heap.objs.size) [v] (fun _ H'=>H'=upd H10 s.heap.objs.size (.lst (ys++[y]))) I10 rfl (.cons r10 .nil)
     ⟨_,ys,y,rfl,rfl,hD,hz,rfl⟩) (fun _ s11 ⟨_,H11,I11,_,q11⟩=>?_) fun e s' z=>hxe e s' z
    subst q11
    exact again I11 w'
 exact codeAny_compStart_list loop (T.self _ 0 _ _ _ st4 loop)
end
def b1v(wi:TI)(g:TG)(tf:TT)(te:TE)(k:Nat)(js:List Nat):TE:=fun σ H Q=>wi σ H fun J H1=>∀D,H1 D=none→a2e J g tf te k (A0 k js σ) D (fun H'=>Q (.ref D) H') H1
def a5O(i:Nat)(wi:TI)(g:TG)(tf:TT)(te:TE)(k:Nat)(js:List Nat):TS:=fun N σ H=>wi σ H fun J H1=>∀D,H1 D=none→a2e J g tf te k (A0 k js σ) D (fun H'=>N.nx (σ.set i (some (.ref D))) H') H1
section
variable {X:Cx}{elt tg iter:Expr}{ifs:List Expr}{scope:Scope}{pos:Pos}{Nc:List Str}{k:Nat}{js:List Nat}{wi:TI}{g:TG}{tf:TT}{te:TE}
theorem a75{i:Nat}{y:Str}{py spos:Pos}(hc:X.calm=true)(S:CompSc X.env.scope scope X.N Nc k js)(hN:X.N.Nodup)(hy:X.N[i]? = some y)(hi:PI X tg iter wi)(hg:∀C s3 H3 fp xe,PG (J9 X scope Nc C s3 H3 fp xe) tg g)(hf:∀C s3 H3 fp xe,PF (J9 X scope Nc C s3 H3 fp xe) ifs tf)
  (he:∀C s3 H3 fp xe,PE (J9 X scope Nc C s3 H3 fp xe) elt te) (hl:X.env.scope.names.lookup y=some .local:=by rfl) (hs:∀x,foldedSetIterable iter X.env x=pure x:=by intro _;rfl)
  (hsw:swapsWith (.ListComp elt [⟨tg,iter,ifs,0⟩] scope pos) (some (.Name y py)) spos.line X.env=pure true:=by rfl):PS X (.Assign [.Name y py] (.ListComp elt [⟨tg,iter,ifs,0⟩] scope pos) spos) (a5O i wi g tf te k js):=by
 intro pins s σ H N I h
 rw[exec_Assign_Name_used _ _ _ _ hsw]
 refine wpAny_bind (wpAny_standAt (wpAny_bind ?_))
 show wpAny _ X.A (do let _ ← comprehension (.ListComp elt [⟨tg,iter,ifs,0⟩] scope pos) scope X.env _ (newList []) false (eval iter X.env) (some (assign (.Name y py) X.env))) _ _ s
 refine wpAny_bind (t6 (wpAny_comprehension_free (use:=some (assign (.Name y py) X.env)) (Q:=fun _ z=>SP X pins N .next z) rfl hs (a2Z (a73 I S)) S.kind S.names
  (t6 (hi pins s σ H _ I h) fun v s1 h1=>t6 h1 fun itv s2 h2=>?_)) fun _ z hq=>wpAny_pure (wpAny_pure hq))
 obtain⟨it,fp,tn,J,H2,rfl,I2,T,st2,f2,hR⟩:=h2
 refine a74 (RR:=fun acc C=>compPost (model X.prog X.w) X.A X.xe (some (assign (.Name y py) X.env)) (fun _ z=>SP X pins N .next z) acc C) (Fin:=fun D H'=>N.nx (σ.set i (some (.ref D))) H') hc S hg hf
  (fun C D H3=>⟨fun _ _=>False,fun _ _ z=>z.elim,fun s3 _ _ _=>he _ _ _ _ _⟩) I2 T st2 f2 hR ?_
 intro D C H' s' m' I' hn hC hCL hsz hcl hpn q
 show wpAny _ X.A (assign (.Name y py) X.env (.ref D)) _ _ s'
 refine wpAny_assign_Name (a4N (v:=.ref D) I' hN hy (.inl hl) rfl (fun s'' I'' ⟨a,hsb,ha⟩=>?_) (.inr hl))
 have hCa:C≠a:=by
  rcases ha with ha | ha
  ·rw[ha];exact hCL
  ·exact fun z=>hcl y a ha z.symm
 exact⟨m',hn.sameBut hsb hCa,fun h' hs'=>⟨_,H',I''.turned (t':=s''.toks) (fun b o hb e=>(hs'.2 b hb).trans e) hC hCL (.inr hsz) hcl hpn,q⟩⟩
end
theorem a88{K:W.Frag}{a:Addr}{xs:List V}{g:TG}{tf:TT}{te:TE}{k:Nat}{σ0:St}{D:Addr}{Fin:Hp→Prop}{H1:Hp}(Pv:Nat→List V→Hp→Prop)(h0:Pv 0 [] (upd H1 D (.lst [])))(hl:∀i ys H,i≤xs.length→Pv i ys H→SqL K H a xs)
  (hs:∀i x ys H,xs[i]? = some x→Pv i ys H→g x σ0 H fun σ2 H2=>(σ2.drop k=σ0.drop k∧σ2.length=σ0.length)∧tf σ2 H2 fun b H3 =>
   if b=true then te σ2 H3 fun y H4=>H4 D=some (.lst ys)∧ys.length<sizeLine∧Pv (i+1) (ys++[y]) (upd H4 D (.lst (ys++[y])))else Pv (i+1) ys H3)
  (hd:∀ys H,Pv xs.length ys H→Fin H):a2e (Itl K a) g tf te k σ0 D Fin H1:=by
 refine⟨fun i m ys H=>m=xs.length-i∧i≤xs.length∧Pv i ys H,⟨xs.length,by simp,Nat.zero_le _,h0⟩,?_⟩
 rintro i m ys H ⟨rfl,hi,p⟩
 have q:=hl i ys H hi p
 by_cases hlt:i<xs.length
 ·refine .inr ⟨⟨xs,xs[i],q,by simp[hlt]⟩,Pv (i+1),fun ys' H' z=>⟨xs.length-(i+1),by omega,rfl,hlt,z⟩,fun x H' y=>?_⟩
  obtain⟨e,y⟩:=y
  subst e
  exact hs i x ys _ (y xs q) p
 ·have e:i=xs.length:=by omega
  subst e
  exact .inl ⟨⟨xs,q,Nat.le_refl _⟩,hd ys H p⟩
section
variable {X:Cx}{pins:List (Addr×Obj)}{σ:St}{H:Hp}{s:Shared}
theorem Inv.turnedN{h':Heap}{t':Nat}{ch:List Addr}(I:Inv X pins σ H s)(k:∀b u,b ∉ ch→s.heap.get? b=some u→h'.get? b=some u)(hf:∀b∈ch,FpOk X pins H b):Inv X pins σ H { s with heap:=h',toks:=t' }:=by
 have nch:∀b u,H b=some u→b ∉ ch:=fun b u q z=>by rw[(hf b z).1]at q;cases q
 refine I.call (g':=s.gens) (d':=s.drawn) (ch:=ch) ⟨fun b u q _ _ hx=>k b u hx q,fun b u q _ _ hx=>⟨u.slots,k b u hx q⟩,fun b u q n _=>n,fun b u q hx=>⟨u,k b u hx q⟩,fun b xs q=>q,fun b u xs q=>q,fun b ps q=>⟨#[],by rw[q];simp⟩⟩ (fun b u q=>?_) I.bare
  fun b hb=>⟨(hf b hb).2.2.2.1,(hf b hb).2.1,(hf b hb).2.2.2.2.1,(hf b hb).2.2.2.2.2⟩
 refine(I.hok b u q).stay (fun c v hc r=>k c v ?_ r) (fun c z=>z) (fun c xs z=>z) fun c ob u z=>z
 rcases hc with hc | hc
 ·rw[hc];exact nch b u q
 ·exact nch c _ hc
end
section
variable {X:Cx}
theorem a5P:bootBuiltins "max" = some (.builtin "max"):=by decide +kernel
end
section
variable {X:Cx}{K:W.Frag}
theorem i6(hK:X.K=K:=by rfl):IxR X (b0d K):=hK▸b15
theorem c9(hK:X.K=K:=by rfl):IxR X (b0e K):=hK▸b3Q
theorem b0p(hK:X.K=K:=by rfl):SlR X (b0f K):=hK▸b16
theorem a89(hK:X.K=K:=by rfl):K7 X (compareOp .In) (rIn K false):=hK▸a84
theorem a8_(hK:X.K=K:=by rfl):K7 X (compareOp .NotIn) (rIn K true):=hK▸a5H
def a68(K:W.Frag):List V→Hp→VK→Prop:=fun xs H Q=>∃p ys,xs=[.ref p]∧(SqL K H p ys∨SqT K H p ys)∧Q (.int ys.length) H
theorem j0(hK:X.K=K:=by rfl):Y8 X (.builtin "len") (a68 K):=hK▸a5I
def a69(K:W.Frag):List V→Hp→VK→Prop:=fun xs H Q=>∃p ys,xs=[.ref p]∧(SqL K H p ys∨SqT K H p ys)∧∀l,H l=none→Q (.ref l) (upd H l (.lst ys))
theorem a13(hK:X.K=K:=by rfl):Y8 X (.type "list") (a69 K):=hK▸a5J
theorem a0Z(hK:X.K=K:=by rfl):Y8 X (.builtin "isinstance") (a72 K):=hK▸b0l
theorem U8{es:List Expr}{k:Nat}{t:TGs}{n:Nat}{pos:Pos}(hc:X.calm=true)(h:PGs X es t)(hK:X.K=K:=by rfl)(hn:(assignEach es X.env).length=n:=by rfl)(hst:(assignEach es X.env).findIdx? (·.1)=none:=by rfl) :
  PG X (.Tuple es k pos) (a5A K n t):=hK▸b3H hc h hn hst
variable {o e:Expr}{es:List Expr}{to:TE}{t:TA}{name:Str}{apos cpos:Pos}{T id:String}{r:V→List V→Hp→VK→Prop}
theorem a4k(pa:PlainAttrs T)(slot:Slot T name id)(hty:typeOf (.builtin id)=pure (.type "method_descriptor"))(hm:MtR X id r)(ho:PE X o to)(hK:X.K=K:=by rfl)
  (hbase:attributeBase o name X.env (eval o X.env)=eval o X.env:=by rfl) (hline:(apos.endLine == cpos.line)=true:=by rfl):PE X (.Call (.Attribute o name apos) [] [] cpos) (b0g K T r to):=hK▸b3R pa slot hty hm ho hbase hline
theorem L8(pa:PlainAttrs T)(slot:Slot T name id)(hty:typeOf (.builtin id)=pure (.type "method_descriptor"))(hm:MtR X id r)(ho:PE X o to)(ha:PA X (e::es) t)(hK:X.K=K:=by rfl)
  (hbase:attributeBase o name X.env (eval o X.env)=eval o X.env:=by rfl)
  (hfew:((backTo cpos (starEach (e::es) X.env)).all (fun x=>!x.1) && (backToKw cpos (keywordEach [] X.env)).all (fun x=>x.1.isSome)
   && decide ((e::es).length+([]:List Keyword).length+(if([]:List Keyword).isEmpty then 0 else 1)<30))=true:=by rfl)
  (hline:(apos.endLine == cpos.line)=true:=by rfl) (hs:starEach (e::es) X.env=(false,eval e X.env)::starEach es X.env:=by rfl) (hplain:(backTo cpos (starEach es X.env)).any (·.1)=false:=by rfl) :
  PE X (.Call (.Attribute o name apos) (e::es) [] cpos) (tBM K T r to t):=hK▸b49 pa slot hty hm ho ha hbase hfew hline hs hplain
end
theorem a3J{X:Cx}{x:Str}{j:Nat}{pos:Pos}{es:List Expr}{t:TA}(hr:PA X es t):PA X (.Constant (.str x) j pos::es) (L7 (tC (.str x)) t):=a6 A3 hr
def Gd(n:Nat)(lt:Nat→Nat→Bool){α:Type}:KasT α→(α→Prop)→Prop
 | .ret a,P=>P a
 | .ask i j k,P=>i<n∧j<n∧Gd n lt (k (lt i j)) P
theorem Gd.mono{n:Nat}{lt:Nat→Nat→Bool}{α:Type}{P P':α→Prop}(h:∀a,P a→P' a):∀{t:KasT α},Gd n lt t P→Gd n lt t P'
 | .ret a,g=>h a g
 | .ask i j k,g=>⟨g.1,g.2.1,Gd.mono h g.2.2⟩
theorem Gd.bind{n:Nat}{lt:Nat→Nat→Bool}{α β:Type}{P:β→Prop}{f:α→KasT β}:∀{t:KasT α},Gd n lt t (fun a=>Gd n lt (f a) P)→Gd n lt (t.bind f) P
 | .ret a,g=>g
 | .ask i j k,g=>⟨g.1,g.2.1,Gd.bind (t:=k (lt i j)) g.2.2⟩
def ga(p:Array Nat)(k:Nat):Nat:=p.getD k 0
theorem b1w(p:Array Nat)(k:Nat):ga p k=(p[k]?).getD 0:=by
 unfold ga;simp[Array.getD_eq_getD_getElem?]
structure TPre(lt:Nat→Nat→Bool):Prop where
 irr:∀i,lt i i=false
 tr:∀i j k,lt j i=false→lt k j=false→lt k i=false
 asy:∀i j,lt i j=true→lt j i=false
section
variable {n:Nat}{lt:Nat→Nat→Bool}
def Pmn(n:Nat)(p:Array Nat):Prop:=p.toList.Perm (List.range n)
theorem Pmn.size{p:Array Nat}(h:Pmn n p):p.size=n:=by have:=h.length_eq;simpa using this
theorem Pmn.rev{p:Array Nat}(h:Pmn n p)(i j:Nat):Pmn n (kas_rev p i j):=((Array.perm_iff_toList_perm.mp (mirror_perm p i j _)).trans h)
theorem Pmn.bub{p:Array Nat}(h:Pmn n p)(i j:Nat):Pmn n (bubble p i j):=((Array.perm_iff_toList_perm.mp (bubble_perm p i j)).trans h)
theorem b3Y{p:Array Nat}{i j:Nat}(hj:j≤p.size)(k:Nat):ga (kas_rev p i j) k=if i≤k∧k<j then ga p (i+j-1-k)else ga p k:=by
 rw[b1w,kas_rev,getElem?_mirror_all hj]
 split<;>rw[b1w]
end
theorem a4l:∀a:List Int,HT.lexLt a a=false
 | []=>rfl
 | x::xs=>by rw[HT.lexLt_cons,if_pos rfl];exact a4l xs
theorem a4m:∀a b:List Int,HT.lexLt a b=true→HT.lexLt b a=false
 | [],[],h=>by cases h
 | [],_::_,_=>rfl
 | _::_,[],h=>by cases h
 | x::xs,y::ys,h=>by
  rw[HT.lexLt_cons]at h ⊢
  by_cases e:x=y
  ·rw[if_pos e]at h;rw[if_pos e.symm];exact a4m xs ys h
  ·rw[if_neg e]at h;rw[if_neg (Ne.symm e)]
   have:=of_decide_eq_true h
   exact decide_eq_false '!'
theorem a5Q:∀a b c:List Int,HT.lexLt b a=false→HT.lexLt c b=false→HT.lexLt c a=false
 | [],[],_,_,h=>h
 | [],y::ys,[],_,h=>rfl
 | [],y::ys,z::zs,_,_=>rfl
 | x::xs,[],_,h,_=>by cases h
 | x::xs,y::ys,[],_,h=>by cases h
 | x::xs,y::ys,z::zs,h1,h2=>by
  rw[HT.lexLt_cons]at h1 h2 ⊢
  by_cases e1:y=x
  ·rw[if_pos e1]at h1
   by_cases e2:z=y
   ·rw[if_pos e2]at h2;rw[if_pos (e2.trans e1)];exact a5Q xs ys zs h1 h2
   ·rw[if_neg e2]at h2;rw[if_neg (fun q=>e2 (q.trans e1.symm))];rw[← e1];exact h2
  ·rw[if_neg e1]at h1
   have:=of_decide_eq_false h1
   by_cases e2:z=y
   ·rw[if_neg (fun q=>e1 (e2.symm.trans q)),e2];exact h1
   ·rw[if_neg e2]at h2
    have:=of_decide_eq_false h2
    rw[if_neg '!']
    exact decide_eq_false '!'
section
variable {prog:Program}{w:World}{A:Around}{E:Value→Shared→Prop}{s:Shared}{b fin:Bool}{Q:Bool→Shared→Prop}
theorem a20:∀{vs ws:List Value} {ns ms:List Int} (i:Nat),IntsAre vs ns→IntsAre ws ms→fin=decide (ns.length<ms.length)→Q (HT.lexLt ns ms) s→KatLex prog w A true fin Q (vs.zip ws) i s
 | _,_,_,_,i,.nil,.nil,hf,h=>by rw[List.zip_nil_left];refine kat_nil ?_;rw[hf];exact h
 | _,_,_,_,i,.nil,.cons c u t,hf,h=>by
  rw[List.zip_nil_left];refine kat_nil ?_;rw[hf,decide_eq_true (by simp)];exact h
 | _,_,_,_,i,.cons a t r,.nil,hf,h=>by
  rw[List.zip_nil_right];refine kat_nil ?_;rw[hf,decide_eq_false (by simp)];exact h
 | _,_,_,_,i,.cons (ns:=ns) a t r,.cons (ns:=ms) c u r',hf,h=>by
  rw[List.zip_cons_cons]
  rw[HT.lexLt_cons]at h
  refine kat_cons (wpAny_eqBool_int (kat_go (fun e=>?_) fun e=>?_))
  ·rw[if_pos (by simpa using e)]at h
   exact kat_yes (a20 (i+1) r r' (by rw[hf];simp) h)
  ·rw[if_neg (by simpa using e)]at h
   refine kat_no ?_
   by_cases hi:i=0
   ·subst hi
    show wpAny _ _ (oneLt' true _ _) _ _ _
    exact oneLt_int h
   ·have e0:(true && i == 0)=false:=by simpa using hi
    rw[e0]
    exact kat_one _ _ (PyProof.Rows.lt_int h)
def TupKey(h:Heap)(v:Value)(k:List Int):Prop:=∃a o xs m,v=.ref a∧h.get? a=some o∧o.cls=.type "tuple"∧o.data=.seq xs m∧IntsAre xs.toList k∧k≠[]
theorem TupKey.keeps{h h':Heap}{v:Value}{k:List Int}(t:TupKey h v k)(kp:∀a o,h.get? a=some o→h'.get? a=some o):TupKey h' v k:=by
 obtain⟨a,o,xs,m,e,ho,r⟩:=t
 exact⟨a,o,xs,m,e,kp _ _ ho,r⟩
theorem TupKey.lt{v u:Value}{k l:List Int}{C:Bool→Shared→Prop}{E:Value→Shared→Prop}(t:TupKey s.heap v k)(t':TupKey s.heap u l)(h:C (HT.lexLt k l) s):wpAny (model prog w) A (keyLt' (tuples' true) v u) C E s:=by
 obtain⟨a,o,xs,m,rfl,ho,_,hd,hi,_⟩:=t
 obtain⟨a',o',xs',m',rfl,ho',_,hd',hi',_⟩:=t'
 have z1:xs.size=k.length:=by rw[← hi.length];simp
 have z2:xs'.size=l.length:=by rw[← hi'.length];simp
 exact kat_lt ho hd ho' hd' (a20 0 hi hi' (by rw[z1,z2]) h)
def TKs(h:Heap):List Value→List (List Int)→Prop
 | [],[]=>True
 | v::vs,k::ks=>TupKey h v k∧TKs h vs ks
 | _,_=>False
theorem TKs.keeps{h h':Heap}(kp:∀a o,h.get? a=some o→h'.get? a=some o):∀{vs:List Value} {ks:List (List Int)},TKs h vs ks→TKs h' vs ks
 | [],[],_=>trivial
 | [],_::_,t=>t.elim
 | _::_,[],t=>t.elim
 | v::vs,k::ks,t=>⟨t.1.keeps kp,TKs.keeps kp t.2⟩
theorem TKs.len{h:Heap}:∀{vs:List Value} {ks:List (List Int)},TKs h vs ks→vs.length=ks.length
 | [],[],_=>rfl
 | [],_::_,t=>t.elim
 | _::_,[],t=>t.elim
 | v::vs,k::ks,t=>by simp[t.2.len]
theorem TKs.at{h:Heap}:∀{vs:List Value} {ks:List (List Int)} (i:Nat),TKs h vs ks→i<vs.length→TupKey h (vs.getD i Value.none) (ks.getD i [])
 | [],_,i,_,hi=>absurd hi (Nat.not_lt_zero _)
 | _::_,[],_,t,_=>t.elim
 | v::vs,k::ks,0,t,_=>t.1
 | v::vs,k::ks,i+1,t,hi=>TKs.at (vs:=vs) (ks:=ks) i t.2 (by simpa using hi)
end
theorem a4W:∀{ys:List V} {us:List Value} (p:List Nat),Vals ys us→(∀i∈p,i<ys.length)→Vals (p.map fun i=>ys.getD i .non) (p.map fun i=>us.getD i Value.none)
 | _,_,[],_,_=>.nil
 | ys,us,i::p,r,h=>by
  have hi:=h i (by simp)
  obtain⟨u,e,ru⟩:=r.get (List.getElem?_eq_getElem hi)
  refine .cons ?_ (a4W p r fun j hj=>h j (by simp[hj]))
  have e1:ys.getD i .non=ys[i]:=by simp[hi]
  have e2:us.getD i Value.none=u:=by simp[e]
  show RelV (ys.getD i .non) (us.getD i Value.none)
  rw[e1,e2];exact ru
namespace F'
end F'
open PySem PySem.Spec PyProof.Rows PySem.W
section
variable {X:Cx}{pins:List (Addr×Obj)}{σ:St}{H:Hp}{s:Shared}{a:Addr}
theorem Inv.trackO{oe:Obj}{vs:Array Value}{k:Nat}{u:HO}(I:Inv X pins σ H s)(ni:¬Imp X pins H a)(e:s.heap.get? a=some oe)(d:oe.data=.seq vs k)(new:ObjOk X.prog X.w (upd H a u) s.heap a u):Inv X pins σ (upd H a u) s:=by
 have fr:H a=none:=by
  cases q:H a with
  | none=>rfl
  | some v=>exact absurd (.inl (by rw[q];exact nofun)) ni
 refine⟨I.ok,I.os,I.bare,⟨I.base.keep,I.base.slot,fun b o e1 n hx=>?_,I.base.there,fun b xs q=>?_,fun b o u q=>?_,fun b ps q=>?_⟩,I.loc,I.cell,?_,fun y c q=>?_,fun p hp=>?_,fun b u q=>?_,I.len⟩
 ·rw[g7 (fun z=>ni (.inr (.inl ⟨by rw[← z];exact hx,o,by rw[← z];exact e1⟩)))]
  exact I.base.free b o e1 n hx
 ·have q1:=I.base.tups b xs q
  rw[g7 (r8 q1 fr)];exact q1
 ·have q1:=I.base.frzs b o u q
  rw[g7 (r8 q1 fr)];exact q1
 ·obtain⟨more,q1⟩:=I.base.tbls b ps q
  exact⟨more,by rw[g7 (r8 q1 fr)];exact q1⟩
 ·rw[g7 fun z=>?_]
  ·exact I.free
  ·obtain⟨m,⟨o,es,ep,ho,hd,_⟩,_⟩:=I.loc
   rw[z,e]at ho;cases ho
   rw[d]at hd;cases hd
 ·rw[g7 fun z=>?_]
  ·exact I.freeC y c q
  ·obtain⟨v,o,ho,hd⟩:=I.cell y c q
   rw[z,e]at ho;cases ho
   rw[d]at hd;cases hd
 ·obtain⟨h1,h2,h3,h4,h5⟩:=I.pin p hp
  exact⟨h1,by rw[g7 (fun z=>ni (.inr (.inr ⟨p,hp,z⟩)))];exact h2,h3,h4,h5⟩
 ·by_cases hb:b=a
  ·subst hb
   rw[j8]at q;cases q
   exact new
  ·rw[g7 hb]at q
   refine(I.hok b u q).stay (fun _ _ _ z=>z) (fun c z=>?_) (fun c xs z=>?_) fun c ob u z=>?_
   ·rw[g7 (r8 z fr)];exact z
   ·rw[g7 (r8 z fr)];exact z
   ·rw[g7 (r8 z fr)];exact z
end
section
variable {X:Cx}
def XAccAt(X:Cx)(σ:St)(E:XK):Prop:=∀(pins:List (Addr×Obj)) (H:Hp) (s:Shared) (a:Addr) (cls:Value) (cx:Option Addr) (B:Heap) (ph:Ph),Inv X pins σ H s→XAt X pins H s a cls cx B ph→E cls cx H→X.xe (.ref a) s
theorem XAccAt.passes{σ:St}{E:XK}(acc:XAccAt X σ E):∀(pins:List (Addr×Obj)) (H:Hp) (s:Shared) (e:Value) (s':Shared),Inv X pins σ H s→A6 X.prog X.w X.stack H s E e s'→X.xe e s':=by
 intro pins H s e s' I h
 obtain⟨a,cls,cx,H',B,rfl,os,bare,un,hok,st,fr,ff,tr,free,cov,hE⟩:=h
 have I':Inv X pins σ H' s':=I.call' (ch:=[]) os un hok bare (fun b z=>absurd z (by simp))
 refine acc pins H' s' a cls cx B .fly I' ⟨free,st,fr,ff,fun b o e i n=>cov b o e ?_ n,tr⟩ hE
 rcases i with i | ⟨hx,o',i⟩ | ⟨p,hp,q⟩
 ·exact .inl i
 ·exact .inr (I.base.there b o' i hx)
 ·exact .inr ⟨p.2,by rw[← q];exact(I.pin p hp).1⟩
end
section
variable {prog:Program}{w:World}{A:Around}{E:Value→Shared→Prop}{s:Shared}{fin:Bool}{Q:Bool→Shared→Prop}
theorem b2c{v:Value}(hv:(v == v)=true){E:Value→Shared→Prop}(h:Q true s):wpAny (model prog w) A (eqBool v v) Q E s:=by
 unfold eqBool
 refine wpAny_holding ?_
 rw[if_pos hv]
 exact wpAny_bind (wpAny_rule (wpAny_pure h))
theorem a21:∀{vs:List Value} (i:Nat),(∀v∈vs,(v == v)=true)→Q fin s→KatLex prog w A true fin Q (vs.zip vs) i s
 | [],i,_,h=>by rw[List.zip_nil_left];exact kat_nil h
 | v::vs,i,hv,h=>by
  rw[List.zip_cons_cons]
  exact kat_cons (b2c (hv v (by simp)) (kat_yes (a21 (i+1) (fun u hu=>hv u (by simp[hu])) h)))
theorem a3K{rs rs':List Value}:∀{vs ws:List Value} {ns ms:List Int} (i:Nat),IntsAre vs ns→IntsAre ws ms→ns.length=ms.length→ns≠ms→Q (HT.lexLt ns ms) s→KatLex prog w A true fin Q ((vs++rs).zip (ws++rs')) i s
 | _,_,_,_,i,.nil,.nil,_,hn,_=>absurd rfl hn
 | _,_,_,_,i,.nil,.cons c u t,hf,_,_=>by simp at hf
 | _,_,_,_,i,.cons a t r,.nil,hf,_,_=>by simp at hf
 | _,_,_,_,i,.cons (ns:=ns) a t r,.cons (ns:=ms) c u r',hf,hn,h=>by
  rw[List.cons_append,List.cons_append,List.zip_cons_cons]
  rw[HT.lexLt_cons]at h
  refine kat_cons (wpAny_eqBool_int (kat_go (fun e=>?_) fun e=>?_))
  ·have e':a=c:=by simpa using e
   rw[if_pos e']at h
   exact kat_yes (a3K (i+1) r r' (by simpa using hf) (fun z=>hn (by rw[e',z])) h)
  ·rw[if_neg (by simpa using e)]at h
   refine kat_no ?_
   by_cases hi:i=0
   ·subst hi
    show wpAny _ _ (oneLt' true _ _) _ _ _
    exact oneLt_int h
   ·have e0:(true && i == 0)=false:=by simpa using hi
    rw[e0]
    exact kat_one _ _ (PyProof.Rows.lt_int h)
def TupPre(h:Heap)(v:Value)(k:List Int):Prop:=∃a o xs m vs rs,v=.ref a∧h.get? a=some o∧o.cls=.type "tuple"∧o.data=.seq xs m∧xs.toList=vs++rs∧IntsAre vs k∧k≠[]∧∀u∈xs.toList,(u == u)=true
theorem TupPre.keeps{h h':Heap}{v:Value}{k:List Int}(t:TupPre h v k)(kp:∀a o,h.get? a=some o→h'.get? a=some o):TupPre h' v k:=by
 obtain⟨a,o,xs,m,vs,rs,e,ho,r⟩:=t
 exact⟨a,o,xs,m,vs,rs,e,kp _ _ ho,r⟩
theorem TupPre.lt{v u:Value}{k l:List Int}{C:Bool→Shared→Prop}(t:TupPre s.heap v k)(t':TupPre s.heap u l)(hl:k.length=l.length)(hn:k≠l)(h:C (HT.lexLt k l) s):wpAny (model prog w) A (keyLt' (tuples' true) v u) C E s:=by
 obtain⟨a,o,xs,m,vs,rs,rfl,ho,_,hd,hx,hi,_⟩:=t
 obtain⟨a',o',xs',m',vs',rs',rfl,ho',_,hd',hx',hi',_⟩:=t'
 refine kat_lt ho hd ho' hd' ?_
 rw[hx,hx']
 exact a3K 0 hi hi' hl hn h
theorem TupPre.lt_self{v:Value}{k:List Int}{C:Bool→Shared→Prop}(t:TupPre s.heap v k)(h:C false s):wpAny (model prog w) A (keyLt' (tuples' true) v v) C E s:=by
 obtain⟨a,o,xs,m,vs,rs,rfl,ho,_,hd,hx,hi,_,hv⟩:=t
 refine kat_lt ho hd ho hd (a21 0 hv ?_)
 rw[decide_eq_false (Nat.lt_irrefl _)]
 exact h
def TPs(h:Heap):List Value→List (List Int)→Prop
 | [],[]=>True
 | v::vs,k::ks=>TupPre h v k∧TPs h vs ks
 | _,_=>False
theorem TPs.keeps{h h':Heap}(kp:∀a o,h.get? a=some o→h'.get? a=some o):∀{vs:List Value} {ks:List (List Int)},TPs h vs ks→TPs h' vs ks
 | [],[],_=>trivial
 | [],_::_,t=>t.elim
 | _::_,[],t=>t.elim
 | v::vs,k::ks,t=>⟨t.1.keeps kp,TPs.keeps kp t.2⟩
theorem TPs.at{h:Heap}:∀{vs:List Value} {ks:List (List Int)} (i:Nat),TPs h vs ks→i<vs.length→TupPre h (vs.getD i Value.none) (ks.getD i [])
 | [],_,i,_,hi=>absurd hi (Nat.not_lt_zero _)
 | _::_,[],_,t,_=>t.elim
 | v::vs,k::ks,0,t,_=>t.1
 | v::vs,k::ks,i+1,t,hi=>TPs.at (vs:=vs) (ks:=ks) i t.2 (by simpa using hi)
theorem a6_:∀{h:Heap} {vs:List Value} {ks:List (List Int)},TPs h vs ks→∃fs,KatTups h vs fs∧fs.length=vs.length∧∀v∈fs,∃i t,v=Value.int i t
 | _,[],[],_=>⟨[],.nil,rfl,fun v h=>by cases h⟩
 | _,[],_::_,t=>t.elim
 | _,_::_,[],t=>t.elim
 | h,v::vs,k::ks,⟨t,r⟩=>by
  obtain⟨fs,h1,h2,h3⟩:=a6_ r
  obtain⟨a,o,xs,m,us,rs,rfl,ho,hc,hd,hx,hi,hn,_⟩:=t
  obtain⟨xl⟩:=xs
  cases hi with
  | nil=>exact absurd rfl hn
  | cons n tk hr =>
   simp only at hx
   subst hx
   exact⟨.int n tk::fs,.cons ho hc hd (by simp) h1,by simp[h2],fun v hv=>by
    rcases List.mem_cons.mp hv with rfl | hv
    ·exact⟨n,tk,rfl⟩
    ·exact h3 v hv⟩
end
def VPs(K:W.Frag)(H:Hp):List V→List (List Int)→Prop
 | [],[]=>True
 | v::vs,k::ks=>(∃a rs,v=.ref a∧SqT K H a (k.map V.int++rs)∧k≠[]∧∀r∈rs,∃b,r=.ref b)∧VPs K H vs ks
 | _,_=>False
theorem a3L:∀{k:List Int} {rs:List V} {us:List Value},Vals (k.map V.int++rs) us→∃vs ws,us=vs++ws∧IntsAre vs k∧Vals rs ws
 | [],rs,us,r=>⟨[],us,rfl,.nil,r⟩
 | n::k,rs,_,.cons r t=>by
  obtain⟨vs,ws,e,h1,h2⟩:=a3L (k:=k) t
  obtain⟨tk,e2⟩:=r
  exact⟨.int n tk::vs,ws,by rw[e,e2];rfl,.cons n tk h1,h2⟩
theorem a22:∀{vs:List Value} {ns:List Int},IntsAre vs ns→∀u∈vs,∃m t,u=Value.int m t
 | _,_,.nil,u,hu=>by cases hu
 | _,_,.cons m t r,u,hu=>by
  rcases List.mem_cons.mp hu with rfl | hu
  ·exact⟨m,t,rfl⟩
  ·exact a22 r u hu
theorem b0q(n:Int)(t:Tok):(Value.int n t == Value.int n t)=true:=by simp
theorem b0r(a:Addr):(Value.ref a == Value.ref a)=true:=by simp
section
variable {X:Cx}
theorem a7b{pins:List (Addr×Obj)}{σ:St}{H:Hp}{s:Shared}(I:Inv X pins σ H s):∀{ys:List V} {us:List Value} {ks:List (List Int)},Vals ys us→VPs X.K H ys ks→TPs s.heap us ks
 | [],_,[],.nil,_=>trivial
 | [],_,_::_,_,h=>h.elim
 | _::_,_,[],_,h=>h.elim
 | v::ys,_,k::ks,.cons r rs,⟨⟨a,zs,e,hq,hn,hz⟩,h⟩=>by
  refine⟨?_,a7b I rs h⟩
  subst e
  obtain⟨its,rv,⟨o,ho,hc,n,hd⟩,_⟩:=I.tuple hq
  obtain⟨vs,ws,e,hi,hw⟩:=a3L rv
  refine⟨a,o,_,n,vs,ws,r,ho,hc,hd,by simpa using e,hi,hn,?_⟩
  intro u hu
  have hu:u∈its:=by simpa using hu
  rw[e]at hu
  rcases List.mem_append.mp hu with hu | hu
  ·obtain⟨m,t,rfl⟩:=a22 hi u hu
   exact b0q m t
  ·obtain⟨j,hj,e2⟩:=List.mem_iff_getElem.mp hu
   have hl:=hw.length
   have hj2:j<zs.length:=by omega
   obtain⟨w',q1,q2⟩:=hw.get (List.getElem?_eq_getElem hj2)
   obtain⟨b,eb⟩:=hz zs[j] (List.getElem_mem hj2)
   rw[eb]at q2
   rw[List.getElem?_eq_getElem hj,e2]at q1
   cases q1
   cases q2
   exact b0r b
end
theorem a5e{pos:Pos}{a b:Int}{c cv:Value}(l:List Value)(h:TriplesOk l)(e:codeAmong pos (l++[rawInt a,rawInt b,c])=some cv):codeAmong pos l=some cv∨cv=c:=by
 fun_induction TriplesOk l with
 | case1 =>
  simp only[List.nil_append,codeAmong,rawInt]at e
  split at e
  ·exact .inr (Option.some.inj e).symm
  ·cases e
 | case2 a t b u x v7 ih =>
  simp only[List.cons_append,codeAmong]at e ⊢
  split at e
  ·exact .inl (by rename_i z;rw[if_pos z];exact e)
  ·rename_i z;rw[if_neg z];exact ih h e
 | case3=>exact h.elim
def a2G(oc:Obj)(q:Str):Prop:=∃vs t,oc.data=.fields vs∧vs[1]? = some (.str q t)
section
variable {X:Cx}{pins:List (Addr×Obj)}{σ:St}{H:Hp}{s:Shared}{params:Arguments}{body:Expr}{scope:Scope}{lpos:Pos}{c P:Addr}{q:Str}{tq:Tok}{qs:Array Value}{Q:Value→Shared→Prop}{E:Value→Shared→Prop}
abbrev a0_(X:Cx)(params:Arguments)(body:Expr)(scope:Scope)(q:Str)(c':Addr)(pm ctv:Value):Obj:=kla_obj "<lambda>" q params body scope (G3 X.env.cells scope.names []) pm c' ctv
theorem Inv.grown{h':Heap}{tk:Nat}{c':Addr}{oc:Obj}{ps:Array Value}{a b:Int}(I:Inv X pins σ H s)(hT:H P=some (.tbl qs))(hqs:qs[0]? = some (Value.str q tq))(eP:s.heap.get? P=some (tabObj ps))(tr:TriplesOk ps.toList)
  (al:∀pos cv,codeAmong pos ps.toList=some cv→∃c oc u,cv=Value.ref c∧H c=some (.frz oc u)∧∃vs q' t t2,oc.data=.fields vs∧vs[1]? = some (Value.str q' t2)∧qs[0]? = some (Value.str q' t))
  (hx:Heap.ExtBut P s.heap h') (hge:s.heap.objs.size≤c') (hoc:h'.get? c'=some oc) (hq:a2G oc q) (htb:h'.get? P=some (tabObj (ps ++ #[rawInt a,rawInt b,.ref c']))) :
  Inv X pins σ (upd H c' (.frz oc (.own c'))) { s with heap:=h',toks:=tk }:=by
 have hn:H c'=none:=I.hok.fresh hge
 have neP:∀b',H b'=none→b'≠P:=fun b' n z=>by rw[z,hT]at n;cases n
 refine I.un (t':=tk) ⟨fun b o e n _ _=>hx b o (neP b n) e,fun b o e n _ _=>⟨o.slots,hx b o (neP b n) e⟩,fun b o e n _=>by rw[g7 (Nat.ne_of_lt (Nat.lt_of_lt_of_le (Heap.lt_size e) hge))];exact n,fun b o e _=>?_,fun b xs e=>by rw[g7 (r8 e hn)];exact e,fun b o u e=>by rw[g7 (r8 e hn)];exact e,fun b qs e=>⟨#[],by rw[g7 (r8 e hn),e];simp⟩⟩ fun b u e=>?_
 ·by_cases z:b=P
  ·rw[z];exact⟨_,htb⟩
  ·exact⟨o,hx b o z e⟩
 ·by_cases z:b=c'
  ·subst z
   rw[j8]at e;cases e
   exact⟨hoc,oc,hoc⟩
  ·rw[g7 z]at e
   by_cases y:b=P
   ·subst y
    rw[hT]at e;cases e
    refine⟨_,htb,by rw[Array.toList_append];exact TriplesOk_snoc _ _ _ _ tr,fun pos cv e=>?_⟩
    rw[Array.toList_append]at e
    rcases a5e _ tr e with e | rfl
    ·obtain⟨c,o,u,e1,e2,r⟩:=al pos cv e
     exact⟨c,o,u,e1,by rw[g7 (r8 e2 hn)];exact e2,r⟩
    ·obtain⟨vs,t,d1,d2⟩:=hq
     exact⟨c',oc,.own c',rfl,j8,vs,q,tq,t,d1,d2,hqs⟩
   ·refine(I.hok b u e).stay (fun d v hd r=>hx d v ?_ r) (fun d r=>by rw[g7 (r8 r hn)];exact r) (fun d xs r=>by rw[g7 (r8 r hn)];exact r) fun d o u r=>by rw[g7 (r8 r hn)];exact r
    rcases hd with rfl | hd
    ·exact y
    ·intro z;rw[z,hT]at hd;cases hd
theorem b0s(I:Inv X pins σ H s)(hd:defaultsOf params X.env=([],[]))(hcode:X.env.code=.ref c)(C:CodeHd X.base c P)(hbl:X.base.BuiltinsAt X.mg P)(hT:H P=some (.tbl qs))(hqs:qs[0]? = some (Value.str q tq))(hq:q=X.env.qual ++ "<lambda>")
  (hfree:∀y∈scope.names,y.2=.free→X.env.scope.names.lookup y.1=some .cell∨X.env.scope.names.lookup y.1=some .free)
  (h:∀f c' oc u pm ctv H' s',Inv X pins σ H' s'→(∀a o,H a=some o→H' a=some o)→H' f=some (.frz (a0_ X params body scope q c' pm ctv) (.own f))→H' c'=some (.frz oc u)→a2G oc q→Q (.ref f) s') :
  wpAny (model X.prog X.w) X.A (eval (.Lambda params body scope lpos) X.env) Q E s:=by
 refine kla_eval hd ?_
 subst hq
 obtain⟨ps,eP,tr,al⟩:=I.hok P _ hT
 have hcl:=a2Z (scope:=scope) (env:=X.env) fun y hy hk=>I.ok.has y.1 (hfree y hy hk)
 have hg:s.heap.Ns mainGlobals X.mg:=I.mod.glob.keeps I.bk
 obtain⟨bm,ob,b1,b2,b3,b4,b5,b6,b7,b8⟩:=hbl
 have hb:s.heap.BuiltinsAt X.mg P:=⟨bm,ob,b1,b2,b3,b4,I.bk _ _ b5,b6,b7,b8⟩
 have lay:∀(H1:Hp) (h1:Heap) (tk:Nat) (c':Addr) (oc:Obj) (u:HO) (pm ctv:Value),Inv X pins σ H1 { s with heap:=h1,toks:=tk }→(∀a o,H a=some o→H1 a=some o)→H1 c'=some (.frz oc u)→a2G oc (X.env.qual ++ "<lambda>")→Q (.ref h1.objs.size) { s with heap:=h1.push (a0_ X params body scope (X.env.qual ++ "<lambda>") c' pm ctv),toks:=tk }:=by
  intro H1 h1 tk c' oc u pm ctv I1 ex e3 e4
  have hf:H1 h1.objs.size=none:=I1.hok.fresh (Nat.le_refl _)
  have hgt:(h1.push (a0_ X params body scope (X.env.qual ++ "<lambda>") c' pm ctv)).get? h1.objs.size=some (a0_ X params body scope (X.env.qual ++ "<lambda>") c' pm ctv):=Heap.get?_push_size _ rfl
  have I2:=I1.laid (a:=h1.objs.size) (o:=.frz (a0_ X params body scope (X.env.qual ++ "<lambda>") c' pm ctv) (.own h1.objs.size)) (t':=tk) (fun b o e=>Heap.get?_push_of_some (a0_ X params body scope (X.env.qual ++ "<lambda>") c' pm ctv) e) (Nat.le_refl _) ⟨hgt,_,hgt⟩
  refine h _ c' oc u pm ctv _ _ I2 (fun a o e=>?_) j8 ?_ e4
  ·rw[g7 (r8 (ex a o e) hf)];exact ex a o e
  ·rw[g7 (r8 e3 hf)];exact e3
 cases e:codeAmong lpos ps.toList with
 | some cv =>
  obtain⟨c',oc,u,rfl,hc',vs,q',t,t2,d1,d2,d3⟩:=al lpos cv e
  have hq:q'=X.env.qual ++ "<lambda>" := by
   rw[hqs]at d3
   injection d3 with d3
   injection d3 with d3
   exact d3.symm
  subst hq
  refine kla_makeFunctionHit (mg:=X.mg) hcl I.ok.glob hg hcode (C.keeps I.bk) eP tr e hb fun ctv h' tk hk hsz=>?_
  exact lay H h' tk c' oc u _ ctv (I.kept hk) (fun _ _ e=>e) hc' ⟨vs,t2,d1,d2⟩
 | none =>
  have hgP:mainGlobals≠P:=fun z=>by
   obtain⟨o,es,ep,e1,hd,_⟩:=hg
   rw[z,eP]at e1;cases e1;cases hd
  refine kla_makeFunction (mg:=X.mg) hcl I.ok.glob hg hcode (C.keeps I.bk) eP tr e hgP hb fun c' ctv h' tk hx hge hlt hrec htb=>?_
  obtain⟨c2,oc,vs,t,e2,hoc,hd,hv⟩:=hrec
  cases e2
  exact lay _ h' tk c' oc (.own c') _ ctv (I.grown (tk:=tk) hT hqs eP tr al hx hge hoc ⟨vs,t,hd,hv⟩ htb) (fun a o e=>by rw[g7 (r8 e (I.hok.fresh hge))];exact e) j8 ⟨vs,t,hd,hv⟩
end
abbrev a5R(X:Cx)(scope:Scope)(q:Str)(L f c':Addr):Env:=envX q scope L f (.ref c') (G3 X.env.cells scope.names [])
abbrev a76(X:Cx)(A':Around)(scope:Scope)(q:Str)(Nc:List Str)(f c':Addr)(s:Shared)(H:Hp):Cx :=
 { X with A:=A'.deeper (a5R X scope q s.heap.objs.size f c'),N:=Nc,s₀:=s,H₀:=H,env:=a5R X scope q s.heap.objs.size f c',outer:=X.stack,stack:=a5R X scope q s.heap.objs.size f c'::X.stack,ex:=[],fn:=fun _=>false,calm:=true,pn:=[],xe:=fun _ _=>False }
def a5o(js:List Nat)(σ:St)(x:V):St:=some x::js.map fun j=>(σ[j]?).getD none
section
variable {X:Cx}{pins:List (Addr×Obj)}{σ:St}{H:Hp}{s:Shared}{A':Around}{params:Arguments}{body:Expr}{scope:Scope}{q kn:Str}{f c':Addr}{Nc:List Str}{js:List Nat}{h₁:Heap}{tk:Nat}{v:Value}{x:V}
theorem b2d(I:Inv X pins σ H s)(hA:A'.frames=some X.stack)(hh:A'.handled=none)(S:CompSc X.env.scope scope X.N Nc 1 js)(hk0:Nc[0]? = some kn)(hloc:scope.names.lookup kn=some .local)
  (hns:h₁.Ns s.heap.objs.size (fun y=>([(kn,v)]:List (Str×Value)).reverse.lookup y)) (old:∀b o,s.heap.get? b=some o→h₁.get? b=some o) (rv:RelV x v) :
  Inv (a76 X A' scope q Nc f c' s H) [] (a5o js σ x) H { s with heap:=h₁,toks:=tk }:=by
 have ok:=I.ok
 refine⟨⟨ok.mod,S.kind,rfl,rfl,Nat.le_refl _,fun x y c h1 h2=>ok.inj x y c (G7 h1) (G7 h2),fun y hy=>?_,(fun x c z=>nomatch z),fun _=>hh,Around.frames_deeper hA,.inr ⟨rfl,rfl⟩,fun b hb=>absurd (show b∈([]:List Addr)from hb) (by simp),I.bs,Nat.le_trans ok.bsz I.sz,fun b o e hb=>absurd (show b∈([]:List Addr)from hb) (by simp),fun b hb=>absurd (show b∈([]:List Addr)from hb) (by simp),I.stack,I.stkFree⟩,
  rfl,I.bare,Un.kept old,⟨_,hns,fun i y w e1 e2 e3=>?_⟩,fun y c e=>?_,I.hok.fresh (Nat.le_refl _),fun y c e=>I.freeC y c (G7 e),fun p hp=>absurd (show p∈([]:List (Addr×Obj))from hp) (by simp),I.hok.kept old,?_⟩
 ·have hy:scope.names.lookup y=some .cell∨scope.names.lookup y=some .free:=hy
  rcases hy with hy | hy
  ·exact absurd rfl (S.cell _ (M7 hy))
  ·exact R7 (M7 hy) (ok.has y (S.free _ (M7 hy) rfl))
 ·cases i with
  | zero =>
   have e1:Nc[0]? = some y:=e1
   rw[hk0]at e1;cases e1
   have e2:some (some x)=some (some w):=e2
   cases e2
   refine⟨v,rv,.inl ⟨hloc,?_⟩⟩
   show([(kn,v)]:List (Str×Value)).reverse.lookup kn=some v
   simp
  | succ i =>
   have e2:(js.map fun j=>(σ[j]?).getD none)[i]? = some (some w):=e2
   rw[List.getElem?_map]at e2
   cases hj:js[i]? with
   | none=>rw[hj]at e2;cases e2
   | some j =>
    rw[hj]at e2
    have e2':(σ[j]?).getD none=some w:=Option.some.inj e2
    have hσ:σ[j]? = some (some w):=by
     cases z:σ[j]? with
     | none=>rw[z]at e2';cases e2'
     | some y=>rw[z]at e2';simp at e2';rw[e2']
    have e1:Nc[i+1]? = some y:=e1
    have hx:(Nc.drop 1)[i]? = some y:=by rw[List.getElem?_drop,show 1+i=i+1 by omega];exact e1
    have hNj:X.N[j]? = some y:=by
     have:=congrArg (fun l=>l[i]?) S.cap
     simp only[List.getElem?_map,hx,hj,Option.map_some]at this
     exact(Option.some.inj this).symm
    have hfr:scope.names.lookup y=some .free:=S.caps y (List.mem_of_getElem? hx)
    have hk:=S.free _ (M7 hfr) rfl
    obtain⟨m,hn,hl⟩:=I.loc
    obtain⟨u,r,l⟩:=hl j y w hNj hσ (.inr hk)
    refine⟨u,r,.inr ⟨.inr hfr,?_⟩⟩
    rcases l with⟨l1,_⟩ | ⟨_,c,hc,hcell⟩
    ·have l1:X.env.scope.names.lookup y=some .local:=l1
     rcases hk with hk | hk
     ·rw[l1]at hk;cases hk
     ·rw[l1]at hk;cases hk
    ·obtain⟨d,hd⟩:=R7 (cells:=X.env.cells) (acc:=[]) (M7 hfr) ⟨c,hc⟩
     have:=G7 hd
     rw[hc]at this;cases this
     obtain⟨o,ho,hdd⟩:=hcell
     exact⟨c,hd,⟨o,old _ _ ho,hdd⟩⟩
 ·obtain⟨w,o,ho,hd⟩:=I.cell y c (G7 e)
  exact⟨w,o,old _ _ ho,hd⟩
 ·unfold a5o
  rw[List.length_cons,List.length_map]
  have:=S.len
  show _=Nc.length
  omega
theorem b0t{oc:Obj}{u u':HO}{pm ctv:Value}{te:TE}{Qk:VK}(I:Inv X pins σ H s)(hA:A'.frames=some X.stack)(hh:A'.handled=none)(hdp:A'.depth<recursionLimit)(S:CompSc X.env.scope scope X.N Nc 1 js)(hk0:Nc[0]? = some kn)(hloc:scope.names.lookup kn=some .local)
  (hf:H f=some (.frz (a0_ X params body scope q c' pm ctv) u')) (hc:H c'=some (.frz oc u)) (hq:a2G oc q) (hbind:bindArgs (kla_fn "<lambda>" q params body scope (G3 X.env.cells scope.names []) pm (.ref c') ctv) ⟨[v],[]⟩=pure [(kn,v)])
  (hco:scope.isCoroutine=false) (hgen:scope.isGenerator=false) (hbody:PE (a76 X A' scope q Nc f c' s H) body te) (rv:RelV x v) (ht:te (a5o js σ x) H Qk) :
  wpAny (model X.prog X.w) A' (call (.ref f) [v]) (fun w s'=>∃y H2,Inv X pins σ H2 s'∧RelV y w∧Qk y H2∧Un (N4 X.stack) [] H H2 s.heap s'.heap) (fun _ _=>False) s:=by
 have ef:s.heap.get? f=some (a0_ X params body scope q c' pm ctv):=(I.hok f _ hf).1
 have ec:s.heap.get? c'=some oc:=(I.hok c' _ hc).1
 obtain⟨vs,t,d1,d2⟩:=hq
 refine wpAny_call (kla_callFunE hdp ef rfl hco hgen rfl ⟨c',oc,vs,t,rfl,ec,d1,d2⟩ ?_)
 rw[hbind]
 refine wpAny_pure (wpAny_newFunctionEnv S.cell (by
  intro y hy
  rw[List.mem_singleton.mp hy]
  exact hloc) (fun h₁ hns hsb=>⟨I.nolimit.fresh _ hsb,?_⟩) S.kind)
 have old:∀b o,s.heap.get? b=some o→h₁.get? b=some o:=fun b o e=>hsb.extBut b o (Nat.ne_of_lt (Heap.lt_size e)) (Heap.get?_push_of_some _ e)
 have J:=b2d (q:=q) (f:=f) (c':=c') (tk:=s.toks+([(kn,v)]:List (Str×Value)).length) I hA hh S hk0 hloc hns old rv
 refine kla_codeExpr (wpAny_mono (hbody [] _ _ H _ J ht) (fun w s' hw=>?_) fun _ _ z=>z.elim)
 obtain⟨y,H2,I2,ry,q2⟩:=hw
 exact⟨y,H2,I.call' (ch:=[]) (I2.os.trans rfl) I2.base I2.hok I2.bare (fun b hb=>absurd hb (by simp)),ry,q2,I2.base⟩
end
section
variable {X:Cx}{pins:List (Addr×Obj)}{σ:St}{H:Hp}{s:Shared}{A':Around}{E:Value→Shared→Prop}
theorem FpOk.nstk{H':Hp}{b:Addr}(I:Inv X pins σ H s)(f:FpOk X pins H' b):b ∉ N4 X.stack:=fun z=>by
 rcases List.mem_cons.mp (I.stkSub b z)with q | q
 ·exact f.2.1 q
 ·exact f.2.2.1 q
theorem FpOk.to{H':Hp}{b:Addr}(f:FpOk X pins H b)(n:H' b=none):FpOk X pins H' b:=⟨n,f.2⟩
theorem b2e{xs:List V}{vs:List Value}(r:Vals xs vs){j:Nat}{u:Value}(h:vs[j]? = some u):∃x,xs[j]? = some x∧RelV x u:=by
 have hj:=(List.getElem?_eq_some_iff.mp h).1
 have hl:=r.length
 obtain⟨u',e,q⟩:=r.get (List.getElem?_eq_getElem (l:=xs) (i:=j) '!')
 rw[h]at e;cases e
 exact⟨_,List.getElem?_eq_getElem '!',q⟩
end
def TbAt(P:Addr)(q:Str)(H:Hp):Prop:=∃(qs:Array Value) (t:Tok),H P=some (.tbl qs)∧qs[0]? = some (Value.str q t)
theorem TbAt.now{P:Addr}{q:Str}{fs ex:List Addr}{H H':Hp}{h h':Heap}(t:TbAt P q H)(u:Un fs ex H H' h h'):TbAt P q H':=by
 obtain⟨qs,t,e,e2⟩:=t
 obtain⟨more,e3⟩:=u.tbls _ _ e
 refine⟨_,t,e3,?_⟩
 have h0:0<qs.size:=by
  by_cases z:0<qs.size
  ·exact z
  ·rw[Array.getElem?_eq_none '!']at e2;cases e2
 rw[Array.getElem?_append_left h0];exact e2
section
variable {X:Cx}
theorem a6D:bootBuiltins "sorted" = some (.builtin "sorted"):=by decide +kernel
end
def O3(TB:List (Addr×Str))(H:Hp):Hp:=fun b=>match TB.lookup b with
 | some q=>some (.tbl #[.str q 0])
 | none=>H b
def TbAll(TB:List (Addr×Str))(H:Hp):Prop:=∀P q,TB.lookup P=some q→TbAt P q H
theorem TbAll.now{TB:List (Addr×Str)}{fs ex:List Addr}{H H':Hp}{h h':Heap}(t:TbAll TB H)(u:Un fs ex H H' h h'):TbAll TB H':=fun P q e=>(t P q e).now u
theorem b2f(TB:List (Addr×Str))(H:Hp):TbAll TB (O3 TB H):=fun P q e=>⟨#[.str q 0],0,by unfold O3;rw[e],rfl⟩
theorem a9a{P:Program}{w:World}{K:W.Frag}{mg mb:Str→Option Value}{CX:CXT}{k:Nat}{fa a:Addr}{fd:FuncData}{x:Str}{sp:Sp}{s₁:Shared}{vs:List Value}{ns:List Int}{TB:List (Addr×Str)}
  (KX:K.In s₁.heap) (hns:s₁.heap.Ns mainGlobals mg) (hb:s₁.heap.Ns builtinsNs mb) (hbb:∀x:Str,x≠"__name__"→mb x=bootBuiltins x) (hlim:s₁.heap.NoLimit) (hg:s₁.gens = #[])
  (ha:s₁.heap.get? a=some { cls:=.type "list",data:=.seq vs.toArray }) (hi:IntsAre vs ns) (hl:ns.length≤sizeLine) (hr:Room k callerA)
  (hT:∀Pa q,TB.lookup Pa=some q→(∃c,s₁.heap.TableAt c Pa #[])∧K.lookup Pa=none)
  (F:∀base:Heap,K.In base→base.Ns mainGlobals mg→(∀b o,s₁.heap.get? b=some o→TB.lookup b=none→b≠a→base.get? b=some o)→FnOk P w K mg base CX k fa fd [x] sp) (hbind:∀(s:Shared) (u:Value),BindsTo s fd ⟨[u],[]⟩ [(x,u)])
  (hsp:∀H:Hp,TbAll TB H→Scr K H a (ns.map V.int)→sp [.ref a] H (fun v _=>v=.bl true) fun _ _ _=>False)
  (hCX:∀H e s',CX [] H s₁ (fun _ _ _=>False) e s'→False) :
  codeAny (model P w) callerA (.call (.ref fa) ⟨[.ref a],[]⟩) (fun r s'=>r=.ok (.ret (.bool true))∧OldK s₁.heap s'.heap∧s'.os=s₁.os∧AllBare s'.gens) s₁:=by
 have rv:=a4V hi
 have lenV:=hi.length
 have tabA:∀{Pa q},TB.lookup Pa=some q→s₁.heap.get? Pa=some (tabObj #[]):=fun{Pa q} e=>by
  obtain⟨⟨c,_,e2⟩,_⟩:=hT Pa q e
  exact e2
 have neA:TB.lookup a=none:=by
  cases e:TB.lookup a with
  | none=>rfl
  | some q=>have:=tabA e;rw[ha]at this;cases this
 have core:∀H0:Hp,Scr K (O3 TB H0) a (ns.map V.int)→HOk P w (O3 TB H0) s₁.heap→(∀b,H0 b=none∨∃o xs,H0 b=some (.frz o (.lst xs)))→(∀b,H0 b≠none→b=a)→(H0 a≠none→K.lookup a=none) →
   codeAny (model P w) callerA (.call (.ref fa) ⟨[.ref a],[]⟩) (fun r s'=>r=.ok (.ret (.bool true))∧OldK s₁.heap s'.heap∧s'.os=s₁.os∧AllBare s'.gens) s₁:=by
  intro H0 hS hok hO hA hK
  have cs:∀b,(∃q,TB.lookup b=some q∧O3 TB H0 b=some (.tbl #[.str q 0]))∨(TB.lookup b=none∧O3 TB H0 b=H0 b):=fun b=>by
   unfold O3
   cases e:TB.lookup b with
   | none=>exact .inr ⟨rfl,rfl⟩
   | some q=>exact .inl ⟨q,rfl,rfl⟩
  have base_of:∀{b:Addr} {o:Obj},s₁.heap.get? b=some o→O3 TB H0 b=none→(a08 s₁.heap (O3 TB H0)).get? b=some o:=fun e n=>a94 e n
  have noA:∀{b:Addr} {o:Obj} {es:Array DictEntry} {ep:Nat},s₁.heap.get? b=some o→o.data=.dict es ep→O3 TB H0 b=none:=fun{b o es ep} e d=>by
   rcases cs b with⟨q,e1,_⟩ | ⟨e1,e2⟩
   ·have:=tabA e1;rw[e]at this;cases this;cases d
   ·rw[e2]
    cases q:H0 b with
    | none=>rfl
    | some u =>
     have e':b=a:=hA b (by rw[q];simp)
     subst e'
     rw[ha]at e;cases e
     cases d
  have nsK:∀{b:Addr} {m:Str→Option Value},s₁.heap.Ns b m→(a08 s₁.heap (O3 TB H0)).Ns b m:=fun{b m} ⟨o,es,ep,e,d,r⟩=>⟨o,es,ep,base_of e (noA e d),d,r⟩
  have hKb:K.In (a08 s₁.heap (O3 TB H0)):=fun b o e=>base_of (KX b o e) (by
   rcases cs b with⟨q,e1,_⟩ | ⟨e1,e2⟩
   ·rw[(hT b q e1).2]at e;cases e
   ·rw[e2]
    cases q:H0 b with
    | none=>rfl
    | some u =>
     have e':b=a:=hA b (by rw[q];simp)
     subst e'
     rw[hK (by rw[q];simp)]at e;cases e)
  have hM:Mod K mg (a08 s₁.heap (O3 TB H0)):=⟨hKb,nsK hns,⟨mb,nsK hb,hbb⟩,let ⟨mc,h1,h2⟩:=hlim; ⟨mc,nsK h1,h2⟩⟩
  have e0:Env0 P w K mg (a08 s₁.heap (O3 TB H0)) callerA [] s₁ (O3 TB H0):=⟨rfl,hM,fun b o e=>b1Y e,Nat.le_of_eq (a8Q _ _),trivial,fun b hb=>absurd (show b∈([]:List Addr)from hb) (by simp),hok,.of_eq hg⟩
  have bk:∀b o,s₁.heap.get? b=some o→TB.lookup b=none→b≠a→(a08 s₁.heap (O3 TB H0)).get? b=some o:=fun b o e n na=>base_of e (by
   rcases cs b with⟨q,e1,_⟩ | ⟨e1,e2⟩
   ·rw[n]at e1;cases e1
   ·rw[e2]
    cases q:H0 b with
    | none=>rfl
    | some u=>exact absurd (hA b (by rw[q];simp)) na)
  refine codeAny_mono ((F _ hKb (nsK hns) bk).run callerA [] s₁ (O3 TB H0) ⟨[.ref a],[]⟩ [.ref a] [.ref a] _ _ hr e0 (hbind s₁ (.ref a)) (.cons rfl .nil) (hsp _ (b2f TB H0) hS)) fun r s' h=>?_
  cases r with
  | error e=>exact(hCX _ e s' h).elim
  | ok fl =>
   cases fl with
   | next=>exact False.elim h
   | brk=>exact False.elim h
   | cont=>exact False.elim h
   | ret u =>
    obtain⟨v,H',os,bare,un,hok',r',q⟩:=h
    have q':v=.bl true:=q
    subst q'
    obtain rfl:u=Value.bool true:=r'
    refine⟨rfl,?_,os,bare⟩
    have kpt:∀b o,s₁.heap.get? b=some o→TB.lookup b=none→s'.heap.get? b=some o:=fun b o e n=>by
     rcases cs b with⟨q,e1,_⟩ | ⟨_,e2⟩
     ·rw[n]at e1;cases e1
     ·cases q:H0 b with
      | none=>exact un.keep b o e (by rw[e2,q]) (by intro z;exact absurd (show b∈([]:List Addr)from z) (by simp)) (by simp)
      | some u =>
       rcases hO b with z | ⟨ob,xs,z⟩
       ·rw[q]at z;cases z
       ·rw[← e2]at z
        have z2:=un.frzs b ob _ z
        obtain⟨e1,_⟩:=hok b _ z
        obtain⟨e2,_⟩:=hok' b _ z2
        rw[e]at e1;cases e1
        exact e2
    have tbt:∀b q,TB.lookup b=some q→∃ps,s'.heap.get? b=some (tabObj ps):=fun b q e=>by
     rcases cs b with⟨q',e1,e2⟩ | ⟨e1,_⟩
     ·obtain⟨more,e3⟩:=un.tbls b _ e2
      obtain⟨ps,e4,_⟩:=hok' b _ e3
      exact⟨ps,e4⟩
     ·rw[e]at e1;cases e1
    refine⟨fun b o e=>?_,fun b o e=>?_⟩
    ·cases n:TB.lookup b with
     | none=>exact .inl (kpt b o e n)
     | some q =>
      obtain⟨ps,e4⟩:=tbt b q n
      have e5:=tabA n
      rw[e]at e5;cases e5
      obtain⟨⟨c,ht⟩,_⟩:=hT b q n
      exact .inr (.inl ⟨ht.isCodeTable,rfl,#[],ps,rfl,by rw[e4];simp⟩)
    ·cases n:TB.lookup b with
     | none=>exact⟨o,kpt b o e n⟩
     | some q=>obtain⟨ps,e4⟩:=tbt b q n;exact⟨_,e4⟩
 have tabOk:∀H0 b u,TB.lookup b≠none→O3 TB H0 b=some u→ObjOk P w (O3 TB H0) s₁.heap b u:=fun H0 b u n e=>by
  cases q:TB.lookup b with
  | none=>exact absurd q n
  | some q' =>
   have e':O3 TB H0 b=some (.tbl #[.str q' 0]):=by unfold O3;rw[q]
   rw[e']at e;cases e
   exact⟨#[],tabA q,trivial,fun pos cv z=>by cases z⟩
 cases hk:K.lookup a with
 | some o =>
  have e:=KX a o hk
  rw[ha]at e
  cases e
  refine core (fun _=>none) (.inr ⟨_,vs.toArray,_,hk,rfl,rfl,rfl,by rw[List.size_toArray,lenV];exact hl,by simpa using rv⟩) (fun b u z=>?_) (fun _=>.inl rfl) (fun b z=>absurd rfl z) fun z=>absurd rfl z
  cases n:TB.lookup b with
  | none =>
   have z':O3 TB (fun _=>none) b=none:=by unfold O3;rw[n]
   rw[z']at z;cases z
  | some q=>exact tabOk _ b u (by rw[n];simp) z
 | none =>
  refine core (fun b=>if b=a then some (.frz { cls:=.type "list",data:=.seq vs.toArray } (.lst (ns.map V.int)))else none) (.inl ⟨{ cls:=.type "list",data:=.seq vs.toArray },by unfold O3;rw[neA];exact if_pos rfl⟩) (fun b u z=>?_) (fun b=>?_) (fun b z=>?_) fun _=>hk
  ·cases n:TB.lookup b with
   | some q=>exact tabOk _ b u (by rw[n];simp) z
   | none =>
    have z':O3 TB (fun b=>if b=a then some (.frz { cls:=.type "list",data:=.seq vs.toArray } (.lst (ns.map V.int)))else none) b=(if b=a then some (.frz { cls:=.type "list",data:=.seq vs.toArray } (.lst (ns.map V.int)))else none):=by unfold O3;rw[n]
    rw[z']at z
    by_cases hb:b=a
    ·rw[if_pos hb]at z
     cases z
     subst hb
     exact⟨ha,by rw[List.length_map];exact hl,vs,_,rv,ha⟩
    ·rw[if_neg hb]at z;cases z
  ·by_cases hb:b=a
   ·exact .inr ⟨_,_,if_pos hb⟩
   ·exact .inl (if_neg hb)
  ·by_cases hb:b=a
   ·exact hb
   ·exact absurd (if_neg hb) z
def spT(TB:List (Addr×Str))(sp:Sp):Sp:=fun vs H Q E=>TbAll TB H∧sp vs H Q E
theorem walk_ofT{l:OpenLaw}{n k:Nat}{q:Program}{loose:List Str}{XP:(Str→Option Value)→Heap→Prop}{YP:World→Heap→Prop}{d:DefRec}{K:Params→Frag}{CX:World→CXT}{sp:World→Sp}{x:Str}
  (hn:l.most=some n) (hn2:n≤sizeLine) (hdf:d.params.defaults=[]) (hr:Room k callerA)
  (hY:∀(w:World) (h:Heap),YP w h→(K w.params).In h)
  (F:∀(w:World) (mg mb:Str→Option Value) (fa:Addr) (h:Heap) (mean:ExcName→Option Value),(K w.params).In h→h.Ns mainGlobals mg→mg d.name=some (.ref fa)→Top q (looseW q loose) mean mg mb h →
   ∃(fd:FuncData) (TB:List (Addr×Str)),(∀(s:Shared) (u:Value),BindsTo s fd ⟨[u],[]⟩ [(x,u)])∧(∀Pa qq,TB.lookup Pa=some qq→(∃c,h.TableAt c Pa #[])∧(K w.params).lookup Pa=none) ∧
    ∀base:Heap,(K w.params).In base→base.Ns mainGlobals mg→(∀b o,h.get? b=some o→o.cls≠.none→o.cls≠.type "list"→base.get? b=some o)→FnOk l.prog w (K w.params) mg base (CX w) k fa fd [x] (spT TB (sp w)))
  (hsp:∀(w:World) (H:Hp) (a:Addr) (ns:List Int),ns.length≤n→(∀m∈ns,Builtin.Int.intBits m≤2 ^ 20)→Scr (K w.params) H a (ns.map V.int)→sp w [.ref a] H (fun v _=>v=.bl true) fun _ _ _=>False)
  (hCX:∀(w:World) (H:Hp) (s:Shared) (e:Value) (s':Shared),CX w [] H s (fun _ _ _=>False) e s'→False) :
  WalkO q loose XP YP l.row.toRowW d [] (fun f vs=>PySem.call f vs):=by
 intro w s₀ s₁ mg mb G Y fa o pm cd doc dV kV ho hd hcd hD hmg hg args vals as hpre hlay hrd hwl hlo
 obtain rfl:dV=.none:=Dflts.none hD hdf
 obtain rfl:kV=.none:=Dflts.noKw hD
 obtain⟨a,vs,ns,rfl,rfl,hobj,hints,hlen⟩:=Att.script_of hn hpre hwl
 have KX:=hY w _ Y
 obtain⟨fd,TB,hb,hT,hF⟩:=F w mg mb fa _ _ KX G.T.g hmg G.T
 refine enter_call (codeAny_mono (a9a (TB:=TB) KX G.T.g G.T.b G.T.builtins G.T.nolimit hg hobj hints (Nat.le_trans hlen hn2) hr hT (fun base k1 k2 k3=>hF base k1 k2 fun b o e c1 c2=>k3 b o e (by
  cases z:TB.lookup b with
  | none=>rfl
  | some q' =>
   obtain⟨⟨c,_,e2⟩,_⟩:=hT b q' z
   rw[e]at e2;cases e2;exact absurd rfl c1) (fun z=>by rw[z,hobj]at e;cases e;exact absurd rfl c2)) hb (fun H hO hS=>⟨hO,hsp w H a ns hlen (a6B hlay) hS⟩) fun H e s'=>hCX w H s₁ e s') fun r s' hq=>?_)
 obtain⟨rfl,h2,h3,h4⟩:=hq
 exact⟨.inl ⟨.bool true,.bool true,[],rfl,fun _=>rfl,.bool true,Att.post_true l _,fun _=>⟨List.Pairwise.nil,fun _ hm=>(nomatch hm)⟩⟩,h2,h3,h4⟩
theorem b3Z{q:Program}{loose:List Str}{mean:ExcName→Option Value}{mg mb:Str→Option Value}{h:Heap}{K:Frag}{x:Str}{f c:Addr}{oc oc':Value}{od od':Option Addr}{fd:FuncData}{osl osl':Array (Option Value)}{vs:Array Value}{P:Addr}(T:Top q loose mean mg mb h)(KX:K.In h)(hrec:(recsOf q).any (fun d=>d.name == x)=true)(hm:mg x=some (.ref f))(lk:K.lookup f=some ⟨oc,od,.func fd,osl⟩)(hc:fd.code=.ref c)(lc:K.lookup c=some ⟨oc',od',.fields vs,osl'⟩)(hP:vs.getD 11 .none=.ref P) :
  h.TableAt c P #[]∧∀base:Heap,(∀b o,h.get? b=some o→o.cls≠.none→o.cls≠.type "list"→base.get? b=some o)→CodeHd base c P∧base.BuiltinsAt mg P:=by
 obtain⟨d,hd,e⟩:=List.any_eq_true.mp hrec
 have e:d.name=x:=by simpa using e
 subst e
 obtain⟨a,o,fd',c',P',h1,h2,h3,h4,h5,h6⟩:=T.tab d hd
 rw[hm]at h1;cases h1
 rw[KX _ _ lk]at h2;cases h2
 have h3:Data.func fd=Data.func fd':=h3
 cases h3
 rw[hc]at h4;cases h4
 have C:=CodeHd.of h5 h6
 obtain⟨o,vs',file,tf,flags,tg,inF,text,tt,c1,c2,c3,c4,c5,cr⟩:=C
 have hPP:P'=P:=by
  rw[KX _ _ lc]at c1;cases c1
  have c3:Data.fields vs=Data.fields vs':=c3
  cases c3
  rw[hP]at c5;cases c5;rfl
 subst hPP
 refine⟨h6,fun base kp=>⟨⟨o,vs',file,tf,flags,tg,inF,text,tt,kp _ _ c1 (by rw[c2];decide) (by rw[c2];decide),c2,c3,c4,c5,cr⟩,?_⟩⟩
 obtain⟨bm,ob,b1,b2,b3,b4,b5,b6⟩:=T.bmain
 refine⟨bm,ob,b1,b2,fun z=>?_,fun z=>?_,kp _ _ b3 (by rw[b4];decide) (by rw[b4];decide),b4,b5,b6⟩
 ·obtain⟨o',es,ep,e,hd,_⟩:=T.g
  rw[z,e]at b3;cases b3;rw[hd]at b6;cases b6
 ·rw[z,h6.2]at b3;cases b3;cases b4
end L2
namespace HT
open PySem PyProof.Rows
end HT
namespace L2
open PySem PySem.Spec PyProof.Rows
open PySem.W
def Rise(a:Array Nat):Prop:=a.toList.Pairwise (· < ·)
theorem Rise.lt{a:Array Nat}(h:Rise a){i j:Nat}(hij:i<j)(hj:j<a.size):a.getD i 0<a.getD j 0:=by
 have hi:i<a.size:=Nat.lt_trans hij hj
 have:=List.pairwise_iff_getElem.mp h i j (by simpa using hi) (by simpa using hj) hij
 simpa [Array.getD,hi,hj]using this
structure TbR(led:Bool)(t:SetTable):Prop where
 rise:Rise t.place
 dum:t.dummies = #[]
 led:t.led=led
def b30(e:Int×Value):Int:=match e.2 with
 | .int k _=>k
 | _=>0
def IsI(e:Int×Value):Prop:=∃k t,e=(hashInt k,Value.int k t)
structure SetR(w:World)(h:Heap)(a:Addr)(L:List Int):Prop where
 ex:∃o es ep t,h.get? a=some o∧o.ExactSet∧o.data=.set es ep t∧(∀e∈es.toList,IsI e)∧(es.toList.map b30).Nodup∧(∀k,k∈es.toList.map b30↔k∈L)∧es.size<scanBound∧t.fits es.size=true∧TbR (!w.params.followText "set-order") t
theorem nodup_le:∀(es L:List Int),es.Nodup→(∀x∈es,x∈L)→es.length≤L.length
 | [],L,_,_=>Nat.zero_le _
 | x::es,L,h,m=>by
  rw[List.nodup_cons]at h
  have hx:=m x List.mem_cons_self
  have:=nodup_le es (L.erase x) h.2 fun y hy=>(List.mem_erase_of_ne (show y≠x from fun z=>h.1 (by rw[← z];exact hy))).mpr (m y (List.mem_cons_of_mem _ hy))
  rw[List.length_erase_of_mem hx]at this
  have:0<L.length:=List.length_pos_of_mem hx
  rw[List.length_cons]
  omega
section
variable {prog:Program}{w:World}{A:Around}{E:Value→Shared→Prop}{s:Shared}
theorem SetR.frame{h h':Heap}{a:Addr}{L:List Int}(S:SetR w h a L)(e:∀o,h.get? a=some o→h'.get? a=some o):SetR w h' a L:=by
 obtain⟨o,es,ep,t,ho,r⟩:=S.ex
 exact⟨o,es,ep,t,e o ho,r⟩
end
end L2
namespace HT
open PySem PyProof.Rows
inductive IB:List Value→List Value→List Int→List Int→Prop
 | nil:IB [] [] [] []
 | int (a:Int) (t:Tok) (c:Int) (u:Tok) {vs ws:List Value} {ns ms:List Int} (h:IB vs ws ns ms):IB (.int a t::vs) (.int c u::ws) (a::ns) (c::ms)
 | bl (p q:Bool) {vs ws:List Value} {ns ms:List Int} (h:IB vs ws ns ms):IB (.bool p::vs) (.bool q::ws) (b2i p::ns) (b2i q::ms)
theorem IB.len{vs ws:List Value}{ns ms:List Int}(h:IB vs ws ns ms):vs.length=ws.length:=by
 induction h with
 | nil=>rfl
 | int _ _ _ _ _ ih=>simp[ih]
 | bl _ _ _ ih=>simp[ih]
end HT
namespace L2
open PySem PySem.Spec PyProof.Rows
open PySem.W
section
variable {n:Nat}{lt:Nat→Nat→Bool}
def Prx(n:Nat)(p:Array Nat)(m:Nat):Prop:=(∀i,i<m→ga p i<m)∧∀i,m≤i→i<n→ga p i=i
theorem Prx.up{p:Array Nat}{m k:Nat}(h:Prx n p m)(hk:m≤k)(hn:k≤n):Prx n p k:=by
 refine⟨fun i hi=>?_,fun i h1 h2=>h.2 i '!' h2⟩
 by_cases z:i<m
 ·have:=h.1 i z;omega
 ·rw[h.2 i '!' '!'];exact hi
structure DR(n:Nat)(lt:Nat→Nat→Bool)(p:Array Nat)(k:Nat):Prop where
 pre:Prx n p k
 d1:∀i j,i<j→j<k→lt (ga p i) (ga p j)=false
 d2:∀i j,i<j→j<k→lt (ga p j) (ga p i)=false→ga p j<ga p i
structure DG(n:Nat)(lt:Nat→Nat→Bool)(p:Array Nat)(k q:Nat):Prop where
 pre:Prx n p (k-(q+1))
 d1:∀i j,i<j→j<k→lt (ga p i) (ga p j)=false
 d2:∀i j,i<j→j<k-(q+1)→lt (ga p j) (ga p i)=false→ga p j<ga p i
 d3:∀i,i<k-(q+1)→lt (ga p (k-1)) (ga p i)=true
 d4:∀i,k-(q+1)≤i→i<k→lt (ga p (k-1)) (ga p i)=false
theorem DR.snoc{p:Array Nat}{k:Nat}(T:TPre lt)(d:DR n lt p k)(h:∀i,i<k→lt (ga p k) (ga p i)=true)(hk:k<n):DG n lt p (k+1) 0:=by
 have e:k+1-(0+1)=k:=by omega
 refine⟨by rw[e];exact d.pre,fun i j hij hj=>?_,fun i j hij hj=>by rw[e]at hj;exact d.d2 i j hij hj,fun i hi=>by rw[e]at hi;rw[Nat.add_sub_cancel];exact h i hi,fun i h1 h2=>?_⟩
 ·by_cases z:j<k
  ·exact d.d1 i j hij z
  ·have e:j=k:=by omega
   subst e
   exact T.asy _ _ (h i hij)
 ·have e:i=k:=by omega
  subst e
  rw[Nat.add_sub_cancel];exact T.irr _
theorem DG.alike{p:Array Nat}{k q:Nat}(T:TPre lt)(d:DG n lt p k q)(hq:q+1≤k){i j:Nat}(h1:k-(q+1)≤i)(h2:i<k)(h3:k-(q+1)≤j)(h4:j<k):lt (ga p i) (ga p j)=false:=by
 have a:lt (ga p i) (ga p (k-1))=false:=by
  by_cases z:i=k-1
  ·rw[z];exact T.irr _
  ·exact d.d1 i (k-1) '!' '!'
 exact T.tr _ _ _ (d.d4 j h3 h4) a
theorem DG.rev{p:Array Nat}{k q:Nat}(T:TPre lt)(hp:Pmn n p)(d:DG n lt p k q)(hq:q+1≤k)(hk:k≤n):DR n lt (kas_rev p (k-(q+1)) k) k:=by
 have hps:=hp.size
 have gr:=b3Y (p:=p) (i:=k-(q+1)) (j:=k) '!'
 have pi:∀i,k-(q+1)≤i→i<n→ga p i=i:=d.pre.2
 refine⟨⟨fun i hi=>?_,fun i h1 h2=>?_⟩,fun i j hij hj=>?_,fun i j hij hj=>?_⟩
 ·rw[gr]
  split
  ·rw[pi _ '!' '!'];omega
  ·have:=d.pre.1 i '!';omega
 ·rw[gr,if_neg '!'];exact pi i '!' h2
 ·rw[gr,gr]
  by_cases zj:k-(q+1)≤j
  ·rw[if_pos (show k-(q+1)≤j∧j<k by omega)]
   by_cases zi:k-(q+1)≤i
   ·rw[if_pos '!']
    exact d.alike T hq '!' '!' '!' '!'
   ·rw[if_neg '!']
    exact d.d1 _ _ '!' '!'
  ·rw[if_neg (show ¬(k-(q+1)≤j∧j<k) by omega),if_neg '!']
   exact d.d1 _ _ hij hj
 ·rw[gr,gr]
  by_cases zj:k-(q+1)≤j
  ·rw[if_pos (show k-(q+1)≤j∧j<k by omega)]
   by_cases zi:k-(q+1)≤i
   ·rw[if_pos '!']
    intro _
    rw[pi _ '!' '!',pi _ '!' '!']
    omega
   ·rw[if_neg '!']
    intro z
    have a:=d.alike T hq (i:=k-1) (j:=k-(q+1)+k-1-j) '!' '!' '!' '!'
    have b:=T.tr _ _ _ z a
    rw[d.d3 i '!']at b
    cases b
  ·rw[if_neg (show ¬(k-(q+1)≤j∧j<k) by omega),if_neg '!']
   exact d.d2 _ _ hij '!'
theorem DG.one{p:Array Nat}{k:Nat}(T:TPre lt)(d:DG n lt p k 0)(hk1:1≤k)(hk:k≤n):DR n lt p k:=by
 refine⟨d.pre.up '!' hk,d.d1,fun i j hij hj z=>?_⟩
 by_cases e:j=k-1
 ·subst e
  rw[d.d3 i '!']at z
  cases z
 ·exact d.d2 i j hij '!' z
end
theorem SqL.ext{K:W.Frag}{H1 H2:Hp}{a:Addr}{xs:List V}(h:SqL K H1 a xs)(ex:∀a o,H1 a=some o→H2 a=some o):SqL K H2 a xs:=by
 rcases h with(h | ⟨o,h⟩) | h
 ·exact .inl (.inl (ex _ _ h))
 ·exact .inl (.inr ⟨o,ex _ _ h⟩)
 ·exact .inr h
def K9:Bool→Keyed→Array Keyed→Nat→Nat→Nat→StateT SortSt Sem (Option Nat):=sortPriv% PySem.Builtin.gallop
abbrev a0t(left:Bool)(key:Keyed)(arr:Array Keyed)(base i:Nat):StateT SortSt Sem (Option Bool):=do
 let x ← elem' arr (base+i)
 if left then lt' x key else return (← lt' key x).map (!·)
theorem a77(left:Bool)(key:Keyed)(arr:Array Keyed)(base n hint:Nat):K9 left key arr base n hint=(do
 let mut lastofs:=0
 let mut ofs:=1
 let mut lo:=0
 let mut hi:=0
 let some right ← a0t left key arr base hint | return none
 if right then
  let maxofs:=n-hint
  for _ in [0:n]do
   if ofs≥maxofs then break
   let some more ← a0t left key arr base (hint+ofs) | return none
   if !more then break
   lastofs:=ofs
   ofs:=2*ofs+1
  lo:=hint+lastofs+1
  hi:=hint+min ofs maxofs
 else
  let maxofs:=hint+1
  for _ in [0:n]do
   if ofs≥maxofs then break
   let some found ← a0t left key arr base (hint-ofs) | return none
   if found then break
   lastofs:=ofs
   ofs:=2*ofs+1
  lo:=hint+1-min ofs maxofs
  hi:=hint-lastofs
 for _ in [0:n]do
  if lo≥hi then break
  let m:=lo+(hi-lo)/2
  let some more ← a0t left key arr base m | return none
  if more then lo:=m+1 else hi:=m
 return some hi):=rfl
structure TPK(lt:Keyed→Keyed→Bool)(Dm:Keyed→Prop):Prop where
 irr:∀x,Dm x→lt x x=false
 tr:∀x y z,Dm x→Dm y→Dm z→lt y x=false→lt z y=false→lt z x=false
 asy:∀x y,Dm x→Dm y→lt x y=true→lt y x=false
section
variable {prog:Program}{w:World}{A:Around}{E:Value→Shared→Prop}{s:Shared}{κ:SortKind}{lt:Keyed→Keyed→Bool}{Dm:Keyed→Prop}
def J0(prog:Program)(w:World)(A:Around)(s:Shared)(κ:SortKind)(lt:Keyed→Keyed→Bool)(Dm:Keyed→Prop):Prop:=∀x y,Dm x→Dm y→∀Q:Bool→Shared→Prop,Q (lt x y) s→wpAny (model prog w) A (keyLt' κ x.1 y.1) Q (fun _ _=>False) s
theorem a2f{x y:Keyed}{st:SortSt}{Q:Option Bool→SortSt→Prop}(C:J0 prog w A s κ lt Dm)(hk:kindOf st=κ)(hx:Dm x)(hy:Dm y)(h:Q (some (lt x y)) st):wpS (model prog w) A E s (lt' x y) Q st:=by
 rw[lt'_eq]
 refine wpS_bind (wpS_get ?_)
 rw[hk]
 refine wpS_bind (wpS_lift (wpAny_attempt (wpAny_mono (C x y hx hy (fun b s'=>s'=s∧b=lt x y) ⟨rfl,rfl⟩) (fun b s' hb=>?_) fun _ _ z=>z.elim)))
 obtain⟨rfl,rfl⟩:=hb
 exact⟨rfl,wpS_pure h⟩
theorem B6{arr:Array Keyed}{i:Nat}{x:Keyed}{st:SortSt}{Q:Keyed→SortSt→Prop}(hx:arr[i]? = some x)(h:Q x st):wpS (model prog w) A E s (elem' arr i) Q st:=by
 rw[elem'_eq,hx]
 exact wpS_pure h
def bey(lt:Keyed→Keyed→Bool)(left:Bool)(key x:Keyed):Bool:=if left=true then lt x key else !lt key x
theorem b2g{left:Bool}{key x:Keyed}{arr:Array Keyed}{base i:Nat}{st:SortSt}{Q:Option Bool→SortSt→Prop}(C:J0 prog w A s κ lt Dm)(hk:kindOf st=κ)(hkey:Dm key)(hx:arr[base+i]? = some x)(dx:Dm x)(h:Q (some (bey lt left key x)) st):wpS (model prog w) A E s (a0t left key arr base i) Q st:=by
 refine wpS_bind (B6 hx ?_)
 cases left with
 | true=>exact a2f C hk dx hkey h
 | false=>exact wpS_bind (a2f C hk hkey dx (wpS_pure h))
theorem a0e{β:Type}{n:Nat}{f:Nat→β→StateT SortSt Sem (ForInStep β)}(I:Nat→β→SortSt→Prop)(Q':β→SortSt→Prop){Q:β→SortSt→Prop}{c:β}{st:SortSt}
  (hstep:∀i c st,i<n→I i c st→wpS (model prog w) A E s (f i c) (fun r st'=>match r with | .done c'=>Q' c' st' | .yield c'=>I (i+1) c' st') st)
  (hend:∀c st,I n c st→Q' c st) (h:I 0 c st) (hq:∀c st',Q' c st'→Q c st'):wpS (model prog w) A E s (forIn [:n] c f) Q st :=
 wpS_mono (wpS_forRange I (Q:=Q') (fun i c st _ hi hI=>hstep i c st hi hI) (fun c st hI=>hend c st (by rw[show max 0 n=n by omega]at hI;exact hI)) h) hq
theorem a7c{n lo hi:Nat}{st:SortSt}{B:Nat→StateT SortSt Sem (Option Bool)}{Q:Option (Option Nat)×Nat×Nat→SortSt→Prop}(b:Nat→Bool)(ask:∀i (Q':Option Bool→SortSt→Prop),i<n→Q' (some (b i)) st→wpS (model prog w) A E s (B i) Q' st)
  (mono:∀i j,i≤j→j<n→b j=true→b i=true) (h1:lo≤hi) (h2:hi≤n) (h3:∀i,i<lo→b i=true) (h4:∀i,hi≤i→i<n→b i=false) (h:∀k,k≤n→(∀i,i<k→b i=true)→(∀i,k≤i→i<n→b i=false)→∀l,Q (none,l,k) st) :
  wpS (model prog w) A E s (forIn [:n] ((none,lo,hi):Option (Option Nat)×Nat×Nat) fun x __s =>
        if __s.snd.fst≥__s.snd.snd then pure (ForInStep.done (none,__s.snd.fst,__s.snd.snd))
        else do
         let __x ← B (__s.snd.fst+(__s.snd.snd-__s.snd.fst)/2)
         match __x with
          | some more =>
           if more=true then
            pure (ForInStep.yield (none,__s.snd.fst+(__s.snd.snd-__s.snd.fst)/2+1,__s.snd.snd))
           else pure (ForInStep.yield (none,__s.snd.fst,__s.snd.fst+(__s.snd.snd-__s.snd.fst)/2))
          | x=>pure (ForInStep.done (some none,__s.snd.fst,__s.snd.snd))) Q st:=by
 refine wpS_forRange (fun i c st'=>c.1=none∧st'=st∧c.2.1≤c.2.2∧c.2.2≤n∧(∀i,i<c.2.1→b i=true)∧(∀i,c.2.2≤i→i<n→b i=false)∧c.2.2-c.2.1≤n-i) ?_ ?_ ⟨rfl,rfl,h1,h2,h3,h4,by simp;omega⟩
 ·rintro i ⟨c0,lo,hi⟩ st' _ hi2 ⟨e0,rfl,a1,a2,a3,a4,a5⟩
  dsimp only at *
  by_cases z:lo≥hi
  ·rw[if_pos z]
   refine wpS_pure ?_
   have:lo=hi:=by omega
   subst this
   exact h lo a2 a3 a4 lo
  ·rw[if_neg z]
   refine wpS_bind (ask _ _ '!' ?_)
   dsimp only
   cases c:b (lo+(hi-lo)/2)with
   | true =>
    rw[if_pos rfl]
    exact wpS_pure ⟨rfl,rfl,by show lo+(hi-lo)/2+1≤hi;omega,a2,fun j hj=>mono j _ (by have:j<lo+(hi-lo)/2+1:=hj;omega) '!' c,a4,by show hi-(lo+(hi-lo)/2+1)≤n-(i+1);omega⟩
   | false =>
    rw[if_neg (by simp)]
    refine wpS_pure ⟨rfl,rfl,by show lo≤lo+(hi-lo)/2;omega,by show lo+(hi-lo)/2≤n;omega,a3,fun j hj hn=>?_,by show lo+(hi-lo)/2-lo≤n-(i+1);omega⟩
    have hj:lo+(hi-lo)/2≤j:=hj
    cases d:b j with
    | false=>rfl
    | true=>rw[mono _ j hj hn d]at c;cases c
 ·rintro⟨c0,lo,hi⟩ st' ⟨e0,rfl,a1,a2,a3,a4,a5⟩
  dsimp only at *
  subst e0
  have:lo=hi:=by
   have:max 0 n=n:=by omega
   omega
  subst this
  exact h lo a2 a3 a4 lo
theorem S5{left:Bool}{key:Keyed}{arr:Array Keyed}{base n hint:Nat}{st:SortSt}{Q:Option Nat→SortSt→Prop}(C:J0 prog w A s κ lt Dm)(hk:kindOf st=κ)(hkey:Dm key)(hh:hint<n)(b:Nat→Bool)(hb:∀i,i<n→∃x,arr[base+i]? = some x∧Dm x∧bey lt left key x=b i)(mono:∀i j,i≤j→j<n→b j=true→b i=true)
  (h:∀k,k≤n→(∀i,i<k→b i=true)→(∀i,k≤i→i<n→b i=false)→Q (some k) st):wpS (model prog w) A E s (K9 left key arr base n hint) Q st:=by
 have ask:∀i (Q':Option Bool→SortSt→Prop),i<n→Q' (some (b i)) st→wpS (model prog w) A E s (a0t left key arr base i) Q' st:=fun i Q' hi hq=>by
  obtain⟨x,hx,dx,e⟩:=hb i hi
  exact b2g C hk hkey hx dx (by rw[e];exact hq)
 rw[a77]
 refine wpS_bind (ask hint _ hh ?_)
 dsimp only
 have neg:∀i j,i≤j→j<n→b i=false→b j=false:=fun i j h1 h2 h3=>by
  cases d:b j with
  | false=>rfl
  | true=>rw[mono i j h1 h2 d]at h3;cases h3
 cases c:b hint with
 | true =>
  rw[if_pos rfl]
  refine wpS_bind (a0e (fun(i:Nat) (c:Option (Option Nat)×Nat×Nat) st'=>c.1=none∧st'=st∧c.2.1<c.2.2∧i+1≤c.2.2∧hint+c.2.1<n∧b (hint+c.2.1)=true) (fun(c:Option (Option Nat)×Nat×Nat) st'=>c.1=none∧st'=st∧c.2.1<c.2.2∧hint+c.2.1<n∧b (hint+c.2.1)=true∧(hint+c.2.2<n→b (hint+c.2.2)=false)) ?_ ?_ ⟨rfl,rfl,by show 0<1;omega,by show 0+1≤1;omega,by show hint+0<n;omega,c⟩ ?_)
  ·rintro i ⟨c0,l,o⟩ st' hi2 ⟨e0,rfl,a1,a2,a3,a4⟩
   dsimp only at *
   by_cases z:o≥n-hint
   ·rw[if_pos z]
    exact wpS_pure ⟨rfl,rfl,a1,a3,a4,fun y=>absurd y (by show ¬hint+o<n;omega)⟩
   ·rw[if_neg z]
    refine wpS_bind (ask _ _ '!' ?_)
    dsimp only
    cases d:b (hint+o)with
    | true =>
     rw[if_neg (by simp)]
     exact wpS_pure ⟨rfl,rfl,by show o<2*o+1;omega,by show i+1+1≤2*o+1;omega,by show hint+o<n;omega,d⟩
    | false =>
     rw[if_pos (by simp)]
     exact wpS_pure ⟨rfl,rfl,a1,a3,a4,fun _=>d⟩
  ·rintro⟨c0,l,o⟩ st' ⟨e0,rfl,a1,a2,a3,a4⟩
   dsimp only at *
   refine⟨e0,rfl,a1,a3,a4,fun y=>absurd y ?_⟩
   omega
  ·rintro⟨c0,l,o⟩ st' ⟨e0,rfl,a1,a3,a4,a5⟩
   dsimp only at *
   subst e0
   dsimp only
   refine wpS_bind (a7c b ask mono '!' '!' (fun j hj=>mono j (hint+l) '!' a3 a4) (fun j hj hn=>neg (hint+o) j '!' hn (a5 '!')) fun k k1 k2 k3 l=>wpS_pure (h k k1 k2 k3))
 | false =>
  rw[if_neg (by simp)]
  refine wpS_bind (a0e (fun(i:Nat) (c:Option (Option Nat)×Nat×Nat) st'=>c.1=none∧st'=st∧c.2.1<c.2.2∧i+1≤c.2.2∧c.2.1≤hint∧b (hint-c.2.1)=false) (fun(c:Option (Option Nat)×Nat×Nat) st'=>c.1=none∧st'=st∧c.2.1<c.2.2∧c.2.1≤hint∧b (hint-c.2.1)=false∧(c.2.2≤hint→b (hint-c.2.2)=true)) ?_ ?_ ⟨rfl,rfl,by show 0<1;omega,by show 0+1≤1;omega,by show 0≤hint;omega,c⟩ ?_)
  ·rintro i ⟨c0,l,o⟩ st' hi2 ⟨e0,rfl,a1,a2,a3,a4⟩
   dsimp only at *
   by_cases z:o≥hint+1
   ·rw[if_pos z]
    exact wpS_pure ⟨rfl,rfl,a1,a3,a4,fun y=>absurd y (by show ¬o≤hint;omega)⟩
   ·rw[if_neg z]
    refine wpS_bind (ask _ _ '!' ?_)
    dsimp only
    cases d:b (hint-o)with
    | true =>
     rw[if_pos rfl]
     exact wpS_pure ⟨rfl,rfl,a1,a3,a4,fun _=>d⟩
    | false =>
     rw[if_neg (by simp)]
     exact wpS_pure ⟨rfl,rfl,by show o<2*o+1;omega,by show i+1+1≤2*o+1;omega,by show o≤hint;omega,d⟩
  ·rintro⟨c0,l,o⟩ st' ⟨e0,rfl,a1,a2,a3,a4⟩
   dsimp only at *
   refine⟨e0,rfl,a1,a3,a4,fun y=>absurd y ?_⟩
   omega
  ·rintro⟨c0,l,o⟩ st' ⟨e0,rfl,a1,a3,a4,a5⟩
   dsimp only at *
   subst e0
   dsimp only
   refine wpS_bind (a7c b ask mono '!' '!' (fun j hj=>?_) (fun j hj hn=>neg (hint-l) j hj hn a4) fun k k1 k2 k3 l=>wpS_pure (h k k1 k2 k3))
   by_cases y:o≤hint
   ·exact mono j (hint-o) '!' '!' (a5 y)
   ·omega
end
def L4:Nat→StateT SortSt Sem Unit:=sortPriv% PySem.Builtin.setMinGallop
theorem a3c(g:Nat):L4 g=modify fun s=>SortSt.mk' (kindOf s) (arrOf s) (pendingOf s) g (failedOf s):=rfl
def a3d:Array Keyed→Array Keyed→StateT SortSt Sem (Array Keyed):=sortPriv% PySem.Builtin.mergeLo
abbrev O7(a b out:Array Keyed)(ia ib:Nat):Array Keyed:=out++a.extract ia a.size++b.extract ib b.size
abbrev a1y(a b out:Array Keyed)(ia ib:Nat):Array Keyed:=out++b.extract ib b.size++a.extract ia a.size
theorem a6E(a b:Array Keyed):a3d a b=(do
 rule "list.sort.merge-lo"
 let total:=a.size+b.size
 let mut out:Array Keyed := #[← elem' b 0]
 let mut ia:=0
 let mut ib:=1
 if ib == b.size then return O7 a b out ia ib
 if ia+1 == a.size then return a1y a b out ia ib
 let mut minGallop:=gallopOf (← get)
 for _ in [0:total]do
  let mut acount:=0
  let mut bcount:=0
  for _ in [0:total]do
   let some bWins ← lt' (← elem' b ib) (← elem' a ia) | return O7 a b out ia ib
   if bWins then
    out:=out.push (← elem' b ib);ib:=ib+1;bcount:=bcount+1;acount:=0
    if ib == b.size then return O7 a b out ia ib
    if bcount≥minGallop then break
   else
    out:=out.push (← elem' a ia);ia:=ia+1;acount:=acount+1;bcount:=0
    if ia+1 == a.size then return a1y a b out ia ib
    if acount≥minGallop then break
  rule "list.sort.gallop"
  minGallop:=minGallop+1
  for _ in [0:total]do
   if minGallop > 1 then minGallop:=minGallop-1
   L4 minGallop
   let some k ← K9 false (← elem' b ib) a ia (a.size-ia) 0 | return O7 a b out ia ib
   acount:=k
   if k > 0 then
    out:=out++a.extract ia (ia+k);ia:=ia+k
    if ia+1 == a.size then return a1y a b out ia ib
    if ia == a.size then return O7 a b out ia ib
   out:=out.push (← elem' b ib);ib:=ib+1
   if ib == b.size then return O7 a b out ia ib
   let some k ← K9 true (← elem' a ia) b ib (b.size-ib) 0 | return O7 a b out ia ib
   bcount:=k
   if k > 0 then
    out:=out++b.extract ib (ib+k);ib:=ib+k
    if ib == b.size then return O7 a b out ia ib
   out:=out.push (← elem' a ia);ia:=ia+1
   if ia+1 == a.size then return a1y a b out ia ib
   if acount<7 && bcount<7 then break
  minGallop:=minGallop+1
  L4 minGallop
 unsupported "internal:list.sort.merge-bound"):=rfl
def Srt(lt:Keyed→Keyed→Bool)(l:List Keyed):Prop:=l.Pairwise fun x y=>lt y x=false
structure ML(lt:Keyed→Keyed→Bool)(aL bL o ra rb:List Keyed):Prop where
 ex:∃pa pb,aL=pa++ra∧bL=pb++rb∧o.Perm (pa++pb)
 so:Srt lt o
 oa:∀x∈o,∀y∈ra,lt y x=false
 ob:∀x∈o,∀y∈rb,lt y x=false
def B2(lt:Keyed→Keyed→Bool)(aL bL r:List Keyed):Prop:=r.Perm (aL++bL)∧Srt lt r
section
variable {lt:Keyed→Keyed→Bool}{aL bL o ra rb u:List Keyed}{x y:Keyed}
theorem Srt.app{l m:List Keyed}(h1:Srt lt l)(h2:Srt lt m)(h3:∀x∈l,∀y∈m,lt y x=false):Srt lt (l++m):=List.pairwise_append.mpr ⟨h1,h2,h3⟩
theorem Srt.drop{l:List Keyed}(h:Srt lt l)(n:Nat):Srt lt (l.drop n):=List.Pairwise.sublist (List.drop_sublist n l) h
theorem ML.addB(m:ML lt aL bL o ra (y::rb))(hs:Srt lt (y::rb))(h:∀x∈ra,lt x y=false):ML lt aL bL (o++[y]) ra rb:=by
 obtain⟨pa,pb,e1,e2,p⟩:=m.ex
 have hy:=List.pairwise_cons.mp hs
 refine⟨⟨pa,pb++[y],e1,by rw[e2];simp,?_⟩,m.so.app (List.pairwise_singleton _ _) (fun x hx z hz=>?_),fun x hx z hz=>?_,fun x hx z hz=>?_⟩
 ·rw[← List.append_assoc];exact p.append_right [y]
 ·rw[List.mem_singleton.mp hz];exact m.ob x hx y List.mem_cons_self
 ·rcases List.mem_append.mp hx with hx | hx
  ·exact m.oa x hx z hz
  ·rw[List.mem_singleton.mp hx];exact h z hz
 ·rcases List.mem_append.mp hx with hx | hx
  ·exact m.ob x hx z (List.mem_cons_of_mem _ hz)
  ·rw[List.mem_singleton.mp hx];exact hy.1 z hz
theorem ML.addA(m:ML lt aL bL o (x::ra) rb)(hs:Srt lt (x::ra))(h:∀y∈rb,lt y x=false):ML lt aL bL (o++[x]) ra rb:=by
 obtain⟨pa,pb,e1,e2,p⟩:=m.ex
 have hx':=List.pairwise_cons.mp hs
 refine⟨⟨pa++[x],pb,by rw[e1];simp,e2,?_⟩,m.so.app (List.pairwise_singleton _ _) (fun w hw z hz=>?_),fun w hw z hz=>?_,fun w hw z hz=>?_⟩
 ·refine(p.append_right [x]).trans ?_
  rw[List.append_assoc,List.append_assoc]
  exact List.Perm.append_left pa List.perm_append_comm
 ·rw[List.mem_singleton.mp hz];exact m.oa w hw x List.mem_cons_self
 ·rcases List.mem_append.mp hw with hw | hw
  ·exact m.oa w hw z (List.mem_cons_of_mem _ hz)
  ·rw[List.mem_singleton.mp hw];exact hx'.1 z hz
 ·rcases List.mem_append.mp hw with hw | hw
  ·exact m.ob w hw z hz
  ·rw[List.mem_singleton.mp hw];exact h z hz
theorem ML.addAs:∀{u o:List Keyed},ML lt aL bL o (u++ra) rb→Srt lt (u++ra)→(∀x∈u,∀y∈rb,lt y x=false)→ML lt aL bL (o++u) ra rb
 | [],o,m,_,_=>by rw[List.append_nil];exact m
 | x::u,o,m,hs,h=>by
  have:=ML.addAs (u:=u) (ML.addA m hs (h x List.mem_cons_self)) (List.pairwise_cons.mp hs).2 fun z hz=>h z (List.mem_cons_of_mem _ hz)
  rw[List.append_assoc]at this
  exact this
theorem ML.addBs:∀{u o:List Keyed},ML lt aL bL o ra (u++rb)→Srt lt (u++rb)→(∀y∈u,∀x∈ra,lt x y=false)→ML lt aL bL (o++u) ra rb
 | [],o,m,_,_=>by rw[List.append_nil];exact m
 | x::u,o,m,hs,h=>by
  have:=ML.addBs (u:=u) (ML.addB m hs (h x List.mem_cons_self)) (List.pairwise_cons.mp hs).2 fun z hz=>h z (List.mem_cons_of_mem _ hz)
  rw[List.append_assoc]at this
  exact this
theorem ML.finA(m:ML lt aL bL o ra [])(hs:Srt lt ra):B2 lt aL bL (o++ra):=by
 obtain⟨pa,pb,e1,e2,p⟩:=m.ex
 refine⟨?_,m.so.app hs m.oa⟩
 rw[e1,e2,List.append_nil]
 refine(p.append_right ra).trans ?_
 rw[List.append_assoc,List.append_assoc]
 exact List.Perm.append_left pa List.perm_append_comm
theorem ML.finB(m:ML lt aL bL o [] rb)(hs:Srt lt rb):B2 lt aL bL (o++rb):=by
 obtain⟨pa,pb,e1,e2,p⟩:=m.ex
 refine⟨?_,m.so.app hs m.ob⟩
 rw[e1,e2,List.append_nil,← List.append_assoc]
 exact p.append_right rb
theorem ML.finL(m:ML lt aL bL o [x] rb)(hs:Srt lt rb)(h:∀y∈rb,lt x y=false):B2 lt aL bL (o++rb++[x]):=by
 obtain⟨pa,pb,e1,e2,p⟩:=m.ex
 refine⟨?_,(m.so.app hs m.ob).app (List.pairwise_singleton _ _) fun w hw z hz=>?_⟩
 ·rw[e1,e2]
  refine((p.append_right rb).append_right [x]).trans ?_
  simp only[List.append_assoc]
  refine List.Perm.append_left pa ?_
  rw[← List.append_assoc]
  exact List.perm_append_comm
 ·rw[List.mem_singleton.mp hz]
  rcases List.mem_append.mp hw with hw | hw
  ·exact m.oa w hw x List.mem_cons_self
  ·exact h w hw
end
theorem X7(a:Array Keyed)(i:Nat):(a.extract i a.size).toList=a.toList.drop i:=by
 rw[Array.toList_extract,List.extract_eq_take_drop,List.take_of_length_le (by rw[List.length_drop,Array.length_toList];exact Nat.le_refl _)]
theorem a7d(a:Array Keyed)(i k:Nat):(a.extract i (i+k)).toList=(a.toList.drop i).take k:=by
 rw[Array.toList_extract,List.extract_eq_take_drop]
 congr 1
 omega
def SameG(st st':SortSt):Prop:=kindOf st'=kindOf st∧arrOf st'=arrOf st∧pendingOf st'=pendingOf st∧failedOf st'=failedOf st
theorem SameG.refl(st:SortSt):SameG st st:=⟨rfl,rfl,rfl,rfl⟩
theorem SameG.trans{a b c:SortSt}(h:SameG a b)(g:SameG b c):SameG a c:=⟨g.1.trans h.1,g.2.1.trans h.2.1,g.2.2.1.trans h.2.2.1,g.2.2.2.trans h.2.2.2⟩
structure MI(lt:Keyed→Keyed→Bool)(a b out:Array Keyed)(ia ib:Nat):Prop where
 la:ia+1<a.size
 lb:ib<b.size
 ml:ML lt a.toList b.toList out.toList (a.toList.drop ia) (b.toList.drop ib)
structure MP(lt:Keyed→Keyed→Bool)(Dm:Keyed→Prop)(a b:Array Keyed):Prop where
 T:TPK lt Dm
 da:∀x∈a.toList,Dm x
 db:∀x∈b.toList,Dm x
 sa:Srt lt a.toList
 sb:Srt lt b.toList
 la:∀y∈b.toList,∀x,a.toList[a.size-1]? = some x→lt x y=false
section
variable {lt:Keyed→Keyed→Bool}{Dm:Keyed→Prop}{a b out:Array Keyed}{ia ib:Nat}{x y:Keyed}
theorem a1i{l:List Keyed}{i:Nat}(h:l[i]? = some x):l.drop i=x::l.drop (i+1):=by
 obtain⟨hi,e⟩:=List.getElem?_eq_some_iff.mp h
 rw[List.drop_eq_getElem_cons hi,e]
theorem E6{a:Array Keyed}{i:Nat}(h:i<a.size):∃x,a[i]? = some x∧a.toList[i]? = some x∧x∈a.toList:=by
 refine⟨a[i],by simp[h],?_,Array.getElem_mem_toList h⟩
 rw[List.getElem?_eq_getElem (by simpa using h)]
 simp
theorem K0{l:List Keyed}{i:Nat}{z:Keyed}(h:z∈l.drop i):∃j,i≤j∧l[j]? = some z:=by
 obtain⟨j,hj⟩:=List.mem_iff_getElem?.mp h
 rw[List.getElem?_drop]at hj
 exact⟨i+j,by omega,hj⟩
theorem D9{l:List Keyed}(T:TPK lt Dm)(hD:∀x∈l,Dm x)(hs:Srt lt l){i j:Nat}(hij:i≤j)(hx:l[i]? = some x)(hy:l[j]? = some y):lt y x=false:=by
 obtain⟨hi,e1⟩:=List.getElem?_eq_some_iff.mp hx
 obtain⟨hj,e2⟩:=List.getElem?_eq_some_iff.mp hy
 by_cases z:i=j
 ·subst z
  rw[hx]at hy;cases hy
  exact T.irr _ (hD _ (List.mem_of_getElem? hx))
 ·rw[← e1,← e2]
  exact List.pairwise_iff_getElem.mp hs i j hi hj '!'
theorem MI.good_last{ia ib:Nat}(P:MP lt Dm a b)(m:ML lt a.toList b.toList out.toList (a.toList.drop ia) (b.toList.drop ib))(h:ia+1=a.size):B2 lt a.toList b.toList (a1y a b out ia ib).toList:=by
 obtain⟨x,_,hx,_⟩:=E6 (a:=a) (i:=ia) '!'
 have e1:a.toList.drop ia=[x]:=by
  rw[a1i hx,List.drop_eq_nil_of_le (by rw[Array.length_toList];omega)]
 show B2 _ _ _ (out++b.extract ib b.size++a.extract ia a.size).toList
 rw[Array.toList_append,Array.toList_append,X7,X7,e1]
 rw[e1]at m
 refine m.finL (P.sb.drop ib) fun y hy=>P.la y (List.mem_of_mem_drop hy) x ?_
 rw[show a.size-1=ia by omega]
 exact hx
theorem MI.good_doneB{ia ib:Nat}(P:MP lt Dm a b)(m:ML lt a.toList b.toList out.toList (a.toList.drop ia) (b.toList.drop ib))(h:ib=b.size):B2 lt a.toList b.toList (O7 a b out ia ib).toList:=by
 have e1:b.toList.drop ib=[]:=List.drop_eq_nil_of_le (by rw[Array.length_toList];omega)
 show B2 _ _ _ (out++a.extract ia a.size++b.extract ib b.size).toList
 rw[Array.toList_append,Array.toList_append,X7,X7,e1,List.append_nil]
 rw[e1]at m
 exact m.finA (P.sa.drop ia)
theorem MI.good_doneA{ia ib:Nat}(P:MP lt Dm a b)(m:ML lt a.toList b.toList out.toList (a.toList.drop ia) (b.toList.drop ib))(h:ia=a.size):B2 lt a.toList b.toList (O7 a b out ia ib).toList:=by
 have e1:a.toList.drop ia=[]:=List.drop_eq_nil_of_le (by rw[Array.length_toList];omega)
 show B2 _ _ _ (out++a.extract ia a.size++b.extract ib b.size).toList
 rw[Array.toList_append,Array.toList_append,X7,X7,e1,List.append_nil]
 rw[e1]at m
 exact m.finB (P.sb.drop ib)
theorem b0u(P:MP lt Dm a b)(m:ML lt a.toList b.toList out.toList (a.toList.drop ia) (b.toList.drop ib))(hy:b.toList[ib]? = some y)(h:∀x,a.toList[ia]? = some x→lt x y=false):ML lt a.toList b.toList (out.push y).toList (a.toList.drop ia) (b.toList.drop (ib+1)):=by
 rw[a1i hy]at m
 rw[Array.toList_push]
 refine m.addB (by rw[← a1i hy];exact P.sb.drop ib) fun z hz=>?_
 obtain⟨j,hj,e⟩:=K0 hz
 obtain⟨hjl,_⟩:=List.getElem?_eq_some_iff.mp e
 have ei:a.toList[ia]? = some a.toList[ia]:=List.getElem?_eq_getElem '!'
 exact P.T.tr _ _ _ (P.db y (List.mem_of_getElem? hy)) (P.da _ (List.mem_of_getElem? ei)) (P.da z (List.mem_of_getElem? e)) (h _ ei) (D9 P.T P.da P.sa hj ei e)
theorem b31(P:MP lt Dm a b)(m:ML lt a.toList b.toList out.toList (a.toList.drop ia) (b.toList.drop ib))(hx:a.toList[ia]? = some x)(h:∀y,b.toList[ib]? = some y→lt y x=false):ML lt a.toList b.toList (out.push x).toList (a.toList.drop (ia+1)) (b.toList.drop ib):=by
 rw[a1i hx]at m
 rw[Array.toList_push]
 refine m.addA (by rw[← a1i hx];exact P.sa.drop ia) fun z hz=>?_
 obtain⟨j,hj,e⟩:=K0 hz
 obtain⟨hjl,_⟩:=List.getElem?_eq_some_iff.mp e
 have ei:b.toList[ib]? = some b.toList[ib]:=List.getElem?_eq_getElem '!'
 exact P.T.tr _ _ _ (P.da x (List.mem_of_getElem? hx)) (P.db _ (List.mem_of_getElem? ei)) (P.db z (List.mem_of_getElem? e)) (h _ ei) (D9 P.T P.db P.sb hj ei e)
theorem a1z{l:List Keyed}{i k:Nat}{z:Keyed}(h:z∈(l.drop i).take k):∃j,j<k∧l[i+j]? = some z:=by
 obtain⟨j,hj⟩:=List.mem_iff_getElem?.mp h
 by_cases hk:j<k
 ·rw[List.getElem?_take_of_lt hk,List.getElem?_drop]at hj
  exact⟨j,hk,hj⟩
 ·rw[List.getElem?_eq_none (by rw[List.length_take];omega)]at hj
  cases hj
theorem b5a(P:MP lt Dm a b)(m:ML lt a.toList b.toList out.toList (a.toList.drop ia) (b.toList.drop ib))(hy:b.toList[ib]? = some y)(k:Nat)(h:∀j x,j<k→a.toList[ia+j]? = some x→lt y x=false):ML lt a.toList b.toList (out++a.extract ia (ia+k)).toList (a.toList.drop (ia+k)) (b.toList.drop ib):=by
 have e0:a.toList.drop ia=(a.toList.drop ia).take k++a.toList.drop (ia+k):=by
  rw[show a.toList.drop (ia+k)=(a.toList.drop ia).drop k by rw[List.drop_drop],List.take_append_drop]
 rw[Array.toList_append,a7d]
 refine ML.addAs (by rw[← e0];exact m) (by rw[← e0];exact P.sa.drop ia) fun z hz v hv=>?_
 obtain⟨j,hj,e⟩:=a1z hz
 obtain⟨i,hi,e2⟩:=K0 hv
 exact P.T.tr _ _ _ (P.da z (List.mem_of_getElem? e)) (P.db y (List.mem_of_getElem? hy)) (P.db v (List.mem_of_getElem? e2)) (h j z hj e) (D9 P.T P.db P.sb hi hy e2)
theorem b5b(P:MP lt Dm a b)(m:ML lt a.toList b.toList out.toList (a.toList.drop ia) (b.toList.drop ib))(hx:a.toList[ia]? = some x)(k:Nat)(h:∀j y,j<k→b.toList[ib+j]? = some y→lt x y=false):ML lt a.toList b.toList (out++b.extract ib (ib+k)).toList (a.toList.drop ia) (b.toList.drop (ib+k)):=by
 have e0:b.toList.drop ib=(b.toList.drop ib).take k++b.toList.drop (ib+k):=by
  rw[show b.toList.drop (ib+k)=(b.toList.drop ib).drop k by rw[List.drop_drop],List.take_append_drop]
 rw[Array.toList_append,a7d]
 refine ML.addBs (by rw[← e0];exact m) (by rw[← e0];exact P.sb.drop ib) fun z hz v hv=>?_
 obtain⟨j,hj,e⟩:=a1z hz
 obtain⟨i,hi,e2⟩:=K0 hv
 exact P.T.tr _ _ _ (P.db z (List.mem_of_getElem? e)) (P.da x (List.mem_of_getElem? hx)) (P.da v (List.mem_of_getElem? e2)) (h j z hj e) (D9 P.T P.da P.sa hi hx e2)
end
abbrev GS:=Option (Array Keyed)×Array Keyed×Nat×Nat×Nat×Nat×Nat
abbrev loC(a b out:Array Keyed)(ia ib mg ac bc:Nat):StateT SortSt Sem (ForInStep GS):=do
 let x ← elem' a ia
 if(ia+1+1 == a.size)=true then pure (.done (some (a1y a b (out.push x) (ia+1) ib),out.push x,ia+1,ib,mg,ac,bc))
 else if(decide (ac<7) && decide (bc<7))=true then pure (.done (none,out.push x,ia+1,ib,mg,ac,bc))
 else pure (.yield (none,out.push x,ia+1,ib,mg,ac,bc))
noncomputable abbrev loB(a b out:Array Keyed)(ia ib mg ac bc:Nat):StateT SortSt Sem (ForInStep GS):=do
 let y ← elem' b ib
 if(ib+1 == b.size)=true then pure (.done (some (O7 a b (out.push y) ia (ib+1)),out.push y,ia,ib+1,mg,ac,bc))
 else do
  let x ← elem' a ia
  let r ← K9 true x b (ib+1) (b.size-(ib+1)) 0
  match r with
  | some k =>
   if k > 0 then
    (if(ib+1+k == b.size)=true then pure (.done (some (O7 a b (out.push y++b.extract (ib+1) (ib+1+k)) ia (ib+1+k)),out.push y++b.extract (ib+1) (ib+1+k),ia,ib+1+k,mg,ac,k))
    else loC a b (out.push y++b.extract (ib+1) (ib+1+k)) ia (ib+1+k) mg ac k)
   else loC a b (out.push y) ia (ib+1) mg ac k
  | _=>pure (.done (some (O7 a b (out.push y) ia (ib+1)),out.push y,ia,ib+1,mg,ac,bc))
noncomputable abbrev loA(a b out:Array Keyed)(ia ib mg ac bc:Nat):StateT SortSt Sem (ForInStep GS):=do
 let y ← elem' b ib
 let r ← K9 false y a ia (a.size-ia) 0
 match r with
 | some k =>
  if k > 0 then
   (if(ia+k+1 == a.size)=true then pure (.done (some (a1y a b (out++a.extract ia (ia+k)) (ia+k) ib),out++a.extract ia (ia+k),ia+k,ib,mg,k,bc))
   else if(ia+k == a.size)=true then pure (.done (some (O7 a b (out++a.extract ia (ia+k)) (ia+k) ib),out++a.extract ia (ia+k),ia+k,ib,mg,k,bc))
   else loB a b (out++a.extract ia (ia+k)) (ia+k) ib mg k bc)
  else loB a b out ia ib mg k bc
 | _=>pure (.done (some (O7 a b out ia ib),out,ia,ib,mg,ac,bc))
section
variable {prog:Program}{w:World}{A:Around}{E:Value→Shared→Prop}{s:Shared}{κ:SortKind}{lt:Keyed→Keyed→Bool}{Dm:Keyed→Prop}{a b out:Array Keyed}{ia ib mg ac bc p0:Nat}{st0 st:SortSt}
def PQ(lt:Keyed→Keyed→Bool)(a b:Array Keyed)(p0:Nat)(st0:SortSt):ForInStep GS→SortSt→Prop
 | .done c,st'=>SameG st0 st'∧((∃r,c.1=some r∧B2 lt a.toList b.toList r.toList)∨(c.1=none∧MI lt a b c.2.1 c.2.2.1 c.2.2.2.1∧p0≤c.2.2.1+c.2.2.2.1))
 | .yield c,st'=>SameG st0 st'∧c.1=none∧MI lt a b c.2.1 c.2.2.1 c.2.2.2.1∧p0≤c.2.2.1+c.2.2.2.1
theorem b34(P:MP lt Dm a b)(hg:SameG st0 st)(m:MI lt a b out ia ib)(hp:p0≤ia+ib)(hle:∀x y,a.toList[ia]? = some x→b.toList[ib]? = some y→lt y x=false):wpS (model prog w) A E s (loC a b out ia ib mg ac bc) (PQ lt a b p0 st0) st:=by
 obtain⟨x,hx,hxl,_⟩:=E6 (a:=a) (i:=ia) (by have:=m.la;omega)
 have ml:=b31 P m.ml hxl (fun y hy=>hle x y hxl hy)
 refine wpS_bind (B6 hx ?_)
 by_cases z:(ia+1+1 == a.size)=true
 ·rw[if_pos z]
  exact wpS_pure ⟨hg,.inl ⟨_,rfl,MI.good_last P ml (by simpa using z)⟩⟩
 ·rw[if_neg z]
  have z':ia+1+1≠a.size:=by simpa using z
  have m':MI lt a b (out.push x) (ia+1) ib:=⟨by have:=m.la;omega,m.lb,ml⟩
  split
  ·exact wpS_pure ⟨hg,.inr ⟨rfl,m',by show p0≤ia+1+ib;omega⟩⟩
  ·exact wpS_pure ⟨hg,rfl,m',by show p0≤ia+1+ib;omega⟩
theorem b35(C:J0 prog w A s κ lt Dm)(P:MP lt Dm a b)(hk:kindOf st=κ)(hg:SameG st0 st)(m:MI lt a b out ia ib)(hp:p0≤ia+ib)(hle:∀x y,a.toList[ia]? = some x→b.toList[ib]? = some y→lt x y=false):wpS (model prog w) A E s (loB a b out ia ib mg ac bc) (PQ lt a b p0 st0) st:=by
 obtain⟨y,hy,hyl,_⟩:=E6 (a:=b) (i:=ib) m.lb
 obtain⟨x,hx,hxl,mx⟩:=E6 (a:=a) (i:=ia) (by have:=m.la;omega)
 have ml:=b0u P m.ml hyl (fun x hx=>hle x y hx hyl)
 have dx:=P.da x mx
 refine wpS_bind (B6 hy ?_)
 by_cases z:(ib+1 == b.size)=true
 ·rw[if_pos z]
  exact wpS_pure ⟨hg,.inl ⟨_,rfl,MI.good_doneB P ml (by simpa using z)⟩⟩
 ·rw[if_neg z]
  have z':ib+1≠b.size:=by simpa using z
  have hlb:ib+1<b.size:=by have:=m.lb;omega
  refine wpS_bind (B6 hx (wpS_bind ?_))
  have at_:∀i,i<b.size-(ib+1)→∃v,b[ib+1+i]? = some v∧b.toList[ib+1+i]? = some v∧v∈b.toList:=fun i hi=>E6 '!'
  refine S5 C hk dx '!' (fun i=>lt ((b.toList[ib+1+i]?).getD x) x) (fun i hi=>?_) (fun i j hij hj hb=>?_) fun k hk1 hk2 hk3=>?_
  ·obtain⟨v,h1,h2,h3⟩:=at_ i hi
   exact⟨v,h1,P.db v h3,by rw[h2];rfl⟩
  ·obtain⟨v,h1,h2,h3⟩:=at_ i '!'
   obtain⟨u,u1,u2,u3⟩:=at_ j hj
   rw[u2]at hb
   rw[h2]
   show lt v x=true
   cases q:lt v x with
   | true=>rfl
   | false =>
    have:=P.T.tr x v u dx (P.db v h3) (P.db u u3) q (D9 P.T P.db P.sb '!' h2 u2)
    have hb:lt u x=true:=hb
    rw[this]at hb;cases hb
  ·dsimp only
   have low:∀j v,j<k→b.toList[ib+1+j]? = some v→lt x v=false:=fun j v hj hv=>by
    have:=hk2 j hj
    rw[hv]at this
    exact P.T.asy _ _ (P.db v (List.mem_of_getElem? hv)) dx this
   have high:∀v,b.toList[ib+1+k]? = some v→lt v x=false:=fun v hv=>by
    obtain⟨hl,_⟩:=List.getElem?_eq_some_iff.mp hv
    rw[Array.length_toList]at hl
    have:=hk3 k (Nat.le_refl _) '!'
    rw[hv]at this
    exact this
   by_cases k0:k > 0
   ·rw[if_pos k0]
    have ml2:=b5b P ml hxl k low
    by_cases y1:(ib+1+k == b.size)=true
    ·rw[if_pos y1]
     exact wpS_pure ⟨hg,.inl ⟨_,rfl,MI.good_doneB P ml2 (by simpa using y1)⟩⟩
    ·rw[if_neg y1]
     have y1':ib+1+k≠b.size:=by simpa using y1
     exact b34 P hg ⟨m.la,by omega,ml2⟩ '!' fun x' y' e1 e2=>by
      rw[hxl]at e1;cases e1
      exact high y' e2
   ·rw[if_neg k0]
    have e0:k=0:=by omega
    subst e0
    exact b34 P hg ⟨m.la,hlb,ml⟩ '!' fun x' y' e1 e2=>by
     rw[hxl]at e1;cases e1
     exact high y' e2
theorem b36(C:J0 prog w A s κ lt Dm)(P:MP lt Dm a b)(hk:kindOf st=κ)(hg:SameG st0 st)(m:MI lt a b out ia ib)(hp:p0≤ia+ib):wpS (model prog w) A E s (loA a b out ia ib mg ac bc) (PQ lt a b p0 st0) st:=by
 obtain⟨y,hy,hyl,my⟩:=E6 (a:=b) (i:=ib) m.lb
 have dy:=P.db y my
 have hla:=m.la
 refine wpS_bind (B6 hy (wpS_bind ?_))
 have at_:∀i,i<a.size-ia→∃v,a[ia+i]? = some v∧a.toList[ia+i]? = some v∧v∈a.toList:=fun i hi=>E6 '!'
 refine S5 C hk dy '!' (fun i=>!lt y ((a.toList[ia+i]?).getD y)) (fun i hi=>?_) (fun i j hij hj hb=>?_) fun k hk1 hk2 hk3=>?_
 ·obtain⟨v,h1,h2,h3⟩:=at_ i hi
  exact⟨v,h1,P.da v h3,by rw[h2];rfl⟩
 ·obtain⟨v,h1,h2,h3⟩:=at_ i '!'
  obtain⟨u,u1,u2,u3⟩:=at_ j hj
  rw[u2]at hb
  rw[h2]
  have hb:(!lt y u)=true:=hb
  have hb':lt y u=false:=by simpa using hb
  show(!lt y v)=true
  rw[P.T.tr v u y (P.da v h3) (P.da u u3) dy (D9 P.T P.da P.sa '!' h2 u2) hb']
  rfl
 ·dsimp only
  have low:∀j v,j<k→a.toList[ia+j]? = some v→lt y v=false:=fun j v hj hv=>by
   have:=hk2 j hj
   rw[hv]at this
   have this:(!lt y v)=true:=this
   simpa using this
  have high:∀v,a.toList[ia+k]? = some v→lt v y=false:=fun v hv=>by
   obtain⟨hl,_⟩:=List.getElem?_eq_some_iff.mp hv
   rw[Array.length_toList]at hl
   have:=hk3 k (Nat.le_refl _) '!'
   rw[hv]at this
   have this:(!lt y v)=false:=this
   exact P.T.asy _ _ dy (P.da v (List.mem_of_getElem? hv)) (by simpa using this)
  by_cases k0:k > 0
  ·rw[if_pos k0]
   have ml2:=b5a P m.ml hyl k low
   by_cases y1:(ia+k+1 == a.size)=true
   ·rw[if_pos y1]
    exact wpS_pure ⟨hg,.inl ⟨_,rfl,MI.good_last P ml2 (by simpa using y1)⟩⟩
   ·rw[if_neg y1]
    have y1':ia+k+1≠a.size:=by simpa using y1
    by_cases y2:(ia+k == a.size)=true
    ·rw[if_pos y2]
     exact wpS_pure ⟨hg,.inl ⟨_,rfl,MI.good_doneA P ml2 (by simpa using y2)⟩⟩
    ·rw[if_neg y2]
     have y2':ia+k≠a.size:=by simpa using y2
     exact b35 C P hk hg ⟨by omega,m.lb,ml2⟩ '!' fun x' y' e1 e2=>by
      rw[hyl]at e2;cases e2
      exact high x' e1
  ·rw[if_neg k0]
   have e0:k=0:=by omega
   subst e0
   exact b35 C P hk hg m '!' fun x' y' e1 e2=>by
    rw[hyl]at e2;cases e2
    exact high x' e1
theorem smg{g:Nat}{Q:Unit→SortSt→Prop}(h:∀st',SameG st st'→Q () st'):wpS (model prog w) A E s (L4 g) Q st:=by
 rw[a3c]
 exact wpS_modify (h _ ⟨rfl,rfl,rfl,rfl⟩)
theorem a5S{α:Type}{c:Prop} [Decidable c] {m1 m2:StateT SortSt Sem α} {Q:α→SortSt→Prop} (h1:c→wpS (model prog w) A E s m1 Q st) (h2:¬c→wpS (model prog w) A E s m2 Q st):wpS (model prog w) A E s (if c then m1 else m2) Q st:=by
 by_cases z:c
 ·rw[if_pos z];exact h1 z
 ·rw[if_neg z];exact h2 z
abbrev S1:=Option (Array Keyed)×Array Keyed×Nat×Nat×Nat×Nat
theorem a6F{Q:Array Keyed→SortSt→Prop}(C:J0 prog w A s κ lt Dm)(P:MP lt Dm a b)(hk:kindOf st=κ)(ha:1≤a.size)(hb:1≤b.size)(h0:∀x y,a.toList[0]? = some x→b.toList[0]? = some y→lt x y=false)
  (h:∀r st',SameG st st'→B2 lt a.toList b.toList r.toList→Q r st'):wpS (model prog w) A E s (a3d a b) Q st:=by
 rw[a6E]
 refine wpS_bind (wpS_lift (wpAny_rule ⟨rfl,?_⟩))
 obtain⟨y,hy,hyl,my⟩:=E6 (a:=b) (i:=0) hb
 refine wpS_bind (B6 hy ?_)
 dsimp only
 have m0:ML lt a.toList b.toList [] (a.toList.drop 0) (b.toList.drop 0):=⟨⟨[],[],rfl,rfl,.refl _⟩,.nil,fun x hx=>absurd hx List.not_mem_nil,fun x hx=>absurd hx List.not_mem_nil⟩
 have m1:ML lt a.toList b.toList (#[y]:Array Keyed).toList (a.toList.drop 0) (b.toList.drop 1):=b0u (out := #[]) P m0 hyl fun x hx=>h0 x y hx hyl
 by_cases z:(1 == b.size)=true
 ·rw[if_pos z]
  exact wpS_pure (h _ _ (.refl _) (MI.good_doneB P m1 (by simpa using z)))
 rw[if_neg z]
 have z':1≠b.size:=by simpa using z
 by_cases z2:(0+1 == a.size)=true
 ·rw[if_pos z2]
  exact wpS_pure (h _ _ (.refl _) (MI.good_last P m1 (by simpa using z2)))
 rw[if_neg z2]
 have z2':0+1≠a.size:=by simpa using z2
 refine wpS_bind (wpS_get ?_)
 refine wpS_bind (a0e (fun(i:Nat) (c:Option (Array Keyed)×Array Keyed×Nat×Nat×Nat) st'=>c.1=none∧SameG st st'∧MI lt a b c.2.1 c.2.2.1 c.2.2.2.1∧i+1≤c.2.2.1+c.2.2.2.1)
  (fun(c:Option (Array Keyed)×Array Keyed×Nat×Nat×Nat) st'=>∃r,c.1=some r∧SameG st st'∧B2 lt a.toList b.toList r.toList) ?_ ?_ ⟨rfl,.refl _,⟨by show 0+1<a.size;omega,by show 1<b.size;omega,m1⟩,by show 0+1≤0+1;omega⟩ ?_)
 ·rintro i ⟨c0,out,ia,ib,mg⟩ st1 hi ⟨e0,hg,m,hp⟩
  dsimp only at *
  refine wpS_bind (a0e (fun(j:Nat) (c:S1) st'=>c.1=none∧SameG st st'∧MI lt a b c.2.1 c.2.2.1 c.2.2.2.1∧ia+ib+j≤c.2.2.1+c.2.2.2.1)
   (fun(c:S1) st'=>SameG st st'∧((∃r,c.1=some r∧B2 lt a.toList b.toList r.toList)∨(c.1=none∧MI lt a b c.2.1 c.2.2.1 c.2.2.2.1∧ia+ib+1≤c.2.2.1+c.2.2.2.1))) ?_ ?_ ⟨rfl,hg,m,Nat.le_refl _⟩ ?_)
  ·rintro j ⟨d0,out',ja,jb,ac,bc⟩ st2 hj ⟨f0,hg2,m2,hp2⟩
   dsimp only at *
   obtain⟨y2,hy2,hyl2,my2⟩:=E6 (a:=b) (i:=jb) m2.lb
   obtain⟨x2,hx2,hxl2,mx2⟩:=E6 (a:=a) (i:=ja) (by have:=m2.la;omega)
   refine wpS_bind (B6 hy2 (wpS_bind (B6 hx2 (wpS_bind (a2f C (hg2.1.trans hk) (P.db _ my2) (P.da _ mx2) ?_)))))
   dsimp only
   have hla:=m2.la
   have hlb:=m2.lb
   cases bw:lt y2 x2 with
   | true =>
    rw[if_pos rfl]
    have ml:=b0u P m2.ml hyl2 (fun x hx=>by rw[hxl2]at hx;cases hx;exact P.T.asy _ _ (P.db _ my2) (P.da _ mx2) bw)
    refine wpS_bind (B6 hy2 ?_)
    by_cases q:(jb+1 == b.size)=true
    ·rw[if_pos q]
     exact wpS_pure ⟨hg2,.inl ⟨_,rfl,MI.good_doneB P ml (by simpa using q)⟩⟩
    ·rw[if_neg q]
     have q':jb+1≠b.size:=by simpa using q
     have m3:MI lt a b (out'.push y2) ja (jb+1):=⟨hla,by omega,ml⟩
     split
     ·exact wpS_pure ⟨hg2,.inr ⟨rfl,m3,by show ia+ib+1≤ja+(jb+1);omega⟩⟩
     ·exact wpS_pure ⟨rfl,hg2,m3,by show ia+ib+(j+1)≤ja+(jb+1);omega⟩
   | false =>
    rw[if_neg (by simp)]
    have ml:=b31 P m2.ml hxl2 (fun y hy=>by rw[hyl2]at hy;cases hy;exact bw)
    refine wpS_bind (B6 hx2 ?_)
    by_cases q:(ja+1+1 == a.size)=true
    ·rw[if_pos q]
     exact wpS_pure ⟨hg2,.inl ⟨_,rfl,MI.good_last P ml (by simpa using q)⟩⟩
    ·rw[if_neg q]
     have q':ja+1+1≠a.size:=by simpa using q
     have m3:MI lt a b (out'.push x2) (ja+1) jb:=⟨by omega,hlb,ml⟩
     split
     ·exact wpS_pure ⟨hg2,.inr ⟨rfl,m3,by show ia+ib+1≤ja+1+jb;omega⟩⟩
     ·exact wpS_pure ⟨rfl,hg2,m3,by show ia+ib+(j+1)≤ja+1+jb;omega⟩
  ·rintro⟨d0,out',ja,jb,ac,bc⟩ st2 ⟨f0,hg2,m2,hp2⟩
   dsimp only at *
   exact⟨hg2,.inr ⟨f0,m2,by show ia+ib+1≤ja+jb;omega⟩⟩
  ·rintro⟨d0,out',ja,jb,ac,bc⟩ st2 ⟨hg2,⟨r,f0,gr⟩ | ⟨f0,m2,hp2⟩⟩
   ·dsimp only at *
    subst f0
    exact wpS_pure ⟨r,rfl,hg2,gr⟩
   ·dsimp only at *
    subst f0
    dsimp only
    refine wpS_bind (wpS_lift (wpAny_rule ⟨rfl,?_⟩))
    refine wpS_bind (a0e (fun(j:Nat) (c:GS) st'=>SameG st st'∧c.1=none∧MI lt a b c.2.1 c.2.2.1 c.2.2.2.1∧ja+jb≤c.2.2.1+c.2.2.2.1)
     (fun(c:GS) st'=>SameG st st'∧((∃r,c.1=some r∧B2 lt a.toList b.toList r.toList)∨(c.1=none∧MI lt a b c.2.1 c.2.2.1 c.2.2.2.1∧ja+jb≤c.2.2.1+c.2.2.2.1))) ?_ ?_ ⟨hg2,rfl,m2,Nat.le_refl _⟩ ?_)
    ·rintro j ⟨g0,out2,ka,kb,mg2,ac2,bc2⟩ st3 hj ⟨hg3,f0,m3,hp3⟩
     refine a5S (fun _=>?_) (fun _=>?_)
     ·refine wpS_bind (smg fun st4 g4=>?_)
      exact wpS_mono (b36 (mg:=mg2-1) (ac:=ac2) (bc:=bc2) C P ((hg3.trans g4).1.trans hk) (hg3.trans g4) m3 hp3) (fun r st' q=>by cases r<;>exact q)
     ·refine wpS_bind (smg fun st4 g4=>?_)
      exact wpS_mono (b36 (mg:=mg2) (ac:=ac2) (bc:=bc2) C P ((hg3.trans g4).1.trans hk) (hg3.trans g4) m3 hp3) (fun r st' q=>by cases r<;>exact q)
    ·rintro⟨g0,out2,ka,kb,mg2,ac2,bc2⟩ st3 ⟨hg3,f0,m3,hp3⟩
     exact⟨hg3,.inr ⟨f0,m3,hp3⟩⟩
    ·rintro⟨g0,out2,ka,kb,mg2,ac2,bc2⟩ st3 ⟨hg3,⟨r,f0,gr⟩ | ⟨f0,m3,hp3⟩⟩
     ·have f0:g0=some r:=f0
      subst f0
      exact wpS_pure ⟨r,rfl,hg3,gr⟩
     ·have f0:g0=none:=f0
      have hp3:ja+jb≤ka+kb:=hp3
      subst f0
      refine wpS_bind (smg fun st4 g4=>?_)
      exact wpS_pure ⟨rfl,hg3.trans g4,m3,by show i+1+1≤ka+kb;omega⟩
 ·rintro⟨c0,out,ia,ib,mg⟩ st1 ⟨e0,hg,m,hp⟩
  exfalso
  have h1:=m.la
  have h2:=m.lb
  dsimp only at *
  omega
 ·rintro⟨c0,out,ia,ib,mg⟩ st1 ⟨r,e0,hg,gr⟩
  dsimp only at *
  subst e0
  exact wpS_pure (h r st1 hg gr)
end
def a3e:Array Keyed→Array Keyed→StateT SortSt Sem (Array Keyed):=sortPriv% PySem.Builtin.mergeHi
abbrev O8(a b out:Array Keyed)(na nb:Nat):Array Keyed:=a.extract 0 na++b.extract 0 nb++out.reverse
abbrev a0G(a b out:Array Keyed)(na nb:Nat):Array Keyed:=b.extract 0 nb++a.extract 0 na++out.reverse
theorem a6G(a b:Array Keyed):a3e a b=(do
 rule "list.sort.merge-hi"
 let total:=a.size+b.size
 let mut na:=a.size-1
 let mut nb:=b.size
 let mut out:Array Keyed := #[← elem' a na]
 if na == 0 then return O8 a b out na nb
 if nb == 1 then return a0G a b out na nb
 let mut minGallop:=gallopOf (← get)
 for _ in [0:total]do
  let mut acount:=0
  let mut bcount:=0
  for _ in [0:total]do
   let some aWins ← lt' (← elem' b (nb-1)) (← elem' a (na-1)) | return O8 a b out na nb
   if aWins then
    na:=na-1;out:=out.push (← elem' a na);acount:=acount+1;bcount:=0
    if na == 0 then return O8 a b out na nb
    if acount≥minGallop then break
   else
    nb:=nb-1;out:=out.push (← elem' b nb);bcount:=bcount+1;acount:=0
    if nb == 1 then return a0G a b out na nb
    if bcount≥minGallop then break
  rule "list.sort.gallop"
  minGallop:=minGallop+1
  for _ in [0:total]do
   if minGallop > 1 then minGallop:=minGallop-1
   L4 minGallop
   let some at_ ← K9 false (← elem' b (nb-1)) a 0 na (na-1) | return O8 a b out na nb
   let k:=na-at_
   acount:=k
   if k > 0 then
    out:=out++(a.extract at_ na).reverse;na:=at_
    if na == 0 then return O8 a b out na nb
   nb:=nb-1;out:=out.push (← elem' b nb)
   if nb == 1 then return a0G a b out na nb
   let some at_ ← K9 true (← elem' a (na-1)) b 0 nb (nb-1) | return O8 a b out na nb
   let k:=nb-at_
   bcount:=k
   if k > 0 then
    out:=out++(b.extract at_ nb).reverse;nb:=at_
    if nb == 1 then return a0G a b out na nb
    if nb == 0 then return O8 a b out na nb
   na:=na-1;out:=out.push (← elem' a na)
   if na == 0 then return O8 a b out na nb
   if acount<7 && bcount<7 then break
  minGallop:=minGallop+1
  L4 minGallop
 unsupported "internal:list.sort.merge-bound"):=rfl
structure MR(lt:Keyed→Keyed→Bool)(aL bL o ra rb:List Keyed):Prop where
 ex:∃pa pb,aL=ra++pa∧bL=rb++pb∧o.Perm (pa++pb)
 so:Srt lt o
 oa:∀x∈o,∀y∈ra,lt x y=false
 ob:∀x∈o,∀y∈rb,lt x y=false
section
variable {lt:Keyed→Keyed→Bool}{aL bL o ra rb u:List Keyed}{x y:Keyed}
theorem Srt.left{l m:List Keyed}(h:Srt lt (l++m)):Srt lt l:=(List.pairwise_append.mp h).1
theorem MR.addA(m:MR lt aL bL o (ra++[x]) rb)(hs:Srt lt (ra++[x]))(h:∀y∈rb,lt x y=false):MR lt aL bL (x::o) ra rb:=by
 obtain⟨pa,pb,e1,e2,p⟩:=m.ex
 have hx:=(List.pairwise_append.mp hs).2.2
 refine⟨⟨x::pa,pb,by rw[e1];simp,e2,p.cons x⟩,List.pairwise_cons.mpr ⟨fun z hz=>m.oa z hz x (by simp),m.so⟩,fun w hw z hz=>?_,fun w hw z hz=>?_⟩
 ·rcases List.mem_cons.mp hw with rfl | hw
  ·exact hx z hz w List.mem_cons_self
  ·exact m.oa w hw z (List.mem_append_left _ hz)
 ·rcases List.mem_cons.mp hw with rfl | hw
  ·exact h z hz
  ·exact m.ob w hw z hz
theorem MR.addB(m:MR lt aL bL o ra (rb++[y]))(hs:Srt lt (rb++[y]))(h:∀x∈ra,lt y x=false):MR lt aL bL (y::o) ra rb:=by
 obtain⟨pa,pb,e1,e2,p⟩:=m.ex
 have hy:=(List.pairwise_append.mp hs).2.2
 refine⟨⟨pa,y::pb,e1,by rw[e2];simp,(p.cons y).trans List.perm_middle.symm⟩,List.pairwise_cons.mpr ⟨fun z hz=>m.ob z hz y (by simp),m.so⟩,fun w hw z hz=>?_,fun w hw z hz=>?_⟩
 ·rcases List.mem_cons.mp hw with rfl | hw
  ·exact h z hz
  ·exact m.oa w hw z hz
 ·rcases List.mem_cons.mp hw with rfl | hw
  ·exact hy z hz w List.mem_cons_self
  ·exact m.ob w hw z (List.mem_append_left _ hz)
theorem MR.addAs:∀{u ra:List Keyed},MR lt aL bL o (ra++u) rb→Srt lt (ra++u)→(∀x∈u,∀y∈rb,lt x y=false)→MR lt aL bL (u++o) ra rb
 | [],ra,m,_,_=>by rw[List.append_nil]at m;exact m
 | x::u,ra,m,hs,h=>by
  have e:ra++x::u=(ra++[x])++u:=by simp
  rw[e]at m hs
  exact MR.addA (MR.addAs m hs fun z hz=>h z (List.mem_cons_of_mem _ hz)) hs.left (h x List.mem_cons_self)
theorem MR.addBs:∀{u rb:List Keyed},MR lt aL bL o ra (rb++u)→Srt lt (rb++u)→(∀y∈u,∀x∈ra,lt y x=false)→MR lt aL bL (u++o) ra rb
 | [],rb,m,_,_=>by rw[List.append_nil]at m;exact m
 | x::u,rb,m,hs,h=>by
  have e:rb++x::u=(rb++[x])++u:=by simp
  rw[e]at m hs
  exact MR.addB (MR.addBs m hs fun z hz=>h z (List.mem_cons_of_mem _ hz)) hs.left (h x List.mem_cons_self)
theorem MR.finB(m:MR lt aL bL o [] rb)(hs:Srt lt rb):B2 lt aL bL (rb++o):=by
 obtain⟨pa,pb,e1,e2,p⟩:=m.ex
 refine⟨?_,hs.app m.so fun x hx y hy=>m.ob y hy x hx⟩
 rw[e1,e2,List.nil_append]
 refine(p.append_left rb).trans ?_
 rw[← List.append_assoc,← List.append_assoc]
 exact List.Perm.append_right pb List.perm_append_comm
theorem MR.finA(m:MR lt aL bL o ra [])(hs:Srt lt ra):B2 lt aL bL (ra++o):=by
 obtain⟨pa,pb,e1,e2,p⟩:=m.ex
 refine⟨?_,hs.app m.so fun x hx y hy=>m.oa y hy x hx⟩
 rw[e1,e2,List.nil_append,List.append_assoc]
 exact p.append_left ra
theorem MR.finF(m:MR lt aL bL o ra [y])(hs:Srt lt ra)(h:∀x∈ra,lt x y=false):B2 lt aL bL ([y]++ra++o):=by
 obtain⟨pa,pb,e1,e2,p⟩:=m.ex
 refine⟨?_,?_⟩
 ·rw[e1,e2]
  refine(p.append_left ([y]++ra)).trans ?_
  refine List.Perm.trans ?_ (List.perm_append_comm (l₁:=ra++pa) (l₂:=[y]++pb)).symm
  simp only[List.append_assoc]
  refine List.Perm.append_left [y] ?_
  rw[← List.append_assoc]
  exact List.perm_append_comm
 ·refine Srt.app (List.pairwise_cons.mpr ⟨fun x hx=>h x hx,hs⟩:Srt lt ([y]++ra)) m.so fun x hx z hz=>?_
  rcases List.mem_append.mp hx with hx | hx
  ·rw[List.mem_singleton.mp hx];exact m.ob z hz y List.mem_cons_self
  ·exact m.oa z hz x hx
end
theorem X8(a:Array Keyed)(i:Nat):(a.extract 0 i).toList=a.toList.take i:=by
 rw[Array.toList_extract,List.extract_eq_take_drop,List.drop_zero,Nat.sub_zero]
theorem a3f(a:Array Keyed)(i j:Nat):(a.extract i j).toList=(a.toList.drop i).take (j-i):=by
 rw[Array.toList_extract,List.extract_eq_take_drop]
structure MH(lt:Keyed→Keyed→Bool)(a b out:Array Keyed)(na nb:Nat):Prop where
 la:0<na∧na≤a.size
 lb:1<nb∧nb≤b.size
 mr:MR lt a.toList b.toList out.toList.reverse (a.toList.take na) (b.toList.take nb)
structure MPh(lt:Keyed→Keyed→Bool)(Dm:Keyed→Prop)(a b:Array Keyed):Prop where
 T:TPK lt Dm
 da:∀x∈a.toList,Dm x
 db:∀x∈b.toList,Dm x
 sa:Srt lt a.toList
 sb:Srt lt b.toList
 fb:∀x∈a.toList,∀y,b.toList[0]? = some y→lt x y=false
section
variable {lt:Keyed→Keyed→Bool}{Dm:Keyed→Prop}{a b out:Array Keyed}{na nb:Nat}{x y:Keyed}
theorem Srt.take{l:List Keyed}(h:Srt lt l)(n:Nat):Srt lt (l.take n):=List.Pairwise.sublist (List.take_sublist n l) h
theorem a7f{l:List Keyed}{i:Nat}(h:l[i]? = some x):l.take (i+1)=l.take i++[x]:=by
 rw[List.take_add_one,h]
 rfl
theorem G0{l:List Keyed}{n:Nat}{z:Keyed}(h:z∈l.take n):∃j,j<n∧l[j]? = some z:=by
 obtain⟨j,hj⟩:=List.mem_iff_getElem?.mp h
 by_cases hk:j<n
 ·rw[List.getElem?_take_of_lt hk]at hj
  exact⟨j,hk,hj⟩
 ·rw[List.getElem?_eq_none (by rw[List.length_take];omega)]at hj
  cases hj
theorem MH.good_doneA(P:MPh lt Dm a b)(m:MR lt a.toList b.toList out.toList.reverse (a.toList.take na) (b.toList.take nb))(h:na=0):B2 lt a.toList b.toList (O8 a b out na nb).toList:=by
 subst h
 show B2 _ _ _ (a.extract 0 0++b.extract 0 nb++out.reverse).toList
 rw[Array.toList_append,Array.toList_append,X8,X8,Array.toList_reverse,List.take_zero,List.nil_append]
 rw[List.take_zero]at m
 exact m.finB (P.sb.take nb)
theorem MH.good_doneB(P:MPh lt Dm a b)(m:MR lt a.toList b.toList out.toList.reverse (a.toList.take na) (b.toList.take nb))(h:nb=0):B2 lt a.toList b.toList (O8 a b out na nb).toList:=by
 subst h
 show B2 _ _ _ (a.extract 0 na++b.extract 0 0++out.reverse).toList
 rw[Array.toList_append,Array.toList_append,X8,X8,Array.toList_reverse,List.take_zero,List.append_nil]
 rw[List.take_zero]at m
 exact m.finA (P.sa.take na)
theorem MH.good_first(P:MPh lt Dm a b)(hb:1≤b.size)(m:MR lt a.toList b.toList out.toList.reverse (a.toList.take na) (b.toList.take nb))(h:nb=1):B2 lt a.toList b.toList (a0G a b out na nb).toList:=by
 subst h
 obtain⟨y,_,hy,_⟩:=E6 (a:=b) (i:=0) hb
 have e1:b.toList.take 1=[y]:=by rw[a7f hy,List.take_zero];rfl
 show B2 _ _ _ (b.extract 0 1++a.extract 0 na++out.reverse).toList
 rw[Array.toList_append,Array.toList_append,X8,X8,Array.toList_reverse,e1]
 rw[e1]at m
 exact m.finF (P.sa.take na) fun x hx=>P.fb x (List.mem_of_mem_take hx) y hy
theorem a00{l:List Keyed}{n:Nat}(h0:0<n)(h:l[n-1]? = some x):l.take n=l.take (n-1)++[x]:=by
 have:=a7f h
 rw[show n-1+1=n by omega]at this
 exact this
theorem b0v(P:MPh lt Dm a b)(ha:0<na)(hb:nb≤b.size)(h0:0<nb)(m:MR lt a.toList b.toList out.toList.reverse (a.toList.take na) (b.toList.take nb))(hx:a.toList[na-1]? = some x)(h:∀y,b.toList[nb-1]? = some y→lt x y=false):MR lt a.toList b.toList (out.push x).toList.reverse (a.toList.take (na-1)) (b.toList.take nb):=by
 rw[a00 ha hx]at m
 rw[Array.toList_push,List.reverse_append]
 refine m.addA (by rw[← a00 ha hx];exact P.sa.take _) fun z hz=>?_
 obtain⟨j,hj,e⟩:=G0 hz
 obtain⟨v0,_,ei,_⟩:=E6 (a:=b) (i:=nb-1) '!'
 exact P.T.tr _ _ _ (P.db z (List.mem_of_getElem? e)) (P.db _ (List.mem_of_getElem? ei)) (P.da x (List.mem_of_getElem? hx)) (D9 P.T P.db P.sb '!' e ei) (h _ ei)
theorem b37(P:MPh lt Dm a b)(hb:0<nb)(ha:na≤a.size)(h0:0<na)(m:MR lt a.toList b.toList out.toList.reverse (a.toList.take na) (b.toList.take nb))(hy:b.toList[nb-1]? = some y)(h:∀x,a.toList[na-1]? = some x→lt y x=false):MR lt a.toList b.toList (out.push y).toList.reverse (a.toList.take na) (b.toList.take (nb-1)):=by
 rw[a00 hb hy]at m
 rw[Array.toList_push,List.reverse_append]
 refine m.addB (by rw[← a00 hb hy];exact P.sb.take _) fun z hz=>?_
 obtain⟨j,hj,e⟩:=G0 hz
 obtain⟨v0,_,ei,_⟩:=E6 (a:=a) (i:=na-1) '!'
 exact P.T.tr _ _ _ (P.da z (List.mem_of_getElem? e)) (P.da _ (List.mem_of_getElem? ei)) (P.db y (List.mem_of_getElem? hy)) (D9 P.T P.da P.sa '!' e ei) (h _ ei)
theorem a0o{l:List Keyed}{i n:Nat}(h:i≤n):l.take n=l.take i++(l.drop i).take (n-i):=by
 have e1:=(List.take_append_drop i (l.take n)).symm
 rw[List.take_take,Nat.min_eq_left h,List.drop_take]at e1
 exact e1
theorem b5c(P:MPh lt Dm a b){i:Nat}(hi:i≤na)(m:MR lt a.toList b.toList out.toList.reverse (a.toList.take na) (b.toList.take nb))(hy:b.toList[nb-1]? = some y)(h0:0<nb)(h:∀j x,i≤j→j<na→a.toList[j]? = some x→lt x y=false):MR lt a.toList b.toList (out++(a.extract i na).reverse).toList.reverse (a.toList.take i) (b.toList.take nb):=by
 rw[a0o hi]at m
 rw[Array.toList_append,Array.toList_reverse,List.reverse_append,List.reverse_reverse,a3f]
 refine MR.addAs m (by rw[← a0o hi];exact P.sa.take _) fun z hz v hv=>?_
 obtain⟨j,hj,e⟩:=a1z hz
 obtain⟨k,hk,e2⟩:=G0 hv
 exact P.T.tr _ _ _ (P.db v (List.mem_of_getElem? e2)) (P.db y (List.mem_of_getElem? hy)) (P.da z (List.mem_of_getElem? e)) (D9 P.T P.db P.sb '!' e2 hy) (h (i+j) z '!' '!' e)
theorem b5d(P:MPh lt Dm a b){i:Nat}(hi:i≤nb)(m:MR lt a.toList b.toList out.toList.reverse (a.toList.take na) (b.toList.take nb))(hx:a.toList[na-1]? = some x)(h0:0<na)(h:∀j y,i≤j→j<nb→b.toList[j]? = some y→lt y x=false):MR lt a.toList b.toList (out++(b.extract i nb).reverse).toList.reverse (a.toList.take na) (b.toList.take i):=by
 rw[a0o (l:=b.toList) hi]at m
 rw[Array.toList_append,Array.toList_reverse,List.reverse_append,List.reverse_reverse,a3f]
 refine MR.addBs m (by rw[← a0o hi];exact P.sb.take _) fun z hz v hv=>?_
 obtain⟨j,hj,e⟩:=a1z hz
 obtain⟨k,hk,e2⟩:=G0 hv
 exact P.T.tr _ _ _ (P.da v (List.mem_of_getElem? e2)) (P.da x (List.mem_of_getElem? hx)) (P.db z (List.mem_of_getElem? e)) (D9 P.T P.da P.sa '!' e2 hx) (h (i+j) z '!' '!' e)
end
abbrev GH:=Option (Array Keyed)×Nat×Nat×Array Keyed×Nat×Nat×Nat
abbrev hiC(a b out:Array Keyed)(na nb mg ac bc:Nat):StateT SortSt Sem (ForInStep GH):=do
 let x ← elem' a (na-1)
 if(na-1 == 0)=true then pure (.done (some (O8 a b (out.push x) (na-1) nb),na-1,nb,out.push x,mg,ac,bc))
 else if(decide (ac<7) && decide (bc<7))=true then pure (.done (none,na-1,nb,out.push x,mg,ac,bc))
 else pure (.yield (none,na-1,nb,out.push x,mg,ac,bc))
noncomputable abbrev hiB(a b out:Array Keyed)(na nb mg ac bc:Nat):StateT SortSt Sem (ForInStep GH):=do
 let y ← elem' b (nb-1)
 if(nb-1 == 1)=true then pure (.done (some (a0G a b (out.push y) na (nb-1)),na,nb-1,out.push y,mg,ac,bc))
 else do
  let x ← elem' a (na-1)
  let r ← K9 true x b 0 (nb-1) (nb-1-1)
  match r with
  | some i =>
   if nb-1-i > 0 then
    (if(i == 1)=true then pure (.done (some (a0G a b (out.push y++(b.extract i (nb-1)).reverse) na i),na,i,out.push y++(b.extract i (nb-1)).reverse,mg,ac,nb-1-i))
    else if(i == 0)=true then pure (.done (some (O8 a b (out.push y++(b.extract i (nb-1)).reverse) na i),na,i,out.push y++(b.extract i (nb-1)).reverse,mg,ac,nb-1-i))
    else hiC a b (out.push y++(b.extract i (nb-1)).reverse) na i mg ac (nb-1-i))
   else hiC a b (out.push y) na (nb-1) mg ac (nb-1-i)
  | _=>pure (.done (some (O8 a b (out.push y) na (nb-1)),na,nb-1,out.push y,mg,ac,bc))
noncomputable abbrev hiA(a b out:Array Keyed)(na nb mg ac bc:Nat):StateT SortSt Sem (ForInStep GH):=do
 let y ← elem' b (nb-1)
 let r ← K9 false y a 0 na (na-1)
 match r with
 | some i =>
  if na-i > 0 then
   (if(i == 0)=true then pure (.done (some (O8 a b (out++(a.extract i na).reverse) i nb),i,nb,out++(a.extract i na).reverse,mg,na-i,bc))
   else hiB a b (out++(a.extract i na).reverse) i nb mg (na-i) bc)
  else hiB a b out na nb mg (na-i) bc
 | _=>pure (.done (some (O8 a b out na nb),na,nb,out,mg,ac,bc))
section
variable {prog:Program}{w:World}{A:Around}{E:Value→Shared→Prop}{s:Shared}{κ:SortKind}{lt:Keyed→Keyed→Bool}{Dm:Keyed→Prop}{a b out:Array Keyed}{na nb mg ac bc p0:Nat}{st0 st:SortSt}
def PHi(lt:Keyed→Keyed→Bool)(a b:Array Keyed)(p0:Nat)(st0:SortSt):ForInStep GH→SortSt→Prop
 | .done c,st'=>SameG st0 st'∧((∃r,c.1=some r∧B2 lt a.toList b.toList r.toList)∨(c.1=none∧MH lt a b c.2.2.2.1 c.2.1 c.2.2.1∧c.2.1+c.2.2.1≤p0))
 | .yield c,st'=>SameG st0 st'∧c.1=none∧MH lt a b c.2.2.2.1 c.2.1 c.2.2.1∧c.2.1+c.2.2.1≤p0
theorem b4a(P:MPh lt Dm a b)(hg:SameG st0 st)(m:MH lt a b out na nb)(hp:na+nb≤p0)(hle:∀x y,a.toList[na-1]? = some x→b.toList[nb-1]? = some y→lt x y=false):wpS (model prog w) A E s (hiC a b out na nb mg ac bc) (PHi lt a b p0 st0) st:=by
 have la:=m.la
 have lb:=m.lb
 obtain⟨x,hx,hxl,_⟩:=E6 (a:=a) (i:=na-1) '!'
 have mr:=b0v P la.1 lb.2 '!' m.mr hxl (fun y hy=>hle x y hxl hy)
 refine wpS_bind (B6 hx ?_)
 by_cases z:(na-1 == 0)=true
 ·rw[if_pos z]
  exact wpS_pure ⟨hg,.inl ⟨_,rfl,MH.good_doneA P mr (by simpa using z)⟩⟩
 ·rw[if_neg z]
  have z':na-1≠0:=by simpa using z
  have m':MH lt a b (out.push x) (na-1) nb:=⟨⟨by omega,by omega⟩,lb,mr⟩
  split
  ·exact wpS_pure ⟨hg,.inr ⟨rfl,m',by show na-1+nb≤p0;omega⟩⟩
  ·exact wpS_pure ⟨hg,rfl,m',by show na-1+nb≤p0;omega⟩
theorem b4b(C:J0 prog w A s κ lt Dm)(P:MPh lt Dm a b)(hk:kindOf st=κ)(hg:SameG st0 st)(m:MH lt a b out na nb)(hp:na+nb≤p0)(hle:∀x y,a.toList[na-1]? = some x→b.toList[nb-1]? = some y→lt y x=false):wpS (model prog w) A E s (hiB a b out na nb mg ac bc) (PHi lt a b p0 st0) st:=by
 have la:=m.la
 have lb:=m.lb
 obtain⟨y,hy,hyl,_⟩:=E6 (a:=b) (i:=nb-1) '!'
 obtain⟨x,hx,hxl,mx⟩:=E6 (a:=a) (i:=na-1) '!'
 have mr:=b37 P '!' la.2 la.1 m.mr hyl (fun x hx=>hle x y hx hyl)
 have dx:=P.da x mx
 refine wpS_bind (B6 hy ?_)
 by_cases z:(nb-1 == 1)=true
 ·rw[if_pos z]
  exact wpS_pure ⟨hg,.inl ⟨_,rfl,MH.good_first P '!' mr (by simpa using z)⟩⟩
 ·rw[if_neg z]
  have z':nb-1≠1:=by simpa using z
  refine wpS_bind (B6 hx (wpS_bind ?_))
  have at_:∀i,i<nb-1→∃v,b[0+i]? = some v∧b.toList[i]? = some v∧v∈b.toList:=fun i hi=>by
   rw[Nat.zero_add];exact E6 '!'
  refine S5 C hk dx '!' (fun i=>lt ((b.toList[i]?).getD x) x) (fun i hi=>?_) (fun i j hij hj hb=>?_) fun k hk1 hk2 hk3=>?_
  ·obtain⟨v,h1,h2,h3⟩:=at_ i hi
   exact⟨v,h1,P.db v h3,by rw[h2];rfl⟩
  ·obtain⟨v,h1,h2,h3⟩:=at_ i '!'
   obtain⟨u,u1,u2,u3⟩:=at_ j hj
   rw[u2]at hb
   rw[h2]
   show lt v x=true
   cases q:lt v x with
   | true=>rfl
   | false =>
    have:=P.T.tr x v u dx (P.db v h3) (P.db u u3) q (D9 P.T P.db P.sb '!' h2 u2)
    have hb:lt u x=true:=hb
    rw[this]at hb;cases hb
  ·dsimp only
   have low:∀j v,j<k→b.toList[j]? = some v→lt x v=false:=fun j v hj hv=>by
    have:=hk2 j hj
    rw[hv]at this
    exact P.T.asy _ _ (P.db v (List.mem_of_getElem? hv)) dx this
   have high:∀j v,k≤j→j<nb-1→b.toList[j]? = some v→lt v x=false:=fun j v h1 h2 hv=>by
    have:=hk3 j h1 h2
    rw[hv]at this
    exact this
   by_cases k0:nb-1-k > 0
   ·rw[if_pos k0]
    have mr2:=b5d P hk1 mr hxl la.1 high
    by_cases y1:(k == 1)=true
    ·rw[if_pos y1]
     exact wpS_pure ⟨hg,.inl ⟨_,rfl,MH.good_first P '!' mr2 (by simpa using y1)⟩⟩
    ·rw[if_neg y1]
     have y1':k≠1:=by simpa using y1
     by_cases y2:(k == 0)=true
     ·rw[if_pos y2]
      exact wpS_pure ⟨hg,.inl ⟨_,rfl,MH.good_doneB P mr2 (by simpa using y2)⟩⟩
     ·rw[if_neg y2]
      have y2':k≠0:=by simpa using y2
      exact b4a P hg ⟨la,⟨by omega,by omega⟩,mr2⟩ '!' fun x' y' e1 e2=>by
       rw[hxl]at e1;cases e1
       exact low _ y' '!' e2
   ·rw[if_neg k0]
    have e0:k=nb-1:=by omega
    subst e0
    exact b4a P hg ⟨la,⟨by omega,by omega⟩,mr⟩ '!' fun x' y' e1 e2=>by
     rw[hxl]at e1;cases e1
     exact low _ y' '!' e2
theorem b4c(C:J0 prog w A s κ lt Dm)(P:MPh lt Dm a b)(hk:kindOf st=κ)(hg:SameG st0 st)(m:MH lt a b out na nb)(hp:na+nb≤p0):wpS (model prog w) A E s (hiA a b out na nb mg ac bc) (PHi lt a b p0 st0) st:=by
 have la:=m.la
 have lb:=m.lb
 obtain⟨y,hy,hyl,my⟩:=E6 (a:=b) (i:=nb-1) '!'
 have dy:=P.db y my
 refine wpS_bind (B6 hy (wpS_bind ?_))
 have at_:∀i,i<na→∃v,a[0+i]? = some v∧a.toList[i]? = some v∧v∈a.toList:=fun i hi=>by
  rw[Nat.zero_add];exact E6 '!'
 refine S5 C hk dy '!' (fun i=>!lt y ((a.toList[i]?).getD y)) (fun i hi=>?_) (fun i j hij hj hb=>?_) fun k hk1 hk2 hk3=>?_
 ·obtain⟨v,h1,h2,h3⟩:=at_ i hi
  exact⟨v,h1,P.da v h3,by rw[h2];rfl⟩
 ·obtain⟨v,h1,h2,h3⟩:=at_ i '!'
  obtain⟨u,u1,u2,u3⟩:=at_ j hj
  rw[u2]at hb
  rw[h2]
  have hb:(!lt y u)=true:=hb
  have hb':lt y u=false:=by simpa using hb
  show(!lt y v)=true
  rw[P.T.tr v u y (P.da v h3) (P.da u u3) dy (D9 P.T P.da P.sa '!' h2 u2) hb']
  rfl
 ·dsimp only
  have low:∀j v,j<k→a.toList[j]? = some v→lt y v=false:=fun j v hj hv=>by
   have:=hk2 j hj
   rw[hv]at this
   have this:(!lt y v)=true:=this
   simpa using this
  have high:∀j v,k≤j→j<na→a.toList[j]? = some v→lt v y=false:=fun j v h1 h2 hv=>by
   have:=hk3 j h1 h2
   rw[hv]at this
   have this:(!lt y v)=false:=this
   exact P.T.asy _ _ dy (P.da v (List.mem_of_getElem? hv)) (by simpa using this)
  by_cases k0:na-k > 0
  ·rw[if_pos k0]
   have mr2:=b5c P hk1 m.mr hyl '!' high
   by_cases y2:(k == 0)=true
   ·rw[if_pos y2]
    exact wpS_pure ⟨hg,.inl ⟨_,rfl,MH.good_doneA P mr2 (by simpa using y2)⟩⟩
   ·rw[if_neg y2]
    have y2':k≠0:=by simpa using y2
    exact b4b C P hk hg ⟨⟨by omega,by omega⟩,lb,mr2⟩ '!' fun x' y' e1 e2=>by
     rw[hyl]at e2;cases e2
     exact low _ x' '!' e1
  ·rw[if_neg k0]
   have e0:k=na:=by omega
   subst e0
   exact b4b C P hk hg m '!' fun x' y' e1 e2=>by
    rw[hyl]at e2;cases e2
    exact low _ x' '!' e1
abbrev S2:=Option (Array Keyed)×Nat×Nat×Array Keyed×Nat×Nat
theorem a6H{Q:Array Keyed→SortSt→Prop}(C:J0 prog w A s κ lt Dm)(P:MPh lt Dm a b)(hk:kindOf st=κ)(ha:1≤a.size)(hb:1≤b.size)(h0:∀x y,a.toList[a.size-1]? = some x→b.toList[b.size-1]? = some y→lt x y=false)
  (h:∀r st',SameG st st'→B2 lt a.toList b.toList r.toList→Q r st'):wpS (model prog w) A E s (a3e a b) Q st:=by
 rw[a6G]
 refine wpS_bind (wpS_lift (wpAny_rule ⟨rfl,?_⟩))
 obtain⟨x,hx,hxl,mx⟩:=E6 (a:=a) (i:=a.size-1) '!'
 refine wpS_bind (B6 hx ?_)
 dsimp only
 have m0:MR lt a.toList b.toList (#[]:Array Keyed).toList.reverse (a.toList.take a.size) (b.toList.take b.size):=⟨⟨[],[],by rw[List.take_of_length_le (by rw[Array.length_toList];exact Nat.le_refl _),List.append_nil],by rw[List.take_of_length_le (by rw[Array.length_toList];exact Nat.le_refl _),List.append_nil],.refl _⟩,.nil,fun x hx=>absurd hx List.not_mem_nil,fun x hx=>absurd hx List.not_mem_nil⟩
 have m1:MR lt a.toList b.toList (#[x]:Array Keyed).toList.reverse (a.toList.take (a.size-1)) (b.toList.take b.size):=b0v (out := #[]) P '!' (Nat.le_refl _) '!' m0 hxl fun y hy=>h0 x y hxl hy
 by_cases z:(a.size-1 == 0)=true
 ·rw[if_pos z]
  exact wpS_pure (h _ _ (.refl _) (MH.good_doneA P m1 (by simpa using z)))
 rw[if_neg z]
 have z':a.size-1≠0:=by simpa using z
 by_cases z2:(b.size == 1)=true
 ·rw[if_pos z2]
  exact wpS_pure (h _ _ (.refl _) (MH.good_first P '!' m1 (by simpa using z2)))
 rw[if_neg z2]
 have z2':b.size≠1:=by simpa using z2
 refine wpS_bind (wpS_get ?_)
 refine wpS_bind (a0e (fun(i:Nat) (c:Option (Array Keyed)×Nat×Nat×Array Keyed×Nat) st'=>c.1=none∧SameG st st'∧MH lt a b c.2.2.2.1 c.2.1 c.2.2.1∧c.2.1+c.2.2.1+i+1≤a.size+b.size)
  (fun(c:Option (Array Keyed)×Nat×Nat×Array Keyed×Nat) st'=>∃r,c.1=some r∧SameG st st'∧B2 lt a.toList b.toList r.toList) ?_ ?_ ⟨rfl,.refl _,⟨⟨by show 0<a.size-1;omega,by show a.size-1≤a.size;omega⟩,⟨by show 1<b.size;omega,Nat.le_refl _⟩,m1⟩,by show a.size-1+b.size+0+1≤a.size+b.size;omega⟩ ?_)
 ·rintro i ⟨c0,na,nb,out,mg⟩ st1 hi ⟨e0,hg,m,hp⟩
  dsimp only at *
  refine wpS_bind (a0e (fun(j:Nat) (c:S2) st'=>c.1=none∧SameG st st'∧MH lt a b c.2.2.2.1 c.2.1 c.2.2.1∧c.2.1+c.2.2.1+j≤na+nb)
   (fun(c:S2) st'=>SameG st st'∧((∃r,c.1=some r∧B2 lt a.toList b.toList r.toList)∨(c.1=none∧MH lt a b c.2.2.2.1 c.2.1 c.2.2.1∧c.2.1+c.2.2.1+1≤na+nb))) ?_ ?_ ⟨rfl,hg,m,Nat.le_refl _⟩ ?_)
  ·rintro j ⟨d0,ja,jb,out',ac,bc⟩ st2 hj ⟨f0,hg2,m2,hp2⟩
   dsimp only at *
   have hla:=m2.la
   have hlb:=m2.lb
   obtain⟨y2,hy2,hyl2,my2⟩:=E6 (a:=b) (i:=jb-1) '!'
   obtain⟨x2,hx2,hxl2,mx2⟩:=E6 (a:=a) (i:=ja-1) '!'
   refine wpS_bind (B6 hy2 (wpS_bind (B6 hx2 (wpS_bind (a2f C (hg2.1.trans hk) (P.db _ my2) (P.da _ mx2) ?_)))))
   dsimp only
   cases bw:lt y2 x2 with
   | true =>
    rw[if_pos rfl]
    have mr:=b0v P hla.1 hlb.2 '!' m2.mr hxl2 (fun y hy=>by rw[hyl2]at hy;cases hy;exact P.T.asy _ _ (P.db _ my2) (P.da _ mx2) bw)
    refine wpS_bind (B6 hx2 ?_)
    by_cases q:(ja-1 == 0)=true
    ·rw[if_pos q]
     exact wpS_pure ⟨hg2,.inl ⟨_,rfl,MH.good_doneA P mr (by simpa using q)⟩⟩
    ·rw[if_neg q]
     have q':ja-1≠0:=by simpa using q
     have m3:MH lt a b (out'.push x2) (ja-1) jb:=⟨⟨by omega,by omega⟩,hlb,mr⟩
     split
     ·exact wpS_pure ⟨hg2,.inr ⟨rfl,m3,by show ja-1+jb+1≤na+nb;omega⟩⟩
     ·exact wpS_pure ⟨rfl,hg2,m3,by show ja-1+jb+(j+1)≤na+nb;omega⟩
   | false =>
    rw[if_neg (by simp)]
    have mr:=b37 P '!' hla.2 hla.1 m2.mr hyl2 (fun x hx=>by rw[hxl2]at hx;cases hx;exact bw)
    refine wpS_bind (B6 hy2 ?_)
    by_cases q:(jb-1 == 1)=true
    ·rw[if_pos q]
     exact wpS_pure ⟨hg2,.inl ⟨_,rfl,MH.good_first P '!' mr (by simpa using q)⟩⟩
    ·rw[if_neg q]
     have q':jb-1≠1:=by simpa using q
     have m3:MH lt a b (out'.push y2) ja (jb-1):=⟨hla,⟨by omega,by omega⟩,mr⟩
     split
     ·exact wpS_pure ⟨hg2,.inr ⟨rfl,m3,by show ja+(jb-1)+1≤na+nb;omega⟩⟩
     ·exact wpS_pure ⟨rfl,hg2,m3,by show ja+(jb-1)+(j+1)≤na+nb;omega⟩
  ·rintro⟨d0,ja,jb,out',ac,bc⟩ st2 ⟨f0,hg2,m2,hp2⟩
   dsimp only at *
   exact⟨hg2,.inr ⟨f0,m2,by show ja+jb+1≤na+nb;omega⟩⟩
  ·rintro⟨d0,ja,jb,out',ac,bc⟩ st2 ⟨hg2,⟨r,f0,gr⟩ | ⟨f0,m2,hp2⟩⟩
   ·have f0:d0=some r:=f0
    subst f0
    exact wpS_pure ⟨r,rfl,hg2,gr⟩
   ·have f0:d0=none:=f0
    have hp2:ja+jb+1≤na+nb:=hp2
    subst f0
    refine wpS_bind (wpS_lift (wpAny_rule ⟨rfl,?_⟩))
    refine wpS_bind (a0e (fun(j:Nat) (c:GH) st'=>SameG st st'∧c.1=none∧MH lt a b c.2.2.2.1 c.2.1 c.2.2.1∧c.2.1+c.2.2.1≤ja+jb)
     (fun(c:GH) st'=>SameG st st'∧((∃r,c.1=some r∧B2 lt a.toList b.toList r.toList)∨(c.1=none∧MH lt a b c.2.2.2.1 c.2.1 c.2.2.1∧c.2.1+c.2.2.1≤ja+jb))) ?_ ?_ ⟨hg2,rfl,m2,Nat.le_refl _⟩ ?_)
    ·rintro j ⟨g0,ka,kb,out2,mg2,ac2,bc2⟩ st3 hj ⟨hg3,f0,m3,hp3⟩
     refine a5S (fun _=>?_) (fun _=>?_)
     ·refine wpS_bind (smg fun st4 g4=>?_)
      exact wpS_mono (b4c (mg:=mg2-1) (ac:=ac2) (bc:=bc2) C P ((hg3.trans g4).1.trans hk) (hg3.trans g4) m3 hp3) (fun r st' q=>by cases r<;>exact q)
     ·refine wpS_bind (smg fun st4 g4=>?_)
      exact wpS_mono (b4c (mg:=mg2) (ac:=ac2) (bc:=bc2) C P ((hg3.trans g4).1.trans hk) (hg3.trans g4) m3 hp3) (fun r st' q=>by cases r<;>exact q)
    ·rintro⟨g0,ka,kb,out2,mg2,ac2,bc2⟩ st3 ⟨hg3,f0,m3,hp3⟩
     exact⟨hg3,.inr ⟨f0,m3,hp3⟩⟩
    ·rintro⟨g0,ka,kb,out2,mg2,ac2,bc2⟩ st3 ⟨hg3,⟨r,f0,gr⟩ | ⟨f0,m3,hp3⟩⟩
     ·have f0:g0=some r:=f0
      subst f0
      exact wpS_pure ⟨r,rfl,hg3,gr⟩
     ·have f0:g0=none:=f0
      have hp3:ka+kb≤ja+jb:=hp3
      subst f0
      refine wpS_bind (smg fun st4 g4=>?_)
      exact wpS_pure ⟨rfl,hg3.trans g4,m3,by show ka+kb+(i+1)+1≤a.size+b.size;omega⟩
 ·rintro⟨c0,na,nb,out,mg⟩ st1 ⟨e0,hg,m,hp⟩
  exfalso
  have h1:=m.la
  have h2:=m.lb
  dsimp only at *
  omega
 ·rintro⟨c0,na,nb,out,mg⟩ st1 ⟨r,e0,hg,gr⟩
  dsimp only at *
  subst e0
  exact wpS_pure (h r st1 hg gr)
end
theorem a6I(i:Nat):mergeAt' i=(do
 let s ← get
 let (some (sa,na,power),some (sb,nb,_)):=((pendingOf s)[i]?,(pendingOf s)[i+1]?) | unsupported "internal:list.sort.pending"
 set (setPending s (((pendingOf s).setIfInBounds i (sa,na+nb,power)).eraseIdxIfInBounds (i+1)))
 let some k ← K9 false (← elem' (arrOf s) sb) (arrOf s) sa na 0 | return false
 let (sa,na):=(sa+k,na-k)
 if na == 0 then return true
 let some nb ← K9 true (← elem' (arrOf s) (sa+na-1)) (arrOf s) sb nb (nb-1) | return false
 if nb == 0 then return true
 let x:=(arrOf s).extract sa sb
 let y:=(arrOf s).extract sb (sb+nb)
 let merged ← if na≤nb then a3d x y else a3e x y
 modify fun s=>setArr s (merged.toList.zipIdx.foldl (fun a (p,j)=>a.setIfInBounds (sa+j) p) (arrOf s))
 return (failedOf (← get)).isNone):=rfl
theorem a5T(o:Nat):∀(m:List Keyed) (n:Nat) (arr:Array Keyed),o+n+m.length≤arr.size→((m.zipIdx n).foldl (fun a (q:Keyed×Nat)=>a.setIfInBounds (o+q.2) q.1) arr).toList=arr.toList.take (o+n)++m++arr.toList.drop (o+n+m.length)
 | [],n,arr,h=>by simp
 | p::m,n,arr,h=>by
  rw[List.length_cons]at h
  rw[List.zipIdx_cons,List.foldl_cons]
  have ih:=a5T o m (n+1) (arr.setIfInBounds (o+n) p) (by rw[Array.size_setIfInBounds];omega)
  rw[ih,Array.toList_setIfInBounds]
  have hl:o+n<arr.toList.length:=by rw[Array.length_toList];omega
  have e1:(arr.toList.set (o+n) p).take (o+(n+1))=arr.toList.take (o+n)++[p]:=by
   rw[show o+(n+1)=(o+n)+1 by omega]
   exact(List.take_add_one).trans (by rw[List.getElem?_set_self hl,List.take_set_of_le (Nat.le_refl _)];rfl)
  have e2:(arr.toList.set (o+n) p).drop (o+(n+1)+m.length)=arr.toList.drop (o+n+(m.length+1)):=by
   rw[List.drop_set_of_lt '!',show o+(n+1)+m.length=o+n+(m.length+1) by omega]
  rw[e1,e2,List.length_cons]
  simp
section
variable {prog:Program}{w:World}{A:Around}{E:Value→Shared→Prop}{s:Shared}{κ:SortKind}{lt:Keyed→Keyed→Bool}{Dm:Keyed→Prop}{st:SortSt}
theorem a5U{arr:Array Keyed}{p u q:List Keyed}{i j:Nat}(e:arr.toList=p++u++q)(hi:p.length=i)(hj:i+u.length=j):(arr.extract i j).toList=u:=by
 rw[a3f,e,List.append_assoc,← hi,List.drop_left',← hj]
 ·rw[show i+u.length-p.length=u.length by omega,List.take_left']
  rfl
 ·rfl
theorem Srt.right{l m:List Keyed}(h:Srt lt (l++m)):Srt lt m:=(List.pairwise_append.mp h).2.1
theorem a9b{arr:Array Keyed}{p u q:List Keyed}{i j:Nat}(e:arr.toList=p++u++q)(hi:p.length=i)(hj:j<u.length):arr[i+j]? = some u[j]:=by
 have h1:arr.toList[i+j]? = some u[j]:=by
  rw[e,List.append_assoc,List.getElem?_append_right '!',show i+j-p.length=j by omega,List.getElem?_append_left hj,List.getElem?_eq_getElem hj]
 rw[← Array.getElem?_toList]
 exact h1
theorem a6J{Q:Bool→SortSt→Prop}{i sa na sb nb pw pw':Nat}{pre U V post:List Keyed}(C:J0 prog w A s κ lt Dm)(T:TPK lt Dm)(hk:kindOf st=κ)(hf:failedOf st=none)
  (hp1:(pendingOf st)[i]? = some (sa,na,pw)) (hp2:(pendingOf st)[i+1]? = some (sb,nb,pw')) (e:(arrOf st).toList=pre++U++(V++post)) (l0:pre.length=sa) (l1:U.length=na) (l2:V.length=nb) (hsb:sa+na=sb) (ha:1≤na) (hb:1≤nb)
  (dU:∀x∈U,Dm x) (dV:∀x∈V,Dm x) (sU:Srt lt U) (sV:Srt lt V)
  (h:∀(arr':Array Keyed) (g:Nat) (W:List Keyed),W.Perm (U++V)→Srt lt W→arr'.toList=pre++W++post→Q true (SortSt.mk' κ arr' (((pendingOf st).setIfInBounds i (sa,na+nb,pw)).eraseIdxIfInBounds (i+1)) g none)) :
  wpS (model prog w) A E s (mergeAt' i) Q st:=by
 rw[a6I]
 refine wpS_bind (wpS_get ?_)
 rw[hp1,hp2]
 dsimp only
 refine wpS_bind (wpS_modify (f:=fun _=>setPending st (((pendingOf st).setIfInBounds i (sa,na+nb,pw)).eraseIdxIfInBounds (i+1))) ?_)
 have e':(arrOf st).toList=(pre++U)++V++post:=by rw[e];simp
 have lU:(pre++U).length=sb:=by rw[List.length_append];omega
 have aU:∀j (hj:j<U.length),(arrOf st)[sa+j]? = some U[j]:=fun j hj=>a9b e l0 hj
 have aV:∀j (hj:j<V.length),(arrOf st)[sb+j]? = some V[j]:=fun j hj=>a9b e' lU hj
 have hV0:0<V.length:=by omega
 have hUl:U.length-1<U.length:=by omega
 have dy:Dm V[0]:=dV _ (List.getElem_mem hV0)
 have dl:Dm U[U.length-1]:=dU _ (List.getElem_mem hUl)
 have done:∀st',SameG (setPending st (((pendingOf st).setIfInBounds i (sa,na+nb,pw)).eraseIdxIfInBounds (i+1))) st'→Srt lt (U++V)→Q true st':=fun st' g hs=>by
  have:=h (arrOf st) (gallopOf st') (U++V) (.refl _) hs (by rw[e];simp)
  obtain⟨g1,g2,g3,g4⟩:=g
  have e5:st'=SortSt.mk' κ (arrOf st) (((pendingOf st).setIfInBounds i (sa,na+nb,pw)).eraseIdxIfInBounds (i+1)) (gallopOf st') none:=by
   have a1:kindOf st'=κ:=g1.trans hk
   have a2:arrOf st'=arrOf st:=g2
   have a3:pendingOf st'=(((pendingOf st).setIfInBounds i (sa,na+nb,pw)).eraseIdxIfInBounds (i+1)):=g3
   have a4:failedOf st'=none:=g4.trans hf
   rw[← a1,← a2,← a3,← a4]
  rw[e5]
  exact this
 have x0:=aV 0 hV0
 rw[Nat.add_zero]at x0
 refine wpS_bind (B6 x0 (wpS_bind ?_))
 refine S5 C hk dy '!' (fun j=>!lt V[0] (U[j]?.getD V[0])) (fun j hj=>?_) (fun j k hjk hkn hb=>?_) fun k hk1 hk2 hk3=>?_
 ·have hj':j<U.length:=by omega
  exact⟨U[j],aU j hj',dU _ (List.getElem_mem hj'),by rw[List.getElem?_eq_getElem hj'];rfl⟩
 ·have hk':k<U.length:=by omega
  have hj':j<U.length:=by omega
  rw[List.getElem?_eq_getElem hk']at hb
  rw[List.getElem?_eq_getElem hj']
  have hb:(!lt V[0] U[k])=true:=hb
  have hb':lt V[0] U[k]=false:=by simpa using hb
  show(!lt V[0] U[j])=true
  rw[T.tr U[j] U[k] V[0] (dU _ (List.getElem_mem hj')) (dU _ (List.getElem_mem hk')) dy (D9 T dU sU hjk (List.getElem?_eq_getElem hj') (List.getElem?_eq_getElem hk')) hb']
  rfl
 dsimp only
 have low:∀j x,j<k→U[j]? = some x→lt V[0] x=false:=fun j x hj hx=>by
  have:=hk2 j hj
  rw[hx]at this
  have this:(!lt V[0] x)=true:=this
  simpa using this
 have high:∀j x,k≤j→U[j]? = some x→lt V[0] x=true:=fun j x hj hx=>by
  have hjl:=(List.getElem?_eq_some_iff.mp hx).1
  have:=hk3 j hj '!'
  rw[hx]at this
  have this:(!lt V[0] x)=false:=this
  simpa using this
 have v0:V[0]? = some V[0]:=List.getElem?_eq_getElem hV0
 by_cases z1:(na-k == 0)=true
 ·rw[if_pos z1]
  have z1':na-k=0:=by simpa using z1
  refine wpS_pure (done _ (.refl _) (sU.app sV fun x hx y hy=>?_))
  obtain⟨j,hj⟩:=List.mem_iff_getElem?.mp hx
  obtain⟨j2,hj2⟩:=List.mem_iff_getElem?.mp hy
  have hjl:=(List.getElem?_eq_some_iff.mp hj).1
  exact T.tr _ _ _ (dU x hx) dy (dV y hy) (low j x '!' hj) (D9 T dV sV (Nat.zero_le _) v0 hj2)
 rw[if_neg z1]
 have z1':na-k≠0:=by simpa using z1
 have ul:U[U.length-1]? = some U[U.length-1]:=List.getElem?_eq_getElem hUl
 have xl:=aU (U.length-1) hUl
 rw[show sa+(U.length-1)=sa+k+(na-k)-1 by omega]at xl
 refine wpS_bind (B6 xl (wpS_bind ?_))
 refine S5 C hk dl '!' (fun j=>lt (V[j]?.getD U[U.length-1]) U[U.length-1]) (fun j hj=>?_) (fun j k hjk hkn hb=>?_) fun n hn1 hn2 hn3=>?_
 ·have hj':j<V.length:=by omega
  exact⟨V[j],aV j hj',dV _ (List.getElem_mem hj'),by rw[List.getElem?_eq_getElem hj'];rfl⟩
 ·have hk':k<V.length:=by omega
  have hj':j<V.length:=by omega
  rw[List.getElem?_eq_getElem hk']at hb
  rw[List.getElem?_eq_getElem hj']
  have hb:lt V[k] U[U.length-1]=true:=hb
  show lt V[j] U[U.length-1]=true
  cases q:lt V[j] U[U.length-1]with
  | true=>rfl
  | false =>
   have:=T.tr _ V[j] V[k] dl (dV _ (List.getElem_mem hj')) (dV _ (List.getElem_mem hk')) q (D9 T dV sV hjk (List.getElem?_eq_getElem hj') (List.getElem?_eq_getElem hk'))
   rw[this]at hb;cases hb
 dsimp only
 have vlow:∀j y,j<n→V[j]? = some y→lt y U[U.length-1]=true:=fun j y hj hy=>by
  have:=hn2 j hj
  rw[hy]at this
  exact this
 have vhigh:∀j y,n≤j→V[j]? = some y→lt y U[U.length-1]=false:=fun j y hj hy=>by
  have hjl:=(List.getElem?_eq_some_iff.mp hy).1
  have:=hn3 j hj '!'
  rw[hy]at this
  exact this
 have ulast:∀x∈U,lt U[U.length-1] x=false:=fun x hx=>by
  obtain⟨j,hj⟩:=List.mem_iff_getElem?.mp hx
  have hjl:=(List.getElem?_eq_some_iff.mp hj).1
  exact D9 T dU sU '!' hj ul
 by_cases z2:(n == 0)=true
 ·rw[if_pos z2]
  have z2':n=0:=by simpa using z2
  refine wpS_pure (done _ (.refl _) (sU.app sV fun x hx y hy=>?_))
  obtain⟨j2,hj2⟩:=List.mem_iff_getElem?.mp hy
  exact T.tr _ _ _ (dU x hx) dl (dV y hy) (ulast x hx) (vhigh j2 y '!' hj2)
 rw[if_neg z2]
 have z2':n≠0:=by simpa using z2
 -- the parts
 have eU:U=U.take k++U.drop k:=(List.take_append_drop k U).symm
 have eV:V=V.take n++V.drop n:=(List.take_append_drop n V).symm
 have lk:(U.take k).length=k:=by rw[List.length_take];omega
 have ld:(U.drop k).length=na-k:=by rw[List.length_drop];omega
 have ln:(V.take n).length=n:=by rw[List.length_take];omega
 have exl:(arrOf st).toList=(pre++U.take k)++U.drop k++(V++post):=by
  rw[List.append_assoc pre (U.take k) (U.drop k),List.take_append_drop]
  exact e
 have eyl:(arrOf st).toList=(pre++U)++V.take n++(V.drop n++post):=by
  rw[List.append_assoc (pre++U) (V.take n),← List.append_assoc (V.take n),List.take_append_drop]
  exact e
 have ex:((arrOf st).extract (sa+k) sb).toList=U.drop k:=a5U exl (by rw[List.length_append,l0,lk]) (by rw[ld];omega)
 have ey:((arrOf st).extract sb (sb+n)).toList=V.take n:=a5U eyl lU (by rw[ln])
 have d2U:∀x∈U.drop k,Dm x:=fun x hx=>dU x (List.mem_of_mem_drop hx)
 have d2V:∀x∈V.take n,Dm x:=fun x hx=>dV x (List.mem_of_mem_take hx)
 have gtU:∀x∈U.drop k,lt V[0] x=true:=fun x hx=>by
  obtain⟨j,hj,e⟩:=K0 hx
  exact high j x hj e
 have ltV:∀y∈V.take n,lt y U[U.length-1]=true:=fun y hy=>by
  obtain⟨j,hj,e⟩:=G0 hy
  exact vlow j y hj e
 have xlast:(U.drop k)[(U.drop k).length-1]? = some U[U.length-1]:=by
  rw[List.getElem?_drop,ld,show k+(na-k-1)=U.length-1 by omega];exact ul
 have yfst:(V.take n)[0]? = some V[0]:=by rw[List.getElem?_take_of_lt '!'];exact v0
 have sx:((arrOf st).extract (sa+k) sb).size=(U.drop k).length:=by rw[← Array.length_toList,ex]
 have sy:((arrOf st).extract sb (sb+n)).size=(V.take n).length:=by rw[← Array.length_toList,ey]
 have fin:∀(r:Array Keyed) (st':SortSt),SameG (setPending st (((pendingOf st).setIfInBounds i (sa,na+nb,pw)).eraseIdxIfInBounds (i+1))) st'→B2 lt ((arrOf st).extract (sa+k) sb).toList ((arrOf st).extract sb (sb+n)).toList r.toList →
   wpS (model prog w) A E s (do
    modify fun s=>setArr s (r.toList.zipIdx.foldl (fun a (p,j)=>a.setIfInBounds (sa+k+j) p) (arrOf s))
    let __do_lift ← get
    pure (failedOf __do_lift).isNone) Q st':=fun r st' g ⟨gp,gs⟩=>by
  rw[ex,ey]at gp
  obtain⟨g1,g2,g3,g4⟩:=g
  refine wpS_bind (wpS_modify ?_)
  refine wpS_bind (wpS_get (wpS_pure ?_))
  have hrl:r.toList.length=(na-k)+n:=by rw[gp.length_eq,List.length_append,ld,ln]
  have hsz:(arrOf st).size=sa+na+(nb+post.length):=by
   rw[← Array.length_toList,e];simp only[List.length_append];omega
  have fs:=a5T (sa+k) r.toList 0 (arrOf st) (by rw[hrl];omega)
  have e1:(arrOf st).toList.take (sa+k+0)=pre++U.take k:=by
   rw[Nat.add_zero,e,List.append_assoc,List.take_append,l0,show sa+k-sa=k by omega,List.take_of_length_le '!',List.take_append,show k-U.length=0 by omega,List.take_zero,List.append_nil]
  have e2:(arrOf st).toList.drop (sa+k+0+r.toList.length)=V.drop n++post:=by
   rw[hrl,show sa+k+0+(na-k+n)=sb+n by omega,e',List.append_assoc,List.drop_append,lU,show sb+n-sb=n by omega,List.drop_eq_nil_of_le '!',List.nil_append,List.drop_append,show n-V.length=0 by omega,List.drop_zero]
  rw[e1,e2]at fs
  have hW:=h ((r.toList.zipIdx.foldl (fun a (q:Keyed×Nat)=>a.setIfInBounds (sa+k+q.2) q.1) (arrOf st))) (gallopOf st') (U.take k++r.toList++V.drop n) ?_ ?_ ?_
  ·have e5:setArr st' (r.toList.zipIdx.foldl (fun a (q:Keyed×Nat)=>a.setIfInBounds (sa+k+q.2) q.1) (arrOf st'))=SortSt.mk' κ (r.toList.zipIdx.foldl (fun a (q:Keyed×Nat)=>a.setIfInBounds (sa+k+q.2) q.1) (arrOf st)) (((pendingOf st).setIfInBounds i (sa,na+nb,pw)).eraseIdxIfInBounds (i+1)) (gallopOf st') none:=by
    have a1:kindOf st'=κ:=g1.trans hk
    have a2:arrOf st'=arrOf st:=g2
    have a3:pendingOf st'=_:=g3
    have a4:failedOf st'=none:=g4.trans hf
    show SortSt.mk' (kindOf st') _ (pendingOf st') (gallopOf st') (failedOf st')=_
    rw[a1,a2,a3,a4]
   have e6:(failedOf (setArr st' (r.toList.zipIdx.foldl (fun a (q:Keyed×Nat)=>a.setIfInBounds (sa+k+q.2) q.1) (arrOf st')))).isNone=true:=by
    show(failedOf st').isNone=true
    rw[show failedOf st'=none from g4.trans hf];rfl
   show Q (failedOf (setArr st' (r.toList.zipIdx.foldl (fun a (q:Keyed×Nat)=>a.setIfInBounds (sa+k+q.2) q.1) (arrOf st')))).isNone (setArr st' (r.toList.zipIdx.foldl (fun a (q:Keyed×Nat)=>a.setIfInBounds (sa+k+q.2) q.1) (arrOf st')))
   rw[e6,e5]
   exact hW
  ·refine((gp.append_left (U.take k)).append_right (V.drop n)).trans ?_
   have e7:U.take k++(U.drop k++V.take n)++V.drop n=U++V:=by
    rw[← List.append_assoc (U.take k),List.take_append_drop,List.append_assoc,List.take_append_drop]
   rw[e7]
  ·have inR:∀x∈r.toList,x∈U.drop k∨x∈V.take n:=fun x hx=>List.mem_append.mp (gp.mem_iff.mp hx)
   refine Srt.app (Srt.app (sU.take k) gs fun x hx y hy=>?_) (sV.drop n) fun x hx y hy=>?_
   ·obtain⟨j,hj,ej⟩:=G0 hx
    have dx:=dU x (List.mem_of_mem_take hx)
    rcases inR y hy with q | q
    ·obtain⟨j2,hj2,ej2⟩:=K0 q
     exact D9 T dU sU '!' ej ej2
    ·obtain⟨j2,hj2,ej2⟩:=G0 q
     exact T.tr _ _ _ dx dy (d2V y q) (low j x hj ej) (D9 T dV sV (Nat.zero_le _) v0 ej2)
   ·obtain⟨j2,hj2,ej2⟩:=K0 hy
    have dY:=dV y (List.mem_of_mem_drop hy)
    rcases List.mem_append.mp hx with hx | hx
    ·have dx:=dU x (List.mem_of_mem_take hx)
     exact T.tr _ _ _ dx dl dY (ulast x (List.mem_of_mem_take hx)) (vhigh j2 y hj2 ej2)
    ·rcases inR x hx with q | q
     ·exact T.tr _ _ _ (d2U x q) dl dY (ulast x (List.mem_of_mem_drop q)) (vhigh j2 y hj2 ej2)
     ·obtain⟨j3,hj3,ej3⟩:=G0 q
      exact D9 T dV sV '!' ej3 ej2
  ·show(List.foldl _ (arrOf st) r.toList.zipIdx).toList=_
   refine Eq.trans fs ?_
   simp
 by_cases z3:na-k≤n
 ·rw[if_pos z3]
  refine wpS_bind (a6F C ⟨T,by rw[ex];exact d2U,by rw[ey];exact d2V,by rw[ex];exact sU.drop k,by rw[ey];exact sV.take n,fun y hy x hx=>?_⟩ hk (by rw[sx,ld];omega) (by rw[sy,ln];omega) (fun x y hx hy=>?_) fin)
  ·rw[ey]at hy
   rw[ex,sx,xlast]at hx
   cases hx
   exact T.asy _ _ (d2V y hy) dl (ltV y hy)
  ·rw[ex]at hx
   rw[ey,yfst]at hy
   cases hy
   exact T.asy _ _ dy (d2U x (List.mem_of_getElem? hx)) (gtU x (List.mem_of_getElem? hx))
 ·rw[if_neg z3]
  refine wpS_bind (a6H C ⟨T,by rw[ex];exact d2U,by rw[ey];exact d2V,by rw[ex];exact sU.drop k,by rw[ey];exact sV.take n,fun x hx y hy=>?_⟩ hk (by rw[sx,ld];omega) (by rw[sy,ln];omega) (fun x y hx hy=>?_) fin)
  ·rw[ex]at hx
   rw[ey,yfst]at hy
   cases hy
   exact T.asy _ _ dy (d2U x hx) (gtU x hx)
  ·rw[ex,sx,xlast]at hx
   cases hx
   rw[ey]at hy
   exact T.asy _ _ (d2V y (List.mem_of_getElem? hy)) dl (ltV y (List.mem_of_getElem? hy))
end
theorem a5f(lo nrem:Nat):countRun' lo nrem=(do
 let mut n:=1
 for _ in [1:nrem]do
  let some smaller ← ltAt' (lo+n) (lo+n-1) | return none
  if smaller then break
  n:=n+1
 if n == nrem then return some n
 if n > 1 then
  let some rose ← ltAt' lo (lo+n-1) | return none
  if rose then return some n
  reverseSlice' lo (lo+n)
 rule "list.sort.descending-run"
 n:=n+1
 let mut neq:=0
 for _ in [n:nrem]do
  let some smaller ← ltAt' (lo+n) (lo+n-1) | return none
  if smaller then
   if neq > 0 then reverseSlice' (lo+n-(neq+1)) (lo+n)
   neq:=0
  else
   let some larger ← ltAt' (lo+n-1) (lo+n) | return none
   if larger then break
   neq:=neq+1
  n:=n+1
 if neq > 0 then reverseSlice' (lo+n-(neq+1)) (lo+n)
 reverseSlice' lo (lo+n)
 for _ in [n:nrem]do
  let some smaller ← ltAt' (lo+n) (lo+n-1) | return none
  if smaller then break
  n:=n+1
 return some n):=rfl
theorem a3M(lo n ok:Nat):binarySort' lo n ok=(do
 for k in [max ok 1:n]do
  let mut l:=0
  let mut r:=k
  for _ in [0:k]do
   if l≥r then break
   let m:=(l+r)/2
   let some less ← ltAt' (lo+k) (lo+m) | return false
   if less then r:=m else l:=m+1
  moveDown' (lo+k) (lo+l)
 return true):=rfl
def gk(p:Array Keyed)(k:Nat):Keyed:=p.getD k (Value.none,Value.none)
theorem a2H{p:Array Keyed}{k:Nat}(h:k<p.size):p[k]? = some (gk p k):=by unfold gk;simp[Array.getD,h]
theorem a3N(p:Array Keyed)(k:Nat):gk p k=(p[k]?).getD (Value.none,Value.none):=by unfold gk;simp[Array.getD_eq_getD_getElem?]
abbrev O9(p:Array Keyed)(i j:Nat):Array Keyed:=mirror p i j ((j-i)/2)
theorem a2g{p:Array Keyed}{i j:Nat}(hj:j≤p.size)(k:Nat):gk (O9 p i j) k=if i≤k∧k<j then gk p (i+j-1-k)else gk p k:=by
 rw[a3N,O9,getElem?_mirror_all hj]
 split<;>rw[a3N]
theorem a9c{p:Array Keyed}{src d:Nat}(hs:src<p.size)(hd:d≤src)(k:Nat):gk (bubble p src d) k=if k=src-d then gk p src else if src-d<k∧k≤src then gk p (k-1)else gk p k:=by
 rw[a3N,getElem?_bubble hs d hd]
 split
 ·rw[a3N]
 ·split<;>rw[a3N]
structure Rst(a0:Array Keyed)(lo hi:Nat)(a:Array Keyed):Prop where
 pm:a.Perm a0
 out:∀x,(x<lo∨hi≤x)→gk a x=gk a0 x
theorem Rst.refl(a:Array Keyed)(lo hi:Nat):Rst a lo hi a:=⟨.refl _,fun _ _=>rfl⟩
theorem Rst.size{a0 a:Array Keyed}{lo hi:Nat}(h:Rst a0 lo hi a):a.size=a0.size:=h.pm.size_eq
theorem Rst.rev{a0 a:Array Keyed}{lo hi i j:Nat}(h:Rst a0 lo hi a)(hi':lo≤i)(hj:j≤hi)(hs:hi≤a0.size):Rst a0 lo hi (O9 a i j) :=
 ⟨(mirror_perm _ _ _ _).trans h.pm,fun x hx=>by rw[a2g (by rw[h.size];omega),if_neg '!'];exact h.out x hx⟩
theorem Rst.bub{a0 a:Array Keyed}{lo hi src d:Nat}(h:Rst a0 lo hi a)(h1:lo≤src-d)(hd:d≤src)(h2:src<hi)(hs:hi≤a0.size):Rst a0 lo hi (bubble a src d) :=
 ⟨(bubble_perm _ _ _).trans h.pm,fun x hx=>by rw[a9c (by rw[h.size];omega) hd,if_neg '!',if_neg '!'];exact h.out x hx⟩
structure StR(st0:SortSt)(lo hi:Nat)(st:SortSt):Prop where
 k:kindOf st=kindOf st0
 p:pendingOf st=pendingOf st0
 f:failedOf st=failedOf st0
 r:Rst (arrOf st0) lo hi (arrOf st)
def UpK(lt:Keyed→Keyed→Bool)(p:Array Keyed)(lo m:Nat):Prop:=∀i j,i≤j→j<m→lt (gk p (lo+j)) (gk p (lo+i))=false
def DnK(lt:Keyed→Keyed→Bool)(p:Array Keyed)(lo m:Nat):Prop:=∀i j,i≤j→j<m→lt (gk p (lo+i)) (gk p (lo+j))=false
abbrev b51(lo:Nat):Nat→(Option (Option Nat)×Nat)→StateT SortSt Sem (ForInStep (Option (Option Nat)×Nat)):=fun x __s=>do
 let __x ← ltAt' (lo+__s.snd) (lo+__s.snd-1)
 match __x with
  | some smaller =>
   if smaller=true then pure (ForInStep.done (none,__s.snd))
   else pure (ForInStep.yield (none,__s.snd+1))
  | x=>pure (ForInStep.done (some none,__s.snd))
noncomputable abbrev b52(lo:Nat):Nat→(Option (Option Nat)×Nat×Nat)→StateT SortSt Sem (ForInStep (Option (Option Nat)×Nat×Nat)):=fun x __s=>do
 let __x ← ltAt' (lo+__s.snd.fst) (lo+__s.snd.fst-1)
 match __x with
  | some smaller =>
   if smaller=true then
    if __s.snd.snd > 0 then do
     reverseSlice' (lo+__s.snd.fst-(__s.snd.snd+1)) (lo+__s.snd.fst)
     pure (ForInStep.yield (none,__s.snd.fst+1,0))
    else pure (ForInStep.yield (none,__s.snd.fst+1,0))
   else do
    let __x ← ltAt' (lo+__s.snd.fst-1) (lo+__s.snd.fst)
    match __x with
     | some larger =>
      if larger=true then pure (ForInStep.done (none,__s.snd.fst,__s.snd.snd))
      else pure (ForInStep.yield (none,__s.snd.fst+1,__s.snd.snd+1))
     | x=>pure (ForInStep.done (some none,__s.snd.fst,__s.snd.snd))
  | x=>pure (ForInStep.done (some none,__s.snd.fst,__s.snd.snd))
section
variable {prog:Program}{w:World}{A:Around}{E:Value→Shared→Prop}{s:Shared}{κ:SortKind}{lt:Keyed→Keyed→Bool}{Dm:Keyed→Prop}{st0 st:SortSt}{lo n m:Nat}
theorem StR.dmk(R:StR st0 lo m st)(hD:∀x∈(arrOf st0).toList,Dm x){i:Nat}(hi:i<(arrOf st0).size):Dm (gk (arrOf st) i):=by
 refine hD _ (R.r.pm.mem_iff.mp ?_ |> Array.mem_toList_iff.mpr)
 have hs:i<(arrOf st).size:=by rw[R.r.size];exact hi
 have:=a2H hs
 rw[Array.getElem?_eq_getElem hs]at this
 rw[← Option.some.inj this]
 exact Array.getElem_mem hs
theorem a2h{i j:Nat}{Q:Option Bool→SortSt→Prop}(C:J0 prog w A s κ lt Dm)(hk:kindOf st=κ)(hi:i<(arrOf st).size)(hj:j<(arrOf st).size)(di:Dm (gk (arrOf st) i))(dj:Dm (gk (arrOf st) j))(h:Q (some (lt (gk (arrOf st) i) (gk (arrOf st) j))) st):wpS (model prog w) A E s (ltAt' i j) Q st:=by
 rw[ltAt'_eq]
 refine wpS_bind (wpS_get ?_)
 exact wpS_bind (B6 (a2H hi) (wpS_bind (B6 (a2H hj) (a2f C hk di dj h))))
theorem Z8{i j:Nat}{Q:Unit→SortSt→Prop}(h:Q () (setArr st (O9 (arrOf st) i j))):wpS (model prog w) A E s (reverseSlice' i j) Q st:=by
 rw[reverseSlice'_eq]
 exact wpS_modify h
theorem StR.rev{hi i j:Nat}(R:StR st0 lo hi st)(h1:lo≤i)(h2:j≤hi)(hs:hi≤(arrOf st0).size):StR st0 lo hi (setArr st (O9 (arrOf st) i j)):=⟨R.k,R.p,R.f,R.r.rev h1 h2 hs⟩
theorem a2i{a:Nat}{Q:Option (Option Nat)×Nat→SortSt→Prop}(C:J0 prog w A s κ lt Dm)(T:TPK lt Dm)(hk:kindOf st0=κ)(hD:∀x∈(arrOf st0).toList,Dm x)(R:StR st0 lo (lo+n) st)(hs:lo+n≤(arrOf st0).size)(h1:1≤a)(h2:a≤n)(u:UpK lt (arrOf st) lo a)
  (h:∀m,a≤m→m≤n→UpK lt (arrOf st) lo m→(m<n→lt (gk (arrOf st) (lo+m)) (gk (arrOf st) (lo+m-1))=true)→Q (none,m) st):wpS (model prog w) A E s (forIn [a:n] (none,a) (b51 lo)) Q st:=by
 have dm:∀i,i<lo+n→Dm (gk (arrOf st) i):=fun i hi=>R.dmk hD '!'
 have sz:=R.r.size
 refine wpS_forRange (fun i (c:Option (Option Nat)×Nat) st'=>c.1=none∧c.2=i∧st'=st∧UpK lt (arrOf st) lo i) ?_ ?_ ⟨rfl,rfl,rfl,u⟩
 ·rintro i ⟨c0,c1⟩ st' hi1 hi2 ⟨e0,e1,rfl,u⟩
  dsimp only at e0 e1
  subst e0 e1
  refine wpS_bind (a2h C (R.k.trans hk) (by show lo+c1<_;omega) (by show lo+c1-1<_;omega) (dm _ (by show lo+c1<_;omega)) (dm _ (by show lo+c1-1<_;omega)) ?_)
  dsimp only
  cases c:lt (gk (arrOf st') (lo+c1)) (gk (arrOf st') (lo+c1-1))with
  | true =>
   rw[if_pos rfl]
   exact wpS_pure (h c1 hi1 '!' u fun _=>c)
  | false =>
   rw[if_neg (by simp)]
   refine wpS_pure ⟨rfl,rfl,rfl,fun i j hij hj=>?_⟩
   by_cases hjk:j<c1
   ·exact u i j hij hjk
   ·have e:j=c1:=by omega
    subst e
    by_cases hik:i=j
    ·subst hik;exact T.irr _ (dm _ '!')
    ·have:=u i (j-1) '!' '!'
     rw[show lo+(j-1)=lo+j-1 by omega]at this
     exact T.tr _ _ _ (dm _ '!') (dm _ '!') (dm _ '!') this c
 ·rintro⟨c0,c1⟩ st' ⟨e0,e1,rfl,u⟩
  dsimp only at e0 e1
  have e2:max a n=n:=by omega
  rw[e2]at e1 u
  subst e0 e1
  exact h c1 h2 (Nat.le_refl _) u fun z=>absurd z '!'
theorem a1A(hs:lo+m≤(arrOf st).size)(d:DnK lt (arrOf st) lo m):UpK lt (arrOf (setArr st (O9 (arrOf st) lo (lo+m)))) lo m:=fun i j hij hj=>by
 have gr:=a2g (p:=arrOf st) (i:=lo) (j:=lo+m) hs
 show lt (gk (O9 (arrOf st) lo (lo+m)) (lo+j)) (gk (O9 (arrOf st) lo (lo+m)) (lo+i))=false
 rw[gr,gr,if_pos '!',if_pos '!',show lo+(lo+m)-1-(lo+j)=lo+(m-1-j) by omega,show lo+(lo+m)-1-(lo+i)=lo+(m-1-i) by omega]
 exact d _ _ '!' '!'
def Alk(lt:Keyed→Keyed→Bool)(p:Array Keyed)(lo k q:Nat):Prop:=∀i,k-(q+1)≤i→i<k→lt (gk p (lo+(k-1))) (gk p (lo+i))=false∧lt (gk p (lo+i)) (gk p (lo+(k-1)))=false
theorem a5V{hi k q:Nat}(T:TPK lt Dm)(hD:∀x∈(arrOf st0).toList,Dm x)(R:StR st0 lo hi st)(hs:hi≤(arrOf st0).size)(hk:lo+k≤hi)(hq:q+1≤k)(d:DnK lt (arrOf st) lo k)(al:Alk lt (arrOf st) lo k q) :
  DnK lt (O9 (arrOf st) (lo+k-(q+1)) (lo+k)) lo k∧∀i,i<k→lt (gk (O9 (arrOf st) (lo+k-(q+1)) (lo+k)) (lo+i)) (gk (arrOf st) (lo+(k-1)))=false:=by
 have sz:=R.r.size
 have dm:∀i,i<k→Dm (gk (arrOf st) (lo+i)):=fun i hi=>R.dmk hD '!'
 have gr:=a2g (p:=arrOf st) (i:=lo+k-(q+1)) (j:=lo+k) '!'
 have at_:∀i,i<k→∃j,j<k∧gk (O9 (arrOf st) (lo+k-(q+1)) (lo+k)) (lo+i)=gk (arrOf st) (lo+j)∧(j=i∨(k-(q+1)≤i∧k-(q+1)≤j)):=fun i hi=>by
  rw[gr]
  split
  ·exact⟨k-(q+1)+k-1-i,by omega,by congr 1;omega,.inr ⟨by omega,by omega⟩⟩
  ·exact⟨i,hi,rfl,.inl rfl⟩
 have eqv:∀i,i<k→lt (gk (O9 (arrOf st) (lo+k-(q+1)) (lo+k)) (lo+i)) (gk (arrOf st) (lo+i))=false∧lt (gk (arrOf st) (lo+i)) (gk (O9 (arrOf st) (lo+k-(q+1)) (lo+k)) (lo+i))=false:=fun i hi=>by
  obtain⟨j,hj,e,z⟩:=at_ i hi
  rw[e]
  rcases z with rfl | ⟨z1,z2⟩
  ·exact⟨T.irr _ (dm _ hi),T.irr _ (dm _ hi)⟩
  ·have a:=al i z1 hi
   have b:=al j z2 hj
   exact⟨T.tr _ _ _ (dm _ hi) (dm _ '!') (dm _ hj) a.1 b.2,T.tr _ _ _ (dm _ hj) (dm _ '!') (dm _ hi) b.1 a.2⟩
 have dr:∀i,i<k→Dm (gk (O9 (arrOf st) (lo+k-(q+1)) (lo+k)) (lo+i)):=fun i hi=>by
  obtain⟨j,hj,e,_⟩:=at_ i hi
  rw[e];exact dm j hj
 refine⟨fun i j hij hj=>?_,fun i hi=>?_⟩
 ·exact T.tr _ _ _ (dr j hj) (dm i '!') (dr i '!') (T.tr _ _ _ (dr j hj) (dm j hj) (dm i '!') (eqv j hj).2 (d i j hij hj)) (eqv i '!').1
 ·exact T.tr _ _ _ (dm _ '!') (dm i hi) (dr i hi) (d i (k-1) '!' '!') (eqv i hi).1
theorem a9d{a:Nat}{Q:Option (Option Nat)×Nat×Nat→SortSt→Prop}(C:J0 prog w A s κ lt Dm)(T:TPK lt Dm)(hk:kindOf st0=κ)(hD:∀x∈(arrOf st0).toList,Dm x)(R:StR st0 lo (lo+n) st)(hs:lo+n≤(arrOf st0).size)(h1:1≤a)(h2:a≤n)(d:DnK lt (arrOf st) lo a)
  (h:∀k q st',a≤k→k≤n→q+1≤k→StR st0 lo (lo+n) st'→DnK lt (arrOf st') lo k→Alk lt (arrOf st') lo k q→Q (none,k,q) st'):wpS (model prog w) A E s (forIn [a:n] (none,a,0) (b52 lo)) Q st:=by
 refine wpS_forRange (fun i (c:Option (Option Nat)×Nat×Nat) st'=>c.1=none∧c.2.1=i∧c.2.2+1≤i∧StR st0 lo (lo+n) st'∧DnK lt (arrOf st') lo i∧Alk lt (arrOf st') lo i c.2.2) ?_ ?_ ⟨rfl,rfl,h1,R,d,fun i h1 h2=>?_⟩
 ·rintro i ⟨c0,k,q⟩ st1 hi1 hi2 ⟨e0,e1,hq,R1,d1,al⟩
  dsimp only at e0 e1 hq al
  subst e0 e1
  have sz:=R1.r.size
  have dm:∀i,i<lo+n→Dm (gk (arrOf st1) i):=fun i hi=>R1.dmk hD '!'
  refine wpS_bind (a2h C (R1.k.trans hk) (by show lo+k<_;omega) (by show lo+k-1<_;omega) (dm _ (by show lo+k<_;omega)) (dm _ (by show lo+k-1<_;omega)) ?_)
  dsimp only
  have ek:lo+k-1=lo+(k-1):=by omega
  rw[ek]
  have ext:∀p':Array Keyed,(∀i,i<k+1→Dm (gk p' (lo+i)))→DnK lt p' lo k→(∀i,i<k→lt (gk p' (lo+i)) (gk p' (lo+k))=false)→DnK lt p' lo (k+1):=fun p' dp d' c i j hij hj=>by
   by_cases hjk:j<k
   ·exact d' i j hij hjk
   ·have e:j=k:=by omega
    subst e
    by_cases hik:i=j
    ·subst hik;exact T.irr _ (dp _ '!')
    ·exact c i '!'
  have one:∀p':Array Keyed,(∀i,i<k+1→Dm (gk p' (lo+i)))→Alk lt p' lo (k+1) 0:=fun p' dp i h1 h2=>by
   have e:i=k+1-1:=by omega
   rw[e];exact⟨T.irr _ (dp _ '!'),T.irr _ (dp _ '!')⟩
  cases c:lt (gk (arrOf st1) (lo+k)) (gk (arrOf st1) (lo+(k-1)))with
  | true =>
   rw[if_pos rfl]
   have c':=T.asy _ _ (dm _ '!') (dm _ '!') c
   by_cases hq0:q > 0
   ·rw[if_pos hq0]
    obtain⟨dr,low⟩:=a5V T hD R1 hs '!' hq d1 al
    have R2:=R1.rev (i:=lo+k-(q+1)) (j:=lo+k) '!' '!' hs
    have gr:=a2g (p:=arrOf st1) (i:=lo+k-(q+1)) (j:=lo+k) '!'
    have gkk:gk (O9 (arrOf st1) (lo+k-(q+1)) (lo+k)) (lo+k)=gk (arrOf st1) (lo+k):=by rw[gr,if_neg '!']
    have dp:∀i,i<k+1→Dm (gk (O9 (arrOf st1) (lo+k-(q+1)) (lo+k)) (lo+i)):=fun i hi=>R2.dmk hD '!'
    refine wpS_bind (Z8 (wpS_pure ⟨rfl,rfl,by show 0+1≤k+1;omega,R2,?_,one _ dp⟩))
    exact ext _ dp dr fun i hi=>by
     rw[gkk]
     exact T.tr _ _ _ (dm _ '!') (dm _ '!') (dp i '!') c' (low i hi)
   ·rw[if_neg hq0]
    have dp:∀i,i<k+1→Dm (gk (arrOf st1) (lo+i)):=fun i hi=>dm _ '!'
    exact wpS_pure ⟨rfl,rfl,by show 0+1≤k+1;omega,R1,ext _ dp d1 fun i hi=>T.tr _ _ _ (dm _ '!') (dm _ '!') (dm _ '!') c' (d1 i (k-1) '!' '!'),one _ dp⟩
  | false =>
   rw[if_neg (by simp)]
   refine wpS_bind (a2h C (R1.k.trans hk) '!' '!' (dm _ '!') (dm _ '!') ?_)
   dsimp only
   cases e:lt (gk (arrOf st1) (lo+(k-1))) (gk (arrOf st1) (lo+k))with
   | true =>
    rw[if_pos rfl]
    exact wpS_pure (h k q st1 hi1 '!' hq R1 d1 al)
   | false =>
    rw[if_neg (by simp)]
    refine wpS_pure ⟨rfl,rfl,by show q+1+1≤k+1;omega,R1,ext _ (fun i hi=>dm _ '!') d1 (fun i hi=>T.tr _ _ _ (dm _ '!') (dm _ '!') (dm _ '!') e (d1 i (k-1) '!' '!')),fun i h1 h2=>?_⟩
    have h1:k+1-(q+1+1)≤i:=h1
    rw[Nat.add_sub_cancel]
    by_cases hik:i=k
    ·subst hik;exact⟨T.irr _ (dm _ '!'),T.irr _ (dm _ '!')⟩
    ·have a:=al i '!' '!'
     exact⟨T.tr _ _ _ (dm _ '!') (dm _ '!') (dm _ '!') a.1 c,T.tr _ _ _ (dm _ '!') (dm _ '!') (dm _ '!') e a.2⟩
 ·rintro⟨c0,k,q⟩ st1 ⟨e0,e1,hq,R1,d1,al⟩
  dsimp only at e0 e1 hq al
  have e2:max a n=n:=by omega
  rw[e2]at e1 hq d1 al
  subst e0 e1
  exact h k q st1 h2 (Nat.le_refl _) hq R1 d1 al
 ·have h1':a-(0+1)≤i:=h1
  have e:i=a-1:=by omega
  subst e
  exact⟨T.irr _ (R.dmk hD '!'),T.irr _ (R.dmk hD '!')⟩
theorem a9e{Q:Option Nat→SortSt→Prop}(C:J0 prog w A s κ lt Dm)(T:TPK lt Dm)(hk:kindOf st=κ)(hD:∀x∈(arrOf st).toList,Dm x)(hs:lo+n≤(arrOf st).size)(hn:1≤n)
  (h:∀k st',1≤k→k≤n→StR st lo (lo+n) st'→UpK lt (arrOf st') lo k→Q (some k) st'):wpS (model prog w) A E s (countRun' lo n) Q st:=by
 have R:StR st lo (lo+n) st:=⟨rfl,rfl,rfl,.refl _ _ _⟩
 have dm:∀i,i<lo+n→Dm (gk (arrOf st) i):=fun i hi=>R.dmk hD '!'
 rw[a5f]
 refine wpS_bind (a2i C T hk hD R hs (Nat.le_refl _) hn (fun i j hij hj=>?_) fun m m1 m2 u z=>?_)
 ·have e:i=j:=by omega
  rw[e];exact T.irr _ (dm _ '!')
 dsimp only
 by_cases y:(m == n)=true
 ·rw[if_pos y]
  exact wpS_pure (h m st m1 m2 R u)
 rw[if_neg y]
 have y':m≠n:=by simpa using y
 have zl:=z '!'
 rw[show lo+m-1=lo+(m-1) by omega]at zl
 by_cases m0:m > 1
 ·rw[if_pos m0]
  refine wpS_bind (a2h C hk '!' '!' (dm _ '!') (dm _ '!') ?_)
  dsimp only
  rw[show lo+m-1=lo+(m-1) by omega]
  cases c:lt (gk (arrOf st) lo) (gk (arrOf st) (lo+(m-1)))with
  | true =>
   rw[if_pos rfl]
   exact wpS_pure (h m st m1 m2 R u)
  | false =>
   rw[if_neg (by simp)]
   refine wpS_bind (Z8 ?_)
   have R2:=R.rev (i:=lo) (j:=lo+m) (Nat.le_refl _) '!' hs
   have gr:=a2g (p:=arrOf st) (i:=lo) (j:=lo+m) '!'
   have c0:lt (gk (arrOf st) (lo+0)) (gk (arrOf st) (lo+(m-1)))=false:=c
   have all:∀a b,a<m→b<m→lt (gk (arrOf st) (lo+a)) (gk (arrOf st) (lo+b))=false:=fun a b ha hb =>
    T.tr _ _ _ (dm _ '!') (dm _ '!') (dm _ '!') (u b (m-1) '!' '!') (T.tr _ _ _ (dm _ '!') (dm _ '!') (dm _ '!') c0 (u 0 a '!' ha))
   have dn:DnK lt (arrOf (setArr st (O9 (arrOf st) lo (lo+m)))) lo (m+1):=fun i j hij hj=>by
    show lt (gk (O9 (arrOf st) lo (lo+m)) (lo+i)) (gk (O9 (arrOf st) lo (lo+m)) (lo+j))=false
    rw[gr,gr]
    by_cases hjm:j<m
    ·rw[if_pos '!',if_pos '!',show lo+(lo+m)-1-(lo+i)=lo+(m-1-i) by omega,show lo+(lo+m)-1-(lo+j)=lo+(m-1-j) by omega]
     exact all _ _ '!' '!'
    ·have e:j=m:=by omega
     subst e
     rw[if_neg (show ¬(lo≤lo+j∧lo+j<lo+j) by omega)]
     by_cases hij':i=j
     ·subst hij';rw[if_neg '!'];exact T.irr _ (dm _ '!')
     ·rw[if_pos '!',show lo+(lo+j)-1-(lo+i)=lo+(j-1-i) by omega]
      exact T.tr _ _ _ (dm _ '!') (dm _ '!') (dm _ '!') (T.asy _ _ (dm _ '!') (dm _ '!') zl) (all _ _ '!' '!')
   refine wpS_bind (wpS_lift (wpAny_rule ⟨rfl,?_⟩))
   refine wpS_bind (a9d C T hk hD R2 hs '!' '!' dn fun k q st1 k1 k2 hq R1 d1 al=>?_)
   have sz:=R1.r.size
   dsimp only
   by_cases q0:q > 0
   ·rw[if_pos q0]
    obtain⟨dr,_⟩:=a5V T hD R1 hs '!' hq d1 al
    have R3:=R1.rev (i:=lo+k-(q+1)) (j:=lo+k) '!' '!' hs
    have sz3:=R3.r.size
    have R4:=R3.rev (i:=lo) (j:=lo+k) (Nat.le_refl _) '!' hs
    refine wpS_bind (Z8 (wpS_bind (Z8 (wpS_bind (a2i C T hk hD R4 hs '!' k2 (a1A '!' dr) fun k4 a1 a2 u _=>wpS_pure (h k4 _ '!' a2 R4 u))))))
   ·rw[if_neg q0]
    have R4:=R1.rev (i:=lo) (j:=lo+k) (Nat.le_refl _) '!' hs
    refine wpS_bind (Z8 (wpS_bind (a2i C T hk hD R4 hs '!' k2 (a1A '!' d1) fun k4 a1 a2 u _=>wpS_pure (h k4 _ '!' a2 R4 u))))
 ·rw[if_neg m0]
  have e:m=1:=by omega
  subst e
  have dn:DnK lt (arrOf st) lo (1+1):=fun i j hij hj=>by
   by_cases hij':i=j
   ·subst hij';exact T.irr _ (dm _ '!')
   ·have e1:i=0:=by omega
    have e2:j=1:=by omega
    subst e1 e2
    exact T.asy _ _ (dm _ '!') (dm _ '!') zl
  refine wpS_bind (wpS_lift (wpAny_rule ⟨rfl,?_⟩))
  refine wpS_bind (a9d C T hk hD R hs '!' '!' dn fun k q st1 k1 k2 hq R1 d1 al=>?_)
  have sz:=R1.r.size
  dsimp only
  by_cases q0:q > 0
  ·rw[if_pos q0]
   obtain⟨dr,_⟩:=a5V T hD R1 hs '!' hq d1 al
   have R3:=R1.rev (i:=lo+k-(q+1)) (j:=lo+k) '!' '!' hs
   have sz3:=R3.r.size
   have R4:=R3.rev (i:=lo) (j:=lo+k) (Nat.le_refl _) '!' hs
   refine wpS_bind (Z8 (wpS_bind (Z8 (wpS_bind (a2i C T hk hD R4 hs '!' k2 (a1A '!' dr) fun k4 a1 a2 u _=>wpS_pure (h k4 _ '!' a2 R4 u))))))
  ·rw[if_neg q0]
   have R4:=R1.rev (i:=lo) (j:=lo+k) (Nat.le_refl _) '!' hs
   refine wpS_bind (Z8 (wpS_bind (a2i C T hk hD R4 hs '!' k2 (a1A '!' d1) fun k4 a1 a2 u _=>wpS_pure (h k4 _ '!' a2 R4 u))))
end
section
variable {prog:Program}{w:World}{A:Around}{E:Value→Shared→Prop}{s:Shared}{κ:SortKind}{lt:Keyed→Keyed→Bool}{Dm:Keyed→Prop}{st0 st:SortSt}{lo n ok hi:Nat}
theorem b0w{Q:Bool→SortSt→Prop}(C:J0 prog w A s κ lt Dm)(T:TPK lt Dm)(hk:kindOf st0=κ)(hD:∀x∈(arrOf st0).toList,Dm x)(R:StR st0 lo hi st)(hs:hi≤(arrOf st0).size)(hn:lo+n≤hi)(h1:1≤ok)(h2:ok≤n)(u:UpK lt (arrOf st) lo ok)
  (h:∀st',StR st0 lo hi st'→UpK lt (arrOf st') lo n→Q true st'):wpS (model prog w) A E s (binarySort' lo n ok) Q st:=by
 rw[a3M]
 rw[show max ok 1=ok by omega]
 refine wpS_bind (wpS_mono (wpS_forRange (fun k (c:Option Bool×Unit) st'=>c.1=none∧StR st0 lo hi st'∧UpK lt (arrOf st') lo k) (Q:=fun(c:Option Bool×Unit) st'=>c.1=none∧StR st0 lo hi st'∧UpK lt (arrOf st') lo n) ?_ ?_ ⟨rfl,R,u⟩) ?_)
 ·rintro k ⟨c0,c1⟩ st1 hk1 hk2 ⟨e0,R1,u1⟩
  have sz:=R1.r.size
  have dm:∀i,i<n→Dm (gk (arrOf st1) (lo+i)):=fun i hi=>R1.dmk hD '!'
  refine wpS_bind (a0e (fun(i:Nat) (c:Option Bool×Nat×Nat) st'=>c.1=none∧st'=st1∧c.2.1≤c.2.2∧c.2.2≤k∧(∀i,i<c.2.1→lt (gk (arrOf st1) (lo+k)) (gk (arrOf st1) (lo+i))=false)∧(∀i,c.2.2≤i→i<k→lt (gk (arrOf st1) (lo+i)) (gk (arrOf st1) (lo+k))=false)∧c.2.2-c.2.1≤k-i)
   (fun(c:Option Bool×Nat×Nat) st'=>c.1=none∧st'=st1∧c.2.1≤k∧(∀i,i<c.2.1→lt (gk (arrOf st1) (lo+k)) (gk (arrOf st1) (lo+i))=false)∧(∀i,c.2.1≤i→i<k→lt (gk (arrOf st1) (lo+i)) (gk (arrOf st1) (lo+k))=false)) ?_ ?_ ⟨rfl,rfl,Nat.zero_le _,Nat.le_refl _,fun i hi=>absurd hi (Nat.not_lt_zero _),fun i h1 h2=>by have h1:k≤i:=h1;omega,by show k-0≤k-0;omega⟩ ?_)
  ·rintro i ⟨d0,l,r⟩ st2 hi ⟨f0,rfl,a1,a2,a3,a4,a5⟩
   dsimp only at *
   by_cases z:l≥r
   ·rw[if_pos z]
    exact wpS_pure ⟨rfl,rfl,by show l≤k;omega,a3,fun i h1 h2=>a4 i (by have h1:l≤i:=h1;omega) h2⟩
   ·rw[if_neg z]
    refine wpS_bind (a2h C (R1.k.trans hk) '!' '!' (dm _ '!') (dm _ '!') ?_)
    dsimp only
    cases c:lt (gk (arrOf st2) (lo+k)) (gk (arrOf st2) (lo+(l+r)/2))with
    | true =>
     rw[if_pos rfl]
     refine wpS_pure ⟨rfl,rfl,by show l≤(l+r)/2;omega,by show(l+r)/2≤k;omega,a3,fun i h1 h2=>?_,by show(l+r)/2-l≤k-(i+1);omega⟩
     have h1:(l+r)/2≤i:=h1
     exact T.tr _ _ _ (dm _ '!') (dm _ '!') (dm _ '!') (T.asy _ _ (dm _ '!') (dm _ '!') c) (u1 ((l+r)/2) i h1 h2)
    | false =>
     rw[if_neg (by simp)]
     refine wpS_pure ⟨rfl,rfl,by show(l+r)/2+1≤r;omega,a2,fun i h1=>?_,a4,by show r-((l+r)/2+1)≤k-(i+1);omega⟩
     have h1:i<(l+r)/2+1:=h1
     exact T.tr _ _ _ (dm _ '!') (dm _ '!') (dm _ '!') (u1 i ((l+r)/2) '!' '!') c
  ·rintro⟨d0,l,r⟩ st2 ⟨f0,rfl,a1,a2,a3,a4,a5⟩
   dsimp only at *
   exact⟨f0,rfl,by show l≤k;omega,a3,fun i h1 h2=>a4 i (by have h1:l≤i:=h1;omega) h2⟩
  ·rintro⟨d0,l,r⟩ st2 ⟨f0,rfl,a1,a3,a4⟩
   dsimp only at *
   subst f0
   dsimp only
   rw[moveDown'_eq]
   refine wpS_bind (wpS_modify (wpS_pure ?_))
   have R2:StR st0 lo hi (setArr st2 (bubble (arrOf st2) (lo+k) (lo+k-(lo+l)))):=⟨R1.k,R1.p,R1.f,R1.r.bub '!' '!' '!' hs⟩
   refine⟨rfl,R2,fun i j hij hj=>?_⟩
   have gb:=a9c (p:=arrOf st2) (src:=lo+k) (d:=lo+k-(lo+l)) '!' '!'
   show lt (gk (bubble (arrOf st2) (lo+k) (lo+k-(lo+l))) (lo+j)) (gk (bubble (arrOf st2) (lo+k) (lo+k-(lo+l))) (lo+i))=false
   rw[gb,gb,show lo+k-(lo+k-(lo+l))=lo+l by omega]
   by_cases e:i=j
   ·subst e
    split
    ·exact T.irr _ (dm _ '!')
    ·split
     ·rw[show lo+i-1=lo+(i-1) by omega];exact T.irr _ (dm _ '!')
     ·exact T.irr _ (dm _ '!')
   by_cases hjl:j=l
   ·rw[if_pos '!',if_neg '!',if_neg '!'];exact a3 i '!'
   ·rw[if_neg (show ¬lo+j=lo+l by omega)]
    by_cases hil:i=l
    ·rw[if_pos '!',if_pos '!',show lo+j-1=lo+(j-1) by omega];exact a4 (j-1) '!' '!'
    ·rw[if_neg (show ¬lo+i=lo+l by omega)]
     by_cases h1:l<j∧j≤k
     ·rw[if_pos (show lo+l<lo+j∧lo+j≤lo+k by omega),show lo+j-1=lo+(j-1) by omega]
      by_cases h2:l<i∧i≤k
      ·rw[if_pos (show lo+l<lo+i∧lo+i≤lo+k by omega),show lo+i-1=lo+(i-1) by omega];exact u1 _ _ '!' '!'
      ·rw[if_neg (show ¬(lo+l<lo+i∧lo+i≤lo+k) by omega)];exact u1 _ _ '!' '!'
     ·rw[if_neg (show ¬(lo+l<lo+j∧lo+j≤lo+k) by omega),if_neg (show ¬(lo+l<lo+i∧lo+i≤lo+k) by omega)];exact u1 _ _ hij '!'
 ·rintro⟨c0,c1⟩ st1 ⟨e0,R1,u1⟩
  have e2:max ok n=n:=by omega
  rw[e2]at u1
  exact⟨e0,R1,u1⟩
 ·rintro⟨c0,c1⟩ st1 ⟨e0,R1,u1⟩
  dsimp only at e0
  subst e0
  exact wpS_pure (h st1 R1 u1)
end
def PRun(lt:Keyed→Keyed→Bool):List (Nat×Nat×Nat)→List (List Keyed)→Nat→Prop
 | [],[],_=>True
 | p::ps,S::ss,o=>p.1=o∧p.2.1=S.length∧1≤S.length∧Srt lt S∧PRun lt ps ss (o+S.length)
 | _,_,_=>False
section
variable {lt:Keyed→Keyed→Bool}
theorem PRun.len:∀{pl:List (Nat×Nat×Nat)} {segs:List (List Keyed)} {o:Nat},PRun lt pl segs o→pl.length=segs.length∧pl.length≤segs.flatten.length
 | [],[],_,_=>⟨rfl,Nat.le_refl _⟩
 | p::ps,S::ss,o,h=>by
  obtain⟨_,_,h1,_,h2⟩:=h
  have:=PRun.len h2
  simp only[List.length_cons,List.flatten_cons,List.length_append]
  omega
 | [],_::_,_,h=>h.elim
 | _::_,[],_,h=>h.elim
theorem PRun.snoc:∀{pl:List (Nat×Nat×Nat)} {segs:List (List Keyed)} {o:Nat} {c:Nat×Nat×Nat} {S:List Keyed},PRun lt pl segs o→c.1=o+segs.flatten.length→c.2.1=S.length→1≤S.length→Srt lt S→PRun lt (pl++[c]) (segs++[S]) o
 | [],[],o,c,S,_,h1,h2,h3,h4=>⟨by simpa using h1,h2,h3,h4,trivial⟩
 | p::ps,U::ss,o,c,S,h,h1,h2,h3,h4=>by
  obtain⟨a1,a2,a3,a4,a5⟩:=h
  refine⟨a1,a2,a3,a4,PRun.snoc a5 ?_ h2 h3 h4⟩
  rw[h1];simp only[List.flatten_cons,List.length_append];omega
 | [],_::_,_,_,_,h,_,_,_,_=>h.elim
 | _::_,[],_,_,_,h,_,_,_,_=>h.elim
theorem PRun.pow:∀{pl ql:List (Nat×Nat×Nat)} {segs:List (List Keyed)} {o:Nat},PRun lt pl segs o→pl.map (fun p=>(p.1,p.2.1))=ql.map (fun p=>(p.1,p.2.1))→PRun lt ql segs o
 | [],[],[],_,_,_=>trivial
 | p::ps,q::qs,S::ss,o,h,e=>by
  obtain⟨a1,a2,a3,a4,a5⟩:=h
  simp only[List.map_cons]at e
  injection e with e1 e2
  injection e1 with e1 e3
  exact⟨e1▸a1,e3▸a2,a3,a4,PRun.pow a5 e2⟩
 | [],_::_,_,_,_,e=>by cases e
 | _::_,[],_,_,_,e=>by cases e
 | [],[],_::_,_,h,_=>h.elim
 | _::_,_::_,[],_,h,_=>h.elim
theorem PRun.split:∀{pl:List (Nat×Nat×Nat)} {segs:List (List Keyed)} {o i:Nat},PRun lt pl segs o→i+1<pl.length→∃p1 a b p2 s1 U V s2,pl=p1++a::b::p2∧p1.length=i∧segs=s1++U::V::s2∧a.1=o+s1.flatten.length∧a.2.1=U.length∧b.1=a.1+U.length∧b.2.1=V.length∧1≤U.length∧1≤V.length∧Srt lt U∧Srt lt V ∧
  ∀(W:List Keyed) (c:Nat×Nat×Nat),W.length=U.length+V.length→Srt lt W→c.1=a.1→c.2.1=W.length→PRun lt (p1++c::p2) (s1++W::s2) o
 | p::q::ps,S::S'::ss,o,0,h,_=>by
  obtain⟨a1,a2,a3,a4,b1,b2,b3,b4,b5⟩:=h
  refine⟨[],p,q,ps,[],S,S',ss,rfl,rfl,rfl,by simpa using a1,a2,by omega,b2,a3,b3,a4,b4,fun W c hW hs h1 h2=>⟨by rw[h1];exact a1,h2,by omega,hs,?_⟩⟩
  rw[hW,← Nat.add_assoc]
  exact b5
 | p::ps,S::ss,o,i+1,h,hi=>by
  obtain⟨a1,a2,a3,a4,a5⟩:=h
  obtain⟨p1,a,b,p2,s1,U,V,s2,e1,e2,e3,e4,e5,e6,e7,e8,e9,e10,e11,e12⟩:=PRun.split a5 (i:=i) (by rw[List.length_cons]at hi;omega)
  refine⟨p::p1,a,b,p2,S::s1,U,V,s2,by rw[e1];rfl,by rw[List.length_cons,e2],by rw[e3];rfl,by rw[e4];simp only[List.flatten_cons,List.length_append];omega,e5,e6,e7,e8,e9,e10,e11,fun W c hW hs h1 h2=>⟨a1,a2,a3,a4,e12 W c hW hs h1 h2⟩⟩
 | [p],[S],o,0,h,hi=>by simp at hi
 | [p],S::S'::ss,o,0,h,hi=>by simp at hi
 | p::q::ps,[S],o,0,h,_=>by obtain⟨_,_,_,_,h⟩:=h;exact h.elim
 | [],[],_,_,_,hi=>by simp at hi
 | [],_::_,_,_,h,_=>h.elim
 | _::_,[],_,_,h,_=>h.elim
end
structure SI(lt:Keyed→Keyed→Bool)(st0 st:SortSt)(lo:Nat)(v7:List Keyed):Prop where
 k:kindOf st=kindOf st0
 f:failedOf st=none
 pm:(arrOf st).Perm (arrOf st0)
 run:∃segs,(arrOf st).toList=segs.flatten++v7∧segs.flatten.length=lo∧PRun lt (pendingOf st).toList segs 0
section
variable {prog:Program}{w:World}{A:Around}{E:Value→Shared→Prop}{s:Shared}{κ:SortKind}{lt:Keyed→Keyed→Bool}{Dm:Keyed→Prop}{st0 st:SortSt}{lo:Nat}{v7:List Keyed}
theorem SI.psz(I:SI lt st0 st lo v7):(pendingOf st).size≤lo:=by
 obtain⟨segs,_,e2,pr⟩:=I.run
 have:=pr.len.2
 rw[Array.length_toList]at this
 omega
theorem b1y{i:Nat}{Q:Bool→SortSt→Prop}(C:J0 prog w A s κ lt Dm)(T:TPK lt Dm)(hk:kindOf st0=κ)(hD:∀x∈(arrOf st0).toList,Dm x)(I:SI lt st0 st lo v7)(hi:i+1<(pendingOf st).size)(h:∀st',SI lt st0 st' lo v7→(pendingOf st').size+1=(pendingOf st).size→Q true st'):wpS (model prog w) A E s (mergeAt' i) Q st:=by
 obtain⟨segs,e1,e2,pr⟩:=I.run
 obtain⟨p1,a,b,p2,s1,U,V,s2,f1,f2,f3,f4,f5,f6,f7,f8,f9,f10,f11,f12⟩:=pr.split (i:=i) (by rw[Array.length_toList];exact hi)
 obtain⟨sa,na,pw⟩:=a
 obtain⟨sb,nb,pw'⟩:=b
 dsimp only at f4 f5 f6 f7 f12
 have dmA:∀x∈(arrOf st).toList,Dm x:=fun x hx=>hD x (Array.mem_toList_iff.mpr (I.pm.mem_iff.mp (Array.mem_toList_iff.mp hx)))
 have g1:(pendingOf st)[i]? = some (sa,na,pw):=by
  rw[← Array.getElem?_toList,f1,List.getElem?_append_right '!',f2,Nat.sub_self];rfl
 have g2:(pendingOf st)[i+1]? = some (sb,nb,pw'):=by
  rw[← Array.getElem?_toList,f1,List.getElem?_append_right '!',f2,show i+1-i=1 by omega];rfl
 have e:(arrOf st).toList=s1.flatten++U++(V++(s2.flatten++v7)):=by
  rw[e1,f3];simp
 refine a6J (pre:=s1.flatten) (U:=U) (V:=V) (post:=s2.flatten++v7) C T (I.k.trans hk) I.f g1 g2 e '!' f5.symm f7.symm '!' '!' '!' (fun x hx=>dmA x (by rw[e];simp[hx])) (fun x hx=>dmA x (by rw[e];simp[hx])) f10 f11 fun arr' g W hW hs ea=>?_
 have lW:W.length=U.length+V.length:=by rw[hW.length_eq,List.length_append]
 have ep:(((pendingOf st).setIfInBounds i (sa,na+nb,pw)).eraseIdxIfInBounds (i+1)).toList=p1++(sa,na+nb,pw)::p2:=by
  rw[Array.toList_eraseIdxIfInBounds,Array.toList_setIfInBounds,f1,List.set_append_right _ _ '!',f2,Nat.sub_self,List.set_cons_zero,List.eraseIdx_append_of_length_le '!',f2,show i+1-i=1 by omega]
  rfl
 refine h _ ⟨I.k.symm▸(by rw[I.k];exact hk.symm),rfl,?_,s1++W::s2,?_,?_,?_⟩ ?_
 ·refine Array.Perm.trans ?_ I.pm
  refine Array.perm_iff_toList_perm.mpr ?_
  show arr'.toList.Perm _
  rw[ea,e]
  refine List.Perm.trans ?_ (List.Perm.of_eq (by simp:s1.flatten++(U++V)++(s2.flatten++v7)=_))
  exact(hW.append_left _).append_right _
 ·show arr'.toList=_
  rw[ea];simp
 ·rw[← e2,f3]
  simp only[List.flatten_append,List.flatten_cons,List.length_append,lW]
  omega
 ·show PRun lt (((pendingOf st).setIfInBounds i (sa,na+nb,pw)).eraseIdxIfInBounds (i+1)).toList _ 0
  rw[ep]
  exact f12 W _ lW hs rfl (by show na+nb=_;omega)
 ·show(((pendingOf st).setIfInBounds i (sa,na+nb,pw)).eraseIdxIfInBounds (i+1)).size+1=_
  rw[← Array.length_toList,ep,← Array.length_toList (xs:=pendingOf st),f1]
  simp
  omega
end
noncomputable abbrev b53(pw:Nat):Nat→(Option Unit×Unit)→StateT SortSt Sem (ForInStep (Option Unit×Unit)):=fun x __s_1=>do
 let __do_lift_3 ← get
 match if(pendingOf __do_lift_3).size > 1 then(pendingOf __do_lift_3)[(pendingOf __do_lift_3).size-2]? else none with
  | some (fst,fst_1,older) =>
   if older≤pw then pure (ForInStep.done (none,()))
   else do
    let __do_lift ← mergeAt' ((pendingOf __do_lift_3).size-2)
    if(!__do_lift)=true then pure (ForInStep.done (some (),()))else pure (ForInStep.yield (none,()))
  | x=>pure (ForInStep.done (none,()))
section
variable {prog:Program}{w:World}{A:Around}{E:Value→Shared→Prop}{s:Shared}{κ:SortKind}{lt:Keyed→Keyed→Bool}{Dm:Keyed→Prop}{st0 st:SortSt}{lo n:Nat}{v7:List Keyed}
theorem a9f{N pw:Nat}{Q:Option Unit×Unit→SortSt→Prop}(C:J0 prog w A s κ lt Dm)(T:TPK lt Dm)(hk:kindOf st0=κ)(hD:∀x∈(arrOf st0).toList,Dm x)(I:SI lt st0 st lo v7)(h0:1≤(pendingOf st).size)(h:∀st',SI lt st0 st' lo v7→1≤(pendingOf st').size→Q (none,()) st'):wpS (model prog w) A E s (forIn [:N] (none,()) (b53 pw)) Q st:=by
 refine a0e (fun i (c:Option Unit×Unit) st'=>c.1=none∧SI lt st0 st' lo v7∧1≤(pendingOf st').size) (fun(c:Option Unit×Unit) st'=>c.1=none∧SI lt st0 st' lo v7∧1≤(pendingOf st').size) ?_ (fun c st h=>h) ⟨rfl,I,h0⟩ ?_
 ·rintro i ⟨c0,c1⟩ st1 hi ⟨e0,I1,h1⟩
  refine wpS_bind (wpS_get ?_)
  by_cases z:(pendingOf st1).size > 1
  ·rw[if_pos z]
   have hz:(pendingOf st1).size-2<(pendingOf st1).size:=by omega
   rw[Array.getElem?_eq_getElem hz]
   obtain⟨q1,q2,q3⟩:=(pendingOf st1)[(pendingOf st1).size-2]
   dsimp only
   refine a5S (fun _=>wpS_pure ⟨rfl,I1,h1⟩) (fun _=>?_)
   refine wpS_bind (b1y C T hk hD I1 '!' fun st2 I2 h2=>?_)
   exact wpS_pure ⟨rfl,I2,by omega⟩
  ·rw[if_neg z]
   exact wpS_pure ⟨rfl,I1,h1⟩
 ·rintro⟨c0,c1⟩ st1 ⟨e0,I1,h1⟩
  dsimp only at e0
  subst e0
  exact h st1 I1 h1
theorem b2h{a b:Array Keyed}{m:Nat}(hs:a.size=b.size)(h:∀x,x<m→gk a x=gk b x):a.toList.take m=b.toList.take m:=by
 apply List.ext_getElem?
 intro i
 by_cases hi:i<m
 ·rw[List.getElem?_take_of_lt hi,List.getElem?_take_of_lt hi,Array.getElem?_toList,Array.getElem?_toList]
  by_cases hz:i<a.size
  ·rw[a2H hz,a2H '!',h i hi]
  ·rw[Array.getElem?_eq_none '!',Array.getElem?_eq_none '!']
 ·rw[List.getElem?_eq_none (by rw[List.length_take];omega),List.getElem?_eq_none (by rw[List.length_take];omega)]
theorem SI.add(I:SI lt st0 st lo v7){st1:SortSt}(R:StR st lo (arrOf st).size st1)(hn:1≤n)(hl:lo+n≤(arrOf st).size)(u:UpK lt (arrOf st1) lo n):∃S rest',SI lt st0 st1 lo (S++rest')∧S.length=n∧Srt lt S:=by
 obtain⟨segs,e1,e2,pr⟩:=I.run
 have sz:=R.r.size
 have et:(arrOf st1).toList.take lo=segs.flatten:=by
  rw[b2h sz (fun x hx=>R.r.out x (.inl hx)),e1,← e2,List.take_left]
 have e3:(arrOf st1).toList=segs.flatten++(arrOf st1).toList.drop lo:=by rw[← et,List.take_append_drop]
 refine⟨((arrOf st1).toList.drop lo).take n,((arrOf st1).toList.drop lo).drop n,⟨R.k.trans I.k,R.f.trans I.f,R.r.pm.trans I.pm,segs,by rw[List.take_append_drop];exact e3,e2,by rw[R.p];exact pr⟩,by rw[List.length_take,List.length_drop,Array.length_toList];omega,?_⟩
 refine List.pairwise_iff_getElem.mpr fun i j hi hj hij=>?_
 have hi':=hi
 have hj':=hj
 rw[List.length_take,List.length_drop,Array.length_toList]at hi' hj'
 have at_:∀k,k<n→∀(h:k<(((arrOf st1).toList.drop lo).take n).length),(((arrOf st1).toList.drop lo).take n)[k]=gk (arrOf st1) (lo+k):=fun k hk h=>by
  have e4:(((arrOf st1).toList.drop lo).take n)[k]? = some (gk (arrOf st1) (lo+k)):=by
   rw[List.getElem?_take_of_lt hk,List.getElem?_drop,Array.getElem?_toList,a2H '!']
  rw[List.getElem?_eq_getElem h]at e4
  exact Option.some.inj e4
 rw[at_ i '!' hi,at_ j '!' hj]
 exact u i j '!' '!'
theorem SI.push{S:List Keyed}{pw:Nat}(I:SI lt st0 st lo (S++v7))(hn:S.length=n)(h1:1≤n)(hs:Srt lt S):SI lt st0 (setPending st ((pendingOf st).push (lo,n,pw))) (lo+n) v7:=by
 obtain⟨segs,e1,e2,pr⟩:=I.run
 refine⟨I.k,I.f,I.pm,segs++[S],by show(arrOf st).toList=_;rw[e1];simp,by simp only[List.flatten_append,List.flatten_cons,List.flatten_nil,List.length_append,List.length_nil];omega,?_⟩
 show PRun lt ((pendingOf st).push (lo,n,pw)).toList _ 0
 rw[Array.toList_push]
 exact pr.snoc (by show lo=_;omega) (by show n=_;omega) '!' hs
theorem SI.pow{f:Nat×Nat×Nat→Nat×Nat×Nat}{i:Nat}(hf:∀p,((f p).1,(f p).2.1)=(p.1,p.2.1))(I:SI lt st0 st lo v7):SI lt st0 (setPending st ((pendingOf st).modify i f)) lo v7:=by
 obtain⟨segs,e1,e2,pr⟩:=I.run
 refine⟨I.k,I.f,I.pm,segs,e1,e2,?_⟩
 show PRun lt ((pendingOf st).modify i f).toList _ 0
 refine pr.pow ?_
 apply List.ext_getElem?
 intro j
 rw[List.getElem?_map,List.getElem?_map,Array.getElem?_toList,Array.getElem?_toList,Array.getElem?_modify]
 split
 ·rename_i z
  cases q:(pendingOf st)[j]? with
  | none=>rfl
  | some p=>simp[hf p]
 ·rfl
end
section
variable {prog:Program}{w:World}{A:Around}{E:Value→Shared→Prop}{s:Shared}{κ:SortKind}{lt:Keyed→Keyed→Bool}{Dm:Keyed→Prop}{st:SortSt}
theorem b0x{p:Prop} [Decidable p] (a:Nat):(if p then a-1 else a)≤a:=by
 split<;>omega
theorem a6K{Q:Unit→SortSt→Prop}(C:J0 prog w A s κ lt Dm)(T:TPK lt Dm)(hk:kindOf st=κ)(hf:failedOf st=none)(hp:pendingOf st = #[])(hD:∀x∈(arrOf st).toList,Dm x)
  (h:∀st',(arrOf st').Perm (arrOf st)→failedOf st'=none→Srt lt (arrOf st').toList→Q () st'):wpS (model prog w) A E s sortRuns' Q st:=by
 rw[sortRuns'_eq]
 refine wpS_bind (wpS_get ?_)
 dsimp only
 have I0:SI lt st st 0 (arrOf st).toList:=⟨rfl,hf,.refl _,[],rfl,rfl,by rw[hp];trivial⟩
 refine wpS_bind (a0e (fun(i:Nat) (c:Option Unit×Nat) st'=>c.1=none∧i≤c.2∧c.2≤(arrOf st).size∧∃v7,SI lt st st' c.2 v7) (fun(c:Option Unit×Nat) st'=>c.1=none∧∃v7,SI lt st st' (arrOf st).size v7) ?_ ?_ ⟨rfl,Nat.le_refl _,Nat.zero_le _,_,I0⟩ ?_)
 ·rintro i ⟨c0,lo⟩ st1 hi ⟨e0,h1,h2,v7,I⟩
  dsimp only at e0 h1 h2 I
  by_cases z:lo≥(arrOf st).size
  ·rw[if_pos z]
   have e:lo=(arrOf st).size:=by omega
   subst e
   exact wpS_pure ⟨rfl,v7,I⟩
  ·rw[if_neg z]
   have sz:(arrOf st1).size=(arrOf st).size:=I.pm.size_eq
   have hD1:∀x∈(arrOf st1).toList,Dm x:=fun x hx=>hD x (Array.mem_toList_iff.mpr (I.pm.mem_iff.mp (Array.mem_toList_iff.mp hx)))
   refine wpS_bind (a9e C T (I.k.trans hk) hD1 '!' '!' fun k st2 k1 k2 R u=>?_)
   dsimp only
   have k2:k≤(arrOf st).size-lo:=k2
   have R:StR st1 lo (lo+((arrOf st).size-lo)) st2:=R
   have u:UpK lt (arrOf st2) lo k:=u
   rw[show lo+((arrOf st).size-lo)=(arrOf st1).size by omega]at R
   -- what follows a run of n
   have go:∀(n:Nat) (st3:SortSt),1≤n→lo+n≤(arrOf st).size→StR st1 lo (arrOf st1).size st3→UpK lt (arrOf st3) lo n →
     ∃S rest',SI lt st st3 lo (S++rest')∧S.length=n∧Srt lt S:=fun n st3 n1 n2 R3 u3=>I.add R3 n1 '!' u3
   by_cases zr:k<minRun' (arrOf st).size (arrOf st).size 0
   ·rw[if_pos zr]
    refine wpS_bind (wpS_lift (wpAny_rule ⟨rfl,?_⟩))
    refine wpS_bind (b0w C T (I.k.trans hk) hD1 R (Nat.le_refl _) '!' k1 '!' u fun st3 R3 u3=>?_)
    rw[if_neg (by simp)]
    obtain⟨S,rest',I3,hS,sS⟩:=go _ st3 '!' '!' R3 u3
    refine wpS_bind (wpS_get ?_)
    have n1':1≤min ((arrOf st).size-lo) (minRun' (arrOf st).size (arrOf st).size 0):=by omega
    have n2':lo+min ((arrOf st).size-lo) (minRun' (arrOf st).size (arrOf st).size 0)≤(arrOf st).size:=by omega
    generalize min ((arrOf st).size-lo) (minRun' (arrOf st).size (arrOf st).size 0)=n at *
    cases hb:(pendingOf st3).back? with
    | none =>
     dsimp only
     refine wpS_bind (wpS_modify (wpS_pure ⟨rfl,by show i+1≤lo+n;omega,by show lo+n≤_;omega,rest',I3.push hS '!' sS⟩))
    | some q =>
     obtain⟨s1,n1,pw0⟩:=q
     dsimp only
     have hps:1≤(pendingOf st3).size:=by
      by_cases y:(pendingOf st3).size=0
      ·rw[Array.back?_eq_getElem?,y]at hb
       rw[Array.getElem?_eq_none '!']at hb
       cases hb
      ·omega
     refine wpS_bind (a9f C T hk hD I3 hps fun st4 I4 h4=>?_)
     dsimp only
     refine wpS_bind (wpS_modify (wpS_bind (wpS_modify (wpS_pure ⟨rfl,by show i+1≤lo+n;omega,by show lo+n≤_;omega,rest',SI.push (SI.pow (f:=fun x=>(x.1,x.2.1,power' (arrOf st).size (2*s1+n1) (2*s1+n1+n1+n) (arrOf st).size)) (fun p=>rfl) I4) hS '!' sS⟩))))
   ·rw[if_neg zr]
    obtain⟨S,rest',I3,hS,sS⟩:=go _ st2 k1 '!' R u
    refine wpS_bind (wpS_get ?_)
    cases hb:(pendingOf st2).back? with
    | none =>
     dsimp only
     refine wpS_bind (wpS_modify (wpS_pure ⟨rfl,by show i+1≤lo+k;omega,by show lo+k≤_;omega,rest',I3.push hS '!' sS⟩))
    | some q =>
     obtain⟨s1,n1,pw0⟩:=q
     dsimp only
     have hps:1≤(pendingOf st2).size:=by
      by_cases y:(pendingOf st2).size=0
      ·rw[Array.back?_eq_getElem?,y]at hb
       rw[Array.getElem?_eq_none '!']at hb
       cases hb
      ·omega
     refine wpS_bind (a9f C T hk hD I3 hps fun st4 I4 h4=>?_)
     dsimp only
     refine wpS_bind (wpS_modify (wpS_bind (wpS_modify (wpS_pure ⟨rfl,by show i+1≤lo+k;omega,by show lo+k≤_;omega,rest',SI.push (SI.pow (f:=fun x=>(x.1,x.2.1,power' (arrOf st).size (2*s1+n1) (2*s1+n1+n1+k) (arrOf st).size)) (fun p=>rfl) I4) hS '!' sS⟩))))
 ·rintro⟨c0,lo⟩ st1 ⟨e0,h1,h2,v7,I⟩
  dsimp only at e0 h1 h2 I
  have e:lo=(arrOf st).size:=by omega
  subst e
  exact⟨e0,v7,I⟩
 ·rintro⟨c0,lo⟩ st1 ⟨e0,v7,I⟩
  dsimp only at e0
  subst e0
  dsimp only
  refine wpS_bind (a0e (fun(i:Nat) (c:Option Unit×Unit) st'=>c.1=none∧SI lt st st' (arrOf st).size v7∧(pendingOf st').size+i≤(arrOf st).size+1) (fun(c:Option Unit×Unit) st'=>c.1=none∧SI lt st st' (arrOf st).size v7∧(pendingOf st').size≤1) ?_ ?_ ⟨rfl,I,by have:=I.psz;show(pendingOf st1).size+0≤_;omega⟩ ?_)
  ·rintro i ⟨d0,d1⟩ st2 hi ⟨f0,I2,h2⟩
   dsimp only at f0 h2
   refine wpS_bind (wpS_get ?_)
   by_cases z:(pendingOf st2).size≤1
   ·rw[if_pos z]
    exact wpS_pure ⟨rfl,I2,z⟩
   ·rw[if_neg z]
    have key:∀j,j+1<(pendingOf st2).size→wpS (model prog w) A E s (do
      let __do_lift ← mergeAt' j
      if(!__do_lift)=true then pure (ForInStep.done (some (),()))else pure (ForInStep.yield (none,()))) (fun(r:ForInStep (Option Unit×Unit)) st'=>match r with
       | .done c'=>c'.1=none∧SI lt st st' (arrOf st).size v7∧(pendingOf st').size≤1
       | .yield c'=>c'.1=none∧SI lt st st' (arrOf st).size v7∧(pendingOf st').size+(i+1)≤(arrOf st).size+1) st2:=fun j hj =>
     wpS_bind (b1y C T hk hD I2 hj fun st3 I3 h3=>wpS_pure ⟨rfl,I3,by show(pendingOf st3).size+(i+1)≤_;omega⟩)
    refine wpS_mono (key _ ?_) fun r st' q=>by cases r<;>exact q
    exact Nat.lt_of_le_of_lt (Nat.add_le_add_right (b0x _) 1) '!'
  ·rintro⟨d0,d1⟩ st2 ⟨f0,I2,h2⟩
   dsimp only at f0 h2
   exact⟨f0,I2,by show(pendingOf st2).size≤1;omega⟩
  ·rintro⟨d0,d1⟩ st2 ⟨f0,I2,h2⟩
   dsimp only at f0
   subst f0
   refine wpS_pure (h st2 I2.pm I2.f ?_)
   obtain⟨segs,e1,e2,pr⟩:=I2.run
   have sz:(arrOf st2).toList.length=(arrOf st).size:=by rw[Array.length_toList];exact I2.pm.size_eq
   have er:v7=[]:=by
    have:=congrArg List.length e1
    rw[List.length_append,sz,e2]at this
    exact List.eq_nil_of_length_eq_zero '!'
   have hl:=pr.len.1
   rw[Array.length_toList]at hl
   rw[e1,er,List.append_nil]
   match segs,pr,hl with
   | [],_,_=>exact List.Pairwise.nil
   | [S],pr,_ =>
    match hq:(pendingOf st2).toList,pr with
    | p::ps,pr =>
     obtain⟨_,_,_,hs,_⟩:=pr
     simpa using hs
   | _::_::_,_,hl=>simp at hl;omega
end
theorem TupPre.uniq{h:Heap}{v:Value}{k l:List Int}(t:TupPre h v k)(t':TupPre h v l)(hl:k.length=l.length):k=l:=by
 obtain⟨a,o,xs,m,vs,rs,e1,ho,_,hd,hx,hi,_⟩:=t
 obtain⟨a',o',xs',m',vs',rs',e2,ho',_,hd',hx',hi',_⟩:=t'
 rw[e1]at e2;cases e2
 rw[ho]at ho';cases ho'
 rw[hd]at hd';cases hd'
 rw[hx]at hx'
 have hv:vs=vs':=(List.append_inj hx' (by rw[hi.length,hi'.length,hl])).1
 rw[← IntsAre.numsOf hi,← IntsAre.numsOf hi',hv]
theorem a9g{α β:Type}(f:α→β){a:List β}{b:List β}(h:a.Perm b):∀l:List α,b=l.map f→∃m:List α,m.Perm l∧a=m.map f:=by
 induction h with
 | nil=>intro l e;exact⟨l,.refl _,e⟩
 | cons x p ih =>
  intro l e
  cases l with
  | nil=>cases e
  | cons y l =>
   rw[List.map_cons]at e
   injection e with e1 e2
   obtain⟨m,p1,q1⟩:=ih l e2
   exact⟨y::m,p1.cons y,by rw[List.map_cons,e1,q1]⟩
 | swap x y r =>
  intro l e
  match l,e with
  | a::b::l,e =>
   rw[List.map_cons,List.map_cons]at e
   injection e with e1 e2
   injection e2 with e2 e3
   exact⟨b::a::l,.swap _ _ _,by rw[List.map_cons,List.map_cons,e1,e2,e3]⟩
 | trans p q ih1 ih2 =>
  intro l e
  obtain⟨m1,p1,q1⟩:=ih2 l e
  obtain⟨m2,p2,q2⟩:=ih1 m1 q1
  exact⟨m2,p2.trans p1,q2⟩
section
variable {X:Cx}{pins:List (Addr×Obj)}{σ:St}{H:Hp}{s:Shared}{A':Around}{E:Value→Shared→Prop}
theorem a3O{D kS:Addr}{vs:List Value}{xs:List V}{e1 e2:Nat}{kA:Array Value}{st:SortSt}{p:List Nat}{P:PySem.Fin→Shared→Prop}(I:Inv X pins σ H s)(fD:FpOk X pins H D)(fk:FpOk X pins H kS)(ne:kS≠D)(hD:s.heap.get? D=some (seqObj "list" #[] e1))(hk:s.heap.get? kS=some (seqObj "list" kA e2))(rv:Vals xs vs)(h64:vs.length<1000)(hkA:kA.size≤vs.length)
  (hout:(arrOf st).map (·.2)=(p.map fun i=>vs.getD i Value.none).toArray) (hf:failedOf st=none) (hp:p.Perm (List.range xs.length))
  (h:∀s',Inv X pins σ (upd H D (.lst (p.map fun i=>xs.getD i .non))) s'→P (.done (.ret .none)) s'):wpAny (model X.prog X.w) A' (ksk_tail D false e1 (.ref kS) st) P E s:=by
 have hlen:=rv.length
 have hsz3:((p.map fun i=>vs.getD i Value.none).toArray).size=vs.length:=by rw[List.size_toArray,List.length_map,hp.length_eq,List.length_range,hlen]
 have s1:=Heap.SameBut.update s.heap kS (Obj.mapSeq fun _=>(#[]:Array Value))
 have na1:(s.heap.update kS (Obj.mapSeq fun _=>(#[]:Array Value))).get? D=some (seqObj "list" #[] e1):=(s1.2 D (Ne.symm ne)).trans hD
 have s2:=Heap.SameBut.update (s.heap.update kS (Obj.mapSeq fun _=>(#[]:Array Value))) D (Obj.mapSeq fun _=>(p.map fun i=>vs.getD i Value.none).toArray)
 obtain⟨c2,hc2⟩:∃c2,((s.heap.update kS (Obj.mapSeq fun _=>(#[]:Array Value))).update D (Obj.mapSeq fun _=>(p.map fun i=>vs.getD i Value.none).toArray)).get? D=some (seqObj "list" (p.map fun i=>vs.getD i Value.none).toArray c2):=⟨_,get?_update_seq na1 fun _=>_⟩
 unfold ksk_tail
 rw[hout,hf]
 dsimp only
 refine wpAny_bind (listUpdate_at hk rfl ?_ (by rw[sizeLine_eq];omega) (Nat.zero_le _))
 refine wpAny_bind (wpAny_letGo ?_)
 refine wpAny_bind (seqEpoch_at na1 rfl ?_)
 refine wpAny_bind (listUpdate_at na1 rfl ?_ (Nat.zero_le _) (Nat.le_trans (Nat.le_of_eq hsz3) (by rw[sizeLine_eq];omega)))
 simp only[bne_self_eq_false,Bool.false_eq_true,if_false]
 refine wpAny_pure (h _ ?_)
 have I2:=I.turnedN (t':=s.toks) (ch:=[kS,D]) (h':=((s.heap.update kS (Obj.mapSeq fun _=>(#[]:Array Value))).update D (Obj.mapSeq fun _=>(p.map fun i=>vs.getD i Value.none).toArray))) (fun b u hb e=>by
  simp only[List.mem_cons,List.not_mem_nil,or_false,not_or]at hb
  exact(s2.2 b hb.2).trans ((s1.2 b hb.1).trans e)) (fun b hb=>by
  simp only[List.mem_cons,List.not_mem_nil,or_false]at hb
  rcases hb with rfl | rfl
  ·exact fk
  ·exact fD)
 refine I2.trackO ?_ hc2 rfl ?_
 ·rintro(z | ⟨z,o,e⟩ | ⟨q,hq,e⟩)
  ·exact z fD.1
  ·rcases fD.2.2.2.1 with y | y
   ·exact z y
   ·exact absurd (Heap.lt_size e) (Nat.not_lt.mpr y)
  ·exact fD.2.2.2.2.2 q hq e
 ·refine⟨?_,p.map fun i=>vs.getD i Value.none,c2,a4W p rv fun i hi=>List.mem_range.mp (hp.mem_iff.mp hi),hc2⟩
  rw[List.length_map,hp.length_eq,List.length_range,hlen,sizeLine_eq]
  omega
theorem a9h{D kS:Addr}{vs keys:List Value}{xs ys:List V}{ks:List (List Int)}{e1 e2:Nat}{P:PySem.Fin→Shared→Prop}(I:Inv X pins σ H s)(fD:FpOk X pins H D)(fk:FpOk X pins H kS)(ne:kS≠D)(hD:s.heap.get? D=some (seqObj "list" #[] e1))(hk:s.heap.get? kS=some (seqObj "list" keys.toArray e2))(rv:Vals xs vs)(rk:Vals ys keys)(hl:keys.length=vs.length)(h64:vs.length<1000)
  (vp:VPs X.K H ys ks) (hd:∀i j,i<ys.length→j<ys.length→i≠j→(ks.getD i []).length=(ks.getD j []).length∧ks.getD i []≠ks.getD j [])
  (h:∀(p:List Nat) s',p.Perm (List.range xs.length)→p.Pairwise (fun i j=>HT.lexLt (ks.getD j []) (ks.getD i [])=false)→Inv X pins σ (upd H D (.lst (p.map fun i=>xs.getD i .non))) s'→P (.done (.ret .none)) s') :
  wpAny (model X.prog X.w) A' (ksk_end D false vs.toArray e1 (.ref kS) keys.toArray) P E s:=by
 have hxl:=rv.length
 have hyl:=rk.length
 have tp:TPs s.heap keys ks:=a7b I rk vp
 unfold ksk_end
 simp only[Bool.false_eq_true,if_false]
 by_cases h2':vs.toArray.size<2
 ·rw[if_pos h2',if_pos h2']
  refine wpAny_bind (wpAny_pure ?_)
  rw[StateT.run_pure]
  refine wpAny_bind (wpAny_pure ?_)
  have hlen:vs.length<2:=by simpa using h2'
  refine a3O (st:=SortSt.mk' general' (keys.toArray.zip vs.toArray) #[] 7 none) (p:=List.range xs.length) I fD fk ne hD hk rv h64 (by simp;omega) ?_ rfl (List.Perm.refl _) fun s' J=>h _ s' (List.Perm.refl _) ?_ J
  ·show(keys.toArray.zip vs.toArray).map (·.2)=_
   rw[hxl]
   match vs,keys,hl,hlen with
   | [],[],_,_=>simp
   | [_],[_],_,_=>simp
  ·match hn:xs.length,(show xs.length<2 by omega)with
   | 0,_=>exact .nil
   | 1,_=>exact List.pairwise_singleton _ _
 ·rw[if_neg h2',if_neg h2']
  have hlen:2≤vs.length:=by simp at h2';omega
  obtain⟨fs,t1,t2,t3⟩:=a6_ tp
  refine wpAny_bind (kat_kind (T:=.type "int") t1 '!' (fun v hv=>by obtain⟨i,t,rfl⟩:=t3 v hv;exact .of_pure rfl) (by decide) ?_)
  have eb:(Value.type "int" != Value.type "tuple")=true:=by decide +kernel
  rw[eb]
  have hz:(keys.toArray.zip vs.toArray).toList=(List.range vs.length).map fun i=>(keys.getD i Value.none,vs.getD i Value.none):=by
   apply List.ext_getElem?
   intro i
   rw[List.getElem?_map,ksk_zip,List.toList_toArray]
   by_cases hi:i<vs.length
   ·have h1:keys[i]? = some (keys.getD i Value.none):=by rw[List.getD_eq_getElem?_getD,List.getElem?_eq_getElem '!'];rfl
    have h2:vs[i]? = some (vs.getD i Value.none):=by rw[List.getD_eq_getElem?_getD,List.getElem?_eq_getElem hi];rfl
    rw[List.getElem?_range hi]
    exact List.getElem?_zip_eq_some.mpr ⟨h1,h2⟩
   ·rw[List.getElem?_eq_none (by simp;omega),List.getElem?_eq_none (by simp;omega)]
    rfl
  let kf:Keyed→List Int:=fun x=>if hx:∃i,i<vs.length∧(keys.getD i Value.none,vs.getD i Value.none)=x then ks.getD (Classical.choose hx) []else[]
  have kfe:∀x,(∃i,i<vs.length∧(keys.getD i Value.none,vs.getD i Value.none)=x)→∃i,i<vs.length∧(keys.getD i Value.none,vs.getD i Value.none)=x∧kf x=ks.getD i []:=fun x hx=>by
   refine⟨Classical.choose hx,(Classical.choose_spec hx).1,(Classical.choose_spec hx).2,?_⟩
   show dite _ _ _=_
   rw[dif_pos hx]
  have kfi:∀i,i<vs.length→kf (keys.getD i Value.none,vs.getD i Value.none)=ks.getD i []:=fun i hi=>by
   obtain⟨j,hj,e,ek⟩:=kfe _ ⟨i,hi,rfl⟩
   rw[ek]
   by_cases z:j=i
   ·rw[z]
   ·have e1:keys.getD j Value.none=keys.getD i Value.none:=(Prod.mk.inj e).1
    obtain⟨hln,_⟩:=hd j i '!' '!' z
    exact TupPre.uniq (tp.at j '!') (e1▸tp.at i '!') hln
  have T:TPK (fun x y=>HT.lexLt (kf x) (kf y)) (fun x=>∃i,i<vs.length∧(keys.getD i Value.none,vs.getD i Value.none)=x):=⟨fun x _=>a4l _,fun x y z _ _ _ h1 h2=>a5Q _ _ _ h1 h2,fun x y _ _ h=>a4m _ _ h⟩
  have CO:J0 X.prog X.w A' s (tuples' true) (fun x y=>HT.lexLt (kf x) (kf y)) (fun x=>∃i,i<vs.length∧(keys.getD i Value.none,vs.getD i Value.none)=x):=fun x y hx hy Q hQ=>by
   obtain⟨i,hi,e1,k1⟩:=kfe x hx
   obtain⟨j,hj,e2,k2⟩:=kfe y hy
   have hQ:Q (HT.lexLt (kf x) (kf y)) s:=hQ
   rw[k1,k2]at hQ
   have ex:x.1=keys.getD i Value.none:=by rw[← e1]
   have ey:y.1=keys.getD j Value.none:=by rw[← e2]
   rw[ex,ey]
   by_cases z:i=j
   ·subst z
    refine TupPre.lt_self (tp.at i '!') ?_
    rw[a4l]at hQ
    exact hQ
   ·obtain⟨e,n⟩:=hd i j '!' '!' z
    exact TupPre.lt (tp.at i '!') (tp.at j '!') e n hQ
  refine wpAny_bind (wpAny_mono (a6K (E:=E) (st:=SortSt.mk' (tuples' true) (keys.toArray.zip vs.toArray) #[] 7 none) (Q:=fun _ st'=>(arrOf st').Perm (keys.toArray.zip vs.toArray)∧failedOf st'=none∧Srt (fun x y=>HT.lexLt (kf x) (kf y)) (arrOf st').toList) CO T rfl rfl rfl (fun x hx=>?_) fun st' a1 a2 a3=>⟨a1,a2,a3⟩) ?_ fun _ _ x=>x)
  ·have hx:x∈(keys.toArray.zip vs.toArray).toList:=hx
   rw[hz]at hx
   obtain⟨i,hi,e⟩:=List.mem_map.mp hx
   exact⟨i,List.mem_range.mp hi,e⟩
  ·rintro⟨⟨⟩,st'⟩ s' ⟨rfl,hP,hf,hS⟩
   have hP':=Array.perm_iff_toList_perm.mp hP
   rw[hz]at hP'
   obtain⟨p,hp,ep⟩:=a9g (fun i=>(keys.getD i Value.none,vs.getD i Value.none)) hP' (List.range vs.length) rfl
   have hPx:p.Perm (List.range xs.length):=by rw[hxl];exact hp
   have hlt:∀i∈p,i<vs.length:=fun i hi=>List.mem_range.mp (hp.mem_iff.mp hi)
   refine a3O (p:=p) I fD fk ne hD hk rv h64 (by simp;omega) ?_ hf hPx fun s' J=>h _ s' hPx ?_ J
   ·apply Array.toList_inj.mp
    rw[Array.toList_map,show(arrOf st').toList=_ from ep,List.map_map]
    rfl
   ·rw[show(arrOf st').toList=_ from ep]at hS
    have hS:=List.pairwise_map.mp hS
    exact List.Pairwise.imp_of_mem (fun{a b} ha hb hab=>by
     have hab:HT.lexLt (kf (keys.getD b Value.none,vs.getD b Value.none)) (kf (keys.getD a Value.none,vs.getD a Value.none))=false:=hab
     rw[kfi a (hlt a ha),kfi b (hlt b hb)]at hab
     exact hab) hS
theorem a9i{D f:Addr}{vs:List Value}{xs:List V}{n0:Nat}{W:Nat→List V→Hp→Prop}{P:PySem.Fin→Shared→Prop}(I:Inv X pins σ H s)(hD:s.heap.get? D=some (seqObj "list" vs.toArray n0))(fD:FpOk X pins H D)(rv:Vals xs vs)(h64:vs.length<1000)(w0:W 0 [] H)
  (turn:∀i x v ys H' s',xs[i]? = some x→RelV x v→W i ys H'→Inv X pins σ H' s'→(∀b o u,H b=some (.frz o u)→H' b=some (.frz o u))→wpAny (model X.prog X.w) A' (call (.ref f) [v]) (fun w s''=>∃y H2,Inv X pins σ H2 s''∧RelV y w∧W (i+1) (ys++[y]) H2∧Un (N4 X.stack) [] H' H2 s'.heap s''.heap) (fun _ _=>False) s')
  (fin:∀ys H',ys.length=xs.length→W xs.length ys H'→H' D=none→∃ks,VPs X.K H' ys ks∧(∀i j,i<ys.length→j<ys.length→i≠j→(ks.getD i []).length=(ks.getD j []).length∧ks.getD i []≠ks.getD j []) ∧
   ∀(p:List Nat) s',p.Perm (List.range xs.length)→p.Pairwise (fun i j=>HT.lexLt (ks.getD j []) (ks.getD i [])=false)→Inv X pins σ (upd H' D (.lst (p.map fun i=>xs.getD i .non))) s'→P (.done (.ret .none)) s') :
  wpAny (model X.prog X.w) A' (ksk_tree D (.ref f) false) P E s:=by
 have ha:D<s.heap.objs.size:=Heap.lt_size hD
 have s1:=Heap.SameBut.update s.heap D (Obj.mapSeq fun _=>(#[]:Array Value))
 obtain⟨e1,ho1⟩:∃e1,(s.heap.update D (Obj.mapSeq fun _=>(#[]:Array Value))).get? D=some (seqObj "list" #[] e1):=⟨_,get?_update_seq hD fun _ => #[]⟩
 have hkS:((s.heap.update D (Obj.mapSeq fun _=>(#[]:Array Value))).push (seqObj "tuple" vs.toArray 0)).objs.size=s.heap.objs.size+1:=by rw[size_push',Heap.size_update]
 have hxl:=rv.length
 unfold ksk_tree
 refine wpAny_bind (listItems_at hD rfl ?_)
 refine wpAny_bind (listUpdate_at hD rfl ?_ (by rw[List.size_toArray,sizeLine_eq];omega) (Nat.zero_le _))
 refine wpAny_bind (seqEpoch_at ho1 rfl ?_)
 refine wpAny_bind (wpAny_newTuple ?_ (by show vs.length≤_;rw[sizeLine_eq];omega))
 refine wpAny_bind (wpAny_newList ?_ (Nat.zero_le _))
 refine wpAny_holding ?_
 show wpAny (model X.prog X.w) A' (ksk_rest D (.ref f) false vs.toArray e1 (.ref ((s.heap.update D (Obj.mapSeq fun _=>(#[]:Array Value))).push (seqObj "tuple" vs.toArray 0)).objs.size)) P E { s with heap:=((s.heap.update D (Obj.mapSeq fun _=>(#[]:Array Value))).push (seqObj "tuple" vs.toArray 0)).push (seqObj "list" #[] 0) }
 have hkO:(((s.heap.update D (Obj.mapSeq fun _=>(#[]:Array Value))).push (seqObj "tuple" vs.toArray 0)).push (seqObj "list" #[] 0)).get? ((s.heap.update D (Obj.mapSeq fun _=>(#[]:Array Value))).push (seqObj "tuple" vs.toArray 0)).objs.size=some (seqObj "list" #[] 0):=Heap.get?_push_size _ rfl
 have hDO:(((s.heap.update D (Obj.mapSeq fun _=>(#[]:Array Value))).push (seqObj "tuple" vs.toArray 0)).push (seqObj "list" #[] 0)).get? D=some (seqObj "list" #[] e1):=Heap.get?_push_of_some _ (Heap.get?_push_of_some _ ho1)
 have I2:=I.turnedN (t':=s.toks) (ch:=[D]) (h':=((s.heap.update D (Obj.mapSeq fun _=>(#[]:Array Value))).push (seqObj "tuple" vs.toArray 0)).push (seqObj "list" #[] 0)) (fun b u hb e=>Heap.get?_push_of_some _ (Heap.get?_push_of_some _ ((s1.2 b (fun z=>hb (by simp[z]))).trans e))) (fun b hb=>by
  simp only[List.mem_singleton]at hb;rw[hb];exact fD)
 rw[hkS]at hkO ⊢
 have fk:FpOk X pins H (s.heap.objs.size+1):=I.fpOk (Nat.le_succ _) (I.hok.fresh (Nat.le_succ _))
 have ne:s.heap.objs.size+1≠D:=Nat.ne_of_gt (Nat.lt_succ_of_lt ha)
 generalize ((s.heap.update D (Obj.mapSeq fun _=>(#[]:Array Value))).push (seqObj "tuple" vs.toArray 0)).push (seqObj "list" #[] 0)=h2 at *
 generalize s.heap.objs.size+1=kS at *
 have nD:=fD.nstk I
 have nk:=fk.nstk I
 unfold ksk_rest
 refine wpAny_bind (wpAny_rule ?_)
 first
  | rw[List.forIn_toArray]
  | (rw[← Array.forIn_toList];simp only[List.toList_toArray])
  | rw[← Array.forIn_toList]
 refine wpAny_bind (ksk_fold (fun i s'=>∃H' ys kA e,Inv X pins σ H' s'∧W i ys H'∧Vals ys kA∧ys.length=i∧s'.heap.get? kS=some (seqObj "list" kA.toArray e)∧s'.heap.get? D=some (seqObj "list" #[] e1)∧H' kS=none∧H' D=none∧∀b o u,H b=some (.frz o u)→H' b=some (.frz o u)) vs 0 { s with heap:=h2 }
  ⟨H,[],[],0,I2,w0,.nil,rfl,hkO,hDO,fk.1,fD.1,fun _ _ _ e=>e⟩ ?step ?done)
 case step =>
  rintro j v s' hv ⟨H',ys,kA,e,I',wj,rk,ly,ok,od,nk',nd',fz⟩
  simp only[Nat.zero_add]at wj ly ⊢
  obtain⟨x,hx,rx⟩:=b2e rv hv
  have hj:j<vs.length:=(List.getElem?_eq_some_iff.mp hv).1
  have hz:=rk.length
  refine wpAny_bind (wpAny_attempt (wpAny_mono (turn j x v ys H' s' hx rx wj I' fz) (fun u s'' hu=>?_) fun _ _ z=>z.elim))
  obtain⟨y,H3,I3,ry,w3,un⟩:=hu
  have ok3:=un.keep kS _ ok nk' nk (by simp)
  have od3:=un.keep D _ od nd' nD (by simp)
  have s3:=Heap.SameBut.update s''.heap kS (Obj.mapSeq (·.push u))
  obtain⟨c2,hc2⟩:∃c2,(s''.heap.update kS (Obj.mapSeq (·.push u))).get? kS=some (seqObj "list" (kA.toArray.push u) c2):=⟨_,get?_update_seq ok3 (·.push u)⟩
  have nk3:=un.free kS _ ok nk' (by simp)
  have nd3:=un.free D _ od nd' (by simp)
  refine wpAny_bind (listUpdate_at ok3 rfl ?_ (by rw[List.size_toArray,sizeLine_eq];omega) (Nat.le_trans (Nat.le_of_eq (Array.size_push ..)) (by rw[List.size_toArray,sizeLine_eq];omega)))
  refine wpAny_pure ⟨rfl,H3,ys++[y],kA++[u],c2,I3.turnedN (ch:=[kS]) (fun b o hb e=>(s3.2 b (fun z=>hb (by simp[z]))).trans e) (fun b hb=>by
   simp only[List.mem_singleton]at hb;rw[hb];exact fk.to nk3),w3,?_,by rw[List.length_append,ly];rfl,?_,(s3.2 D (Ne.symm ne)).trans od3,nk3,nd3,fun b o u e=>un.frzs _ _ _ (fz b o u e)⟩
  ·exact rk.append (.cons ry .nil)
  ·rw[show(kA++[u]).toArray=kA.toArray.push u by simp];exact hc2
 case done =>
  rintro s' ⟨H',ys,kA,e,I',wj,rk,ly,ok,od,nk',nd',fz⟩
  rw[Nat.zero_add]at wj ly
  rw[← hxl]at wj ly
  obtain⟨ks,vp,hd,q⟩:=fin ys H' ly wj nd'
  refine wpAny_bind (listItems_at ok rfl ?_)
  have:=rk.length
  exact a9h I' (fD.to nd') (fk.to nk') ne od ok rv rk '!' h64 vp hd q
end
def a9j(K:PySem.W.Frag)(te:TE)(js:List Nat)(σ:St)(Q:VK)(vs:List V)(H1:Hp):Prop:=∃(a:Addr) (xs:List V),vs=[.ref a]∧SqL K H1 a xs∧xs.length<1000 ∧
 ∀H2:Hp,(∀a o,H1 a=some o→H2 a=some o)→∃W:Nat→List V→Hp→Prop,W 0 [] H2∧(∀i x ys H',xs[i]? = some x→W i ys H'→te (a5o js σ x) H' fun y H''=>W (i+1) (ys++[y]) H'') ∧
  ∀ys H',ys.length=xs.length→W xs.length ys H'→∃ks,VPs K H' ys ks∧(∀i j,i<ys.length→j<ys.length→i≠j→(ks.getD i []).length=(ks.getD j []).length∧ks.getD i []≠ks.getD j []) ∧
   ∀l (p:List Nat),H' l=none→p.Perm (List.range xs.length)→p.Pairwise (fun i j=>HT.lexLt (ks.getD j []) (ks.getD i [])=false)→Q (.ref l) (upd H' l (.lst (p.map fun i=>xs.getD i .non)))
def a9k(K:W.Frag)(ta:TA)(te:TE)(js:List Nat):TE:=fun σ H Q=>ta σ H fun xs H1=>a9j K te js σ Q xs H1
section
variable {X:Cx}
theorem b0y{k:Nat}{e body:Expr}{params:Arguments}{scope:Scope}{p pos lpos kpos:Pos}{ta:TA}{te:TE}{c P:Addr}{q kn:Str}{Nc:List Str}{js:List Nat}(hr:Room k X.A)(hcalm:X.calm=true)(hg:Gl X "sorted")(hm:X.mg "sorted" = none)(har:PA X [e] ta)
  (hd:defaultsOf params X.env=([],[])) (hcode:X.env.code=.ref c) (C:CodeHd X.base c P) (hbl:X.base.BuiltinsAt X.mg P) (hq:q=X.env.qual ++ "<lambda>") (hT0:TbAt P q X.H₀) (S:CompSc X.env.scope scope X.N Nc 1 js) (hk0:Nc[0]? = some kn) (hloc:scope.names.lookup kn=some .local)
  (hbd:∀cl pm cv ctv v,bindArgs (kla_fn "<lambda>" q params body scope cl pm cv ctv) ⟨[v],[]⟩=pure [(kn,v)]) (hco:scope.isCoroutine=false) (hgen:scope.isGenerator=false)
  (hbody:∀f c' s' H',PE (a76 X X.A.in1.in1 scope q Nc f c' s' H') body te)
  (he:backTo pos (starEach [e] X.env)=(false,eval e X.env)::backTo pos (starEach [] X.env):=by rfl) (hplain:(backTo pos (starEach [e] X.env)).any (·.1)=false:=by rfl) :
  PE X (.Call (.Name "sorted" p) [e] [⟨some "key",.Lambda params body scope lpos,kpos⟩] pos) (a9k X.K ta te js):=by
 intro pins s σ H Q I h
 have hlam:PE X (.Lambda params body scope lpos) (fun σ H Q=>∀f c' oc u pm ctv H',(∀a o,H a=some o→H' a=some o)→H' f=some (.frz (a0_ X params body scope q c' pm ctv) (.own f))→H' c'=some (.frz oc u)→a2G oc q→Q (.ref f) H'):=by
  intro pins s σ H Q I h
  obtain⟨qs,tq,hT,hqs⟩:=hT0.now I.base
  exact b0s I hd hcode C hbl hT hqs hq S.free fun f c' oc u pm ctv H' s' I' ex h1 h2 h3=>⟨.ref f,H',I',rfl,h f c' oc u pm ctv H' ex h1 h2 h3⟩
 have hk:=b13 (nm:=some "key") (kpos:=kpos) hlam (b3O (X:=X))
 refine wpAny_Call_Name_kw (a1_ I hg hm a6D ?_)
 refine callWith_kw (t6 (har pos pins s σ H (a9j X.K te js σ Q) I h) fun us s1 ⟨vs,H1,I1,r1,q1⟩=>?_) he hplain
 obtain⟨a,xs,rfl,hsq,h64,q2⟩:=q1
 refine t6 (hk pos pins s1 σ H1 (fun zs H2=>∃f c' oc u pm ctv,zs=[.ref f]∧(∀a o,H1 a=some o→H2 a=some o)∧H2 f=some (.frz (a0_ X params body scope q c' pm ctv) (.own f))∧H2 c'=some (.frz oc u)∧a2G oc q) I1 fun f c' oc u pm ctv H' ex h1 h2 h3=>⟨f,c',oc,u,pm,ctv,rfl,ex,h1,h2,h3⟩) fun ws s2 ⟨zs,H2,I2,r2,q3⟩=>?_
 obtain⟨f,c',oc,u,pm,ctv,rfl,ex,hf,hc',hcq⟩:=q3
 obtain⟨W,w0,step,fin⟩:=q2 H2 ex
 obtain⟨u1,rfl,ru⟩:=r1.one
 obtain⟨u2,rfl,ru2⟩:=r2.one
 cases (show u1=Value.ref a from ru)
 cases (show u2=Value.ref f from ru2)
 obtain⟨its,rv,pl,hz⟩:=I2.list (hsq.ext ex)
 obtain⟨lo,ho,hcl,ln,hdt⟩:=pl.isList
 have hil:=rv.length
 have hh:X.A.handled=none:=I.ok.hd hcalm
 refine call_function_entry_kw kind_sorted plain_sorted entry_sorted (ksk_s1 _ _) ?_
 unfold Builtin.«sorted»
 refine wpAny_bind (m:=checkCount "sorted" 1 1 _) (wpAny_pure ?_)
 refine wpAny_bind (wpAny_collect_seq (A:=X.A.in1) a (.inl rfl) ho hcl hdt (fun h' kp=>?_) (by simp only[List.size_toArray];rw[sizeLine_eq];omega))
 refine wpAny_bind (wpAny_newList ?_ (by show its.length≤_;rw[sizeLine_eq];omega))
 have I3:Inv X pins σ H2 { s2 with heap:=h' }:=I2.kept kp
 have hD:(h'.push (seqObj "list" its.toArray 0)).get? h'.objs.size=some (seqObj "list" its.toArray 0):=Heap.get?_push_size _ rfl
 have fD:FpOk X pins H2 h'.objs.size:=I3.fpOk (Nat.le_refl _) (I3.hok.fresh (Nat.le_refl _))
 have I4:Inv X pins σ H2 { s2 with heap:=h'.push (seqObj "list" its.toArray 0) }:=I3.kept (t':=s2.toks) fun b o e=>Heap.get?_push_of_some (seqObj "list" its.toArray 0) e
 show wpAny _ _ _ _ _ { s2 with heap:=h'.push (seqObj "list" its.toArray 0) }
 refine wpAny_bind (wpAny_holding (wpAny_call_entry_kw slot_list_sort ⟨_,hD,rfl⟩ entry_list_sort ?body (ksk_l1 _ _)))
 case body =>
  show wpAny (model X.prog X.w) X.A.in1.in1 (Builtin.«list.sort» ⟨[.ref h'.objs.size],[(Str.ofString "key",.ref f)]⟩) _ _ _
  rw[ksk_t1]
  have hfr:X.A.in1.in1.frames=some X.stack:=I.ok.frames
  have hdp:X.A.in1.in1.depth<recursionLimit:=by have:=hr.dp;show X.A.depth<_;omega
  refine a9i (W:=W) (xs:=xs) I4 hD fD rv '!' w0 (fun i x v ys H' s' hx rx wi I' fz=>?_) (fun ys H' hl wn hnD=>?_)
  ·exact b0t I' hfr hh hdp S hk0 hloc (fz _ _ _ hf) (fz _ _ _ hc') hcq (hbd _ _ _ _ _) hco hgen (hbody f c' s' H') rx (step i x ys H' hx wi)
  ·obtain⟨ks,vp,hd2,q⟩:=fin ys H' hl wn
   exact⟨ks,vp,hd2,fun p s' hp hs J=>⟨_,rfl,wpAny_pure ⟨_,rfl,.ref h'.objs.size,_,J,rfl,q _ p hnD hp hs⟩⟩⟩
end
section
variable {κ:Type} [DecidableEq κ]
def U2(kvs:List (κ×V))(k:κ):Option V:=(kvs.find? fun kv=>decide (kv.1=k)).map (·.2)
def T6(kvs:List (κ×V))(k:κ)(v:V):List (κ×V) :=
 if(kvs.any fun kv=>decide (kv.1=k))=true then kvs.map (fun kv=>if kv.1=k then(kv.1,v)else kv)else kvs++[(k,v)]
def b1z(kvs:List (κ×V))(k:κ):List (κ×V):=kvs.filter fun kv=>decide (kv.1≠k)
theorem a1B{p:κ×V}{r:List (κ×V)}{k:κ}(e:p.1=k):U2 (p::r) k=some p.2:=by simp[U2,List.find?_cons,e]
theorem a1C{p:κ×V}{r:List (κ×V)}{k:κ}(e:¬p.1=k):U2 (p::r) k=U2 r k:=by simp[U2,List.find?_cons,e]
theorem a5W(k:κ):∀kvs:List (κ×V),(kvs.any fun kv=>decide (kv.1=k))=(U2 kvs k).isSome
 | []=>rfl
 | p::r=>by
  rw[List.any_cons]
  by_cases e:p.1=k
  ·simp only[a1B e,decide_eq_true e,Bool.true_or,Option.isSome_some]
  ·rw[a1C e,decide_eq_false e,Bool.false_or];exact a5W k r
theorem a24(kvs:List (κ×V))(k:κ)(v:V):(T6 kvs k v).length≤kvs.length+1:=by
 unfold T6
 split
 ·rw[List.length_map];omega
 ·rw[List.length_append,List.length_cons,List.length_nil];omega
theorem RelO.isSome_eq{o:Option V}{u:Option Value}(r:RelO o u):o.isSome=u.isSome:=by
 cases o with
 | none=>cases u with
  | none=>rfl
  | some _=>exact(show False from r).elim
 | some _=>cases u with
  | none=>exact(show False from r).elim
  | some _=>rfl
theorem RelO.getD{o:Option V}{u:Option Value}{d:V}{d':Value}(r:RelO o u)(rd:RelV d d'):RelV (o.getD d) (u.getD d'):=by
 cases o with
 | none=>cases u with
  | none=>exact rd
  | some _=>exact(show False from r).elim
 | some _=>cases u with
  | none=>exact(show False from r).elim
  | some _=>exact r
theorem KV.val{kvs:List (κ×V)}{vs:List (κ×Value)}(r:KV kvs vs)(k:κ):RelO (U2 kvs k) (valueAt vs k):=by
 unfold KV at r
 induction r with
 | nil=>exact True.intro
 | @cons p q ps qs h t ih =>
  obtain⟨h1,h2⟩:=h
  by_cases e:p.1=k
  ·have e':q.1=k:=h1.symm.trans e
   have b:valueAt (q::qs) k=some q.2:=by simp[valueAt,List.find?_cons,e']
   rw[a1B e,b];exact h2
  ·have e':¬q.1=k:=fun z=>e (h1.trans z)
   have b:valueAt (q::qs) k=valueAt qs k:=by simp[valueAt,List.find?_cons,e']
   rw[a1C e,b];exact ih
theorem KV.any{kvs:List (κ×V)}{vs:List (κ×Value)}(r:KV kvs vs)(k:κ):(kvs.any fun kv=>decide (kv.1=k))=vs.any fun kv=>decide (kv.1=k):=by
 unfold KV at r
 induction r with
 | nil=>rfl
 | cons h t ih=>rw[List.any_cons,List.any_cons,ih,h.1]
theorem KV.repl{kvs:List (κ×V)}{vs:List (κ×Value)}(r:KV kvs vs)(k:κ){y:V}{u:Value}(ry:RelV y u) :
  KV (kvs.map fun kv=>if kv.1=k then(kv.1,y)else kv) (vs.map fun kv=>if kv.1=k then(kv.1,u)else kv):=by
 unfold KV at r ⊢
 induction r with
 | nil=>exact .nil
 | @cons p q ps qs h t ih =>
  rw[List.map_cons,List.map_cons]
  refine .cons ?_ ih
  obtain⟨h1,h2⟩:=h
  by_cases e:p.1=k
  ·rw[if_pos e,if_pos (h1.symm.trans e)];exact⟨h1,ry⟩
  ·rw[if_neg e,if_neg (fun z=>e (h1.trans z))];exact⟨h1,h2⟩
theorem KV.put{kvs:List (κ×V)}{vs:List (κ×Value)}(r:KV kvs vs)(k:κ){y:V}{u:Value}(ry:RelV y u):KV (T6 kvs k y) (stored vs k u):=by
 unfold T6 stored
 rw[r.any k]
 by_cases e:(vs.any fun kv=>decide (kv.1=k))=true
 ·rw[if_pos e,if_pos e];exact r.repl k ry
 ·rw[if_neg e,if_neg e];exact Paired.snoc r ⟨rfl,ry⟩
theorem KV.drop{kvs:List (κ×V)}{vs:List (κ×Value)}(r:KV kvs vs)(k:κ):KV (b1z kvs k) (without vs k):=by
 unfold KV at r ⊢
 unfold b1z without
 induction r with
 | nil=>exact .nil
 | @cons p q ps qs h t ih =>
  obtain⟨h1,h2⟩:=h
  rw[List.filter_cons,List.filter_cons]
  by_cases e:p.1=k
  ·have a:¬decide (p.1≠k)=true:=by simp[e]
   have b:¬decide (q.1≠k)=true:=by simp[h1.symm.trans e]
   rw[if_neg a,if_neg b];exact ih
  ·have e':¬q.1=k:=fun z=>e (h1.trans z)
   have a:decide (p.1≠k)=true:=by simp[e]
   have b:decide (q.1≠k)=true:=by simp[e']
   rw[if_pos a,if_pos b];exact .cons ⟨h1,h2⟩ ih
theorem KV.keys{kvs:List (κ×V)}{vs:List (κ×Value)}(r:KV kvs vs):kvs.map (·.1)=vs.map (·.1):=by
 unfold KV at r
 induction r with
 | nil=>rfl
 | cons h t ih=>rw[List.map_cons,List.map_cons,ih,h.1]
theorem KV.length{kvs:List (κ×V)}{vs:List (κ×Value)}(r:KV kvs vs):kvs.length=vs.length:=Paired.length r
end
theorem a5p{P:Program}{w:World}{k:v9}{u:Value}(r:RelV (kV k) u):(J4 P w).is k u=true:=by
 cases k with
 | inl i=>obtain⟨t,e⟩:=(show ∃t,u=Value.int i t from r);subst e;exact a6y P w i t
 | inr x=>obtain⟨t,e⟩:=(show ∃t,u=Value.str x t from r);subst e;exact a6z P w x t
theorem a4X{P:Program}{w:World}:∀{ks:List v9} {us:List Value},Vals (ks.map kV) us→ItemsAre (J4 P w) ks us
 | [],_,r=>by rw[List.map_nil]at r;cases r;exact .nil
 | k::ks,_,r=>by
  rw[List.map_cons]at r
  cases r with
  | cons h t=>exact .cons (a5p h) (a4X t)
abbrev KT(H:Hp):List (List v9×V)→List (List v9×Addr×Value)→Prop:=Paired fun p q=>p.1=q.1∧H q.2.1=some (.tup (p.1.map kV))∧RelV p.2 q.2.2
theorem KT.val{H:Hp}{kvs:List (List v9×V)}{xs:List (List v9×Addr×Value)}(r:KT H kvs xs)(k:List v9):RelO (U2 kvs k) ((atKey xs k).map (·.2)):=by
 induction r with
 | nil=>exact True.intro
 | @cons p q ps qs h t ih =>
  obtain⟨h1,_,h2⟩:=h
  by_cases e:p.1=k
  ·have e':q.1=k:=h1.symm.trans e
   have b:atKey (q::qs) k=some q.2:=by simp[atKey,List.find?_cons,e']
   rw[a1B e,b];exact h2
  ·have e':¬q.1=k:=fun z=>e (h1.trans z)
   have b:atKey (q::qs) k=atKey qs k:=by simp[atKey,List.find?_cons,e']
   rw[a1C e,b];exact ih
theorem KT.repl{H:Hp}{kvs:List (List v9×V)}{xs:List (List v9×Addr×Value)}(r:KT H kvs xs)(k:List v9){y:V}{u:Value}(ry:RelV y u) :
  KT H (kvs.map fun kv=>if kv.1=k then(kv.1,y)else kv) (xs.map (putAt k u)):=by
 induction r with
 | nil=>exact .nil
 | @cons p q ps qs h t ih =>
  rw[List.map_cons,List.map_cons]
  refine .cons ?_ ih
  obtain⟨h1,h2,h3⟩:=h
  unfold putAt
  by_cases e:p.1=k
  ·rw[if_pos e,if_pos (h1.symm.trans e)];exact⟨h1,h2,ry⟩
  ·rw[if_neg e,if_neg (fun z=>e (h1.trans z))];exact⟨h1,h2,h3⟩
theorem KT.put{H:Hp}{kvs:List (List v9×V)}{xs:List (List v9×Addr×Value)}(r:KT H kvs xs)(k:List v9){b:Addr}{y:V}{u:Value}(hb:H b=some (.tup (k.map kV)))(ry:RelV y u) :
  KT H (T6 kvs k y) (storedH xs k b u):=by
 have e:(kvs.any fun kv=>decide (kv.1=k))=(atKey xs k).isSome:=by
  rw[a5W,(r.val k).isSome_eq,Option.isSome_map]
 unfold T6 storedH
 rw[e]
 by_cases q:(atKey xs k).isSome=true
 ·rw[if_pos q,if_pos q];exact r.repl k ry
 ·rw[if_neg q,if_neg q];exact Paired.snoc r ⟨rfl,hb,ry⟩
theorem KT.keeps{H H':Hp}{kvs:List (List v9×V)}{xs:List (List v9×Addr×Value)}(r:KT H kvs xs)(ht:∀b ys,H b=some (.tup ys)→H' b=some (.tup ys)):KT H' kvs xs :=
 Paired.mapP r fun _ _ z=>⟨z.1,ht _ _ z.2.1,z.2.2⟩
section
variable {P:Program}{w:World}{H:Hp}{h:Heap}{a:Addr}
theorem b1A{u:HO}(ok:HOk P w H h)(e:Rd H a u):ObjOk P w H h a u:=e.ok ok
theorem a78{kvs:List (v9×V)}(ok:HOk P w H h)(e:Rd H a (.dK kvs)):kvs.length≤sizeLine∧(a == sysModules)=false∧∃vs,KV kvs vs∧h.DictOf (J4 P w) a vs :=
 show ObjOk P w H h a (.dK kvs)from b1A ok e
theorem b5e{kvs:List (v9×V)}(ok:HOk P w H h)(e:H a=some (.dK kvs)):kvs.length≤sizeLine∧(a == sysModules)=false∧∃vs,KV kvs vs∧h.DictOf (J4 P w) a vs:=a78 ok (.inl e)
theorem a3P{ks:List v9}(ok:HOk P w H h)(e:H a=some (.tup (ks.map kV))):(tupleKind (J4 P w)).is h ks a:=by
 obtain⟨_,its,r,o,h1,h2,n,h3⟩:=(show ObjOk P w H h a (.tup (ks.map kV))from ok a _ e)
 exact⟨o,its.toArray,n,h1,h2,h3,by simpa using a4X r⟩
theorem a79{kvs:List (List v9×V)}(ok:HOk P w H h)(e:Rd H a (.dT kvs)):kvs.length≤sizeLine∧(a == sysModules)=false ∧
  ∃xs,KT H kvs xs∧h.DictOfH (tupleKind (J4 P w)) a xs:=by
 obtain⟨z,y,xs,r,o,es,ep,h1,h2,h3,h4,h5⟩:=(show ObjOk P w H h a (.dT kvs)from b1A ok e)
 refine⟨z,y,xs,r,o,es,ep,h1,h2,h3,h4,fun x hx=>?_,h5⟩
 have all:∀{l:List (List v9×V)} {m:List (List v9×Addr×Value)},KT H l m→∀x∈m,(tupleKind (J4 P w)).is h x.1 x.2.1:=by
  intro l m q
  induction q with
  | nil=>intro x hx;exact nomatch hx
  | @cons p q ps qs hq t ih =>
   intro x hx
   rcases List.mem_cons.mp hx with e | hx
   ·subst e
    exact a3P ok (by rw[← hq.1];exact hq.2.1)
   ·exact ih x hx
 exact all r x hx
theorem b5f{kvs:List (List v9×V)}(ok:HOk P w H h)(e:H a=some (.dT kvs)):kvs.length≤sizeLine∧(a == sysModules)=false ∧
  ∃xs,KT H kvs xs∧h.DictOfH (tupleKind (J4 P w)) a xs:=a79 ok (.inl e)
end
def DGet(H:Hp)(a:Addr)(y:V)(r:Option V):Prop :=
 (∃kvs k,Rd H a (.dK kvs)∧y=kV k∧r=U2 kvs k)∨∃kvs k b,Rd H a (.dT kvs)∧y=.ref b∧H b=some (.tup (k.map kV))∧r=U2 kvs k
def DPut(H:Hp)(a:Addr)(y v:V)(H':Hp):Prop :=
 (∃kvs k,H a=some (.dK kvs)∧y=kV k∧kvs.length<sizeLine∧H'=upd H a (.dK (T6 kvs k v))) ∨
 ∃kvs k b,H a=some (.dT kvs)∧y=.ref b∧H b=some (.tup (k.map kV))∧kvs.length<sizeLine∧H'=upd H a (.dT (T6 kvs k v))
theorem DGet.k{H:Hp}{a:Addr}{kvs:List (v9×V)}{k:v9}(e:H a=some (.dK kvs)):DGet H a (kV k) (U2 kvs k):=.inl ⟨kvs,k,.inl e,rfl,rfl⟩
theorem DGet.t{H:Hp}{a b:Addr}{kvs:List (List v9×V)}{k:List v9}(e:H a=some (.dT kvs))(eb:H b=some (.tup (k.map kV))):DGet H a (.ref b) (U2 kvs k):=.inr ⟨kvs,k,b,.inl e,rfl,eb,rfl⟩
theorem DPut.k{H:Hp}{a:Addr}{kvs:List (v9×V)}{k:v9}{v:V}(e:H a=some (.dK kvs))(hl:kvs.length<sizeLine):DPut H a (kV k) v (upd H a (.dK (T6 kvs k v))):=.inl ⟨kvs,k,e,rfl,hl,rfl⟩
theorem DPut.t{H:Hp}{a b:Addr}{kvs:List (List v9×V)}{k:List v9}{v:V}(e:H a=some (.dT kvs))(eb:H b=some (.tup (k.map kV)))(hl:kvs.length<sizeLine) :
  DPut H a (.ref b) v (upd H a (.dT (T6 kvs k v))):=.inr ⟨kvs,k,b,e,rfl,eb,hl,rfl⟩
section
variable {X:Cx}{pins:List (Addr×Obj)}{σ:St}{H:Hp}{s:Shared}{a:Addr}{y v:V}{u r:Value}{o:Option V}{A:Around}{E:Value→Shared→Prop}
theorem Inv.big(I:Inv X pins σ H s):sysModules<s.heap.objs.size:=by
 have h:mainGlobals<s.heap.objs.size:=(I.mod.glob.keeps I.bk).lt
 exact Nat.lt_trans (by decide) h
theorem b54{Q:Value→Shared→Prop}(hu:A.units+1<cLine)(I:Inv X pins σ H s)(g:DGet H a y o)(ry:RelV y u)(h:∀s',Inv X pins σ H s'→Q (.bool o.isSome) s') :
  wpAny (model X.prog X.w) A (compareOp .In u (.ref a)) Q E s:=by
 rcases g with⟨kvs,k,e,ey,l⟩ | ⟨kvs,k,b,e,ey,eb,l⟩
 ·subst ey
  obtain⟨z,hd,vs,rel,dd⟩:=a78 I.hok e
  refine wpAny_in_of (a5p ry) hd dd.mapOf ?_
  rw[← (rel.val k).isSome_eq,← l]
  exact h _ (I.tok _)
 ·subst ey
  cases (show u=Value.ref b from ry)
  obtain⟨z,hd,xs,rel,dd⟩:=a79 I.hok e
  refine wpAny_in_heap (tupleKind_room_in1 hu) (a3P I.hok eb) hd dd ?_
  have q:=(rel.val k).isSome_eq
  rw[Option.isSome_map]at q
  rw[← q,← l]
  exact h _ (I.tok _)
theorem b2j{Q:Value→Shared→Prop}(hu:A.units+1<cLine)(I:Inv X pins σ H s)(g:DGet H a y o)(ry:RelV y u)(h:∀s',Inv X pins σ H s'→Q (.bool (!o.isSome)) s') :
  wpAny (model X.prog X.w) A (compareOp .NotIn u (.ref a)) Q E s:=by
 rcases g with⟨kvs,k,e,ey,l⟩ | ⟨kvs,k,b,e,ey,eb,l⟩
 ·subst ey
  obtain⟨z,hd,vs,rel,dd⟩:=a78 I.hok e
  refine wpAny_notIn_of (a5p ry) hd dd.mapOf ?_
  rw[← (rel.val k).isSome_eq,← l]
  exact h _ (I.tok _)
 ·subst ey
  cases (show u=Value.ref b from ry)
  obtain⟨z,hd,xs,rel,dd⟩:=a79 I.hok e
  refine wpAny_notIn_heap (tupleKind_room_in1 hu) (a3P I.hok eb) hd dd ?_
  have q:=(rel.val k).isSome_eq
  rw[Option.isSome_map]at q
  rw[← q,← l]
  exact h _ (I.tok _)
theorem a7g{h':Heap}{t':Nat}{ob:HO}(I:Inv X pins σ H s)(mu:Mut (H a))(hs:Heap.SameBut a s.heap h')(he:∃q,h'.get? a=some q)(new:ObjOk X.prog X.w (upd H a ob) h' a ob) :
  Inv X pins σ (upd H a ob) { s with heap:=h',toks:=t' } :=
 I.write (x:=a) (e:=a) mu (.inl rfl) (fun b q hb z=>(hs.2 b hb).trans z) he new
theorem b4d{P:Program}{w:World}{H':Hp}{h':Heap}{kvs:List (v9×V)}{vs:List (v9×Value)}(z:kvs.length≤sizeLine)(hd:(a == sysModules)=false)(rel:KV kvs vs)(dd:h'.DictOf (J4 P w) a vs) :
  ObjOk P w H' h' a (.dK kvs):=⟨z,hd,vs,rel,dd⟩
theorem a9l{H':Hp}{Q:Unit→Shared→Prop}(hu:A.units+1<cLine)(I:Inv X pins σ H s)(g:DPut H a y v H')(ry:RelV y u)(rv:RelV v r)(h:∀s',Inv X pins σ H' s'→Q () s') :
  wpAny (model X.prog X.w) A (setItem (.ref a) u r) Q E s:=by
 rcases g with⟨kvs,k,e,ey,l,eH⟩ | ⟨kvs,k,b,e,ey,eb,l,eH⟩
 ·subst ey eH
  obtain⟨z,hd,vs,rel,dd⟩:=b5e I.hok e
  have hz:vs.length≤sizeLine:=by rw[← rel.length];exact z
  have hl:(T6 kvs k v).length≤sizeLine:=by have:=a24 kvs k v;omega
  refine wpAny_setItem_pairs (hsz:=hz) (a5p ry) dd fun h' dd' hs=>h _ ?_
  have he:∃q,h'.get? a=some q:=let ⟨q,_,_,hq,_⟩:=dd'; ⟨q,hq⟩
  exact a7g I (by rw[e];exact True.intro) hs he (b4d hl hd (rel.put k rv) dd')
 ·subst ey eH
  cases (show u=Value.ref b from ry)
  obtain⟨z,hd,xs,rel,dd⟩:=b5f I.hok e
  have hz:xs.length≤sizeLine:=by rw[← Paired.length rel];exact z
  have hl:(T6 kvs k v).length≤sizeLine:=by have:=a24 kvs k v;omega
  refine wpAny_setItem_heap (hsz:=hz) (tupleKind_room_in1 hu) (a3P I.hok eb) dd fun h' dd' hs=>h _ ?_
  obtain⟨q,es,ep,hq,h2,h3,h4,_,h5⟩:=dd'
  refine a7g I (by rw[e];exact True.intro) hs ⟨q,hq⟩ ⟨hl,hd,_,(rel.put k eb rv).keeps fun c ys ec=>?_,q,es,ep,hq,h2,h3,h4,h5⟩
  rw[g7 (b1i ec e (fun z=>nomatch z))]
  exact ec
end
def b1B(td ty tv:TE):TS:=fun D σ H=>tv σ H fun v H1=>td σ H1 fun x H2=>ty σ H2 fun y H3=>∃a H4,x=.ref a∧DPut H3 a y v H4∧D.nx σ H4
section
variable {X:Cx}{o i e value:Expr}{pos pos' tpos:Pos}{td ty tv:TE}
theorem b2k(hu:X.A.units+1<cLine)(ho:PE X o td)(hi:PE X i ty)(hv:PE X value tv)(hs:swapsWith value (some (.Subscript o i pos')) pos.line X.env=pure false) :
  PS X (.Assign [.Subscript o i pos'] value pos) (b1B td ty tv):=by
 intro pins s σ H D I h
 refine wpAny_Assign_Subscript (t6 (hv pins s σ H _ I h) fun r s1 ⟨v,H1,I1,rv,q1⟩=>t6 (ho pins s1 σ H1 _ I1 q1) fun u s2 ⟨x,H2,I2,rx,q2⟩=>t6 (hi pins s2 σ H2 _ I2 q2) fun iv s3 ⟨y,H3,I3,ry,a,H4,ex,g,q3⟩=>?_) hs
 subst ex
 obtain rfl:u=Value.ref a:=rx
 exact a9l hu I3 g ry rv fun s4 I4=>⟨σ,H4,I4,q3⟩
end
theorem b0z{P:Program}{w:World}{H:Hp}(h:Heap)(hb:sysModules<h.objs.size):ObjOk P w H (h.push { cls:=.type "dict",data:=.dict #[] }) h.objs.size (.dK []) :=
 ⟨Nat.zero_le _,beq_eq_false_iff_ne.mpr (Ne.symm (Nat.ne_of_lt hb)),[],.nil,Heap.DictOf.new h⟩
def a9m:TE:=fun _ H Q=>∀p,H p=none→Q (.ref p) (upd H p (.dK []))
section
variable {X:Cx}{pos:Pos}
theorem b0A:PE X (.Dict [] [] pos) a9m:=fun pins s σ H Q I h =>
 wpAny_Dict_empty ⟨.ref s.heap.objs.size,_,I.laid (a:=s.heap.objs.size) (o:=.dK []) (t':=s.toks) (fun _ _ q=>Heap.get?_push_of_some _ q) (Nat.le_refl _) (b0z s.heap I.big),rfl,h _ (I.hok.fresh (Nat.le_refl _))⟩
end
def b4e(kvs more:List (v9×V)):List (v9×V):=more.foldl (fun acc kv=>T6 acc kv.1 kv.2) kvs
theorem KV.merge:∀{more:List (v9×V)} {rs:List (v9×Value)} {kvs:List (v9×V)} {vs:List (v9×Value)},KV more rs→KV kvs vs→KV (b4e kvs more) (merged vs rs):=by
 intro more rs kvs vs r
 unfold KV at r
 induction r generalizing kvs vs with
 | nil=>intro q;exact q
 | @cons p q ps qs h t ih =>
  intro r0
  have e:KV (T6 kvs p.1 p.2) (stored vs q.1 q.2):=by
   have:=r0.put p.1 h.2
   rw[← h.1];exact this
  exact ih e
abbrev DK:=Sum (List v9) (List (List v9))
def X0(ks:DK)(xs:List V):HO:=match ks with
 | .inl ks=>.dK (ks.zip xs)
 | .inr ks=>.dT (ks.zip xs)
def dkN:DK→Nat
 | .inl ks=>ks.length
 | .inr ks=>ks.length
theorem a2I{ks:DK}{xs ys:List V}:X0 ks xs≠.lst ys:=by cases ks<;>exact fun z=>nomatch z
inductive D where
 | non | bl (b:Bool) | int (i:Int) | str (x:Str) | ty (n:String) | cls (n:Str) | tup (ds:List D) | lst (ds:List D) | scr (ns:List Int) | exc (c:Str) | obj (c:Str) (ns:List Str) (ds:List D) | dic (ks:DK) (ds:List D)
mutual
def Rp(K:W.Frag)(cl:Str→Addr)(F:Hp):D→V→Prop
 | .non,v=>v=.non
 | .bl b,v=>v=.bl b
 | .int i,v=>v=.int i
 | .str x,v=>v=.str x
 | .ty n,v=>v=.ty n
 | .cls n,v=>v=.ref (cl n)
 | .tup ds,v=>∃a xs,v=.ref a∧F a=some (.tup xs)∧Rps K cl F ds xs
 | .lst ds,v=>∃a xs,v=.ref a∧F a=some (.lst xs)∧Rps K cl F ds xs
 | .scr ns,v=>∃a,v=.ref a∧Scr K F a (ns.map V.int)
 | .exc c,v=>∃a cx,v=.ref a∧F a=some (a71 a (.ref (cl c)) cx)
 | .obj c ns ds,v=>∃a dx xs,v=.ref a∧F a=some (.ins (cl c) dx (ns.zip xs))∧ns.length=xs.length∧Rps K cl F ds xs
 | .dic ks ds,v=>∃a xs,v=.ref a∧F a=some (X0 ks xs)∧dkN ks=xs.length∧Rps K cl F ds xs
def Rps(K:W.Frag)(cl:Str→Addr)(F:Hp):List D→List V→Prop
 | [],vs=>vs=[]
 | d::ds,vs=>∃v r,vs=v::r∧Rp K cl F d v∧Rps K cl F ds r
end
section
variable {K:W.Frag}{cl:Str→Addr}{F F' H H':Hp}
mutual
theorem Rp.mono(g:Same F F'):∀(d:D) (v:V),Rp K cl F d v→Rp K cl F' d v
 | .non,_,h=>by simpa only[Rp]using h
 | .bl _,_,h=>by simpa only[Rp]using h
 | .int _,_,h=>by simpa only[Rp]using h
 | .str _,_,h=>by simpa only[Rp]using h
 | .ty _,_,h=>by simpa only[Rp]using h
 | .cls _,_,h=>by simpa only[Rp]using h
 | .tup ds,v,h=>by
  simp only[Rp]at h ⊢
  obtain⟨a,xs,e,h1,h2⟩:=h
  exact⟨a,xs,e,g _ _ h1,Rps.mono g ds xs h2⟩
 | .lst ds,v,h=>by
  simp only[Rp]at h ⊢
  obtain⟨a,xs,e,h1,h2⟩:=h
  exact⟨a,xs,e,g _ _ h1,Rps.mono g ds xs h2⟩
 | .scr ns,v,h=>by
  simp only[Rp]at h ⊢
  obtain⟨a,e,h1⟩:=h
  exact⟨a,e,h1.same g⟩
 | .exc c,v,h=>by
  simp only[Rp]at h ⊢
  obtain⟨a,cx,e,h1⟩:=h
  exact⟨a,cx,e,g _ _ h1⟩
 | .obj c ns ds,v,h=>by
  simp only[Rp]at h ⊢
  obtain⟨a,dx,xs,e,h1,hl,h2⟩:=h
  exact⟨a,dx,xs,e,g _ _ h1,hl,Rps.mono g ds xs h2⟩
 | .dic ks ds,v,h=>by
  simp only[Rp]at h ⊢
  obtain⟨a,xs,e,h1,hl,h2⟩:=h
  exact⟨a,xs,e,g _ _ h1,hl,Rps.mono g ds xs h2⟩
theorem Rps.mono(g:Same F F'):∀(ds:List D) (vs:List V),Rps K cl F ds vs→Rps K cl F' ds vs
 | [],_,h=>by simpa only[Rps]using h
 | d::ds,vs,h=>by
  simp only[Rps]at h ⊢
  obtain⟨v,r,e,h1,h2⟩:=h
  exact⟨v,r,e,Rp.mono g d v h1,Rps.mono g ds r h2⟩
end
theorem Rps.nil:Rps K cl F [] []:=by simp only[Rps]
theorem Rps.cons{d:D}{v:V}{ds:List D}{vs:List V}(h:Rp K cl F d v)(t:Rps K cl F ds vs):Rps K cl F (d::ds) (v::vs):=by simp only[Rps];exact⟨v,vs,rfl,h,t⟩
theorem Rps.inv{d:D}{ds:List D}{vs:List V}(h:Rps K cl F (d::ds) vs):∃v r,vs=v::r∧Rp K cl F d v∧Rps K cl F ds r:=by simpa only[Rps]using h
theorem Rps.inv0{vs:List V}(h:Rps K cl F [] vs):vs=[]:=by simpa only[Rps]using h
theorem Rps.length:∀{ds:List D} {vs:List V},Rps K cl F ds vs→ds.length=vs.length
 | [],vs,h=>by rw[h.inv0];rfl
 | d::ds,vs,h=>by obtain⟨v,r,rfl,_,t⟩:=h.inv;simp[t.length]
theorem Rps.get:∀{ds:List D} {vs:List V} {i:Nat} {d:D},Rps K cl F ds vs→ds[i]? = some d→∃v,vs[i]? = some v∧Rp K cl F d v
 | [],_,_,_,_,e=>by simp at e
 | d::ds,vs,0,x,h,e=>by
  obtain⟨v,r,rfl,h1,_⟩:=h.inv
  simp at e;subst e
  exact⟨v,rfl,h1⟩
 | d::ds,vs,i+1,x,h,e=>by
  obtain⟨v,r,rfl,_,t⟩:=h.inv
  obtain⟨u,h1,h2⟩:=t.get (i:=i) (d:=x) (by simpa using e)
  exact⟨u,by simpa using h1,h2⟩
theorem Rps.get'{ds:List D}{vs:List V}{i:Nat}{v:V}(h:Rps K cl F ds vs)(e:vs[i]? = some v):∃d,ds[i]? = some d∧Rp K cl F d v:=by
 have hi:i<ds.length:=by
  have:=(List.getElem?_eq_some_iff.mp e).1
  rw[h.length];exact this
 obtain⟨u,h1,h2⟩:=h.get (List.getElem?_eq_getElem hi)
 rw[e]at h1;cases h1
 exact⟨_,List.getElem?_eq_getElem hi,h2⟩
theorem Rps.append:∀{ds es:List D} {vs us:List V},Rps K cl F ds vs→Rps K cl F es us→Rps K cl F (ds++es) (vs++us)
 | [],_,_,_,h,t=>by rw[h.inv0];exact t
 | d::ds,_,_,_,h,t=>by obtain⟨v,r,rfl,h1,h2⟩:=h.inv;exact .cons h1 (h2.append t)
theorem Rps.one{d:D}{v:V}(h:Rp K cl F d v):Rps K cl F [d] [v]:=.cons h .nil
theorem Rps.set{d:D}{v:V}(r:Rp K cl F d v):∀{ds:List D} {vs:List V} (i:Nat),Rps K cl F ds vs→Rps K cl F (ds.set i d) (vs.set i v)
 | [],_,_,h=>by rw[h.inv0];exact .nil
 | _::_,_,0,h=>by obtain⟨_,_,rfl,_,h2⟩:=h.inv;exact .cons r h2
 | _::_,_,i+1,h=>by obtain⟨_,_,rfl,h1,h2⟩:=h.inv;exact .cons h1 (h2.set r i)
theorem Rps.drop:∀{ds:List D} {vs:List V} (n:Nat),Rps K cl F ds vs→Rps K cl F (ds.drop n) (vs.drop n)
 | _,_,0,h=>h
 | [],_,_+1,h=>by rw[h.inv0];exact .nil
 | _::_,_,n+1,h=>by obtain⟨_,_,rfl,_,h2⟩:=h.inv;exact h2.drop n
theorem Rps.take:∀{ds:List D} {vs:List V} (n:Nat),Rps K cl F ds vs→Rps K cl F (ds.take n) (vs.take n)
 | _,_,0,h=>.nil
 | [],_,_+1,h=>by rw[h.inv0];exact .nil
 | _::_,_,n+1,h=>by obtain⟨_,_,rfl,h1,h2⟩:=h.inv;exact .cons h1 (h2.take n)
theorem Rps.ints:∀{ns:List Int} {vs:List V},Rps K cl F (ns.map D.int) vs→vs=ns.map V.int
 | [],_,h=>h.inv0
 | n::ns,_,h=>by
  obtain⟨v,r,rfl,h1,h2⟩:=h.inv
  rw[h2.ints]
  simp only[Rp]at h1
  rw[h1];rfl
theorem Rps.ofInts:∀{ns:List Int},Rps K cl F (ns.map D.int) (ns.map V.int)
 | []=>.nil
 | _::_=>.cons (by simp only[Rp]) Rps.ofInts
theorem Rps.strs:∀{bs:List Str} {vs:List V},Rps K cl F (bs.map D.str) vs→vs=bs.map V.str
 | [],_,h=>h.inv0
 | n::ns,_,h=>by
  obtain⟨v,r,rfl,h1,h2⟩:=h.inv
  rw[h2.strs]
  simp only[Rp]at h1
  rw[h1];rfl
end
inductive Sl where | no | fz (d:D) | ow (ds:List D) | hd (ds:List D) | od (ks:DK) (ds:List D) | hk (ks:DK) (ds:List D)
abbrev DE:=List Sl
def Mu(env:DE)(i:Nat):Prop:=∃ds:List D,env[i]? = some (.ow ds)∨env[i]? = some (.hd ds)
def isO:Sl→Prop
 | .ow _=>True
 | .od _ _=>True
 | _=>False
def R8:Sl→DK→List D→Prop
 | .od ks ds,ks',ds'=>ks=ks'∧ds=ds'
 | .hk ks ds,ks',ds'=>ks=ks'∧ds=ds'
 | _,_,_=>False
def Ow(σ:St)(env:DE)(a:Addr):Prop:=∃(i:Nat) (s:Sl),isO s∧env[i]? = some s∧σ[i]? = some (some (V.ref a))
structure RelOd(K:W.Frag)(cl:Str→Addr)(σ:St)(H F:Hp)(env:DE):Prop where
 at_:∀(i:Nat) (s:Sl) (ks:DK) (ds:List D),env[i]? = some s→R8 s ks ds→∃a xs,σ[i]? = some (some (.ref a))∧H a=some (X0 ks xs)∧F a=none∧dkN ks=xs.length∧Rps K cl F ds xs
 inj:∀(i j:Nat) (s t:Sl) (ks ls:DK) (ds es:List D) (a:Addr),env[i]? = some s→R8 s ks ds→env[j]? = some t→R8 t ls es→σ[i]? = some (some (.ref a))→σ[j]? = some (some (.ref a))→i=j
structure Rel(K:W.Frag)(cl:Str→Addr)(σ:St)(H F:Hp)(env:DE):Prop where
 sub:Same F H
 len:σ.length=env.length
 fz:∀(i:Nat) (d:D),env[i]? = some (.fz d)→∃v,σ[i]? = some (some v)∧Rp K cl F d v
 mu:∀(i:Nat) (ds:List D),(env[i]? = some (.ow ds)∨env[i]? = some (.hd ds))→∃a xs,σ[i]? = some (some (.ref a))∧H a=some (.lst xs)∧F a=none∧Rps K cl F ds xs
 inj:∀(i j:Nat) (a:Addr),Mu env i→Mu env j→σ[i]? = some (some (.ref a))→σ[j]? = some (some (.ref a))→i=j
 od:RelOd K cl σ H F env
structure Frm(σ:St)(H F:Hp)(env:DE)(σ':St)(H' F':Hp)(env':DE):Prop where
 fz:Same F F'
 hid:∀a o,H a=some o→F a=none→¬Ow σ env a→H' a=some o∧F' a=none∧¬Ow σ' env' a
 keep:∀(i:Nat) (ds:List D),env[i]? = some (.hd ds)→env'[i]? = some (.hd ds)∧σ'[i]? = σ[i]?
 dom:∀a,H' a=none→H a=none
structure Gr(H F H' F':Hp):Prop where
 fz:Same F F'
 sub:Same F' H'
 hid:∀a o,H a=some o→F a=none→H' a=some o∧F' a=none
section
variable {K:W.Frag}{cl:Str→Addr}{σ σ' σ'':St}{H H' H'' F F' F'':Hp}{env env' env'':DE}
theorem RelOd.to(R:RelOd K cl σ H F env)(he:∀(i:Nat) (s:Sl) (ks:DK) (ds:List D),env'[i]? = some s→R8 s ks ds→∃t,env[i]? = some t∧R8 t ks ds∧σ'[i]? = σ[i]?)
  (hh:∀(i:Nat) (a:Addr) (ks:DK) (xs:List V),σ[i]? = some (some (.ref a))→H a=some (X0 ks xs)→F a=none→H' a=some (X0 ks xs)∧F' a=none) (sF:Same F F'):RelOd K cl σ' H' F' env' :=
 ⟨fun i s ks ds h d=>by
  obtain⟨t,h1,d1,e1⟩:=he i s ks ds h d
  obtain⟨a,xs,e,hH,hF,hn,r⟩:=R.at_ i t ks ds h1 d1
  obtain⟨h2,f2⟩:=hh i a ks xs e hH hF
  exact⟨a,xs,by rw[e1];exact e,h2,f2,hn,r.mono sF⟩,
  fun i j s t ks ls ds es a hi di hj dj ei ej=>by
  obtain⟨s1,h1,d1,e1⟩:=he i s ks ds hi di
  obtain⟨t1,h2,d2,e2⟩:=he j t ls es hj dj
  exact R.inj i j s1 t1 ks ls ds es a h1 d1 h2 d2 (by rw[← e1];exact ei) (by rw[← e2];exact ej)⟩
theorem RelOd.gr(R:RelOd K cl σ H F env)(g:Gr H F H' F'):RelOd K cl σ H' F' env:=R.to (fun i s ks ds h d=>⟨s,h,d,rfl⟩) (fun _ a ks xs _ h f=>g.hid a _ h f) g.fz
theorem RelOd.set{i:Nat}{s:Sl}{v:Option V}(R:RelOd K cl σ H F env)(n:∀ks ds,¬R8 s ks ds):RelOd K cl (σ.set i v) H F (env.set i s) :=
 R.to (fun j t ks ds h d=>by
  by_cases z:j=i
  ·subst z
   have hj:j<env.length:=by have:=(List.getElem?_eq_some_iff.mp h).1;rwa [List.length_set]at this
   rw[List.getElem?_set_self hj]at h;cases h;exact absurd d (n ks ds)
  ·rw[List.getElem?_set_ne (Ne.symm z)]at h
   exact⟨t,h,d,List.getElem?_set_ne (Ne.symm z)⟩) (fun _ a ks xs _ h f=>⟨h,f⟩) (Same.refl _)
theorem RelOd.setE{i:Nat}{s:Sl}(R:RelOd K cl σ H F env)(n:∀ks ds,¬R8 s ks ds):RelOd K cl σ H F (env.set i s) :=
 R.to (fun j t ks ds h d=>by
  by_cases z:j=i
  ·subst z
   have hj:j<env.length:=by have:=(List.getElem?_eq_some_iff.mp h).1;rwa [List.length_set]at this
   rw[List.getElem?_set_self hj]at h;cases h;exact absurd d (n ks ds)
  ·rw[List.getElem?_set_ne (Ne.symm z)]at h
   exact⟨t,h,d,rfl⟩) (fun _ a ks xs _ h f=>⟨h,f⟩) (Same.refl _)
theorem RelOd.lst(R:RelOd K cl σ H F env)(hh:∀(a:Addr) (o:HO),(∀xs,o≠.lst xs)→H a=some o→F a=none→H' a=some o∧F' a=none)(sF:Same F F'):RelOd K cl σ H' F' env :=
 R.to (fun i s ks ds h d=>⟨s,h,d,rfl⟩) (fun _ a ks xs _ h f=>hh a _ (fun _=>a2I) h f) sF
theorem RelOd.own(R:RelOd K cl σ H F env)(hh:∀(i:Nat) (s:Sl) (ks:DK) (ds:List D) (a:Addr) (xs:List V),env[i]? = some s→R8 s ks ds→σ[i]? = some (some (.ref a))→H a=some (X0 ks xs)→F a=none→H' a=some (X0 ks xs)∧F' a=none)(sF:Same F F'):RelOd K cl σ H' F' env :=
 ⟨fun i s ks ds h d=>by
  obtain⟨a,xs,e,hH,hF,hn,r⟩:=R.at_ i s ks ds h d
  obtain⟨h2,f2⟩:=hh i s ks ds a xs h d e hH hF
  exact⟨a,xs,e,h2,f2,hn,r.mono sF⟩,R.inj⟩
theorem RelOd.frzL{a:Addr}{xs:List V}{o:HO}(R:RelOd K cl σ H F env)(hH:H a=some (.lst xs))(hF:F a=none):RelOd K cl σ H (upd F a o) env :=
 R.lst (fun c u n h f=>⟨h,by rw[g7 (fun z=>by rw[z,hH]at h;exact n xs (Option.some.inj h).symm)];exact f⟩) (X6 hF _)
theorem RelOd.updL{a:Addr}{xs:List V}{o:HO}(R:RelOd K cl σ H F env)(hH:H a=some (.lst xs)):RelOd K cl σ (upd H a o) F env :=
 R.lst (fun c u n h f=>⟨by rw[g7 (fun z=>by rw[z,hH]at h;exact n xs (Option.some.inj h).symm)];exact h,f⟩) (Same.refl _)
theorem RelOd.newO{a:Addr}{o:HO}(R:RelOd K cl σ H F env)(hH:H a=none):RelOd K cl σ (upd H a o) F env :=
 R.lst (fun c u n h f=>⟨by rw[g7 (fun z=>by rw[z,hH]at h;cases h)];exact h,f⟩) (Same.refl _)
theorem RelOd.none(n:∀(i:Nat) (s:Sl) ks ds,env[i]? = some s→¬R8 s ks ds):RelOd K cl σ H F env:=⟨fun i s ks ds h d=>absurd d (n i s ks ds h),fun i j s t ks ls ds es a h d=>absurd d (n i s ks ds h)⟩
theorem a3Q{d:D}:∀ks ds,¬R8 (.fz d) ks ds:=fun _ _ h=>h
theorem a1D{d:List D}:∀ks ds,¬R8 (.ow d) ks ds:=fun _ _ h=>h
theorem a3R{d:List D}:∀ks ds,¬R8 (.hd d) ks ds:=fun _ _ h=>h
theorem a7_:∀ks ds,¬R8 .no ks ds:=fun _ _ h=>h
theorem Frm.refl:Frm σ H F env σ H F env:=⟨Same.refl _,fun _ _ h f o=>⟨h,f,o⟩,fun _ _ h=>⟨h,rfl⟩,fun _ h=>h⟩
theorem Frm.trans(a:Frm σ H F env σ' H' F' env')(b:Frm σ' H' F' env' σ'' H'' F'' env''):Frm σ H F env σ'' H'' F'' env'' :=
 ⟨a.fz.trans b.fz,fun x o h f w=>by obtain⟨h1,f1,w1⟩:=a.hid x o h f w;exact b.hid x o h1 f1 w1,
  fun i ds h=>by obtain⟨h1,e1⟩:=a.keep i ds h;obtain⟨h2,e2⟩:=b.keep i ds h1;exact⟨h2,e2.trans e1⟩,fun x h=>a.dom x (b.dom x h)⟩
theorem Gr.dom(g:Gr H F H' F')(a:Addr)(h:H' a=none):H a=none:=by
 cases e:H a with
 | none=>rfl
 | some o =>
  cases f:F a with
  | none=>rw[(g.hid a o e f).1]at h;cases h
  | some u=>rw[g.sub _ _ (g.fz _ _ f)]at h;cases h
theorem Rel.gr(R:Rel K cl σ H F env)(g:Gr H F H' F'):Rel K cl σ H' F' env :=
 ⟨g.sub,R.len,fun i d h=>by obtain⟨v,e,r⟩:=R.fz i d h;exact⟨v,e,r.mono g.fz⟩,
  fun i ds h=>by obtain⟨a,xs,e,hH,hF,r⟩:=R.mu i ds h;obtain⟨h1,f1⟩:=g.hid a _ hH hF;exact⟨a,xs,e,h1,f1,r.mono g.fz⟩,R.inj,R.od.gr g⟩
theorem Rel.frm(R:Rel K cl σ H F env)(g:Gr H F H' F'):Frm σ H F env σ H' F' env :=
 ⟨g.fz,fun a o h f w=>by obtain⟨h1,f1⟩:=g.hid a o h f;exact⟨h1,f1,w⟩,fun _ _ h=>⟨h,rfl⟩,g.dom⟩
theorem Gr.refl(s:Same F H):Gr H F H F:=⟨Same.refl _,s,fun _ _ h f=>⟨h,f⟩⟩
theorem Gr.trans(a:Gr H F H' F')(b:Gr H' F' H'' F''):Gr H F H'' F'':=⟨a.fz.trans b.fz,b.sub,fun x o h f=>by obtain⟨h1,f1⟩:=a.hid x o h f;exact b.hid x o h1 f1⟩
theorem Gr.new{p:Addr}{o:HO}(s:Same F H)(hp:H p=none):Gr H F (upd H p o) (upd F p o):=by
 have fp:F p=none:=s.free hp
 refine⟨X6 fp o,fun b u e=>?_,fun a u e f=>?_⟩
 ·by_cases z:b=p
  ·subst z;rw[j8]at e ⊢;exact e
  ·rw[g7 z]at e ⊢;exact s _ _ e
 ·have z:a≠p:=fun z=>by rw[z,hp]at e;cases e
  rw[g7 z,g7 z];exact⟨e,f⟩
theorem Rel.freeze{i:Nat}{ds:List D}(R:Rel K cl σ H F env)(h:env[i]? = some (.ow ds)):∃a F',σ[i]? = some (some (.ref a))∧Frm σ H F env σ H F' (env.set i (.fz (.lst ds)))∧Rel K cl σ H F' (env.set i (.fz (.lst ds)))∧Rp K cl F' (.lst ds) (.ref a):=by
 obtain⟨a,xs,e,hH,hF,r⟩:=R.mu i ds (.inl h)
 have hi:i<env.length:=(List.getElem?_eq_some_iff.mp h).1
 have sF:Same F (upd F a (.lst xs)):=X6 hF _
 have oth:∀j,j≠i→(env.set i (.fz (.lst ds)))[j]? = env[j]?:=fun j hj=>List.getElem?_set_ne (Ne.symm hj)
 have self:(env.set i (.fz (.lst ds)))[i]? = some (.fz (.lst ds)):=List.getElem?_set_self hi
 have mui:∀j,Mu (env.set i (.fz (.lst ds))) j→j≠i∧Mu env j:=fun j ⟨es,q⟩=>by
  by_cases z:j=i
  ·subst z;rw[self]at q;rcases q with q | q<;>cases q
  ·rw[oth j z]at q;exact⟨z,es,q⟩
 have rl:Rp K cl (upd F a (.lst xs)) (.lst ds) (.ref a):=by simp only[Rp];exact⟨a,xs,rfl,j8,r.mono sF⟩
 refine⟨a,upd F a (.lst xs),e,⟨sF,fun b o hb fb w=>?_,fun j es q=>?_,fun _ h=>h⟩,⟨fun b o q=>?_,by rw[List.length_set];exact R.len,fun j d q=>?_,fun j es q=>?_,fun j k b hj hk e1 e2=>R.inj j k b (mui j hj).2 (mui k hk).2 e1 e2,(R.od.lst (fun c u n h f=>⟨h,by rw[g7 (fun z=>by rw[z,hH]at h;exact n xs (Option.some.inj h).symm)];exact f⟩) sF).setE a3Q⟩,rl⟩
 ·have z:b≠a:=fun z=>w ⟨i,.ow ds,True.intro,h,by rw[z];exact e⟩
  refine⟨hb,by rw[g7 z];exact fb,fun⟨j,es,oo,q,e1⟩=>?_⟩
  by_cases y:j=i
  ·subst y;rw[self]at q;cases q;exact oo
  ·rw[oth j y]at q;exact w ⟨j,es,oo,q,e1⟩
 ·have z:j≠i:=fun z=>by subst z;rw[h]at q;cases q
  exact⟨by rw[oth j z];exact q,rfl⟩
 ·by_cases z:b=a
  ·subst z;rw[j8]at q;cases q;exact hH
  ·rw[g7 z]at q;exact R.sub _ _ q
 ·by_cases z:j=i
  ·subst z;rw[self]at q;cases q;exact⟨_,e,rl⟩
  ·rw[oth j z]at q;obtain⟨v,e1,r1⟩:=R.fz j d q;exact⟨v,e1,r1.mono sF⟩
 ·have z:j≠i:=(mui j ⟨es,q⟩).1
  rw[oth j z]at q
  obtain⟨b,ys,e1,h1,f1,r1⟩:=R.mu j es q
  have nb:b≠a:=fun y=>z (R.inj j i b ⟨es,q⟩ ⟨ds,.inl h⟩ e1 (by rw[y];exact e))
  exact⟨b,ys,e1,h1,by rw[g7 nb];exact f1,r1.mono sF⟩
theorem Rel.put{i:Nat}{d:D}{v:V}(R:Rel K cl σ H F env)(hi:i<env.length)(nh:∀ds,env[i]?≠some (.hd ds))(r:Rp K cl F d v):Rel K cl (σ.set i (some v)) H F (env.set i (.fz d)):=by
 refine⟨R.sub,by rw[List.length_set,List.length_set];exact R.len,fun j e q=>?_,fun j es q=>?_,fun j k b hj hk e1 e2=>?_,R.od.set a3Q⟩
 ·by_cases z:j=i
  ·subst z
   rw[List.getElem?_set_self hi]at q;cases q
   exact⟨v,List.getElem?_set_self (by rw[R.len];exact hi),r⟩
  ·rw[List.getElem?_set_ne (Ne.symm z)]at q
   obtain⟨u,e1,r1⟩:=R.fz j e q
   exact⟨u,by rw[List.getElem?_set_ne (Ne.symm z)];exact e1,r1⟩
 ·have z:j≠i:=fun z=>by
   subst z
   rw[List.getElem?_set_self hi]at q
   rcases q with q | q<;>cases q
  rw[List.getElem?_set_ne (Ne.symm z)]at q
  obtain⟨a,xs,e1,h1,f1,r1⟩:=R.mu j es q
  exact⟨a,xs,by rw[List.getElem?_set_ne (Ne.symm z)];exact e1,h1,f1,r1⟩
 ·have nz:∀j,Mu (env.set i (.fz d)) j→j≠i∧Mu env j:=fun j ⟨es,q⟩=>by
   by_cases z:j=i
   ·subst z
    rw[List.getElem?_set_self hi]at q
    rcases q with q | q<;>cases q
   ·rw[List.getElem?_set_ne (Ne.symm z)]at q;exact⟨z,es,q⟩
  obtain⟨zj,mj⟩:=nz j hj
  obtain⟨zk,mk⟩:=nz k hk
  rw[List.getElem?_set_ne (Ne.symm zj)]at e1
  rw[List.getElem?_set_ne (Ne.symm zk)]at e2
  exact R.inj j k b mj mk e1 e2
theorem Rel.putO{i:Nat}{ds:List D}{a:Addr}{xs:List V}(R:Rel K cl σ H F env)(hi:i<env.length)(hH:H a=some (.lst xs))(hF:F a=none)(na:∀j,Mu env j→σ[j]?≠some (some (.ref a)))(r:Rps K cl F ds xs):Rel K cl (σ.set i (some (.ref a))) H F (env.set i (.ow ds)):=by
 have his:i<σ.length:=by rw[R.len];exact hi
 have nz:∀j,j≠i→Mu (env.set i (.ow ds)) j→Mu env j:=fun j z ⟨es,q⟩=>by
  rw[List.getElem?_set_ne (Ne.symm z)]at q;exact⟨es,q⟩
 refine⟨R.sub,by rw[List.length_set,List.length_set];exact R.len,fun j e q=>?_,fun j es q=>?_,fun j k b hj hk e1 e2=>?_,R.od.set a1D⟩
 ·have z:j≠i:=fun z=>by subst z;rw[List.getElem?_set_self hi]at q;cases q
  rw[List.getElem?_set_ne (Ne.symm z)]at q
  obtain⟨u,e1,r1⟩:=R.fz j e q
  exact⟨u,by rw[List.getElem?_set_ne (Ne.symm z)];exact e1,r1⟩
 ·by_cases z:j=i
  ·subst z
   rw[List.getElem?_set_self hi]at q
   rcases q with q | q
   ·cases q;exact⟨a,xs,List.getElem?_set_self his,hH,hF,r⟩
   ·cases q
  ·rw[List.getElem?_set_ne (Ne.symm z)]at q
   obtain⟨b,ys,e1,h1,f1,r1⟩:=R.mu j es q
   exact⟨b,ys,by rw[List.getElem?_set_ne (Ne.symm z)];exact e1,h1,f1,r1⟩
 ·by_cases zj:j=i
  ·by_cases zk:k=i
   ·rw[zj,zk]
   ·subst zj
    rw[List.getElem?_set_self his]at e1
    rw[List.getElem?_set_ne (Ne.symm zk)]at e2
    cases e1
    exact absurd e2 (na k (nz k zk hk))
  ·rw[List.getElem?_set_ne (Ne.symm zj)]at e1
   by_cases zk:k=i
   ·subst zk
    rw[List.getElem?_set_self his]at e2
    cases e2
    exact absurd e1 (na j (nz j zj hj))
   ·rw[List.getElem?_set_ne (Ne.symm zk)]at e2
    exact R.inj j k b (nz j zj hj) (nz k zk hk) e1 e2
theorem Frm.put{i:Nat}{d:D}{x:Option V}(nh:∀ds,env[i]?≠some (.hd ds)):Frm σ H F env (σ.set i x) H F (env.set i (.fz d)):=by
 refine⟨Same.refl _,fun a o h f w=>⟨h,f,fun⟨j,ds,oo,q,e⟩=>?_⟩,fun j ds q=>?_,fun _ h=>h⟩
 ·by_cases z:j=i
  ·subst z
   have hj:j<env.length:=by have:=(List.getElem?_eq_some_iff.mp q).1;rwa [List.length_set]at this
   rw[List.getElem?_set_self hj]at q
   cases q;exact oo
  ·rw[List.getElem?_set_ne (Ne.symm z)]at q e
   exact w ⟨j,ds,oo,q,e⟩
 ·have z:j≠i:=fun z=>by subst z;exact nh ds q
  rw[List.getElem?_set_ne (Ne.symm z),List.getElem?_set_ne (Ne.symm z)]
  exact⟨q,rfl⟩
theorem Frm.putO{i:Nat}{s0:Sl}{a:Addr}(f:Frm σ H F env σ' H' F' env')(ha:H a=none)(nh:∀ds,env'[i]?≠some (.hd ds)):Frm σ H F env (σ'.set i (some (.ref a))) H' F' (env'.set i s0):=by
 refine⟨f.fz,fun b o h g w=>?_,fun j ds q=>?_,f.dom⟩
 ·obtain⟨h1,f1,w1⟩:=f.hid b o h g w
  refine⟨h1,f1,fun⟨j,ds,oo,q,e⟩=>?_⟩
  by_cases z:j=i
  ·subst z
   have hj:j<σ'.length:=by have:=(List.getElem?_eq_some_iff.mp e).1;rwa [List.length_set]at this
   rw[List.getElem?_set_self hj]at e
   cases e
   rw[ha]at h;cases h
  ·rw[List.getElem?_set_ne (Ne.symm z)]at q e
   exact w1 ⟨j,ds,oo,q,e⟩
 ·obtain⟨q1,e1⟩:=f.keep j ds q
  have z:j≠i:=fun z=>by subst z;exact nh ds q1
  rw[List.getElem?_set_ne (Ne.symm z),List.getElem?_set_ne (Ne.symm z)]
  exact⟨q1,e1⟩
end
inductive R(α:Type) where | ok (a:α) (e:DE) | ex (c:Str)
inductive RS where | nx (e:DE) | rt (d:D) | ro (ds:List D) | rz (dss:List (List D)) | rp (n:Int) (ds:List D) | bk (e:DE) | ct (e:DE) | ex (c:Str)
def bnd{α β:Type}(x:Option (R α))(k:α→DE→Option (R β)):Option (R β):=match x with
 | none=>none
 | some (.ok a e)=>k a e
 | some (.ex c)=>some (.ex c)
def O4{α:Type}(x:Option (R α))(k:α→DE→Option RS):Option RS:=match x with
 | none=>none
 | some (.ok a e)=>k a e
 | some (.ex c)=>some (.ex c)
def opt{α:Type}(x:Option α)(e:DE):Option (R α):=match x with
 | none=>none
 | some a=>some (.ok a e)
@[simp] theorem a3S{α β:Type}(a:α)(e:DE)(k:α→DE→Option (R β)):bnd (some (.ok a e)) k=k a e:=rfl
@[simp] theorem b4f{α β:Type}(c:Str)(k:α→DE→Option (R β)):bnd (some (.ex c)) k=some (.ex c):=rfl
@[simp] theorem b4g{α β:Type}(k:α→DE→Option (R β)):bnd (none:Option (R α)) k=none:=rfl
@[simp] theorem V9{α:Type}(a:α)(e:DE)(k:α→DE→Option RS):O4 (some (.ok a e)) k=k a e:=rfl
@[simp] theorem b4h{α:Type}(c:Str)(k:α→DE→Option RS):O4 (some (.ex c)) k=some (.ex c):=rfl
@[simp] theorem b4i{α:Type}(k:α→DE→Option RS):O4 (none:Option (R α)) k=none:=rfl
@[simp] theorem a1E{α:Type}(a:α)(e:DE):opt (some a) e=some (.ok a e):=rfl
@[simp] theorem a1F{α:Type}(e:DE):opt (none:Option α) e=none:=rfl
structure FX(σ:St)(H F:Hp)(env:DE)(H' F':Hp):Prop where
 fz:Same F F'
 sub:Same F' H'
 hid:∀a o,H a=some o→F a=none→¬Ow σ env a→H' a=some o∧F' a=none
 dom:∀a,H' a=none→H a=none
section
variable {K:W.Frag}{cl:Str→Addr}{E:XK}{σ σ':St}{H H' H1 F F' F1:Hp}{env env' env1:DE}{α β γ δ:Type}
theorem Frm.fx{H2 F2:Hp}(a:Frm σ H F env σ' H1 F1 env1)(b:FX σ' H1 F1 env1 H2 F2):FX σ H F env H2 F2 :=
 ⟨a.fz.trans b.fz,b.sub,fun x o h f w=>by obtain⟨h1,f1,w1⟩:=a.hid x o h f w;exact b.hid x o h1 f1 w1,fun x h=>a.dom x (b.dom x h)⟩
theorem Frm.toFX(a:Frm σ H F env σ' H1 F1 env1)(s:Same F1 H1):FX σ H F env H1 F1:=⟨a.fz,s,fun x o h f w=>by obtain⟨h1,f1,_⟩:=a.hid x o h f w;exact⟨h1,f1⟩,a.dom⟩
abbrev Py(α β:Type):=α→St→Hp→Hp→Hp→DE→β→Prop
def PM(P:Py α β):Prop:=∀a σ H0 H1 H' F' e b,(∀x:Addr,H1 x=none→H0 x=none)→P a σ H1 H' F' e b→P a σ H0 H' F' e b
def Ct(K:W.Frag)(cl:Str→Addr)(E:XK)(P:Py α β)(r:Option (R α))(σ:St)(H F:Hp)(env:DE)(Q:β→Hp→Prop):Prop:=match r with
 | none=>False
 | some (.ok a e)=>∀b H' F',Frm σ H F env σ H' F' e→Rel K cl σ H' F' e→P a σ H H' F' e b→Q b H'
 | some (.ex c)=>∀H' F',FX σ H F env H' F'→E (.ref (cl c)) none H'
def Rz(K:W.Frag)(cl:Str→Addr)(F' H':Hp)(nw:Addr→Prop)(dss:List (List D))(as:List Addr):Prop:=as.Nodup∧as.length=dss.length∧∀(k:Nat) (a:Addr) (ds:List D),as[k]? = some a→dss[k]? = some ds→∃xs,H' a=some (.lst xs)∧F' a=none∧nw a∧Rps K cl F' ds xs
theorem Rz.imp{nw nw':Addr→Prop}{dss:List (List D)}{as:List Addr}(h:Rz K cl F' H' nw dss as)(i:∀a xs,H' a=some (.lst xs)→F' a=none→nw a→nw' a):Rz K cl F' H' nw' dss as :=
 ⟨h.1,h.2.1,fun k a ds e1 e2=>by obtain⟨xs,h1,h2,h3,h4⟩:=h.2.2 k a ds e1 e2;exact⟨xs,h1,h2,i a xs h1 h2 h3,h4⟩⟩
def Cs(K:W.Frag)(cl:Str→Addr)(E:XK)(r:Option RS)(σ:St)(H F:Hp)(env:DE)(N:Ends):Prop:=match r with
 | none=>False
 | some (.nx e)=>∀σ' H' F',Frm σ H F env σ' H' F' e→Rel K cl σ' H' F' e→N.nx σ' H'
 | some (.bk e)=>∀σ' H' F',Frm σ H F env σ' H' F' e→Rel K cl σ' H' F' e→N.bk σ' H'
 | some (.ct e)=>∀σ' H' F',Frm σ H F env σ' H' F' e→Rel K cl σ' H' F' e→N.ct σ' H'
 | some (.rt d)=>∀v H' F',FX σ H F env H' F'→Rp K cl F' d v→N.rt v H'
 | some (.ro ds)=>∀a xs H' F',FX σ H F env H' F'→H' a=some (.lst xs)→F' a=none→(∀o,H a=some o→Ow σ env a)→Rps K cl F' ds xs→N.rt (.ref a) H'
 | some (.rz dss)=>∀p as H' F',FX σ H F env H' F'→H p=none→H' p=some (.tup (as.map V.ref))→F' p=none→Rz K cl F' H' (fun a=>∀o,H a=some o→Ow σ env a) dss as→N.rt (.ref p) H'
 | some (.rp n ds)=>∀p a xs H' F',FX σ H F env H' F'→H p=none→H' p=some (.tup [.int n,.ref a])→F' p=none→H' a=some (.lst xs)→F' a=none→(∀o,H a=some o→Ow σ env a)→Rps K cl F' ds xs→N.rt (.ref p) H'
 | some (.ex c)=>∀H' F',FX σ H F env H' F'→E (.ref (cl c)) none H'
theorem Ct.mono{P:Py α β}{r:Option (R α)}{Q Q':β→Hp→Prop}(h:Ct K cl E P r σ H F env Q)(q:∀b H',Q b H'→Q' b H'):Ct K cl E P r σ H F env Q':=by
 unfold Ct at h ⊢
 split at h
 ·exact h
 ·exact fun b H' F' f R p=>q _ _ (h b H' F' f R p)
 ·exact h
theorem Ct.from{P2:Py γ δ}{r:Option (R γ)}{Q:δ→Hp→Prop}(f:Frm σ H F env σ H1 F1 env1)(pm:PM P2)(h:Ct K cl E P2 r σ H F env Q):Ct K cl E P2 r σ H1 F1 env1 Q:=by
 unfold Ct at h ⊢
 split at h
 ·exact h
 ·exact fun b H' F' f2 R2 p2=>h b H' F' (f.trans f2) R2 (pm _ _ _ _ _ _ _ _ f.dom p2)
 ·exact fun H' F' x=>h H' F' (f.fx x)
theorem Ct.bnd{P1:Py α β}{P2:Py γ δ}{r:Option (R α)}{k:α→DE→Option (R γ)}{Q:δ→Hp→Prop}(h:Ct K cl E P2 (bnd r k) σ H F env Q)(pm:PM P2) :
  Ct K cl E P1 r σ H F env fun b H1=>∃F1 env1 a,Same F F1∧Rel K cl σ H1 F1 env1∧P1 a σ H H1 F1 env1 b∧Ct K cl E P2 (k a env1) σ H1 F1 env1 Q:=by
 unfold Ct
 rcases r with _ | ⟨a,e⟩ | c
 ·exact h
 ·intro b H1 F1 f R p
  refine⟨F1,e,a,f.fz,R,p,?_⟩
  have h:Ct K cl E P2 (k a e) σ H F env Q:=h
  exact Ct.from f pm h
 ·exact h
theorem Cs.from{r:Option RS}{N:Ends}(f:Frm σ H F env σ' H1 F1 env1)(h:Cs K cl E r σ H F env N):Cs K cl E r σ' H1 F1 env1 N:=by
 unfold Cs at h ⊢
 split at h
 ·exact h
 ·exact fun σ' H' F' f2 R2=>h σ' H' F' (f.trans f2) R2
 ·exact fun σ' H' F' f2 R2=>h σ' H' F' (f.trans f2) R2
 ·exact fun σ' H' F' f2 R2=>h σ' H' F' (f.trans f2) R2
 ·exact fun v H' F' x p=>h v H' F' (f.fx x) p
 ·refine fun a xs H' F' x ha fa nw p=>h a xs H' F' (f.fx x) ha fa (fun o e=>?_) p
  refine Classical.byContradiction fun w=>?_
  cases q:F a with
  | none =>
   obtain⟨h1,f1,w1⟩:=f.hid a o e q w
   exact w1 (nw o h1)
  | some u=>rw[x.fz _ _ (f.fz _ _ q)]at fa;cases fa
 ·refine fun p as H' F' x hp ht fp rz=>h p as H' F' (f.fx x) (f.dom p hp) ht fp (rz.imp fun a xs ha fa nw o e=>?_)
  refine Classical.byContradiction fun w=>?_
  cases q:F a with
  | none =>
   obtain⟨h1,f1,w1⟩:=f.hid a o e q w
   exact w1 (nw o h1)
  | some u=>rw[x.fz _ _ (f.fz _ _ q)]at fa;cases fa
 ·refine fun p a xs H' F' x hp ht fp ha fa nw r=>h p a xs H' F' (f.fx x) (f.dom p hp) ht fp ha fa (fun o e=>?_) r
  refine Classical.byContradiction fun w=>?_
  cases q:F a with
  | none =>
   obtain⟨h1,f1,w1⟩:=f.hid a o e q w
   exact w1 (nw o h1)
  | some u=>rw[x.fz _ _ (f.fz _ _ q)]at fa;cases fa
 ·exact fun H' F' x=>h H' F' (f.fx x)
theorem Cs.bnd{P1:Py α β}{r:Option (R α)}{k:α→DE→Option RS}{N:Ends}(h:Cs K cl E (O4 r k) σ H F env N) :
  Ct K cl E P1 r σ H F env fun b H1=>∃F1 env1 a,Frm σ H F env σ H1 F1 env1∧Rel K cl σ H1 F1 env1∧P1 a σ H H1 F1 env1 b∧Cs K cl E (k a env1) σ H F env N:=by
 unfold Ct
 rcases r with _ | ⟨a,e⟩ | c
 ·exact h
 ·intro b H1 F1 f R p
  exact⟨F1,e,a,f,R,p,h⟩
 ·exact h
end
def PZ(K:W.Frag)(cl:Str→Addr):Py D V:=fun d _ _ _ F' _ v=>Rp K cl F' d v
def PAs(K:W.Frag)(cl:Str→Addr):Py (List D) (List V):=fun ds _ _ _ F' _ vs=>Rps K cl F' ds vs
def PB:Py Bool Bool:=fun b _ _ _ _ _ c=>c=b
def PI':Py (Option Int) (Option Int):=fun b _ _ _ _ _ c=>c=b
def PN(K:W.Frag)(cl:Str→Addr):Py (List D) V:=fun ds σ H H' F' e v=>∃a xs,v=.ref a∧H a=none∧H' a=some (.lst xs)∧F' a=none∧(∀j,Mu e j→σ[j]?≠some (some (.ref a)))∧Rps K cl F' ds xs
theorem P0{K cl}:PM (PZ K cl):=fun _ _ _ _ _ _ _ _ _ h=>h
theorem b4j{K cl}:PM (PAs K cl):=fun _ _ _ _ _ _ _ _ _ h=>h
theorem a8a:PM PB:=fun _ _ _ _ _ _ _ _ _ h=>h
theorem b55:PM PI':=fun _ _ _ _ _ _ _ _ _ h=>h
theorem a8b{K cl}:PM (PN K cl):=fun _ _ _ _ _ _ _ _ g ⟨a,xs,e,h,r⟩=>⟨a,xs,e,g a h,r⟩
abbrev ZF:=DE→Option (R D)
abbrev NF:=DE→Option (R (List D))
abbrev AF:=DE→Option (R (List D))
abbrev BF:=DE→Option (R Bool)
abbrev OF:=DE→Option (R (Option Int))
abbrev SF:=DE→Option RS
section
variable (K:W.Frag)(cl:Str→Addr)(E:XK)
def w8(t:TE)(f:ZF):Prop:=∀σ H Q env F,Rel K cl σ H F env→Ct K cl E (PZ K cl) (f env) σ H F env Q→t σ H Q
def RfN(t:TE)(f:NF):Prop:=∀σ H Q env F,Rel K cl σ H F env→Ct K cl E (PN K cl) (f env) σ H F env Q→t σ H Q
def RfA(t:TA)(f:AF):Prop:=∀σ H Q env F,Rel K cl σ H F env→Ct K cl E (PAs K cl) (f env) σ H F env Q→t σ H Q
def U9(t:TT)(f:BF):Prop:=∀σ H Q env F,Rel K cl σ H F env→Ct K cl E PB (f env) σ H F env Q→t σ H Q
def RfO(t:TO)(f:OF):Prop:=∀σ H Q env F,Rel K cl σ H F env→Ct K cl E PI' (f env) σ H F env Q→t σ H Q
def RfS(t:TS)(f:SF):Prop:=∀(N:Ends) σ H env F,Rel K cl σ H F env→Cs K cl E (f env) σ H F env N→t N σ H
end
def eC(d:D):ZF:=fun e=>some (.ok d e)
def eV(i:Nat):ZF:=fun e=>match e[i]? with
 | some (.fz d)=>some (.ok d e)
 | some (.ow ds)=>some (.ok (.lst ds) (e.set i (.fz (.lst ds))))
 | _=>none
def look(e:DE)(i:Nat):Option D:=match e[i]? with
 | some (.fz d)=>some d
 | some (.ow ds)=>some (.lst ds)
 | some (.hd ds)=>some (.lst ds)
 | _=>none
def Rb(K:W.Frag)(cl:Str→Addr)(F H:Hp)(d:D)(v:V):Prop:=Rp K cl F d v∨∃a xs ds,v=.ref a∧d=.lst ds∧H a=some (.lst xs)∧Rps K cl F ds xs
section
variable {K:W.Frag}{cl:Str→Addr}{E:XK}{σ:St}{H F:Hp}{env:DE}
theorem Rel.look{i:Nat}{d:D}(R:Rel K cl σ H F env)(h:look env i=some d):∃v,σ[i]? = some (some v)∧Rb K cl F H d v:=by
 unfold L2.look at h
 split at h
 ·rename_i q;cases h;obtain⟨v,e,r⟩:=R.fz i d q;exact⟨v,e,.inl r⟩
 ·rename_i ds q;cases h;obtain⟨a,xs,e,hH,_,r⟩:=R.mu i ds (.inl q);exact⟨_,e,.inr ⟨a,xs,ds,rfl,rfl,hH,r⟩⟩
 ·rename_i ds q;cases h;obtain⟨a,xs,e,hH,_,r⟩:=R.mu i ds (.inr q);exact⟨_,e,.inr ⟨a,xs,ds,rfl,rfl,hH,r⟩⟩
 ·cases h
theorem b9{v:V}{d:D}(h:∀F,Rp K cl F d v:=by intro F;simp only[Rp]):w8 K cl E (tC v) (eC d):=fun σ H Q env F R h'=>h' v H F Frm.refl R (h F)
theorem b0{i:Nat}:w8 K cl E (D7 i) (eV i):=by
 intro σ H Q env F R h
 unfold eV at h
 split at h
 ·rename_i d q
  obtain⟨v,e,r⟩:=R.fz i d q
  exact⟨v,e,h v H F Frm.refl R r⟩
 ·rename_i ds q
  obtain⟨a,F',e,fr,R',r⟩:=R.freeze q
  exact⟨_,e,h _ H F' fr R' r⟩
 ·exact h.elim
end
def OpOk(K:W.Frag)(cl:Str→Addr)(r:R2)(g:D→D→Option D):Prop:=∀x y d e z H F Q,Same F H→Rb K cl F H d x→Rb K cl F H e y→g d e=some z→(∀v H' F',Gr H F H' F'→Rp K cl F' z v→Q v H')→r x y H Q
def eB(g:D→D→Option D)(f k:ZF):ZF:=fun e=>bnd (f e) fun d e1=>bnd (k e1) fun d' e2=>opt (g d d') e2
def k7(g:D→D→Option D)(i:Nat)(k:ZF):ZF:=fun e=>match look e i with
 | none=>none
 | some _=>bnd (k e) fun d' e2=>match look e2 i with
  | some d=>opt (g d d') e2
  | none=>none
def eBW(g:D→D→Option D)(f:ZF)(j:Nat):ZF:=fun e=>bnd (f e) fun d e2=>match look e2 j with
 | some d'=>opt (g d d') e2
 | none=>none
def a5X(g:D→D→Option D)(i j:Nat):ZF:=fun e=>match look e i,look e j with
 | some d,some d'=>opt (g d d') e
 | _,_=>none
section
variable {K:W.Frag}{cl:Str→Addr}{E:XK}{r:R2}{g:D→D→Option D}{ta tb:TE}{f k:ZF}{i j:Nat}
theorem OpOk.fin{σ:St}{H F:Hp}{env:DE}{x y:V}{d e:D}{Q:VK}(ok:OpOk K cl r g)(R:Rel K cl σ H F env)(hx:Rb K cl F H d x)(hy:Rb K cl F H e y)(h:Ct K cl E (PZ K cl) (opt (g d e) env) σ H F env Q):r x y H Q:=by
 cases hz:g d e with
 | none=>rw[hz]at h;exact h.elim
 | some z =>
  rw[hz]at h
  exact ok x y d e z H F Q R.sub hx hy hz fun v H' F' gr p=>h v H' F' (R.frm gr) (R.gr gr) p
theorem a7(ok:OpOk K cl r g)(ha:w8 K cl E ta f)(hb:w8 K cl E tb k):w8 K cl E (tOp r ta tb) (eB g f k):=by
 intro σ H Q env F R h
 refine ha σ H _ env F R ((Ct.bnd h P0).mono fun x H1 ⟨F1,e1,d,s1,R1,p1,h1⟩=>?_)
 refine hb σ H1 _ e1 F1 R1 ((Ct.bnd h1 P0).mono fun y H2 ⟨F2,e2,e,s2,R2,p2,h2⟩=>?_)
 exact ok.fin R2 (.inl (Rp.mono s2 _ _ p1)) (.inl p2) h2
theorem l9(ok:OpOk K cl r g)(hb:w8 K cl E tb k):w8 K cl E (tOp r (D7 i) tb) (k7 g i k):=by
 intro σ H Q env F R h
 unfold k7 at h
 cases q:look env i with
 | none=>rw[q]at h;exact h.elim
 | some d0 =>
  rw[q]at h
  obtain⟨x,e0,_⟩:=R.look q
  refine⟨x,e0,hb σ H _ env F R ((Ct.bnd h P0).mono fun y H2 ⟨F2,e2,e,s2,R2,p2,h2⟩=>?_)⟩
  cases q2:look e2 i with
  | none=>rw[q2]at h2;exact h2.elim
  | some d =>
   rw[q2]at h2
   obtain⟨x',e',rb⟩:=R2.look q2
   rw[e0]at e';cases e'
   exact ok.fin R2 rb (.inl p2) h2
theorem a9n(ok:OpOk K cl r g)(ha:w8 K cl E ta f):w8 K cl E (tOp r ta (D7 j)) (eBW g f j):=by
 intro σ H Q env F R h
 refine ha σ H _ env F R ((Ct.bnd h P0).mono fun x H1 ⟨F1,e1,d,s1,R1,p1,h1⟩=>?_)
 cases q:look e1 j with
 | none=>rw[q]at h1;exact h1.elim
 | some d' =>
  rw[q]at h1
  obtain⟨y,e,rb⟩:=R1.look q
  exact⟨y,e,ok.fin R1 (.inl p1) rb h1⟩
theorem b2l(ok:OpOk K cl r g):w8 K cl E (tOp r (D7 i) (D7 j)) (a5X g i j):=by
 intro σ H Q env F R h
 unfold a5X at h
 cases q:look env i with
 | none=>rw[q]at h;exact h.elim
 | some d =>
  cases q2:look env j with
  | none=>rw[q,q2]at h;exact h.elim
  | some d' =>
   rw[q,q2]at h
   obtain⟨x,e,rb⟩:=R.look q
   obtain⟨y,e',rb'⟩:=R.look q2
   exact⟨x,e,y,e',ok.fin R rb rb' h⟩
end
section
variable {K:W.Frag}{cl:Str→Addr}{E:XK}
theorem Rb.int{F H:Hp}{i:Int}{v:V}(h:Rb K cl F H (.int i) v):v=.int i:=by
 rcases h with h | ⟨_,_,_,_,z,_⟩
 ·simpa only[Rp]using h
 ·cases z
theorem Rb.bl{F H:Hp}{i:Bool}{v:V}(h:Rb K cl F H (.bl i) v):v=.bl i:=by
 rcases h with h | ⟨_,_,_,_,z,_⟩
 ·simpa only[Rp]using h
 ·cases z
theorem Rb.str{F H:Hp}{i:Str}{v:V}(h:Rb K cl F H (.str i) v):v=.str i:=by
 rcases h with h | ⟨_,_,_,_,z,_⟩
 ·simpa only[Rp]using h
 ·cases z
theorem Rb.non{F H:Hp}{v:V}(h:Rb K cl F H .non v):v=.non:=by
 rcases h with h | ⟨_,_,_,_,z,_⟩
 ·simpa only[Rp]using h
 ·cases z
theorem Rb.lst{F H:Hp}{ds:List D}{v:V}(s:Same F H)(h:Rb K cl F H (.lst ds) v):∃a xs,v=.ref a∧H a=some (.lst xs)∧Rps K cl F ds xs:=by
 rcases h with h | ⟨a,xs,ds',e,z,h,r⟩
 ·simp only[Rp]at h
  obtain⟨a,xs,e,h,r⟩:=h
  exact⟨a,xs,e,s _ _ h,r⟩
 ·cases z;exact⟨a,xs,e,h,r⟩
theorem Rb.tup{F H:Hp}{ds:List D}{v:V}(s:Same F H)(h:Rb K cl F H (.tup ds) v):∃a xs,v=.ref a∧H a=some (.tup xs)∧Rps K cl F ds xs:=by
 rcases h with h | ⟨_,_,_,_,z,_⟩
 ·simp only[Rp]at h
  obtain⟨a,xs,e,h,r⟩:=h
  exact⟨a,xs,e,s _ _ h,r⟩
 ·cases z
theorem Rb.scr{F H:Hp}{ns:List Int}{v:V}(s:Same F H)(h:Rb K cl F H (.scr ns) v):∃a,v=.ref a∧Scr K H a (ns.map V.int):=by
 rcases h with h | ⟨_,_,_,_,z,_⟩
 ·simp only[Rp]at h
  obtain⟨a,e,h⟩:=h
  exact⟨a,e,h.same s⟩
 ·cases z
def gI(C:Int→Int→Prop) [∀i j,Decidable (C i j)] (g:Int→Int→D):D→D→Option D
 | .int i,.int j=>if C i j then some (g i j)else none
 | _,_=>none
def gI0(g:Int→Int→D):D→D→Option D
 | .int i,.int j=>some (g i j)
 | _,_=>none
theorem a8c{C:Int→Int→Prop} [∀i j,Decidable (C i j)] {g:Int→Int→V} {g':Int→Int→D} (hg:∀F i j,Rp K cl F (g' i j) (g i j)):OpOk K cl (rI C g) (gI C g'):=by
 intro x y d e z H F Q s hx hy h q
 unfold gI at h
 split at h
 ·rename_i i j
  split at h
  ·rename_i c;cases h
   exact⟨i,j,hx.int,hy.int,c,q _ H F (.refl s) (hg F i j)⟩
  ·cases h
 ·cases h
theorem a2J{g:Int→Int→V}{g':Int→Int→D}(hg:∀F i j,Rp K cl F (g' i j) (g i j)):OpOk K cl (rI0 g) (gI0 g'):=by
 intro x y d e z H F Q s hx hy h q
 unfold gI0 at h
 split at h
 ·rename_i i j
  cases h
  exact⟨i,j,hx.int,hy.int,q _ H F (.refl s) (hg F i j)⟩
 ·cases h
end
section
variable {K:W.Frag}{cl:Str→Addr}{E:XK}{σ:St}{H F:Hp}{env:DE}
theorem Rel.newN{p:Addr}{o:HO}(R:Rel K cl σ H F env)(hp:H p=none):Rel K cl σ (upd H p o) F env∧Frm σ H F env σ (upd H p o) F env:=by
 have fp:F p=none:=R.sub.free hp
 have ne:∀a u,H a=some u→a≠p:=fun a u h z=>by rw[z,hp]at h;cases h
 refine⟨⟨R.sub.trans (X6 hp _),R.len,R.fz,fun i ds h=>?_,R.inj,R.od.newO hp⟩,⟨Same.refl _,fun a u h f w=>?_,fun _ _ h=>⟨h,rfl⟩,fun a h=>?_⟩⟩
 ·obtain⟨a,xs,e,hH,hF,r⟩:=R.mu i ds h
  exact⟨a,xs,e,by rw[g7 (ne _ _ hH)];exact hH,hF,r⟩
 ·exact⟨by rw[g7 (ne _ _ h)];exact h,f,w⟩
 ·by_cases z:a=p
  ·rw[z];exact hp
  ·rw[g7 z]at h;exact h
theorem Ct.newN{p:Addr}{xs:List V}{ds:List D}{Q:VK}(R:Rel K cl σ H F env)(hp:H p=none)(r:Rps K cl F ds xs)(h:Ct K cl E (PN K cl) (some (.ok ds env)) σ H F env Q):Q (.ref p) (upd H p (.lst xs)):=by
 obtain⟨R',f⟩:=R.newN (o:=.lst xs) hp
 refine h _ _ F f R' ⟨p,xs,rfl,hp,j8,R.sub.free hp,fun j mj e=>?_,r⟩
 obtain⟨ds',q⟩:=mj
 obtain⟨a,ys,e1,hH,_⟩:=R.mu j ds' q
 rw[e]at e1;cases e1
 rw[hp]at hH;cases hH
def zN(f:NF):ZF:=fun e=>bnd (f e) fun ds e1=>some (.ok (.lst ds) e1)
theorem b5g{t:TE}{f:NF}(h:RfN K cl E t f):w8 K cl E t (zN f):=by
 intro σ H Q env F R q
 refine h σ H Q env F R ?_
 unfold zN at q
 rcases hf:f env with _ | ⟨ds,e1⟩ | c
 ·rw[hf]at q;exact q
 ·rw[hf]at q
  rintro b H' F' fr R' ⟨a,xs,rfl,hn,hH,hF,nm,r⟩
  have sF:Same F' (upd F' a (.lst xs)):=X6 hF _
  refine q _ H' (upd F' a (.lst xs)) ⟨fr.fz.trans sF,fun b o hb fb w=>?_,fr.keep,fr.dom⟩ ⟨fun b o z=>?_,R'.len,fun i d z=>?_,fun i es z=>?_,R'.inj,R'.od.frzL hH hF⟩ (by show Rp K cl _ (.lst ds) _;simp only[Rp];exact⟨a,xs,rfl,j8,r.mono sF⟩)
  ·obtain⟨h1,f1,w1⟩:=fr.hid b o hb fb w
   have nb:b≠a:=fun z=>by rw[z,hn]at hb;cases hb
   exact⟨h1,by rw[g7 nb];exact f1,w1⟩
  ·by_cases y:b=a
   ·subst y;rw[j8]at z;cases z;exact hH
   ·rw[g7 y]at z;exact R'.sub _ _ z
  ·obtain⟨v,e,r1⟩:=R'.fz i d z
   exact⟨v,e,r1.mono sF⟩
  ·obtain⟨b,ys,e,h1,f1,r1⟩:=R'.mu i es z
   have nb:b≠a:=fun y=>nm i ⟨es,z⟩ (by rw[e,y])
   exact⟨b,ys,e,h1,by rw[g7 nb];exact f1,r1.mono sF⟩
 ·rw[hf]at q;exact q
def aN:AF:=fun e=>some (.ok [] e)
def aC(f:ZF)(k:AF):AF:=fun e=>bnd (f e) fun d e1=>bnd (k e1) fun ds e2=>some (.ok (d::ds) e2)
theorem g5:RfA K cl E a0C aN:=fun σ H Q env F R h=>h [] H F Frm.refl R .nil
theorem a9{te:TE}{ta:TA}{f:ZF}{k:AF}(hf:w8 K cl E te f)(hk:RfA K cl E ta k):RfA K cl E (L7 te ta) (aC f k):=by
 intro σ H Q env F R h
 refine hf σ H _ env F R ((Ct.bnd h b4j).mono fun x H1 ⟨F1,e1,d,s1,R1,p1,h1⟩=>?_)
 refine hk σ H1 _ e1 F1 R1 ((Ct.bnd h1 b4j).mono fun xs H2 ⟨F2,e2,ds,s2,R2,p2,h2⟩=>?_)
 exact h2 (x::xs) H2 F2 Frm.refl R2 (.cons (Rp.mono s2 _ _ p1) p2)
def eT(f:AF):ZF:=fun e=>bnd (f e) fun ds e1=>if ds.length≤sizeLine then some (.ok (.tup ds) e1)else none
def eL(f:AF):NF:=fun e=>bnd (f e) fun ds e1=>if ds.length≤sizeLine then some (.ok ds e1)else none
theorem t5{ta:TA}{f:AF}(hf:RfA K cl E ta f):w8 K cl E (a7V ta) (eT f):=by
 intro σ H Q env F R h
 refine hf σ H _ env F R ((Ct.bnd h P0).mono fun xs H1 ⟨F1,e1,ds,s1,R1,p1,h1⟩=>?_)
 have hl:ds.length=xs.length:=Rps.length p1
 split at h1
 ·rename_i z
  refine⟨by rw[← hl];exact z,fun p hp=>?_⟩
  have g:Gr H1 F1 (upd H1 p (.tup xs)) (upd F1 p (.tup xs)):=.new R1.sub hp
  exact h1 _ _ _ (R1.frm g) (R1.gr g) (by show Rp K cl _ (.tup ds) _;simp only[Rp];exact⟨p,xs,rfl,j8,Rps.mono g.fz _ _ p1⟩)
 ·exact h1.elim
theorem a1G{ta:TA}{f:AF}(hf:RfA K cl E ta f):RfN K cl E (b3M ta) (eL f):=by
 intro σ H Q env F R h
 refine hf σ H _ env F R ((Ct.bnd h a8b).mono fun xs H1 ⟨F1,e1,ds,s1,R1,p1,h1⟩=>?_)
 have hl:ds.length=xs.length:=Rps.length p1
 split at h1
 ·rename_i z
  exact⟨by rw[← hl];exact z,fun p hp=>Ct.newN R1 hp p1 h1⟩
 ·exact h1.elim
def bZ(f:ZF):BF:=fun e=>bnd (f e) fun d e1=>match d with
 | .bl b=>some (.ok b e1)
 | _=>none
theorem L9{t:TE}{f:ZF}(hf:w8 K cl E t f):U9 K cl E (tB t) (bZ f):=by
 intro σ H Q env F R h
 refine hf σ H _ env F R ((Ct.bnd h a8a).mono fun x H1 ⟨F1,e1,d,s1,R1,p1,h1⟩=>?_)
 split at h1
 ·rename_i b
  have:x=.bl b:=by have:=(show Rp K cl F1 (.bl b) x from p1);simpa only[Rp]using this
  exact⟨b,this,h1 b H1 F1 Frm.refl R1 rfl⟩
 ·exact h1.elim
theorem u9{t:TE}{f:ZF}(hf:w8 K cl E t f):U9 K cl E (a7U t) (bZ f):=L9 hf
def Q7(f:BF):BF:=fun e=>bnd (f e) fun b e1=>some (.ok (!b) e1)
def M8(f k:BF):BF:=fun e=>bnd (f e) fun b e1=>if b=true then k e1 else some (.ok false e1)
def bOr(f k:BF):BF:=fun e=>bnd (f e) fun b e1=>if b=true then some (.ok true e1)else k e1
theorem S6{t:TT}{f:BF}(hf:U9 K cl E t f):U9 K cl E (b3F t) (Q7 f):=by
 intro σ H Q env F R h
 refine hf σ H _ env F R ((Ct.bnd h a8a).mono fun x H1 ⟨F1,e1,d,s1,R1,p1,h1⟩=>?_)
 cases (show x=d from p1)
 exact h1 _ H1 F1 Frm.refl R1 rfl
theorem V0{t u:TT}{f k:BF}(hf:U9 K cl E t f)(hk:U9 K cl E u k):U9 K cl E (b3E t u) (M8 f k):=by
 intro σ H Q env F R h
 refine hf σ H _ env F R ((Ct.bnd h a8a).mono fun x H1 ⟨F1,e1,d,s1,R1,p1,h1⟩=>?_)
 cases (show x=d from p1)
 by_cases z:x=true
 ·rw[if_pos z]at h1 ⊢;exact hk σ H1 Q e1 F1 R1 h1
 ·rw[if_neg z]at h1 ⊢;exact h1 _ H1 F1 Frm.refl R1 rfl
theorem a0H{t u:TT}{f k:BF}(hf:U9 K cl E t f)(hk:U9 K cl E u k):U9 K cl E (tOr t u) (bOr f k):=by
 intro σ H Q env F R h
 refine hf σ H _ env F R ((Ct.bnd h a8a).mono fun x H1 ⟨F1,e1,d,s1,R1,p1,h1⟩=>?_)
 cases (show x=d from p1)
 by_cases z:x=true
 ·rw[if_pos z]at h1 ⊢;exact h1 _ H1 F1 Frm.refl R1 rfl
 ·rw[if_neg z]at h1 ⊢;exact hk σ H1 Q e1 F1 R1 h1
def a4n(f:ZF):ZF:=fun e=>bnd (f e) fun d e1=>match d with
 | .bl b=>some (.ok (.bl (!b)) e1)
 | _=>none
def a2j(f k:ZF):ZF:=fun e=>bnd (f e) fun d e1=>match d with
 | .bl b=>if b=true then k e1 else some (.ok (.bl false) e1)
 | _=>none
def eIf(c:BF)(f k:ZF):ZF:=fun e=>bnd (c e) fun b e1=>if b=true then f e1 else k e1
theorem a9o{t:TE}{f:ZF}(hf:w8 K cl E t f):w8 K cl E (b1m t) (a4n f):=by
 intro σ H Q env F R h
 refine hf σ H _ env F R ((Ct.bnd h P0).mono fun x H1 ⟨F1,e1,d,s1,R1,p1,h1⟩=>?_)
 split at h1
 ·rename_i b
  have:x=.bl b:=by have:=(show Rp K cl F1 (.bl b) x from p1);simpa only[Rp]using this
  exact⟨b,this,h1 _ H1 F1 Frm.refl R1 (by show Rp K cl F1 (.bl _) _;simp only[Rp])⟩
 ·exact h1.elim
theorem a3T{t u:TE}{f k:ZF}(hf:w8 K cl E t f)(hk:w8 K cl E u k):w8 K cl E (b1l t u) (a2j f k):=by
 intro σ H Q env F R h
 refine hf σ H _ env F R ((Ct.bnd h P0).mono fun x H1 ⟨F1,e1,d,s1,R1,p1,h1⟩=>?_)
 split at h1
 ·rename_i b
  have:x=.bl b:=by have:=(show Rp K cl F1 (.bl b) x from p1);simpa only[Rp]using this
  refine⟨b,this,?_⟩
  by_cases z:b=true
  ·rw[if_pos z]at h1 ⊢;exact hk σ H1 Q e1 F1 R1 h1
  ·rw[if_neg z]at h1 ⊢;exact h1 _ H1 F1 Frm.refl R1 (by show Rp K cl F1 (.bl _) _;simp only[Rp])
 ·exact h1.elim
theorem b5h{c:TT}{t u:TE}{b:BF}{f k:ZF}(hc:U9 K cl E c b)(hf:w8 K cl E t f)(hk:w8 K cl E u k):w8 K cl E (tIf c t u) (eIf b f k):=by
 intro σ H Q env F R h
 refine hc σ H _ env F R ((Ct.bnd h P0).mono fun x H1 ⟨F1,e1,d,s1,R1,p1,h1⟩=>?_)
 cases (show x=d from p1)
 by_cases z:x=true
 ·rw[if_pos z]at h1 ⊢;exact hf σ H1 Q e1 F1 R1 h1
 ·rw[if_neg z]at h1 ⊢;exact hk σ H1 Q e1 F1 R1 h1
def b4m(K:W.Frag)(cl:Str→Addr)(r:V→Hp→VK→Prop)(g:D→Option D):Prop:=∀x d z H F Q,Same F H→Rb K cl F H d x→g d=some z→(∀v H' F',Gr H F H' F'→Rp K cl F' z v→Q v H')→r x H Q
def eU(g:D→Option D)(f:ZF):ZF:=fun e=>bnd (f e) fun d e1=>opt (g d) e1
theorem b0B{r:V→Hp→VK→Prop}{g:D→Option D}{t:TE}{f:ZF}(ok:b4m K cl r g)(hf:w8 K cl E t f):w8 K cl E (tUn r t) (eU g f):=by
 intro σ H Q env F R h
 refine hf σ H _ env F R ((Ct.bnd h P0).mono fun x H1 ⟨F1,e1,d,s1,R1,p1,h1⟩=>?_)
 cases hz:g d with
 | none=>rw[hz]at h1;exact h1.elim
 | some z =>
  rw[hz]at h1
  exact ok x d z H1 F1 Q R1.sub (.inl p1) hz fun v H' F' gr p=>h1 v H' F' (R1.frm gr) (R1.gr gr) p
def a0I:D→Option D
 | .int i=>some (.int (-i))
 | _=>none
theorem a5Y:b4m K cl (rU fun i=>.int (-i)) a0I:=by
 intro x d z H F Q s hx h q
 unfold a0I at h
 split at h
 ·rename_i i;cases h
  exact⟨i,hx.int,q _ H F (.refl s) (by simp only[Rp])⟩
 ·cases h
def a8d(K:W.Frag)(cl:Str→Addr)(r:List V→Hp→VK→Prop)(g:List D→Option D):Prop:=∀xs ds z H F Q,Same F H→Rps K cl F ds xs→g ds=some z→(∀v H' F',Gr H F H' F'→Rp K cl F' z v→Q v H')→r xs H Q
def CbOk1(K:W.Frag)(cl:Str→Addr)(r:List V→Hp→VK→Prop)(g:D→Option D):Prop:=∀x d z H F Q,Same F H→Rb K cl F H d x→g d=some z→(∀v H' F',Gr H F H' F'→Rp K cl F' z v→Q v H')→r [x] H Q
def X1(g:List D→Option D)(f:AF):ZF:=fun e=>bnd (f e) fun ds e1=>opt (g ds) e1
def A4(g:D→Option D)(i:Nat):ZF:=fun e=>match look e i with
 | some d=>opt (g d) e
 | none=>none
theorem a1H{r:List V→Hp→VK→Prop}{g:List D→Option D}{t:TA}{f:AF}(ok:a8d K cl r g)(hf:RfA K cl E t f):w8 K cl E (tCB r t) (X1 g f):=by
 intro σ H Q env F R h
 refine hf σ H _ env F R ((Ct.bnd h P0).mono fun x H1 ⟨F1,e1,d,s1,R1,p1,h1⟩=>?_)
 cases hz:g d with
 | none=>rw[hz]at h1;exact h1.elim
 | some z =>
  rw[hz]at h1
  exact ok x d z H1 F1 Q R1.sub p1 hz fun v H' F' gr p=>h1 v H' F' (R1.frm gr) (R1.gr gr) p
theorem E4{r:List V→Hp→VK→Prop}{g:D→Option D}{i:Nat}(ok:CbOk1 K cl r g):w8 K cl E (tCB r (L7 (D7 i) a0C)) (A4 g i):=by
 intro σ H Q env F R h
 unfold A4 at h
 cases q:look env i with
 | none=>rw[q]at h;exact h.elim
 | some d =>
  rw[q]at h
  obtain⟨x,e,rb⟩:=R.look q
  refine⟨x,e,?_⟩
  cases hz:g d with
  | none=>simp only[hz,a1F]at h;exact h.elim
  | some z =>
   simp only[hz,a1E]at h
   exact ok x d z H F Q R.sub rb hz fun v H' F' gr p=>h v H' F' (R.frm gr) (R.gr gr) p
def g1(g:D→Option D):List D→Option D
 | [d]=>g d
 | _=>none
theorem CbOk1.cb{r:List V→Hp→VK→Prop}{g:D→Option D}(ok:CbOk1 K cl r g):a8d K cl r (g1 g):=by
 intro xs ds z H F Q s hx h q
 unfold g1 at h
 split at h
 ·obtain⟨v,r,rfl,h1,h2⟩:=hx.inv
  rw[h2.inv0]
  exact ok v _ z H F Q s (.inl h1) h q
 ·cases h
def b4n(K:W.Frag)(cl:Str→Addr)(r:List V→Hp→VK→Prop)(g:D→Option (List D)):Prop:=∀x d zs H F Q,Same F H→Rb K cl F H d x→g d=some zs→(∀p xs,H p=none→Rps K cl F zs xs→Q (.ref p) (upd H p (.lst xs)))→r [x] H Q
def nCV(g:D→Option (List D))(i:Nat):NF:=fun e=>match look e i with
 | some d=>opt (g d) e
 | none=>none
theorem a9p{r:List V→Hp→VK→Prop}{g:D→Option (List D)}{i:Nat}(ok:b4n K cl r g):RfN K cl E (tCB r (L7 (D7 i) a0C)) (nCV g i):=by
 intro σ H Q env F R h
 unfold nCV at h
 cases q:look env i with
 | none=>rw[q]at h;exact h.elim
 | some d =>
  rw[q]at h
  obtain⟨x,e,rb⟩:=R.look q
  refine⟨x,e,?_⟩
  cases hz:g d with
  | none=>simp only[hz,a1F]at h;exact h.elim
  | some z =>
   simp only[hz,a1E]at h
   exact ok x d z H F Q R.sub rb hz fun p xs hp r=>Ct.newN R hp r h
end
section
variable {K:W.Frag}{cl:Str→Addr}{E:XK}{σ:St}{H F:Hp}{env:DE}
instance decMul(i j:Int):Decidable (IntMulOk i j):=by unfold IntMulOk;infer_instance
instance decPow(i j:Int):Decidable (a09 i j):=by unfold a09;infer_instance
abbrev v8:=gI0 fun i j=>.int (i+j)
abbrev n9:=gI0 fun i j=>.int (i-j)
abbrev a0f:=gI IntMulOk fun i j=>.int (i*j)
abbrev D4:=gI (fun _ j=>0<j∧j.natAbs.log2<9000) fun i j=>.int (i/j)
abbrev m7:=gI (fun _ j=>0<j) fun i j=>.int (i%j)
abbrev W4:=gI a09 fun i j=>.int (i ^ j.toNat)
abbrev gLt:=gI0 fun i j=>.bl (decide (i<j))
abbrev gLe:=gI0 fun i j=>.bl (decide (i≤j))
abbrev gGt:=gI0 fun i j=>.bl (decide (j<i))
abbrev gGe:=gI0 fun i j=>.bl (decide (j≤i))
theorem A1:OpOk K cl (rI0 fun i j=>.int (i+j)) v8:=a2J fun F i j=>by simp only[Rp]
theorem B7:OpOk K cl (rI0 fun i j=>.int (i-j)) n9:=a2J fun F i j=>by simp only[Rp]
theorem a2k:OpOk K cl (rI IntMulOk fun i j=>.int (i*j)) a0f:=a8c fun F i j=>by simp only[Rp]
theorem M0:OpOk K cl (rI (fun _ j=>0<j∧j.natAbs.log2<9000) fun i j=>.int (i/j)) D4:=a8c fun F i j=>by simp only[Rp]
theorem x9:OpOk K cl (rI (fun _ j=>0<j) fun i j=>.int (i%j)) m7:=a8c fun F i j=>by simp only[Rp]
theorem a3U:OpOk K cl (rI a09 fun i j=>.int (i ^ j.toNat)) W4:=a8c fun F i j=>by simp only[Rp]
theorem a1I:OpOk K cl (rI0 fun i j=>.bl (decide (i<j))) gLt:=a2J fun F i j=>by simp only[Rp]
theorem b5i:OpOk K cl (rI0 fun i j=>.bl (decide (i≤j))) gLe:=a2J fun F i j=>by simp only[Rp]
theorem a2K:OpOk K cl (rI0 fun i j=>.bl (decide (j<i))) gGt:=a2J fun F i j=>by simp only[Rp]
theorem a8e:OpOk K cl (rI0 fun i j=>.bl (decide (j≤i))) gGe:=a2J fun F i j=>by simp only[Rp]
def toV:D→Option V
 | .non=>some .non
 | .bl b=>some (.bl b)
 | .int i=>some (.int i)
 | .str x=>some (.str x)
 | _=>none
theorem Rb.toV{d:D}{v u:V}(h:Rb K cl F H d v)(e:toV d=some u):v=u:=by
 cases d with
 | non=>cases e;exact h.non
 | bl b=>cases e;exact h.bl
 | int i=>cases e;exact h.int
 | str x=>cases e;exact h.str
 | _=>cases e
def i7(neg:Bool)(d e:D):Option D:=match toV d,toV e with
 | some x,some y=>if a5E x y=true then some (.bl (if neg then !decide (x=y)else decide (x=y)))else none
 | _,_=>none
theorem C8:OpOk K cl rEq (i7 false):=by
 intro x y d e z H F Q s hx hy h q
 unfold i7 at h
 split at h
 ·rename_i u w hu hw
  split at h
  ·rename_i c;cases h
   rw[hx.toV hu,hy.toV hw]
   exact⟨c,q _ H F (.refl s) (by simp only[Rp];rfl)⟩
  ·cases h
 ·cases h
theorem a8f:OpOk K cl rNe (i7 true):=by
 intro x y d e z H F Q s hx hy h q
 unfold i7 at h
 split at h
 ·rename_i u w hu hw
  split at h
  ·rename_i c;cases h
   rw[hx.toV hu,hy.toV hw]
   exact⟨c,q _ H F (.refl s) (by simp only[Rp];rfl)⟩
  ·cases h
 ·cases h
@[simp] theorem Q3(neg:Bool)(a b:Int):i7 neg (.int a) (.int b)=some (.bl (if neg then !decide (a=b)else decide (a=b))):=by
 unfold i7 toV
 simp only[a5E,if_true,V.int.injEq]
@[simp] theorem b2m(neg:Bool)(a b:Str):i7 neg (.str a) (.str b)=some (.bl (if neg then !decide (a=b)else decide (a=b))):=by
 unfold i7 toV
 simp only[a5E,if_true,V.str.injEq]
def K1(neg:Bool)(d e:D):Option D:=match d,e with
 | .non,.non=>some (.bl (!neg))
 | _,.non=>some (.bl neg)
 | _,_=>none
theorem Rb.notNon{d:D}{v:V}(h:Rb K cl F H d v)(n:d≠.non):v≠.non:=by
 rcases h with h | ⟨_,_,_,rfl,_⟩
 ·cases d<;>simp only[Rp]at h
  ·exact absurd rfl n
  all_goals first | (rw[h];intro z;cases z) | (obtain⟨_,_,rfl,_⟩:=h;intro z;cases z) | (obtain⟨_,rfl,_⟩:=h;intro z;cases z) | (obtain⟨_,_,_,rfl,_⟩:=h;intro z;cases z)
 ·intro z;cases z
theorem a3V:OpOk K cl (fun x y H Q=>y=.non∧Q (.bl (decide (x=.non))) H) (K1 false):=by
 intro x y d e z H F Q s hx hy h q
 unfold K1 at h
 split at h
 ·cases h;rw[hx.non];exact⟨hy.non,q _ H F (.refl s) (by simp[Rp])⟩
 ·rename_i n;cases h
  exact⟨hy.non,q _ H F (.refl s) (by simp only[Rp];rw[decide_eq_false (hx.notNon n)])⟩
 ·cases h
theorem a7i:OpOk K cl (fun x y H Q=>y=.non∧Q (.bl (!decide (x=.non))) H) (K1 true):=by
 intro x y d e z H F Q s hx hy h q
 unfold K1 at h
 split at h
 ·cases h;rw[hx.non];exact⟨hy.non,q _ H F (.refl s) (by simp[Rp])⟩
 ·rename_i n;cases h
  exact⟨hy.non,q _ H F (.refl s) (by simp only[Rp];rw[decide_eq_false (hx.notNon n)];rfl)⟩
 ·cases h
theorem Rps.atI{ds:List D}{xs:List V}{i:Int}{d:D}(h:Rps K cl F ds xs)(e:atI ds i=some d):∃v,L2.atI xs i=some v∧Rp K cl F d v:=by
 unfold L2.atI at e ⊢
 rw[← h.length]
 cases q:Q9 ds.length i with
 | none=>rw[q]at e;cases e
 | some j=>rw[q]at e;exact h.get e
def h9(d e:D):Option D:=match d,e with
 | .lst ds,.int i=>atI ds i
 | .scr ns,.int i=>(atI ns i).map .int
 | _,_=>none
def c7(d e:D):Option D:=match d,e with
 | .tup ds,.int i=>atI ds i
 | _,_=>none
theorem b2n{α β:Type}(f:α→β)(xs:List α)(i:Int):atI (xs.map f) i=(atI xs i).map f:=by
 unfold L2.atI
 rw[List.length_map]
 cases Q9 xs.length i with
 | none=>rfl
 | some j=>simp
theorem m4:OpOk K cl (b0d K) h9:=by
 intro x y d e z H F Q s hx hy h q
 unfold h9 at h
 split at h
 ·obtain⟨a,xs,rfl,hH,r⟩:=hx.lst s
  obtain⟨v,e,p⟩:=r.atI h
  exact⟨a,xs,_,v,rfl,hy.int,.of hH,e,q v H F (.refl s) p⟩
 ·rename_i ns i
  obtain⟨a,rfl,hS⟩:=hx.scr s
  cases hz:atI ns i with
  | none=>rw[hz]at h;cases h
  | some n =>
   rw[hz]at h;cases h
   exact⟨a,_,_,.int n,rfl,hy.int,hS.seq,by rw[b2n,hz];rfl,q _ H F (.refl s) (by simp only[Rp])⟩
 ·cases h
theorem d7:OpOk K cl (b0e K) c7:=by
 intro x y d e z H F Q s hx hy h q
 unfold c7 at h
 split at h
 ·obtain⟨a,xs,rfl,hH,r⟩:=hx.tup s
  obtain⟨v,e,p⟩:=r.atI h
  exact⟨a,xs,_,v,rfl,hy.int,.of hH,e,q v H F (.refl s) p⟩
 ·cases h
def V1:D→D→Bool
 | .non,.non=>true
 | .bl a,.bl b=>a == b
 | .bl a,.int b=>(if a then 1 else 0) == b
 | .int a,.bl b=>a == (if b then 1 else 0)
 | .int a,.int b=>a == b
 | .str a,.str b=>a == b
 | _,_=>false
def a8g:List D→List D→Bool
 | [],[]=>true
 | x::xs,y::ys=>V1 x y && a8g xs ys
 | _,_=>false
def t9:D→Bool
 | .non=>true
 | .bl _=>true
 | .int _=>true
 | .str _=>true
 | _=>false
theorem Rp.flat{d:D}{v:V}(h:Rp K cl F d v)(f:t9 d=true):toV d=some v∧Z0 v=true:=by
 cases d<;>simp only[Rp]at h<;>first | (subst h;exact⟨rfl,rfl⟩) | cases f
theorem Rps.flat:∀{ds:List D} {vs:List V},Rps K cl F ds vs→ds.all t9=true→vs.all Z0=true
 | [],_,h,_=>by rw[h.inv0];rfl
 | d::ds,_,h,f=>by
  obtain⟨v,r,rfl,h1,h2⟩:=h.inv
  rw[List.all_cons,Bool.and_eq_true]at f
  rw[List.all_cons,(h1.flat f.1).2,h2.flat f.2];rfl
theorem Rp.eq{d e:D}{v u:V}(h:Rp K cl F d v)(g:Rp K cl F e u)(fd:t9 d=true)(fe:t9 e=true):eqV v u=V1 d e:=by
 have h1:=(h.flat fd).1
 have h2:=(g.flat fe).1
 cases d<;>cases e<;>first | (cases h1;cases h2;rfl) | (cases fd;done) | (cases fe;done)
theorem Rps.eq:∀{ds es:List D} {vs us:List V},Rps K cl F ds vs→Rps K cl F es us→ds.all t9=true→es.all t9=true→b0m vs us=a8g ds es
 | [],[],_,_,h,g,_,_=>by rw[h.inv0,g.inv0];rfl
 | [],_::_,_,_,h,g,_,_=>by rw[h.inv0];obtain⟨_,_,rfl,_,_⟩:=g.inv;rfl
 | _::_,[],_,_,h,g,_,_=>by rw[g.inv0];obtain⟨_,_,rfl,_,_⟩:=h.inv;rfl
 | d::ds,e::es,_,_,h,g,fd,fe=>by
  obtain⟨v,r,rfl,h1,h2⟩:=h.inv
  obtain⟨u,r',rfl,g1,g2⟩:=g.inv
  rw[List.all_cons,Bool.and_eq_true]at fd fe
  unfold b0m a8g
  rw[h1.eq g1 fd.1 fe.1,h2.eq g2 fd.2 fe.2]
theorem Rps.rep{ds:List D}{xs:List V}(h:Rps K cl F ds xs):∀n:Nat,Rps K cl F (List.replicate n ds).flatten (List.replicate n xs).flatten
 | 0=>.nil
 | n+1=>by rw[List.replicate_succ,List.replicate_succ,List.flatten_cons,List.flatten_cons];exact h.append (h.rep n)
def u6:D→Option D
 | .lst ds=>some (.int ds.length)
 | .tup ds=>some (.int ds.length)
 | .scr ns=>some (.int ns.length)
 | _=>none
theorem B8:CbOk1 K cl (a68 K) u6:=by
 intro x d z H F Q s hx h q
 unfold u6 at h
 split at h
 ·cases h
  obtain⟨a,xs,rfl,hH,r⟩:=hx.lst s
  exact⟨a,xs,rfl,.inl (.of hH),q _ H F (.refl s) (by simp only[Rp];rw[r.length])⟩
 ·cases h
  obtain⟨a,xs,rfl,hH,r⟩:=hx.tup s
  exact⟨a,xs,rfl,.inr (.of hH),q _ H F (.refl s) (by simp only[Rp];rw[r.length])⟩
 ·cases h
  obtain⟨a,rfl,hS⟩:=hx.scr s
  exact⟨a,_,rfl,.inl hS.seq,q _ H F (.refl s) (by simp only[Rp];rw[List.length_map])⟩
 ·cases h
def a1J:D→Option (List D)
 | .lst ds=>some ds
 | .tup ds=>some ds
 | .scr ns=>some (ns.map .int)
 | _=>none
theorem a7j:b4n K cl (a69 K) a1J:=by
 intro x d zs H F Q s hx h q
 unfold a1J at h
 split at h
 ·cases h
  obtain⟨a,xs,rfl,hH,r⟩:=hx.lst s
  exact⟨a,xs,rfl,.inl (.of hH),fun p hp=>q p _ hp r⟩
 ·cases h
  obtain⟨a,xs,rfl,hH,r⟩:=hx.tup s
  exact⟨a,xs,rfl,.inr (.of hH),fun p hp=>q p _ hp r⟩
 ·cases h
  obtain⟨a,rfl,hS⟩:=hx.scr s
  exact⟨a,_,rfl,.inl hS.seq,fun p hp=>q p _ hp Rps.ofInts⟩
 ·cases h
end
inductive R1 where | ret (d:D) | own (ds:List D) | owz (dss:List (List D)) | owp (n:Int) (ds:List D) | ex (c:Str)
noncomputable def k8(K:W.Frag)(cl:Str→Addr)(g:List D→Option R1):Sp:=fun vs H Q E=>∃ds F,Same F H∧Rps K cl F ds vs∧match g ds with
 | none=>False
 | some (.ret d)=>∀v H' F',Gr H F H' F'→Rp K cl F' d v→Q v H'
 | some (.own es)=>∀a xs H' F',Gr H F H' F'→H a=none→H' a=some (.lst xs)→F' a=none→Rps K cl F' es xs→Q (.ref a) H'
 | some (.owz dss)=>∀p as H' F',Gr H F H' F'→H p=none→H' p=some (.tup (as.map V.ref))→F' p=none→Rz K cl F' H' (fun a=>H a=none) dss as→Q (.ref p) H'
 | some (.owp n es)=>∀p a xs H' F',Gr H F H' F'→H p=none→H' p=some (.tup [.int n,.ref a])→F' p=none→H a=none→H' a=some (.lst xs)→F' a=none→Rps K cl F' es xs→Q (.ref p) H'
 | some (.ex c)=>∀H' F',Gr H F H' F'→E (.ref (cl c)) none H'
def toZ(r:Option R1)(e:DE):Option (R D):=match r with
 | none=>none
 | some (.ret d)=>some (.ok d e)
 | some (.own ds)=>some (.ok (.lst ds) e)
 | some (.owz _)=>none
 | some (.owp _ _)=>none
 | some (.ex c)=>some (.ex c)
def a3g(r:Option R1)(e:DE):Option (R D):=match r with
 | some (.ret d)=>some (.ok d e)
 | some (.own ds)=>some (.ok (.lst ds) e)
 | _=>none
def a2L(g:List D→Option R1)(f:AF):ZF:=fun e=>bnd (f e) fun ds e1=>toZ (g ds) e1
def h8(g:List D→Option R1)(f:AF):ZF:=fun e=>bnd (f e) fun ds e1=>a3g (g ds) e1
def put(i:Nat)(s:Sl)(e:DE):Option RS:=match e[i]? with
 | none=>none
 | some (.hd _)=>none
 | some _=>some (.nx (e.set i s))
def a3W(i:Nat)(r:Option R1)(e:DE):Option RS:=match r with
 | none=>none
 | some (.ret d)=>put i (.fz d) e
 | some (.own ds)=>put i (.ow ds) e
 | some (.owz _)=>none
 | some (.owp _ _)=>none
 | some (.ex c)=>some (.ex c)
def a3X(i:Nat)(r:Option R1)(e:DE):Option RS:=match r with
 | some (.ret d)=>put i (.fz d) e
 | some (.own ds)=>put i (.ow ds) e
 | _=>none
def a5q(r:Option R1):Option RS:=match r with
 | none=>none
 | some (.ret d)=>some (.rt d)
 | some (.own ds)=>some (.ro ds)
 | some (.owz dss)=>some (.rz dss)
 | some (.owp n ds)=>some (.rp n ds)
 | some (.ex c)=>some (.ex c)
def a9q(r:Option R1):Option RS:=match r with
 | some (.ret d)=>some (.rt d)
 | some (.own ds)=>some (.ro ds)
 | _=>none
def t4:SF:=fun e=>some (.nx e)
def d6(f k:SF):SF:=fun e=>match f e with
 | some (.nx e1)=>k e1
 | r=>r
def j9(i:Nat)(f:ZF):SF:=fun e=>O4 (f e) fun d e1=>put i (.fz d) e1
def A5(i:Nat)(f:NF):SF:=fun e=>O4 (f e) fun ds e1=>put i (.ow ds) e1
def a5r(i:Nat)(g:List D→Option R1)(f:AF):SF:=fun e=>O4 (f e) fun ds e1=>a3W i (g ds) e1
def T7(i:Nat)(g:List D→Option R1)(f:AF):SF:=fun e=>O4 (f e) fun ds e1=>a3X i (g ds) e1
def j5(f:ZF):SF:=fun e=>O4 (f e) fun d _=>some (.rt d)
def a3Y(i:Nat):SF:=fun e=>match e[i]? with
 | some (.fz d)=>some (.rt d)
 | some (.ow ds)=>some (.ro ds)
 | _=>none
def n6(c:BF)(f k:SF):SF:=fun e=>O4 (c e) fun b e1=>if b=true then f e1 else k e1
def sEx(f:ZF):SF:=fun e=>O4 (f e) fun _ e1=>some (.nx e1)
def a53(c:Str)(f:AF):SF:=fun e=>O4 (f e) fun ds _=>if ds.length≤sizeLine then some (.ex c)else none
def D5(i:Nat)(f:ZF):SF:=fun e=>match look e i with
 | some (.lst _)=>O4 (f e) fun d e1=>match e1[i]? with
  | some (.ow ds)=>if ds.length<sizeLine then some (.nx (e1.set i (.ow (ds++[d]))))else none
  | _=>none
 | _=>none
def a2l(i:Nat)(k:ZF)(f:ZF):SF:=fun e=>O4 (f e) fun d e1=>match look e1 i with
 | none=>none
 | some _=>O4 (k e1) fun j e2=>match e2[i]?,j with
  | some (.ow ds),.int j=>match Q9 ds.length j with
   | some n=>some (.nx (e2.set i (.ow (ds.set n d))))
   | none=>none
  | _,_=>none
section
variable {K:W.Frag}{cl:Str→Addr}{E:XK}{σ:St}{H F:Hp}{env:DE}
theorem Gr.fx{H' F':Hp}(g:Gr H F H' F'):FX σ H F env H' F':=⟨g.fz,g.sub,fun a o h f _=>g.hid a o h f,g.dom⟩
theorem a9r{g:List D→Option R1}{ds:List D}{vs:List V}{Q:VK}(R:Rel K cl σ H F env)(p:Rps K cl F ds vs)(h:Ct K cl E (PZ K cl) (toZ (g ds) env) σ H F env Q):k8 K cl g (vs++[]) H Q E:=by
 rw[List.append_nil]
 refine⟨ds,F,R.sub,p,?_⟩
 unfold toZ at h
 split at h
 ·exact h.elim
 ·exact fun v H' F' gr r=>h v H' F' (R.frm gr) (R.gr gr) r
 ·rename_i es _
  intro a xs H' F' gr ha hH hF r
  have sF:Same F' (upd F' a (.lst xs)):=X6 hF _
  have gr':Gr H F H' (upd F' a (.lst xs)):=by
   refine⟨gr.fz.trans sF,fun b o z=>?_,fun b o hb fb=>?_⟩
   ·by_cases y:b=a
    ·subst y;rw[j8]at z;cases z;exact hH
    ·rw[g7 y]at z;exact gr.sub _ _ z
   ·obtain⟨h1,f1⟩:=gr.hid b o hb fb
    have nb:b≠a:=fun z=>by rw[z,ha]at hb;cases hb
    exact⟨h1,by rw[g7 nb];exact f1⟩
  exact h _ H' _ (R.frm gr') (R.gr gr') (by show Rp K cl _ (.lst es) _;simp only[Rp];exact⟨a,xs,rfl,j8,r.mono sF⟩)
 ·exact h.elim
 ·exact h.elim
 ·exact fun H' F' gr=>h H' F' gr.fx
theorem b2o{r:Option R1}{e:DE}{P:Py D V}{Q:VK}(h:Ct K cl E P (a3g r e) σ H F env Q):toZ r e=a3g r e∧∀c,r≠some (.ex c):=by
 unfold a3g at h
 split at h
 ·exact⟨rfl,fun c z=>by cases z⟩
 ·exact⟨rfl,fun c z=>by cases z⟩
 ·exact h.elim
theorem a7k{g:List D→Option R1}{t:TA}{f:AF}(hf:RfA K cl E t f):w8 K cl E (Y9 (k8 K cl g) [] E t) (a2L g f):=by
 intro σ H Q env F R h
 refine hf σ H _ env F R ((Ct.bnd h P0).mono fun vs H1 ⟨F1,e1,ds,s1,R1,p1,h1⟩=>a9r R1 p1 h1)
theorem u7{g:List D→Option R1}{t:TA}{f:AF}(hf:RfA K cl E t f):w8 K cl E (Y9 (k8 K cl g) [] E0 t) (h8 g f):=by
 intro σ H Q env F R h
 refine hf σ H _ env F R ((Ct.bnd h P0).mono fun vs H1 ⟨F1,e1,ds,s1,R1,p1,h1⟩=>?_)
 refine a9r R1 p1 ?_
 obtain⟨z,n⟩:=b2o h1
 rw[z]
 unfold Ct at h1 ⊢
 split at h1
 ·exact h1
 ·exact h1
 ·rename_i c q
  exact absurd q (by unfold a3g;split<;>intro y<;>cases y)
theorem y6:RfS K cl E a7K t4:=fun N σ H env F R h=>h σ H F Frm.refl R
theorem g8{t u:TS}{f k:SF}(hf:RfS K cl E t f)(hk:RfS K cl E u k):RfS K cl E (a96 t u) (d6 f k):=by
 intro N σ H env F R h
 refine hf _ σ H env F R ?_
 unfold d6 at h
 split at h
 ·rename_i e1 q
  rw[q]
  intro σ' H' F' fr R'
  exact hk N σ' H' e1 F' R' (h.from fr)
 ·rename_i n
  unfold Cs at h ⊢
  split at h
  ·exact h
  ·rename_i e q;exact absurd q (n e)
  all_goals exact h
theorem a3h{i:Nat}{s:Sl}{e:DE}{N:Ends}{σ0:St}{H0 F0:Hp}{env0:DE}(h:Cs K cl E (put i s e) σ0 H0 F0 env0 N):i<e.length∧(∀ds,e[i]?≠some (.hd ds))∧Cs K cl E (some (.nx (e.set i s))) σ0 H0 F0 env0 N:=by
 unfold put at h
 split at h
 ·exact h.elim
 ·exact h.elim
 ·rename_i z n q
  exact⟨(List.getElem?_eq_some_iff.mp q).1,fun ds y=>by rw[q]at y;cases y;exact n ds rfl,h⟩
theorem v3{i:Nat}{t:TE}{f:ZF}(hf:w8 K cl E t f):RfS K cl E (a0d t (S3 i)) (j9 i f):=by
 intro N σ H env F R h
 refine hf σ H _ env F R ((Cs.bnd h).mono fun x H1 ⟨F1,e1,d,fr,R1,p1,h1⟩=>?_)
 obtain⟨hi,nh,h2⟩:=a3h h1
 exact h2 _ H1 F1 (fr.trans (Frm.put nh)) (R1.put hi nh p1)
theorem J5{i:Nat}{t:TE}{f:NF}(hf:RfN K cl E t f):RfS K cl E (a0d t (S3 i)) (A5 i f):=by
 intro N σ H env F R h
 refine hf σ H _ env F R ((Cs.bnd h).mono fun x H1 ⟨F1,e1,ds,fr,R1,p1,h1⟩=>?_)
 obtain⟨a,xs,rfl,hn,hH,hF,nm,r⟩:=p1
 obtain⟨hi,nh,h2⟩:=a3h h1
 exact h2 _ H1 F1 (fr.putO hn nh) (R1.putO hi hH hF nm r)
theorem m9{t:TE}{f:ZF}(hf:w8 K cl E t f):RfS K cl E (a5z t) (j5 f):=by
 intro N σ H env F R h
 exact hf σ H _ env F R ((Cs.bnd h).mono fun x H1 ⟨F1,e1,d,fr,R1,p1,h1⟩=>h1 x H1 F1 (fr.toFX R1.sub) p1)
theorem b2p{i:Nat}:RfS K cl E (a5z (D7 i)) (a3Y i):=by
 intro N σ H env F R h
 unfold a3Y at h
 split at h
 ·rename_i d q
  obtain⟨v,e,r⟩:=R.fz i d q
  exact⟨v,e,h v H F (Frm.refl.toFX R.sub) r⟩
 ·rename_i ds q
  obtain⟨a,xs,e,hH,hF,r⟩:=R.mu i ds (.inl q)
  exact⟨_,e,h a xs H F (Frm.refl.toFX R.sub) hH hF (fun o _=>⟨i,.ow ds,True.intro,q,e⟩) r⟩
 ·exact h.elim
theorem u0{c:TT}{t u:TS}{b:BF}{f k:SF}(hc:U9 K cl E c b)(hf:RfS K cl E t f)(hk:RfS K cl E u k):RfS K cl E (a97 c t u) (n6 b f k):=by
 intro N σ H env F R h
 refine hc σ H _ env F R ((Cs.bnd h).mono fun x H1 ⟨F1,e1,d,fr,R1,p1,h1⟩=>?_)
 cases (show x=d from p1)
 by_cases z:x=true
 ·rw[if_pos z]at h1 ⊢;exact hf N σ H1 e1 F1 R1 (h1.from fr)
 ·rw[if_neg z]at h1 ⊢;exact hk N σ H1 e1 F1 R1 (h1.from fr)
theorem b5j{t:TE}{f:ZF}(hf:w8 K cl E t f):RfS K cl E (a5m t) (sEx f):=by
 intro N σ H env F R h
 exact hf σ H _ env F R ((Cs.bnd h).mono fun x H1 ⟨F1,e1,d,fr,R1,p1,h1⟩=>h1 σ H1 F1 fr R1)
theorem b0C{c:Str}{t:TA}{f:AF}(hf:RfA K cl E t f):RfS K cl E (a87 (cl c) E t) (a53 c f):=by
 intro N σ H env F R h
 refine hf σ H _ env F R ((Cs.bnd h).mono fun xs H1 ⟨F1,e1,ds,fr,R1,p1,h1⟩=>?_)
 have hl:ds.length=xs.length:=Rps.length p1
 split at h1
 ·rename_i z
  exact⟨by rw[← hl];exact z,h1 H1 F1 (fr.toFX R1.sub)⟩
 ·exact h1.elim
theorem b2q{i:Nat}{g:List D→Option R1}{t:TA}{f:AF}(hf:RfA K cl E t f):RfS K cl E (a0d (Y9 (k8 K cl g) [] E t) (S3 i)) (a5r i g f):=by
 intro N σ H env F R h
 refine hf σ H _ env F R ((Cs.bnd h).mono fun vs H1 ⟨F1,e1,ds,fr,R1,p1,h1⟩=>?_)
 show k8 K cl g (vs++[]) H1 _ E
 rw[List.append_nil]
 refine⟨ds,F1,R1.sub,p1,?_⟩
 unfold a3W at h1
 split at h1
 ·exact h1.elim
 ·obtain⟨hi,nh,h2⟩:=a3h h1
  exact fun v H' F' gr r=>h2 _ H' F' ((fr.trans (R1.frm gr)).trans (Frm.put nh)) ((R1.gr gr).put hi nh r)
 ·obtain⟨hi,nh,h2⟩:=a3h h1
  intro a xs H' F' gr ha hH hF r
  refine h2 _ H' F' ((fr.trans (R1.frm gr)).putO (fr.dom a ha) nh) ((R1.gr gr).putO hi hH hF (fun j mj e=>?_) r)
  obtain⟨es,q⟩:=mj
  obtain⟨b,ys,e',hb,_⟩:=R1.mu j es q
  rw[e]at e';cases e'
  rw[ha]at hb;cases hb
 ·exact h1.elim
 ·exact h1.elim
 ·exact fun H' F' gr=>h1 H' F' (fr.fx gr.fx)
theorem a1K{i:Nat}{g:List D→Option R1}{t:TA}{f:AF}(hf:RfA K cl E t f):RfS K cl E (a0d (Y9 (k8 K cl g) [] E0 t) (S3 i)) (T7 i g f):=by
 intro N σ H env F R h
 refine hf σ H _ env F R ((Cs.bnd h).mono fun vs H1 ⟨F1,e1,ds,fr,R1,p1,h1⟩=>?_)
 show k8 K cl g (vs++[]) H1 _ E0
 rw[List.append_nil]
 refine⟨ds,F1,R1.sub,p1,?_⟩
 unfold a3X at h1
 split at h1
 ·rename_i q;rw[q]
  obtain⟨hi,nh,h2⟩:=a3h h1
  exact fun v H' F' gr r=>h2 _ H' F' ((fr.trans (R1.frm gr)).trans (Frm.put nh)) ((R1.gr gr).put hi nh r)
 ·rename_i q;rw[q]
  obtain⟨hi,nh,h2⟩:=a3h h1
  intro a xs H' F' gr ha hH hF r
  refine h2 _ H' F' ((fr.trans (R1.frm gr)).putO (fr.dom a ha) nh) ((R1.gr gr).putO hi hH hF (fun j mj e=>?_) r)
  obtain⟨es,q⟩:=mj
  obtain⟨b,ys,e',hb,_⟩:=R1.mu j es q
  rw[e]at e';cases e'
  rw[ha]at hb;cases hb
 ·exact h1.elim
theorem Rel.change{i:Nat}{ds es:List D}{a:Addr}{ys:List V}(R:Rel K cl σ H F env)(h:env[i]? = some (.ow ds))(e:σ[i]? = some (some (.ref a)))(r:Rps K cl F es ys) :
  Rel K cl σ (upd H a (.lst ys)) F (env.set i (.ow es))∧Frm σ H F env σ (upd H a (.lst ys)) F (env.set i (.ow es)):=by
 obtain⟨a',xs,e',hH,hF,_⟩:=R.mu i ds (.inl h)
 rw[e]at e';cases e'
 have hi:i<env.length:=(List.getElem?_eq_some_iff.mp h).1
 have self:(env.set i (.ow es))[i]? = some (.ow es):=List.getElem?_set_self hi
 have oth:∀j,j≠i→(env.set i (.ow es))[j]? = env[j]?:=fun j hj=>List.getElem?_set_ne (Ne.symm hj)
 have mui:∀j,Mu (env.set i (.ow es)) j→Mu env j:=fun j ⟨fs,q⟩=>by
  by_cases z:j=i
  ·subst z;exact⟨ds,.inl h⟩
  ·rw[oth j z]at q;exact⟨fs,q⟩
 refine⟨⟨fun b o q=>?_,by rw[List.length_set];exact R.len,fun j d q=>?_,fun j fs q=>?_,fun j k b hj hk=>R.inj j k b (mui j hj) (mui k hk),(R.od.updL hH).setE a1D⟩,⟨Same.refl _,fun b o hb fb w=>?_,fun j fs q=>?_,fun b q=>?_⟩⟩
 ·have z:b≠a:=fun z=>by rw[z,hF]at q;cases q
  rw[g7 z];exact R.sub _ _ q
 ·have z:j≠i:=fun z=>by subst z;rw[self]at q;cases q
  rw[oth j z]at q;exact R.fz j d q
 ·by_cases z:j=i
  ·subst z
   rw[self]at q
   rcases q with q | q
   ·cases q;exact⟨a,ys,e,j8,hF,r⟩
   ·cases q
  ·rw[oth j z]at q
   obtain⟨b,zs,e1,h1,f1,r1⟩:=R.mu j fs q
   have nb:b≠a:=fun y=>z (R.inj j i b ⟨fs,q⟩ ⟨ds,.inl h⟩ e1 (by rw[y];exact e))
   exact⟨b,zs,e1,by rw[g7 nb];exact h1,f1,r1⟩
 ·have z:b≠a:=fun z=>w ⟨i,.ow ds,True.intro,h,by rw[z];exact e⟩
  refine⟨by rw[g7 z];exact hb,fb,fun⟨j,fs,oo,q,e1⟩=>?_⟩
  by_cases y:j=i
  ·subst y;rw[e]at e1;cases e1;exact z rfl
  ·rw[oth j y]at q;exact w ⟨j,fs,oo,q,e1⟩
 ·have z:j≠i:=fun z=>by subst z;rw[h]at q;cases q
  exact⟨by rw[oth j z];exact q,rfl⟩
 ·by_cases z:b=a
  ·rw[z,j8]at q;cases q
  ·rw[g7 z]at q;exact q
theorem N7{i:Nat}{t:TE}{f:ZF}(hf:w8 K cl E t f):RfS K cl E (a5m (tBM K "list" a65 (D7 i) (L7 t a0C))) (D5 i f):=by
 intro N σ H env F R h
 unfold D5 at h
 split at h
 ·rename_i ds0 q
  obtain⟨x,e0,rb⟩:=R.look q
  obtain⟨a0,xs0,rfl,hH0,_⟩:=rb.lst R.sub
  refine⟨_,e0,.inl ⟨rfl,xs0,.of hH0⟩,?_⟩
  ·refine hf σ H _ env F R ((Cs.bnd h).mono fun y H1 ⟨F1,e1,d,fr,R1,p1,h1⟩=>?_)
   split at h1
   ·rename_i ds q1
    split at h1
    ·rename_i c
     obtain⟨a,xs,e,hH,hF,r⟩:=R1.mu i ds (.inl q1)
     rw[e0]at e;cases e
     obtain⟨R2,f2⟩:=R1.change q1 e0 (r.append (.one p1))
     exact⟨_,xs,y,rfl,rfl,hH,by rw[← r.length];exact c,h1 σ _ F1 (fr.trans f2) R2⟩
    ·exact h1.elim
   ·exact h1.elim
 ·exact h.elim
theorem a54{i:Nat}{t u:TE}{f k:ZF}(hf:w8 K cl E t f)(hk:w8 K cl E u k):RfS K cl E (a0d t (a99 (D7 i) u a7X)) (a2l i k f):=by
 intro N σ H env F R h
 refine hf σ H _ env F R ((Cs.bnd h).mono fun x H1 ⟨F1,e1,d,fr,R1,p1,h1⟩=>?_)
 cases q:look e1 i with
 | none=>simp only[q]at h1;exact h1.elim
 | some d0 =>
  simp only[q]at h1
  obtain⟨o,e0,_⟩:=R1.look q
  refine⟨o,e0,hk σ H1 _ e1 F1 R1 ((Cs.bnd (h1.from fr)).mono fun y H2 ⟨F2,e2,j,fr2,R2,p2,h2⟩=>?_)⟩
  split at h2
  ·rename_i _ _ ds j q2
   split at h2
   ·rename_i n hn
    obtain⟨a,xs,e,hH,hF,r⟩:=R2.mu i ds (.inl q2)
    rw[e0]at e;cases e
    obtain⟨R3,f3⟩:=R2.change q2 e0 (r.set (Rp.mono fr2.fz _ _ p1) n)
    have hy:y=.int j:=by have:=(show Rp K cl F2 (.int j) y from p2);simpa only[Rp]using this
    exact⟨a,xs,j,n,rfl,hy,hH,by rw[← r.length];exact hn,h2 σ _ F2 (fr2.trans f3) R3⟩
   ·exact h2.elim
  ·exact h2.elim
end
abbrev GF:=D→DE→Option DE
def g9(i:Nat):GF:=fun d e=>match e[i]? with
 | none=>none
 | some (.hd _)=>none
 | some _=>some (e.set i (.fz d))
def a1L:List GF→List D→DE→Option DE
 | [],[],e=>some e
 | b::bs,d::ds,e=>match b d e with
  | none=>none
  | some e1=>a1L bs ds e1
 | _,_,_=>none
def K2(bs:List GF):GF:=fun d e=>match d with
 | .tup ds=>a1L bs ds e
 | _=>none
section
variable (K:W.Frag)(cl:Str→Addr)
def X2(k:Nat)(g:TG)(b:GF):Prop:=∀v σ H Q d env env' F,Rel K cl σ H F env→Rp K cl F d v→b d env=some env'→(∀σ',σ'.drop k=σ.drop k→σ'.length=σ.length→Frm σ H F env σ' H F env'→Rel K cl σ' H F env'→Q σ' H)→g v σ H Q
def a8h(k:Nat)(t:TGs)(bs:List GF):Prop:=∀vs σ H Q ds env env' F,Rel K cl σ H F env→Rps K cl F ds vs→a1L bs ds env=some env'→(∀σ',σ'.drop k=σ.drop k→σ'.length=σ.length→Frm σ H F env σ' H F env'→Rel K cl σ' H F env'→Q σ' H)→t vs σ H Q
end
section
variable {K:W.Frag}{cl:Str→Addr}{E:XK}{σ:St}{H F:Hp}{env:DE}{k:Nat}
theorem b0D{α:Type}{l:List α}{i k:Nat}{x:α}(h:i<k):(l.set i x).drop k=l.drop k:=by
 apply List.ext_getElem?
 intro j
 rw[List.getElem?_drop,List.getElem?_drop,List.getElem?_set_ne '!']
theorem t8{i:Nat}(hi:i<k):X2 K cl k (S3 i) (g9 i):=by
 intro v σ H Q d env env' F R p h q
 unfold g9 at h
 split at h
 ·cases h
 ·cases h
 ·rename_i z n e
  cases h
  have nh:∀ds,env[i]?≠some (.hd ds):=fun ds y=>by rw[e]at y;cases y;exact n ds rfl
  exact q _ (b0D hi) List.length_set (Frm.put nh) (R.put (List.getElem?_eq_some_iff.mp e).1 nh p)
theorem a0u:a8h K cl k a7L []:=by
 intro vs σ H Q ds env env' F R p h q
 cases ds with
 | nil=>cases h;exact⟨p.inv0,q σ rfl rfl Frm.refl R⟩
 | cons _ _=>cases h
theorem C9{t:TG}{u:TGs}{b:GF}{bs:List GF}(h1:X2 K cl k t b)(h2:a8h K cl k u bs):a8h K cl k (a1v t u) (b::bs):=by
 intro vs σ H Q ds env env' F R p h q
 cases ds with
 | nil=>cases h
 | cons d ds =>
  obtain⟨v,r,rfl,p1,p2⟩:=p.inv
  unfold a1L at h
  split at h
  ·cases h
  ·rename_i e1 hb
   refine⟨v,r,rfl,h1 v σ H _ d env e1 F R p1 hb fun σ1 d1 l1 f1 R1=>?_⟩
   exact h2 r σ1 H _ ds e1 env' F R1 p2 h fun σ2 d2 l2 f2 R2=>q σ2 (d2.trans d1) (l2.trans l1) (f1.trans f2) R2
theorem a40:∀{bs:List GF} {ds:List D} {e e':DE},a1L bs ds e=some e'→ds.length=bs.length
 | [],[],_,_,_=>rfl
 | [],_::_,_,_,h=>by cases h
 | _::_,[],_,_,h=>by cases h
 | b::bs,d::ds,e,e',h=>by
  unfold a1L at h
  split at h
  ·cases h
  ·simp[a40 h]
theorem a0v{t:TGs}{bs:List GF}{n:Nat}(h:a8h K cl k t bs)(hn:bs.length=n):X2 K cl k (a5A K n t) (K2 bs):=by
 intro v σ H Q d env env' F R p e q
 unfold K2 at e
 split at e
 ·rename_i ds
  simp only[Rp]at p
  obtain⟨a,xs,rfl,hF,r⟩:=p
  exact⟨a,xs,rfl,.of (R.sub _ _ hF),by rw[← r.length,a40 e,hn],h xs σ H Q ds env env' F R r e q⟩
 ·cases e
def a1a(f:ZF)(b:GF):SF:=fun e=>O4 (f e) fun d e1=>match b d e1 with
 | none=>none
 | some e2=>some (.nx e2)
theorem a2m{t:TE}{g:TG}{f:ZF}{b:GF}(hf:w8 K cl E t f)(hg:X2 K cl k g b):RfS K cl E (a0d t g) (a1a f b):=by
 intro N σ H env F R h
 refine hf σ H _ env F R ((Cs.bnd h).mono fun x H1 ⟨F1,e1,d,fr,R1,p1,h1⟩=>?_)
 split at h1
 ·exact h1.elim
 ·rename_i e2 hb
  exact hg x σ H1 _ d e1 e2 F1 R1 p1 hb fun σ' _ _ f2 R2=>h1 σ' H1 F1 (fr.trans f2) R2
def B9(b:GF)(body:SF):List D→DE→Option RS
 | [],e=>some (.nx e)
 | d::ds,e=>match b d e with
  | none=>none
  | some e1=>match body e1 with
   | some (.nx e2)=>B9 b body ds e2
   | some (.ct e2)=>B9 b body ds e2
   | some (.bk e2)=>some (.nx e2)
   | r=>r
theorem a3i{b:GF}{body:SF}{g:TG}{tb:TS}{d:D}{x:V}{ds:List D}{e1:DE}{N:Ends}{σ1:St}{H1 F1:Hp}{Pv:St→Hp→Prop}(hb:RfS K cl E tb body)(hg:X2 K cl k g b)
  (f1:Frm σ H F env σ1 H1 F1 e1) (R1:Rel K cl σ1 H1 F1 e1) (p:Rp K cl F1 d x) (h:Cs K cl E (B9 b body (d::ds) e1) σ H F env N)
  (hP:∀σ' H' F' e',Frm σ H F env σ' H' F' e'→Rel K cl σ' H' F' e'→Cs K cl E (B9 b body ds e') σ H F env N→Pv σ' H') :
  g x σ1 H1 fun σ2 H2=>tb { N with nx:=Pv,ct:=Pv,bk:=N.nx } σ2 H2:=by
 unfold B9 at h
 split at h
 ·exact h.elim
 ·rename_i e2 hbd
  refine hg x σ1 H1 _ d e1 e2 F1 R1 p hbd fun σ2 _ _ f2 R2=>?_
  refine hb _ σ2 H1 e2 F1 R2 ?_
  split at h
  ·rename_i e3 q;rw[q]
   exact fun σ' H' F' f3 R3=>hP σ' H' F' e3 ((f1.trans f2).trans f3) R3 h
  ·rename_i e3 q;rw[q]
   exact fun σ' H' F' f3 R3=>hP σ' H' F' e3 ((f1.trans f2).trans f3) R3 h
  ·rename_i e3 q;rw[q]
   exact fun σ' H' F' f3 R3=>h σ' H' F' ((f1.trans f2).trans f3) R3
  ·rename_i n1 n2 n3
   have h2:=h.from (f1.trans f2)
   unfold Cs at h2 ⊢
   split at h2
   ·exact h2
   ·rename_i e q;exact absurd q (n1 e)
   ·rename_i e q;exact absurd q (n3 e)
   ·rename_i e q;exact absurd q (n2 e)
   ·exact h2
   ·exact h2
   ·exact h2
   ·exact h2
   ·exact h2
theorem Z9{α:Type}{l:List α}{i:Nat}{x:α}(h:l[i]? = some x):l.drop i=x::l.drop (i+1):=by
 obtain⟨hi,e⟩:=List.getElem?_eq_some_iff.mp h
 rw[← e];exact List.drop_eq_getElem_cons hi
theorem a8i{b:GF}{body:SF}{g:TG}{tb:TS}{ds:List D}{xs:List V}{a:Addr}{N:Ends}(hb:RfS K cl E tb body)(hg:X2 K cl k g b)(R:Rel K cl σ H F env)
  (hl:∀σ' H' F' e',Frm σ H F env σ' H' F' e'→Rel K cl σ' H' F' e'→SqL K H' a xs) (r:Rps K cl F ds xs) (h:Cs K cl E (B9 b body ds env) σ H F env N) :
  ∃W:Nat→Nat→St→Hp→Prop,(∃m,W 0 m σ H)∧∀i m σ H,W i m σ H →
   ((Itl K a).stop i H∧N.nx σ H)∨((Itl K a).go i H∧∃M:St→Hp→Prop,(∀σ' H',M σ' H'→∃m',m'<m∧W (i+1) m' σ' H')∧∀x H',(Itl K a).yld i H x H'→g x σ H' fun σ2 H2=>tb { N with nx:=M,ct:=M,bk:=N.nx } σ2 H2):=by
 refine a5C (xs:=xs) (fun i σ' H'=>∃F' e',Frm σ H F env σ' H' F' e'∧Rel K cl σ' H' F' e'∧Cs K cl E (B9 b body (ds.drop i) e') σ H F env N) ⟨F,env,Frm.refl,R,h⟩ (fun i σ' H' _ ⟨F',e',f,R',_⟩=>hl σ' H' F' e' f R') (fun i x σ' H' hx ⟨F',e',f,R',h'⟩=>?_) (fun σ' H' ⟨F',e',f,R',h'⟩=>?_)
 ·obtain⟨d,hd,p⟩:=r.get' hx
  rw[Z9 hd]at h'
  exact a3i hb hg f R' (Rp.mono f.fz _ _ p) h' fun σ2 H2 F2 e2 f2 R2 h2=>⟨F2,e2,f2,R2,h2⟩
 ·rw[← r.length,List.drop_length]at h'
  exact h' σ' H' F' f R'
theorem b56{b:GF}{body:SF}{g:TG}{tb:TS}{ds:List D}{xs:List V}{a:Addr}{N:Ends}(hb:RfS K cl E tb body)(hg:X2 K cl k g b)(R:Rel K cl σ H F env)
  (hl:∀σ' H' F' e',Frm σ H F env σ' H' F' e'→Rel K cl σ' H' F' e'→SqT K H' a xs) (r:Rps K cl F ds xs) (h:Cs K cl E (B9 b body ds env) σ H F env N) :
  ∃W:Nat→Nat→St→Hp→Prop,(∃m,W 0 m σ H)∧∀i m σ H,W i m σ H →
   ((Itt K a).stop i H∧N.nx σ H)∨((Itt K a).go i H∧∃M:St→Hp→Prop,(∀σ' H',M σ' H'→∃m',m'<m∧W (i+1) m' σ' H')∧∀x H',(Itt K a).yld i H x H'→g x σ H' fun σ2 H2=>tb { N with nx:=M,ct:=M,bk:=N.nx } σ2 H2):=by
 refine b10 (xs:=xs) (fun i σ' H'=>∃F' e',Frm σ H F env σ' H' F' e'∧Rel K cl σ' H' F' e'∧Cs K cl E (B9 b body (ds.drop i) e') σ H F env N) ⟨F,env,Frm.refl,R,h⟩ (fun i σ' H' _ ⟨F',e',f,R',_⟩=>hl σ' H' F' e' f R') (fun i x σ' H' hx ⟨F',e',f,R',h'⟩=>?_) (fun σ' H' ⟨F',e',f,R',h'⟩=>?_)
 ·obtain⟨d,hd,p⟩:=r.get' hx
  rw[Z9 hd]at h'
  exact a3i hb hg f R' (Rp.mono f.fz _ _ p) h' fun σ2 H2 F2 e2 f2 R2 h2=>⟨F2,e2,f2,R2,h2⟩
 ·rw[← r.length,List.drop_length]at h'
  exact h' σ' H' F' f R'
def seqL:D→Option (List D)
 | .lst ds=>some ds
 | .scr ns=>some (ns.map .int)
 | _=>none
theorem Rp.seqL{d:D}{ds:List D}{v:V}(p:Rp K cl F d v)(s:L2.seqL d=some ds):∃a xs,v=.ref a∧Rps K cl F ds xs∧∀H',Same F H'→SqL K H' a xs:=by
 unfold L2.seqL at s
 split at s
 ·cases s;simp only[Rp]at p
  obtain⟨a,xs,e,h,r⟩:=p
  exact⟨a,xs,e,r,fun H' g=>.of (g _ _ h)⟩
 ·cases s;simp only[Rp]at p
  obtain⟨a,e,h⟩:=p
  exact⟨a,_,e,Rps.ofInts,fun H' g=>(h.same g).seq⟩
 ·cases s
def a0J(f:ZF)(b:GF)(body:SF):SF:=fun e=>O4 (f e) fun d e1=>match seqL d with
 | none=>none
 | some ds=>B9 b body ds e1
theorem b4o{t:TE}{g:TG}{tb:TS}{f:ZF}{b:GF}{body:SF}(hf:w8 K cl E t f)(hg:X2 K cl k g b)(hb:RfS K cl E tb body):RfS K cl E (a3a (a3z K t) g tb) (a0J f b body):=by
 intro N σ H env F R h
 refine hf σ H _ env F R ((Cs.bnd h).mono fun x H1 ⟨F1,e1,d,fr,R1,p1,h1⟩=>?_)
 split at h1
 ·exact h1.elim
 ·rename_i ds hs
  obtain⟨a,xs,rfl,r,hl⟩:=Rp.seqL p1 hs
  exact⟨a,rfl,⟨xs,hl H1 R1.sub⟩,a8i hb hg R1 (fun σ' H' F' e' f2 R2=>hl H' (f2.fz.trans R2.sub)) r (h1.from fr)⟩
def a3Z(f:ZF)(b:GF)(body:SF):SF:=fun e=>O4 (f e) fun d e1=>match d with
 | .tup ds=>B9 b body ds e1
 | _=>none
theorem b2r{t:TE}{g:TG}{tb:TS}{f:ZF}{b:GF}{body:SF}(hf:w8 K cl E t f)(hg:X2 K cl k g b)(hb:RfS K cl E tb body):RfS K cl E (a3a (b3I K t) g tb) (a3Z f b body):=by
 intro N σ H env F R h
 refine hf σ H _ env F R ((Cs.bnd h).mono fun x H1 ⟨F1,e1,d,fr,R1,p1,h1⟩=>?_)
 split at h1
 ·have p1:=(show Rp K cl F1 (.tup _) x from p1)
  simp only[Rp]at p1
  obtain⟨a,xs,rfl,hF,r⟩:=p1
  exact⟨a,rfl,⟨xs,.of (R1.sub _ _ hF)⟩,b56 hb hg R1 (fun σ' H' F' e' f2 R2=>.of (R2.sub _ _ (f2.fz _ _ hF))) r (h1.from fr)⟩
 ·exact h1.elim
def N8(lo:Int)(n:Nat):List D:=(List.range n).map fun(i:Nat)=>.int (lo+(i:Int))
theorem a41{lo:Int}{n i:Nat}(h:i<n):(N8 lo n).drop i=.int (lo+i)::(N8 lo n).drop (i+1):=Z9 (by unfold N8;rw[List.getElem?_map,List.getElem?_range h];rfl)
theorem a55{lo:Int}{n:Nat}:(N8 lo n).length=n:=by unfold N8;rw[List.length_map,List.length_range]
theorem b57{b:GF}{body:SF}{g:TG}{tb:TS}{lo:Int}{n:Nat}{N:Ends}(hb:RfS K cl E tb body)(hg:X2 K cl k g b)(R:Rel K cl σ H F env)(h:Cs K cl E (B9 b body (N8 lo n) env) σ H F env N) :
  ∃W:Nat→Nat→St→Hp→Prop,(∃m,W 0 m σ H)∧∀i m σ H,W i m σ H →
   ((Itr lo n).stop i H∧N.nx σ H)∨((Itr lo n).go i H∧∃M:St→Hp→Prop,(∀σ' H',M σ' H'→∃m',m'<m∧W (i+1) m' σ' H')∧∀x H',(Itr lo n).yld i H x H'→g x σ H' fun σ2 H2=>tb { N with nx:=M,ct:=M,bk:=N.nx } σ2 H2):=by
 refine a4P (fun i σ' H'=>∃F' e',Frm σ H F env σ' H' F' e'∧Rel K cl σ' H' F' e'∧Cs K cl E (B9 b body ((N8 lo n).drop i) e') σ H F env N) ⟨F,env,Frm.refl,R,h⟩ (fun i σ' H' hx ⟨F',e',f,R',h'⟩=>?_) (fun σ' H' ⟨F',e',f,R',h'⟩=>?_)
 ·rw[a41 hx]at h'
  exact a3i hb hg f R' (by simp only[Rp]) h' fun σ2 H2 F2 e2 f2 R2 h2=>⟨F2,e2,f2,R2,h2⟩
 ·rw[show(N8 lo n).drop n=[]from List.drop_eq_nil_of_le (by rw[a55];exact Nat.le_refl _)]at h'
  exact h' σ' H' F' f R'
def P3(ds:List D):Option (Int×Nat):=match ds with
 | [.int j]=>if -(2 ^ 62)≤j∧j<2 ^ 62 then some (0,j.toNat)else none
 | _=>none
theorem a7l{ds:List D}{vs:List V}{lo:Int}{n:Nat}(h:P3 ds=some (lo,n))(p:Rps K cl F ds vs):∃j:Int,vs=[.int j]∧-(2 ^ 62)≤j∧j<2 ^ 62∧lo=0∧n=j.toNat:=by
 unfold P3 at h
 split at h
 ·rename_i j
  split at h
  ·rename_i c;cases h
   exact⟨j,(Rps.ints (ns:=[j]) p),c.1,c.2,rfl,rfl⟩
  ·cases h
 ·cases h
def P4(rg:List D→Option (Int×Nat))(f:AF)(b:GF)(body:SF):SF:=fun e=>O4 (f e) fun ds e1=>match rg ds with
 | none=>none
 | some (lo,n)=>B9 b body (N8 lo n) e1
theorem X9{t:TA}{g:TG}{tb:TS}{f:AF}{b:GF}{body:SF}(hf:RfA K cl E t f)(hg:X2 K cl k g b)(hb:RfS K cl E tb body):RfS K cl E (a3a (a7P t) g tb) (P4 P3 f b body):=by
 intro N σ H env F R h
 refine hf σ H _ env F R ((Cs.bnd h).mono fun x H1 ⟨F1,e1,ds,fr,R1,p1,h1⟩=>?_)
 split at h1
 ·exact h1.elim
 ·rename_i lo n hs
  obtain⟨j,e,c1,c2,rfl,rfl⟩:=a7l hs p1
  exact⟨j,e,c1,c2,b57 hb hg R1 (h1.from fr)⟩
def E7(c:BF)(body:SF):Nat→SF
 | 0,_=>none
 | n+1,e=>O4 (c e) fun b e1=>if b=true then(match body e1 with
   | some (.nx e2)=>E7 c body n e2
   | some (.ct e2)=>E7 c body n e2
   | some (.bk e2)=>some (.nx e2)
   | r=>r)else some (.nx e1)
theorem a56{tc:TT}{tb:TS}{c:BF}{body:SF}{n:Nat}(hc:U9 K cl E tc c)(hb:RfS K cl E tb body):RfS K cl E (a8T tc tb) (E7 c body n):=by
 intro N σ H env F R h
 refine⟨fun m σ' H'=>∃F' e',Rel K cl σ' H' F' e'∧Cs K cl E (E7 c body m e') σ' H' F' e' N,⟨n,F,env,R,h⟩,?_⟩
 rintro m σ1 H1 ⟨F1,e1,R1,h1⟩
 cases m with
 | zero=>exact h1.elim
 | succ m =>
  refine hc σ1 H1 _ e1 F1 R1 ((Cs.bnd h1).mono fun x H2 ⟨F2,e2,d,f2,R2,p2,h2⟩=>?_)
  cases (show x=d from p2)
  by_cases z:x=true
  ·rw[if_pos z]at h2 ⊢
   refine⟨fun σ' H'=>∃F' e',Rel K cl σ' H' F' e'∧Cs K cl E (E7 c body m e') σ' H' F' e' N,fun σ' H' q=>⟨m,Nat.lt_succ_self m,q⟩,?_⟩
   refine hb _ σ1 H2 e2 F2 R2 ?_
   split at h2
   ·rename_i e3 q;rw[q]
    exact fun σ' H' F' f3 R3=>⟨F',e3,R3,h2.from (f2.trans f3)⟩
   ·rename_i e3 q;rw[q]
    exact fun σ' H' F' f3 R3=>⟨F',e3,R3,h2.from (f2.trans f3)⟩
   ·rename_i e3 q;rw[q]
    exact fun σ' H' F' f3 R3=>h2 σ' H' F' (f2.trans f3) R3
   ·rename_i n1 n2 n3
    have h3:=h2.from f2
    unfold Cs at h3 ⊢
    split at h3
    ·exact h3
    ·rename_i e q;exact absurd q (n1 e)
    ·rename_i e q;exact absurd q (n3 e)
    ·rename_i e q;exact absurd q (n2 e)
    ·exact h3
    ·exact h3
    ·exact h3
    ·exact h3
    ·exact h3
  ·rw[if_neg z]at h2 ⊢;exact h2 σ1 H2 F2 f2 R2
end
section
variable {K:W.Frag}{cl:Str→Addr}{E:XK}{σ:St}{H F:Hp}{env:DE}{k:Nat}
def unhide(i:Nat)(ds:List D)(r:Option RS):Option RS:=match r with
 | some (.nx e)=>some (.nx (e.set i (.ow ds)))
 | some (.bk _)=>none
 | some (.ct _)=>none
 | r=>r
theorem Rel.hide{i:Nat}{ds:List D}(R:Rel K cl σ H F env)(h:env[i]? = some (.ow ds)):Rel K cl σ H F (env.set i (.hd ds)):=by
 have hi:i<env.length:=(List.getElem?_eq_some_iff.mp h).1
 have self:(env.set i (.hd ds))[i]? = some (.hd ds):=List.getElem?_set_self hi
 have oth:∀j,j≠i→(env.set i (.hd ds))[j]? = env[j]?:=fun j hj=>List.getElem?_set_ne (Ne.symm hj)
 have mui:∀(j:Nat) (fs:List D),(env.set i (.hd ds))[j]? = some (.ow fs)∨(env.set i (.hd ds))[j]? = some (.hd fs)→env[j]? = some (.ow fs)∨env[j]? = some (.hd fs):=fun j fs q=>by
  by_cases z:j=i
  ·subst z;rw[self]at q;rcases q with q | q<;>cases q;exact .inl h
  ·rw[oth j z]at q;exact q
 refine⟨R.sub,by rw[List.length_set];exact R.len,fun j d q=>?_,fun j fs q=>R.mu j fs (mui j fs q),fun j l b ⟨fs,q⟩ ⟨gs,q'⟩=>R.inj j l b ⟨fs,mui j fs q⟩ ⟨gs,mui l gs q'⟩,R.od.setE a3R⟩
 have z:j≠i:=fun z=>by subst z;rw[self]at q;cases q
 rw[oth j z]at q;exact R.fz j d q
theorem Ow.hide{i:Nat}{ds:List D}{a:Addr}(w:Ow σ (env.set i (.hd ds)) a):Ow σ env a:=by
 obtain⟨j,fs,oo,q,e⟩:=w
 by_cases z:j=i
 ·subst z
  have hj:j<env.length:=by have:=(List.getElem?_eq_some_iff.mp q).1;rwa [List.length_set]at this
  rw[List.getElem?_set_self hj]at q;cases q;exact oo.elim
 ·rw[List.getElem?_set_ne (Ne.symm z)]at q;exact⟨j,fs,oo,q,e⟩
theorem Rel.unhide{i:Nat}{ds:List D}(R:Rel K cl σ H F env)(h:env[i]? = some (.hd ds)):Rel K cl σ H F (env.set i (.ow ds)):=by
 have hi:i<env.length:=(List.getElem?_eq_some_iff.mp h).1
 have self:(env.set i (.ow ds))[i]? = some (.ow ds):=List.getElem?_set_self hi
 have oth:∀j,j≠i→(env.set i (.ow ds))[j]? = env[j]?:=fun j hj=>List.getElem?_set_ne (Ne.symm hj)
 have mui:∀(j:Nat) (fs:List D),(env.set i (.ow ds))[j]? = some (.ow fs)∨(env.set i (.ow ds))[j]? = some (.hd fs)→env[j]? = some (.ow fs)∨env[j]? = some (.hd fs):=fun j fs q=>by
  by_cases z:j=i
  ·subst z;rw[self]at q;rcases q with q | q<;>cases q;exact .inr h
  ·rw[oth j z]at q;exact q
 refine⟨R.sub,by rw[List.length_set];exact R.len,fun j d q=>?_,fun j fs q=>R.mu j fs (mui j fs q),fun j l b ⟨fs,q⟩ ⟨gs,q'⟩=>R.inj j l b ⟨fs,mui j fs q⟩ ⟨gs,mui l gs q'⟩,R.od.setE a1D⟩
 have z:j≠i:=fun z=>by subst z;rw[self]at q;cases q
 rw[oth j z]at q;exact R.fz j d q
theorem Cs.hide{i:Nat}{ds:List D}{r:Option RS}{N:Ends}(R:Rel K cl σ H F env)(h:env[i]? = some (.ow ds))(c:Cs K cl E (unhide i ds r) σ H F env N):Cs K cl E r σ H F (env.set i (.hd ds)) N:=by
 have hi:i<env.length:=(List.getElem?_eq_some_iff.mp h).1
 have self:(env.set i (.hd ds))[i]? = some (.hd ds):=List.getElem?_set_self hi
 have fx:∀{H' F'},FX σ H F (env.set i (.hd ds)) H' F'→FX σ H F env H' F':=fun x=>⟨x.fz,x.sub,fun a o h f w=>x.hid a o h f fun y=>w y.hide,x.dom⟩
 rcases r with _ | r
 ·exact c
 cases r with
 | nx e =>
  intro σ' H' F' f R'
  obtain⟨q,eσ⟩:=f.keep i ds self
  refine c σ' H' F' ⟨f.fz,fun a o ha fa w=>?_,fun j fs q'=>?_,f.dom⟩ (R'.unhide q)
  ·obtain⟨h1,f1,w1⟩:=f.hid a o ha fa fun y=>w y.hide
   refine⟨h1,f1,fun⟨j,fs,oo,q2,e2⟩=>?_⟩
   by_cases z:j=i
   ·subst z
    rw[eσ]at e2
    exact w ⟨j,.ow ds,True.intro,h,e2⟩
   ·rw[List.getElem?_set_ne (Ne.symm z)]at q2
    exact w1 ⟨j,fs,oo,q2,e2⟩
  ·have z:j≠i:=fun z=>by subst z;rw[h]at q';cases q'
   obtain⟨q2,e2⟩:=f.keep j fs (by rw[List.getElem?_set_ne (Ne.symm z)];exact q')
   exact⟨by rw[List.getElem?_set_ne (Ne.symm z)];exact q2,e2⟩
 | bk e=>exact c.elim
 | ct e=>exact c.elim
 | rt d=>exact fun v H' F' x p=>c v H' F' (fx x) p
 | ro es=>exact fun a xs H' F' x ha fa nw p=>c a xs H' F' (fx x) ha fa (fun o e=>(nw o e).hide) p
 | rp n es=>exact fun p a xs H' F' x hp ht fp ha fa nw r=>c p a xs H' F' (fx x) hp ht fp ha fa (fun o e=>(nw o e).hide) r
 | rz dss=>exact fun p as H' F' x hp ht fp rz=>c p as H' F' (fx x) hp ht fp (rz.imp fun a xs ha fa nw o e=>(nw o e).hide)
 | ex n=>exact fun H' F' x=>c H' F' (fx x)
def a2M(i:Nat)(b:GF)(body:SF):SF:=fun e=>match e[i]? with
 | some (.fz d)=>(match seqL d with
  | none=>none
  | some ds=>B9 b body ds e)
 | some (.ow ds)=>unhide i ds (B9 b body ds (e.set i (.hd ds)))
 | some (.hd ds)=>B9 b body ds e
 | _=>none
theorem Rel.hid_stays{i:Nat}{ds:List D}(R:Rel K cl σ H F env)(h:env[i]? = some (.hd ds)):∃a xs,σ[i]? = some (some (.ref a))∧Rps K cl F ds xs∧H a=some (.lst xs)∧∀σ' H' F' e',Frm σ H F env σ' H' F' e'→H' a=some (.lst xs):=by
 obtain⟨a,xs,e,hH,hF,r⟩:=R.mu i ds (.inr h)
 refine⟨a,xs,e,r,hH,fun σ' H' F' e' f=>(f.hid a _ hH hF fun⟨j,fs,oo,q,e'⟩=>?_).1⟩
 cases fs with
 | ow fs =>
  have z:i=j:=R.inj i j a ⟨ds,.inr h⟩ ⟨fs,.inl q⟩ e e'
  subst z;rw[h]at q;cases q
 | od ks fs =>
  obtain⟨a',xs',e2,h2,_⟩:=R.od.at_ j _ ks fs q ⟨rfl,rfl⟩
  rw[e']at e2;cases e2
  rw[hH]at h2
  exact a2I (Option.some.inj h2).symm
 | no=>exact oo
 | fz _=>exact oo
 | hd _=>exact oo
 | hk _ _=>exact oo
theorem a7m{i:Nat}{g:TG}{tb:TS}{b:GF}{body:SF}(hg:X2 K cl k g b)(hb:RfS K cl E tb body):RfS K cl E (a3a (a3z K (D7 i)) g tb) (a2M i b body):=by
 intro N σ H env F R h
 unfold a2M at h
 split at h
 ·rename_i d q
  split at h
  ·exact h.elim
  ·rename_i ds hs
   obtain⟨v,e,p⟩:=R.fz i d q
   obtain⟨a,xs,rfl,r,hl⟩:=Rp.seqL p hs
   exact⟨_,e,a,rfl,⟨xs,hl H R.sub⟩,a8i hb hg R (fun σ' H' F' e' f2 R2=>hl H' (f2.fz.trans R2.sub)) r h⟩
 ·rename_i ds q
  have hi:i<env.length:=(List.getElem?_eq_some_iff.mp q).1
  have R':=R.hide q
  obtain⟨a,xs,e,r,hH,st⟩:=R'.hid_stays (i:=i) (ds:=ds) (List.getElem?_set_self hi)
  exact⟨_,e,a,rfl,⟨xs,.of hH⟩,a8i hb hg R' (fun σ' H' F' e' f2 R2=>.of (st σ' H' F' e' f2)) r (h.hide R q)⟩
 ·rename_i ds q
  obtain⟨a,xs,e,r,hH,st⟩:=R.hid_stays q
  exact⟨_,e,a,rfl,⟨xs,.of hH⟩,a8i hb hg R (fun σ' H' F' e' f2 R2=>.of (st σ' H' F' e' f2)) r h⟩
 ·exact h.elim
def a4o(e:DE):Bool:=e.all fun s=>match s with
 | .hd _=>false
 | _=>true
def b4p(n i:Nat)(exm:Str→Bool)(body suite:SF):SF:=fun e=>match body e with
 | some (.ex c)=>if(exm c && a4o e)=true then(match suite ((List.replicate n Sl.no).set i (.fz (.exc c)))with
   | some (.nx e2)=>put i .no e2
   | some (.rt d)=>some (.rt d)
   | some (.ro ds)=>some (.ro ds)
   | _=>none)else none
 | r=>r
theorem Rel.drop{i:Nat}(R:Rel K cl σ H F env)(nh:∀ds,env[i]?≠some (.hd ds)):Rel K cl (σ.set i none) H F (env.set i .no)∧Frm σ H F env (σ.set i none) H F (env.set i .no):=by
 have key:∀(j:Nat) (s:Sl),(env.set i .no)[j]? = some s→s≠.no→j≠i∧env[j]? = some s:=fun j s q ns=>by
  by_cases z:j=i
  ·subst z
   have hj:j<env.length:=by have:=(List.getElem?_eq_some_iff.mp q).1;rwa [List.length_set]at this
   rw[List.getElem?_set_self hj]at q;cases q;exact absurd rfl ns
  ·rw[List.getElem?_set_ne (Ne.symm z)]at q;exact⟨z,q⟩
 have muk:∀j,Mu (env.set i .no) j→j≠i∧Mu env j:=fun j ⟨ds,q⟩=>by
  rcases q with q | q
  ·obtain⟨z,q⟩:=key j _ q (fun z=>by cases z);exact⟨z,ds,.inl q⟩
  ·obtain⟨z,q⟩:=key j _ q (fun z=>by cases z);exact⟨z,ds,.inr q⟩
 refine⟨⟨R.sub,by rw[List.length_set,List.length_set];exact R.len,fun j d q=>?_,fun j ds q=>?_,fun j l b hj hl e1 e2=>?_,R.od.set a7_⟩,⟨Same.refl _,fun a o h f w=>⟨h,f,fun⟨j,ds,oo,q,e⟩=>?_⟩,fun j ds q=>?_,fun _ h=>h⟩⟩
 ·obtain⟨z,q⟩:=key j _ q (fun z=>by cases z)
  obtain⟨v,e,p⟩:=R.fz j d q
  exact⟨v,by rw[List.getElem?_set_ne (Ne.symm z)];exact e,p⟩
 ·have:j≠i∧(env[j]? = some (.ow ds)∨env[j]? = some (.hd ds)):=by
   rcases q with q | q
   ·obtain⟨z,q⟩:=key j _ q (fun z=>by cases z);exact⟨z,.inl q⟩
   ·obtain⟨z,q⟩:=key j _ q (fun z=>by cases z);exact⟨z,.inr q⟩
  obtain⟨z,q⟩:=this
  obtain⟨a,xs,e,r⟩:=R.mu j ds q
  exact⟨a,xs,by rw[List.getElem?_set_ne (Ne.symm z)];exact e,r⟩
 ·obtain⟨zj,mj⟩:=muk j hj
  obtain⟨zl,ml⟩:=muk l hl
  rw[List.getElem?_set_ne (Ne.symm zj)]at e1
  rw[List.getElem?_set_ne (Ne.symm zl)]at e2
  exact R.inj j l b mj ml e1 e2
 ·obtain⟨z,q⟩:=key j _ q (fun z=>by subst z;exact oo)
  rw[List.getElem?_set_ne (Ne.symm z)]at e
  exact w ⟨j,ds,oo,q,e⟩
 ·have z:j≠i:=fun z=>by subst z;exact nh ds q
  rw[List.getElem?_set_ne (Ne.symm z),List.getElem?_set_ne (Ne.symm z)]
  exact⟨q,rfl⟩
end
section
variable {K:W.Frag}{cl:Str→Addr}{E:XK}{σ:St}{H F:Hp}{env:DE}{k:Nat}
def a0K:Option Sl→Sl
 | some (.fz d)=>.fz d
 | some (.ow ds)=>.hd ds
 | some (.hd ds)=>.hd ds
 | some (.od ks ds)=>.hk ks ds
 | some (.hk ks ds)=>.hk ks ds
 | _=>.no
def y9(k:Nat)(js:List Nat)(e:DE):DE:=List.replicate k .no++js.map fun j=>a0K e[j]?
def E5(b:GF)(c:BF)(el:ZF)(ec:DE)(eo:DE):List D→List D→Option (R (List D))
 | [],acc=>some (.ok acc eo)
 | d::ds,acc=>match b d ec with
  | none=>none
  | some e1=>bnd (c e1) fun t e2=>if t=true then bnd (el e2) fun y _=>if acc.length<sizeLine then E5 b c el ec eo ds (acc++[y])else none
   else E5 b c el ec eo ds acc
theorem a0a{js:List Nat}{e:DE}{i:Nat}{s:Sl}(h:(y9 k js e)[i]? = some s)(n:s≠.no):k≤i∧∃j,js[i-k]? = some j∧a0K e[j]? = s:=by
 unfold y9 at h
 by_cases z:i<k
 ·rw[List.getElem?_append_left (by rw[List.length_replicate];exact z),List.getElem?_replicate,if_pos z]at h
  cases h;exact absurd rfl n
 ·rw[List.getElem?_append_right (by rw[List.length_replicate];omega),List.length_replicate,List.getElem?_map]at h
  cases q:js[i-k]? with
  | none=>rw[q]at h;cases h
  | some j=>rw[q]at h;cases h;exact⟨by omega,j,rfl,rfl⟩
theorem P5{js:List Nat}{i j:Nat}{v:V}(hk:k≤i)(hj:js[i-k]? = some j)(h:σ[j]? = some (some v)):(A0 k js σ)[i]? = some (some v):=by
 unfold A0
 rw[List.getElem?_append_right (by rw[List.length_replicate];exact hk),List.length_replicate,List.getElem?_map,hj]
 simp[h]
theorem RelOd.comp{js:List Nat}(R:RelOd K cl σ H F env)(nd:js.Nodup):RelOd K cl (A0 k js σ) H F (y9 k js env):=by
 have cap:∀{j:Nat} {s:Sl} {ks:DK} {ds:List D},a0K env[j]? = s→R8 s ks ds→∃t,env[j]? = some t∧R8 t ks ds:=fun{j s ks ds} h d=>by
  unfold a0K at h
  split at h<;>subst h
  ·exact d.elim
  ·exact d.elim
  ·exact d.elim
  ·rename_i q;exact⟨_,q,d⟩
  ·rename_i q;exact⟨_,q,d⟩
  ·exact d.elim
 have get:∀(i:Nat) (s:Sl) (ks:DK) (ds:List D),(y9 k js env)[i]? = some s→R8 s ks ds→k≤i∧∃j t,js[i-k]? = some j∧env[j]? = some t∧R8 t ks ds:=fun i s ks ds h d=>by
  obtain⟨hk,j,hj,c⟩:=a0a h (fun z=>by subst z;exact d)
  obtain⟨t,q,dt⟩:=cap c d
  exact⟨hk,j,t,hj,q,dt⟩
 refine⟨fun i s ks ds h d=>?_,fun i l s t ks ls ds es b hi di hl dl ei el=>?_⟩
 ·obtain⟨hk,j,t,hj,q,dt⟩:=get i s ks ds h d
  obtain⟨a,xs,e,r⟩:=R.at_ j t ks ds q dt
  exact⟨a,xs,P5 hk hj e,r⟩
 ·obtain⟨hk,j,s',hj,q,dt⟩:=get i s ks ds hi di
  obtain⟨hk',m,t',hm,q',dt'⟩:=get l t ls es hl dl
  obtain⟨a,xs,e,_⟩:=R.at_ j s' ks ds q dt
  obtain⟨a',xs',e',_⟩:=R.at_ m t' ls es q' dt'
  have h1:=P5 (k:=k) hk hj e
  have h2:=P5 (k:=k) hk' hm e'
  rw[ei]at h1;cases h1
  rw[el]at h2;cases h2
  have jm:j=m:=R.inj j m s' t' ks ls ds es b q dt q' dt' e e'
  subst jm
  obtain⟨hi',ej⟩:=List.getElem?_eq_some_iff.mp hj
  obtain⟨hl',em⟩:=List.getElem?_eq_some_iff.mp hm
  have:i-k=l-k:=(List.getElem_inj nd).mp (ej.trans em.symm)
  omega
theorem Rel.comp{js:List Nat}(R:Rel K cl σ H F env)(nd:js.Nodup):Rel K cl (A0 k js σ) H F (y9 k js env):=by
 have cap:∀{j:Nat} {ds:List D},a0K env[j]? = .hd ds→env[j]? = some (.ow ds)∨env[j]? = some (.hd ds):=fun{j ds} h=>by
  unfold a0K at h
  split at h
  ·cases h
  ·rename_i q;cases h;exact .inl q
  ·rename_i q;cases h;exact .inr q
  ·cases h
  ·cases h
  ·cases h
 have noow:∀{j:Nat} {ds:List D},a0K env[j]?≠.ow ds:=fun{j ds} h=>by
  unfold a0K at h
  split at h<;>cases h
 have mu':∀(i:Nat) (ds:List D),((y9 k js env)[i]? = some (.ow ds)∨(y9 k js env)[i]? = some (.hd ds))→k≤i∧∃j,js[i-k]? = some j∧(env[j]? = some (.ow ds)∨env[j]? = some (.hd ds)):=fun i ds q=>by
  rcases q with q | q
  ·obtain⟨hk,j,hj,c⟩:=a0a q (fun z=>by cases z);exact absurd c noow
  ·obtain⟨hk,j,hj,c⟩:=a0a q (fun z=>by cases z);exact⟨hk,j,hj,cap c⟩
 refine⟨R.sub,?_,fun i d q=>?_,fun i ds q=>?_,fun i l b ⟨ds,q⟩ ⟨es,q'⟩ e1 e2=>?_,R.od.comp nd⟩
 ·unfold A0 y9
  rw[List.length_append,List.length_append,List.length_replicate,List.length_replicate,List.length_map,List.length_map]
 ·obtain⟨hk,j,hj,c⟩:=a0a q (fun z=>by cases z)
  have:env[j]? = some (.fz d):=by
   unfold a0K at c
   split at c
   ·rename_i q;cases c;exact q
   all_goals cases c
  obtain⟨v,e,p⟩:=R.fz j d this
  exact⟨v,P5 hk hj e,p⟩
 ·obtain⟨hk,j,hj,c⟩:=mu' i ds q
  obtain⟨a,xs,e,r⟩:=R.mu j ds c
  exact⟨a,xs,P5 hk hj e,r⟩
 ·obtain⟨hk,j,hj,c⟩:=mu' i ds q
  obtain⟨hl,m,hm,c'⟩:=mu' l es q'
  obtain⟨a,xs,e,_⟩:=R.mu j ds c
  obtain⟨a',xs',e',_⟩:=R.mu m es c'
  have h1:=P5 (k:=k) hk hj e
  have h2:=P5 (k:=k) hl hm e'
  rw[e1]at h1;cases h1
  rw[e2]at h2;cases h2
  have jm:j=m:=R.inj j m b ⟨ds,c⟩ ⟨es,c'⟩ e e'
  subst jm
  obtain⟨hi',ei⟩:=List.getElem?_eq_some_iff.mp hj
  obtain⟨hl',el⟩:=List.getElem?_eq_some_iff.mp hm
  have:i-k=l-k:=(List.getElem_inj nd).mp (ei.trans el.symm)
  omega
def NoOw(e:DE):Prop:=∀(i:Nat) (s:Sl),isO s→e[i]?≠some s
theorem a42{js:List Nat}{e:DE}:NoOw (y9 k js e):=fun i s oo q=>by
 obtain⟨hk,j,hj,c⟩:=a0a q (fun z=>by subst z;exact oo)
 unfold a0K at c
 split at c<;>subst c<;>exact oo
theorem NoOw.not{e:DE}(n:NoOw e){σ:St}{a:Addr}:¬Ow σ e a:=fun⟨i,ds,oo,q,_⟩=>n i ds oo q
theorem Frm.gr{σ':St}{H' F':Hp}{env':DE}(f:Frm σ H F env σ' H' F' env')(n:NoOw env)(s:Same F' H'):Gr H F H' F':=⟨f.fz,s,fun a o h g=>by obtain⟨h1,f1,_⟩:=f.hid a o h g n.not;exact⟨h1,f1⟩⟩
theorem FX.gr{H' F':Hp}(f:FX σ H F env H' F')(n:NoOw env):Gr H F H' F':=⟨f.fz,f.sub,fun a o h g=>f.hid a o h g n.not⟩
structure Grow(K:W.Frag)(cl:Str→Addr)(σ:St)(H0 F0:Hp)(env:DE)(B:Addr)(acc:List D)(ys:List V)(H F:Hp):Prop where
 rel:Rel K cl σ H F env
 frm:Frm σ H0 F0 env σ H F env
 new:H0 B=none
 at_:H B=some (.lst ys)
 un:F B=none
 far:∀j,Mu env j→σ[j]?≠some (some (.ref B))
 rps:Rps K cl F acc ys
 stay:∀a o,H0 a=some o→F0 a=none→H a=some o∧F a=none
theorem Grow.start{B:Addr}(R:Rel K cl σ H F env)(hB:H B=none):Grow K cl σ H F env B [] [] (upd H B (.lst [])) F:=by
 obtain⟨R',f⟩:=R.newN (o:=.lst []) hB
 refine⟨R',f,hB,j8,R.sub.free hB,fun j ⟨ds,q⟩ e=>?_,.nil,fun a o h f=>⟨by rw[g7 (fun z=>by rw[z,hB]at h;cases h)];exact h,f⟩⟩
 obtain⟨a,ys,e1,hH,_⟩:=R.mu j ds q
 rw[e]at e1;cases e1
 rw[hB]at hH;cases hH
theorem Grow.gr{B:Addr}{acc:List D}{ys:List V}{H0 F0 H' F':Hp}(g:Grow K cl σ H0 F0 env B acc ys H F)(r:Gr H F H' F'):Grow K cl σ H0 F0 env B acc ys H' F' :=
 ⟨g.rel.gr r,g.frm.trans (g.rel.frm r),g.new,(r.hid B _ g.at_ g.un).1,(r.hid B _ g.at_ g.un).2,g.far,g.rps.mono r.fz,fun a o h f=>by obtain⟨h1,f1⟩:=g.stay a o h f;exact r.hid a o h1 f1⟩
theorem Grow.push{B:Addr}{acc:List D}{ys:List V}{H0 F0:Hp}{d:D}{y:V}(g:Grow K cl σ H0 F0 env B acc ys H F)(p:Rp K cl F d y):Grow K cl σ H0 F0 env B (acc++[d]) (ys++[y]) (upd H B (.lst (ys++[y]))) F:=by
 have ne:∀a o,F a=some o→a≠B:=fun a o h z=>by rw[z,g.un]at h;cases h
 refine⟨⟨fun a o h=>by rw[g7 (ne a o h)];exact g.rel.sub _ _ h,g.rel.len,g.rel.fz,fun j ds q=>?_,g.rel.inj,g.rel.od.updL g.at_⟩,⟨g.frm.fz,fun a o h f w=>?_,g.frm.keep,fun a h=>?_⟩,g.new,j8,g.un,g.far,g.rps.append (.one p),fun a o h f=>by rw[g7 (fun z=>by rw[z,g.new]at h;cases h)];exact g.stay a o h f⟩
 ·obtain⟨a,xs,e,hH,r⟩:=g.rel.mu j ds q
  have z:a≠B:=fun z=>g.far j ⟨ds,q⟩ (by rw[e,z])
  exact⟨a,xs,e,by rw[g7 z];exact hH,r⟩
 ·have z:a≠B:=fun z=>by rw[z,g.new]at h;cases h
  rw[g7 z];exact g.frm.hid a o h f w
 ·by_cases z:a=B
  ·rw[z,j8]at h;cases h
  ·rw[g7 z]at h;exact g.frm.dom a h
theorem a9s{b:GF}{c:BF}{el:ZF}{g:TG}{tf:TT}{te:TE}{js:List Nat}{B:Addr}{d:D}{x:V}{ds acc:List D}{ys:List V}{H0 F0:Hp}{Q:VK}{Pv:List V→Hp→Prop}(nd:js.Nodup)
  (hg:X2 K cl k g b) (hc:U9 K cl E tf c) (he:w8 K cl E te el) (gw:Grow K cl σ H0 F0 env B acc ys H F) (p:Rp K cl F d x)
  (h:Ct K cl E (PN K cl) (E5 b c el (y9 k js env) env (d::ds) acc) σ H0 F0 env Q)
  (hP:∀acc' ys' H' F',Grow K cl σ H0 F0 env B acc' ys' H' F'→Ct K cl E (PN K cl) (E5 b c el (y9 k js env) env ds acc') σ H0 F0 env Q→Pv ys' H') :
  g x (A0 k js σ) H fun σ2 H2=>(σ2.drop k=(A0 k js σ).drop k∧σ2.length=(A0 k js σ).length)∧tf σ2 H2 fun t H3 =>
   if t=true then te σ2 H3 fun y H4=>H4 B=some (.lst ys)∧ys.length<sizeLine∧Pv (ys++[y]) (upd H4 B (.lst (ys++[y])))else Pv ys H3:=by
 unfold E5 at h
 have Rc:Rel K cl (A0 k js σ) H F (y9 k js env):=gw.rel.comp nd
 split at h
 ·exact h.elim
 ·rename_i e1 hb
  refine hg x _ H _ d _ e1 F Rc p hb fun σ2 d2 l2 f2 R2=>⟨⟨d2,l2⟩,?_⟩
  have n1:NoOw (y9 k js env):=a42
  -- ways out by an exception
  have exc:∀{H' F':Hp} {σ':St} {e':DE} {H'' F'':Hp} {n:Str},Frm (A0 k js σ) H F (y9 k js env) σ' H' F' e'→FX σ' H' F' e' H'' F''→(∀H' F',FX σ H0 F0 env H' F'→E (.ref (cl n)) none H')→E (.ref (cl n)) none H'':=fun{H' F' σ' e' H'' F'' n} f fx q=>by
   have gr:Gr H F H'' F'':=(f.fx fx).gr n1
   exact q _ _ (gw.frm.fx gr.fx)
  refine hc σ2 H _ e1 F R2 ?_
  cases hce:c e1 with
  | none=>rw[hce]at h;exact h.elim
  | some rc =>
   rw[hce]at h
   cases rc with
   | ex n=>exact fun H' F' fx=>exc f2 fx h
   | ok t e2 =>
    intro t' H3 F3 f3 R3 ht
    have ht:t'=t:=ht
    subst ht
    have h:Ct K cl E (PN K cl) (if t'=true then bnd (el e2) fun y _=>if acc.length<sizeLine then E5 b c el (y9 k js env) env ds (acc++[y])else none else E5 b c el (y9 k js env) env ds acc) σ H0 F0 env Q:=h
    have gr3:Gr H F H3 F3:=(f2.trans f3).gr n1 R3.sub
    by_cases z:t'=true
    ·rw[if_pos z]at h ⊢
     refine he σ2 H3 _ e2 F3 R3 ?_
     cases hel:el e2 with
     | none=>rw[hel]at h;exact h.elim
     | some re =>
      rw[hel]at h
      cases re with
      | ex n=>exact fun H' F' fx=>exc (f2.trans f3) fx h
      | ok y e3 =>
       intro v H4 F4 f4 R4 hv
       have h:Ct K cl E (PN K cl) (if acc.length<sizeLine then E5 b c el (y9 k js env) env ds (acc++[y])else none) σ H0 F0 env Q:=h
       split at h
       ·rename_i hlen
        have gr4:Gr H F H4 F4:=((f2.trans f3).trans f4).gr n1 R4.sub
        have gw4:=gw.gr gr4
        exact⟨gw4.at_,by rw[← gw4.rps.length];exact hlen,hP _ _ _ _ (gw4.push hv) h⟩
       ·exact h.elim
    ·rw[if_neg z]at h ⊢
     exact hP _ _ _ _ (gw.gr gr3) h
theorem b0E{b:GF}{c:BF}{el:ZF}{js:List Nat}{B:Addr}{acc:List D}{ys:List V}{H0 F0:Hp}{Q:VK}(gw:Grow K cl σ H0 F0 env B acc ys H F)(h:Ct K cl E (PN K cl) (E5 b c el (y9 k js env) env [] acc) σ H0 F0 env Q):Q (.ref B) H :=
 h _ H F gw.frm gw.rel ⟨B,ys,rfl,gw.new,gw.at_,gw.un,gw.far,gw.rps⟩
theorem a8j{b:GF}{c:BF}{el:ZF}{g:TG}{tf:TT}{te:TE}{js:List Nat}{ds:List D}{xs:List V}{a B:Addr}{Q:VK}(nd:js.Nodup)(hg:X2 K cl k g b)(hc:U9 K cl E tf c)(he:w8 K cl E te el)(R:Rel K cl σ H F env)(hB:H B=none)
  (hl:∀H' F',Same F F'→Same F' H'→(∀a o,H a=some o→F a=none→H' a=some o∧F' a=none)→SqL K H' a xs) (r:Rps K cl F ds xs) (h:Ct K cl E (PN K cl) (E5 b c el (y9 k js env) env ds []) σ H F env Q) :
  a2e (Itl K a) g tf te k (A0 k js σ) B (fun H'=>Q (.ref B) H') H:=by
 refine a88 (xs:=xs) (fun i ys H'=>∃F' acc,Grow K cl σ H F env B acc ys H' F'∧Ct K cl E (PN K cl) (E5 b c el (y9 k js env) env (ds.drop i) acc) σ H F env Q) ⟨F,[],.start R hB,h⟩ (fun i ys H' _ ⟨F',acc,gw,_⟩=>hl H' F' gw.frm.fz gw.rel.sub gw.stay) (fun i x ys H' hx ⟨F',acc,gw,h'⟩=>?_) (fun ys H' ⟨F',acc,gw,h'⟩=>?_)
 ·obtain⟨d,hd,p⟩:=r.get' hx
  rw[Z9 hd]at h'
  exact a9s (Pv:=fun ys' H2=>∃F' acc,Grow K cl σ H F env B acc ys' H2 F'∧Ct K cl E (PN K cl) (E5 b c el (y9 k js env) env (ds.drop (i+1)) acc) σ H F env Q) nd hg hc he gw (Rp.mono gw.frm.fz _ _ p) h' fun acc' ys' H2 F2 gw2 h2=>⟨F2,acc',gw2,h2⟩
 ·rw[← r.length,List.drop_length]at h'
  exact b0E gw h'
def a30:BF:=fun e=>some (.ok true e)
theorem b0F:U9 K cl E b1u a30:=fun σ H Q env F R h=>h true H F Frm.refl R rfl
def a2n(i:Nat)(k:Nat)(js:List Nat)(b:GF)(c:BF)(el:ZF):NF:=fun e=>match look e i with
 | some d=>(match seqL d with
  | none=>none
  | some ds=>E5 b c el (y9 k js e) e ds [])
 | none=>none
theorem b0G{i:Nat}{g:TG}{tf:TT}{te:TE}{js:List Nat}{b:GF}{c:BF}{el:ZF}(nd:js.Nodup)(hg:X2 K cl k g b)(hc:U9 K cl E tf c)(he:w8 K cl E te el):RfN K cl E (b1v (a3z K (D7 i)) g tf te k js) (a2n i k js b c el):=by
 intro σ H Q env F R h
 unfold a2n look at h
 cases q:env[i]? with
 | none=>rw[q]at h;exact h.elim
 | some s =>
  rw[q]at h
  cases s with
  | no=>exact h.elim
  | od _ _=>exact h.elim
  | hk _ _=>exact h.elim
  | fz d =>
   have h:Ct K cl E (PN K cl) (match seqL d with
    | none=>none
    | some ds=>E5 b c el (y9 k js env) env ds []) σ H F env Q:=h
   split at h
   ·exact h.elim
   ·rename_i ds hs
    obtain⟨v,e,p⟩:=R.fz i d q
    obtain⟨a,xs,rfl,r,hl⟩:=Rp.seqL p hs
    exact⟨_,e,a,rfl,⟨xs,hl H R.sub⟩,fun B hB=>a8j nd hg hc he R hB (fun H' F' f2 s2 _=>hl H' (f2.trans s2)) r h⟩
  | ow ds =>
   have h:Ct K cl E (PN K cl) (E5 b c el (y9 k js env) env ds []) σ H F env Q:=h
   obtain⟨a,xs,e,hH,hF,r⟩:=R.mu i ds (.inl q)
   exact⟨_,e,a,rfl,⟨xs,.of hH⟩,fun B hB=>a8j nd hg hc he R hB (fun H' F' _ _ st=>.of (st a _ hH hF).1) r h⟩
  | hd ds =>
   have h:Ct K cl E (PN K cl) (E5 b c el (y9 k js env) env ds []) σ H F env Q:=h
   obtain⟨a,xs,e,hH,hF,r⟩:=R.mu i ds (.inr q)
   exact⟨_,e,a,rfl,⟨xs,.of hH⟩,fun B hB=>a8j nd hg hc he R hB (fun H' F' _ _ st=>.of (st a _ hH hF).1) r h⟩
theorem a8k{i:Nat}{wi:TI}{g:TG}{tf:TT}{te:TE}{js:List Nat}{f:NF}(h:RfN K cl E (b1v wi g tf te k js) f):RfS K cl E (a5O i wi g tf te k js) (A5 i f):=fun N σ H env F R q=>J5 h N σ H env F R q
end
def fD(n m:Nat)(body:SF)(ds:List D):Option R1:=if ds.length=m then(match body (ds.map .fz++List.replicate (n-ds.length) .no)with
 | some (.nx _)=>some (.ret .non)
 | some (.rt d)=>some (.ret d)
 | some (.ro es)=>some (.own es)
 | some (.rz dss)=>some (.owz dss)
 | some (.rp n es)=>some (.owp n es)
 | some (.ex c)=>some (.ex c)
 | _=>none)else none
section
variable {P:Program}{w:World}{K:W.Frag}{mg:Str→Option Value}{base:Heap}{cl:Str→Addr}
theorem a9t{N:List Str}{vs:List V}{ds:List D}{H F:Hp}(s:Same F H)(p:Rps K cl F ds vs):Rel K cl (start N vs) H F (ds.map .fz++List.replicate (N.length-ds.length) .no)∧NoOw (ds.map .fz++List.replicate (N.length-ds.length) .no):=by
 have key:∀(i:Nat) (t:Sl),(ds.map Sl.fz++List.replicate (N.length-ds.length) .no)[i]? = some t→t≠.no→∃d,ds[i]? = some d∧t=.fz d:=fun i t q n=>by
  by_cases z:i<ds.length
  ·rw[List.getElem?_append_left (by rw[List.length_map];exact z),List.getElem?_map]at q
   cases hd:ds[i]? with
   | none=>rw[hd]at q;cases q
   | some d=>rw[hd]at q;cases q;exact⟨d,rfl,rfl⟩
  ·rw[List.getElem?_append_right (by rw[List.length_map];omega),List.getElem?_replicate]at q
   split at q
   ·cases q;exact absurd rfl n
   ·cases q
 have no:NoOw (ds.map .fz++List.replicate (N.length-ds.length) .no):=fun i es oo q=>by
  obtain⟨d,_,z⟩:=key i _ q (fun z=>by subst z;exact oo)
  subst z;exact oo
 refine⟨⟨s,?_,fun i d q=>?_,fun i es q=>?_,fun i j b ⟨es,q⟩ _ _ _=>?_,.none fun j s ks ds q d=>by obtain⟨_,_,rfl⟩:=key j s q (fun z=>by subst z;exact d);exact d⟩,no⟩
 ·unfold start
  rw[List.length_append,List.length_append,List.length_map,List.length_map,List.length_replicate,List.length_replicate,p.length]
 ·obtain⟨d',hd,z⟩:=key i _ q (fun z=>by cases z)
  cases z
  obtain⟨v,hv,r⟩:=p.get hd
  refine⟨v,?_,r⟩
  unfold start
  rw[List.getElem?_append_left (by rw[List.length_map];exact(List.getElem?_eq_some_iff.mp hv).1),List.getElem?_map,hv];rfl
 ·rcases q with q | q
  ·obtain⟨d,_,z⟩:=key i _ q (fun z=>by cases z);cases z
  ·obtain⟨d,_,z⟩:=key i _ q (fun z=>by cases z);cases z
 ·rcases q with q | q
  ·obtain⟨d,_,z⟩:=key i _ q (fun z=>by cases z);cases z
  ·obtain⟨d,_,z⟩:=key i _ q (fun z=>by cases z);cases z
theorem a2N{n m:Nat}{body:SF}{vs:List V}{H:Hp}{Q:VK}{E:XK}(h:k8 K cl (fD n m body) vs H Q E):vs.length=m:=by
 obtain⟨ds,F,s,p,h⟩:=h
 unfold fD at h
 by_cases z:ds.length=m
 ·rw[← p.length];exact z
 ·rw[if_neg z]at h;exact h.elim
theorem a0p{N:List Str}{m:Nat}{body:SF}{t:TS}{vs:List V}{H:Hp}{Q:VK}{E:XK}(hb:RfS K cl E t body)(h:k8 K cl (fD N.length m body) vs H Q E):t { nx:=fun _ H'=>Q .non H',rt:=Q } (start N vs) H:=by
 obtain⟨ds,F,s,p,h⟩:=h
 obtain⟨R,no⟩:=a9t (N:=N) s p
 refine hb _ _ H _ F R ?_
 unfold fD at h
 by_cases z:ds.length=m
 ·rw[if_pos z]at h
  cases r:body (ds.map .fz++List.replicate (N.length-ds.length) .no)with
  | none=>rw[r]at h;exact h.elim
  | some rs =>
   rw[r]at h
   cases rs with
   | nx e=>exact fun σ' H' F' f R'=>h .non H' F' (f.gr no R'.sub) (by simp only[Rp])
   | rt d=>exact fun v H' F' x q=>h v H' F' (x.gr no) q
   | ro es =>
    refine fun a xs H' F' x ha fa nw q=>h a xs H' F' (x.gr no) ?_ ha fa q
    cases e:H a with
    | none=>rfl
    | some o=>exact absurd (nw o e) no.not
   | rz dss =>
    refine fun p as H' F' x hp ht fp rz=>h p as H' F' (x.gr no) hp ht fp (rz.imp fun a xs ha fa nw=>?_)
    cases e:H a with
    | none=>rfl
    | some o=>exact absurd (nw o e) no.not
   | rp n es =>
    refine fun p a xs H' F' x hp ht fp ha fa nw q=>h p a xs H' F' (x.gr no) hp ht fp ?_ ha fa q
    cases e:H a with
    | none=>rfl
    | some o=>exact absurd (nw o e) no.not
   | bk e=>exact h.elim
   | ct e=>exact h.elim
   | ex c=>exact fun H' F' x=>h H' F' (x.gr no)
 ·rw[if_neg z]at h;exact h.elim
theorem Fun.okD{x qual:Str}{st:Stmt}{f:Addr}{fd:FuncData}{N ps:List Str}{k:Nat}{body:SF}(F:Fun K x qual st f fd)(S:FnScope N ps (d9 st))
  (hbody:∀(cdv:Value) (A:Around) (outer:List Env) (s:Shared) (H:Hp) (E:XK),Room k (A.deeper (envOfC qual (d9 st) s.heap.objs.size f cdv)) →
   ∃t,PSs (U0 (A6 P w) P w K mg base N qual (d9 st) f cdv A outer s H E) (k6 st) t∧RfS K cl E t body):FnOk P w K mg base (A6 P w) (k+1) f fd ps (k8 K cl (fD N.length ps.length body)) :=
 F.okE S (fun vs H Q E h=>a2N h) fun cdv A outer s H vs Q E hr h=>by
  obtain⟨t,h1,h2⟩:=hbody cdv A outer s H E hr
  exact⟨t,h1,a0p h2 h⟩
theorem FunD.okD{x qual:Str}{st:Stmt}{dT f:Addr}{fd:FuncData}{N ps:List Str}{k:Nat}{body:SF}(F:FunD K x qual st dT f fd)(S:FnScope N ps (d9 st))
  (hbody:∀(cdv:Value) (A:Around) (outer:List Env) (s:Shared) (H:Hp) (E:XK),Room k (A.deeper (envOfC qual (d9 st) s.heap.objs.size f cdv)) →
   ∃t,PSs (U0 (A6 P w) P w K mg base N qual (d9 st) f cdv A outer s H E) (k6 st) t∧RfS K cl E t body):FnOk P w K mg base (A6 P w) (k+1) f fd ps (k8 K cl (fD N.length ps.length body)) :=
 F.okE S (fun vs H Q E h=>a2N h) fun cdv A outer s H vs Q E hr h=>by
  obtain⟨t,h1,h2⟩:=hbody cdv A outer s H E hr
  exact⟨t,h1,a0p h2 h⟩
theorem b2s{g:List D→Option R1}{vs:List V}{H:Hp}{Q:VK}{E:XK}{a:Addr}{ns:List Int}(e:vs=[.ref a])(h:Scr K H a (ns.map V.int))(q:∀H',Q (.bl true) H')(m:g [.scr ns]=some (.ret (.bl true))):k8 K cl g vs H Q E:=by
 refine⟨[.scr ns],H,Same.refl _,?_,?_⟩
 ·rw[e];exact .one (by simp only[Rp];exact⟨a,rfl,h⟩)
 ·rw[m]
  intro v H' F' _ p
  have p:Rp K cl F' (.bl true) v:=p
  simp only[Rp]at p
  rw[p];exact q H'
def tyN:D→Option String
 | .non=>some "NoneType"
 | .bl _=>some "bool"
 | .int _=>some "int"
 | .str _=>some "str"
 | .lst _=>some "list"
 | .tup _=>some "tuple"
 | _=>none
theorem a7n{K:W.Frag}(t n:String)(ht:t∈["NoneType","bool","int","str","list","tuple"])(hn:n∈["bool","int","str","list","tuple"]):W.kitOne K (.type t) (.type n)=some (t == n || (t == "bool" && n == "int")):=by
 simp only[List.mem_cons,List.not_mem_nil,or_false]at ht hn
 rcases ht with rfl | rfl | rfl | rfl | rfl | rfl<;>rcases hn with rfl | rfl | rfl | rfl | rfl<;>first | rfl | with_unfolding_all rfl
def a4p:List D→Option D
 | [d,.ty n]=>match tyN d with
  | some t=>if n∈["bool","int","str","list","tuple"]then some (.bl (t == n || (t == "bool" && n == "int")))else none
  | none=>none
 | _=>none
theorem a7o{d:D}{t:String}(h:tyN d=some t):t∈["NoneType","bool","int","str","list","tuple"]:=by
 cases d<;>cases h<;>decide
theorem a9v{F H:Hp}{d:D}{t:String}{v:V}(s:Same F H)(p:Rp K cl F d v)(h:tyN d=some t):TyX K H v (.type t):=by
 cases d<;>cases h<;>simp only[Rp]at p
 ·subst p;exact .of .non
 ·subst p;exact .of (.bl _)
 ·subst p;exact .of (.int _)
 ·subst p;exact .of (.str _)
 ·obtain⟨a,xs,rfl,h,_⟩:=p;exact .of (.tup (s _ _ h))
 ·obtain⟨a,xs,rfl,h,_⟩:=p;exact .of (.lst (s _ _ h))
theorem b4q:a8d K cl (a72 K) a4p:=by
 intro xs ds z H F Q s hx h q
 unfold a4p at h
 split at h
 ·rename_i d n
  split at h
  ·rename_i t ht
   split at h
   ·rename_i hn;cases h
    obtain⟨v,r,rfl,p1,p2⟩:=hx.inv
    obtain⟨u,r',rfl,p3,p4⟩:=p2.inv
    rw[p4.inv0]
    simp only[Rp]at p3
    subst p3
    exact⟨v,_,_,_,_,rfl,rfl,a9v s p1 ht,a7n t n (a7o ht) hn,q _ H F (.refl s) (by simp only[Rp])⟩
   ·cases h
  ·cases h
 ·cases h
def a2O(n:String)(d:D):Option D:=match tyN d with
 | some t=>if n∈["bool","int","str","list","tuple"]then some (.bl (t == n || (t == "bool" && n == "int")))else none
 | none=>none
def a1M(i:Nat)(n:String):ZF:=fun e=>match look e i with
 | some d=>opt (a2O n d) e
 | none=>none
theorem a4q{E:XK}{i:Nat}{n:String}{t:TE}(ht:t=tC (.ty n):=by rfl):w8 K cl E (tCB (a72 K) (L7 (D7 i) (L7 t a0C))) (a1M i n):=by
 subst ht
 intro σ H Q env F R h
 unfold a1M at h
 cases q:look env i with
 | none=>rw[q]at h;exact h.elim
 | some d =>
  rw[q]at h
  obtain⟨x,e,rb⟩:=R.look q
  refine⟨x,e,?_⟩
  cases hz:a2O n d with
  | none=>simp only[hz,a1F]at h;exact h.elim
  | some z =>
   simp only[hz,a1E]at h
   unfold a2O at hz
   split at hz
   ·rename_i t ht
    split at hz
    ·rename_i hn;cases hz
     refine⟨x,_,_,_,_,rfl,rfl,?_,a7n t n (a7o ht) hn,h _ H F Frm.refl R (by show Rp K cl F (.bl _) _;simp only[Rp])⟩
     rcases rb with p | ⟨a,xs,ds,rfl,rfl,hH,_⟩
     ·exact a9v R.sub p ht
     ·cases ht;exact .of (.lst hH)
    ·cases hz
   ·cases hz
end
section
variable {P:Program}{w:World}{mg:Str→Option Value}{base:Heap}{K:W.Frag}{cl:Str→Addr}{E:XK}
def a31(g g':D→D→Option D)(fa fb fc:ZF):ZF:=fun e=>bnd (fa e) fun d e1=>bnd (fb e1) fun d' e2=>match g d d' with
 | some (.bl b)=>if b=true then bnd (fc e2) fun d'' e3=>opt (g' d' d'') e3 else some (.ok (.bl false) e2)
 | _=>none
theorem b0H{r r':R2}{g g':D→D→Option D}{ta tb tc:TE}{fa fb fc:ZF}(ok:OpOk K cl r g)(ok':OpOk K cl r' g')(ha:w8 K cl E ta fa)(hb:w8 K cl E tb fb)(hc:w8 K cl E tc fc):w8 K cl E (a8X r r' ta tb tc) (a31 g g' fa fb fc):=by
 intro σ H Q env F R h
 refine ha σ H _ env F R ((Ct.bnd h P0).mono fun x H1 ⟨F1,e1,d,s1,R1,p1,h1⟩=>?_)
 refine hb σ H1 _ e1 F1 R1 ((Ct.bnd h1 P0).mono fun y H2 ⟨F2,e2,e,s2,R2,p2,h2⟩=>?_)
 split at h2
 ·rename_i b hg
  refine ok x y d e _ H2 F2 _ R2.sub (.inl (Rp.mono s2 _ _ p1)) (.inl p2) hg fun v H3 F3 gr hv=>?_
  simp only[Rp]at hv
  refine⟨b,hv,?_⟩
  have f3:=R2.frm gr
  have R3:=R2.gr gr
  have h3:=Ct.from f3 P0 h2
  by_cases z:b=true
  ·rw[if_pos z]at h3 ⊢
   refine hc σ H3 _ e2 F3 R3 ((Ct.bnd h3 P0).mono fun y' H4 ⟨F4,e4,e',s4,R4,p4,h4⟩=>?_)
   exact ok'.fin R4 (.inl (Rp.mono (gr.fz.trans s4) _ _ p2)) (.inl p4) h4
  ·rw[if_neg z]at h3 ⊢
   exact h3 _ H3 F3 Frm.refl R3 (by show Rp K cl F3 (.bl false) _;simp only[Rp])
 ·exact h2.elim
end
section
variable {α β:Type}
def a0g(r:Option RS)(k:SF):Option RS:=match r with
 | some (.nx e)=>k e
 | r=>r
theorem b2t{f k:SF}{e:DE}:d6 f k e=a0g (f e) k:=rfl
theorem b2u{e:DE}{k:SF}:a0g (some (.nx e)) k=k e:=rfl
theorem b2v{d:D}{k:SF}:a0g (some (.rt d)) k=some (.rt d):=rfl
theorem b2w{d:List D}{k:SF}:a0g (some (.ro d)) k=some (.ro d):=rfl
theorem b2x{d:Str}{k:SF}:a0g (some (.ex d)) k=some (.ex d):=rfl
theorem b2y{e:DE}{k:SF}:a0g (some (.bk e)) k=some (.bk e):=rfl
theorem b2z{e:DE}{k:SF}:a0g (some (.ct e)) k=some (.ct e):=rfl
theorem b2A{k:SF}:a0g none k=none:=rfl
theorem b0I{c:Prop} [Decidable c] {a b:Option RS} {k:SF}:a0g (if c then a else b) k=if c then a0g a k else a0g b k:=by split<;>rfl
theorem b2B{d:D}{e:DE}:toZ (some (.ret d)) e=some (.ok d e):=rfl
theorem b2C{d:List D}{e:DE}:toZ (some (.own d)) e=some (.ok (.lst d) e):=rfl
theorem b4r{d:Str}{e:DE}:toZ (some (.ex d)) e=some (.ex d):=rfl
theorem b0J{d:D}{e:DE}:a3g (some (.ret d)) e=some (.ok d e):=rfl
theorem b0K{d:List D}{e:DE}:a3g (some (.own d)) e=some (.ok (.lst d) e):=rfl
theorem a9w{i:Nat}{d:D}{e:DE}:a3W i (some (.ret d)) e=put i (.fz d) e:=rfl
theorem a9x{i:Nat}{d:List D}{e:DE}:a3W i (some (.own d)) e=put i (.ow d) e:=rfl
theorem b0L{i:Nat}{d:Str}{e:DE}:a3W i (some (.ex d)) e=some (.ex d):=rfl
theorem a8l{i:Nat}{d:D}{e:DE}:a3X i (some (.ret d)) e=put i (.fz d) e:=rfl
theorem a8m{i:Nat}{d:List D}{e:DE}:a3X i (some (.own d)) e=put i (.ow d) e:=rfl
theorem a9y{d:D}:a5q (some (.ret d))=some (.rt d):=rfl
theorem a9z{d:List D}:a5q (some (.own d))=some (.ro d):=rfl
theorem b0M{d:Str}:a5q (some (.ex d))=some (.ex d):=rfl
theorem a8n{d:D}:a9q (some (.ret d))=some (.rt d):=rfl
theorem a8o{d:List D}:a9q (some (.own d))=some (.ro d):=rfl
def a1N(r:Option RS):Option R1:=match r with
 | some (.nx _)=>some (.ret .non)
 | some (.rt d)=>some (.ret d)
 | some (.ro es)=>some (.own es)
 | some (.rz dss)=>some (.owz dss)
 | some (.rp n es)=>some (.owp n es)
 | some (.ex c)=>some (.ex c)
 | _=>none
theorem b5k{n m:Nat}{body:SF}{ds:List D}(h:ds.length=m):fD n m body ds=a1N (body (ds.map .fz++List.replicate (n-m) .no)):=by
 unfold fD;rw[if_pos h,h];rfl
theorem b2D{e:DE}:a1N (some (.nx e))=some (.ret .non):=rfl
theorem b2E{d:D}:a1N (some (.rt d))=some (.ret d):=rfl
theorem b2F{d:List (List D)}:a1N (some (.rz d))=some (.owz d):=rfl
theorem b2G{d:List (List D)}{k:SF}:a0g (some (.rz d)) k=some (.rz d):=rfl
theorem a9A{d:List (List D)}:a5q (some (.owz d))=some (.rz d):=rfl
theorem b2H{d:List D}:a1N (some (.ro d))=some (.own d):=rfl
theorem b2I{d:Str}:a1N (some (.ex d))=some (.ex d):=rfl
theorem b0N{c:Prop} [Decidable c] {a b:Option RS}:a1N (if c then a else b)=if c then a1N a else a1N b:=by split<;>rfl
def a1b(r:Option RS)(k:SF):Option RS:=match r with
 | some (.nx e)=>k e
 | some (.ct e)=>k e
 | some (.bk e)=>some (.nx e)
 | r=>r
theorem a1k{e:DE}{k:SF}:a1b (some (.nx e)) k=k e:=rfl
theorem b2J{e:DE}{k:SF}:a1b (some (.ct e)) k=k e:=rfl
theorem b2K{e:DE}{k:SF}:a1b (some (.bk e)) k=some (.nx e):=rfl
theorem a4r{d:D}{k:SF}:a1b (some (.rt d)) k=some (.rt d):=rfl
theorem b2L{d:List (List D)}{k:SF}:a1b (some (.rz d)) k=some (.rz d):=rfl
theorem b2M{d:List D}{k:SF}:a1b (some (.ro d)) k=some (.ro d):=rfl
theorem b2N{d:Str}{k:SF}:a1b (some (.ex d)) k=some (.ex d):=rfl
theorem a57{b:GF}{body:SF}{e:DE}:B9 b body [] e=some (.nx e):=rfl
def a8p(x:Option DE)(k:SF):Option RS:=match x with
 | none=>none
 | some e=>k e
theorem R9{b:GF}{body:SF}{d:D}{ds:List D}{e:DE}:B9 b body (d::ds) e=a8p (b d e) fun e1=>a1b (body e1) (B9 b body ds):=by
 rw[B9];cases b d e<;>rfl
theorem D2{e:DE}{k:SF}:a8p (some e) k=k e:=rfl
def a58(n i:Nat)(exm:Str→Bool)(suite:SF)(e:DE)(r:Option RS):Option RS:=match r with
 | some (.ex c)=>if(exm c && a4o e)=true then(match suite ((List.replicate n Sl.no).set i (.fz (.exc c)))with
   | some (.nx e2)=>put i .no e2
   | some (.rt d)=>some (.rt d)
   | some (.ro ds)=>some (.ro ds)
   | _=>none)else none
 | r=>r
theorem a9B{n i:Nat}{exm:Str→Bool}{body suite:SF}{e:DE}:b4p n i exm body suite e=a58 n i exm suite e (body e):=rfl
def a8q(i:Nat)(r:Option RS):Option RS:=match r with
 | some (.nx e2)=>put i .no e2
 | some (.rt d)=>some (.rt d)
 | some (.ro ds)=>some (.ro ds)
 | _=>none
theorem b2O{i:Nat}{e:DE}:a8q i (some (.nx e))=put i .no e:=rfl
theorem b2P{i:Nat}{d:D}:a8q i (some (.rt d))=some (.rt d):=rfl
theorem b2Q{i:Nat}{d:List D}:a8q i (some (.ro d))=some (.ro d):=rfl
theorem b2R{n i:Nat}{exm:Str→Bool}{suite:SF}{e:DE}{c:Str}:a58 n i exm suite e (some (.ex c))=if(exm c && a4o e)=true then a8q i (suite ((List.replicate n Sl.no).set i (.fz (.exc c))))else none:=rfl
theorem b2S{n i:Nat}{exm:Str→Bool}{suite:SF}{e:DE}{d:D}:a58 n i exm suite e (some (.rt d))=some (.rt d):=rfl
theorem b2T{n i:Nat}{exm:Str→Bool}{suite:SF}{e:DE}{d:List D}:a58 n i exm suite e (some (.ro d))=some (.ro d):=rfl
theorem b2U{n i:Nat}{exm:Str→Bool}{suite:SF}{e e1:DE}:a58 n i exm suite e (some (.nx e1))=some (.nx e1):=rfl
theorem b2V(a b:Int):v8 (.int a) (.int b)=some (.int (a+b)):=rfl
theorem b2W(a b:Int):n9 (.int a) (.int b)=some (.int (a-b)):=rfl
theorem b4s(a b:Int):gLt (.int a) (.int b)=some (.bl (decide (a<b))):=rfl
theorem b4t(a b:Int):gLe (.int a) (.int b)=some (.bl (decide (a≤b))):=rfl
theorem b4u(a b:Int):gGt (.int a) (.int b)=some (.bl (decide (b<a))):=rfl
theorem b4v(a b:Int):gGe (.int a) (.int b)=some (.bl (decide (b≤a))):=rfl
theorem b2X{a b:Int}(h:IntMulOk a b):a0f (.int a) (.int b)=some (.int (a*b)):=by show(if _ then _ else _)=_;rw[if_pos h]
theorem b2Y{a b:Int}(h:0<b∧b.natAbs.log2<9000):D4 (.int a) (.int b)=some (.int (a/b)):=by show(if _ then _ else _)=_;rw[if_pos h]
theorem b2Z{a b:Int}(h:0<b):m7 (.int a) (.int b)=some (.int (a%b)):=by show(if _ then _ else _)=_;rw[if_pos h]
theorem a7p{a b:Int}(h:a09 a b):W4 (.int a) (.int b)=some (.int (a ^ b.toNat)):=by show(if _ then _ else _)=_;rw[if_pos h]
end
def Fits(i:Int):Prop:=Builtin.Int.intBits i≤2 ^ 20
theorem b20{a b:Int}(h:a.natAbs≤b.natAbs):Builtin.Int.intBits a≤Builtin.Int.intBits b:=by
 unfold Builtin.Int.intBits
 split
 ·exact Nat.zero_le _
 ·rename_i ha
  have ha':a.natAbs≠0:=by
   intro z;apply ha;first | exact Int.natAbs_eq_zero.mp z | (simpa using z)
  have hb':b.natAbs≠0:=by omega
  split
  ·rename_i hb
   exact absurd (by first | exact Int.natAbs_eq_zero.mpr hb | (simpa using hb)) hb'
  ·have h1:b.natAbs<2 ^ (b.natAbs.log2+1):=Nat.lt_log2_self
   have h2:a.natAbs.log2<b.natAbs.log2+1:=(Nat.log2_lt ha').mpr '!'
   omega
theorem Fits.le{a b:Int}(h:Fits b)(l:a.natAbs≤b.natAbs):Fits a:=Nat.le_trans (b20 l) h
theorem Fits.mod{i n:Int}(hn:0<n)(h:Fits n):Fits (i%n):=by
 refine h.le ?_
 have h1:=Int.emod_nonneg i (show n≠0 by omega)
 have h2:=Int.emod_lt_of_pos i hn
 omega
theorem b5R{a b:Int}(h:a.natAbs<2 ^ 64):IntMulOk a b:=IntMulOk.of_left (intBits_le_64 '!' '!')
theorem a8r{a b:Int}(h:b.natAbs<2 ^ 64):IntMulOk a b:=IntMulOk.of_right (intBits_le_64 '!' '!')
theorem a0b{a b:Int}(h:b.natAbs<2 ^ 64):a0f (.int a) (.int b)=some (.int (a*b)):=b2X (a8r h)
section
variable {α:Type}
theorem b1D{a:α}{l:List α}:atI (a::l) 0=some a:=by unfold atI Q9;simp
theorem a32{a:α}{l:List α}{n:Nat}:atI (a::l) ((n:Int)+1)=atI l n:=by
 unfold atI Q9
 have h1:(0:Int)≤(n:Int)+1:=by omega
 have h2:(0:Int)≤(n:Int):=by omega
 rw[if_pos h1,if_pos h2]
 by_cases z:(n:Int)<(l.length:Int)
 ·rw[if_pos z,if_pos (by rw[List.length_cons];push_cast;omega)]
  show(a::l)[((n:Int)+1).toNat]? = l[((n:Int)).toNat]?
  rw[show((n:Int)+1).toNat=n+1 by omega,show((n:Int)).toNat=n by omega]
  rfl
 ·rw[if_neg z,if_neg (by rw[List.length_cons];push_cast;omega)]
  rfl
theorem b1E{a b:α}{l:List α}:atI (a::b::l) 1=some b:=(a32 (n:=0)).trans b1D
theorem b1F{a b c:α}{l:List α}:atI (a::b::c::l) 2=some c:=(a32 (n:=1)).trans b1E
theorem b1G{a b c d:α}{l:List α}:atI (a::b::c::d::l) 3=some d:=(a32 (n:=2)).trans b1F
theorem b5l{a b c d e:α}{l:List α}:atI (a::b::c::d::e::l) 4=some e:=(a32 (n:=3)).trans b1G
theorem b68{a b c d e f:α}{l:List α}:atI (a::b::c::d::e::f::l) 5=some f:=(a32 (n:=4)).trans b5l
end
def C2(ns:List Int)(k:Int):Int:=ns.getD k.toNat 0
theorem b21{ns:List Int}{k:Int}(hk:0≤k):(if k<(ns.length:Int)then(match atI ns k with
  | none=>none
  | some n=>some (R1.ret (D.int n)))else some (R1.ret (D.int 0)))=some (R1.ret (D.int (C2 ns k))):=by
 unfold C2
 by_cases z:k<(ns.length:Int)
 ·rw[if_pos z]
  have h:k.toNat<ns.length:=by omega
  have e:atI ns k=some ns[k.toNat]:=by
   unfold atI Q9
   rw[if_pos hk,if_pos z]
   exact List.getElem?_eq_getElem h
  rw[e,List.getD_eq_getElem?_getD,List.getElem?_eq_getElem h];rfl
 ·rw[if_neg z,List.getD_eq_getElem?_getD,List.getElem?_eq_none '!'];rfl
section
variable {K:W.Frag}{cl:Str→Addr}{E:XK}{σ:St}{H F:Hp}{env:DE}{k:Nat}
def oS(f:ZF):OF:=fun e=>bnd (f e) fun d e1=>match d with
 | .int i=>some (.ok (some i) e1)
 | _=>none
theorem b1H{t:TE}{f:ZF}(hf:w8 K cl E t f):RfO K cl E (b1q t) (oS f):=by
 intro σ H Q env F R h
 refine hf σ H _ env F R ((Ct.bnd h b55).mono fun x H1 ⟨F1,e1,d,s1,R1,p1,h1⟩=>?_)
 split at h1
 ·rename_i i
  have:x=.int i:=by have:=(show Rp K cl F1 (.int i) x from p1);simpa only[Rp]using this
  exact⟨i,this,h1 _ H1 F1 Frm.refl R1 rfl⟩
 ·exact h1.elim
def a4s(xs:List D)(lo hi:Option Int):List D:=(xs.drop (HT.sIx xs.length 0 lo)).take (HT.sIx xs.length xs.length hi-HT.sIx xs.length 0 lo)
theorem Rps.cut{ds:List D}{xs:List V}(h:Rps K cl F ds xs)(lo hi:Option Int):Rps K cl F (a4s ds lo hi) (a4i xs lo hi):=by
 unfold a4s a4i
 rw[h.length]
 exact(h.drop _).take _
def a8s(i:Nat)(l u:OF):NF:=fun e=>match look e i with
 | none=>none
 | some _=>bnd (l e) fun lo e2=>bnd (u e2) fun hi e3=>match look e3 i with
  | some d=>(match seqL d with
   | some ds=>some (.ok (a4s ds lo hi) e3)
   | none=>none)
  | none=>none
theorem Rb.seqL{d:D}{ds:List D}{v:V}(s:Same F H)(p:Rb K cl F H d v)(q:L2.seqL d=some ds):∃a xs,v=.ref a∧Rps K cl F ds xs∧SqL K H a xs:=by
 rcases p with p | ⟨a,xs,es,e,rfl,h,r⟩
 ·obtain⟨a,xs,e,r,l⟩:=Rp.seqL p q;exact⟨a,xs,e,r,l H s⟩
 ·cases q;exact⟨a,xs,e,r,.of h⟩
theorem b4w{i:Nat}{tl tu:TO}{l u:OF}(hl:RfO K cl E tl l)(hu:RfO K cl E tu u):RfN K cl E (tSl (b0f K) (D7 i) tl tu) (a8s i l u):=by
 intro σ H Q env F R h
 unfold a8s at h
 cases q:look env i with
 | none=>rw[q]at h;exact h.elim
 | some d0 =>
  rw[q]at h
  obtain⟨x,e0,_⟩:=R.look q
  refine⟨x,e0,?_⟩
  refine hl σ H _ env F R ((Ct.bnd h a8b).mono fun lo H2 ⟨F2,e2,lo',s2,R2,p2,h2⟩=>?_)
  refine hu σ H2 _ e2 F2 R2 ((Ct.bnd h2 a8b).mono fun hi H3 ⟨F3,e3,hi',s3,R3,p3,h3⟩=>?_)
  cases (show lo=lo' from p2)
  cases (show hi=hi' from p3)
  cases q2:look e3 i with
  | none=>simp only[q2]at h3;exact h3.elim
  | some d =>
   simp only[q2]at h3
   obtain⟨x',e',rb⟩:=R3.look q2
   rw[e0]at e';cases e'
   split at h3
   ·rename_i ds hs
    obtain⟨a,xs,rfl,r,hq⟩:=rb.seqL R3.sub hs
    exact⟨a,xs,rfl,hq,fun p hp=>Ct.newN R3 hp (r.cut _ _) h3⟩
   ·exact h3.elim
end
section
variable {P:Program}{w:World}{mg:Str→Option Value}{base:Heap}{K:W.Frag}{cl:Str→Addr}{E:XK}{σ:St}{H F:Hp}{env:DE}{k:Nat}
def a03:List D→Option (List Int)
 | []=>some []
 | .int b::ds=>(a03 ds).map (b :: ·)
 | _=>none
theorem a7q:∀{ds:List D} {bs:List Int},a03 ds=some bs→ds=bs.map .int
 | [],_,h=>by cases h;rfl
 | .int b::ds,_,h=>by
  unfold a03 at h
  cases q:a03 ds with
  | none=>rw[q]at h;cases h
  | some bs=>rw[q]at h;cases h;rw[a7q q];rfl
 | .non::_,_,h=>by cases h
 | .bl _::_,_,h=>by cases h
 | .str _::_,_,h=>by cases h
 | .ty _::_,_,h=>by cases h
 | .cls _::_,_,h=>by cases h
 | .tup _::_,_,h=>by cases h
 | .lst _::_,_,h=>by cases h
 | .scr _::_,_,h=>by cases h
 | .exc _::_,_,h=>by cases h
 | .obj _ _ _::_,_,h=>by cases h
 | .dic _ _::_,_,h=>by cases h
theorem ints_map:∀(ns:List Int),a03 (ns.map .int)=some ns
 | []=>rfl
 | n::ns=>by show(a03 (ns.map .int)).map (n :: ·)=_;rw[ints_map ns];rfl
end
def b4x(x:Option DE)(k:DE→Option (R (List D))):Option (R (List D)):=match x with
 | none=>none
 | some e=>k e
theorem a43{e:DE}{k:DE→Option (R (List D))}:b4x (some e) k=k e:=rfl
theorem a9C{b:GF}{c:BF}{el:ZF}{ec eo:DE}{acc:List D}:E5 b c el ec eo [] acc=some (.ok acc eo):=rfl
theorem a33{b:GF}{c:BF}{el:ZF}{ec eo:DE}{d:D}{ds acc:List D}:E5 b c el ec eo (d::ds) acc=b4x (b d ec) fun e1=>bnd (c e1) fun t e2=>if t=true then bnd (el e2) fun y _=>if acc.length<sizeLine then E5 b c el ec eo ds (acc++[y])else none else E5 b c el ec eo ds acc:=by
 rw[E5];cases b d ec<;>rfl
section
variable {K:W.Frag}{cl:Str→Addr}{E:XK}{σ:St}{H F:Hp}{env:DE}{k:Nat}
def W5:List D→Option D
 | [.int i,.int j]=>some (.int (if j > i then j else i))
 | _=>none
theorem a4t:a8d K cl (fun xs H Q=>∃i j,xs=[.int i,.int j]∧Q (.int (if j > i then j else i)) H) W5:=by
 intro xs ds z H F Q s p h q
 unfold W5 at h
 split at h
 ·rename_i i j;cases h
  exact⟨i,j,Rps.ints (ns:=[i,j]) p,q _ H F (.refl s) (by simp only[Rp])⟩
 ·cases h
def a0q:D→Option D
 | .int i=>some (.int i)
 | .bl b=>some (.int (if b then 1 else 0))
 | _=>none
theorem a4u:CbOk1 K cl (fun xs H Q=>(∃i,xs=[.int i]∧Q (.int i) H)∨∃k,xs=[.bl k]∧Q (.int (if k then 1 else 0)) H) a0q:=by
 intro x d z H F Q s hx h q
 unfold a0q at h
 split at h
 ·rename_i i;cases h;rw[hx.int];exact .inl ⟨i,rfl,q _ H F (.refl s) (by simp only[Rp])⟩
 ·rename_i i;cases h;rw[hx.bl];exact .inr ⟨i,rfl,q _ H F (.refl s) (by simp only[Rp])⟩
 ·cases h
def inD(d:D)(es:List D):Bool:=es.any fun e=>V1 e d
theorem Rps.inV{d:D}{v:V}(p:Rp K cl F d v)(f:t9 d=true):∀{es:List D} {us:List V},Rps K cl F es us→es.all t9=true→L2.inV v us=inD d es
 | [],_,h,_=>by rw[h.inv0];rfl
 | e::es,_,h,fe=>by
  obtain⟨u,r,rfl,h1,h2⟩:=h.inv
  rw[List.all_cons,Bool.and_eq_true]at fe
  have:=Rps.inV p f h2 fe.2
  unfold L2.inV inD at this ⊢
  rw[List.any_cons,List.any_cons,h1.eq p fe.1 f,this]
def X5(neg:Bool)(d e:D):Option D:=match e with
 | .lst es=>if(t9 d && es.all t9)=true then some (.bl (if neg then !inD d es else inD d es))else none
 | .tup es=>if(t9 d && es.all t9)=true then some (.bl (if neg then !inD d es else inD d es))else none
 | _=>none
theorem Rb.flat{d:D}{v:V}(h:Rb K cl F H d v)(f:t9 d=true):Rp K cl F d v:=by
 rcases h with h | ⟨_,_,_,_,rfl,_⟩
 ·exact h
 ·cases f
theorem a8t{neg:Bool}:OpOk K cl (rIn K neg) (X5 neg):=by
 intro x y d e z H F Q s hx hy h q
 unfold X5 at h
 split at h
 ·split at h
  ·rename_i c;cases h
   rw[Bool.and_eq_true]at c
   obtain⟨a,xs,rfl,hH,r⟩:=hy.lst s
   have px:=hx.flat c.1
   refine⟨a,xs,rfl,.inl (.of hH),(px.flat c.1).2,r.flat c.2,q _ H F (.refl s) ?_⟩
   simp only[Rp];rw[r.inV px c.1 c.2]
  ·cases h
 ·split at h
  ·rename_i c;cases h
   rw[Bool.and_eq_true]at c
   obtain⟨a,xs,rfl,hH,r⟩:=hy.tup s
   have px:=hx.flat c.1
   refine⟨a,xs,rfl,.inr (.of hH),(px.flat c.1).2,r.flat c.2,q _ H F (.refl s) ?_⟩
   simp only[Rp];rw[r.inV px c.1 c.2]
  ·cases h
 ·cases h
theorem tyL{i:Nat}{ds:List D}(R:Rel K cl σ H F env)(q:look env i=some (.lst ds)):∃a,σ[i]? = some (some (.ref a))∧tyV K "list" (.ref a) H:=by
 obtain⟨x,e0,rb⟩:=R.look q
 obtain⟨a,xs,rfl,hH,_⟩:=rb.lst R.sub
 exact⟨a,e0,.inl ⟨rfl,xs,.of hH⟩⟩
def a0h(i:Nat):ZF:=fun e=>match e[i]? with
 | some (.ow ds)=>(match ds.getLast? with
  | some d=>some (.ok d (e.set i (.ow ds.dropLast)))
  | none=>none)
 | _=>none
theorem Rps.dropLast{ds:List D}{xs:List V}(h:Rps K cl F ds xs):Rps K cl F ds.dropLast xs.dropLast:=by
 rw[List.dropLast_eq_take,List.dropLast_eq_take,h.length];exact h.take _
theorem a59{i:Nat}:w8 K cl E (b0g K "list" b3T (D7 i)) (a0h i):=by
 intro σ H Q env F R h
 unfold a0h at h
 split at h
 ·rename_i ds q
  split at h
  ·rename_i d hd
   obtain⟨a,xs,e,hH,hF,r⟩:=R.mu i ds (.inl q)
   have hd':ds[ds.length-1]? = some d:=by rw[← List.getLast?_eq_getElem?];exact hd
   obtain⟨v,hv,p⟩:=r.get hd'
   obtain⟨R2,f2⟩:=R.change q e r.dropLast
   refine⟨_,e,.inl ⟨rfl,xs,.of hH⟩,a,xs,v,rfl,rfl,hH,by rw[← r.length];exact hv,h v _ F f2 R2 p⟩
  ·exact h.elim
 ·exact h.elim
end
mutual
def A7:D→D→Bool
 | .tup ds,e=>(match e with
  | .tup es=>P6 ds es
  | _=>false)
 | .lst ds,e=>(match e with
  | .lst es=>P6 ds es
  | _=>false)
 | d,e=>V1 d e
def P6:List D→List D→Bool
 | [],es=>es.isEmpty
 | d::ds,es=>(match es with
  | []=>false
  | e::es=>A7 d e && P6 ds es)
end
mutual
def j6:D→Bool
 | .tup ds=>G4 ds
 | .lst ds=>G4 ds
 | d=>t9 d
def G4:List D→Bool
 | []=>true
 | d::ds=>j6 d && G4 ds
end
mutual
def U3:D→Nat
 | .tup ds=>P7 ds+1
 | .lst ds=>P7 ds+1
 | _=>0
def P7:List D→Nat
 | []=>0
 | d::ds=>max (U3 d) (P7 ds)
end
def a5_(ds es:List D)(j:Nat):Bool:=match ds[j]?,es[j]? with
 | some d,some e=>A7 d e
 | _,_=>true
theorem W6:∀{ds es:List D},ds.length=es.length→(List.range ds.length).all (a5_ ds es)=P6 ds es
 | [],[],_=>by simp[P6]
 | d::ds,e::es,h=>by
  have h':ds.length=es.length:=by simpa using h
  simp only[P6]
  show(List.range (ds.length+1)).all _=(A7 d e && P6 ds es)
  rw[List.range_succ_eq_map,List.all_cons,List.all_map,← W6 h']
  rfl
theorem a0L:∀{ds es:List D},ds.length≠es.length→P6 ds es=false
 | [],[],h=>absurd rfl h
 | _::_,[],_=>by simp[P6]
 | [],_::_,_=>by simp[P6]
 | d::ds,e::es,h=>by
  simp only[P6]
  rw[a0L (fun q=>h (by simp[q])),Bool.and_false]
section
variable {K:W.Frag}{cl:Str→Addr}{F:Hp}
theorem a1O{d e:D}{v:V}(fd:t9 d=true)(p:Rp K cl F d v)(q:Rp K cl F e v)(pe:j6 e=true):V1 d e=true:=by
 cases d<;>first | (cases fd;done) | skip
 all_goals simp only[Rp]at p;subst p
 all_goals cases e<;>simp only[Rp]at q<;>first | (cases q;done) | (cases q;simp[V1];done) | (obtain⟨_,_,z,_⟩:=q;cases z;done) | (obtain⟨_,z,_⟩:=q;cases z;done) | (simp[j6,t9]at pe;done)
mutual
theorem a4v:∀(d e:D) (v:V),Rp K cl F d v→Rp K cl F e v→j6 d=true→j6 e=true→A7 d e=true
 | .tup ds,e,v,p,q,pd,pe=>by
  simp only[Rp]at p
  obtain⟨a,xs,rfl,ha,r⟩:=p
  cases e<;>simp only[Rp]at q
  case tup es =>
   obtain⟨a',ys,z,ha',r'⟩:=q
   cases z;rw[ha]at ha';cases ha'
   simp only[j6]at pd pe
   simp only[A7]
   exact a3j ds es xs r r' pd pe
  case lst es =>
   obtain⟨a',ys,z,ha',r'⟩:=q
   cases z;rw[ha]at ha';cases ha'
  all_goals first | (cases q;done) | (simp[j6,t9]at pe;done)
 | .lst ds,e,v,p,q,pd,pe=>by
  simp only[Rp]at p
  obtain⟨a,xs,rfl,ha,r⟩:=p
  cases e<;>simp only[Rp]at q
  case lst es =>
   obtain⟨a',ys,z,ha',r'⟩:=q
   cases z;rw[ha]at ha';cases ha'
   simp only[j6]at pd pe
   simp only[A7]
   exact a3j ds es xs r r' pd pe
  case tup es =>
   obtain⟨a',ys,z,ha',r'⟩:=q
   cases z;rw[ha]at ha';cases ha'
  all_goals first | (cases q;done) | (simp[j6,t9]at pe;done)
 | .non,e,v,p,q,pd,pe=>by simp only[A7];exact a1O rfl p q pe
 | .bl _,e,v,p,q,pd,pe=>by simp only[A7];exact a1O rfl p q pe
 | .int _,e,v,p,q,pd,pe=>by simp only[A7];exact a1O rfl p q pe
 | .str _,e,v,p,q,pd,pe=>by simp only[A7];exact a1O rfl p q pe
 | .ty _,e,v,p,q,pd,pe=>by simp[j6,t9]at pd
 | .cls _,e,v,p,q,pd,pe=>by simp[j6,t9]at pd
 | .scr _,e,v,p,q,pd,pe=>by simp[j6,t9]at pd
 | .exc _,e,v,p,q,pd,pe=>by simp[j6,t9]at pd
 | .obj _ _ _,e,v,p,q,pd,pe=>by simp[j6,t9]at pd
 | .dic _ _,e,v,p,q,pd,pe=>by simp[j6,t9]at pd
theorem a3j:∀(ds es:List D) (vs:List V),Rps K cl F ds vs→Rps K cl F es vs→G4 ds=true→G4 es=true→P6 ds es=true
 | [],es,vs,p,q,_,_=>by
  rw[p.inv0]at q
  cases es with
  | nil=>simp[P6]
  | cons e es=>obtain⟨_,_,z,_⟩:=q.inv;cases z
 | d::ds,es,vs,p,q,pd,pe=>by
  obtain⟨v,r,rfl,p1,p2⟩:=p.inv
  cases es with
  | nil=>have:=q.inv0;cases this
  | cons e es =>
   obtain⟨v',r',z,q1,q2⟩:=q.inv
   cases z
   simp only[G4,Bool.and_eq_true]at pd pe
   simp only[P6]
   rw[a4v d e v p1 q1 pd.1 pe.1,a3j ds es r p2 q2 pd.2 pe.2];rfl
end
end
section
variable {X:Cx}{cl:Str→Addr}{F:Hp}{pins:List (Addr×Obj)}{σ:St}{H:Hp}{s:Shared}
theorem a1P{a:Addr}{d:D}{v:V}{u:Value}{A:Around}(hu:A.units<cLine)(hl:(∃xs,SqL X.K H a xs)∨∃xs,SqT X.K H a xs)(I:Inv X pins σ H s)(f:t9 d=true)(p:Rp X.K cl F d v)(r:RelV v u):SeqAt.EqAt A s (.ref a) u false∧SeqAt.EqAt A s u (.ref a) false:=by
 rcases hl with⟨xs,h⟩ | ⟨xs,h⟩
 ·obtain⟨us,r1,p1,z1⟩:=I.list h
  have q:=p1.isList
  cases d<;>first | (cases f;done) | skip
  all_goals simp only[Rp]at p;subst p
  ·cases r;exact⟨.list_none q hu,.none_list q hu⟩
  ·cases r;exact⟨.list_bool _ q hu,.bool_list _ q hu⟩
  ·obtain⟨t,rfl⟩:=r;exact⟨.list_int _ _ q hu,.int_list _ _ q hu⟩
  ·obtain⟨t,rfl⟩:=r;exact⟨.list_str _ _ q hu,.str_list _ _ q hu⟩
 ·obtain⟨us,r1,q,z1⟩:=I.tuple h
  cases d<;>first | (cases f;done) | skip
  all_goals simp only[Rp]at p;subst p
  ·cases r;exact⟨.tuple_none q hu,.none_tuple q hu⟩
  ·cases r;exact⟨.tuple_bool _ q hu,.bool_tuple _ q hu⟩
  ·obtain⟨t,rfl⟩:=r;exact⟨.tuple_int _ _ q hu,.int_tuple _ _ q hu⟩
  ·obtain⟨t,rfl⟩:=r;exact⟨.tuple_str _ _ q hu,.str_tuple _ _ q hu⟩
theorem P8{d:D}(p:j6 d=true):t9 d=true∨(∃ds,d=.tup ds)∨∃ds,d=.lst ds:=by
 cases d<;>first | exact .inl rfl | exact .inr (.inl ⟨_,rfl⟩) | exact .inr (.inr ⟨_,rfl⟩) | (simp[j6,t9]at p;done)
theorem b0O{d e:D}(f:t9 d=true):A7 d e=V1 d e:=by cases d<;>first | (cases f;done) | simp only[A7]
theorem a04{d e:D}{v u:V}{a b:Value}{A:Around}(I:Inv X pins σ H s)(sF:Same F H)(hu:A.units<cLine)(f:t9 d=true)(p:Rp X.K cl F d v)(q:Rp X.K cl F e u)(rv:RelV v a)(ru:RelV u b)(pe:j6 e=true):SeqAt.EqAt A s a b (A7 d e):=by
 rw[b0O f]
 rcases P8 pe with fe | ⟨es,rfl⟩ | ⟨es,rfl⟩
 ·rw[← p.eq q f fe]
  exact a81 rv ru (p.flat f).2 (q.flat fe).2
 ·simp only[Rp]at q
  obtain⟨c,ys,rfl,hb,r'⟩:=q
  cases ru
  have:=(a1P (A:=A) hu (.inr ⟨ys,.of (sF _ _ hb)⟩) I f p rv).2
  have z:V1 d (.tup es)=false:=by cases d<;>first | (cases f;done) | rfl
  rw[z];exact this
 ·simp only[Rp]at q
  obtain⟨c,ys,rfl,hb,r'⟩:=q
  cases ru
  have:=(a1P (A:=A) hu (.inl ⟨ys,.of (sF _ _ hb)⟩) I f p rv).2
  have z:V1 d (.lst es)=false:=by cases d<;>first | (cases f;done) | rfl
  rw[z];exact this
mutual
theorem b22(I:Inv X pins σ H s)(sF:Same F H):∀(d e:D) (v u:V) (a b:Value) (A:Around),A.units+U3 d<cLine→Rp X.K cl F d v→Rp X.K cl F e u→RelV v a→RelV u b→j6 d=true→j6 e=true→SeqAt.EqAt A s a b (A7 d e)
 | .tup ds,e,v,u,va,ua,A,hu,p,q,rv,ru,pd,pe=>by
  have p0:=p
  have hu':A.units<cLine:=by omega
  simp only[U3]at hu
  simp only[Rp]at p
  obtain⟨a,xs,rfl,ha,r⟩:=p
  cases rv
  have ha':=sF _ _ ha
  rcases P8 pe with f | ⟨es,rfl⟩ | ⟨es,rfl⟩
  ·have:=(a1P (A:=A) hu' (.inr ⟨xs,.of ha'⟩) I f q ru).1
   have z:A7 (.tup ds) e=false:=by cases e<;>first | (cases f;done) | simp only[A7]
   rw[z];exact this
  ·have q0:=q
   simp only[Rp]at q
   obtain⟨b,ys,rfl,hb,r'⟩:=q
   cases ru
   have hb':=sF _ _ hb
   by_cases z:a=b
   ·subst z
    rw[a4v _ _ _ p0 q0 pd pe]
    exact .same _
   ·obtain⟨us,r1,p1,_⟩:=I.tuple (.of ha')
    obtain⟨ws,r2,p2,_⟩:=I.tuple (.of hb')
    simp only[j6]at pd pe
    have he:∀j (h1:j<us.toArray.size) (h2:j<ws.toArray.size),SeqAt.EqAt A.in1 s us.toArray[j] ws.toArray[j] (a5_ ds es j):=a0M I sF ds es xs ys us ws A.in1 (by show A.units+1+P7 ds<cLine;omega) r r' r1 r2 pd pe
    have:=SeqAt.EqAt.of_refs z (SeqAt.RcAt.tuples p1 p2 hu' he)
    have e1:us.toArray.size=ds.length:=by simp[← r1.length,r.length]
    have e2:ws.toArray.size=es.length:=by simp[← r2.length,r'.length]
    rw[e1,e2]at this
    simp only[A7]
    by_cases hl:ds.length=es.length
    ·rw[← hl,Nat.min_self,W6 hl,beq_self_eq_true,Bool.and_true]at this
     exact this
    ·rw[a0L hl]
     rw[beq_eq_false_iff_ne.mpr hl,Bool.and_false]at this
     exact this
  ·simp only[Rp]at q
   obtain⟨b,ys,rfl,hb,r'⟩:=q
   cases ru
   obtain⟨us,r1,p1,_⟩:=I.tuple (.of ha')
   obtain⟨ws,r2,p2,_⟩:=I.list (.of (sF _ _ hb))
   simp only[A7]
   exact .tuple_list p1 p2.isList hu'
 | .lst ds,e,v,u,va,ua,A,hu,p,q,rv,ru,pd,pe=>by
  have p0:=p
  have hu':A.units<cLine:=by omega
  simp only[U3]at hu
  simp only[Rp]at p
  obtain⟨a,xs,rfl,ha,r⟩:=p
  cases rv
  have ha':=sF _ _ ha
  rcases P8 pe with f | ⟨es,rfl⟩ | ⟨es,rfl⟩
  ·have:=(a1P (A:=A) hu' (.inl ⟨xs,.of ha'⟩) I f q ru).1
   have z:A7 (.lst ds) e=false:=by cases e<;>first | (cases f;done) | simp only[A7]
   rw[z];exact this
  ·simp only[Rp]at q
   obtain⟨b,ys,rfl,hb,r'⟩:=q
   cases ru
   obtain⟨us,r1,p1,_⟩:=I.list (.of ha')
   obtain⟨ws,r2,p2,_⟩:=I.tuple (.of (sF _ _ hb))
   simp only[A7]
   exact .list_tuple p1.isList p2 hu'
  ·have q0:=q
   simp only[Rp]at q
   obtain⟨b,ys,rfl,hb,r'⟩:=q
   cases ru
   have hb':=sF _ _ hb
   by_cases z:a=b
   ·subst z
    rw[a4v _ _ _ p0 q0 pd pe]
    exact .same _
   ·obtain⟨us,r1,p1,_⟩:=I.list (.of ha')
    obtain⟨ws,r2,p2,_⟩:=I.list (.of hb')
    simp only[j6]at pd pe
    have he:∀j (h1:j<us.toArray.size) (h2:j<ws.toArray.size),SeqAt.EqAt A.in1 s us.toArray[j] ws.toArray[j] (a5_ ds es j):=a0M I sF ds es xs ys us ws A.in1 (by show A.units+1+P7 ds<cLine;omega) r r' r1 r2 pd pe
    have e1:us.toArray.size=ds.length:=by simp[← r1.length,r.length]
    have e2:ws.toArray.size=es.length:=by simp[← r2.length,r'.length]
    simp only[A7]
    by_cases hl:ds.length=es.length
    ·have:=SeqAt.EqAt.of_refs z (SeqAt.RcAt.lists p1.isList p2.isList (by rw[e1,e2,hl]) hu' he)
     rw[e1,W6 hl]at this
     exact this
    ·rw[a0L hl]
     exact SeqAt.EqAt.of_refs z (SeqAt.RcAt.lists_lengths p1.isList p2.isList (by rw[e1,e2];simp[hl]) hu')
 | .non,e,v,u,va,ua,A,hu,p,q,rv,ru,pd,pe=>a04 I sF '!' rfl p q rv ru pe
 | .bl _,e,v,u,va,ua,A,hu,p,q,rv,ru,pd,pe=>a04 I sF '!' rfl p q rv ru pe
 | .int _,e,v,u,va,ua,A,hu,p,q,rv,ru,pd,pe=>a04 I sF '!' rfl p q rv ru pe
 | .str _,e,v,u,va,ua,A,hu,p,q,rv,ru,pd,pe=>a04 I sF '!' rfl p q rv ru pe
 | .ty _,e,v,u,va,ua,A,hu,p,q,rv,ru,pd,pe=>by simp[j6,t9]at pd
 | .cls _,e,v,u,va,ua,A,hu,p,q,rv,ru,pd,pe=>by simp[j6,t9]at pd
 | .scr _,e,v,u,va,ua,A,hu,p,q,rv,ru,pd,pe=>by simp[j6,t9]at pd
 | .exc _,e,v,u,va,ua,A,hu,p,q,rv,ru,pd,pe=>by simp[j6,t9]at pd
 | .obj _ _ _,e,v,u,va,ua,A,hu,p,q,rv,ru,pd,pe=>by simp[j6,t9]at pd
 | .dic _ _,e,v,u,va,ua,A,hu,p,q,rv,ru,pd,pe=>by simp[j6,t9]at pd
theorem a0M(I:Inv X pins σ H s)(sF:Same F H):∀(ds es:List D) (xs ys:List V) (us ws:List Value) (A:Around),A.units+P7 ds<cLine→Rps X.K cl F ds xs→Rps X.K cl F es ys→Vals xs us→Vals ys ws→G4 ds=true→G4 es=true→∀j (h1:j<us.toArray.size) (h2:j<ws.toArray.size),SeqAt.EqAt A s us.toArray[j] ws.toArray[j] (a5_ ds es j)
 | [],es,xs,ys,us,ws,A,hu,p,q,rv,rw',pd,pe=>fun j h1 h2=>by
  rw[p.inv0]at rv;cases rv;simp at h1
 | d::ds,es,xs,ys,us,ws,A,hu,p,q,rv,rw',pd,pe=>fun j h1 h2=>by
  obtain⟨x,xs',rfl,p1,p2⟩:=p.inv
  cases rv with
  | cons r1 t1 =>
   cases es with
   | nil=>rw[q.inv0]at rw';cases rw';simp at h2
   | cons e es =>
    obtain⟨y,ys',rfl,q1,q2⟩:=q.inv
    cases rw' with
    | cons r2 t2 =>
     simp only[G4,Bool.and_eq_true]at pd pe
     simp only[P7]at hu
     cases j with
     | zero=>exact b22 I sF d e x y _ _ A '!' p1 q1 r1 r2 pd.1 pe.1
     | succ j =>
      have:=a0M I sF ds es xs' ys' _ _ A '!' p2 q2 t1 t2 pd.2 pe.2 j (by simpa using h1) (by simpa using h2)
      simpa [a5_]using this
end
end
theorem a2o{A:Around}{k:Nat}(hr:Room k A):A.units+41<cLine:=Nat.lt_of_le_of_lt (Nat.add_le_add_left (by decide:41≤64) _) hr.units
def Z2 : D→Bool
 | .tup _=>true
 | .lst _=>true
 | _=>false
theorem Rb.toRp{K:W.Frag}{cl:Str→Addr}{F H:Hp}{d:D}{v:V}(s:Same F H)(h:Rb K cl F H d v):∃F',Same F F'∧Same F' H∧Rp K cl F' d v:=by
 rcases h with h | ⟨a,xs,ds,rfl,rfl,ha,r⟩
 ·exact⟨F,Same.refl _,s,h⟩
 ·have g:Same F (upd F a (.lst xs)):=fun b o q=>by
   by_cases z:b=a
   ·subst z;have:=s _ _ q;rw[ha]at this;cases this;exact j8
   ·rw[g7 z];exact q
  refine⟨upd F a (.lst xs),g,fun b o q=>?_,?_⟩
  ·by_cases z:b=a
   ·subst z;rw[j8]at q;cases q;exact ha
   ·rw[g7 z]at q;exact s _ _ q
  ·simp only[Rp];exact⟨a,xs,rfl,j8,r.mono g⟩
section
variable {X:Cx}{cl:Str→Addr}{F:Hp}{pins:List (Addr×Obj)}{σ:St}{H:Hp}{s:Shared}
theorem a2P{a:Addr}{d:D}{v:V}{u:Value}{A:Around}(hu:A.units<cLine)(hl:(∃xs,SqL X.K H a xs)∨∃xs,SqT X.K H a xs)(I:Inv X pins σ H s)(f:t9 d=true)(p:Rp X.K cl F d v)(r:RelV v u) :
  (SeqAt.RcAt A s (.ref a) u false∧SeqAt.RcAt A s u (.ref a) false)∧SeqAt.RcNeAt A s (.ref a) u true∧SeqAt.RcNeAt A s u (.ref a) true:=by
 rcases hl with⟨xs,h⟩ | ⟨xs,h⟩
 ·obtain⟨us,r1,p1,z1⟩:=I.list h
  have q:=p1.isList
  cases d<;>first | (cases f;done) | skip
  all_goals simp only[Rp]at p;subst p
  ·cases r;exact⟨⟨.list_none q hu,.none_list q hu⟩,.list_none q hu,.none_list q hu⟩
  ·cases r;exact⟨⟨.list_bool _ q hu,.bool_list _ q hu⟩,.list_bool _ q hu,.bool_list _ q hu⟩
  ·obtain⟨t,rfl⟩:=r;exact⟨⟨.list_int _ _ q hu,.int_list _ _ q hu⟩,.list_int _ _ q hu,.int_list _ _ q hu⟩
  ·obtain⟨t,rfl⟩:=r;exact⟨⟨.list_str _ _ q hu,.str_list _ _ q hu⟩,.list_str _ _ q hu,.str_list _ _ q hu⟩
 ·obtain⟨us,r1,q,z1⟩:=I.tuple h
  cases d<;>first | (cases f;done) | skip
  all_goals simp only[Rp]at p;subst p
  ·cases r;exact⟨⟨.tuple_none q hu,.none_tuple q hu⟩,.tuple_none q hu,.none_tuple q hu⟩
  ·cases r;exact⟨⟨.tuple_bool _ q hu,.bool_tuple _ q hu⟩,.tuple_bool _ q hu,.bool_tuple _ q hu⟩
  ·obtain⟨t,rfl⟩:=r;exact⟨⟨.tuple_int _ _ q hu,.int_tuple _ _ q hu⟩,.tuple_int _ _ q hu,.int_tuple _ _ q hu⟩
  ·obtain⟨t,rfl⟩:=r;exact⟨⟨.tuple_str _ _ q hu,.str_tuple _ _ q hu⟩,.tuple_str _ _ q hu,.str_tuple _ _ q hu⟩
theorem a7r{d e:D}{v u:V}{a b:Value}{A:Around}(I:Inv X pins σ H s)(sF:Same F H)(hu:A.units+U3 d<cLine)(p:Rp X.K cl F d v)(q:Rp X.K cl F e u)(rv:RelV v a)(ru:RelV u b)(pd:j6 d=true)(pe:j6 e=true)(hs:Z2 d=true∨Z2 e=true) :
  SeqAt.RcAt A s a b (A7 d e)∧SeqAt.RcNeAt A s a b (!A7 d e):=by
 have hu':A.units<cLine:=by omega
 rcases P8 pd with fd | ⟨ds,rfl⟩ | ⟨ds,rfl⟩
 ·have se:Z2 e=true:=hs.resolve_left (by cases d<;>first | (cases fd;done) | simp[Z2])
  rcases P8 pe with fe | ⟨es,rfl⟩ | ⟨es,rfl⟩
  ·cases e<;>first | (cases fe;done) | (cases se;done)
  ·simp only[Rp]at q
   obtain⟨c,ys,rfl,hb,r'⟩:=q
   cases ru
   have:=a2P (A:=A) hu' (.inr ⟨ys,.of (sF _ _ hb)⟩) I fd p rv
   have z:A7 d (.tup es)=false:=by cases d<;>first | (cases fd;done) | simp[A7,V1]
   rw[z];exact⟨this.1.2,this.2.2⟩
  ·simp only[Rp]at q
   obtain⟨c,ys,rfl,hb,r'⟩:=q
   cases ru
   have:=a2P (A:=A) hu' (.inl ⟨ys,.of (sF _ _ hb)⟩) I fd p rv
   have z:A7 d (.lst es)=false:=by cases d<;>first | (cases fd;done) | simp[A7,V1]
   rw[z];exact⟨this.1.2,this.2.2⟩
 ·simp only[U3]at hu
  simp only[Rp]at p
  obtain⟨l,xs,rfl,ha,r⟩:=p
  cases rv
  have ha':=sF _ _ ha
  obtain⟨us,r1,p1,_⟩:=I.tuple (.of ha')
  rcases P8 pe with fe | ⟨es,rfl⟩ | ⟨es,rfl⟩
  ·have:=a2P (A:=A) hu' (.inr ⟨xs,.of ha'⟩) I fe q ru
   have z:A7 (.tup ds) e=false:=by cases e<;>first | (cases fe;done) | simp only[A7]
   rw[z];exact⟨this.1.1,this.2.1⟩
  ·simp only[Rp]at q
   obtain⟨c,ys,rfl,hb,r'⟩:=q
   cases ru
   obtain⟨ws,r2,p2,_⟩:=I.tuple (.of (sF _ _ hb))
   simp only[j6]at pd pe
   have he:=a0M I sF ds es xs ys us ws A.in1 (by show A.units+1+P7 ds<cLine;omega) r r' r1 r2 pd pe
   have h1:=SeqAt.RcAt.tuples p1 p2 hu' he
   have h2:=SeqAt.RcNeAt.tuples p1 p2 hu' he
   have e1:us.toArray.size=ds.length:=by simp[← r1.length,r.length]
   have e2:ws.toArray.size=es.length:=by simp[← r2.length,r'.length]
   rw[e1,e2]at h1 h2
   simp only[A7]
   by_cases hl:ds.length=es.length
   ·rw[← hl,Nat.min_self,W6 hl,beq_self_eq_true,Bool.and_true]at h1 h2
    exact⟨h1,h2⟩
   ·rw[a0L hl]
    rw[beq_eq_false_iff_ne.mpr hl,Bool.and_false]at h1 h2
    exact⟨h1,h2⟩
  ·simp only[Rp]at q
   obtain⟨c,ys,rfl,hb,r'⟩:=q
   cases ru
   obtain⟨ws,r2,p2,_⟩:=I.list (.of (sF _ _ hb))
   simp only[A7]
   exact⟨.tuple_list p1 p2.isList hu',.tuple_list p1 p2.isList hu'⟩
 ·simp only[U3]at hu
  simp only[Rp]at p
  obtain⟨l,xs,rfl,ha,r⟩:=p
  cases rv
  have ha':=sF _ _ ha
  obtain⟨us,r1,p1,_⟩:=I.list (.of ha')
  rcases P8 pe with fe | ⟨es,rfl⟩ | ⟨es,rfl⟩
  ·have:=a2P (A:=A) hu' (.inl ⟨xs,.of ha'⟩) I fe q ru
   have z:A7 (.lst ds) e=false:=by cases e<;>first | (cases fe;done) | simp only[A7]
   rw[z];exact⟨this.1.1,this.2.1⟩
  ·simp only[Rp]at q
   obtain⟨c,ys,rfl,hb,r'⟩:=q
   cases ru
   obtain⟨ws,r2,p2,_⟩:=I.tuple (.of (sF _ _ hb))
   simp only[A7]
   exact⟨.list_tuple p1.isList p2 hu',.list_tuple p1.isList p2 hu'⟩
  ·simp only[Rp]at q
   obtain⟨c,ys,rfl,hb,r'⟩:=q
   cases ru
   obtain⟨ws,r2,p2,_⟩:=I.list (.of (sF _ _ hb))
   simp only[j6]at pd pe
   have he:=a0M I sF ds es xs ys us ws A.in1 (by show A.units+1+P7 ds<cLine;omega) r r' r1 r2 pd pe
   have e1:us.toArray.size=ds.length:=by simp[← r1.length,r.length]
   have e2:ws.toArray.size=es.length:=by simp[← r2.length,r'.length]
   simp only[A7]
   by_cases hl:ds.length=es.length
   ·have h1:=SeqAt.RcAt.lists p1.isList p2.isList (by rw[e1,e2,hl]) hu' he
    have h2:=SeqAt.RcNeAt.lists p1.isList p2.isList (by rw[e1,e2,hl]) hu' he
    rw[e1,W6 hl]at h1 h2
    exact⟨h1,h2⟩
   ·rw[a0L hl]
    exact⟨SeqAt.RcAt.lists_lengths p1.isList p2.isList (by rw[e1,e2];simp[hl]) hu',SeqAt.RcNeAt.lists_lengths p1.isList p2.isList (by rw[e1,e2];simp[hl]) hu'⟩
end
def b0P(K:W.Frag)(cl:Str→Addr)(neg:Bool):R2:=fun x y H Q=>∃F d e,Same F H∧Rp K cl F d x∧Rp K cl F e y∧j6 d=true∧j6 e=true∧U3 d≤40∧(Z2 d=true∨Z2 e=true)∧Q (.bl (if neg then !A7 d e else A7 d e)) H
theorem a7s{X:Cx}{K:W.Frag}{cl:Str→Addr}(hu:X.A.units+41<cLine)(hK:X.K=K:=by rfl):K7 X (compareOp .Eq) (b0P K cl false):=by
 subst hK
 intro pins s σ H x y v u Q I rx ry h
 obtain⟨F,d,e,sF,p,q,pd,pe,hd,hs,hQ⟩:=h
 exact(a7r I sF '!' p q rx ry pd pe hs).1 X.prog X.w _ _ ⟨.bl _,H,I,rfl,hQ⟩
theorem a4w{X:Cx}{K:W.Frag}{cl:Str→Addr}(hu:X.A.units+41<cLine)(hK:X.K=K:=by rfl):K7 X (compareOp .NotEq) (b0P K cl true):=by
 subst hK
 intro pins s σ H x y v u Q I rx ry h
 obtain⟨F,d,e,sF,p,q,pd,pe,hd,hs,hQ⟩:=h
 exact(a7r I sF '!' p q rx ry pd pe hs).2 X.prog X.w _ _ ⟨.bl _,H,I,rfl,hQ⟩
def G8(neg:Bool)(d e:D):Option D:=if(j6 d && j6 e && decide (U3 d≤40) && (Z2 d || Z2 e))=true then some (.bl (if neg then !A7 d e else A7 d e))else none
theorem a2p{K:W.Frag}{cl:Str→Addr}{neg:Bool}:OpOk K cl (b0P K cl neg) (G8 neg):=by
 intro x y d e z H F Q s hx hy h q
 unfold G8 at h
 split at h
 ·rename_i c;cases h
  simp only[Bool.and_eq_true,Bool.or_eq_true,decide_eq_true_eq]at c
  obtain⟨F1,g1,s1,p1⟩:=hx.toRp s
  have hy1:Rb K cl F1 H e y:=by
   rcases hy with hy | ⟨a,xs,ds,e1,e2,ha,r⟩
   ·exact .inl (hy.mono g1)
   ·exact .inr ⟨a,xs,ds,e1,e2,ha,r.mono g1⟩
  obtain⟨F2,g2,s2,p2⟩:=hy1.toRp s1
  exact⟨F2,d,e,s2,p1.mono g2,p2,c.1.1.1,c.1.1.2,c.1.2,c.2,q _ H F (.refl s) (by simp only[Rp])⟩
 ·cases h
mutual
theorem a6a:∀(d:D),j6 d=true→A7 d d=true
 | .tup ds,h=>by simp only[j6]at h;simp only[A7];exact a2q ds h
 | .lst ds,h=>by simp only[j6]at h;simp only[A7];exact a2q ds h
 | .non,_=>by simp[A7,V1]
 | .bl _,_=>by simp[A7,V1]
 | .int _,_=>by simp[A7,V1]
 | .str _,_=>by simp[A7,V1]
 | .ty _,h=>by simp[j6,t9]at h
 | .cls _,h=>by simp[j6,t9]at h
 | .scr _,h=>by simp[j6,t9]at h
 | .exc _,h=>by simp[j6,t9]at h
 | .obj _ _ _,h=>by simp[j6,t9]at h
 | .dic _ _,h=>by simp[j6,t9]at h
theorem a2q:∀(ds:List D),G4 ds=true→P6 ds ds=true
 | [],_=>by simp[P6]
 | d::ds,h=>by
  simp only[G4,Bool.and_eq_true]at h
  simp only[P6]
  rw[a6a d h.1,a2q ds h.2];rfl
end
theorem a44{d:D}(neg:Bool)(h1:j6 d=true)(h2:U3 d≤40)(h3:Z2 d=true):G8 neg d d=some (.bl (!neg)):=by
 unfold G8
 rw[if_pos (by simp[h1,h2,h3]),a6a d h1]
 cases neg<;>rfl
theorem a6L{α:Type}{f:α→D}{l:List α}(h:∀a∈l,j6 (f a)=true):G4 (l.map f)=true:=by
 induction l with
 | nil=>rfl
 | cons a l ih =>
  simp only[List.map_cons,G4,Bool.and_eq_true]
  exact⟨h a List.mem_cons_self,ih fun b hb=>h b (List.mem_cons_of_mem _ hb)⟩
theorem a9D{α:Type}{f:α→D}{l:List α}{n:Nat}(h:∀a∈l,U3 (f a)≤n):P7 (l.map f)≤n:=by
 induction l with
 | nil=>simp[P7]
 | cons a l ih =>
  simp only[List.map_cons,P7]
  have:=h a List.mem_cons_self
  have:=ih fun b hb=>h b (List.mem_cons_of_mem _ hb)
  omega
section
variable {K:W.Frag}{cl:Str→Addr}{E:XK}{σ:St}{H F:Hp}{env:DE}{k:Nat}
def b58(K:W.Frag)(cl:Str→Addr)(E:XK)(a:Addr)(t:TS)(f:SF):Prop:=∀(N:Ends) σ H env F,Rel K cl σ H F env→(∃cls,F a=some (a71 a cls none))→Cs K cl E (f env) σ H F env N→t N σ H
theorem RfS.x{a:Addr}{t:TS}{f:SF}(h:RfS K cl E t f):b58 K cl E a t f:=fun N σ H env F R _ c=>h N σ H env F R c
end
def a1c:Sl→Sl
 | .ow ds=>.fz (.lst ds)
 | .hd ds=>.fz (.lst ds)
 | .od ks ds=>.fz (.dic ks ds)
 | .hk ks ds=>.fz (.dic ks ds)
 | s=>s
def Q8:DE→DE
 | []=>[]
 | s::e=>a1c s::Q8 e
mutual
def noL:D→Bool
 | .lst _=>false
 | .scr _=>false
 | .exc _=>false
 | .obj _ _ _=>false
 | .dic _ _=>false
 | .tup ds=>noLs ds
 | _=>true
def noLs:List D→Bool
 | []=>true
 | d::ds=>noL d && noLs ds
end
def N5(σ:St)(env:DE)(b:Addr):Prop:=(∃j,Mu env j∧σ[j]? = some (some (.ref b)))∨∃(j:Nat) (s:Sl) (ks:DK) (ds:List D),env[j]? = some s∧R8 s ks ds∧σ[j]? = some (some (.ref b))
def a4x(o:HO):Prop:=(∃xs,o=.lst xs)∨∃ks xs,o=X0 ks xs
theorem a4y:∀(e:DE),Q8 e=e.map a1c
 | []=>rfl
 | s::e=>by rw[Q8,a4y e];rfl
section
variable {K:W.Frag}{cl:Str→Addr}{E:XK}{σ:St}{H F F1 H' F' F2:Hp}{env:DE}
mutual
theorem Rp.noL(g:∀b o,F' b=some o→¬a4x o→F2 b=some o):∀(d:D) (v:V),L2.noL d=true→Rp K cl F' d v→Rp K cl F2 d v
 | .non,_,_,h=>by simpa only[Rp]using h
 | .bl _,_,_,h=>by simpa only[Rp]using h
 | .int _,_,_,h=>by simpa only[Rp]using h
 | .str _,_,_,h=>by simpa only[Rp]using h
 | .ty _,_,_,h=>by simpa only[Rp]using h
 | .cls _,_,_,h=>by simpa only[Rp]using h
 | .tup ds,v,n,h=>by
  simp only[Rp]at h ⊢
  obtain⟨a,xs,e,h1,h2⟩:=h
  exact⟨a,xs,e,g _ _ h1 (fun z=>by rcases z with⟨_,z⟩ | ⟨ks,_,z⟩;exact nomatch z;cases ks<;>exact nomatch z),Rps.noL g ds xs (by simpa only[L2.noL]using n) h2⟩
 | .lst ds,v,n,h=>by simp[L2.noL]at n
 | .scr ns,v,n,h=>by simp[L2.noL]at n
 | .exc c,v,n,h=>by simp[L2.noL]at n
 | .obj _ _ _,v,n,h=>by simp[L2.noL]at n
 | .dic _ _,v,n,h=>by simp[L2.noL]at n
theorem Rps.noL(g:∀b o,F' b=some o→¬a4x o→F2 b=some o):∀(ds:List D) (vs:List V),L2.noLs ds=true→Rps K cl F' ds vs→Rps K cl F2 ds vs
 | [],_,_,h=>by simpa only[Rps]using h
 | d::ds,vs,n,h=>by
  simp only[Rps]at h ⊢
  simp only[L2.noLs,Bool.and_eq_true]at n
  obtain⟨v,r,e,h1,h2⟩:=h
  exact⟨v,r,e,Rp.noL g d v n.1 h1,Rps.noL g ds r n.2 h2⟩
end
theorem a2Q{j:Nat}{s:Sl}(h:(Q8 env)[j]? = some s):∃s0,env[j]? = some s0∧s=a1c s0:=by
 rw[a4y,List.getElem?_map]at h
 cases q:env[j]? with
 | none=>rw[q]at h;cases h
 | some s0=>rw[q]at h;exact⟨s0,rfl,(Option.some.inj h).symm⟩
theorem a6b{j:Nat}:¬Mu (Q8 env) j:=fun⟨ds,q⟩=>by
 rcases q with q | q
 ·obtain⟨s0,_,e⟩:=a2Q q;cases s0<;>cases e
 ·obtain⟨s0,_,e⟩:=a2Q q;cases s0<;>cases e
theorem a7t{j:Nat}{s:Sl}{ks:DK}{ds:List D}(h:(Q8 env)[j]? = some s):¬R8 s ks ds:=fun d=>by
 obtain⟨s0,_,e⟩:=a2Q h
 cases s0<;> (subst e;exact d)
theorem a4z(R:Rel K cl σ H F env):∃F1,Rel K cl σ H F1 (Q8 env)∧(∀b,N5 σ env b→∃o,a4x o∧F1 b=some o∧H b=some o)∧∀b,¬N5 σ env b→F1 b=F b:=by
 classical
 have hF:∀b,N5 σ env b→F b=none∧∃o,a4x o∧H b=some o:=fun b w=>by
  rcases w with⟨j,⟨ds,q⟩,e⟩ | ⟨j,s,ks,ds,q,d,e⟩
  ·obtain⟨a,xs,e1,h1,f1,_⟩:=R.mu j ds q
   rw[e]at e1;cases e1
   exact⟨f1,_,.inl ⟨xs,rfl⟩,h1⟩
  ·obtain⟨a,xs,e1,h1,f1,_⟩:=R.od.at_ j s ks ds q d
   rw[e]at e1;cases e1
   exact⟨f1,_,.inr ⟨ks,xs,rfl⟩,h1⟩
 have sF:Same F (fun b=>if N5 σ env b then H b else F b):=fun b o q=>by
  show(if N5 σ env b then H b else F b)=some o
  rw[if_neg (fun w=>by rw[(hF b w).1]at q;cases q)];exact q
 refine⟨fun b=>if N5 σ env b then H b else F b,⟨fun b o q=>?_,by rw[a4y,List.length_map];exact R.len,fun i d q=>?_,fun i ds q=>absurd ⟨ds,q⟩ a6b,fun i j a hi=>absurd hi a6b,.none fun _ _ _ _ h=>a7t h⟩,fun b w=>?_,fun b w=>if_neg w⟩
 ·try dsimp only at q
  split at q
  ·exact q
  ·exact R.sub _ _ q
 ·obtain⟨s0,e0,e1⟩:=a2Q q
  cases s0 with
  | no=>cases e1
  | fz d'=>cases e1;obtain⟨v,e2,r⟩:=R.fz i _ e0;exact⟨v,e2,r.mono sF⟩
  | ow ds =>
   cases e1
   obtain⟨a,xs,e2,h2,f2,r⟩:=R.mu i ds (.inl e0)
   refine⟨_,e2,?_⟩
   simp only[Rp]
   refine⟨a,xs,rfl,?_,r.mono sF⟩
   rw[if_pos (.inl ⟨i,⟨ds,.inl e0⟩,e2⟩)];exact h2
  | hd ds =>
   cases e1
   obtain⟨a,xs,e2,h2,f2,r⟩:=R.mu i ds (.inr e0)
   refine⟨_,e2,?_⟩
   simp only[Rp]
   refine⟨a,xs,rfl,?_,r.mono sF⟩
   rw[if_pos (.inl ⟨i,⟨ds,.inr e0⟩,e2⟩)];exact h2
  | od ks ds =>
   cases e1
   obtain⟨a,xs,e2,h2,f2,hn,r⟩:=R.od.at_ i _ ks ds e0 ⟨rfl,rfl⟩
   refine⟨_,e2,?_⟩
   simp only[Rp]
   refine⟨a,xs,rfl,?_,hn,r.mono sF⟩
   rw[if_pos (.inr ⟨i,_,ks,ds,e0,⟨rfl,rfl⟩,e2⟩)];exact h2
  | hk ks ds =>
   cases e1
   obtain⟨a,xs,e2,h2,f2,hn,r⟩:=R.od.at_ i _ ks ds e0 ⟨rfl,rfl⟩
   refine⟨_,e2,?_⟩
   simp only[Rp]
   refine⟨a,xs,rfl,?_,hn,r.mono sF⟩
   rw[if_pos (.inr ⟨i,_,ks,ds,e0,⟨rfl,rfl⟩,e2⟩)];exact h2
 ·obtain⟨o,i,h⟩:=(hF b w).2
  exact⟨o,i,by(try dsimp only);rw[if_pos w];exact h,h⟩
theorem a0N(R:Rel K cl σ H F env)(o1:∀b,N5 σ env b→∃o,a4x o∧F1 b=some o∧H b=some o)(o2:∀b,¬N5 σ env b→F1 b=F b)(x:FX σ H F1 (Q8 env) H' F') :
  ∃F2,Frm σ H F env σ H' F2 env∧Rel K cl σ H' F2 env∧(∀b o,F' b=some o→¬a4x o→F2 b=some o)∧∀b,F' b=none→F2 b=none:=by
 classical
 have nw:∀b,¬Ow σ (Q8 env) b:=fun b ⟨j,s,oo,q,_⟩=>by
  cases s with
  | ow ds=>exact a6b ⟨ds,.inl q⟩
  | od ks ds=>exact a7t q (ks:=ks) (ds:=ds) ⟨rfl,rfl⟩
  | _=>exact oo
 have hF:∀b,N5 σ env b→F b=none:=fun b w=>by
  rcases w with⟨j,⟨ds,q⟩,e⟩ | ⟨j,s,ks,ds,q,d,e⟩
  ·obtain⟨a,xs,e1,h1,f1,_⟩:=R.mu j ds q
   rw[e]at e1;cases e1
   exact f1
  ·obtain⟨a,xs,e1,h1,f1,_⟩:=R.od.at_ j s ks ds q d
   rw[e]at e1;cases e1
   exact f1
 have sF:Same F (fun b=>if N5 σ env b then none else F' b):=fun b o q=>by
  have w:¬N5 σ env b:=fun w=>by rw[hF b w]at q;cases q
  show(if N5 σ env b then none else F' b)=some o
  rw[if_neg w]
  exact x.fz _ _ (by rw[o2 b w];exact q)
 have kept:∀b o,N5 σ env b→H b=some o→H' b=some o:=fun b xs w h=>by
  obtain⟨ys,_,f,h2⟩:=o1 b w
  rw[h]at h2;cases h2
  exact x.sub _ _ (x.fz _ _ f)
 refine⟨fun b=>if N5 σ env b then none else F' b,⟨sF,fun b o hb fb w=>?_,fun _ _ h=>⟨h,rfl⟩,x.dom⟩,⟨fun b o q=>?_,R.len,fun i d q=>?_,fun i ds q=>?_,R.inj,R.od.own (fun i s ks ds a xs h d e hH hF=>⟨kept a _ (.inr ⟨i,s,ks,ds,h,d,e⟩) hH,by(try dsimp only);rw[if_pos (.inr ⟨i,s,ks,ds,h,d,e⟩)]⟩) sF⟩,fun b o q nl=>?_,fun b q=>?_⟩
 ·by_cases ww:N5 σ env b
  ·obtain⟨ys,_,f,h2⟩:=o1 b ww
   refine⟨by rw[hb]at h2;cases h2;exact kept b _ ww hb,by(try dsimp only);rw[if_pos ww],w⟩
  ·obtain⟨h1,f1⟩:=x.hid b o hb (by rw[o2 b ww];exact fb) (nw b)
   exact⟨h1,by(try dsimp only);rw[if_neg ww];exact f1,w⟩
 ·try dsimp only at q
  split at q
  ·cases q
  ·exact x.sub _ _ q
 ·obtain⟨v,e,r⟩:=R.fz i d q;exact⟨v,e,r.mono sF⟩
 ·obtain⟨a,xs,e,h1,f1,r⟩:=R.mu i ds q
  have w:N5 σ env a:=.inl ⟨i,⟨ds,q⟩,e⟩
  exact⟨a,xs,e,kept a _ w h1,by(try dsimp only);rw[if_pos w],r.mono sF⟩
 ·dsimp only
  rw[if_neg (fun w=>by obtain⟨ys,i,f,_⟩:=o1 b w;rw[x.fz _ _ f]at q;cases q;exact nl i)];exact q
 ·dsimp only
  split
  ·rfl
  ·exact q
def a1Q(f:ZF):ZF:=fun e=>match f (Q8 e)with
 | some (.ok d _)=>if noL d=true then some (.ok d e)else none
 | some (.ex c)=>some (.ex c)
 | none=>none
def a1R(f:BF):BF:=fun e=>match f (Q8 e)with
 | some (.ok d _)=>some (.ok d e)
 | some (.ex c)=>some (.ex c)
 | none=>none
theorem a6c{t:TE}{f:ZF}(hf:w8 K cl E t f):w8 K cl E t (a1Q f):=by
 intro σ H Q env F R h
 obtain⟨F1,R1,o1,o2⟩:=a4z R
 refine hf σ H Q (Q8 env) F1 R1 ?_
 unfold a1Q at h
 split at h
 ·rename_i d e2 q
  rw[q]
  intro b H' F' fr R' p
  split at h
  ·rename_i n
   obtain⟨F2,fr2,R2,g,_⟩:=a0N R o1 o2 (fr.toFX R'.sub)
   exact h b H' F2 fr2 R2 (Rp.noL g d b n p)
  ·exact h.elim
 ·rename_i c q
  rw[q]
  intro H' F' x
  obtain⟨F2,fr2,R2,_⟩:=a0N R o1 o2 x
  exact h H' F2 (fr2.toFX R2.sub)
 ·exact h.elim
theorem a6d{t:TT}{f:BF}(hf:U9 K cl E t f):U9 K cl E t (a1R f):=by
 intro σ H Q env F R h
 obtain⟨F1,R1,o1,o2⟩:=a4z R
 refine hf σ H Q (Q8 env) F1 R1 ?_
 unfold a1R at h
 split at h
 ·rename_i d e2 q
  rw[q]
  intro b H' F' fr R' p
  obtain⟨F2,fr2,R2,g,_⟩:=a0N R o1 o2 (fr.toFX R'.sub)
  exact h b H' F2 fr2 R2 p
 ·rename_i c q
  rw[q]
  intro H' F' x
  obtain⟨F2,fr2,R2,_⟩:=a0N R o1 o2 x
  exact h H' F2 (fr2.toFX R2.sub)
 ·exact h.elim
def bLd(r:Option (R Bool))(e:DE):Option (R Bool):=match r with
 | some (.ok d _)=>some (.ok d e)
 | some (.ex c)=>some (.ex c)
 | none=>none
def zLd(r:Option (R D))(e:DE):Option (R D):=match r with
 | some (.ok d _)=>if noL d=true then some (.ok d e)else none
 | some (.ex c)=>some (.ex c)
 | none=>none
theorem b0Q(f:BF)(e:DE):a1R f e=bLd (f (Q8 e)) e:=rfl
theorem b0R(f:ZF)(e:DE):a1Q f e=zLd (f (Q8 e)) e:=rfl
theorem b4A(d:Bool)(e e2:DE):bLd (some (.ok d e2)) e=some (.ok d e):=rfl
theorem b4B(c:Str)(e:DE):bLd (some (.ex c)) e=some (.ex c):=rfl
theorem b4C(d:D)(e e2:DE):zLd (some (.ok d e2)) e=if noL d=true then some (.ok d e)else none:=rfl
theorem b4D(c:Str)(e:DE):zLd (some (.ex c)) e=some (.ex c):=rfl
variable {k:Nat}
end
def un:Option D→Sl
 | none=>.no
 | some d=>.fz d
def a0r:Sl→Bool
 | .hd _=>false
 | _=>true
def okS:Option Sl→Bool
 | none=>false
 | some s=>a0r s
theorem b0S(o:Option D):a0r (un o)=true:=by cases o<;>rfl
theorem b0T:a0r .no=true:=rfl
theorem b0U(d:D):a0r (.fz d)=true:=rfl
theorem b0V(d:List D):a0r (.ow d)=true:=rfl
theorem b0W(d:List D):a0r (.hd d)=false:=rfl
theorem b0X(s:Sl):okS (some s)=a0r s:=rfl
theorem b0Y:okS none=false:=rfl
theorem b23:a1c .no=.no:=rfl
theorem b24(d:D):a1c (.fz d)=.fz d:=rfl
theorem b25(d:List D):a1c (.ow d)=.fz (.lst d):=rfl
theorem b26(d:List D):a1c (.hd d)=.fz (.lst d):=rfl
theorem b4E(i:Nat)(s:Sl)(e:DE):put i s e=if okS e[i]? = true then some (.nx (e.set i s))else none:=by
 unfold put okS
 cases e[i]? with
 | none=>rfl
 | some t=>cases t<;>rfl
theorem b0Z(i:Nat)(d:D)(e:DE):g9 i d e=if okS e[i]? = true then some (e.set i (.fz d))else none:=by
 unfold g9 okS
 cases e[i]? with
 | none=>rfl
 | some t=>cases t<;>rfl
theorem b27(o:Option D):a1c (un o)=un o:=by cases o<;>rfl
theorem b00:a4o []=true:=rfl
theorem a9E(s:Sl)(e:DE):a4o (s::e)=(a0r s && a4o e):=by cases s<;>rfl
def K3(r:Option RS):Option RS:=match r with
 | some (.ct e)=>some (.nx e)
 | r=>r
theorem b28(e:DE):K3 (some (.nx e))=some (.nx e):=rfl
theorem b29(e:DE):K3 (some (.ct e))=some (.nx e):=rfl
theorem b2_(d:D):K3 (some (.rt d))=some (.rt d):=rfl
theorem b3a(c:Str):K3 (some (.ex c))=some (.ex c):=rfl
theorem b3b(d:List (List D)):K3 (some (.rz d))=some (.rz d):=rfl
theorem b3c(d:List D):K3 (some (.ro d))=some (.ro d):=rfl
theorem a9F{r:Option RS}{k:SF}:a1b r k=a1b (K3 r) k:=by
 cases r with
 | none=>rfl
 | some r=>cases r<;>rfl
theorem a6e{α:Type}{b:GF}{body:SF}(f:α→D)(I:List α→DE→Prop)(l0:List α):∀(l pre:List α) (e:DE),l0=pre++l→I pre e→(∀pre x post e,l0=pre++x::post→I pre e→∃e2,K3 (a8p (b (f x) e) body)=some (.nx e2)∧I (pre++[x]) e2)→∃e',B9 b body (l.map f) e=some (.nx e')∧I l0 e'
 | [],pre,e,hl,h,_=>⟨e,rfl,by rw[hl,List.append_nil];exact h⟩
 | x::l,pre,e,hl,h,hs=>by
  obtain⟨e2,h2,h3⟩:=hs pre x l e hl h
  obtain⟨e',h4,h5⟩:=a6e f I l0 l (pre++[x]) e2 (by rw[hl,List.append_assoc];rfl) h3 hs
  refine⟨e',?_,h5⟩
  rw[List.map_cons,R9]
  cases q:b (f x) e with
  | none=>rw[q]at h2;cases h2
  | some e1 =>
   rw[q]at h2
   have h2:K3 (body e1)=some (.nx e2):=h2
   rw[D2,a9F,h2];exact h4
theorem a0w{α:Type}{b:GF}{body:SF}(f:α→D)(I:List α→DE→Prop)(l:List α)(e:DE)(h:I [] e)(hs:∀pre x post e,l=pre++x::post→I pre e→∃e2,K3 (a8p (b (f x) e) body)=some (.nx e2)∧I (pre++[x]) e2):∃e',B9 b body (l.map f) e=some (.nx e')∧I l e' :=
 a6e f I l l [] e rfl h hs
theorem a3k{α:Type}{b:GF}{c:BF}{el:ZF}{ec eo:DE}(f:α→D)(g:α→D)(q:α→Bool):∀(l:List α) (acc:List D),acc.length+l.length≤sizeLine→(∀x∈l,∃e1 e2,b (f x) ec=some e1∧c e1=some (.ok (q x) e2)∧(q x=true→∃e3,el e2=some (.ok (g x) e3)))→E5 b c el ec eo (l.map f) acc=some (.ok (acc++(l.filter q).map g) eo)
 | [],acc,_,_=>by simp only[List.filter_nil,List.map_nil,List.append_nil];rfl
 | x::l,acc,hl,h=>by
  obtain⟨e1,e2,h1,h2,h3⟩:=h x List.mem_cons_self
  have hl':acc.length<sizeLine:=by rw[List.length_cons]at hl;omega
  rw[List.map_cons,a33,h1,a43,h2,a3S]
  by_cases z:q x=true
  ·obtain⟨e3,h4⟩:=h3 z
   rw[if_pos z,h4,a3S,if_pos hl',a3k f g q l (acc++[g x]) (by rw[List.length_append,List.length_cons,List.length_nil];rw[List.length_cons]at hl;omega) (fun y m=>h y (List.mem_cons_of_mem _ m)),List.filter_cons_of_pos z,List.map_cons,List.append_assoc];rfl
  ·rw[if_neg z,a3k f g q l acc (by rw[List.length_cons]at hl;omega) (fun y m=>h y (List.mem_cons_of_mem _ m)),List.filter_cons_of_neg z]
theorem b3d{ds:List D}{v u:Int}(h:0≤v)(h2:v≤u):a4s ds (some v) (some u)=(ds.drop v.toNat).take (u-v).toNat:=by
 unfold a4s
 obtain⟨n,rfl⟩:=Int.eq_ofNat_of_zero_le h
 obtain⟨m,rfl⟩:=Int.eq_ofNat_of_zero_le (Int.le_trans h h2)
 rw[HT.sIx_nat,HT.sIx_nat,Int.toNat_natCast]
 have e:((m:Int)-(n:Int)).toNat=m-n:=by omega
 rw[e]
 by_cases z:n≤ds.length
 ·rw[Nat.min_eq_left z]
  by_cases y:m≤ds.length
  ·rw[Nat.min_eq_left y]
  ·rw[Nat.min_eq_right '!',List.take_of_length_le (by rw[List.length_drop];exact Nat.le_refl _),List.take_of_length_le (by rw[List.length_drop];omega)]
 ·rw[List.drop_of_length_le (show ds.length≤min n ds.length by omega),List.drop_of_length_le '!',List.take_nil,List.take_nil]
theorem b3e(d:D)(n:String):a4p [d,.ty n]=a2O n d:=by unfold a4p a2O;rfl
theorem Y0{n k:Nat}(h:k<n):Q9 n (k:Int)=some k:=by
 unfold Q9;rw[if_pos '!',if_pos '!',Int.toNat_natCast]
section
variable {K:W.Frag}{cl:Str→Addr}{E:XK}
theorem a45:∀{F:Hp} {ds:List D} {vs:List V} (n:Nat),Rps K cl F ds vs→Rps K cl F (ds.eraseIdx n) (vs.eraseIdx n)
 | F,[],vs,n,h=>by rw[h.inv0];exact .nil
 | F,d::ds,vs,0,h=>by obtain⟨v,r,rfl,h1,h2⟩:=h.inv;exact h2
 | F,d::ds,vs,n+1,h=>by obtain⟨v,r,rfl,h1,h2⟩:=h.inv;exact .cons h1 (a45 n h2)
end
section
variable {K:W.Frag}{cl:Str→Addr}{E:XK}
def a0O(i j:Nat):SF:=fun e=>match e[i]?,e[j]? with
 | some (.ow d1),some (.ow d2)=>if i=j then none else some (.rz [d1,d2])
 | _,_=>none
theorem b4F{F' H':Hp}{nw:Addr→Prop}{d1 d2:List D}{a1 a2:Addr}{xs1 xs2:List V}(n:a1≠a2)(h1:H' a1=some (.lst xs1))(f1:F' a1=none)(n1:nw a1)(r1:Rps K cl F' d1 xs1)(h2:H' a2=some (.lst xs2))(f2:F' a2=none)(n2:nw a2)(r2:Rps K cl F' d2 xs2):Rz K cl F' H' nw [d1,d2] [a1,a2]:=by
 refine⟨by simp[n],rfl,fun k a ds e1 e2=>?_⟩
 match k with
 | 0=>cases e1;cases e2;exact⟨xs1,h1,f1,n1,r1⟩
 | 1=>cases e1;cases e2;exact⟨xs2,h2,f2,n2,r2⟩
 | k+2=>simp at e1
theorem b01{i j:Nat}:RfS K cl E (a5z (a7V (L7 (D7 i) (L7 (D7 j) a0C)))) (a0O i j):=by
 intro N σ H env F R h
 unfold a0O at h
 split at h
 ·rename_i d1 d2 q1 q2
  split at h
  ·exact h.elim
  ·rename_i nij
   obtain⟨a1,xs1,e1,hH1,hF1,r1⟩:=R.mu i d1 (.inl q1)
   obtain⟨a2,xs2,e2,hH2,hF2,r2⟩:=R.mu j d2 (.inl q2)
   refine⟨_,e1,_,e2,by show 2≤2 ^ 24;decide,fun p hp=>?_⟩
   have n12:a1≠a2:=fun z=>nij (R.inj i j a1 ⟨d1,.inl q1⟩ ⟨d2,.inl q2⟩ e1 (by rw[z];exact e2))
   have np:∀a o,H a=some o→a≠p:=fun a o ha z=>by rw[z,hp]at ha;cases ha
   refine h p [a1,a2] _ F ⟨Same.refl _,fun b o hb=>by rw[g7 (np b o (R.sub _ _ hb))];exact R.sub _ _ hb,fun a o ha fa _=>⟨by rw[g7 (np a o ha)];exact ha,fa⟩,fun a ha=>?_⟩ hp j8 (R.sub.free hp) ?_
   ·by_cases z:a=p
    ·rw[z,j8]at ha;cases ha
    ·rw[g7 z]at ha;exact ha
   ·exact b4F n12 (by rw[g7 (np _ _ hH1)];exact hH1) hF1 (fun o _=>⟨i,.ow d1,True.intro,q1,e1⟩) r1 (by rw[g7 (np _ _ hH2)];exact hH2) hF2 (fun o _=>⟨j,.ow d2,True.intro,q2,e2⟩) r2
 ·exact h.elim
end
open Classical in
section
variable {K:W.Frag}{cl:Str→Addr}{E:XK}
theorem a6f:∀a b:List Int,HT.lexLt a b=false→HT.lexLt b a=false→a=b
 | [],[],_,_=>rfl
 | [],_::_,h,_=>by cases h
 | _::_,[],_,h=>by cases h
 | x::xs,y::ys,h1,h2=>by
  rw[HT.lexLt_cons]at h1 h2
  by_cases e:x=y
  ·subst e
   rw[if_pos rfl]at h1 h2
   rw[a6f xs ys h1 h2]
  ·rw[if_neg e]at h1
   rw[if_neg (Ne.symm e)]at h2
   have:=of_decide_eq_false h1
   have:=of_decide_eq_false h2
   exact absurd (show x=y by omega) e
theorem a6g{F:Hp}{ds:List D}{xs:List V}(r:Rps K cl F ds xs):∀(p:List Nat),(∀i∈p,i<ds.length)→Rps K cl F (p.map fun i=>ds.getD i .non) (p.map fun i=>xs.getD i .non)
 | [],_=>.nil
 | i::p,h=>by
  have hi:=h i (by simp)
  obtain⟨v,e,pv⟩:=r.get (List.getElem?_eq_getElem hi)
  refine .cons ?_ (a6g r p fun j hj=>h j (by simp[hj]))
  show Rp K cl F (ds.getD i .non) (xs.getD i .non)
  have e1:ds.getD i .non=ds[i]:=by simp[hi]
  have e2:xs.getD i .non=v:=by simp[e]
  rw[e1,e2];exact pv
end
section
variable {K:W.Frag}{cl:Str→Addr}{E:XK}{σ:St}{H F:Hp}{env:DE}
abbrev HF:=Str→SF
def hN:HF:=fun _ _=>none
end
section
variable {K:W.Frag}{cl:Str→Addr}{E:XK}{σ:St}{H F:Hp}{env:DE}
theorem Rps.lookup{f:Str}:∀{ns:List Str} {ds:List D} {xs:List V} {z:D},Rps K cl F ds xs→(ns.zip ds).lookup f=some z→∃v,(ns.zip xs).lookup f=some v∧Rp K cl F z v
 | [],ds,xs,z,_,h=>by simp at h
 | n::ns,[],xs,z,r,h=>by simp at h
 | n::ns,d::ds,xs,z,r,h=>by
  obtain⟨v,ys,rfl,p,r'⟩:=r.inv
  rw[List.zip_cons_cons,List.lookup_cons]at h ⊢
  by_cases q:(f == n)=true
  ·rw[q]at h ⊢;cases h;exact⟨v,rfl,p⟩
  ·rw[Bool.not_eq_true _ |>.mp q]at h ⊢;exact r'.lookup h
end
structure GrM(a:Addr)(H F H' F':Hp):Prop where
 fz:Same F F'
 sub:Same F' H'
 hid:∀b o,b≠a→H b=some o→F b=none→H' b=some o∧F' b=none
 dom:∀b,H' b=none→H b=none
structure Bs(a:Addr)(σ:St)(env:DE)(H0 F0 H F:Hp):Prop where
 fz:Same F0 F
 hid:∀b o,b≠a→H0 b=some o→F0 b=none→H b=some o∧F b=none∧¬Ow σ env b
 dom:∀b,H b=none→H0 b=none
section
variable {K:W.Frag}{cl:Str→Addr}{E:XK}{σ:St}{H F:Hp}{env:DE}
theorem Bs.frm{a:Addr}{ds:List D}{σ':St}{env':DE}{H0 F0 H' F':Hp}(B:Bs a σ env H0 F0 H F)(f:Frm σ H F env σ' H' F' env'):Bs a σ' env' H0 F0 H' F' :=
 ⟨B.fz.trans f.fz,fun b o n h g=>by obtain⟨h1,f1,w1⟩:=B.hid b o n h g;exact f.hid b o h1 f1 w1,fun b h=>B.dom b (f.dom b h)⟩
theorem Bs.gr{a:Addr}{H0 F0:Hp}(B:Bs a σ env H0 F0 H F)(s:Same F H):GrM a H0 F0 H F :=
 ⟨B.fz,s,fun b o n h g=>by obtain⟨h1,f1,_⟩:=B.hid b o n h g;exact⟨h1,f1⟩,B.dom⟩
end
abbrev Rw0:=List Int×List D
def a4A(k:Rw0):List Rw0→List Rw0
 | []=>[k]
 | l::r=>if HT.lexLt l.1 k.1 then l::a4A k r else k::l::r
def a1S:List Rw0→List Rw0
 | []=>[]
 | k::r=>a4A k (a1S r)
theorem a2r(k:Rw0):∀r:List Rw0,(a4A k r).Perm (k::r)
 | []=>.refl _
 | l::r=>by
  unfold a4A
  split
  ·exact((a2r k r).cons l).trans (List.Perm.swap k l r)
  ·exact .refl _
theorem a1T:∀r:List Rw0,(a1S r).Perm r
 | []=>.refl _
 | k::r=>(a2r k _).trans ((a1T r).cons k)
theorem a25(k:Rw0):∀r:List Rw0,r.Pairwise (fun a b=>HT.lexLt b.1 a.1=false)→(a4A k r).Pairwise (fun a b=>HT.lexLt b.1 a.1=false)
 | [],_=>List.pairwise_singleton _ _
 | l::r,h=>by
  rw[List.pairwise_cons]at h
  unfold a4A
  split
  ·rename_i c
   rw[List.pairwise_cons]
   refine⟨fun b hb=>?_,a25 k r h.2⟩
   rcases List.mem_cons.mp ((a2r k r).mem_iff.mp hb)with rfl | hb
   ·exact a4m _ _ c
   ·exact h.1 b hb
  ·rename_i c
   rw[Bool.not_eq_true]at c
   rw[List.pairwise_cons]
   refine⟨fun b hb=>?_,by rw[List.pairwise_cons];exact h⟩
   rcases List.mem_cons.mp hb with rfl | hb
   ·exact c
   ·exact a5Q _ _ _ c (h.1 b hb)
theorem a2s:∀r:List Rw0,(a1S r).Pairwise (fun a b=>HT.lexLt b.1 a.1=false)
 | []=>.nil
 | k::r=>a25 k _ (a2s r)
theorem a1l:∀{a b:List Rw0},a.Perm b→a.Pairwise (fun a b=>HT.lexLt b.1 a.1=false)→b.Pairwise (fun a b=>HT.lexLt b.1 a.1=false)→a.Pairwise (fun a b=>a.1≠b.1)→a=b
 | [],b,h,_,_,_=>h.symm.eq_nil.symm▸rfl
 | x::a,[],h,_,_,_=>absurd h.eq_nil nofun
 | x::a,y::b,h,ha,hb,hd=>by
  rw[List.pairwise_cons]at ha hb hd
  have e:x=y:=by
   have mx:x∈y::b:=h.mem_iff.mp (by simp)
   have my:y∈x::a:=h.mem_iff.mpr (by simp)
   rcases List.mem_cons.mp mx with e | mx
   ·exact e
   ·rcases List.mem_cons.mp my with e | my
    ·exact e.symm
    ·exact absurd (a6f _ _ (hb.1 x mx) (ha.1 y my)) (hd.1 y my)
  subst e
  rw[a1l ((List.perm_cons x).mp h) ha.2 hb.2 hd.2]
section
variable {K:W.Frag}{cl:Str→Addr}{E:XK}
theorem b02{F' H':Hp}{nw:Addr→Prop}{d1 d2 d3:List D}{a1 a2 a3:Addr}{xs1 xs2 xs3:List V}(n:a1≠a2)(n':a1≠a3)(n'':a2≠a3)(h1:H' a1=some (.lst xs1))(f1:F' a1=none)(n1:nw a1)(r1:Rps K cl F' d1 xs1)(h2:H' a2=some (.lst xs2))(f2:F' a2=none)(n2:nw a2)(r2:Rps K cl F' d2 xs2)(h3:H' a3=some (.lst xs3))(f3:F' a3=none)(n3:nw a3)(r3:Rps K cl F' d3 xs3):Rz K cl F' H' nw [d1,d2,d3] [a1,a2,a3]:=by
 refine⟨by simp[n,n',n''],rfl,fun k a ds e1 e2=>?_⟩
 match k with
 | 0=>cases e1;cases e2;exact⟨xs1,h1,f1,n1,r1⟩
 | 1=>cases e1;cases e2;exact⟨xs2,h2,f2,n2,r2⟩
 | 2=>cases e1;cases e2;exact⟨xs3,h3,f3,n3,r3⟩
 | k+3=>simp at e1
end
def okK(ks:List (List Int)):Bool:=decide ks.Nodup && ks.all fun k=>k.length == (ks.headD []).length
section
variable {K:W.Frag}{cl:Str→Addr}{E:XK}
theorem b03{env:DE}{i:Nat}{d:D}(n:NoOw env):NoOw (env.set i (.fz d)):=by
 intro j ds oo q
 by_cases z:i=j
 ·subst z
  by_cases hi:i<env.length
  ·rw[List.getElem?_set_self hi]at q;cases q;exact oo
  ·rw[List.getElem?_eq_none (by rw[List.length_set];omega)]at q;cases q
 ·rw[List.getElem?_set_ne z]at q;exact n j ds oo q
theorem b1I{F H:Hp}:∀{ks:List (List Int)} {ys:List V},Same F H→Rps K cl F (ks.map fun k=>D.tup (k.map .int)) ys→(∀k∈ks,k≠[])→VPs K H ys ks
 | [],_,_,r,_=>by rw[r.inv0];trivial
 | k::ks,_,s,r,h=>by
  obtain⟨v,xs,rfl,p,r'⟩:=r.inv
  refine⟨?_,b1I s r' fun k' m=>h k' (List.mem_cons_of_mem _ m)⟩
  obtain⟨a,vs,rfl,hF,rv⟩:∃a vs,v=.ref a∧F a=some (.tup vs)∧Rps K cl F (k.map .int) vs:=by simpa only[Rp]using p
  have e:vs=k.map V.int:=Rps.ints rv
  subst e
  exact⟨a,[],rfl,by rw[List.append_nil];exact .of (s _ _ hF),h k List.mem_cons_self,fun r m=>by cases m⟩
end
section
variable {P:Program}{w:World}{K:W.Frag}{mg:Str→Option Value}{base:Heap}{cl:Str→Addr}{TB:List (Addr×Str)}
theorem Fun.okT{x qual:Str}{st:Stmt}{f:Addr}{fd:FuncData}{N ps:List Str}{k:Nat}{body:SF}(F:Fun K x qual st f fd)(S:FnScope N ps (d9 st))
  (hbody:∀(A:Around) (outer:List Env) (s:Shared) (H:Hp) (E:XK),TbAll TB H→Room k (A.deeper (envOfC qual (d9 st) s.heap.objs.size f fd.code)) →
   ∃t,PSs (U0 (A6 P w) P w K mg base N qual (d9 st) f fd.code A outer s H E) (k6 st) t∧RfS K cl E t body):FnOk P w K mg base (A6 P w) (k+1) f fd ps (spT TB (k8 K cl (fD N.length ps.length body))):=by
 obtain⟨oc,od,kV,doc,pm,an,cdv,ct,osl,rfl,lk,hcd⟩:=F.ex
 refine a3D lk hcd S (fun vs H Q E h=>a2N h.2) fun A outer s H vs Q E hr h=>?_
 obtain⟨t,h1,h2⟩:=hbody A outer s H E h.1 hr
 exact⟨t,h1,a0p h2 h.2⟩
variable {X:Cx}{k k':Nat}{x:Str}{ps:List Str}{sp:Sp}{E:XK}{e:Expr}{es:List Expr}{t:TA}{p pos:Pos}
theorem b3f(hT:TbAll TB X.H₀)(G:Own X.prog X.w X.K X.mg X.base k x ps (spT TB sp))(hr:Room k' X.A)(hk:k≤k')(hx:a1f (A6 X.prog X.w) X E)(ha:PA X (e::es) t)(hg:Gl X x:=by rfl)
  (hdb:(x == ("__debug__" : Str))=false:=by decide) (he:starEach (e::es) X.env=(false,eval e X.env)::starEach es X.env:=by rfl) (hpl:(backTo pos (starEach es X.env)).any (·.1)=false:=by rfl) :
  PE X (.Call (.Name x p) (e::es) [] pos) (Y9 sp [] E t):=by
 have ha':PA X (e::es) (fun σ H Q=>∃R:List V→Hp→Prop,t σ H R∧∀vs H1,R vs H1→TbAll TB H1→Q vs H1):=by
  intro pos pins s σ H Q I h
  obtain⟨R,h1,h2⟩:=h
  exact wpAny_mono (ha pos pins s σ H R I h1) (fun us s' ⟨vs,H',I',r,q⟩=>⟨vs,H',I',r,h2 _ _ q (hT.now I'.base)⟩) fun _ _ z=>z
 have:=t7 G hr hk hx ha' hg hdb he hpl (p:=p)
 intro pins s σ H Q I h
 exact this pins s σ H Q I ⟨_,h,fun vs H1 z hT'=>⟨hT',z⟩⟩
end
section
variable {P:Program}{w:World}{K:W.Frag}{mg:Str→Option Value}{base:Heap}{cl:Str→Addr}{TB:List (Addr×Str)}
theorem FunD.okT{x qual:Str}{st:Stmt}{dT f:Addr}{fd:FuncData}{N ps:List Str}{k:Nat}{body:SF}(F:FunD K x qual st dT f fd)(S:FnScope N ps (d9 st))
  (hbody:∀(A:Around) (outer:List Env) (s:Shared) (H:Hp) (E:XK),TbAll TB H→Room k (A.deeper (envOfC qual (d9 st) s.heap.objs.size f fd.code)) →
   ∃t,PSs (U0 (A6 P w) P w K mg base N qual (d9 st) f fd.code A outer s H E) (k6 st) t∧RfS K cl E t body):FnOk P w K mg base (A6 P w) (k+1) f fd ps (spT TB (k8 K cl (fD N.length ps.length body))):=by
 obtain⟨oc,od,kV,doc,pm,an,cdv,ct,osl,rfl,lk,hcd⟩:=F.ex
 refine a3D lk hcd S (fun vs H Q E h=>a2N h.2) fun A outer s H vs Q E hr h=>?_
 obtain⟨t,h1,h2⟩:=hbody A outer s H E h.1 hr
 exact⟨t,h1,a0p h2 h.2⟩
variable {X:Cx}{k k':Nat}{x:Str}{ps:List Str}{sp:Sp}{E:XK}{e:Expr}{es:List Expr}{t:TA}{p pos:Pos}{d:V}
theorem OwnD.own(G:OwnD P w K mg base k x ps sp d):Own P w K mg base k x ps sp:=by
 obtain⟨f,fd,du,F,b,bd,rd,kp,m⟩:=G.ex
 exact⟨f,fd,F,b,kp,m⟩
end
section
variable {K:W.Frag}{cl:Str→Addr}{E:XK}{k:Nat}
def a2t(i:Nat)(k:ZF):ZF:=fun e=>match look e i with
 | some (.lst _)=>bnd (k e) fun j e1=>match j,e1[i]? with
  | .int n,some (.ow ds)=>if 0≤n∧n<ds.length∧ds.length≤1000000 then(match ds[n.toNat]? with
   | some d=>some (.ok d (e1.set i (.ow (ds.eraseIdx n.toNat))))
   | none=>none)else none
  | _,_=>none
 | _=>none
theorem a9G{i:Nat}{u:TE}{k:ZF}(hk:w8 K cl E u k):w8 K cl E (tBM K "list" a86 (D7 i) (L7 u a0C)) (a2t i k):=by
 intro σ H Q env F R h
 unfold a2t at h
 split at h
 ·rename_i ds0 q
  obtain⟨a0,e0,ty⟩:=tyL R q
  refine⟨_,e0,ty,?_⟩
  refine hk σ H _ env F R ((Ct.bnd h P0).mono fun y H1 ⟨F1,e1,j,s1,R1,p1,h1⟩=>?_)
  split at h1
  ·rename_i n ds q1
   split at h1
   ·rename_i c
    split at h1
    ·rename_i d hd
     obtain⟨a,xs,e,hH,hF,r⟩:=R1.mu i ds (.inl q1)
     rw[e0]at e;cases e
     obtain⟨R3,f3⟩:=R1.change q1 e0 (a45 n.toNat r)
     have hy:y=.int n:=by have:=(show Rp K cl F1 (.int n) y from p1);simpa only[Rp]using this
     subst hy
     have hl:=r.length
     obtain⟨v,hv,p⟩:=r.get hd
     exact⟨_,xs,n,n.toNat,v,rfl,rfl,hH,by omega,by omega,seqIndex_of c.1 '!',hv,h1 v _ F1 f3 R3 p⟩
    ·exact h1.elim
   ·exact h1.elim
  ·exact h1.elim
 ·exact h.elim
end
def Y1(el:ZF)(ec:DE):List D→Option (List (List Int))
 | []=>some []
 | d::ds=>match el (ec.set 0 (.fz d))with
  | some (.ok (.tup es) _)=>(match a03 es with
   | some k=>if k≠[]then(Y1 el ec ds).map (k :: ·)else none
   | none=>none)
  | _=>none
def a1U(ks:List (List Int))(xs:List D):List Rw0:=(List.range xs.length).map fun(i:Nat)=>(ks.getD i [],[xs.getD i .non])
def a35(js:List Nat)(f:AF)(el:ZF):NF:=fun e=>bnd (f e) fun ds e1=>match ds with
 | [.lst xs]=>if xs.length<1000 then(match Y1 el (y9 1 js e1) xs with
  | some ks=>if okK ks=true then some (.ok ((a1S (a1U ks xs)).map fun q=>q.2.headD .non) e1)else none
  | none=>none)else none
 | _=>none
theorem a6h{el:ZF}{ec:DE}:∀{ds:List D} {ks:List (List Int)},Y1 el ec ds=some ks→ks.length=ds.length
 | [],ks,h=>by cases h;rfl
 | d::ds,ks,h=>by
  unfold Y1 at h
  split at h
  ·split at h
   ·split at h
    ·cases z:Y1 el ec ds with
     | none=>rw[z]at h;cases h
     | some r=>rw[z]at h;cases h;rw[List.length_cons,List.length_cons,a6h z]
    ·cases h
   ·cases h
  ·cases h
theorem a4B{el:ZF}{ec:DE}:∀{ds:List D} {ks:List (List Int)},Y1 el ec ds=some ks→∀(i:Nat) (d:D),ds[i]? = some d→∃(k:List Int) (e':DE),ks[i]? = some k∧k≠[]∧el (ec.set 0 (.fz d))=some (.ok (.tup (k.map .int)) e')
 | [],ks,h,i,d,hd=>by cases hd
 | d::ds,ks,h,i,d',hd=>by
  unfold Y1 at h
  split at h
  ·rename_i es e' he
   split at h
   ·rename_i k hk
    split at h
    ·rename_i ne
     cases z:Y1 el ec ds with
     | none=>rw[z]at h;cases h
     | some r =>
      rw[z]at h;cases h
      cases i with
      | zero=>cases hd;exact⟨k,e',rfl,ne,by rw[he,a7q hk]⟩
      | succ i=>exact a4B z i d' hd
    ·cases h
   ·cases h
  ·cases h
section
variable {K:W.Frag}{cl:Str→Addr}{E:XK}
theorem b04{t:TA}{f:AF}{te:TE}{el:ZF}{js:List Nat}(nd:js.Nodup)(hf:RfA K cl E t f)(he:w8 K cl E te el):RfN K cl E (a9k K t te js) (a35 js f el):=by
 intro σ H Q env F R h
 refine hf σ H _ env F R ((Ct.bnd h a8b).mono fun vs0 H1 ⟨F1,e1,ds0,s1,R1,p1,h1⟩=>?_)
 split at h1
 ·rename_i ds
  split at h1
  ·rename_i hn
   split at h1
   ·rename_i ks hk
    split at h1
    ·rename_i ok
     have hl:=a6h hk
     have ok':ks.Nodup∧∀k∈ks,k.length=(ks.headD []).length:=by simpa [okK]using ok
     obtain⟨v,r0,rfl,pv,pr⟩:=p1.inv
     rw[pr.inv0]
     obtain⟨a,vs,rfl,hF,rv⟩:∃a vs,v=.ref a∧F1 a=some (.lst vs)∧Rps K cl F1 ds vs:=by simpa only[Rp]using pv
     have hvl:ds.length=vs.length:=rv.length
     refine⟨a,vs,rfl,.inl (.of (R1.sub a _ hF)),by omega,fun H2 ext=>?_⟩
     refine⟨fun i ys H'=>∃F',Gr H1 F1 H' F'∧Rps K cl F' ((ks.take i).map fun k=>D.tup (k.map .int)) ys,⟨F1,⟨Same.refl _,fun a o ha=>ext a o (R1.sub a o ha),fun a o ha fa=>⟨ext a o ha,fa⟩⟩,.nil⟩,fun i x ys H' hx ⟨F',g,rk⟩=>?_,fun ys H' hy ⟨F',g,rk⟩=>?_⟩
     ·obtain⟨d,hd,px⟩:=rv.get' hx
      obtain⟨k,e',hki,_,hel⟩:=a4B hk i d hd
      have hi:i<ks.length:=(List.getElem?_eq_some_iff.mp hki).1
      have R2:=R1.gr g
      have Rc:Rel K cl (A0 1 js σ) H' F' (y9 1 js e1):=R2.comp nd
      have n1:NoOw (y9 1 js e1):=a42
      have Rp':=Rc.put (i:=0) (d:=d) (v:=x) (by unfold y9;simp) (fun ds z=>by unfold y9 at z;simp at z) (Rp.mono g.fz _ _ px)
      refine he ((A0 1 js σ).set 0 (some x)) H' _ _ F' Rp' ?_
      rw[hel]
      intro w H4 F4 f4 R4 hw
      have gr4:Gr H' F' H4 F4:=f4.gr (b03 n1) R4.sub
      refine⟨F4,g.trans gr4,?_⟩
      have et:ks.take (i+1)=ks.take i++[k]:=by
       rw[List.take_add_one,hki]
       rfl
      rw[et,List.map_append]
      exact(rk.mono gr4.fz).append (.one hw)
     ·rw[List.take_of_length_le '!']at rk
      have ne:∀k∈ks,k≠[]:=fun k m=>by
       obtain⟨i,hi,e⟩:=List.mem_iff_getElem.mp m
       obtain⟨k',_,h1,h2,_⟩:=a4B hk i (ds[i]' '!') (List.getElem?_eq_getElem _)
       rw[List.getElem?_eq_getElem hi,e]at h1
       cases h1
       exact h2
      have at_:∀i (hi:i<ks.length),ks.getD i []=ks[i]:=fun i hi=>by rw[List.getD_eq_getElem?_getD,List.getElem?_eq_getElem hi];rfl
      refine⟨ks,b1I g.sub rk ne,fun i j hi hj z=>?_,fun l p hl' hp hs=>?_⟩
      ·have hi:i<ks.length:=by omega
       have hj:j<ks.length:=by omega
       rw[at_ i hi,at_ j hj]
       refine⟨by rw[ok'.2 _ (List.getElem_mem hi),ok'.2 _ (List.getElem_mem hj)],fun e=>z ((List.getElem_inj ok'.1).mp e)⟩
      ·have R2:=R1.gr g
       obtain⟨R3,f3⟩:=R2.newN (o:=.lst (p.map fun i=>vs.getD i .non)) hl'
       have h1:∀b H' F',Frm σ H1 F1 e1 σ H' F' e1→Rel K cl σ H' F' e1→PN K cl ((a1S (a1U ks ds)).map fun q=>q.2.headD .non) σ H1 H' F' e1 b→Q b H':=h1
       refine h1 _ _ F' ((R1.frm g).trans f3) R3 ⟨l,_,rfl,g.dom l hl',j8,R2.sub.free hl',fun j ⟨ds,q⟩ e=>?_,?_⟩
       ·obtain⟨a,ys',e1',hH,_⟩:=R2.mu j ds q
        rw[e]at e1';cases e1'
        rw[hl']at hH;cases hH
       ·have hp':p.Perm (List.range ds.length):=by rw[hvl];exact hp
        have srt:p.map (fun(i:Nat)=>((ks.getD i [],[ds.getD i .non]):Rw0))=a1S (a1U ks ds):=by
         refine a1l ((hp'.map _).trans (a1T _).symm) ?_ (a2s _) ?_
         ·rw[List.pairwise_map];exact hs
         ·rw[List.pairwise_map]
          have nd:p.Nodup:=hp'.nodup_iff.mpr List.nodup_range
          refine List.Pairwise.imp_of_mem ?_ nd
          intro a b ma mb hab e
          have ha:=List.mem_range.mp (hp'.mem_iff.mp ma)
          have hb:=List.mem_range.mp (hp'.mem_iff.mp mb)
          have e:ks.getD a []=ks.getD b []:=e
          rw[at_ a '!',at_ b '!']at e
          exact hab ((List.getElem_inj ok'.1).mp e)
        rw[← srt,List.map_map]
        exact a6g (rv.mono g.fz) p fun i hi=>List.mem_range.mp (hp'.mem_iff.mp hi)
    ·exact h1.elim
   ·exact h1.elim
  ·exact h1.elim
 ·exact h1.elim
end
section
variable {K:W.Frag}{cl:Str→Addr}{E:XK}
def a0x(i j k:Nat):SF:=fun e=>match e[i]?,e[j]?,e[k]? with
 | some (.ow d1),some (.ow d2),some (.ow d3)=>if i=j∨i=k∨j=k then none else some (.rz [d1,d2,d3])
 | _,_,_=>none
theorem a9H{i j k:Nat}:RfS K cl E (a5z (a7V (L7 (D7 i) (L7 (D7 j) (L7 (D7 k) a0C))))) (a0x i j k):=by
 intro N σ H env F R h
 unfold a0x at h
 split at h
 ·rename_i d1 d2 d3 q1 q2 q3
  split at h
  ·exact h.elim
  ·rename_i nij
   have hij:i≠j:=fun z=>nij (.inl z)
   have hik:i≠k:=fun z=>nij (.inr (.inl z))
   have hjk:j≠k:=fun z=>nij (.inr (.inr z))
   obtain⟨a1,xs1,e1,hH1,hF1,r1⟩:=R.mu i d1 (.inl q1)
   obtain⟨a2,xs2,e2,hH2,hF2,r2⟩:=R.mu j d2 (.inl q2)
   obtain⟨a3,xs3,e3,hH3,hF3,r3⟩:=R.mu k d3 (.inl q3)
   refine⟨_,e1,_,e2,_,e3,by show 3≤2 ^ 24;decide,fun p hp=>?_⟩
   have n12:a1≠a2:=fun z=>hij (R.inj i j a1 ⟨d1,.inl q1⟩ ⟨d2,.inl q2⟩ e1 (by rw[z];exact e2))
   have n13:a1≠a3:=fun z=>hik (R.inj i k a1 ⟨d1,.inl q1⟩ ⟨d3,.inl q3⟩ e1 (by rw[z];exact e3))
   have n23:a2≠a3:=fun z=>hjk (R.inj j k a2 ⟨d2,.inl q2⟩ ⟨d3,.inl q3⟩ e2 (by rw[z];exact e3))
   have np:∀a o,H a=some o→a≠p:=fun a o ha z=>by rw[z,hp]at ha;cases ha
   refine h p [a1,a2,a3] _ F ⟨Same.refl _,fun b o hb=>by rw[g7 (np b o (R.sub _ _ hb))];exact R.sub _ _ hb,fun a o ha fa _=>⟨by rw[g7 (np a o ha)];exact ha,fa⟩,fun a ha=>?_⟩ hp j8 (R.sub.free hp) ?_
   ·by_cases z:a=p
    ·rw[z,j8]at ha;cases ha
    ·rw[g7 z]at ha;exact ha
   ·exact b02 n12 n13 n23 (by rw[g7 (np _ _ hH1)];exact hH1) hF1 (fun o _=>⟨i,.ow d1,True.intro,q1,e1⟩) r1 (by rw[g7 (np _ _ hH2)];exact hH2) hF2 (fun o _=>⟨j,.ow d2,True.intro,q2,e2⟩) r2 (by rw[g7 (np _ _ hH3)];exact hH3) hF3 (fun o _=>⟨k,.ow d3,True.intro,q3,e3⟩) r3
 ·exact h.elim
end
def lookD(e:DE)(i:Nat):Option (DK×List D):=match e[i]? with
 | some (.fz (.dic ks ds))=>some (ks,ds)
 | some (.od ks ds)=>some (ks,ds)
 | some (.hk ks ds)=>some (ks,ds)
 | _=>none
def a4C:D→Option v9
 | .int i=>some (.inl i)
 | .str x=>some (.inr x)
 | _=>none
def a36:List D→Option (List v9)
 | []=>some []
 | d::ds=>match a4C d,a36 ds with
  | some k,some ks=>some (k::ks)
  | _,_=>none
section
variable {κ:Type} [DecidableEq κ]
def a1V:List κ→List D→κ→Option D
 | k'::ks,d::ds,k=>if k'=k then some d else a1V ks ds k
 | _,_,_=>none
def a0P(ks:List κ)(k:κ):Bool:=ks.any fun k'=>decide (k'=k)
def U4{α:Type}(ks:List κ)(ds:List α)(k:κ)(d:α):List α:=List.zipWith (fun k' d'=>if k'=k then d else d') ks ds
end
def a0Q(ks:DK)(ds:List D)(k:D):Option (Option D):=match ks with
 | .inl ks=>(match a4C k with
  | some k=>some (a1V ks ds k)
  | none=>none)
 | .inr ks=>(match k with
  | .tup es=>(match a36 es with
   | some k=>some (a1V ks ds k)
   | none=>none)
  | _=>none)
def putD(ks:DK)(ds:List D)(k d:D):Option (DK×List D):=match ks with
 | .inl ks=>(match a4C k with
  | some k=>some (if a0P ks k=true then(.inl ks,U4 ks ds k d)else(.inl (ks++[k]),ds++[d]))
  | none=>none)
 | .inr ks=>(match k with
  | .tup es=>(match a36 es with
   | some k=>some (if a0P ks k=true then(.inr ks,U4 ks ds k d)else(.inr (ks++[k]),ds++[d]))
   | none=>none)
  | _=>none)
def b4G:R2:=fun y x H Q=>∃a o,x=.ref a∧DGet H a y o∧Q (.bl o.isSome) H
def b4H:R2:=fun y x H Q=>∃a o,x=.ref a∧DGet H a y o∧Q (.bl (!o.isSome)) H
section
variable {X:Cx}
theorem b4I(hu:X.A.units+1<cLine):K7 X (compareOp .In) b4G:=by
 intro pins s σ H x y v u Q I rx ry h
 obtain⟨a,o,rfl,g,q⟩:=h
 obtain rfl:u=Value.ref a:=ry
 exact b54 hu I g rx fun s3 I3=>⟨.bl o.isSome,H,I3,rfl,q⟩
theorem b4J(hu:X.A.units+1<cLine):K7 X (compareOp .NotIn) b4H:=by
 intro pins s σ H x y v u Q I rx ry h
 obtain⟨a,o,rfl,g,q⟩:=h
 obtain rfl:u=Value.ref a:=ry
 exact b2j hu I g rx fun s3 I3=>⟨.bl (!o.isSome),H,I3,rfl,q⟩
end
section
variable {K:W.Frag}{cl:Str→Addr}{E:XK}{σ:St}{H F:Hp}{env:DE}
theorem Rel.lookD{i:Nat}{ks:DK}{ds:List D}(R:Rel K cl σ H F env)(h:lookD env i=some (ks,ds)):∃a xs,σ[i]? = some (some (.ref a))∧H a=some (X0 ks xs)∧dkN ks=xs.length∧Rps K cl F ds xs:=by
 unfold L2.lookD at h
 split at h
 ·rename_i q;cases h
  obtain⟨v,e,p⟩:=R.fz i _ q
  simp only[Rp]at p
  obtain⟨a,xs,rfl,h1,h2,h3⟩:=p
  exact⟨a,xs,e,R.sub _ _ h1,h2,h3⟩
 ·rename_i q;cases h
  obtain⟨a,xs,e,h1,_,h2,h3⟩:=R.od.at_ i _ ks ds q ⟨rfl,rfl⟩
  exact⟨a,xs,e,h1,h2,h3⟩
 ·rename_i q;cases h
  obtain⟨a,xs,e,h1,_,h2,h3⟩:=R.od.at_ i _ ks ds q ⟨rfl,rfl⟩
  exact⟨a,xs,e,h1,h2,h3⟩
 ·cases h
theorem a6i{d:D}{k:v9}{v:V}(h:a4C d=some k)(p:Rp K cl F d v):v=kV k:=by
 unfold a4C at h
 split at h
 ·cases h;simp only[Rp]at p;exact p
 ·cases h;simp only[Rp]at p;exact p
 ·cases h
theorem a4D:∀{ds:List D} {ks:List v9} {vs:List V},a36 ds=some ks→Rps K cl F ds vs→vs=ks.map kV
 | [],ks,vs,h,p=>by cases h;exact p.inv0
 | d::ds,ks,vs,h,p=>by
  obtain⟨v,r,rfl,p1,p2⟩:=p.inv
  unfold a36 at h
  split at h
  ·rename_i k ks' h1 h2
   cases h
   rw[a6i h1 p1,a4D h2 p2];rfl
  ·cases h
theorem a4E{κ:Type} [DecidableEq κ] (k:κ):∀{ks:List κ} {ds:List D} {xs:List V},ks.length=xs.length→Rps K cl F ds xs→match a1V ks ds k with
  | none=>U2 (ks.zip xs) k=none
  | some d=>∃v,U2 (ks.zip xs) k=some v∧Rp K cl F d v
 | [],ds,xs,hl,r=>by
  have:xs=[]:=List.length_eq_zero_iff.mp hl.symm
  subst this
  show U2 [] k=none
  rfl
 | k'::ks,ds,xs,hl,r=>by
  cases xs with
  | nil=>simp at hl
  | cons x xs =>
   cases ds with
   | nil=>have:=r.inv0;cases this
   | cons d ds =>
    obtain⟨v,r',e,p1,p2⟩:=r.inv
    cases e
    unfold a1V
    by_cases z:k'=k
    ·rw[if_pos z]
     exact⟨x,a1B (p:=(k',x)) z,p1⟩
    ·rw[if_neg z]
     have:=a4E k (ks:=ks) (ds:=ds) (xs:=xs) (by simpa using hl) p2
     rw[List.zip_cons_cons,a1C (p:=(k',x)) z]
     exact this
theorem a7w{a:Addr}{ks:DK}{ds:List D}{xs:List V}{k:D}{y:V}{o:Option D}(s:Same F H)(h:H a=some (X0 ks xs))(hn:dkN ks=xs.length)(r:Rps K cl F ds xs)(p:Rp K cl F k y)(g:a0Q ks ds k=some o) :
  ∃o',DGet H a y o'∧o'.isSome=o.isSome∧∀d,o=some d→∃v,o'=some v∧Rp K cl F d v:=by
 cases ks with
 | inl ks =>
  unfold a0Q at g
  simp only at g
  split at g
  ·rename_i k' hk
   cases g
   rw[a6i hk p]
   have:=a4E k' (ks:=ks) hn r
   refine⟨_,.k h,?_⟩
   split at this
   ·rename_i q;rw[q,this];exact⟨rfl,fun d z=>by cases z⟩
   ·rename_i d q
    obtain⟨v,e,pv⟩:=this
    rw[q,e]
    exact⟨rfl,fun d' z=>by cases z;exact⟨v,rfl,pv⟩⟩
  ·cases g
 | inr ks =>
  unfold a0Q at g
  simp only at g
  split at g
  ·rename_i es
   split at g
   ·rename_i k' hk
    cases g
    simp only[Rp]at p
    obtain⟨b,ys,rfl,hb,rb⟩:=p
    rw[a4D hk rb]at hb
    have:=a4E k' (ks:=ks) hn r
    refine⟨_,.t h (s _ _ hb),?_⟩
    split at this
    ·rename_i q;rw[q,this];exact⟨rfl,fun d z=>by cases z⟩
    ·rename_i d q
     obtain⟨v,e,pv⟩:=this
     rw[q,e]
     exact⟨rfl,fun d' z=>by cases z;exact⟨v,rfl,pv⟩⟩
   ·cases g
  ·cases g
def a8u(f:ZF)(i:Nat):ZF:=fun e=>bnd (f e) fun k e1=>match lookD e1 i with
 | some (ks,ds)=>(match a0Q ks ds k with
  | some o=>some (.ok (.bl o.isSome) e1)
  | none=>none)
 | none=>none
def a8v(f:ZF)(i:Nat):ZF:=fun e=>bnd (f e) fun k e1=>match lookD e1 i with
 | some (ks,ds)=>(match a0Q ks ds k with
  | some o=>some (.ok (.bl (!o.isSome)) e1)
  | none=>none)
 | none=>none
theorem b4K{i:Nat}{t:TE}{f:ZF}(hf:w8 K cl E t f):w8 K cl E (tOp b4G t (D7 i)) (a8u f i):=by
 intro σ H Q env F R h
 refine hf σ H _ env F R ((Ct.bnd h P0).mono fun y H1 ⟨F1,e1,k,s1,R1,p1,h1⟩=>?_)
 split at h1
 ·rename_i ks ds q
  obtain⟨a,xs,e,hH,hn,r⟩:=R1.lookD q
  split at h1
  ·rename_i o g
   obtain⟨o',g',e',_⟩:=a7w R1.sub hH hn r p1 g
   refine⟨_,e,a,o',rfl,g',?_⟩
   rw[e']
   exact h1 _ H1 F1 Frm.refl R1 (by show Rp K cl F1 (.bl _) _;simp only[Rp])
  ·exact h1.elim
 ·exact h1.elim
theorem b4L{i:Nat}{t:TE}{f:ZF}(hf:w8 K cl E t f):w8 K cl E (tOp b4H t (D7 i)) (a8v f i):=by
 intro σ H Q env F R h
 refine hf σ H _ env F R ((Ct.bnd h P0).mono fun y H1 ⟨F1,e1,k,s1,R1,p1,h1⟩=>?_)
 split at h1
 ·rename_i ks ds q
  obtain⟨a,xs,e,hH,hn,r⟩:=R1.lookD q
  split at h1
  ·rename_i o g
   obtain⟨o',g',e',_⟩:=a7w R1.sub hH hn r p1 g
   refine⟨_,e,a,o',rfl,g',?_⟩
   rw[e']
   exact h1 _ H1 F1 Frm.refl R1 (by show Rp K cl F1 (.bl _) _;simp only[Rp])
  ·exact h1.elim
 ·exact h1.elim
theorem Rps.repK{κ:Type} [DecidableEq κ] {d:D} {v:V} (k:κ) (p:Rp K cl F d v):∀{ks:List κ} {ds:List D} {xs:List V},Rps K cl F ds xs→Rps K cl F (U4 ks ds k d) (U4 ks xs k v)
 | [],ds,xs,r=>by unfold U4;simp only[List.zipWith_nil_left];exact .nil
 | k'::ks,[],xs,r=>by rw[r.inv0];unfold U4;simp only[List.zipWith_nil_right];exact .nil
 | k'::ks,d'::ds,xs,r=>by
  obtain⟨x,xs',rfl,p1,p2⟩:=r.inv
  unfold U4
  rw[List.zipWith_cons_cons,List.zipWith_cons_cons]
  refine .cons ?_ (Rps.repK k p p2)
  by_cases z:k'=k
  ·rw[if_pos z,if_pos z];exact p
  ·rw[if_neg z,if_neg z];exact p1
theorem a7x{κ:Type} [DecidableEq κ] (k:κ):∀{ks:List κ} {xs:List V},ks.length=xs.length→((ks.zip xs).any fun kv=>decide (kv.1=k))=a0P ks k
 | [],xs,h=>by simp[a0P]
 | k'::ks,[],h=>by simp at h
 | k'::ks,x::xs,h=>by
  rw[List.zip_cons_cons,List.any_cons,a7x k (by simpa using h)]
  rfl
theorem a7y{κ:Type} [DecidableEq κ] (k:κ) (v:V):∀{ks:List κ} {xs:List V},(ks.zip xs).map (fun kv=>if kv.1=k then(kv.1,v)else kv)=ks.zip (U4 ks xs k v)
 | [],xs=>by simp
 | k'::ks,[]=>by simp[U4]
 | k'::ks,x::xs=>by
  rw[List.zip_cons_cons,List.map_cons,a7y k v]
  unfold U4
  rw[List.zipWith_cons_cons,List.zip_cons_cons]
  by_cases z:k'=k
  ·simp[z]
  ·simp[z]
theorem a6j{κ:Type} [DecidableEq κ] {k:κ} {v:V} {ks:List κ} {xs:List V} (h:ks.length=xs.length):T6 (ks.zip xs) k v=if a0P ks k=true then ks.zip (U4 ks xs k v)else(ks++[k]).zip (xs++[v]):=by
 unfold T6
 rw[a7x k h,a7y k v,List.zip_append h]
 rfl
theorem a26{κ α:Type} [DecidableEq κ] {k:κ} {v:α} {ks:List κ} {xs:List α} (h:ks.length=xs.length):(U4 ks xs k v).length=xs.length:=by
 unfold U4
 rw[List.length_zipWith,h,Nat.min_self]
theorem b3g{a:Addr}{ks ks':DK}{ds ds':List D}{xs:List V}{k d:D}{y v:V}(s:Same F H)(h:H a=some (X0 ks xs))(hn:dkN ks=xs.length)(r:Rps K cl F ds xs)(p:Rp K cl F k y)(pd:Rp K cl F d v)(hl:dkN ks<sizeLine)(g:putD ks ds k d=some (ks',ds')) :
  ∃xs',DPut H a y v (upd H a (X0 ks' xs'))∧dkN ks'=xs'.length∧Rps K cl F ds' xs':=by
 cases ks with
 | inl ks =>
  have hn:ks.length=xs.length:=hn
  have hl:ks.length<sizeLine:=hl
  unfold putD at g
  simp only at g
  split at g
  ·rename_i k' hk
   rw[a6i hk p]
   have dp:=DPut.k (k:=k') (v:=v) h (by rw[List.length_zip,← hn,Nat.min_self];exact hl)
   rw[a6j hn]at dp
   by_cases z:a0P ks k'=true
   ·rw[if_pos z]at dp g
    cases g
    exact⟨U4 ks xs k' v,dp,by rw[a26 hn];exact hn,r.repK k' pd⟩
   ·rw[if_neg z]at dp g
    cases g
    exact⟨xs++[v],dp,by show(ks++[k']).length=_;rw[List.length_append,List.length_append,hn];rfl,r.append (.one pd)⟩
  ·cases g
 | inr ks =>
  have hn:ks.length=xs.length:=hn
  have hl:ks.length<sizeLine:=hl
  unfold putD at g
  simp only at g
  split at g
  ·rename_i es
   split at g
   ·rename_i k' hk
    simp only[Rp]at p
    obtain⟨b,ys,rfl,hb,rb⟩:=p
    rw[a4D hk rb]at hb
    have dp:=DPut.t (k:=k') (v:=v) h (s _ _ hb) (by rw[List.length_zip,← hn,Nat.min_self];exact hl)
    rw[a6j hn]at dp
    by_cases z:a0P ks k'=true
    ·rw[if_pos z]at dp g
     cases g
     exact⟨U4 ks xs k' v,dp,by rw[a26 hn];exact hn,r.repK k' pd⟩
    ·rw[if_neg z]at dp g
     cases g
     exact⟨xs++[v],dp,by show(ks++[k']).length=_;rw[List.length_append,List.length_append,hn];rfl,r.append (.one pd)⟩
   ·cases g
  ·cases g
theorem Rel.changeD{i:Nat}{ks ks':DK}{ds ds':List D}{a:Addr}{xs':List V}(R:Rel K cl σ H F env)(h:env[i]? = some (.od ks ds))(e:σ[i]? = some (some (.ref a)))(hn:dkN ks'=xs'.length)(r:Rps K cl F ds' xs') :
  Rel K cl σ (upd H a (X0 ks' xs')) F (env.set i (.od ks' ds'))∧Frm σ H F env σ (upd H a (X0 ks' xs')) F (env.set i (.od ks' ds')):=by
 obtain⟨a',xs,e',hH,hF,_⟩:=R.od.at_ i _ ks ds h ⟨rfl,rfl⟩
 rw[e]at e';cases e'
 have hi:i<env.length:=(List.getElem?_eq_some_iff.mp h).1
 have self:(env.set i (.od ks' ds'))[i]? = some (.od ks' ds'):=List.getElem?_set_self hi
 have oth:∀j,j≠i→(env.set i (.od ks' ds'))[j]? = env[j]?:=fun j hj=>List.getElem?_set_ne (Ne.symm hj)
 have notL:∀ys,H a≠some (.lst ys):=fun ys z=>by rw[hH]at z;exact a2I (Option.some.inj z)
 have muo:∀(j:Nat) (fs:List D),((env.set i (.od ks' ds'))[j]? = some (.ow fs)∨(env.set i (.od ks' ds'))[j]? = some (.hd fs))→env[j]? = some (.ow fs)∨env[j]? = some (.hd fs):=fun j fs q=>by
  by_cases z:j=i
  ·subst z;rw[self]at q;rcases q with q | q<;>cases q
  ·rw[oth j z]at q;exact q
 refine⟨⟨fun b o q=>?_,by rw[List.length_set];exact R.len,fun j d q=>?_,fun j fs q=>?_,fun j l b ⟨fs,q⟩ ⟨gs,q'⟩=>R.inj j l b ⟨fs,muo j fs q⟩ ⟨gs,muo l gs q'⟩,⟨fun j s ls es q d=>?_,fun j l s t ks1 ks2 ds1 ds2 b q d q' d' e1 e2=>?_⟩⟩,⟨Same.refl _,fun b o hb fb w=>?_,fun j fs q=>?_,fun b q=>?_⟩⟩
 ·have z:b≠a:=fun z=>by rw[z,hF]at q;cases q
  rw[g7 z];exact R.sub _ _ q
 ·have z:j≠i:=fun z=>by subst z;rw[self]at q;cases q
  rw[oth j z]at q;exact R.fz j d q
 ·obtain⟨b,zs,e1,h1,f1,r1⟩:=R.mu j fs (muo j fs q)
  exact⟨b,zs,e1,by rw[g7 (fun z=>by rw[z]at h1;exact notL zs h1)];exact h1,f1,r1⟩
 ·by_cases z:j=i
  ·subst z
   rw[self]at q;cases q
   obtain⟨rfl,rfl⟩:=d
   exact⟨a,xs',e,j8,hF,hn,r⟩
  ·rw[oth j z]at q
   obtain⟨b,zs,e1,h1,f1,n1,r1⟩:=R.od.at_ j s ls es q d
   have nb:b≠a:=fun y=>z (R.od.inj j i s _ ls ks es ds b q d h ⟨rfl,rfl⟩ e1 (by rw[y];exact e))
   exact⟨b,zs,e1,by rw[g7 nb];exact h1,f1,n1,r1⟩
 ·have un:∀(j:Nat) (s:Sl) (ks1:DK) (ds1:List D),(env.set i (.od ks' ds'))[j]? = some s→R8 s ks1 ds1→∃s1 ks2 ds2,env[j]? = some s1∧R8 s1 ks2 ds2:=fun j s ks1 ds1 q d=>by
   by_cases z:j=i
   ·subst z;exact⟨_,ks,ds,h,rfl,rfl⟩
   ·rw[oth j z]at q;exact⟨s,ks1,ds1,q,d⟩
  obtain⟨s1,k1,d1,x1,y1⟩:=un j s ks1 ds1 q d
  obtain⟨s2,k2,d2,x2,y2⟩:=un l t ks2 ds2 q' d'
  exact R.od.inj j l s1 s2 k1 k2 d1 d2 b x1 y1 x2 y2 e1 e2
 ·have z:b≠a:=fun z=>w ⟨i,.od ks ds,True.intro,h,by rw[z];exact e⟩
  refine⟨by rw[g7 z];exact hb,fb,fun⟨j,fs,oo,q,e1⟩=>?_⟩
  by_cases y:j=i
  ·subst y;rw[e]at e1;cases e1;exact z rfl
  ·rw[oth j y]at q;exact w ⟨j,fs,oo,q,e1⟩
 ·have z:j≠i:=fun z=>by subst z;rw[h]at q;cases q
  exact⟨by rw[oth j z];exact q,rfl⟩
 ·by_cases z:b=a
  ·rw[z,j8]at q;cases q
  ·rw[g7 z]at q;exact q
def a5s(i:Nat)(k:ZF)(f:ZF):SF:=fun e=>O4 (f e) fun d e1=>match lookD e1 i with
 | none=>none
 | some _=>O4 (k e1) fun kd e2=>match e2[i]? with
  | some (.od ks ds)=>if dkN ks<sizeLine then(match putD ks ds kd d with
   | some kd'=>some (.nx (e2.set i (.od kd'.1 kd'.2)))
   | none=>none)else none
  | _=>none
theorem b3h{i:Nat}{tk tv:TE}{k f:ZF}(hk:w8 K cl E tk k)(hf:w8 K cl E tv f):RfS K cl E (b1B (D7 i) tk tv) (a5s i k f):=by
 intro N σ H env F R h
 refine hf σ H _ env F R ((Cs.bnd h).mono fun v H1 ⟨F1,e1,d,fr1,R1,p1,h1⟩=>?_)
 cases q0:lookD e1 i with
 | none=>rw[q0]at h1;exact h1.elim
 | some kd0 =>
  obtain⟨ks0,ds0⟩:=kd0
  rw[q0]at h1
  obtain⟨a0,xs0,e0,_⟩:=R1.lookD q0
  have h1:Cs K cl E (O4 (k e1) fun kd e2=>match e2[i]? with
   | some (.od ks ds)=>if dkN ks<sizeLine then(match putD ks ds kd d with
    | some kd'=>some (.nx (e2.set i (.od kd'.1 kd'.2)))
    | none=>none)else none
   | _=>none) σ H1 F1 e1 N:=h1.from fr1
  refine⟨_,e0,hk σ H1 _ e1 F1 R1 ((Cs.bnd h1).mono fun y H2 ⟨F2,e2,kd,fr2,R2,p2,h2⟩=>?_)⟩
  split at h2
  ·rename_i ks ds q
   split at h2
   ·rename_i hl
    split at h2
    ·rename_i kd' g
     obtain⟨ks',ds'⟩:=kd'
     obtain⟨a,xs,e,hH,hF,hn,r⟩:=R2.od.at_ i _ ks ds q ⟨rfl,rfl⟩
     rw[e0]at e;cases e
     obtain⟨xs',dp,hn',r'⟩:=b3g R2.sub hH hn r p2 (Rp.mono fr2.fz _ _ p1) hl g
     obtain⟨R',f'⟩:=R2.changeD q e0 hn' r'
     exact⟨a0,_,rfl,dp,h2 σ _ F2 (fr2.trans f') R'⟩
    ·exact h2.elim
   ·exact h2.elim
  ·exact h2.elim
def PD(K:W.Frag)(cl:Str→Addr):Py (DK×List D) V:=fun kd σ H H' F' e v=>∃a xs,v=.ref a∧H a=none∧H' a=some (X0 kd.1 xs)∧F' a=none∧(∀(j:Nat) (s:Sl) (ks:DK) (ds:List D),e[j]? = some s→R8 s ks ds→σ[j]?≠some (some (.ref a)))∧dkN kd.1=xs.length∧Rps K cl F' kd.2 xs
abbrev DF:=DE→Option (R (DK×List D))
def RfD(K:W.Frag)(cl:Str→Addr)(E:XK)(t:TE)(f:DF):Prop:=∀σ H Q env F,Rel K cl σ H F env→Ct K cl E (PD K cl) (f env) σ H F env Q→t σ H Q
theorem Ct.newD{p:Addr}{ks:DK}{xs:List V}{ds:List D}{Q:VK}(R:Rel K cl σ H F env)(hp:H p=none)(hn:dkN ks=xs.length)(r:Rps K cl F ds xs)(h:Ct K cl E (PD K cl) (some (.ok (ks,ds) env)) σ H F env Q):Q (.ref p) (upd H p (X0 ks xs)):=by
 obtain⟨R',f⟩:=R.newN (o:=X0 ks xs) hp
 refine h _ _ F f R' ⟨p,xs,rfl,hp,j8,R.sub.free hp,fun j s ls es q d e=>?_,hn,r⟩
 obtain⟨a,ys,e1,hH,_⟩:=R.od.at_ j s ls es q d
 rw[e]at e1;cases e1
 rw[hp]at hH;cases hH
def a37:DF:=fun e=>some (.ok (.inl [],[]) e)
theorem b3i:RfD K cl E a9m a37:=fun σ H Q env F R h p hp=>Ct.newD (ks:=.inl []) (xs:=[]) R hp rfl .nil h
def a38(i:Nat)(f:DF):SF:=fun e=>O4 (f e) fun kd e1=>put i (.od kd.1 kd.2) e1
theorem Rel.putD{i:Nat}{ks:DK}{ds:List D}{a:Addr}{xs:List V}(R:Rel K cl σ H F env)(hi:i<env.length)(hH:H a=some (X0 ks xs))(hF:F a=none)(na:∀(j:Nat) (s:Sl) (ls:DK) (es:List D),env[j]? = some s→R8 s ls es→σ[j]?≠some (some (.ref a)))(hn:dkN ks=xs.length)(r:Rps K cl F ds xs):Rel K cl (σ.set i (some (.ref a))) H F (env.set i (.od ks ds)):=by
 have his:i<σ.length:=by rw[R.len];exact hi
 have self:(env.set i (.od ks ds))[i]? = some (.od ks ds):=List.getElem?_set_self hi
 have oth:∀j,j≠i→(env.set i (.od ks ds))[j]? = env[j]?:=fun j hj=>List.getElem?_set_ne (Ne.symm hj)
 have soth:∀j,j≠i→(σ.set i (some (.ref a)))[j]? = σ[j]?:=fun j hj=>List.getElem?_set_ne (Ne.symm hj)
 have muo:∀(j:Nat) (fs:List D),((env.set i (.od ks ds))[j]? = some (.ow fs)∨(env.set i (.od ks ds))[j]? = some (.hd fs))→j≠i∧(env[j]? = some (.ow fs)∨env[j]? = some (.hd fs)):=fun j fs q=>by
  by_cases z:j=i
  ·subst z;rw[self]at q;rcases q with q | q<;>cases q
  ·rw[oth j z]at q;exact⟨z,q⟩
 refine⟨R.sub,by rw[List.length_set,List.length_set];exact R.len,fun j d q=>?_,fun j fs q=>?_,fun j l b ⟨fs,q⟩ ⟨gs,q'⟩ e1 e2=>?_,⟨fun j s ls es q d=>?_,fun j l s t ks1 ks2 ds1 ds2 b q d q' d' e1 e2=>?_⟩⟩
 ·have z:j≠i:=fun z=>by subst z;rw[self]at q;cases q
  rw[oth j z]at q;rw[soth j z];exact R.fz j d q
 ·obtain⟨z,q⟩:=muo j fs q
  rw[soth j z];exact R.mu j fs q
 ·obtain⟨z,q⟩:=muo j fs q
  obtain⟨z',q'⟩:=muo l gs q'
  rw[soth j z]at e1;rw[soth l z']at e2
  exact R.inj j l b ⟨fs,q⟩ ⟨gs,q'⟩ e1 e2
 ·by_cases z:j=i
  ·subst z
   rw[self]at q;cases q
   obtain⟨rfl,rfl⟩:=d
   exact⟨a,xs,List.getElem?_set_self his,hH,hF,hn,r⟩
  ·rw[oth j z]at q;rw[soth j z];exact R.od.at_ j s ls es q d
 ·by_cases zj:j=i
  ·by_cases zl:l=i
   ·rw[zj,zl]
   ·subst zj
    rw[List.getElem?_set_self his]at e1;cases e1
    rw[soth l zl]at e2;rw[oth l zl]at q'
    exact absurd e2 (na l t ks2 ds2 q' d')
  ·rw[soth j zj]at e1;rw[oth j zj]at q
   by_cases zl:l=i
   ·subst zl
    rw[List.getElem?_set_self his]at e2;cases e2
    exact absurd e1 (na j s ks1 ds1 q d)
   ·rw[soth l zl]at e2;rw[oth l zl]at q'
    exact R.od.inj j l s t ks1 ks2 ds1 ds2 b q d q' d' e1 e2
theorem b3j{i:Nat}{t:TE}{f:DF}(hf:RfD K cl E t f):RfS K cl E (a0d t (S3 i)) (a38 i f):=by
 intro N σ H env F R h
 refine hf σ H _ env F R ((Cs.bnd h).mono fun x H1 ⟨F1,e1,kd,fr,R1,p1,h1⟩=>?_)
 obtain⟨a,xs,rfl,hn,hH,hF,nm,hl,r⟩:=p1
 obtain⟨hi,nh,h2⟩:=a3h h1
 exact h2 _ H1 F1 (fr.putO hn nh) (R1.putD hi hH hF nm hl r)
end
@[simp] theorem b05(ks:DK)(ds:List D):a0r (.od ks ds)=true:=rfl
@[simp] theorem b3k(ks:DK)(ds:List D):a1c (.od ks ds)=.fz (.dic ks ds):=rfl
@[simp] theorem b3l(ks:DK)(ds:List D):a1c (.hk ks ds)=.fz (.dic ks ds):=rfl
structure SU(K:W.Frag)(cl:Str→Addr)(ps:List Nat)(A:Nat→Addr)(H0 F0 F1:Hp)(σ:St)(H F:Hp)(env:DE):Prop where
 rel:Rel K cl σ H F env
 pn:∀i∈ps,σ[i]? = some (some (.ref (A i)))∧∃ds,env[i]? = some (.hd ds)
 fz:Same F0 F
 gz:Same F1 F
 hid:∀b o,(∀i∈ps,b≠A i)→H0 b=some o→F0 b=none→H b=some o∧F b=none∧¬Ow σ env b
 dom:∀b,H b=none→H0 b=none
inductive MU where | nx (e:DE) | dn (e:DE)
abbrev UF:=DE→Option MU
def Cu(K:W.Frag)(cl:Str→Addr)(ps:List Nat)(A:Nat→Addr)(H0 F0 F1:Hp)(r:Option MU)(N:Ends):Prop:=match r with
 | none=>False
 | some (.nx e)=>∀σ' H' F',SU K cl ps A H0 F0 F1 σ' H' F' e→N.nx σ' H'
 | some (.dn e)=>∀σ' H' F',SU K cl ps A H0 F0 F1 σ' H' F' e→N.rt .non H'
def RfU(K:W.Frag)(cl:Str→Addr)(E:XK)(ps:List Nat)(t:TS)(f:UF):Prop:=∀(N:Ends) σ H env F A H0 F0 F1,SU K cl ps A H0 F0 F1 σ H F env→Cu K cl ps A H0 F0 F1 (f env) N→t N σ H
def uS(f:SF):UF:=fun e=>match f e with
 | some (.nx e1)=>some (.nx e1)
 | _=>none
def D0(f k:UF):UF:=fun e=>match f e with
 | some (.nx e1)=>k e1
 | r=>r
def uIf(c:BF)(f k:UF):UF:=fun e=>match c e with
 | some (.ok b e1)=>if b=true then f e1 else k e1
 | _=>none
def a4F:UF:=fun e=>some (.dn e)
def uNx:UF:=fun e=>some (.nx e)
def a0R(i:Nat)(k f:ZF):UF:=fun e=>match f e with
 | some (.ok d e1)=>(match k e1 with
  | some (.ok (.int j) e2)=>(match e2[i]? with
   | some (.hd ds)=>(match Q9 ds.length j with
    | some n=>some (.nx (e2.set i (.hd (ds.set n d))))
    | none=>none)
   | _=>none)
  | _=>none)
 | _=>none
def K8(b:GF)(body:UF):List D→UF
 | [],e=>some (.nx e)
 | d::ds,e=>match b d e with
  | none=>none
  | some e1=>match body e1 with
   | some (.nx e2)=>K8 b body ds e2
   | r=>r
def a1W(rg:List D→Option (Int×Nat))(f:AF)(b:GF)(body:UF):UF:=fun e=>match f e with
 | some (.ok ds e1)=>(match rg ds with
  | some (lo,n)=>K8 b body (N8 lo n) e1
  | none=>none)
 | _=>none
def a1X(i:Nat)(b:GF)(body:UF):UF:=fun e=>match e[i]? with
 | some (.fz d)=>(match seqL d with
  | some ds=>K8 b body ds e
  | none=>none)
 | _=>none
section
variable {K:W.Frag}{cl:Str→Addr}{E:XK}{ps:List Nat}{A:Nat→Addr}{H0 F0 F1:Hp}{σ:St}{H F:Hp}{env:DE}{k:Nat}
theorem SU.frm{σ':St}{H' F':Hp}{env':DE}(S:SU K cl ps A H0 F0 F1 σ H F env)(f:Frm σ H F env σ' H' F' env')(R:Rel K cl σ' H' F' env'):SU K cl ps A H0 F0 F1 σ' H' F' env' :=
 ⟨R,fun i m=>by obtain⟨e,ds,h⟩:=S.pn i m;obtain⟨h1,e1⟩:=f.keep i ds h;exact⟨e1.trans e,ds,h1⟩,S.fz.trans f.fz,S.gz.trans f.fz,
  fun b o n h g=>by obtain⟨h1,f1,w1⟩:=S.hid b o n h g;exact f.hid b o h1 f1 w1,fun b h=>S.dom b (f.dom b h)⟩
theorem SU.change{i:Nat}{ds es:List D}{ys:List V}(S:SU K cl ps A H0 F0 F1 σ H F env)(m:i∈ps)(h:env[i]? = some (.hd ds))(r:Rps K cl F es ys):SU K cl ps A H0 F0 F1 σ (upd H (A i) (.lst ys)) F (env.set i (.hd es)):=by
 obtain⟨e,_,_⟩:=S.pn i m
 obtain⟨a',xs,e',hH,hF,_⟩:=S.rel.mu i ds (.inr h)
 rw[e]at e';cases e'
 have hi:i<env.length:=(List.getElem?_eq_some_iff.mp h).1
 have self:(env.set i (.hd es))[i]? = some (.hd es):=List.getElem?_set_self hi
 have oth:∀j,j≠i→(env.set i (.hd es))[j]? = env[j]?:=fun j hj=>List.getElem?_set_ne (Ne.symm hj)
 have mui:∀j,Mu (env.set i (.hd es)) j→Mu env j:=fun j ⟨fs,q⟩=>by
  by_cases z:j=i
  ·subst z;exact⟨ds,.inr h⟩
  ·rw[oth j z]at q;exact⟨fs,q⟩
 have R:=S.rel
 refine⟨⟨fun b o q=>?_,by rw[List.length_set];exact R.len,fun j d q=>?_,fun j fs q=>?_,fun j k b hj hk=>R.inj j k b (mui j hj) (mui k hk),(R.od.updL hH).setE a3R⟩,fun j mj=>?_,S.fz,S.gz,fun b o n h0 f0=>?_,fun b q=>?_⟩
 ·have z:b≠A i:=fun z=>by rw[z,hF]at q;cases q
  rw[g7 z];exact R.sub _ _ q
 ·have z:j≠i:=fun z=>by subst z;rw[self]at q;cases q
  rw[oth j z]at q;exact R.fz j d q
 ·by_cases z:j=i
  ·subst z
   rw[self]at q
   rcases q with q | q
   ·cases q
   ·cases q;exact⟨_,ys,e,j8,hF,r⟩
  ·rw[oth j z]at q
   obtain⟨b,zs,e1,h1,f1,r1⟩:=R.mu j fs q
   have nb:b≠A i:=fun y=>z (R.inj j i b ⟨fs,q⟩ ⟨ds,.inr h⟩ e1 (by rw[y];exact e))
   exact⟨b,zs,e1,by rw[g7 nb];exact h1,f1,r1⟩
 ·obtain⟨e1,fs,q⟩:=S.pn j mj
  refine⟨e1,?_⟩
  by_cases z:j=i
  ·subst z;exact⟨es,self⟩
  ·exact⟨fs,by rw[oth j z];exact q⟩
 ·obtain⟨h1,f1,w1⟩:=S.hid b o n h0 f0
  refine⟨by rw[g7 (n i m)];exact h1,f1,fun⟨j,fs,oo,q,e1⟩=>?_⟩
  have y:j≠i:=fun y=>by subst y;rw[self]at q;cases q;exact oo
  rw[oth j y]at q;exact w1 ⟨j,fs,oo,q,e1⟩
 ·by_cases z:b=A i
  ·rw[z,j8]at q;cases q
  ·rw[g7 z]at q;exact S.dom b q
theorem a0S{t:TS}{f:SF}(hf:RfS K cl E t f):RfU K cl E ps t (uS f):=by
 intro N σ H env F A H0 F0 F1 S h
 refine hf N σ H env F S.rel ?_
 unfold uS at h
 cases q:f env with
 | none=>rw[q]at h;exact h.elim
 | some r =>
  rw[q]at h
  cases r with
  | nx e1=>exact fun σ' H' F' f R=>h σ' H' F' (S.frm f R)
  | _=>exact h.elim
theorem a8w:RfU K cl E ps a7K uNx:=fun N σ H env F A H0 F0 F1 S h=>h σ H F S
theorem a9I:RfU K cl E ps b1n a4F:=fun N σ H env F A H0 F0 F1 S h=>h σ H F S
theorem M1{t u:TS}{f k:UF}(hf:RfU K cl E ps t f)(hk:RfU K cl E ps u k):RfU K cl E ps (a96 t u) (D0 f k):=by
 intro N σ H env F A H0 F0 F1 S h
 refine hf _ σ H env F A H0 F0 F1 S ?_
 unfold D0 at h
 cases q:f env with
 | none=>rw[q]at h;exact h
 | some r =>
  rw[q]at h
  cases r with
  | nx e1=>exact fun σ' H' F' S'=>hk N σ' H' e1 F' A H0 F0 F1 S' h
  | dn e1=>exact h
theorem a8x{c:TT}{t u:TS}{b:BF}{f k:UF}(hc:U9 K cl E c b)(hf:RfU K cl E ps t f)(hk:RfU K cl E ps u k):RfU K cl E ps (a97 c t u) (uIf b f k):=by
 intro N σ H env F A H0 F0 F1 S h
 unfold uIf at h
 refine hc σ H _ env F S.rel ?_
 cases q:b env with
 | none=>rw[q]at h;exact h.elim
 | some rs =>
  rw[q]at h
  cases rs with
  | ex c=>exact h.elim
  | ok x e1 =>
   intro y H1 Fz fr R1 p1
   cases (show y=x from p1)
   by_cases z:x=true
   ·simp only[if_pos z]at h ⊢;exact hf N σ H1 e1 Fz A H0 F0 F1 (S.frm fr R1) h
   ·simp only[if_neg z]at h ⊢;exact hk N σ H1 e1 Fz A H0 F0 F1 (S.frm fr R1) h
theorem a3_{i:Nat}{t u:TE}{f k:ZF}(m:i∈ps)(hf:w8 K cl E t f)(hk:w8 K cl E u k):RfU K cl E ps (a0d t (a99 (D7 i) u a7X)) (a0R i k f):=by
 intro N σ H env F A H0 F0 F1 S h
 unfold a0R at h
 refine hf σ H _ env F S.rel ?_
 cases q:f env with
 | none=>rw[q]at h;exact h.elim
 | some rs =>
  rw[q]at h
  cases rs with
  | ex c=>exact h.elim
  | ok d e1 =>
   intro x H1 Fz fr R1 p1
   have S1:=S.frm fr R1
   refine⟨_,(S1.pn i m).1,hk σ H1 _ e1 Fz R1 ?_⟩
   simp only at h
   cases q2:k e1 with
   | none=>rw[q2]at h;exact h.elim
   | some rs2 =>
    rw[q2]at h
    cases rs2 with
    | ex c=>exact h.elim
    | ok jd e2 =>
     cases jd with
     | int j =>
      intro y H2 F2 fr2 R2 p2
      have S2:=S1.frm fr2 R2
      obtain⟨ea,ds,l1⟩:=S2.pn i m
      simp only[l1]at h
      cases hn:Q9 ds.length j with
      | none=>rw[hn]at h;exact h.elim
      | some n =>
       rw[hn]at h
       obtain⟨a',xs,e,hH,hF,rr⟩:=R2.mu i ds (.inr l1)
       rw[ea]at e;cases e
       have hy:y=.int j:=by have:=(show Rp K cl F2 (.int j) y from p2);simpa only[Rp]using this
       exact⟨_,xs,j,n,rfl,hy,hH,by rw[← rr.length];exact hn,h σ _ F2 (S2.change m l1 (rr.set (Rp.mono fr2.fz _ _ p1) n))⟩
     | _=>exact h.elim
theorem b1J{b:GF}{body:UF}{g:TG}{tb:TS}{d:D}{x:V}{ds:List D}{N:Ends}{F:Hp}{env:DE}{Pv:St→Hp→Prop}(hb:RfU K cl E ps tb body)(hg:X2 K cl k g b)
  (S:SU K cl ps A H0 F0 F1 σ H F env) (p:Rp K cl F d x) (h:Cu K cl ps A H0 F0 F1 (K8 b body (d::ds) env) N)
  (hP:∀σ' H' F' e',SU K cl ps A H0 F0 F1 σ' H' F' e'→Cu K cl ps A H0 F0 F1 (K8 b body ds e') N→Pv σ' H') :
  g x σ H fun σ2 H2=>tb { N with nx:=Pv,ct:=Pv,bk:=N.nx } σ2 H2:=by
 unfold K8 at h
 split at h
 ·exact h.elim
 ·rename_i e2 hbd
  refine hg x σ H _ d env e2 F S.rel p hbd fun σ2 _ _ f2 R2=>?_
  refine hb _ σ2 H e2 F A H0 F0 F1 (S.frm f2 R2) ?_
  cases q:body e2 with
  | none=>rw[q]at h;exact h
  | some r =>
   rw[q]at h
   cases r with
   | nx e3=>exact fun σ' H' F' S'=>hP σ' H' F' e3 S' h
   | dn e3=>exact h
theorem SU.wk{F2:Hp}(S:SU K cl ps A H0 F0 F2 σ H F env)(s:Same F1 F2):SU K cl ps A H0 F0 F1 σ H F env:=⟨S.rel,S.pn,S.fz,s.trans S.gz,S.hid,S.dom⟩
theorem SU.at(S:SU K cl ps A H0 F0 F1 σ H F env):SU K cl ps A H0 F0 F σ H F env:=⟨S.rel,S.pn,S.fz,Same.refl _,S.hid,S.dom⟩
theorem Cu.wk{F2:Hp}{r:Option MU}{N:Ends}(h:Cu K cl ps A H0 F0 F1 r N)(s:Same F1 F2):Cu K cl ps A H0 F0 F2 r N:=by
 unfold Cu at h ⊢
 split at h
 ·exact h
 ·exact fun σ' H' F' S=>h σ' H' F' (S.wk s)
 ·exact fun σ' H' F' S=>h σ' H' F' (S.wk s)
theorem b3m{i:Nat}{g:TG}{tb:TS}{b:GF}{body:UF}(hg:X2 K cl k g b)(hb:RfU K cl E ps tb body):RfU K cl E ps (a3a (a3z K (D7 i)) g tb) (a1X i b body):=by
 intro N σ H env F A H0 F0 F1 S h
 unfold a1X at h
 split at h
 ·rename_i d q
  split at h
  ·rename_i ds hs
   obtain⟨v,e,p⟩:=S.rel.fz i d q
   obtain⟨a,xs,rfl,r,hl⟩:=Rp.seqL p hs
   refine⟨_,e,a,rfl,⟨xs,hl H S.rel.sub⟩,?_⟩
   have h:=h.wk S.gz
   refine a5C (xs:=xs) (fun i σ' H'=>∃F' e',SU K cl ps A H0 F0 F σ' H' F' e'∧Cu K cl ps A H0 F0 F (K8 b body (ds.drop i) e') N) ⟨F,env,S.at,h⟩ (fun i σ' H' _ ⟨F',e',S',_⟩=>hl H' (S'.gz.trans S'.rel.sub)) (fun i x σ' H' hx ⟨F',e',S',h'⟩=>?_) (fun σ' H' ⟨F',e',S',h'⟩=>?_)
   ·obtain⟨d,hd,p⟩:=r.get' hx
    rw[Z9 hd]at h'
    exact b1J hb hg S' (Rp.mono S'.gz _ _ p) h' fun σ2 H2 F2 e2 S2 h2=>⟨F2,e2,S2,h2⟩
   ·rw[← r.length,List.drop_length]at h'
    exact h' σ' H' F' S'
  ·exact h.elim
 ·exact h.elim
theorem a6k{t:TA}{f:AF}{g:TG}{tb:TS}{b:GF}{body:UF}(hf:RfA K cl E t f)(hg:X2 K cl k g b)(hb:RfU K cl E ps tb body):RfU K cl E ps (a3a (a7P t) g tb) (a1W P3 f b body):=by
 intro N σ H env F A H0 F0 F1 S h
 unfold a1W at h
 refine hf σ H _ env F S.rel ?_
 cases q:f env with
 | none=>rw[q]at h;exact h.elim
 | some rs =>
  rw[q]at h
  cases rs with
  | ex c=>exact h.elim
  | ok ds e1 =>
   intro vs H1 Fz fr R1 p1
   have S1:=S.frm fr R1
   simp only at h
   split at h
   ·rename_i lo n hs
    obtain⟨j,e,c1,c2,rfl,rfl⟩:=a7l hs p1
    refine⟨j,e,c1,c2,?_⟩
    refine a4P (fun i σ' H'=>∃F' e',SU K cl ps A H0 F0 F1 σ' H' F' e'∧Cu K cl ps A H0 F0 F1 (K8 b body ((N8 0 j.toNat).drop i) e') N) ⟨Fz,e1,S1,h⟩ (fun i σ' H' hx ⟨F',e',S',h'⟩=>?_) (fun σ' H' ⟨F',e',S',h'⟩=>?_)
    ·rw[a41 hx]at h'
     exact b1J hb hg S' (by simp only[Rp]) h' fun σ2 H2 F2 e2 S2 h2=>⟨F2,e2,S2,h2⟩
    ·rw[show(N8 0 j.toNat).drop j.toNat=[]from List.drop_eq_nil_of_le (by rw[a55];exact Nat.le_refl _)]at h'
     exact h' σ' H' F' S'
   ·exact h.elim
end
def adU(vs:List V)(i:Nat):Addr:=match vs[i]? with
 | some (.ref a)=>a
 | _=>0
def fU(n:Nat)(body:UF)(as:DE):Option DE:=match body (as++List.replicate (n-as.length) .no)with
 | some (.nx e)=>some e
 | some (.dn e)=>some e
 | none=>none
def spU(K:W.Frag)(cl:Str→Addr)(m:Nat)(ps:List Nat)(g:DE→Option DE):Sp:=fun vs H Q _=>∃as F,vs.length=m∧as.length=m∧Rel K cl (vs.map some) H F as∧NoOw as∧(∀i∈ps,∃ds,as[i]? = some (.hd ds))∧match g as with
 | none=>False
 | some e=>∀σ' H' F',SU K cl ps (adU vs) H F F σ' H' F' e→Q .non H'
section
variable {K:W.Frag}{cl:Str→Addr}{E:XK}{ps:List Nat}{σ:St}{H F:Hp}{env:DE}
theorem Rel.more{n:Nat}(R:Rel K cl σ H F env):Rel K cl (σ++List.replicate n none) H F (env++List.replicate n .no):=by
 have key:∀(i:Nat) (s:Sl),(env++List.replicate n Sl.no)[i]? = some s→s≠.no→i<env.length∧env[i]? = some s:=fun i s q ns=>by
  by_cases z:i<env.length
  ·rw[List.getElem?_append_left z]at q;exact⟨z,q⟩
  ·rw[List.getElem?_append_right '!',List.getElem?_replicate]at q
   split at q
   ·cases q;exact absurd rfl ns
   ·cases q
 have sg:∀i,i<env.length→(σ++List.replicate n none)[i]? = σ[i]?:=fun i h=>List.getElem?_append_left (by rw[R.len];exact h)
 have muo:∀(j:Nat) (fs:List D),((env++List.replicate n Sl.no)[j]? = some (.ow fs)∨(env++List.replicate n Sl.no)[j]? = some (.hd fs))→j<env.length∧(env[j]? = some (.ow fs)∨env[j]? = some (.hd fs)):=fun j fs q=>by
  rcases q with q | q
  ·obtain⟨a,b⟩:=key j _ q (fun z=>by cases z);exact⟨a,.inl b⟩
  ·obtain⟨a,b⟩:=key j _ q (fun z=>by cases z);exact⟨a,.inr b⟩
 refine⟨R.sub,by rw[List.length_append,List.length_append,List.length_replicate,List.length_replicate,R.len],fun i d q=>?_,fun i ds q=>?_,fun i j b ⟨ds,q⟩ ⟨es,q'⟩ e1 e2=>?_,⟨fun i s ks ds q d=>?_,fun i j s t ks ls ds es b q d q' d' e1 e2=>?_⟩⟩
 ·obtain⟨a,b⟩:=key i _ q (fun z=>by cases z)
  rw[sg i a];exact R.fz i d b
 ·obtain⟨a,b⟩:=muo i ds q
  rw[sg i a];exact R.mu i ds b
 ·obtain⟨a,c⟩:=muo i ds q
  obtain⟨a',c'⟩:=muo j es q'
  rw[sg i a]at e1;rw[sg j a']at e2
  exact R.inj i j b ⟨ds,c⟩ ⟨es,c'⟩ e1 e2
 ·obtain⟨a,b⟩:=key i _ q (fun z=>by subst z;exact d)
  rw[sg i a];exact R.od.at_ i s ks ds b d
 ·obtain⟨a,c⟩:=key i _ q (fun z=>by subst z;exact d)
  obtain⟨a',c'⟩:=key j _ q' (fun z=>by subst z;exact d')
  rw[sg i a]at e1;rw[sg j a']at e2
  exact R.od.inj i j s t ks ls ds es b c d c' d' e1 e2
theorem NoOw.more{n:Nat}(h:NoOw env):NoOw (env++List.replicate n .no):=fun i s o q=>by
 by_cases z:i<env.length
 ·rw[List.getElem?_append_left z]at q;exact h i s o q
 ·rw[List.getElem?_append_right '!',List.getElem?_replicate]at q
  split at q
  ·cases q;exact o
  ·cases q
theorem a6M{N:List Str}{m:Nat}{body:UF}{t:TS}{vs:List V}{Q:VK}(hb:RfU K cl E ps t body)(h:spU K cl m ps (fU N.length body) vs H Q E):t { nx:=fun _ H'=>Q .non H',rt:=Q } (start N vs) H:=by
 obtain⟨as,F,hv,ha,R,no,hp,h⟩:=h
 have st:start N vs=vs.map some++List.replicate (N.length-as.length) none:=by
  unfold start
  rw[ha,hv]
 have R':=R.more (n:=N.length-as.length)
 rw[← st]at R'
 have hm:∀i∈ps,(start N vs)[i]? = some (some (.ref (adU vs i)))∧∃ds,(as++List.replicate (N.length-as.length) Sl.no)[i]? = some (.hd ds):=fun i mi=>by
  obtain⟨ds,q⟩:=hp i mi
  have hi:i<as.length:=(List.getElem?_eq_some_iff.mp q).1
  have q':(as++List.replicate (N.length-as.length) Sl.no)[i]? = some (.hd ds):=by rw[List.getElem?_append_left hi];exact q
  obtain⟨a,xs,e,_⟩:=R'.mu i ds (.inr q')
  refine⟨?_,ds,q'⟩
  rw[e]
  obtain⟨b,ys,e2,_⟩:=R.mu i ds (.inr q)
  have e3:vs[i]? = some (.ref b):=by
   rw[List.getElem?_map]at e2
   cases z:vs[i]? with
   | none=>rw[z]at e2;cases e2
   | some v=>rw[z]at e2;cases e2;rfl
  have e4:(start N vs)[i]? = some (some (.ref b)):=by
   rw[st,List.getElem?_append_left (by rw[List.length_map,hv,← ha];exact hi)];exact e2
  rw[e]at e4;cases e4
  unfold adU
  rw[e3]
 refine hb _ _ H _ F (adU vs) H F F ⟨R',hm,Same.refl _,Same.refl _,fun b o n h0 f0=>⟨h0,f0,no.more.not⟩,fun _ h=>h⟩ ?_
 unfold fU at h
 cases q:body (as++List.replicate (N.length-as.length) Sl.no)with
 | none=>rw[q]at h;exact h
 | some r =>
  rw[q]at h
  cases r with
  | nx e=>exact fun σ' H' F' S=>h σ' H' F' S
  | dn e=>exact fun σ' H' F' S=>h σ' H' F' S
end
section
variable {P:Program}{w:World}{K:W.Frag}{mg:Str→Option Value}{base:Heap}{cl:Str→Addr}
theorem Fun.okU{x qual:Str}{st:Stmt}{f:Addr}{fd:FuncData}{N ps:List Str}{k:Nat}{pp:List Nat}{body:UF}(F:Fun K x qual st f fd)(S:FnScope N ps (d9 st))
  (hbody:∀(cdv:Value) (A:Around) (outer:List Env) (s:Shared) (H:Hp) (E:XK),Room k (A.deeper (envOfC qual (d9 st) s.heap.objs.size f cdv)) →
   ∃t,PSs (U0 (A6 P w) P w K mg base N qual (d9 st) f cdv A outer s H E) (k6 st) t∧RfU K cl E pp t body):FnOk P w K mg base (A6 P w) (k+1) f fd ps (spU K cl ps.length pp (fU N.length body)) :=
 F.okE S (fun vs H Q E ⟨_,_,h,_⟩=>h) fun cdv A outer s H vs Q E hr h=>by
  obtain⟨t,h1,h2⟩:=hbody cdv A outer s H E hr
  exact⟨t,h1,a6M h2 h⟩
end
abbrev UA:=DE→Option (R (List (Sum Nat D)))
def auN:UA:=fun e=>some (.ok [] e)
def W7(i:Nat)(k:UA):UA:=fun e=>match look e i with
 | some (.lst _)=>bnd (k e) fun xs e2=>some (.ok (.inl i::xs) e2)
 | _=>none
def F5(f:ZF)(k:UA):UA:=fun e=>bnd (f e) fun d e1=>bnd (k e1) fun xs e2=>some (.ok (.inr d::xs) e2)
def RpU(K:W.Frag)(cl:Str→Addr)(σ:St)(F:Hp):List (Sum Nat D)→List V→Prop
 | [],vs=>vs=[]
 | .inl i::xs,vs=>∃v r,vs=v::r∧σ[i]? = some (some v)∧RpU K cl σ F xs r
 | .inr d::xs,vs=>∃v r,vs=v::r∧Rp K cl F d v∧RpU K cl σ F xs r
def PAu(K:W.Frag)(cl:Str→Addr):Py (List (Sum Nat D)) (List V):=fun xs σ _ _ F' _ vs=>RpU K cl σ F' xs vs
theorem a8y{K cl}:PM (PAu K cl):=fun _ _ _ _ _ _ _ _ _ h=>h
def a4G(K:W.Frag)(cl:Str→Addr)(E:XK)(t:TA)(f:UA):Prop:=∀σ H Q env F,Rel K cl σ H F env→Ct K cl E (PAu K cl) (f env) σ H F env Q→t σ H Q
def C0:List (Sum Nat D)→List Nat
 | []=>[]
 | .inl i::xs=>i::C0 xs
 | .inr _::xs=>C0 xs
def a3l:Nat→List (Sum Nat D)→List Nat
 | _,[]=>[]
 | n,.inl _::xs=>n::a3l (n+1) xs
 | n,.inr _::xs=>a3l (n+1) xs
def asU(e:DE):List (Sum Nat D)→Option DE
 | []=>some []
 | .inl i::xs=>(match e[i]?,asU e xs with
  | some (.ow ds),some as=>some (.hd ds::as)
  | _,_=>none)
 | .inr d::xs=>(match asU e xs with
  | some as=>some (.fz d::as)
  | none=>none)
def a05(e:DE):List (Sum Nat D)→DE→Option DE
 | [],_=>some e
 | .inl i::xs,.hd ds::es=>a05 (e.set i (.ow ds)) xs es
 | .inr _::xs,_::es=>a05 e xs es
 | _,_=>none
def K4(m:Nat)(ps:List Nat)(g:DE→Option DE)(k:UA):SF:=fun e=>O4 (k e) fun xs e1=>match asU e1 xs with
 | some as=>if(C0 xs).Nodup∧a3l 0 xs=ps∧xs.length=m then(match g as with
  | some e'=>(match a05 e1 xs e' with
   | some e2=>some (.nx e2)
   | none=>none)
  | none=>none)else none
 | none=>none
section
variable {K:W.Frag}{cl:Str→Addr}{E:XK}{ps:List Nat}{σ:St}{H F:Hp}{env:DE}
theorem RpU.mono{F':Hp}(s:Same F F'):∀{xs:List (Sum Nat D)} {vs:List V},RpU K cl σ F xs vs→RpU K cl σ F' xs vs
 | [],_,h=>h
 | .inl _::_,_,⟨v,r,e,h1,h2⟩=>⟨v,r,e,h1,h2.mono s⟩
 | .inr _::_,_,⟨v,r,e,h1,h2⟩=>⟨v,r,e,Rp.mono s _ _ h1,h2.mono s⟩
theorem a8z:a4G K cl E a0C auN:=fun σ H Q env F R h=>h [] H F Frm.refl R rfl
theorem a5t{i:Nat}{t:TA}{k:UA}(hk:a4G K cl E t k):a4G K cl E (L7 (D7 i) t) (W7 i k):=by
 intro σ H Q env F R h
 unfold W7 at h
 split at h
 ·rename_i ds q
  obtain⟨v,e,_⟩:=R.look q
  refine⟨v,e,hk σ H _ env F R ((Ct.bnd h a8y).mono fun vs H2 ⟨F2,e2,xs,s2,R2,p2,h2⟩=>?_)⟩
  exact h2 (v::vs) H2 F2 Frm.refl R2 ⟨v,vs,rfl,e,p2⟩
 ·exact h.elim
theorem a06{te:TE}{t:TA}{f:ZF}{k:UA}(hf:w8 K cl E te f)(hk:a4G K cl E t k):a4G K cl E (L7 te t) (F5 f k):=by
 intro σ H Q env F R h
 refine hf σ H _ env F R ((Ct.bnd h a8y).mono fun x H1 ⟨F1,e1,d,s1,R1,p1,h1⟩=>?_)
 refine hk σ H1 _ e1 F1 R1 ((Ct.bnd h1 a8y).mono fun xs H2 ⟨F2,e2,ds,s2,R2,p2,h2⟩=>?_)
 exact h2 (x::xs) H2 F2 Frm.refl R2 ⟨x,xs,rfl,Rp.mono s2 _ _ p1,p2⟩
theorem RpU.length:∀{xs:List (Sum Nat D)} {vs:List V},RpU K cl σ F xs vs→vs.length=xs.length
 | [],_,h=>by rw[show _=_ from h];rfl
 | .inl _::_,_,⟨v,r,e,_,h2⟩=>by rw[e,List.length_cons,List.length_cons,h2.length]
 | .inr _::_,_,⟨v,r,e,_,h2⟩=>by rw[e,List.length_cons,List.length_cons,h2.length]
theorem a1Y:∀{xs:List (Sum Nat D)} {as:DE},asU env xs=some as→as.length=xs.length
 | [],_,h=>by cases h;rfl
 | .inl i::xs,_,h=>by
  unfold asU at h
  split at h
  ·rename_i q;cases h;rw[List.length_cons,List.length_cons,a1Y q]
  ·cases h
 | .inr _::xs,_,h=>by
  unfold asU at h
  split at h
  ·rename_i q;cases h;rw[List.length_cons,List.length_cons,a1Y q]
  ·cases h
theorem a2u:∀{xs:List (Sum Nat D)} {as:DE} {vs:List V} {p:Nat} {s:Sl},asU env xs=some as→RpU K cl σ F xs vs→as[p]? = some s →
  (∃i ds v,xs[p]? = some (.inl i)∧s=.hd ds∧env[i]? = some (.ow ds)∧vs[p]? = some v∧σ[i]? = some (some v))∨(∃d v,xs[p]? = some (.inr d)∧s=.fz d∧vs[p]? = some v∧Rp K cl F d v)
 | [],_,_,_,_,h,_,q=>by cases h;cases q
 | .inl i::xs,as,vs,p,s,h,r,q=>by
  unfold asU at h
  split at h
  ·rename_i ds as' h1 h2
   cases h
   obtain⟨v,r',rfl,e,r2⟩:=r
   cases p with
   | zero=>cases q;exact .inl ⟨i,ds,v,rfl,rfl,h1,rfl,e⟩
   | succ p=>exact a2u (p:=p) h2 r2 q
  ·cases h
 | .inr d::xs,as,vs,p,s,h,r,q=>by
  unfold asU at h
  split at h
  ·rename_i as' h2
   cases h
   obtain⟨v,r',rfl,e,r2⟩:=r
   cases p with
   | zero=>cases q;exact .inr ⟨d,v,rfl,rfl,rfl,e⟩
   | succ p=>exact a2u (p:=p) h2 r2 q
  ·cases h
theorem a3m:∀{xs:List (Sum Nat D)} {n p:Nat},p∈a3l n xs→∃i,xs[p-n]? = some (.inl i)∧n≤p
 | [],_,_,h=>by cases h
 | .inl i::xs,n,p,h=>by
  rcases List.mem_cons.mp h with rfl | h
  ·exact⟨i,by rw[Nat.sub_self];rfl,Nat.le_refl _⟩
  ·obtain⟨j,h1,h2⟩:=a3m h
   exact⟨j,by rw[show p-n=(p-(n+1))+1 by omega];exact h1,by omega⟩
 | .inr d::xs,n,p,h=>by
  obtain⟨j,h1,h2⟩:=a3m (show p∈a3l (n+1) xs from h)
  exact⟨j,by rw[show p-n=(p-(n+1))+1 by omega];exact h1,by omega⟩
theorem Y2:∀{xs:List (Sum Nat D)} {n p i:Nat},xs[p]? = some (.inl i)→n+p∈a3l n xs∧i∈C0 xs
 | [],_,_,_,h=>by cases h
 | .inl j::xs,n,0,i,h=>by cases h;exact⟨List.mem_cons_self,List.mem_cons_self⟩
 | .inr d::xs,n,0,i,h=>by cases h
 | .inl j::xs,n,p+1,i,h=>by
  obtain⟨h1,h2⟩:=Y2 (n:=n+1) (show xs[p]? = _ from h)
  exact⟨List.mem_cons_of_mem _ (by rw[show n+(p+1)=n+1+p by omega];exact h1),List.mem_cons_of_mem _ h2⟩
 | .inr d::xs,n,p+1,i,h=>by
  obtain⟨h1,h2⟩:=Y2 (n:=n+1) (show xs[p]? = _ from h)
  exact⟨by rw[show n+(p+1)=n+1+p by omega];exact h1,h2⟩
theorem a3n:∀{xs:List (Sum Nat D)} {i:Nat},i∈C0 xs→∃p:Nat,xs[p]? = some (Sum.inl i)
 | [],_,h=>by cases h
 | .inl j::xs,i,h=>by
  rcases List.mem_cons.mp h with rfl | h
  ·exact⟨0,rfl⟩
  ·obtain⟨p,e⟩:=a3n h;exact⟨p+1,e⟩
 | .inr d::xs,i,h=>by obtain⟨p,e⟩:=a3n (show i∈C0 xs from h);exact⟨p+1,e⟩
theorem a2v:∀{xs:List (Sum Nat D)} {p q i:Nat},(C0 xs).Nodup→xs[p]? = some (.inl i)→xs[q]? = some (.inl i)→p=q
 | [],_,_,_,_,h,_=>by cases h
 | .inl j::xs,p,q,i,nd,h1,h2=>by
  have nd:(j::C0 xs).Nodup:=nd
  rw[List.nodup_cons]at nd
  cases p with
  | zero =>
   cases q with
   | zero=>rfl
   | succ q=>cases h1;exact absurd (Y2 (n:=0) (show xs[q]? = _ from h2)).2 nd.1
  | succ p =>
   cases q with
   | zero=>cases h2;exact absurd (Y2 (n:=0) (show xs[p]? = _ from h1)).2 nd.1
   | succ q=>rw[a2v nd.2 (show xs[p]? = _ from h1) (show xs[q]? = _ from h2)]
 | .inr d::xs,p,q,i,nd,h1,h2=>by
  cases p with
  | zero=>cases h1
  | succ p =>
   cases q with
   | zero=>cases h2
   | succ q=>rw[a2v (xs:=xs) nd (show xs[p]? = _ from h1) (show xs[q]? = _ from h2)]
theorem a2w:∀{xs:List (Sum Nat D)} {e' e1 e2:DE},a05 e1 xs e'=some e2→(C0 xs).Nodup→(∀i∈C0 xs,i<e1.length) →
  e2.length=e1.length∧(∀j,j ∉ C0 xs→e2[j]? = e1[j]?)∧∀(p j:Nat),xs[p]? = some (Sum.inl j)→∃ds,e'[p]? = some (Sl.hd ds)∧e2[j]? = some (Sl.ow ds)
 | [],_,_,_,h,_,_=>by
  unfold a05 at h
  cases h;exact⟨rfl,fun _ _=>rfl,fun _ _ q=>by cases q⟩
 | .inl i::xs,[],_,_,h,_,_=>by cases h
 | .inr i::xs,[],_,_,h,_,_=>by cases h
 | .inl i::xs,s::es,e1,e2,h,nd,hl=>by
  have nd:(i::C0 xs).Nodup:=nd
  rw[List.nodup_cons]at nd
  cases s with
  | hd ds =>
   have h:a05 (e1.set i (.ow ds)) xs es=some e2:=h
   obtain⟨h1,h2,h3⟩:=a2w h nd.2 (fun j m=>by rw[List.length_set];exact hl j (List.mem_cons_of_mem _ m))
   rw[List.length_set]at h1
   refine⟨h1,fun j n=>?_,fun p j q=>?_⟩
   ·rw[h2 j (fun m=>n (List.mem_cons_of_mem _ m)),List.getElem?_set_ne (fun z=>n (by rw[← z];exact List.mem_cons_self))]
   ·cases p with
    | zero =>
     cases q
     exact⟨ds,rfl,by rw[h2 i nd.1,List.getElem?_set_self (hl i List.mem_cons_self)]⟩
    | succ p=>exact h3 p j q
  | _=>cases h
 | .inr d::xs,s::es,e1,e2,h,nd,hl=>by
  obtain⟨h1,h2,h3⟩:=a2w (xs:=xs) (e':=es) (show a05 e1 xs es=some e2 from h) nd hl
  refine⟨h1,h2,fun p j q=>?_⟩
  cases p with
  | zero=>cases q
  | succ p=>exact h3 p j q
theorem a3o{m:Nat}{g:DE→Option DE}{t:TA}{k:UA}{E':XK}(hk:a4G K cl E t k):RfS K cl E (a5m (Y9 (spU K cl m ps g) [] E' t)) (K4 m ps g k):=by
 intro N σ H env F R h
 refine hk σ H _ env F R ((Cs.bnd h).mono fun vs H1 ⟨F1,e1,xs,fr,R1,p1,h1⟩=>?_)
 have p1:RpU K cl σ F1 xs vs:=p1
 split at h1
 ·rename_i as ha
  split at h1
  ·rename_i c
   obtain⟨nd,hp,hm⟩:=c
   split at h1
   ·rename_i e' hg
    split at h1
    ·rename_i e2 hb
     show spU K cl m ps g (vs++[]) H1 _ E'
     rw[List.append_nil]
     have lv:=p1.length
     have la:=a1Y ha
     have hv:∀(p:Nat) (v:V),vs[p]? = some v→(vs.map some)[p]? = some (some v):=fun p v e=>by rw[List.getElem?_map,e];rfl
     have own:∀(p:Nat) (ds:List D),as[p]? = some (.hd ds)→∃i a ys,xs[p]? = some (.inl i)∧e1[i]? = some (.ow ds)∧vs[p]? = some (.ref a)∧σ[i]? = some (some (.ref a))∧H1 a=some (.lst ys)∧F1 a=none∧Rps K cl F1 ds ys:=fun p ds q=>by
      rcases a2u ha p1 q with⟨i,ds',v,x1,x2,x3,x4,x5⟩ | ⟨d,v,x1,x2,_⟩
      ·cases x2
       obtain⟨a,ys,y1,y2,y3,y4⟩:=R1.mu i ds (.inl x3)
       rw[x5]at y1;cases y1
       exact⟨i,a,ys,x1,x3,x4,x5,y2,y3,y4⟩
      ·cases x2
     have mua:∀(p:Nat) (ds:List D),(as[p]? = some (.ow ds)∨as[p]? = some (.hd ds))→as[p]? = some (.hd ds):=fun p ds q=>by
      rcases q with q | q
      ·rcases a2u ha p1 q with⟨_,_,_,_,z,_⟩ | ⟨_,_,_,z,_⟩<;>cases z
      ·exact q
     have Ra:Rel K cl (vs.map some) H1 F1 as:=by
      refine⟨R1.sub,by rw[List.length_map,lv,la],fun p d q=>?_,fun p ds q=>?_,fun p q b ⟨ds,z⟩ ⟨es,z'⟩ x x'=>?_,.none fun p s ks ds q d=>?_⟩
      ·rcases a2u ha p1 q with⟨_,_,_,_,z,_⟩ | ⟨d',v,_,z,y1,y2⟩
       ·cases z
       ·cases z;exact⟨v,hv p v y1,y2⟩
      ·obtain⟨i,a,ys,_,_,x3,_,x5,x6,x7⟩:=own p ds (mua p ds q)
       exact⟨a,ys,hv p _ x3,x5,x6,x7⟩
      ·obtain⟨i,a,ys,i1,i2,i3,i4,_⟩:=own p ds (mua p ds z)
       obtain⟨j,a',ys',j1,j2,j3,j4,_⟩:=own q es (mua q es z')
       rw[hv p _ i3]at x;cases x
       rw[hv q _ j3]at x';cases x'
       have ij:i=j:=R1.inj i j b ⟨ds,.inl i2⟩ ⟨es,.inl j2⟩ i4 j4
       subst ij
       exact a2v nd i1 j1
      ·rcases a2u ha p1 q with⟨_,_,_,_,z,_⟩ | ⟨_,_,_,z,_⟩<;> (subst z;exact d)
     have na:NoOw as:=fun p s o q=>by
      rcases a2u ha p1 q with⟨_,_,_,_,z,_⟩ | ⟨_,_,_,z,_⟩<;> (subst z;exact o)
     have ph:∀p∈ps,∃ds,as[p]? = some (.hd ds):=fun p mp=>by
      rw[← hp]at mp
      obtain⟨i,z,_⟩:=a3m mp
      rw[Nat.sub_zero]at z
      have hl:p<as.length:=by rw[la];exact(List.getElem?_eq_some_iff.mp z).1
      rcases a2u ha p1 (List.getElem?_eq_getElem hl)with⟨i',ds,v,x1,x2,_⟩ | ⟨d,v,x1,_⟩
      ·exact⟨ds,by rw[List.getElem?_eq_getElem hl,x2]⟩
      ·rw[z]at x1;cases x1
     refine⟨as,F1,by rw[lv];exact hm,by rw[la];exact hm,Ra,na,ph,?_⟩
     rw[hg]
     intro σ' H' F' S
     -- the names that were handed
     have hnm:∀i∈C0 xs,∃p ds a,xs[p]? = some (.inl i)∧p∈ps∧e1[i]? = some (.ow ds)∧σ[i]? = some (some (.ref a))∧adU vs p=a:=fun i mi=>by
      obtain⟨p,z⟩:=a3n mi
      have hl:p<as.length:=by rw[la];exact(List.getElem?_eq_some_iff.mp z).1
      have mp:p∈ps:=by rw[← hp];have:=(Y2 (n:=0) z).1;rwa [Nat.zero_add]at this
      obtain⟨ds,q⟩:=ph p mp
      obtain⟨i',a,ys,i1,i2,i3,i4,_⟩:=own p ds q
      rw[z]at i1;cases i1
      exact⟨p,ds,a,z,mp,i2,i4,by unfold adU;rw[i3]⟩
     have adr:∀p∈ps,∃i ds a,i∈C0 xs∧e1[i]? = some (.ow ds)∧σ[i]? = some (some (.ref a))∧adU vs p=a∧H1 a≠none:=fun p mp=>by
      obtain⟨ds,q⟩:=ph p mp
      obtain⟨i,a,ys,i1,i2,i3,i4,i5,_⟩:=own p ds q
      exact⟨i,ds,a,(Y2 (n:=0) i1).2,i2,i4,by unfold adU;rw[i3],by rw[i5];exact fun z=>by cases z⟩
     obtain⟨l2,o2,b2⟩:=a2w hb nd (fun i mi=>by obtain⟨p,ds,a,_,_,x,_⟩:=hnm i mi;exact(List.getElem?_eq_some_iff.mp x).1)
     have far:∀(j:Nat) (fs:List D) (b:Addr),(e1[j]? = some (.ow fs)∨e1[j]? = some (.hd fs))→j ∉ C0 xs→σ[j]? = some (some (.ref b))→∀p∈ps,b≠adU vs p:=fun j fs b q n e p mp z=>by
      obtain⟨i,ds,a,mi,x1,x2,x3,_⟩:=adr p mp
      have ji:j=i:=R1.inj j i b ⟨fs,q⟩ ⟨ds,.inl x1⟩ e (by rw[z,x3];exact x2)
      exact n (by rw[ji];exact mi)
     have farD:∀(a:Addr) (o:HO),H1 a=some o→(∀ys,o≠.lst ys)→∀p∈ps,a≠adU vs p:=fun a o e n p mp z=>by
      obtain⟨ds,q⟩:=ph p mp
      obtain⟨i,a',ys,_,_,i3,_,i5,_⟩:=own p ds q
      have:adU vs p=a':=by unfold adU;rw[i3]
      rw[z,this,i5]at e
      exact n ys (Option.some.inj e).symm
     have R2:Rel K cl σ H' F' e2:=by
      have handed:∀j∈C0 xs,∃ds a ys,e2[j]? = some (.ow ds)∧σ[j]? = some (some (.ref a))∧H' a=some (.lst ys)∧F' a=none∧Rps K cl F' ds ys:=fun j mj=>by
       obtain⟨p,ds0,a,x1,x2,x3,x4,x5⟩:=hnm j mj
       obtain⟨ds,y1,y2⟩:=b2 p j x1
       obtain⟨s1,_⟩:=S.pn p x2
       obtain⟨a',ys,z1,z2,z3,z4⟩:=S.rel.mu p ds (.inr y1)
       rw[s1,x5]at z1;cases z1
       exact⟨ds,a,ys,y2,x4,z2,z3,z4⟩
      have muE:∀(j:Nat) (fs:List D),(e2[j]? = some (.ow fs)∨e2[j]? = some (.hd fs))→∃gs,e1[j]? = some (.ow gs)∨e1[j]? = some (.hd gs):=fun j fs q=>by
       by_cases mj:j∈C0 xs
       ·obtain⟨p,ds,a,_,_,x,_⟩:=hnm j mj;exact⟨ds,.inl x⟩
       ·rw[o2 j mj]at q;exact⟨fs,q⟩
      refine⟨S.rel.sub,by rw[l2];exact R1.len,fun j d q=>?_,fun j fs q=>?_,fun j l b ⟨fs,q⟩ ⟨gs,q'⟩ x x'=>?_,R1.od.to (fun j s ks ds q d=>?_) (fun j a ks ys e h f=>?_) S.fz⟩
      ·have nj:j ∉ C0 xs:=fun mj=>by obtain⟨ds,a,ys,x,_⟩:=handed j mj;rw[q]at x;cases x
       rw[o2 j nj]at q
       obtain⟨v,x,y⟩:=R1.fz j d q
       exact⟨v,x,Rp.mono S.fz _ _ y⟩
      ·by_cases mj:j∈C0 xs
       ·obtain⟨ds,a,ys,x,y⟩:=handed j mj
        have:fs=ds:=by
         rcases q with q | q
         ·rw[q]at x;cases x;rfl
         ·rw[q]at x;cases x
        subst this
        exact⟨a,ys,y⟩
       ·rw[o2 j mj]at q
        obtain⟨b,zs,x1,x2,x3,x4⟩:=R1.mu j fs q
        obtain⟨y1,y2,_⟩:=S.hid b _ (far j fs b q mj x1) x2 x3
        exact⟨b,zs,x1,y1,y2,x4.mono S.fz⟩
      ·obtain⟨fs',q⟩:=muE j fs q
       obtain⟨gs',q'⟩:=muE l gs q'
       exact R1.inj j l b ⟨fs',q⟩ ⟨gs',q'⟩ x x'
      ·have nj:j ∉ C0 xs:=fun mj=>by obtain⟨ds,a,ys,x,_⟩:=handed j mj;rw[q]at x;cases x;exact d
       rw[o2 j nj]at q
       exact⟨s,q,d,rfl⟩
      ·obtain⟨y1,y2,_⟩:=S.hid a _ (farD a _ h (fun _=>a2I)) h f
       exact⟨y1,y2⟩
     have ow12:∀b,Ow σ e2 b→Ow σ e1 b:=fun b ⟨j,s,oo,q,e⟩=>by
      by_cases mj:j∈C0 xs
      ·obtain⟨p,ds,a,_,_,x,_⟩:=hnm j mj
       exact⟨j,.ow ds,True.intro,x,e⟩
      ·rw[o2 j mj]at q;exact⟨j,s,oo,q,e⟩
     have Fr2:Frm σ H1 F1 e1 σ H' F' e2:=by
      refine⟨S.fz,fun b o hb' fb w=>?_,fun j fs q=>?_,S.dom⟩
      ·obtain⟨y1,y2,_⟩:=S.hid b o (fun p mp z=>by
        obtain⟨i,ds,a,mi,x1,x2,x3,_⟩:=adr p mp
        exact w ⟨i,.ow ds,True.intro,x1,by rw[z,x3];exact x2⟩) hb' fb
       exact⟨y1,y2,fun z=>w (ow12 b z)⟩
      ·have nj:j ∉ C0 xs:=fun mj=>by obtain⟨p,ds,a,_,_,x,_⟩:=hnm j mj;rw[q]at x;cases x
       exact⟨by rw[o2 j nj];exact q,rfl⟩
     exact h1 σ H' F' (fr.trans Fr2) R2
    ·exact h1.elim
   ·exact h1.elim
  ·exact h1.elim
 ·exact h1.elim
end
def a1m(i j k:Nat)(g:List D→Option R1)(f:AF):SF:=fun e=>match f (Q8 e)with
 | some (.ok ds _)=>(match g ds with
  | some (.owz [d1,d2,d3])=>if i=j∨i=k∨j=k then none else if noLs d1=true∧noLs d2=true∧noLs d3=true then(match e[i]?,e[j]?,e[k]? with
   | some .no,some .no,some .no=>some (.nx (((e.set i (.ow d1)).set j (.ow d2)).set k (.ow d3)))
   | _,_,_=>none)else none
  | _=>none)
 | _=>none
section
variable {K:W.Frag}{cl:Str→Addr}{E:XK}
theorem a9J{i j k:Nat}{g:List D→Option R1}{t:TA}{f:AF}{E':XK}(hf:RfA K cl E t f):RfS K cl E (a0d (Y9 (k8 K cl g) [] E' t) (a5A K 3 (a1v (S3 i) (a1v (S3 j) (a1v (S3 k) a7L))))) (a1m i j k g f):=by
 intro N σ H env F R h1
 obtain⟨F1,R1,o1,o2⟩:=a4z R
 refine hf σ H _ (Q8 env) F1 R1 ?_
 unfold a1m at h1
 split at h1
 ·rename_i ds e2 qf
  rw[qf]
  intro vs H1 Fa fr Ra p1
  show k8 K cl g (vs++[]) H1 _ E'
  rw[List.append_nil]
  refine⟨ds,Fa,Ra.sub,p1,?_⟩
  split at h1
  ·rename_i d1 d2 d3 q;rw[q]
   intro p as H' F' gr hp ht fp rz
   obtain⟨F2,fr2,R2,gg,n2⟩:=a0N R o1 o2 ((fr.trans (Ra.frm gr)).toFX gr.sub)
   split at h1
   ·exact h1.elim
   rename_i nij
   have nij1:i≠j:=fun z=>nij (.inl z)
   have nij2:i≠k:=fun z=>nij (.inr (.inl z))
   have nij3:j≠k:=fun z=>nij (.inr (.inr z))
   split at h1
   ·rename_i cc
    obtain⟨c1,c2,c3⟩:=cc
    split at h1
    ·rename_i qi qj qk
     obtain⟨nd,hl,hz⟩:=rz
     match as,hl with
     | [a1,a2,a3],_ =>
      have n12:a1≠a2:=by intro z;rw[z]at nd;simp at nd
      have n13:a1≠a3:=by intro z;rw[z]at nd;simp at nd
      have n23:a2≠a3:=by intro z;rw[z]at nd;simp at nd
      obtain⟨xs1,hH1,hF1,w1,r1⟩:=hz 0 a1 d1 rfl rfl
      obtain⟨xs2,hH2,hF2,w2,r2⟩:=hz 1 a2 d2 rfl rfl
      obtain⟨xs3,hH3,hF3,w3,r3⟩:=hz 2 a3 d3 rfl rfl
      have w1':H a1=none:=fr.dom a1 w1
      have w2':H a2=none:=fr.dom a2 w2
      have w3':H a3=none:=fr.dom a3 w3
      have hi:i<env.length:=(List.getElem?_eq_some_iff.mp qi).1
      have hj:j<env.length:=(List.getElem?_eq_some_iff.mp qj).1
      have hk:k<env.length:=(List.getElem?_eq_some_iff.mp qk).1
      have far:∀a,H a=none→∀m,Mu env m→σ[m]?≠some (some (.ref a)):=fun a ha m ⟨es,qm⟩ e=>by
       obtain⟨b,ys,e',hb,_⟩:=R.mu m es qm
       rw[e]at e';cases e'
       rw[ha]at hb;cases hb
      have far2:∀m,Mu (env.set i (.ow d1)) m→(σ.set i (some (.ref a1)))[m]?≠some (some (.ref a2)):=fun m mm=>by
       by_cases z:m=i
       ·subst z
        rw[List.getElem?_set_self (by rw[R2.len];exact hi)]
        intro y;cases y;exact n12 rfl
       ·rw[List.getElem?_set_ne (Ne.symm z)]
        obtain⟨es,qk⟩:=mm
        rw[List.getElem?_set_ne (Ne.symm z)]at qk
        exact far a2 w2' m ⟨es,qk⟩
      have far3:∀m,Mu ((env.set i (.ow d1)).set j (.ow d2)) m→((σ.set i (some (.ref a1))).set j (some (.ref a2)))[m]?≠some (some (.ref a3)):=fun m mm=>by
       by_cases z:m=j
       ·subst z
        rw[List.getElem?_set_self (by rw[List.length_set,R2.len];exact hj)]
        intro y;cases y;exact n23 rfl
       ·rw[List.getElem?_set_ne (Ne.symm z)]
        obtain⟨es,qm⟩:=mm
        rw[List.getElem?_set_ne (Ne.symm z)]at qm
        by_cases z':m=i
        ·subst z'
         rw[List.getElem?_set_self (by rw[R2.len];exact hi)]
         intro y;cases y;exact n13 rfl
        ·rw[List.getElem?_set_ne (Ne.symm z')]
         rw[List.getElem?_set_ne (Ne.symm z')]at qm
         exact far a3 w3' m ⟨es,qm⟩
      have R5:=R2.putO hi hH1 (n2 _ hF1) (far a1 w1') (Rps.noL gg _ _ c1 r1)
      have R3:=R5.putO (i:=j) (ds:=d2) (by rw[List.length_set];exact hj) hH2 (n2 _ hF2) far2 (Rps.noL gg _ _ c2 r2)
      have R4:=R3.putO (i:=k) (ds:=d3) (by rw[List.length_set,List.length_set];exact hk) hH3 (n2 _ hF3) far3 (Rps.noL gg _ _ c3 r3)
      have f2:Frm σ H F env (σ.set i (some (.ref a1))) H' F2 (env.set i (.ow d1)):=fr2.putO w1' (fun es z=>by rw[qi]at z;cases z)
      have f3:Frm σ H F env ((σ.set i (some (.ref a1))).set j (some (.ref a2))) H' F2 ((env.set i (.ow d1)).set j (.ow d2)):=f2.putO w2' (fun es z=>by rw[List.getElem?_set_ne nij1,qj]at z;cases z)
      have f4:Frm σ H F env (((σ.set i (some (.ref a1))).set j (some (.ref a2))).set k (some (.ref a3))) H' F2 (((env.set i (.ow d1)).set j (.ow d2)).set k (.ow d3)):=f3.putO w3' (fun es z=>by rw[List.getElem?_set_ne nij3,List.getElem?_set_ne nij2,qk]at z;cases z)
      exact⟨p,_,rfl,.of ht,rfl,_,_,rfl,_,_,rfl,_,_,rfl,rfl,h1 _ H' F2 f4 R4⟩
    ·exact h1.elim
   ·exact h1.elim
  ·exact h1.elim
 ·exact h1.elim
def a2R(i j:Nat)(g:List D→Option R1)(f:AF):SF:=fun e=>O4 (f e) fun ds e1=>match g ds with
 | some (.owz [d1,d2])=>if i=j then none else(match e1[i]?,e1[j]? with
  | some .no,some .no=>some (.nx ((e1.set i (.ow d1)).set j (.ow d2)))
  | _,_=>none)
 | _=>none
theorem a9K{i j:Nat}{g:List D→Option R1}{t:TA}{f:AF}{E':XK}(hf:RfA K cl E t f):RfS K cl E (a0d (Y9 (k8 K cl g) [] E' t) (a5A K 2 (a1v (S3 i) (a1v (S3 j) a7L)))) (a2R i j g f):=by
 intro N σ H env F R h
 refine hf σ H _ env F R ((Cs.bnd h).mono fun vs H1 ⟨F1,e1,ds,fr,R1,p1,h1⟩=>?_)
 show k8 K cl g (vs++[]) H1 _ E'
 rw[List.append_nil]
 refine⟨ds,F1,R1.sub,p1,?_⟩
 split at h1
 ·rename_i d1 d2 q;rw[q]
  intro p as H' F' gr hp ht fp rz
  split at h1
  ·exact h1.elim
  ·rename_i nij
   split at h1
   ·rename_i qi qj
    obtain⟨nd,hl,hz⟩:=rz
    match as,hl with
    | [a1,a2],_ =>
     have n12:a1≠a2:=by intro z;rw[z]at nd;simp at nd
     obtain⟨xs1,hH1,hF1,w1,r1⟩:=hz 0 a1 d1 rfl rfl
     obtain⟨xs2,hH2,hF2,w2,r2⟩:=hz 1 a2 d2 rfl rfl
     have hi:i<e1.length:=(List.getElem?_eq_some_iff.mp qi).1
     have hj:j<e1.length:=(List.getElem?_eq_some_iff.mp qj).1
     have Rg:=R1.gr gr
     have far:∀a,H1 a=none→∀k,Mu e1 k→σ[k]?≠some (some (.ref a)):=fun a ha k ⟨es,qk⟩ e=>by
      obtain⟨b,ys,e',hb,_⟩:=R1.mu k es qk
      rw[e]at e';cases e'
      rw[ha]at hb;cases hb
     have R2:=Rg.putO hi hH1 hF1 (far a1 w1) r1
     have R3:=R2.putO (i:=j) (ds:=d2) (by rw[List.length_set];exact hj) hH2 hF2 (fun k mk=>?_) r2
     ·have f2:Frm σ H F env (σ.set i (some (.ref a1))) H' F' (e1.set i (.ow d1)):=(fr.trans (R1.frm gr)).putO (fr.dom a1 w1) (fun es z=>by rw[qi]at z;cases z)
      have f3:Frm σ H F env ((σ.set i (some (.ref a1))).set j (some (.ref a2))) H' F' ((e1.set i (.ow d1)).set j (.ow d2)):=f2.putO (fr.dom a2 w2) (fun es z=>by rw[List.getElem?_set_ne nij,qj]at z;cases z)
      exact⟨p,_,rfl,.of ht,rfl,_,_,rfl,_,_,rfl,rfl,h1 _ H' F' f3 R3⟩
     ·by_cases z:k=i
      ·subst z
       rw[List.getElem?_set_self (by rw[Rg.len];exact hi)]
       intro y;cases y;exact n12 rfl
      ·rw[List.getElem?_set_ne (Ne.symm z)]
       obtain⟨es,qk⟩:=mk
       rw[List.getElem?_set_ne (Ne.symm z)]at qk
       exact far a2 w2 k ⟨es,qk⟩
   ·exact h1.elim
 ·exact h1.elim
end
end L2
namespace Law
open PySem L2 PyProof.Rows
def R0(i:Nat):Stmt:=PySem.Challenge.pw_cratefit_k58_first_fault_of_a_plan.main.body.getD i (.Pass ⟨0,0,0,0⟩)
abbrev J6:Stmt:=R0 4
abbrev S7:Stmt:=R0 5
abbrev Y3:Stmt:=R0 7
abbrev S8:Stmt:=R0 8
abbrev Q4:Stmt:=R0 9
abbrev S9:Stmt:=R0 10
abbrev G5:Stmt:=R0 11
abbrev N9:Stmt:=R0 12
abbrev V2:Stmt:=R0 14
abbrev Y4:Stmt:=R0 15
abbrev a0y:Stmt:=R0 16
abbrev a0z:Stmt:=R0 17
abbrev V3:Stmt:=R0 18
abbrev Y5:Stmt:=R0 19
abbrev T2:Stmt:=R0 20
abbrev F7:Stmt:=R0 21
abbrev Y6:Stmt:=R0 22
abbrev J7:Stmt:=R0 23
abbrev T3:Stmt:=R0 24
abbrev L5:Stmt:=R0 25
abbrev V4:Stmt:=R0 26
abbrev J8:Stmt:=R0 27
abbrev O0:Stmt:=R0 28
abbrev Z3:Stmt:=R0 29
variable {P:Program}{w:World}{K:PySem.W.Frag}{mg:Str→Option Value}{base:Heap}{c:Str→Addr}
structure Txt(K:PySem.W.Frag)(mg:Str→Option Value)(c:Str→Addr):Prop where
 z_bool:mg "bool" = none
 z_int:mg "int" = none
 z_isinstance:mg "isinstance" = none
 z_len:mg "len" = none
 z_list:mg "list" = none
 z_max:mg "max" = none
 z_range:mg "range" = none
 z_sorted:mg "sorted" = none
 z_str:mg "str" = none
 z_tuple:mg "tuple" = none
 m_BadTurn:mg "BadTurn" = some (.ref (c "BadTurn"))
 x_BadTurn:PySem.W.excIn K (c "BadTurn") a5N "ValueError.__new__" = true
def a1n:SF:=(j5 (a2j (eB gGe (eV 1) (eC (.int 0))) (eB gLt (eV 1) (A4 u6 0))))
def A2:List D→Option R1:=fD 2 2 a1n
theorem a4a:FnScope ["wares","k"] ["wares","k"] (d9 J6):=⟨rfl,rfl,rfl,by decide +kernel,rfl,by decide +kernel,by decide +kernel⟩
seal PSs PS PE PA PT
theorem a4b{f:Addr}{fd:FuncData}(F:Fun K "is_number_of" "is_number_of" J6 f fd)(T:Txt K mg c)  : FnOk P w K mg base (A6 P w) 3 f fd ["wares","k"] (k8 K c A2) :=
 F.okD (k:=2) a4a fun cdv A outer s H E hr=>⟨_,(g6 (l7 (a3x (C4 a7T (pv 1) a8 (i8 _)) (a3w (C4 a1w (pv 1) (n8 (j0 (K:=K)) rfl T.z_len B5 (a6 (pv 0) c6)) (i8 _)))))),(m9 (a3T (a7 a8e b0 b9) (a7 a1I b0 (E4 B8))))⟩
def a8A:SF:=(d6 (a1a (eV 0) (K2 [(g9 2),(g9 3),(g9 4)])) (d6 (n6 (Q7 (bZ (eV 1))) (j5 (eT (aC (eV 2) (aC (eV 3) aN)))) t4) (d6 (n6 (Q7 (bZ (eV 4))) (a53 "BadTurn" (aC (eC (.str "a ware that may not be turned has no sides turned")) aN)) t4) (j5 (eT (aC (eV 3) (aC (eV 2) aN)))))))
def F8:List D→Option R1:=fD 5 2 a8A
theorem Z4:FnScope ["ware","lie","w","h","turns"] ["ware","lie"] (d9 S7):=⟨rfl,rfl,rfl,by decide +kernel,rfl,by decide +kernel,by decide +kernel⟩
theorem a6N{f:Addr}{fd:FuncData}(F:Fun K "sides_of" "sides_of" S7 f fd)(T:Txt K mg c)  : FnOk P w K mg base (A6 P w) 3 f fd ["ware","lie"] (k8 K c F8) :=
 F.okD (k:=2) Z4 fun cdv A outer s H E hr=>⟨_,(c8 (L6 (pv 0) (U8 (K:=K) (n:=3) rfl (z8 (r9 (i:=2) Z4.nd rfl (Or.inl rfl)) (z8 (r9 (i:=3) Z4.nd rfl (Or.inl rfl)) (z8 (r9 (i:=4) Z4.nd rfl (Or.inl rfl)) U7))))) (c8 (w4 (V7 (G9 (pv 1))) (g6 (l7 (i0 (a6 (pv 2) (a6 (pv 3) c6))))) k9) (c8 (w4 (V7 (G9 (pv 4))) (g6 (b0k a2F T.x_BadTurn rfl T.m_BadTurn (a6 A3 c6))) k9) (g6 (l7 (i0 (a6 (pv 3) (a6 (pv 2) c6)))))))),(g8 (a2m b0 (a0v (C9 (t8 (k:=5) (by decide)) (C9 (t8 (k:=5) (by decide)) (C9 (t8 (k:=5) (by decide)) a0u))) rfl)) (g8 (u0 (S6 (L9 b0)) (m9 (t5 (a9 b0 (a9 b0 g5)))) y6) (g8 (u0 (S6 (L9 b0)) (b0C (a9 b9 g5)) y6) (m9 (t5 (a9 b0 (a9 b0 g5)))))))⟩
def b06:SF:=(j5 (eB (X5 false) (eB c7 (eV 0) (eC (.int 0))) (eT (aC (eC (.str "across")) (aC (eC (.str "up")) aN)))))
def B0:List D→Option R1:=fD 1 1 b06
theorem a9L:FnScope ["plan"] ["plan"] (d9 Y3):=⟨rfl,rfl,rfl,by decide +kernel,rfl,by decide +kernel,by decide +kernel⟩
theorem a9M{f:Addr}{fd:FuncData}(F:Fun K "is_cut" "is_cut" Y3 f fd)(T:Txt K mg c)  : FnOk P w K mg base (A6 P w) 3 f fd ["plan"] (k8 K c B0) :=
 F.okD (k:=2) a9L fun cdv A outer s H E hr=>⟨_,(g6 (l7 (C4 (a89 (K:=K)) (d5 (c9 (K:=K)) (pv 0) a8 '#') (i0 (a6 A3 (a6 A3 c6))) (by with_unfolding_all rfl)))),(m9 (a7 a8t (a7 d7 b0 b9) (t5 (a9 b9 (a9 b9 g5)))))⟩
def a4c:SF:=(j5 (eIf (bZ (eB (i7 false) (eB c7 (eV 1) (eC (.int 0))) (eC (.str "across")))) (eB n9 (eB c7 (eV 0) (eC (.int 2))) (eB c7 (eV 0) (eC (.int 0)))) (eB n9 (eB c7 (eV 0) (eC (.int 3))) (eB c7 (eV 0) (eC (.int 1))))))
def B3:List D→Option R1:=fD 2 2 a4c
theorem a6O:FnScope ["spot","plan"] ["spot","plan"] (d9 S8):=⟨rfl,rfl,rfl,by decide +kernel,rfl,by decide +kernel,by decide +kernel⟩
theorem a6P{f:Addr}{fd:FuncData}(F:Fun K "cut_side" "cut_side" S8 f fd)(T:Txt K mg c)  : FnOk P w K mg base (A6 P w) 3 f fd ["spot","plan"] (k8 K c B3) :=
 F.okD (k:=2) a6O fun cdv A outer s H E hr=>⟨_,(g6 (l7 (a95 (j7 C7 (d5 (c9 (K:=K)) (pv 1) a8 '#') A3 (i8 _)) (h7 B4 (d5 (c9 (K:=K)) (pv 0) a8 '#') (d5 (c9 (K:=K)) (pv 0) a8 '#')) (h7 B4 (d5 (c9 (K:=K)) (pv 0) a8 '#') (d5 (c9 (K:=K)) (pv 0) a8 '#'))))),(m9 (b5h (u9 (a7 C8 (a7 d7 b0 b9) b9)) (a7 B7 (a7 d7 b0 b9) (a7 d7 b0 b9)) (a7 B7 (a7 d7 b0 b9) (a7 d7 b0 b9))))⟩
noncomputable def a28:SF:=(d6 (a1a (eV 0) (K2 [(g9 2),(g9 3),(g9 4),(g9 5)])) (d6 (j9 6 (eB c7 (eV 1) (eC (.int 1)))) (d6 (n6 (bZ (eB (i7 false) (eB c7 (eV 1) (eC (.int 0))) (eC (.str "across")))) (j5 (eT (aC (eT (aC (eV 2) (aC (eV 3) (aC (eB v8 (eV 2) (eV 6)) (aC (eV 5) aN))))) (aC (eT (aC (eB v8 (eV 2) (eV 6)) (aC (eV 3) (aC (eV 4) (aC (eV 5) aN))))) aN)))) t4) (j5 (eT (aC (eT (aC (eV 2) (aC (eV 3) (aC (eV 4) (aC (eB v8 (eV 3) (eV 6)) aN))))) (aC (eT (aC (eV 2) (aC (eB v8 (eV 3) (eV 6)) (aC (eV 4) (aC (eV 5) aN))))) aN)))))))
noncomputable def F9:List D→Option R1:=fD 7 2 a28
theorem O1:FnScope ["spot","plan","x","y","x2","y2","at"] ["spot","plan"] (d9 Q4):=⟨rfl,rfl,rfl,by decide +kernel,rfl,by decide +kernel,by decide +kernel⟩
theorem a6l{f:Addr}{fd:FuncData}(F:Fun K "cut_spots" "cut_spots" Q4 f fd)(T:Txt K mg c)  : FnOk P w K mg base (A6 P w) 3 f fd ["spot","plan"] (k8 K c F9) :=
 F.okD (k:=2) O1 fun cdv A outer s H E hr=>⟨_,(c8 (L6 (pv 0) (U8 (K:=K) (n:=4) rfl (z8 (r9 (i:=2) O1.nd rfl (Or.inl rfl)) (z8 (r9 (i:=3) O1.nd rfl (Or.inl rfl)) (z8 (r9 (i:=4) O1.nd rfl (Or.inl rfl)) (z8 (r9 (i:=5) O1.nd rfl (Or.inl rfl)) U7)))))) (c8 (i9 (i:=6) O1.nd rfl (Or.inl rfl) (d5 (c9 (K:=K)) (pv 1) a8 '#')) (c8 (w4 (j7 C7 (d5 (c9 (K:=K)) (pv 1) a8 '#') A3 (i8 _)) (g6 (l7 (i0 (a6 (i0 (a6 (pv 2) (a6 (pv 3) (a6 (h7 z9 (pv 2) (pv 6)) (a6 (pv 5) c6))))) (a6 (i0 (a6 (h7 z9 (pv 2) (pv 6)) (a6 (pv 3) (a6 (pv 4) (a6 (pv 5) c6))))) c6))))) k9) (g6 (l7 (i0 (a6 (i0 (a6 (pv 2) (a6 (pv 3) (a6 (pv 4) (a6 (h7 z9 (pv 3) (pv 6)) c6))))) (a6 (i0 (a6 (pv 2) (a6 (h7 z9 (pv 3) (pv 6)) (a6 (pv 4) (a6 (pv 5) c6))))) c6)))))))),(g8 (a2m b0 (a0v (C9 (t8 (k:=7) (by decide)) (C9 (t8 (k:=7) (by decide)) (C9 (t8 (k:=7) (by decide)) (C9 (t8 (k:=7) (by decide)) a0u)))) rfl)) (g8 (v3 (a7 d7 b0 b9)) (g8 (u0 (u9 (a7 C8 (a7 d7 b0 b9) b9)) (m9 (t5 (a9 (t5 (a9 b0 (a9 b0 (a9 (a7 A1 b0 b0) (a9 b0 g5))))) (a9 (t5 (a9 (a7 A1 b0 b0) (a9 b0 (a9 b0 (a9 b0 g5))))) g5)))) y6) (m9 (t5 (a9 (t5 (a9 b0 (a9 b0 (a9 b0 (a9 (a7 A1 b0 b0) g5))))) (a9 (t5 (a9 b0 (a9 (a7 A1 b0 b0) (a9 b0 (a9 b0 g5))))) g5)))))))⟩
noncomputable def a8B:SF:=(d6 (A5 2 (eL aN)) (d6 (A5 3 (eL (aC (eT (aC (eT (aC (eC (.int 0)) (aC (eC (.int 0)) (aC (eB c7 (eV 0) (eC (.int 0))) (aC (eB c7 (eV 0) (eC (.int 1))) aN))))) (aC (eV 1) aN))) aN))) (d6 (E7 (bZ (eB gGt (A4 u6 3) (eC (.int 0)))) (d6 (a1a (a0h 3) (K2 [(g9 4),(g9 5)])) (d6 (D5 2 (eT (aC (eV 4) (aC (eV 5) aN)))) (n6 (bZ (h8 B0 (aC (eV 5) aN))) (d6 (a1a (h8 F9 (aC (eV 4) (aC (eV 5) aN))) (K2 [(g9 6),(g9 7)])) (d6 (D5 3 (eT (aC (eV 7) (aC (eB c7 (eV 5) (eC (.int 3))) aN)))) (D5 3 (eT (aC (eV 6) (aC (eB c7 (eV 5) (eC (.int 2))) aN)))))) t4))) 1000000) (a3Y 2))))
noncomputable def M3:List D→Option R1:=fD 8 2 a8B
theorem M9:FnScope ["box","plan","nodes","waiting","spot","part","first","second"] ["box","plan"] (d9 S9):=⟨rfl,rfl,rfl,by decide +kernel,rfl,by decide +kernel,by decide +kernel⟩
theorem a6Q{f:Addr}{fd:FuncData}(F:Fun K "nodes_of" "nodes_of" S9 f fd)(T:Txt K mg c)(G_is_cut:Own P w K mg base 3 "is_cut" ["plan"] (k8 K c B0))(G_cut_spots:Own P w K mg base 3 "cut_spots" ["spot","plan"] (k8 K c F9)):FnOk P w K mg base (A6 P w) 5 f fd ["box","plan"] (k8 K c M3) :=
 F.okD (k:=4) M9 fun cdv A outer s H E hr=>⟨_,(c8 (i9 (i:=2) M9.nd rfl (Or.inl rfl) (V8 c6)) (c8 (i9 (i:=3) M9.nd rfl (Or.inl rfl) (V8 (a6 (i0 (a6 (i0 (a6 a8 (a6 a8 (a6 (d5 (c9 (K:=K)) (pv 0) a8 '#') (a6 (d5 (c9 (K:=K)) (pv 0) a8 '#') c6))))) (a6 (pv 1) c6))) c6))) (c8 (a5B PassesOwn.leaving (j7 a2E (n8 (j0 (K:=K)) rfl T.z_len B5 (a6 (pv 3) c6)) a8 (i8 _)) (c8 (L6 (a4k (K:=K) PySem.F.plainAttrs_list PySem.F.slot_list_pop PySem.F.type_list_pop a5K (pv 3)) (U8 (K:=K) (n:=2) rfl (z8 (r9 (i:=4) M9.nd rfl (Or.inl rfl)) (z8 (r9 (i:=5) M9.nd rfl (Or.inl rfl)) U7)))) (c8 (D1 (L8 (K:=K) PySem.F.plainAttrs_list PySem.F.slot_list_append PySem.F.type_list_append C3 (pv 2) (a6 (i0 (a6 (pv 4) (a6 (pv 5) c6))) c6))) (g6 (w4 (G9 (t7 G_is_cut hr (by decide) u5 (a6 (pv 5) c6))) (c8 (L6 (t7 G_cut_spots hr (by decide) u5 (a6 (pv 4) (a6 (pv 5) c6))) (U8 (K:=K) (n:=2) rfl (z8 (r9 (i:=6) M9.nd rfl (Or.inl rfl)) (z8 (r9 (i:=7) M9.nd rfl (Or.inl rfl)) U7)))) (c8 (D1 (L8 (K:=K) PySem.F.plainAttrs_list PySem.F.slot_list_append PySem.F.type_list_append C3 (pv 3) (a6 (i0 (a6 (pv 7) (a6 (d5 (c9 (K:=K)) (pv 5) a8 '#') c6))) c6))) (g6 (D1 (L8 (K:=K) PySem.F.plainAttrs_list PySem.F.slot_list_append PySem.F.type_list_append C3 (pv 3) (a6 (i0 (a6 (pv 6) (a6 (d5 (c9 (K:=K)) (pv 5) a8 '#') c6))) c6)))))) k9))))) (g6 (l7 (pv 2)))))),(g8 (J5 (a1G g5)) (g8 (J5 (a1G (a9 (t5 (a9 (t5 (a9 b9 (a9 b9 (a9 (a7 d7 b0 b9) (a9 (a7 d7 b0 b9) g5))))) (a9 b0 g5))) g5))) (g8 (a56 (u9 (a7 a2K (E4 B8) b9)) (g8 (a2m a59 (a0v (C9 (t8 (k:=8) (by decide)) (C9 (t8 (k:=8) (by decide)) a0u)) rfl)) (g8 (N7 (t5 (a9 b0 (a9 b0 g5)))) (u0 (L9 (u7 (a9 b0 g5))) (g8 (a2m (u7 (a9 b0 (a9 b0 g5))) (a0v (C9 (t8 (k:=8) (by decide)) (C9 (t8 (k:=8) (by decide)) a0u)) rfl)) (g8 (N7 (t5 (a9 b0 (a9 (a7 d7 b0 b9) g5)))) (N7 (t5 (a9 b0 (a9 (a7 d7 b0 b9) g5)))))) y6)))) b2p)))⟩
noncomputable def a4d:SF:=(d6 (j9 4 (eB c7 (eV 2) (eC (.int 1)))) (d6 (j9 5 (eB c7 (eV 2) (eC (.int 2)))) (d6 (n6 (bOr (Q7 (bZ (h8 A2 (aC (eV 0) (aC (eV 4) aN))))) (bOr (bZ (a8u (eV 4) 3)) (M8 (bZ (eV 5)) (Q7 (bZ (eB c7 (k7 h9 0 (eV 4)) (eC (.int 2)))))))) (j5 (eC (.bl false))) t4) (j5 (eB (G8 false) (a2L F8 (aC (k7 h9 0 (eV 4)) (aC (eV 5) aN))) (eT (aC (eB n9 (eB c7 (eV 1) (eC (.int 2))) (eB c7 (eV 1) (eC (.int 0)))) (aC (eB n9 (eB c7 (eV 1) (eC (.int 3))) (eB c7 (eV 1) (eC (.int 1)))) aN))))))))
noncomputable def v5:List D→Option R1:=fD 6 4 a4d
theorem U5:FnScope ["wares","spot","leaf","stood","k","lie"] ["wares","spot","leaf","stood"] (d9 G5):=⟨rfl,rfl,rfl,by decide +kernel,rfl,by decide +kernel,by decide +kernel⟩
theorem a3p{f:Addr}{fd:FuncData}(F:Fun K "is_right_ware" "is_right_ware" G5 f fd)(T:Txt K mg c)(G_is_number_of:Own P w K mg base 3 "is_number_of" ["wares","k"] (k8 K c A2))(G_sides_of:Own P w K mg base 3 "sides_of" ["ware","lie"] (k8 K c F8)):FnOk P w K mg base (A6 P w) 5 f fd ["wares","spot","leaf","stood"] (k8 K c v5) :=
 F.okD (k:=4) U5 fun cdv A outer s H E hr=>⟨_,(c8 (i9 (i:=4) U5.nd rfl (Or.inl rfl) (d5 (c9 (K:=K)) (pv 2) a8 '#')) (c8 (i9 (i:=5) U5.nd rfl (Or.inl rfl) (d5 (c9 (K:=K)) (pv 2) a8 '#')) (c8 (w4 (PW.pt (a1u (V7 (G9 (t7 G_is_number_of hr (by decide) u5 (a6 (pv 0) (a6 (pv 4) c6))))) (a1u (j7 (b4I (Nat.lt_of_le_of_lt (Nat.add_le_add_left (by decide:1≤41) _) (a2o hr))) (pv 4) (pv 3) (by with_unfolding_all rfl)) (a3v (PW.pt (Z6 (G9 (pv 5)) (a0s (V7 (G9 (d5 (c9 (K:=K)) (d5 (i6 (K:=K)) (pv 0) (pv 4) '#') a8 '#')))))))))) (g6 (l7 a1t)) k9) (g6 (l7 (C4 (a7s (K:=K) (cl:=c) (a2o hr)) (t7 G_sides_of hr (by decide) (XAcc.passes a2F) (a6 (d5 (i6 (K:=K)) (pv 0) (pv 4) '#') (a6 (pv 5) c6))) (i0 (a6 (h7 B4 (d5 (c9 (K:=K)) (pv 1) a8 '#') (d5 (c9 (K:=K)) (pv 1) a8 '#')) (a6 (h7 B4 (d5 (c9 (K:=K)) (pv 1) a8 '#') (d5 (c9 (K:=K)) (pv 1) a8 '#')) c6))) (i8 _))))))),(g8 (v3 (a7 d7 b0 b9)) (g8 (v3 (a7 d7 b0 b9)) (g8 (u0 (a0H (S6 (L9 (u7 (a9 b0 (a9 b0 g5))))) (a0H (u9 (b4K b0)) (V0 (L9 b0) (S6 (L9 (a7 d7 (l9 m4 b0) b9)))))) (m9 b9) y6) (m9 (a7 a2p (a7k (a9 (l9 m4 b0) (a9 b0 g5))) (t5 (a9 (a7 B7 (a7 d7 b0 b9) (a7 d7 b0 b9)) (a9 (a7 B7 (a7 d7 b0 b9) (a7 d7 b0 b9)) g5))))))))⟩
noncomputable def a6m:SF:=(d6 (a38 3 a37) (d6 (a0J (h8 M3 (aC (eV 0) (aC (eV 2) aN)))  (K2 [(g9 4),(g9 5)]) (d6 (n6 (M8 (bZ (h8 B0 (aC (eV 5) aN))) (bOr (bZ (eB gLt (eB c7 (eV 5) (eC (.int 1))) (eC (.int 1)))) (bZ (eB gGe (eB c7 (eV 5) (eC (.int 1))) (h8 B3 (aC (eV 4) (aC (eV 5) aN))))))) (j5 (eT (aC (eC (.str "cut")) (aC (eB c7 (eV 5) (eC (.int 1))) aN)))) t4) (n6 (bZ (eB (i7 false) (eB c7 (eV 5) (eC (.int 0))) (eC (.str "ware")))) (d6 (n6 (a1R (Q7 (bZ (a2L v5 (aC (eV 1) (aC (eV 4) (aC (eV 5) (aC (eV 3) aN)))))))) (j5 (eT (aC (eC (.str "ware")) (aC (eB c7 (eV 5) (eC (.int 1))) aN)))) t4) (a5s 3 (eB c7 (eV 5) (eC (.int 1))) (eC (.bl true)))) t4))) (d6 (P4 P3 (aC (A4 u6 1) aN) (g9 6) (n6 (bZ (a8v (eV 6) 3)) (j5 (eT (aC (eC (.str "lacks")) (aC (eV 6) aN)))) t4)) (j5 (eC .non)))))
noncomputable def K5:List D→Option R1:=fD 7 3 a6m
theorem Q1:FnScope ["box","wares","plan","stood","spot","part","k"] ["box","wares","plan"] (d9 N9):=⟨rfl,rfl,rfl,by decide +kernel,rfl,by decide +kernel,by decide +kernel⟩
theorem a5g{f:Addr}{fd:FuncData}(F:Fun K "plan_fault" "plan_fault" N9 f fd)(T:Txt K mg c)(G_nodes_of:Own P w K mg base 5 "nodes_of" ["box","plan"] (k8 K c M3))(G_cut_side:Own P w K mg base 3 "cut_side" ["spot","plan"] (k8 K c B3))(G_is_cut:Own P w K mg base 3 "is_cut" ["plan"] (k8 K c B0))(G_is_right_ware:Own P w K mg base 5 "is_right_ware" ["wares","spot","leaf","stood"] (k8 K c v5)):FnOk P w K mg base (A6 P w) 7 f fd ["box","wares","plan"] (k8 K c K5) :=
 F.okD (k:=6) Q1 fun cdv A outer s H E hr=>⟨_,(c8 (i9 (i:=3) Q1.nd rfl (Or.inl rfl) b0A) (c8 (N6 PassesOwn.leaving rfl (a1e (t7 G_nodes_of hr (by decide) u5 (a6 (pv 0) (a6 (pv 2) c6)))) (U8 (K:=K) (n:=2) rfl (z8 (r9 (i:=4) Q1.nd rfl (Or.inl rfl)) (z8 (r9 (i:=5) Q1.nd rfl (Or.inl rfl)) U7))) (c8 (w4 (PW.pt (Z6 (G9 (t7 G_is_cut hr (by decide) u5 (a6 (pv 5) c6))) (a0s (PW.pt (a1u (j7 a1w (d5 (c9 (K:=K)) (pv 5) a8 '#') a8 (i8 _)) (a3v (j7 a7T (d5 (c9 (K:=K)) (pv 5) a8 '#') (t7 G_cut_side hr (by decide) u5 (a6 (pv 4) (a6 (pv 5) c6))) (i8 _)))))))) (g6 (l7 (i0 (a6 A3 (a6 (d5 (c9 (K:=K)) (pv 5) a8 '#') c6))))) k9) (g6 (w4 (j7 C7 (d5 (c9 (K:=K)) (pv 5) a8 '#') A3 (i8 _)) (c8 (w4 (V7 (G9 (t7 G_is_right_ware hr (by decide) (XAcc.passes a2F) (a6 (pv 1) (a6 (pv 4) (a6 (pv 5) (a6 (pv 3) c6))))))) (g6 (l7 (i0 (a6 A3 (a6 (d5 (c9 (K:=K)) (pv 5) a8 '#') c6))))) k9) (g6 (b2k (Nat.lt_of_le_of_lt (Nat.add_le_add_left (by decide:1≤41) _) (a2o hr)) (pv 3) (d5 (c9 (K:=K)) (pv 5) a8 '#') a1t rfl))) k9)))) (c8 (N6 PassesOwn.leaving rfl (O2 rfl T.z_range (a6 (n8 (j0 (K:=K)) rfl T.z_len B5 (a6 (pv 1) c6)) c6)) (r9 (i:=6) Q1.nd rfl (Or.inl rfl)) (g6 (w4 (j7 (b4J (Nat.lt_of_le_of_lt (Nat.add_le_add_left (by decide:1≤41) _) (a2o hr))) (pv 6) (pv 3) (by with_unfolding_all rfl)) (g6 (l7 (i0 (a6 A3 (a6 (pv 6) c6))))) k9))) (g6 (l7 R6))))),(g8 (b3j b3i) (g8 (b4o (u7 (a9 b0 (a9 b0 g5))) (a0v (C9 (t8 (k:=7) (by decide)) (C9 (t8 (k:=7) (by decide)) a0u)) rfl) (g8 (u0 (V0 (L9 (u7 (a9 b0 g5))) (a0H (u9 (a7 a1I (a7 d7 b0 b9) b9)) (u9 (a7 a8e (a7 d7 b0 b9) (u7 (a9 b0 (a9 b0 g5))))))) (m9 (t5 (a9 b9 (a9 (a7 d7 b0 b9) g5)))) y6) (u0 (u9 (a7 C8 (a7 d7 b0 b9) b9)) (g8 (u0 (a6d (S6 (L9 (a7k (a9 b0 (a9 b0 (a9 b0 (a9 b0 g5)))))))) (m9 (t5 (a9 b9 (a9 (a7 d7 b0 b9) g5)))) y6) (b3h (a7 d7 b0 b9) b9)) y6))) (g8 (X9 (a9 (E4 B8) g5) (t8 (k:=7) (by decide)) (u0 (u9 (b4L b0)) (m9 (t5 (a9 b9 (a9 b0 g5)))) y6)) (m9 b9))))⟩
def a47:SF:=(j5 (a2j (a1M 0 "int") (a4n (a1M 0 "bool"))))
def O5:List D→Option R1:=fD 1 1 a47
theorem a8C:FnScope ["_law_found"] ["_law_found"] (d9 V2):=⟨rfl,rfl,rfl,by decide +kernel,rfl,by decide +kernel,by decide +kernel⟩
theorem a8D{f:Addr}{fd:FuncData}(F:Fun K "_law_whole" "_law_whole" V2 f fd)(T:Txt K mg c)  : FnOk P w K mg base (A6 P w) 3 f fd ["_law_found"] (k8 K c O5) :=
 F.okD (k:=2) a8C fun cdv A outer s H E hr=>⟨_,(g6 (l7 (a3x (n8 (a0Z (K:=K)) rfl T.z_isinstance T9 (a6 (pv 0) (a6 (a2D (v:=.ty "int") rfl T.z_int a3I rfl) c6))) (a3w (a8R (n8 (a0Z (K:=K)) rfl T.z_isinstance T9 (a6 (pv 0) (a6 (a2D (v:=.ty "bool") rfl T.z_bool b2b rfl) c6)))))))),(m9 (a3T a4q (a9o a4q)))⟩
def a6n:SF:=(d6 (n6 (bZ (eB gLt (eV 1) (A4 u6 0))) (j5 (k7 h9 0 (eV 1))) t4) (j5 (eC (.int 0))))
def m8:List D→Option R1:=fD 2 2 a6n
theorem a9N:FnScope ["_law_script","_law_k"] ["_law_script","_law_k"] (d9 Y4):=⟨rfl,rfl,rfl,by decide +kernel,rfl,by decide +kernel,by decide +kernel⟩
theorem a9O{f:Addr}{fd:FuncData}(F:Fun K "_law_cell" "_law_cell" Y4 f fd)(T:Txt K mg c)  : FnOk P w K mg base (A6 P w) 3 f fd ["_law_script","_law_k"] (k8 K c m8) :=
 F.okD (k:=2) a9N fun cdv A outer s H E hr=>⟨_,(c8 (w4 (j7 a1w (pv 1) (n8 (j0 (K:=K)) rfl T.z_len B5 (a6 (pv 0) c6)) (i8 _)) (g6 (l7 (d5 (i6 (K:=K)) (pv 0) (pv 1) '#'))) k9) (g6 (l7 a8))),(g8 (u0 (u9 (a7 a1I b0 (E4 B8))) (m9 (l9 m4 b0)) y6) (m9 b9))⟩
def b3n:SF:=(j5 (eB m7 (eB a0f (eB a0f (eB v8 (eB v8 (eV 0) (eB a0f (eV 1) (eV 1))) (eC (.int 7))) (eB v8 (eV 1) (eC (.int 3)))) (eC (.int 48271))) (eV 2)))
def r6:List D→Option R1:=fD 3 3 b3n
theorem b07:FnScope ["_law_cell_here","_law_k","_law_prime"] ["_law_cell_here","_law_k","_law_prime"] (d9 a0y):=⟨rfl,rfl,rfl,by decide +kernel,rfl,by decide +kernel,by decide +kernel⟩
theorem b08{f:Addr}{fd:FuncData}(F:Fun K "_law_mix" "_law_mix" a0y f fd)(T:Txt K mg c)  : FnOk P w K mg base (A6 P w) 3 f fd ["_law_cell_here","_law_k","_law_prime"] (k8 K c r6) :=
 F.okD (k:=2) b07 fun cdv A outer s H E hr=>⟨_,(g6 (l7 (h7 w9 (h7 a1h (h7 a1h (h7 z9 (h7 z9 (pv 0) (h7 a1h (pv 1) (pv 1))) a8) (h7 z9 (pv 1) a8)) a8) (pv 2)))),(m9 (a7 x9 (a7 a2k (a7 a2k (a7 A1 (a7 A1 b0 (a7 a2k b0 b0)) b9) (a7 A1 b0 b9)) b9) b0))⟩
noncomputable def b3o:SF:=(d6 (T7 2 r6 (aC (eV 1) (aC (eC (.int 1)) (aC (eC (.int 1000003)) aN)))) (d6 (j9 3 (eB m7 (eV 2) (eC (.int 2)))) (d6 (n6 (bZ (eB gLt (eB n9 (eB c7 (eV 0) (eB v8 (eV 3) (eC (.int 2)))) (eB c7 (eV 0) (eV 3))) (eC (.int 2)))) (j9 3 (eB n9 (eC (.int 1)) (eV 3))) t4) (d6 (j9 4 (eB n9 (eB c7 (eV 0) (eB v8 (eV 3) (eC (.int 2)))) (eB c7 (eV 0) (eV 3)))) (d6 (n6 (bZ (eB gLt (eV 4) (eC (.int 2)))) (j5 (eC .non)) t4) (d6 (n6 (bZ (eB (i7 false) (eB m7 (eV 1) (eC (.int 3))) (eC (.int 0)))) (j5 (eT (aC (eV 3) (aC (X1 W5 (aC (eC (.int 1)) (aC (eB D4 (eB a0f (eV 4) (eB v8 (eC (.int 1)) (eB m7 (eB D4 (eV 2) (eC (.int 2))) (eC (.int 5))))) (eC (.int 6))) aN))) aN)))) t4) (j5 (eT (aC (eV 3) (aC (eB v8 (eC (.int 1)) (eB m7 (eB v8 (eB D4 (eV 2) (eC (.int 2))) (eB a0f (eB D4 (eV 1) (eC (.int 64))) (eC (.int 7919)))) (eB n9 (eV 4) (eC (.int 1))))) aN))))))))))
noncomputable def V5:List D→Option R1:=fD 5 2 b3o
theorem a0U:FnScope ["_law_spot","_law_cell_here","_law_mixed","_law_way","_law_side"] ["_law_spot","_law_cell_here"] (d9 a0z):=⟨rfl,rfl,rfl,by decide +kernel,rfl,by decide +kernel,by decide +kernel⟩
theorem b09{f:Addr}{fd:FuncData}(F:Fun K "_law_cut" "_law_cut" a0z f fd)(T:Txt K mg c)(G_l_mix:Own P w K mg base 3 "_law_mix" ["_law_cell_here","_law_k","_law_prime"] (k8 K c r6)):FnOk P w K mg base (A6 P w) 5 f fd ["_law_spot","_law_cell_here"] (k8 K c V5) :=
 F.okD (k:=4) a0U fun cdv A outer s H E hr=>⟨_,(c8 (i9 (i:=2) a0U.nd rfl (Or.inl rfl) (t7 G_l_mix hr (by decide) u5 (a6 (pv 1) (a6 a8 (a6 a8 c6))))) (c8 (i9 (i:=3) a0U.nd rfl (Or.inl rfl) (h7 w9 (pv 2) a8)) (c8 (w4 (j7 a1w (h7 B4 (d5 (c9 (K:=K)) (pv 0) (h7 z9 (pv 3) a8) '#') (d5 (c9 (K:=K)) (pv 0) (pv 3) '#')) a8 (i8 _)) (g6 (i9 (i:=3) a0U.nd rfl (Or.inl rfl) (h7 B4 a8 (pv 3)))) k9) (c8 (i9 (i:=4) a0U.nd rfl (Or.inl rfl) (h7 B4 (d5 (c9 (K:=K)) (pv 0) (h7 z9 (pv 3) a8) '#') (d5 (c9 (K:=K)) (pv 0) (pv 3) '#'))) (c8 (w4 (j7 a1w (pv 4) a8 (i8 _)) (g6 (l7 R6)) k9) (c8 (w4 (j7 C7 (h7 w9 (pv 1) a8) a8 (i8 _)) (g6 (l7 (i0 (a6 (pv 3) (a6 (n8 (a2c rfl) rfl T.z_max a5P (a6 a8 (a6 (h7 D8 (h7 a1h (pv 4) (h7 z9 a8 (h7 w9 (h7 D8 (pv 2) a8) a8))) a8) c6))) c6))))) k9) (g6 (l7 (i0 (a6 (pv 3) (a6 (h7 z9 a8 (h7 w9 (h7 z9 (h7 D8 (pv 2) a8) (h7 a1h (h7 D8 (pv 1) a8) a8)) (h7 B4 (pv 4) a8))) c6))))))))))),(g8 (a1K (a9 b0 (a9 b9 (a9 b9 g5)))) (g8 (v3 (a7 x9 b0 b9)) (g8 (u0 (u9 (a7 a1I (a7 B7 (a7 d7 b0 (a7 A1 b0 b9)) (a7 d7 b0 b0)) b9)) (v3 (a7 B7 b9 b0)) y6) (g8 (v3 (a7 B7 (a7 d7 b0 (a7 A1 b0 b9)) (a7 d7 b0 b0))) (g8 (u0 (u9 (a7 a1I b0 b9)) (m9 b9) y6) (g8 (u0 (u9 (a7 C8 (a7 x9 b0 b9) b9)) (m9 (t5 (a9 b0 (a9 (a1H a4t (a9 b9 (a9 (a7 M0 (a7 a2k b0 (a7 A1 b9 (a7 x9 (a7 M0 b0 b9) b9))) b9) g5))) g5)))) y6) (m9 (t5 (a9 b0 (a9 (a7 A1 b9 (a7 x9 (a7 A1 (a7 M0 b0 b9) (a7 a2k (a7 M0 b0 b9) b9)) (a7 B7 b0 b9))) g5))))))))))⟩
noncomputable def a48:SF:=(d6 (n6 (bZ (eB (i7 false) (eV 1) (eC (.int 0)))) (j5 (eT (aC (eT (aC (eB c7 (eV 0) (eC (.int 0))) (aC (eB c7 (eV 0) (eC (.int 1))) (aC (eB v8 (eB c7 (eV 0) (eC (.int 0))) (eV 2)) (aC (eB c7 (eV 0) (eC (.int 3))) aN))))) (aC (eT (aC (eB v8 (eB c7 (eV 0) (eC (.int 0))) (eV 2)) (aC (eB c7 (eV 0) (eC (.int 1))) (aC (eB c7 (eV 0) (eC (.int 2))) (aC (eB c7 (eV 0) (eC (.int 3))) aN))))) aN)))) t4) (j5 (eT (aC (eT (aC (eB c7 (eV 0) (eC (.int 0))) (aC (eB c7 (eV 0) (eC (.int 1))) (aC (eB c7 (eV 0) (eC (.int 2))) (aC (eB v8 (eB c7 (eV 0) (eC (.int 1))) (eV 2)) aN))))) (aC (eT (aC (eB c7 (eV 0) (eC (.int 0))) (aC (eB v8 (eB c7 (eV 0) (eC (.int 1))) (eV 2)) (aC (eB c7 (eV 0) (eC (.int 2))) (aC (eB c7 (eV 0) (eC (.int 3))) aN))))) aN)))))
noncomputable def y8:List D→Option R1:=fD 3 3 a48
theorem a8E:FnScope ["_law_spot","_law_way","_law_at"] ["_law_spot","_law_way","_law_at"] (d9 V3):=⟨rfl,rfl,rfl,by decide +kernel,rfl,by decide +kernel,by decide +kernel⟩
theorem a8F{f:Addr}{fd:FuncData}(F:Fun K "_law_parts" "_law_parts" V3 f fd)(T:Txt K mg c)  : FnOk P w K mg base (A6 P w) 3 f fd ["_law_spot","_law_way","_law_at"] (k8 K c y8) :=
 F.okD (k:=2) a8E fun cdv A outer s H E hr=>⟨_,(c8 (w4 (j7 C7 (pv 1) a8 (i8 _)) (g6 (l7 (i0 (a6 (i0 (a6 (d5 (c9 (K:=K)) (pv 0) a8 '#') (a6 (d5 (c9 (K:=K)) (pv 0) a8 '#') (a6 (h7 z9 (d5 (c9 (K:=K)) (pv 0) a8 '#') (pv 2)) (a6 (d5 (c9 (K:=K)) (pv 0) a8 '#') c6))))) (a6 (i0 (a6 (h7 z9 (d5 (c9 (K:=K)) (pv 0) a8 '#') (pv 2)) (a6 (d5 (c9 (K:=K)) (pv 0) a8 '#') (a6 (d5 (c9 (K:=K)) (pv 0) a8 '#') (a6 (d5 (c9 (K:=K)) (pv 0) a8 '#') c6))))) c6))))) k9) (g6 (l7 (i0 (a6 (i0 (a6 (d5 (c9 (K:=K)) (pv 0) a8 '#') (a6 (d5 (c9 (K:=K)) (pv 0) a8 '#') (a6 (d5 (c9 (K:=K)) (pv 0) a8 '#') (a6 (h7 z9 (d5 (c9 (K:=K)) (pv 0) a8 '#') (pv 2)) c6))))) (a6 (i0 (a6 (d5 (c9 (K:=K)) (pv 0) a8 '#') (a6 (h7 z9 (d5 (c9 (K:=K)) (pv 0) a8 '#') (pv 2)) (a6 (d5 (c9 (K:=K)) (pv 0) a8 '#') (a6 (d5 (c9 (K:=K)) (pv 0) a8 '#') c6))))) c6)))))),(g8 (u0 (u9 (a7 C8 b0 b9)) (m9 (t5 (a9 (t5 (a9 (a7 d7 b0 b9) (a9 (a7 d7 b0 b9) (a9 (a7 A1 (a7 d7 b0 b9) b0) (a9 (a7 d7 b0 b9) g5))))) (a9 (t5 (a9 (a7 A1 (a7 d7 b0 b9) b0) (a9 (a7 d7 b0 b9) (a9 (a7 d7 b0 b9) (a9 (a7 d7 b0 b9) g5))))) g5)))) y6) (m9 (t5 (a9 (t5 (a9 (a7 d7 b0 b9) (a9 (a7 d7 b0 b9) (a9 (a7 d7 b0 b9) (a9 (a7 A1 (a7 d7 b0 b9) b0) g5))))) (a9 (t5 (a9 (a7 d7 b0 b9) (a9 (a7 A1 (a7 d7 b0 b9) b0) (a9 (a7 d7 b0 b9) (a9 (a7 d7 b0 b9) g5))))) g5)))))⟩
noncomputable def b0_:SF:=(d6 (A5 2 (eL (aC (eT (aC (eC (.int 0)) (aC (eC (.int 0)) (aC (eB c7 (eV 0) (eC (.int 0))) (aC (eB c7 (eV 0) (eC (.int 1))) aN))))) aN))) (d6 (A5 3 (eL (aC (eC .non) aN))) (d6 (A5 4 (eL (aC (eC (.int 0)) aN))) (d6 (a2M 1 (g9 5) (d6 (j9 6 (eB m7 (eV 5) (A4 u6 4))) (d6 (T7 7 V5 (aC (k7 h9 2 (k7 h9 4 (eV 6))) (aC (eV 5) aN))) (n6 (bZ (eB (K1 true) (eV 7) (eC .non))) (d6 (j9 8 (a2t 4 (eV 6))) (d6 (a2l 3 (eV 8) (eT (aC (eB c7 (eT (aC (eC (.str "across")) (aC (eC (.str "up")) aN))) (eB c7 (eV 7) (eC (.int 0)))) (aC (eB c7 (eV 7) (eC (.int 1))) (aC (A4 u6 3) (aC (eB v8 (A4 u6 3) (eC (.int 1))) aN)))))) (a3Z (h8 y8 (aC (k7 h9 2 (eV 8)) (aC (eB c7 (eV 7) (eC (.int 0))) (aC (eB c7 (eV 7) (eC (.int 1))) aN))))  (g9 9) (d6 (D5 4 (A4 u6 3)) (d6 (D5 2 (eV 9)) (D5 3 (eC .non))))))) t4)))) (a0O 2 3)))))
noncomputable def U6:List D→Option R1:=fD 10 2 b0_
theorem M4:FnScope ["_law_box","_law_cells","_law_spots","_law_nodes","_law_uncut","_law_cell_here","_law_at","_law_cut_here","_law_node","_law_part"] ["_law_box","_law_cells"] (d9 Y5):=⟨rfl,rfl,rfl,by decide +kernel,rfl,by decide +kernel,by decide +kernel⟩
theorem a9P{f:Addr}{fd:FuncData}(F:Fun K "_law_tree" "_law_tree" Y5 f fd)(T:Txt K mg c)(G_l_cut:Own P w K mg base 5 "_law_cut" ["_law_spot","_law_cell_here"] (k8 K c V5))(G_l_parts:Own P w K mg base 3 "_law_parts" ["_law_spot","_law_way","_law_at"] (k8 K c y8)):FnOk P w K mg base (A6 P w) 7 f fd ["_law_box","_law_cells"] (k8 K c U6) :=
 F.okD (k:=6) M4 fun cdv A outer s H E hr=>⟨_,(c8 (i9 (i:=2) M4.nd rfl (Or.inl rfl) (V8 (a6 (i0 (a6 a8 (a6 a8 (a6 (d5 (c9 (K:=K)) (pv 0) a8 '#') (a6 (d5 (c9 (K:=K)) (pv 0) a8 '#') c6))))) c6))) (c8 (i9 (i:=3) M4.nd rfl (Or.inl rfl) (V8 (a6 R6 c6))) (c8 (i9 (i:=4) M4.nd rfl (Or.inl rfl) (V8 (a6 a8 c6))) (c8 (N6 PassesOwn.leaving rfl (a1e (pv 1)) (r9 (i:=5) M4.nd rfl (Or.inl rfl)) (c8 (i9 (i:=6) M4.nd rfl (Or.inl rfl) (h7 w9 (pv 5) (n8 (j0 (K:=K)) rfl T.z_len B5 (a6 (pv 4) c6)))) (c8 (i9 (i:=7) M4.nd rfl (Or.inl rfl) (t7 G_l_cut hr (by decide) u5 (a6 (d5 (i6 (K:=K)) (pv 2) (d5 (i6 (K:=K)) (pv 4) (pv 6) '#') '#') (a6 (pv 5) c6)))) (g6 (w4 (j7 a60 (pv 7) R6 (i8 _)) (c8 (i9 (i:=8) M4.nd rfl (Or.inl rfl) (L8 (K:=K) PySem.F.plainAttrs_list PySem.F.slot_list_pop PySem.F.type_list_pop b0h (pv 4) (a6 (pv 6) c6))) (c8 (L6 (i0 (a6 (d5 (c9 (K:=K)) (i0 (a6 A3 (a6 A3 c6))) (d5 (c9 (K:=K)) (pv 7) a8 '#') '#') (a6 (d5 (c9 (K:=K)) (pv 7) a8 '#') (a6 (n8 (j0 (K:=K)) rfl T.z_len B5 (a6 (pv 3) c6)) (a6 (h7 z9 (n8 (j0 (K:=K)) rfl T.z_len B5 (a6 (pv 3) c6)) a8) c6))))) (a0A (pv 3) (pv 8) U1)) (g6 (N6 PassesOwn.leaving rfl (b3J (t7 G_l_parts hr (by decide) u5 (a6 (d5 (i6 (K:=K)) (pv 2) (pv 8) '#') (a6 (d5 (c9 (K:=K)) (pv 7) a8 '#') (a6 (d5 (c9 (K:=K)) (pv 7) a8 '#') c6))))) (r9 (i:=9) M4.nd rfl (Or.inl rfl)) (c8 (D1 (L8 (K:=K) PySem.F.plainAttrs_list PySem.F.slot_list_append PySem.F.type_list_append C3 (pv 4) (a6 (n8 (j0 (K:=K)) rfl T.z_len B5 (a6 (pv 3) c6)) c6))) (c8 (D1 (L8 (K:=K) PySem.F.plainAttrs_list PySem.F.slot_list_append PySem.F.type_list_append C3 (pv 2) (a6 (pv 9) c6))) (g6 (D1 (L8 (K:=K) PySem.F.plainAttrs_list PySem.F.slot_list_append PySem.F.type_list_append C3 (pv 3) (a6 R6 c6)))))))))) k9))))) (g6 (l7 (i0 (a6 (pv 2) (a6 (pv 3) c6))))))))),(g8 (J5 (a1G (a9 (t5 (a9 b9 (a9 b9 (a9 (a7 d7 b0 b9) (a9 (a7 d7 b0 b9) g5))))) g5))) (g8 (J5 (a1G (a9 b9 g5))) (g8 (J5 (a1G (a9 b9 g5))) (g8 (a7m (t8 (k:=10) (by decide)) (g8 (v3 (a7 x9 b0 (E4 B8))) (g8 (a1K (a9 (l9 m4 (l9 m4 b0)) (a9 b0 g5))) (u0 (u9 (a7 a7i b0 b9)) (g8 (v3 (a9G b0)) (g8 (a54 (t5 (a9 (a7 d7 (t5 (a9 b9 (a9 b9 g5))) (a7 d7 b0 b9)) (a9 (a7 d7 b0 b9) (a9 (E4 B8) (a9 (a7 A1 (E4 B8) b9) g5))))) b0) (b2r (u7 (a9 (l9 m4 b0) (a9 (a7 d7 b0 b9) (a9 (a7 d7 b0 b9) g5)))) (t8 (k:=10) (by decide)) (g8 (N7 (E4 B8)) (g8 (N7 b0) (N7 b9)))))) y6)))) b01))))⟩
noncomputable def a8G:SF:=(d6 (A5 2 (nCV a1J 1)) (d6 (P4 P3 (aC (A4 u6 0) aN) (g9 3) (d6 (j9 4 (eB n9 (eB n9 (A4 u6 0) (eC (.int 1))) (eV 3))) (n6 (bZ (eB (K1 true) (k7 h9 0 (eV 4)) (eC .non))) (a2l 2 (eV 4) (eT (aC (eB c7 (k7 h9 0 (eV 4)) (eC (.int 0))) (aC (eB c7 (k7 h9 0 (eV 4)) (eC (.int 1))) (aC (k7 h9 2 (eB c7 (k7 h9 0 (eV 4)) (eC (.int 2)))) (aC (k7 h9 2 (eB c7 (k7 h9 0 (eV 4)) (eC (.int 3)))) aN)))))) t4))) (j5 (k7 h9 2 (eC (.int 0))))))
noncomputable def P9:List D→Option R1:=fD 5 2 a8G
theorem Z5:FnScope ["_law_nodes","_law_ends","_law_built","_law_back","_law_k"] ["_law_nodes","_law_ends"] (d9 T2):=⟨rfl,rfl,rfl,by decide +kernel,rfl,by decide +kernel,by decide +kernel⟩
theorem a6R{f:Addr}{fd:FuncData}(F:Fun K "_law_joined" "_law_joined" T2 f fd)(T:Txt K mg c)  : FnOk P w K mg base (A6 P w) 3 f fd ["_law_nodes","_law_ends"] (k8 K c P9) :=
 F.okD (k:=2) Z5 fun cdv A outer s H E hr=>⟨_,(c8 (i9 (i:=2) Z5.nd rfl (Or.inl rfl) (Z7 (a13 (K:=K)) rfl T.z_list a67 (a6 (pv 1) c6))) (c8 (N6 PassesOwn.leaving rfl (O2 rfl T.z_range (a6 (n8 (j0 (K:=K)) rfl T.z_len B5 (a6 (pv 0) c6)) c6)) (r9 (i:=3) Z5.nd rfl (Or.inl rfl)) (c8 (i9 (i:=4) Z5.nd rfl (Or.inl rfl) (h7 B4 (h7 B4 (n8 (j0 (K:=K)) rfl T.z_len B5 (a6 (pv 0) c6)) a8) (pv 3))) (g6 (w4 (j7 a60 (d5 (i6 (K:=K)) (pv 0) (pv 4) '#') R6 (i8 _)) (g6 (L6 (i0 (a6 (d5 (c9 (K:=K)) (d5 (i6 (K:=K)) (pv 0) (pv 4) '#') a8 '#') (a6 (d5 (c9 (K:=K)) (d5 (i6 (K:=K)) (pv 0) (pv 4) '#') a8 '#') (a6 (d5 (i6 (K:=K)) (pv 2) (d5 (c9 (K:=K)) (d5 (i6 (K:=K)) (pv 0) (pv 4) '#') a8 '#') '#') (a6 (d5 (i6 (K:=K)) (pv 2) (d5 (c9 (K:=K)) (d5 (i6 (K:=K)) (pv 0) (pv 4) '#') a8 '#') '#') c6))))) (a0A (pv 2) (pv 4) U1))) k9)))) (g6 (l7 (d5 (i6 (K:=K)) (pv 2) a8 '#'))))),(g8 (J5 (a9p a7j)) (g8 (X9 (a9 (E4 B8) g5) (t8 (k:=5) (by decide)) (g8 (v3 (a7 B7 (a7 B7 (E4 B8) b9) b0)) (u0 (u9 (a7 a7i (l9 m4 b0) b9)) (a54 (t5 (a9 (a7 d7 (l9 m4 b0) b9) (a9 (a7 d7 (l9 m4 b0) b9) (a9 (l9 m4 (a7 d7 (l9 m4 b0) b9)) (a9 (l9 m4 (a7 d7 (l9 m4 b0) b9)) g5))))) b0) y6))) (m9 (l9 m4 b9))))⟩
noncomputable def a8H:SF:=(d6 (A5 3 (eL aN)) (d6 (P4 P3 (aC (A4 u6 1) aN) (g9 4) (d6 (j9 5 (a2j (eB gGt (eB c7 (k7 h9 0 (eV 4)) (eC (.int 2))) (eB c7 (k7 h9 0 (eV 4)) (eC (.int 0)))) (eB gGt (eB c7 (k7 h9 0 (eV 4)) (eC (.int 3))) (eB c7 (k7 h9 0 (eV 4)) (eC (.int 1)))))) (n6 (M8 (bZ (eB (K1 false) (k7 h9 1 (eV 4)) (eC .non))) (M8 (bZ (eV 5)) (bZ (eB gGt (eB m7 (h8 r6 (aC (eV 2) (aC (eV 4) (aC (eC (.int 10007)) aN)))) (eC (.int 4))) (eC (.int 0)))))) (D5 3 (eV 4)) t4))) (d6 (A5 6 (a35 [2] (aC (eV 3) aN) (eT (aC (h8 r6 (aC (eB D4 (eV 1) (eC (.int 5))) (aC (eV 0) (aC (eC (.int 7919)) aN)))) (aC (eV 0) aN))))) (d6 (A5 7 (eL aN)) (d6 (A5 8 (a2n 1 1 [] (g9 0) a30 (eT (aC (eC (.str "waste")) aN)))) (d6 (a2M 6 (g9 4) (d6 (j9 9 (eB n9 (eB c7 (k7 h9 0 (eV 4)) (eC (.int 2))) (eB c7 (k7 h9 0 (eV 4)) (eC (.int 0))))) (d6 (j9 10 (eB n9 (eB c7 (k7 h9 0 (eV 4)) (eC (.int 3))) (eB c7 (k7 h9 0 (eV 4)) (eC (.int 1))))) (d6 (T7 11 r6 (aC (eB D4 (eV 2) (eC (.int 3))) (aC (eV 4) (aC (eC (.int 20011)) aN)))) (d6 (a2l 8 (eV 4) (eT (aC (eC (.str "ware")) (aC (A4 u6 7) (aC (eB (i7 false) (eB m7 (eV 11) (eC (.int 3))) (eC (.int 0))) aN))))) (n6 (bZ (eB (i7 false) (eB m7 (eV 11) (eC (.int 3))) (eC (.int 0)))) (D5 7 (eT (aC (eV 10) (aC (eV 9) (aC (eC (.bl true)) aN))))) (D5 7 (eT (aC (eV 9) (aC (eV 10) (aC (eB (i7 false) (eB m7 (eB D4 (eV 11) (eC (.int 3))) (eC (.int 2))) (eC (.int 0))) aN))))))))))) (a0x 7 8 6)))))))
noncomputable def Q0:List D→Option R1:=fD 12 3 a8H
theorem C5:FnScope ["_law_spots","_law_nodes","_law_cell_here","_law_kept","_law_k","_law_large","_law_order","_law_wares","_law_ends","_law_w","_law_h","_law_mixed"] ["_law_spots","_law_nodes","_law_cell_here"] (d9 F7):=⟨rfl,rfl,rfl,by decide +kernel,rfl,by decide +kernel,by decide +kernel⟩
theorem a6S{TB:List (Addr×Str)}{f:Addr}{fd:FuncData}(F:Fun K "_law_filled" "_law_filled" F7 f fd)(T:Txt K mg c)(G_l_mix:Own P w K mg base 3 "_law_mix" ["_law_cell_here","_law_k","_law_prime"] (k8 K c r6)){cc Pt:Addr}(hcode:fd.code=.ref cc)(hC:PySem.W.CodeHd base cc Pt)(hB:base.BuiltinsAt mg Pt)(hL:TB.lookup Pt=some "_law_filled.<locals>.<lambda>"):FnOk P w K mg base (A6 P w) 8 f fd ["_law_spots","_law_nodes","_law_cell_here"] (spT TB (k8 K c Q0)) :=
 F.okT (k:=7) C5 fun A outer s H E hT hr=>⟨_,(c8 (i9 (i:=3) C5.nd rfl (Or.inl rfl) (V8 c6)) (c8 (N6 PassesOwn.leaving rfl (O2 rfl T.z_range (a6 (n8 (j0 (K:=K)) rfl T.z_len B5 (a6 (pv 1) c6)) c6)) (r9 (i:=4) C5.nd rfl (Or.inl rfl)) (c8 (i9 (i:=5) C5.nd rfl (Or.inl rfl) (a3x (C4 a2E (d5 (c9 (K:=K)) (d5 (i6 (K:=K)) (pv 0) (pv 4) '#') a8 '#') (d5 (c9 (K:=K)) (d5 (i6 (K:=K)) (pv 0) (pv 4) '#') a8 '#') (i8 _)) (a3w (C4 a2E (d5 (c9 (K:=K)) (d5 (i6 (K:=K)) (pv 0) (pv 4) '#') a8 '#') (d5 (c9 (K:=K)) (d5 (i6 (K:=K)) (pv 0) (pv 4) '#') a8 '#') (i8 _))))) (g6 (w4 (PW.pt (Z6 (j7 a3B (d5 (i6 (K:=K)) (pv 1) (pv 4) '#') R6 (i8 _)) (Z6 (G9 (pv 5)) (a0s (j7 a2E (h7 w9 (t7 G_l_mix hr (by decide) u5 (a6 (pv 2) (a6 (pv 4) (a6 a8 c6)))) a8) a8 (i8 _)))))) (g6 (D1 (L8 (K:=K) PySem.F.plainAttrs_list PySem.F.slot_list_append PySem.F.type_list_append C3 (pv 3) (a6 (pv 4) c6)))) k9)))) (c8 (i9 (i:=6) C5.nd rfl (Or.inl rfl) (b0y (Nc:=["_law_k","_law_cell_here"]) (js:=[2]) (kn := "_law_k") (q := "_law_filled.<locals>.<lambda>") hr rfl rfl T.z_sorted (a6 (pv 3) c6) rfl hcode hC hB rfl (hT _ _ hL) ⟨by decide +kernel,rfl,by decide +kernel,(by change ∀y∈Scope.names _,y.2=NameKind.free→(d9 F7).names.lookup y.1=some .cell∨(d9 F7).names.lookup y.1=some .free;decide +kernel),by decide +kernel,rfl,rfl,by decide +kernel⟩ rfl rfl (fun _ _ _ _ _=>rfl) rfl rfl (fun _ _ _ _=>(i0 (a6 (t7 G_l_mix (((hr.in1).in1).deeper _) (by decide) u5 (a6 (h7 D8 (pv 1) a8) (a6 (pv 0) (a6 a8 c6)))) (a6 (pv 0) c6)))))) (c8 (i9 (i:=7) C5.nd rfl (Or.inl rfl) (V8 c6)) (c8 (a75 (i:=8) (Nc:=["_law_node"]) (k:=1) (js:=[]) rfl ⟨by decide +kernel,rfl,by decide +kernel,(by change ∀y∈Scope.names _,y.2=NameKind.free→(d9 F7).names.lookup y.1=some .cell∨(d9 F7).names.lookup y.1=some .free;decide +kernel),by decide +kernel,rfl,rfl,by decide +kernel⟩ C5.nd rfl (a1e (pv 1)) (fun _ _ _ _ _=>(r9 (i:=0) (by show List.Nodup [("_law_node" : Str)];decide +kernel) rfl (Or.inl rfl))) (fun _ _ _ _ _=>b3X) (fun _ _ _ _ _=>(i0 (a6 A3 c6)))) (c8 (N6 PassesOwn.leaving rfl (a1e (pv 6)) (r9 (i:=4) C5.nd rfl (Or.inl rfl)) (c8 (i9 (i:=9) C5.nd rfl (Or.inl rfl) (h7 B4 (d5 (c9 (K:=K)) (d5 (i6 (K:=K)) (pv 0) (pv 4) '#') a8 '#') (d5 (c9 (K:=K)) (d5 (i6 (K:=K)) (pv 0) (pv 4) '#') a8 '#'))) (c8 (i9 (i:=10) C5.nd rfl (Or.inl rfl) (h7 B4 (d5 (c9 (K:=K)) (d5 (i6 (K:=K)) (pv 0) (pv 4) '#') a8 '#') (d5 (c9 (K:=K)) (d5 (i6 (K:=K)) (pv 0) (pv 4) '#') a8 '#'))) (c8 (i9 (i:=11) C5.nd rfl (Or.inl rfl) (t7 G_l_mix hr (by decide) u5 (a6 (h7 D8 (pv 2) a8) (a6 (pv 4) (a6 a8 c6))))) (c8 (L6 (i0 (a3J (a6 (n8 (j0 (K:=K)) rfl T.z_len B5 (a6 (pv 7) c6)) (a6 (C4 C7 (h7 w9 (pv 11) a8) a8 (i8 _)) c6)))) (a0A (pv 8) (pv 4) U1)) (g6 (w4 (j7 C7 (h7 w9 (pv 11) a8) a8 (i8 _)) (g6 (D1 (L8 (K:=K) PySem.F.plainAttrs_list PySem.F.slot_list_append PySem.F.type_list_append C3 (pv 7) (a6 (i0 (a6 (pv 10) (a6 (pv 9) (a6 a1t c6)))) c6)))) (g6 (D1 (L8 (K:=K) PySem.F.plainAttrs_list PySem.F.slot_list_append PySem.F.type_list_append C3 (pv 7) (a6 (i0 (a6 (pv 9) (a6 (pv 10) (a6 (C4 C7 (h7 w9 (h7 D8 (pv 11) a8) a8) a8 (i8 _)) c6)))) c6))))))))))) (g6 (l7 (i0 (a6 (pv 7) (a6 (pv 8) (a6 (pv 6) c6)))))))))))),(g8 (J5 (a1G g5)) (g8 (X9 (a9 (E4 B8) g5) (t8 (k:=12) (by decide)) (g8 (v3 (a3T (a7 a2K (a7 d7 (l9 m4 b0) b9) (a7 d7 (l9 m4 b0) b9)) (a7 a2K (a7 d7 (l9 m4 b0) b9) (a7 d7 (l9 m4 b0) b9)))) (u0 (V0 (u9 (a7 a3V (l9 m4 b0) b9)) (V0 (L9 b0) (u9 (a7 a2K (a7 x9 (u7 (a9 b0 (a9 b0 (a9 b9 g5)))) b9) b9)))) (N7 b0) y6))) (g8 (J5 (b04 (by decide) (a9 b0 g5) (t5 (a9 (u7 (a9 (a7 M0 b0 b9) (a9 b0 (a9 b9 g5)))) (a9 b0 g5))))) (g8 (J5 (a1G g5)) (g8 (a8k (b0G (by decide) (t8 (k:=1) (by decide)) b0F (t5 (a9 b9 g5)))) (g8 (a7m (t8 (k:=12) (by decide)) (g8 (v3 (a7 B7 (a7 d7 (l9 m4 b0) b9) (a7 d7 (l9 m4 b0) b9))) (g8 (v3 (a7 B7 (a7 d7 (l9 m4 b0) b9) (a7 d7 (l9 m4 b0) b9))) (g8 (a1K (a9 (a7 M0 b0 b9) (a9 b0 (a9 b9 g5)))) (g8 (a54 (t5 (a9 b9 (a9 (E4 B8) (a9 (a7 C8 (a7 x9 b0 b9) b9) g5)))) b0) (u0 (u9 (a7 C8 (a7 x9 b0 b9) b9)) (N7 (t5 (a9 b0 (a9 b0 (a9 b9 g5))))) (N7 (t5 (a9 b0 (a9 b0 (a9 (a7 C8 (a7 x9 (a7 M0 b0 b9) b9) b9) g5))))))))))) a9H))))))⟩
def a3q:SF:=(d6 (n6 (bZ (eB (i7 false) (eB m7 (eV 0) (eC (.int 3))) (eC (.int 1)))) (j5 (eB v8 (eC (.int 1)) (eB m7 (eB D4 (eV 0) (eC (.int 3))) (eB W4 (eC (.int 10)) (eC (.int 40)))))) t4) (j5 (eB m7 (eB D4 (eV 0) (eC (.int 3))) (eC (.int 25)))))
def N2:List D→Option R1:=fD 1 1 a3q
theorem a9Q:FnScope ["_law_cell_here"] ["_law_cell_here"] (d9 Y6):=⟨rfl,rfl,rfl,by decide +kernel,rfl,by decide +kernel,by decide +kernel⟩
theorem a9R{f:Addr}{fd:FuncData}(F:Fun K "_law_long" "_law_long" Y6 f fd)(T:Txt K mg c)  : FnOk P w K mg base (A6 P w) 3 f fd ["_law_cell_here"] (k8 K c N2) :=
 F.okD (k:=2) a9Q fun cdv A outer s H E hr=>⟨_,(c8 (w4 (j7 C7 (h7 w9 (pv 0) a8) a8 (i8 _)) (g6 (l7 (h7 z9 a8 (h7 w9 (h7 D8 (pv 0) a8) (h7 a3A a8 a8))))) k9) (g6 (l7 (h7 w9 (h7 D8 (pv 0) a8) a8)))),(g8 (u0 (u9 (a7 C8 (a7 x9 b0 b9) b9)) (m9 (a7 A1 b9 (a7 x9 (a7 M0 b0 b9) (a7 a3U b9 b9)))) y6) (m9 (a7 x9 (a7 M0 b0 b9) b9)))⟩
noncomputable def a4H:SF:=(d6 (j9 3 (eB m7 (eV 1) (eC (.int 4)))) (d6 (j9 4 (eB c7 (eT (aC (eU a0I (eC (.int 1))) (aC (eV 2) (aC (eB m7 (eB D4 (eV 1) (eC (.int 12))) (X1 W5 (aC (eC (.int 1)) (aC (eV 2) aN)))) (aC (eB v8 (eV 2) (eB m7 (eV 1) (eB W4 (eC (.int 10)) (eC (.int 20))))) (aC (eB n9 (eU a0I (eC (.int 2))) (eB m7 (eV 1) (eB W4 (eC (.int 10)) (eC (.int 20))))) aN)))))) (eB m7 (eB D4 (eV 1) (eC (.int 4))) (eC (.int 5))))) (d6 (n6 (bZ (eB (i7 false) (eB c7 (eV 0) (eC (.int 0))) (eC (.str "waste")))) (j5 (eT (aC (eC (.str "ware")) (aC (eV 4) (aC (eB (i7 false) (eV 3) (eC (.int 1))) aN))))) t4) (d6 (n6 (bZ (eB (i7 false) (eV 3) (eC (.int 0)))) (j5 (eT (aC (eC (.str "waste")) aN))) t4) (d6 (n6 (bZ (eB (i7 false) (eV 3) (eC (.int 1)))) (j5 (eT (aC (eC (.str "ware")) (aC (eB c7 (eV 0) (eC (.int 1))) (aC (a4n (eB c7 (eV 0) (eC (.int 2)))) aN))))) t4) (j5 (eT (aC (eC (.str "ware")) (aC (eV 4) (aC (eB c7 (eV 0) (eC (.int 2))) aN))))))))))
noncomputable def E9:List D→Option R1:=fD 5 3 a4H
theorem W8:FnScope ["_law_end","_law_cell_here","_law_many","_law_kind","_law_other"] ["_law_end","_law_cell_here","_law_many"] (d9 J7):=⟨rfl,rfl,rfl,by decide +kernel,rfl,by decide +kernel,by decide +kernel⟩
theorem a4e{f:Addr}{fd:FuncData}(F:Fun K "_law_end_spoilt" "_law_end_spoilt" J7 f fd)(T:Txt K mg c)  : FnOk P w K mg base (A6 P w) 3 f fd ["_law_end","_law_cell_here","_law_many"] (k8 K c E9) :=
 F.okD (k:=2) W8 fun cdv A outer s H E hr=>⟨_,(c8 (i9 (i:=3) W8.nd rfl (Or.inl rfl) (h7 w9 (pv 1) a8)) (c8 (i9 (i:=4) W8.nd rfl (Or.inl rfl) (d5 (c9 (K:=K)) (i0 (a6 (a7Q a5D a8) (a6 (pv 2) (a6 (h7 w9 (h7 D8 (pv 1) a8) (n8 (a2c rfl) rfl T.z_max a5P (a6 a8 (a6 (pv 2) c6)))) (a6 (h7 z9 (pv 2) (h7 w9 (pv 1) (h7 a3A a8 a8))) (a6 (h7 B4 (a7Q a5D a8) (h7 w9 (pv 1) (h7 a3A a8 a8))) c6)))))) (h7 w9 (h7 D8 (pv 1) a8) a8) '#')) (c8 (w4 (j7 C7 (d5 (c9 (K:=K)) (pv 0) a8 '#') A3 (i8 _)) (g6 (l7 (i0 (a3J (a6 (pv 4) (a6 (C4 C7 (pv 3) a8 (i8 _)) c6)))))) k9) (c8 (w4 (j7 C7 (pv 3) a8 (i8 _)) (g6 (l7 (i0 (a6 A3 c6)))) k9) (c8 (w4 (j7 C7 (pv 3) a8 (i8 _)) (g6 (l7 (i0 (a3J (a6 (d5 (c9 (K:=K)) (pv 0) a8 '#') (a6 (a8R (d5 (c9 (K:=K)) (pv 0) a8 '#')) c6)))))) k9) (g6 (l7 (i0 (a3J (a6 (pv 4) (a6 (d5 (c9 (K:=K)) (pv 0) a8 '#') c6))))))))))),(g8 (v3 (a7 x9 b0 b9)) (g8 (v3 (a7 d7 (t5 (a9 (b0B a5Y b9) (a9 b0 (a9 (a7 x9 (a7 M0 b0 b9) (a1H a4t (a9 b9 (a9 b0 g5)))) (a9 (a7 A1 b0 (a7 x9 b0 (a7 a3U b9 b9))) (a9 (a7 B7 (b0B a5Y b9) (a7 x9 b0 (a7 a3U b9 b9))) g5)))))) (a7 x9 (a7 M0 b0 b9) b9))) (g8 (u0 (u9 (a7 C8 (a7 d7 b0 b9) b9)) (m9 (t5 (a9 b9 (a9 b0 (a9 (a7 C8 b0 b9) g5))))) y6) (g8 (u0 (u9 (a7 C8 b0 b9)) (m9 (t5 (a9 b9 g5))) y6) (g8 (u0 (u9 (a7 C8 b0 b9)) (m9 (t5 (a9 b9 (a9 (a7 d7 b0 b9) (a9 (a9o (a7 d7 b0 b9)) g5))))) y6) (m9 (t5 (a9 b9 (a9 b0 (a9 (a7 d7 b0 b9) g5))))))))))⟩
noncomputable def a8I:UF:=(D0 (uS (j9 5 (eB m7 (eV 3) (A4 u6 1)))) (D0 (uS (j9 6 (eB v8 (eB D4 (eV 3) (eC (.int 64))) (eB m7 (eV 3) (eC (.int 64)))))) (D0 (uIf (bZ (eB (K1 false) (k7 h9 1 (eV 5)) (eC .non))) (D0 (a0R 2 (eV 5) (h8 E9 (aC (k7 h9 2 (eV 5)) (aC (eV 6) (aC (eV 4) aN))))) a4F) uNx) (D0 (uS (j9 7 (k7 h9 1 (eV 5)))) (D0 (uS (j9 8 (eB c7 (eV 7) (eC (.int 0))))) (D0 (uS (j9 9 (eB m7 (eB D4 (eV 6) (eC (.int 7))) (eB W4 (eC (.int 10)) (eC (.int 41)))))) (D0 (uS (j9 10 (X1 (g1 a0q) (aC (eB (i7 false) (eV 8) (eC (.str "up"))) aN)))) (D0 (uS (j9 11 (eB n9 (eB c7 (k7 h9 0 (eV 5)) (eB v8 (eV 10) (eC (.int 2)))) (eB c7 (k7 h9 0 (eV 5)) (eV 10))))) (D0 (uS (j9 12 (eB c7 (eT (aC (eB c7 (eV 7) (eC (.int 1))) (aC (eC (.int 0)) (aC (eB v8 (eB c7 (eV 7) (eC (.int 1))) (eC (.int 1))) (aC (eB n9 (eB c7 (eV 7) (eC (.int 1))) (eC (.int 1))) (aC (eV 9) (aC (eU a0I (eV 9)) (aC (eV 11) aN)))))))) (eB m7 (eV 6) (eC (.int 7)))))) (D0 (uS (n6 (bZ (eB (i7 false) (eB m7 (eV 6) (eC (.int 7))) (eC (.int 0)))) (j9 8 (eB c7 (eT (aC (eC (.str "up")) (aC (eC (.str "across")) aN))) (X1 (g1 a0q) (aC (eB (i7 false) (eV 8) (eC (.str "up"))) aN)))) t4)) (a0R 1 (eV 5) (eT (aC (eV 8) (aC (eV 12) (aC (eB c7 (eV 7) (eC (.int 2))) (aC (eB c7 (eV 7) (eC (.int 3))) aN))))))))))))))))
noncomputable def J2:DE→Option DE:=fU 13 a8I
theorem D6:FnScope ["_law_spots","_law_nodes","_law_ends","_law_cell_here","_law_many","_law_at","_law_rest","_law_node","_law_word","_law_far","_law_way","_law_side","_law_new"] ["_law_spots","_law_nodes","_law_ends","_law_cell_here","_law_many"] (d9 T3):=⟨rfl,rfl,rfl,by decide +kernel,rfl,by decide +kernel,by decide +kernel⟩
theorem a6T{f:Addr}{fd:FuncData}(F:Fun K "_law_spoilt" "_law_spoilt" T3 f fd)(T:Txt K mg c)(G_l_end_spoilt:Own P w K mg base 3 "_law_end_spoilt" ["_law_end","_law_cell_here","_law_many"] (k8 K c E9)):FnOk P w K mg base (A6 P w) 5 f fd ["_law_spots","_law_nodes","_law_ends","_law_cell_here","_law_many"] (spU K c 5 [1,2] J2) :=
 F.okU (k:=4) (pp:=[1,2]) D6 fun cdv A outer s H E hr=>⟨_,(c8 (i9 (i:=5) D6.nd rfl (Or.inl rfl) (h7 w9 (pv 3) (n8 (j0 (K:=K)) rfl T.z_len B5 (a6 (pv 1) c6)))) (c8 (i9 (i:=6) D6.nd rfl (Or.inl rfl) (h7 z9 (h7 D8 (pv 3) a8) (h7 w9 (pv 3) a8))) (c8 (w4 (j7 a3B (d5 (i6 (K:=K)) (pv 1) (pv 5) '#') R6 (i8 _)) (c8 (L6 (t7 G_l_end_spoilt hr (by decide) u5 (a6 (d5 (i6 (K:=K)) (pv 2) (pv 5) '#') (a6 (pv 6) (a6 (pv 4) c6)))) (a0A (pv 2) (pv 5) U1)) (g6 a6W)) k9) (c8 (i9 (i:=7) D6.nd rfl (Or.inl rfl) (d5 (i6 (K:=K)) (pv 1) (pv 5) '#')) (c8 (i9 (i:=8) D6.nd rfl (Or.inl rfl) (d5 (c9 (K:=K)) (pv 7) a8 '#')) (c8 (i9 (i:=9) D6.nd rfl (Or.inl rfl) (h7 w9 (h7 D8 (pv 6) a8) (h7 a3A a8 a8))) (c8 (i9 (i:=10) D6.nd rfl (Or.inl rfl) (Z7 a2d rfl T.z_int a3I (a6 (C4 C7 (pv 8) A3 (i8 _)) c6))) (c8 (i9 (i:=11) D6.nd rfl (Or.inl rfl) (h7 B4 (d5 (c9 (K:=K)) (d5 (i6 (K:=K)) (pv 0) (pv 5) '#') (h7 z9 (pv 10) a8) '#') (d5 (c9 (K:=K)) (d5 (i6 (K:=K)) (pv 0) (pv 5) '#') (pv 10) '#'))) (c8 (i9 (i:=12) D6.nd rfl (Or.inl rfl) (d5 (c9 (K:=K)) (i0 (a6 (d5 (c9 (K:=K)) (pv 7) a8 '#') (a6 a8 (a6 (h7 z9 (d5 (c9 (K:=K)) (pv 7) a8 '#') a8) (a6 (h7 B4 (d5 (c9 (K:=K)) (pv 7) a8 '#') a8) (a6 (pv 9) (a6 (a7Q a5D (pv 9)) (a6 (pv 11) c6)))))))) (h7 w9 (pv 6) a8) '#')) (c8 (w4 (j7 C7 (h7 w9 (pv 6) a8) a8 (i8 _)) (g6 (i9 (i:=8) D6.nd rfl (Or.inl rfl) (d5 (c9 (K:=K)) (i0 (a6 A3 (a6 A3 c6))) (Z7 a2d rfl T.z_int a3I (a6 (C4 C7 (pv 8) A3 (i8 _)) c6)) '#'))) k9) (g6 (L6 (i0 (a6 (pv 8) (a6 (pv 12) (a6 (d5 (c9 (K:=K)) (pv 7) a8 '#') (a6 (d5 (c9 (K:=K)) (pv 7) a8 '#') c6))))) (a0A (pv 1) (pv 5) U1))))))))))))),(M1 (a0S (v3 (a7 x9 b0 (E4 B8)))) (M1 (a0S (v3 (a7 A1 (a7 M0 b0 b9) (a7 x9 b0 b9)))) (M1 (a8x (u9 (a7 a3V (l9 m4 b0) b9)) (M1 (a3_ (by decide) (u7 (a9 (l9 m4 b0) (a9 b0 (a9 b0 g5)))) b0) a9I) a8w) (M1 (a0S (v3 (l9 m4 b0))) (M1 (a0S (v3 (a7 d7 b0 b9))) (M1 (a0S (v3 (a7 x9 (a7 M0 b0 b9) (a7 a3U b9 b9)))) (M1 (a0S (v3 (a1H a4u.cb (a9 (a7 C8 b0 b9) g5)))) (M1 (a0S (v3 (a7 B7 (a7 d7 (l9 m4 b0) (a7 A1 b0 b9)) (a7 d7 (l9 m4 b0) b0)))) (M1 (a0S (v3 (a7 d7 (t5 (a9 (a7 d7 b0 b9) (a9 b9 (a9 (a7 A1 (a7 d7 b0 b9) b9) (a9 (a7 B7 (a7 d7 b0 b9) b9) (a9 b0 (a9 (b0B a5Y b0) (a9 b0 g5)))))))) (a7 x9 b0 b9)))) (M1 (a0S (u0 (u9 (a7 C8 (a7 x9 b0 b9) b9)) (v3 (a7 d7 (t5 (a9 b9 (a9 b9 g5))) (a1H a4u.cb (a9 (a7 C8 b0 b9) g5)))) y6)) (a3_ (by decide) (t5 (a9 b0 (a9 b0 (a9 (a7 d7 b0 b9) (a9 (a7 d7 b0 b9) g5))))) b0)))))))))))⟩
noncomputable def a5h:SF:=(d6 (j9 4 (eB c7 (eV 2) (eC (.int 1)))) (d6 (n6 (bOr (bZ (eB gLt (eV 4) (eC (.int 0)))) (bOr (bZ (eB gGe (eV 4) (A4 u6 0))) (bZ (eBW (X5 false) (eV 4) 3)))) (j5 (eC (.bl true))) t4) (d6 (n6 (M8 (bZ (eB c7 (eV 2) (eC (.int 2)))) (Q7 (bZ (eB c7 (k7 h9 0 (eV 4)) (eC (.int 2)))))) (j5 (eC (.bl true))) t4) (d6 (j9 5 (eB n9 (eB c7 (eV 1) (eC (.int 2))) (eB c7 (eV 1) (eC (.int 0))))) (d6 (j9 6 (eB n9 (eB c7 (eV 1) (eC (.int 3))) (eB c7 (eV 1) (eC (.int 1))))) (d6 (n6 (bZ (eB c7 (eV 2) (eC (.int 2)))) (j5 (eB (G8 true) (eT (aC (eB c7 (k7 h9 0 (eV 4)) (eC (.int 1))) (aC (eB c7 (k7 h9 0 (eV 4)) (eC (.int 0))) aN))) (eT (aC (eV 5) (aC (eV 6) aN))))) t4) (j5 (eB (G8 true) (eT (aC (eB c7 (k7 h9 0 (eV 4)) (eC (.int 0))) (aC (eB c7 (k7 h9 0 (eV 4)) (eC (.int 1))) aN))) (eT (aC (eV 5) (aC (eV 6) aN)))))))))))
noncomputable def z7:List D→Option R1:=fD 7 4 a5h
theorem T4:FnScope ["_law_wares","_law_spot","_law_end","_law_told","_law_k","_law_w","_law_h"] ["_law_wares","_law_spot","_law_end","_law_told"] (d9 L5):=⟨rfl,rfl,rfl,by decide +kernel,rfl,by decide +kernel,by decide +kernel⟩
theorem a4I{f:Addr}{fd:FuncData}(F:Fun K "_law_end_fault" "_law_end_fault" L5 f fd)(T:Txt K mg c)  : FnOk P w K mg base (A6 P w) 3 f fd ["_law_wares","_law_spot","_law_end","_law_told"] (k8 K c z7) :=
 F.okD (k:=2) T4 fun cdv A outer s H E hr=>⟨_,(c8 (i9 (i:=4) T4.nd rfl (Or.inl rfl) (d5 (c9 (K:=K)) (pv 2) a8 '#')) (c8 (w4 (PW.pt (a1u (j7 a1w (pv 4) a8 (i8 _)) (a1u (j7 a7T (pv 4) (n8 (j0 (K:=K)) rfl T.z_len B5 (a6 (pv 0) c6)) (i8 _)) (a3v (j7 (a89 (K:=K)) (pv 4) (pv 3) (by with_unfolding_all rfl)))))) (g6 (l7 a1t)) k9) (c8 (w4 (PW.pt (Z6 (G9 (d5 (c9 (K:=K)) (pv 2) a8 '#')) (a0s (V7 (G9 (d5 (c9 (K:=K)) (d5 (i6 (K:=K)) (pv 0) (pv 4) '#') a8 '#')))))) (g6 (l7 a1t)) k9) (c8 (i9 (i:=5) T4.nd rfl (Or.inl rfl) (h7 B4 (d5 (c9 (K:=K)) (pv 1) a8 '#') (d5 (c9 (K:=K)) (pv 1) a8 '#'))) (c8 (i9 (i:=6) T4.nd rfl (Or.inl rfl) (h7 B4 (d5 (c9 (K:=K)) (pv 1) a8 '#') (d5 (c9 (K:=K)) (pv 1) a8 '#'))) (c8 (w4 (G9 (d5 (c9 (K:=K)) (pv 2) a8 '#')) (g6 (l7 (C4 (a4w (K:=K) (cl:=c) (a2o hr)) (i0 (a6 (d5 (c9 (K:=K)) (d5 (i6 (K:=K)) (pv 0) (pv 4) '#') a8 '#') (a6 (d5 (c9 (K:=K)) (d5 (i6 (K:=K)) (pv 0) (pv 4) '#') a8 '#') c6))) (i0 (a6 (pv 5) (a6 (pv 6) c6))) (i8 _)))) k9) (g6 (l7 (C4 (a4w (K:=K) (cl:=c) (a2o hr)) (i0 (a6 (d5 (c9 (K:=K)) (d5 (i6 (K:=K)) (pv 0) (pv 4) '#') a8 '#') (a6 (d5 (c9 (K:=K)) (d5 (i6 (K:=K)) (pv 0) (pv 4) '#') a8 '#') c6))) (i0 (a6 (pv 5) (a6 (pv 6) c6))) (i8 _)))))))))),(g8 (v3 (a7 d7 b0 b9)) (g8 (u0 (a0H (u9 (a7 a1I b0 b9)) (a0H (u9 (a7 a8e b0 (E4 B8))) (u9 (a9n a8t b0)))) (m9 b9) y6) (g8 (u0 (V0 (L9 (a7 d7 b0 b9)) (S6 (L9 (a7 d7 (l9 m4 b0) b9)))) (m9 b9) y6) (g8 (v3 (a7 B7 (a7 d7 b0 b9) (a7 d7 b0 b9))) (g8 (v3 (a7 B7 (a7 d7 b0 b9) (a7 d7 b0 b9))) (g8 (u0 (L9 (a7 d7 b0 b9)) (m9 (a7 a2p (t5 (a9 (a7 d7 (l9 m4 b0) b9) (a9 (a7 d7 (l9 m4 b0) b9) g5))) (t5 (a9 b0 (a9 b0 g5))))) y6) (m9 (a7 a2p (t5 (a9 (a7 d7 (l9 m4 b0) b9) (a9 (a7 d7 (l9 m4 b0) b9) g5))) (t5 (a9 b0 (a9 b0 g5)))))))))))⟩
noncomputable def a9S:SF:=(d6 (A5 3 (eL (aC (eT (aC (eT (aC (eC (.int 0)) (aC (eC (.int 0)) (aC (eB c7 (eV 0) (eC (.int 0))) (aC (eB c7 (eV 0) (eC (.int 1))) aN))))) (aC (eV 2) aN))) aN))) (d6 (A5 4 (eL aN)) (d6 (E7 (bZ (eB gGt (A4 u6 3) (eC (.int 0)))) (d6 (a1a (a0h 3) (K2 [(g9 5),(g9 6)])) (n6 (bZ (eB (i7 false) (eB c7 (eV 6) (eC (.int 0))) (eC (.str "ware")))) (d6 (n6 (a1R (bZ (h8 z7 (aC (eV 1) (aC (eV 5) (aC (eV 6) (aC (eV 4) aN))))))) (j5 (eT (aC (eC (.str "ware")) (aC (eB c7 (eV 6) (eC (.int 1))) aN)))) t4) (D5 4 (eB c7 (eV 6) (eC (.int 1))))) (n6 (bZ (eB (i7 true) (eB c7 (eV 6) (eC (.int 0))) (eC (.str "waste")))) (d6 (j9 7 (X1 (g1 a0q) (aC (eB (i7 false) (eB c7 (eV 6) (eC (.int 0))) (eC (.str "up"))) aN))) (d6 (n6 (Q7 (bZ (a31 gLe gLt (eC (.int 1)) (eB c7 (eV 6) (eC (.int 1))) (eB n9 (eB c7 (eV 5) (eB v8 (eV 7) (eC (.int 2)))) (eB c7 (eV 5) (eV 7)))))) (j5 (eT (aC (eC (.str "cut")) (aC (eB c7 (eV 6) (eC (.int 1))) aN)))) t4) (d6 (T7 8 y8 (aC (eV 5) (aC (eV 7) (aC (eB c7 (eV 6) (eC (.int 1))) aN)))) (d6 (D5 3 (eT (aC (eB c7 (eV 8) (eC (.int 1))) (aC (eB c7 (eV 6) (eC (.int 3))) aN)))) (D5 3 (eT (aC (eB c7 (eV 8) (eC (.int 0))) (aC (eB c7 (eV 6) (eC (.int 2))) aN)))))))) t4))) 1000000) (d6 (P4 P3 (aC (A4 u6 1) aN) (g9 9) (n6 (bZ (eBW (X5 true) (eV 9) 4)) (j5 (eT (aC (eC (.str "lacks")) (aC (eV 9) aN)))) t4)) (j5 (eC .non))))))
noncomputable def S0:List D→Option R1:=fD 10 3 a9S
theorem M5:FnScope ["_law_box","_law_wares","_law_plan","_law_left","_law_told","_law_spot","_law_piece","_law_way","_law_parts_here","_law_k"] ["_law_box","_law_wares","_law_plan"] (d9 V4):=⟨rfl,rfl,rfl,by decide +kernel,rfl,by decide +kernel,by decide +kernel⟩
theorem a8J{f:Addr}{fd:FuncData}(F:Fun K "_law_fault" "_law_fault" V4 f fd)(T:Txt K mg c)(G_l_end_fault:Own P w K mg base 3 "_law_end_fault" ["_law_wares","_law_spot","_law_end","_law_told"] (k8 K c z7))(G_l_parts:Own P w K mg base 3 "_law_parts" ["_law_spot","_law_way","_law_at"] (k8 K c y8)):FnOk P w K mg base (A6 P w) 5 f fd ["_law_box","_law_wares","_law_plan"] (k8 K c S0) :=
 F.okD (k:=4) M5 fun cdv A outer s H E hr=>⟨_,(c8 (i9 (i:=3) M5.nd rfl (Or.inl rfl) (V8 (a6 (i0 (a6 (i0 (a6 a8 (a6 a8 (a6 (d5 (c9 (K:=K)) (pv 0) a8 '#') (a6 (d5 (c9 (K:=K)) (pv 0) a8 '#') c6))))) (a6 (pv 2) c6))) c6))) (c8 (i9 (i:=4) M5.nd rfl (Or.inl rfl) (V8 c6)) (c8 (a5B PassesOwn.leaving (j7 a2E (n8 (j0 (K:=K)) rfl T.z_len B5 (a6 (pv 3) c6)) a8 (i8 _)) (c8 (L6 (a4k (K:=K) PySem.F.plainAttrs_list PySem.F.slot_list_pop PySem.F.type_list_pop a5K (pv 3)) (U8 (K:=K) (n:=2) rfl (z8 (r9 (i:=5) M5.nd rfl (Or.inl rfl)) (z8 (r9 (i:=6) M5.nd rfl (Or.inl rfl)) U7)))) (g6 (w4 (j7 C7 (d5 (c9 (K:=K)) (pv 6) a8 '#') A3 (i8 _)) (c8 (w4 (G9 (t7 G_l_end_fault hr (by decide) u5 (a6 (pv 1) (a6 (pv 5) (a6 (pv 6) (a6 (pv 4) c6)))))) (g6 (l7 (i0 (a6 A3 (a6 (d5 (c9 (K:=K)) (pv 6) a8 '#') c6))))) k9) (g6 (D1 (L8 (K:=K) PySem.F.plainAttrs_list PySem.F.slot_list_append PySem.F.type_list_append C3 (pv 4) (a6 (d5 (c9 (K:=K)) (pv 6) a8 '#') c6))))) (g6 (w4 (j7 a7S (d5 (c9 (K:=K)) (pv 6) a8 '#') A3 (i8 _)) (c8 (i9 (i:=7) M5.nd rfl (Or.inl rfl) (Z7 a2d rfl T.z_int a3I (a6 (C4 C7 (d5 (c9 (K:=K)) (pv 6) a8 '#') A3 (i8 _)) c6))) (c8 (w4 (V7 (b0b b48 a1w a8 (d5 (c9 (K:=K)) (pv 6) a8 '#') (h7 B4 (d5 (c9 (K:=K)) (pv 5) (h7 z9 (pv 7) a8) '#') (d5 (c9 (K:=K)) (pv 5) (pv 7) '#')))) (g6 (l7 (i0 (a6 A3 (a6 (d5 (c9 (K:=K)) (pv 6) a8 '#') c6))))) k9) (c8 (i9 (i:=8) M5.nd rfl (Or.inl rfl) (t7 G_l_parts hr (by decide) u5 (a6 (pv 5) (a6 (pv 7) (a6 (d5 (c9 (K:=K)) (pv 6) a8 '#') c6))))) (c8 (D1 (L8 (K:=K) PySem.F.plainAttrs_list PySem.F.slot_list_append PySem.F.type_list_append C3 (pv 3) (a6 (i0 (a6 (d5 (c9 (K:=K)) (pv 8) a8 '#') (a6 (d5 (c9 (K:=K)) (pv 6) a8 '#') c6))) c6))) (g6 (D1 (L8 (K:=K) PySem.F.plainAttrs_list PySem.F.slot_list_append PySem.F.type_list_append C3 (pv 3) (a6 (i0 (a6 (d5 (c9 (K:=K)) (pv 8) a8 '#') (a6 (d5 (c9 (K:=K)) (pv 6) a8 '#') c6))) c6)))))))) k9)))))) (c8 (N6 PassesOwn.leaving rfl (O2 rfl T.z_range (a6 (n8 (j0 (K:=K)) rfl T.z_len B5 (a6 (pv 1) c6)) c6)) (r9 (i:=9) M5.nd rfl (Or.inl rfl)) (g6 (w4 (j7 (a8_ (K:=K)) (pv 9) (pv 4) (by with_unfolding_all rfl)) (g6 (l7 (i0 (a6 A3 (a6 (pv 9) c6))))) k9))) (g6 (l7 R6)))))),(g8 (J5 (a1G (a9 (t5 (a9 (t5 (a9 b9 (a9 b9 (a9 (a7 d7 b0 b9) (a9 (a7 d7 b0 b9) g5))))) (a9 b0 g5))) g5))) (g8 (J5 (a1G g5)) (g8 (a56 (u9 (a7 a2K (E4 B8) b9)) (g8 (a2m a59 (a0v (C9 (t8 (k:=10) (by decide)) (C9 (t8 (k:=10) (by decide)) a0u)) rfl)) (u0 (u9 (a7 C8 (a7 d7 b0 b9) b9)) (g8 (u0 (a6d (L9 (u7 (a9 b0 (a9 b0 (a9 b0 (a9 b0 g5))))))) (m9 (t5 (a9 b9 (a9 (a7 d7 b0 b9) g5)))) y6) (N7 (a7 d7 b0 b9))) (u0 (u9 (a7 a8f (a7 d7 b0 b9) b9)) (g8 (v3 (a1H a4u.cb (a9 (a7 C8 (a7 d7 b0 b9) b9) g5))) (g8 (u0 (S6 (u9 (b0H b5i a1I b9 (a7 d7 b0 b9) (a7 B7 (a7 d7 b0 (a7 A1 b0 b9)) (a7 d7 b0 b0))))) (m9 (t5 (a9 b9 (a9 (a7 d7 b0 b9) g5)))) y6) (g8 (a1K (a9 b0 (a9 b0 (a9 (a7 d7 b0 b9) g5)))) (g8 (N7 (t5 (a9 (a7 d7 b0 b9) (a9 (a7 d7 b0 b9) g5)))) (N7 (t5 (a9 (a7 d7 b0 b9) (a9 (a7 d7 b0 b9) g5)))))))) y6)))) (g8 (X9 (a9 (E4 B8) g5) (t8 (k:=10) (by decide)) (u0 (u9 (a9n a8t b0)) (m9 (t5 (a9 b9 (a9 b0 g5)))) y6)) (m9 b9)))))⟩
noncomputable def a1o:UF:=(a1W P3 (aC (A4 u6 2) aN) (g9 4) (D0 (uS (j9 5 (k7 h9 2 (eB m7 (eB v8 (eV 4) (eB m7 (eV 3) (A4 u6 2))) (A4 u6 2))))) (a1X 2 (g9 6) (D0 (uS (j9 7 (eB (i7 false) (eB n9 (eB c7 (k7 h9 0 (eV 5)) (eC (.int 2))) (eB c7 (k7 h9 0 (eV 5)) (eC (.int 0)))) (eB n9 (eB c7 (k7 h9 0 (eV 6)) (eC (.int 2))) (eB c7 (k7 h9 0 (eV 6)) (eC (.int 0))))))) (uIf (M8 (bZ (eB (i7 true) (eV 6) (eV 5))) (M8 (bZ (eV 7)) (bZ (eB (i7 false) (eB n9 (eB c7 (k7 h9 0 (eV 5)) (eC (.int 3))) (eB c7 (k7 h9 0 (eV 5)) (eC (.int 1)))) (eB n9 (eB c7 (k7 h9 0 (eV 6)) (eC (.int 3))) (eB c7 (k7 h9 0 (eV 6)) (eC (.int 1)))))))) (D0 (a0R 1 (eV 6) (k7 h9 1 (eV 5))) a4F) uNx)))))
noncomputable def A9:DE→Option DE:=fU 8 a1o
theorem M6:FnScope ["_law_spots","_law_ends","_law_order","_law_cell_here","_law_turn","_law_k","_law_j","_law_across"] ["_law_spots","_law_ends","_law_order","_law_cell_here"] (d9 J8):=⟨rfl,rfl,rfl,by decide +kernel,rfl,by decide +kernel,by decide +kernel⟩
theorem a4f{f:Addr}{fd:FuncData}(F:Fun K "_law_told_twice" "_law_told_twice" J8 f fd)(T:Txt K mg c)  : FnOk P w K mg base (A6 P w) 3 f fd ["_law_spots","_law_ends","_law_order","_law_cell_here"] (spU K c 4 [1] A9) :=
 F.okU (k:=2) (pp:=[1]) M6 fun cdv A outer s H E hr=>⟨_,(g6 (N6 PassesOwn.leaving rfl (O2 rfl T.z_range (a6 (n8 (j0 (K:=K)) rfl T.z_len B5 (a6 (pv 2) c6)) c6)) (r9 (i:=4) M6.nd rfl (Or.inl rfl)) (c8 (i9 (i:=5) M6.nd rfl (Or.inl rfl) (d5 (i6 (K:=K)) (pv 2) (h7 w9 (h7 z9 (pv 4) (h7 w9 (pv 3) (n8 (j0 (K:=K)) rfl T.z_len B5 (a6 (pv 2) c6)))) (n8 (j0 (K:=K)) rfl T.z_len B5 (a6 (pv 2) c6))) '#')) (g6 (N6 PassesOwn.leaving rfl (a1e (pv 2)) (r9 (i:=6) M6.nd rfl (Or.inl rfl)) (c8 (i9 (i:=7) M6.nd rfl (Or.inl rfl) (C4 C7 (h7 B4 (d5 (c9 (K:=K)) (d5 (i6 (K:=K)) (pv 0) (pv 5) '#') a8 '#') (d5 (c9 (K:=K)) (d5 (i6 (K:=K)) (pv 0) (pv 5) '#') a8 '#')) (h7 B4 (d5 (c9 (K:=K)) (d5 (i6 (K:=K)) (pv 0) (pv 6) '#') a8 '#') (d5 (c9 (K:=K)) (d5 (i6 (K:=K)) (pv 0) (pv 6) '#') a8 '#')) (i8 _))) (g6 (w4 (PW.pt (Z6 (j7 a7S (pv 6) (pv 5) (i8 _)) (Z6 (G9 (pv 7)) (a0s (j7 C7 (h7 B4 (d5 (c9 (K:=K)) (d5 (i6 (K:=K)) (pv 0) (pv 5) '#') a8 '#') (d5 (c9 (K:=K)) (d5 (i6 (K:=K)) (pv 0) (pv 5) '#') a8 '#')) (h7 B4 (d5 (c9 (K:=K)) (d5 (i6 (K:=K)) (pv 0) (pv 6) '#') a8 '#') (d5 (c9 (K:=K)) (d5 (i6 (K:=K)) (pv 0) (pv 6) '#') a8 '#')) (i8 _)))))) (c8 (L6 (d5 (i6 (K:=K)) (pv 1) (pv 5) '#') (a0A (pv 1) (pv 6) U1)) (g6 a6W)) k9)))))))),(a6k (a9 (E4 B8) g5) (t8 (k:=8) (by decide)) (M1 (a0S (v3 (l9 m4 (a7 x9 (a7 A1 b0 (a7 x9 b0 (E4 B8))) (E4 B8))))) (b3m (t8 (k:=8) (by decide)) (M1 (a0S (v3 (a7 C8 (a7 B7 (a7 d7 (l9 m4 b0) b9) (a7 d7 (l9 m4 b0) b9)) (a7 B7 (a7 d7 (l9 m4 b0) b9) (a7 d7 (l9 m4 b0) b9))))) (a8x (V0 (u9 (a7 a8f b0 b0)) (V0 (L9 b0) (u9 (a7 C8 (a7 B7 (a7 d7 (l9 m4 b0) b9) (a7 d7 (l9 m4 b0) b9)) (a7 B7 (a7 d7 (l9 m4 b0) b9) (a7 d7 (l9 m4 b0) b9)))))) (M1 (a3_ (by decide) (l9 m4 b0) b0) a9I) a8w)))))⟩
def a2x:UF:=(a1W P3 (aC (A4 u6 1) aN) (g9 3) (uIf (bZ (eB (i7 false) (eB m7 (h8 r6 (aC (eV 2) (aC (eV 3) (aC (eC (.int 30011)) aN)))) (eC (.int 4))) (eC (.int 0)))) (a0R 0 (k7 h9 1 (eV 3)) (eT (aC (eC (.str "waste")) aN))) uNx))
def C6:DE→Option DE:=fU 4 a2x
theorem a17:FnScope ["_law_ends","_law_order","_law_cell_here","_law_k"] ["_law_ends","_law_order","_law_cell_here"] (d9 O0):=⟨rfl,rfl,rfl,by decide +kernel,rfl,by decide +kernel,by decide +kernel⟩
theorem a5i{f:Addr}{fd:FuncData}(F:Fun K "_law_some_out" "_law_some_out" O0 f fd)(T:Txt K mg c)(G_l_mix:Own P w K mg base 3 "_law_mix" ["_law_cell_here","_law_k","_law_prime"] (k8 K c r6)):FnOk P w K mg base (A6 P w) 5 f fd ["_law_ends","_law_order","_law_cell_here"] (spU K c 3 [0] C6) :=
 F.okU (k:=4) (pp:=[0]) a17 fun cdv A outer s H E hr=>⟨_,(g6 (N6 PassesOwn.leaving rfl (O2 rfl T.z_range (a6 (n8 (j0 (K:=K)) rfl T.z_len B5 (a6 (pv 1) c6)) c6)) (r9 (i:=3) a17.nd rfl (Or.inl rfl)) (g6 (w4 (j7 C7 (h7 w9 (t7 G_l_mix hr (by decide) u5 (a6 (pv 2) (a6 (pv 3) (a6 a8 c6)))) a8) a8 (i8 _)) (g6 (L6 (i0 (a6 A3 c6)) (a0A (pv 0) (d5 (i6 (K:=K)) (pv 1) (pv 3) '#') U1))) k9)))),(a6k (a9 (E4 B8) g5) (t8 (k:=4) (by decide)) (a8x (u9 (a7 C8 (a7 x9 (u7 (a9 b0 (a9 b0 (a9 b9 g5)))) b9) b9)) (a3_ (by decide) (t5 (a9 b9 g5)) (l9 m4 b0)) a8w))⟩
noncomputable def b5m:SF:=(d6 (j9 1 (eT (aC (h8 N2 (aC (h8 m8 (aC (eV 0) (aC (eC (.int 0)) aN))) aN)) (aC (h8 N2 (aC (h8 m8 (aC (eV 0) (aC (eC (.int 1)) aN))) aN)) aN)))) (d6 (a2R 2 3 U6 (aC (eV 1) (aC (zN (a8s 0 (oS (eC (.int 6))) (oS (eC (.int 46))))) aN))) (d6 (a1m 4 5 6 Q0 (aC (eV 2) (aC (eV 3) (aC (h8 m8 (aC (eV 0) (aC (eC (.int 2)) aN))) aN)))) (d6 (j9 7 (eB m7 (h8 m8 (aC (eV 0) (aC (eC (.int 3)) aN))) (eC (.int 5)))) (d6 (P4 P3 (aC (eB c7 (eT (aC (eC (.int 0)) (aC (eC (.int 1)) (aC (eC (.int 2)) (aC (eC (.int 0)) (aC (eC (.int 0)) aN)))))) (eV 7)) aN) (g9 8) (K4 5 [1,2] J2 (F5 (eV 2) (W7 3 (W7 5 (F5 (h8 m8 (aC (eV 0) (aC (eB v8 (eC (.int 4)) (eV 8)) aN))) (F5 (A4 u6 4) auN))))))) (d6 (n6 (bZ (eB (i7 false) (eV 7) (eC (.int 3)))) (K4 4 [1] A9 (F5 (eV 2) (W7 5 (F5 (eV 6) (F5 (h8 m8 (aC (eV 0) (aC (eC (.int 4)) aN))) auN))))) t4) (d6 (n6 (bZ (eB (i7 false) (eV 7) (eC (.int 4)))) (K4 3 [0] C6 (W7 5 (F5 (eV 6) (F5 (h8 m8 (aC (eV 0) (aC (eC (.int 5)) aN))) auN)))) t4) (d6 (j9 9 (eB m7 (eB D4 (h8 m8 (aC (eV 0) (aC (eC (.int 3)) aN))) (eC (.int 5))) (eC (.int 6)))) (d6 (n6 (M8 (bZ (eB (i7 false) (eV 9) (eC (.int 1)))) (bZ (eB gGt (A4 u6 4) (eC (.int 0))))) (sEx (a0h 4)) t4) (d6 (P4 P3 (aC (X1 W5 (aC (eC (.int 0)) (aC (eB n9 (eV 9) (eC (.int 3))) aN))) aN) (g9 8) (D5 4 (eT (aC (eB v8 (eC (.int 1)) (eB m7 (h8 m8 (aC (eV 0) (aC (eC (.int 4)) aN))) (eC (.int 9)))) (aC (eB v8 (eC (.int 1)) (eV 8)) (aC (eB (i7 false) (eV 8) (eC (.int 0))) aN)))))) (d6 (j9 10 (a1Q (h8 P9 (aC (eV 3) (aC (eV 5) aN))))) (d6 (A5 11 (nCV a1J 4)) (d6 (a5r 12 K5 (aC (eV 1) (aC (eV 11) (aC (eV 10) aN)))) (d6 (j9 13 (a1Q (h8 S0 (aC (eV 1) (aC (eV 4) (aC (eV 10) aN)))))) (d6 (n6 (bZ (a5X (G8 true) 11 4)) (j5 (eC (.bl false))) t4) (d6 (n6 (bZ (eB (K1 false) (eV 13) (eC .non))) (j5 (eB (K1 false) (eV 12) (eC .non))) t4) (d6 (n6 (bOr (Q7 (bZ (a1M 12 "tuple"))) (bOr (bZ (eB (i7 true) (A4 u6 12) (eC (.int 2)))) (Q7 (bZ (X1 a4p (aC (eB c7 (eV 12) (eC (.int 0))) (aC (eC (.ty "str")) aN))))))) (j5 (eC (.bl false))) t4) (j5 (a2j (h8 O5 (aC (eB c7 (eV 12) (eC (.int 1))) aN)) (eB (G8 false) (eV 12) (eV 13)))))))))))))))))))))
noncomputable def b1K:List D→Option R1:=fD 14 1 b5m
theorem K6:FnScope ["_law_script","_law_box","_law_spots","_law_nodes","_law_wares","_law_ends","_law_order","_law_mode","_law_k","_law_size","_law_plan","_law_handed","_law_found","_law_due"] ["_law_script"] (d9 Z3):=⟨rfl,rfl,rfl,by decide +kernel,rfl,by decide +kernel,by decide +kernel⟩
theorem b3p{TB:List (Addr×Str)}{f:Addr}{fd:FuncData}(F:Fun K "law" "law" Z3 f fd)(T:Txt K mg c)(G_l_long:Own P w K mg base 3 "_law_long" ["_law_cell_here"] (k8 K c N2))(G_l_cell:Own P w K mg base 3 "_law_cell" ["_law_script","_law_k"] (k8 K c m8))(G_l_tree:Own P w K mg base 7 "_law_tree" ["_law_box","_law_cells"] (k8 K c U6))(G_l_filled:Own P w K mg base 8 "_law_filled" ["_law_spots","_law_nodes","_law_cell_here"] (spT TB (k8 K c Q0)))(G_l_spoilt:Own P w K mg base 5 "_law_spoilt" ["_law_spots","_law_nodes","_law_ends","_law_cell_here","_law_many"] (spU K c 5 [1,2] J2))(G_l_told_twice:Own P w K mg base 3 "_law_told_twice" ["_law_spots","_law_ends","_law_order","_law_cell_here"] (spU K c 4 [1] A9))(G_l_some_out:Own P w K mg base 5 "_law_some_out" ["_law_ends","_law_order","_law_cell_here"] (spU K c 3 [0] C6))(G_l_joined:Own P w K mg base 3 "_law_joined" ["_law_nodes","_law_ends"] (k8 K c P9))(G_plan_fault:Own P w K mg base 7 "plan_fault" ["box","wares","plan"] (k8 K c K5))(G_l_fault:Own P w K mg base 5 "_law_fault" ["_law_box","_law_wares","_law_plan"] (k8 K c S0))(G_l_whole:Own P w K mg base 3 "_law_whole" ["_law_found"] (k8 K c O5)):FnOk P w K mg base (A6 P w) 10 f fd ["_law_script"] (spT TB (k8 K c b1K)) :=
 F.okT (k:=9) K6 fun A outer s H E hT hr=>⟨_,(c8 (i9 (i:=1) K6.nd rfl (Or.inl rfl) (i0 (a6 (t7 G_l_long hr (by decide) u5 (a6 (t7 G_l_cell hr (by decide) u5 (a6 (pv 0) (a6 a8 c6))) c6)) (a6 (t7 G_l_long hr (by decide) u5 (a6 (t7 G_l_cell hr (by decide) u5 (a6 (pv 0) (a6 a8 c6))) c6)) c6)))) (c8 (L6 (t7 G_l_tree hr (by decide) u5 (a6 (pv 1) (a6 (b0c (b0p (K:=K)) (pv 0) (a62 a8) (a62 a8)) c6))) (U8 (K:=K) (n:=2) rfl (z8 (r9 (i:=2) K6.nd rfl (Or.inl rfl)) (z8 (r9 (i:=3) K6.nd rfl (Or.inl rfl)) U7)))) (c8 (L6 (b3f hT G_l_filled hr (by decide) u5 (a6 (pv 2) (a6 (pv 3) (a6 (t7 G_l_cell hr (by decide) u5 (a6 (pv 0) (a6 a8 c6))) c6)))) (U8 (K:=K) (n:=3) rfl (z8 (r9 (i:=4) K6.nd rfl (Or.inl rfl)) (z8 (r9 (i:=5) K6.nd rfl (Or.inl rfl)) (z8 (r9 (i:=6) K6.nd rfl (Or.inl rfl)) U7))))) (c8 (i9 (i:=7) K6.nd rfl (Or.inl rfl) (h7 w9 (t7 G_l_cell hr (by decide) u5 (a6 (pv 0) (a6 a8 c6))) a8)) (c8 (N6 PassesOwn.leaving rfl (O2 rfl T.z_range (a6 (d5 (c9 (K:=K)) (i0 (a6 a8 (a6 a8 (a6 a8 (a6 a8 (a6 a8 c6)))))) (pv 7) '#') c6)) (r9 (i:=8) K6.nd rfl (Or.inl rfl)) (g6 (D1 (t7 G_l_spoilt hr (by decide) u5 (a6 (pv 2) (a6 (pv 3) (a6 (pv 5) (a6 (t7 G_l_cell hr (by decide) u5 (a6 (pv 0) (a6 (h7 z9 a8 (pv 8)) c6))) (a6 (n8 (j0 (K:=K)) rfl T.z_len B5 (a6 (pv 4) c6)) c6))))))))) (c8 (w4 (j7 C7 (pv 7) a8 (i8 _)) (g6 (D1 (t7 G_l_told_twice hr (by decide) u5 (a6 (pv 2) (a6 (pv 5) (a6 (pv 6) (a6 (t7 G_l_cell hr (by decide) u5 (a6 (pv 0) (a6 a8 c6))) c6))))))) k9) (c8 (w4 (j7 C7 (pv 7) a8 (i8 _)) (g6 (D1 (t7 G_l_some_out hr (by decide) u5 (a6 (pv 5) (a6 (pv 6) (a6 (t7 G_l_cell hr (by decide) u5 (a6 (pv 0) (a6 a8 c6))) c6)))))) k9) (c8 (i9 (i:=9) K6.nd rfl (Or.inl rfl) (h7 w9 (h7 D8 (t7 G_l_cell hr (by decide) u5 (a6 (pv 0) (a6 a8 c6))) a8) a8)) (c8 (w4 (PW.pt (Z6 (j7 C7 (pv 9) a8 (i8 _)) (a0s (j7 a2E (n8 (j0 (K:=K)) rfl T.z_len B5 (a6 (pv 4) c6)) a8 (i8 _))))) (g6 (D1 (a4k (K:=K) PySem.F.plainAttrs_list PySem.F.slot_list_pop PySem.F.type_list_pop a5K (pv 4)))) k9) (c8 (N6 PassesOwn.leaving rfl (O2 rfl T.z_range (a6 (n8 (a2c rfl) rfl T.z_max a5P (a6 a8 (a6 (h7 B4 (pv 9) a8) c6))) c6)) (r9 (i:=8) K6.nd rfl (Or.inl rfl)) (g6 (D1 (L8 (K:=K) PySem.F.plainAttrs_list PySem.F.slot_list_append PySem.F.type_list_append C3 (pv 4) (a6 (i0 (a6 (h7 z9 a8 (h7 w9 (t7 G_l_cell hr (by decide) u5 (a6 (pv 0) (a6 a8 c6))) a8)) (a6 (h7 z9 a8 (pv 8)) (a6 (C4 C7 (pv 8) a8 (i8 _)) c6)))) c6))))) (c8 (i9 (i:=10) K6.nd rfl (Or.inl rfl) (t7 G_l_joined hr (by decide) u5 (a6 (pv 3) (a6 (pv 5) c6)))) (c8 (i9 (i:=11) K6.nd rfl (Or.inl rfl) (Z7 (a13 (K:=K)) rfl T.z_list a67 (a6 (pv 4) c6))) (c8 (i9 (i:=12) K6.nd rfl (Or.inl rfl) (t7 G_plan_fault hr (by decide) (XAcc.passes a2F) (a6 (pv 1) (a6 (pv 11) (a6 (pv 10) c6))))) (c8 (i9 (i:=13) K6.nd rfl (Or.inl rfl) (t7 G_l_fault hr (by decide) u5 (a6 (pv 1) (a6 (pv 4) (a6 (pv 10) c6))))) (c8 (w4 (j7 (a4w (K:=K) (cl:=c) (a2o hr)) (pv 11) (pv 4) (i8 _)) (g6 (l7 a1t)) k9) (c8 (w4 (j7 a3B (pv 13) R6 (i8 _)) (g6 (l7 (C4 a3B (pv 12) R6 (i8 _)))) k9) (c8 (w4 (PW.pt (a1u (V7 (G9 (n8 (a0Z (K:=K)) rfl T.z_isinstance T9 (a6 (pv 12) (a6 (a2D (v:=.ty "tuple") rfl T.z_tuple b0n rfl) c6))))) (a1u (j7 a7S (n8 (j0 (K:=K)) rfl T.z_len B5 (a6 (pv 12) c6)) a8 (i8 _)) (a3v (V7 (G9 (n8 (a0Z (K:=K)) rfl T.z_isinstance T9 (a6 (d5 (c9 (K:=K)) (pv 12) a8 '#') (a6 (a2D (v:=.ty "str") rfl T.z_str b3W rfl) c6))))))))) (g6 (l7 a1t)) k9) (g6 (l7 (a3x (t7 G_l_whole hr (by decide) u5 (a6 (d5 (c9 (K:=K)) (pv 12) a8 '#') c6)) (a3w (C4 (a7s (K:=K) (cl:=c) (a2o hr)) (pv 12) (pv 13) (i8 _))))))))))))))))))))))),(g8 (v3 (t5 (a9 (u7 (a9 (u7 (a9 b0 (a9 b9 g5))) g5)) (a9 (u7 (a9 (u7 (a9 b0 (a9 b9 g5))) g5)) g5)))) (g8 (a9K (a9 b0 (a9 (b5g (b4w (b1H b9) (b1H b9))) g5))) (g8 (a9J (a9 b0 (a9 b0 (a9 (u7 (a9 b0 (a9 b9 g5))) g5)))) (g8 (v3 (a7 x9 (u7 (a9 b0 (a9 b9 g5))) b9)) (g8 (X9 (a9 (a7 d7 (t5 (a9 b9 (a9 b9 (a9 b9 (a9 b9 (a9 b9 g5)))))) b0) g5) (t8 (k:=14) (by decide)) (a3o (a06 b0 (a5t (a5t (a06 (u7 (a9 b0 (a9 (a7 A1 b9 b0) g5))) (a06 (E4 B8) a8z))))))) (g8 (u0 (u9 (a7 C8 b0 b9)) (a3o (a06 b0 (a5t (a06 b0 (a06 (u7 (a9 b0 (a9 b9 g5))) a8z))))) y6) (g8 (u0 (u9 (a7 C8 b0 b9)) (a3o (a5t (a06 b0 (a06 (u7 (a9 b0 (a9 b9 g5))) a8z)))) y6) (g8 (v3 (a7 x9 (a7 M0 (u7 (a9 b0 (a9 b9 g5))) b9) b9)) (g8 (u0 (V0 (u9 (a7 C8 b0 b9)) (u9 (a7 a2K (E4 B8) b9))) (b5j a59) y6) (g8 (X9 (a9 (a1H a4t (a9 b9 (a9 (a7 B7 b0 b9) g5))) g5) (t8 (k:=14) (by decide)) (N7 (t5 (a9 (a7 A1 b9 (a7 x9 (u7 (a9 b0 (a9 b9 g5))) b9)) (a9 (a7 A1 b9 b0) (a9 (a7 C8 b0 b9) g5)))))) (g8 (v3 (a6c (u7 (a9 b0 (a9 b0 g5))))) (g8 (J5 (a9p a7j)) (g8 (b2q (a9 b0 (a9 b0 (a9 b0 g5)))) (g8 (v3 (a6c (u7 (a9 b0 (a9 b0 (a9 b0 g5)))))) (g8 (u0 (u9 (b2l a2p)) (m9 b9) y6) (g8 (u0 (u9 (a7 a3V b0 b9)) (m9 (a7 a3V b0 b9)) y6) (g8 (u0 (a0H (S6 (L9 a4q)) (a0H (u9 (a7 a8f (E4 B8) b9)) (S6 (L9 (a1H b4q (a9 (a7 d7 b0 b9) (a9 b9 g5))))))) (m9 b9) y6) (m9 (a3T (u7 (a9 (a7 d7 b0 b9) g5)) (a7 a2p b0 b0))))))))))))))))))))⟩
end Law
namespace Law
open PySem L2 PyProof.Rows
variable {P:Program}{w:World}{K:PySem.W.Frag}{mg:Str→Option Value}{base:Heap}{c:Str→Addr}
local macro_rules|`(tactic|walk_at $s:str)=>do
 let t←`(tactic|simp(decide:=true)only[*,b5k,b2t,b2u,b2v,b2w,b2G,b2x,b2y,b2z,b2A,b0I,b2B,b2C,b4r,b0J,b0K,a9w,a9x,b0L,a8l,a8m,a9y,a9z,a9A,b0M,a8n,a8o,b2D,b2E,b2H,b2F,b2I,b0N,a1k,b2J,b2K,a4r,b2M,b2L,b2N,a57,R9,D2,b28,b29,b2_,b3a,b3c,b3b,a43,a9C,a33,y9,a0K,a2n,b0Q,b4A,b4B,b0R,b4C,b4D,Q8,b23,b24,b25,b26,noL,noLs,a8s,oS,a2M,unhide,a9B,b2U,b2R,b2S,b2T,b2O,b2P,b2Q,a8g,V1,G8,A7,P6,j6,G4,U3,P7,Z2,Nat.max_self,Nat.zero_max,Nat.max_zero,decide_true,Bool.or_true,Bool.true_or,Bool.or_false,List.isEmpty_nil,W5,a0q,X5,inD,List.any_cons,List.any_nil,a0h,t9,List.all_cons,List.all_nil,Bool.and_self,Bool.and_true,Bool.true_and,beq_self_eq_true,b2V,b2W,b4s,b4t,b4u,b4v,a0b,b2Y,b2Z,a7p,n6,j9,A5,a5r,T7,j5,a3Y,a0O,a1m,a2R,K4,auN,W7,F5,asU,a05,C0,a3l,fU,uS,D0,uIf,a4F,uNx,a0R,a1W,a1X,t4,a1a,a53,sEx,D5,a8u,a8v,lookD,a5s,a38,a37,a4C,b05,b3k,b3l,a2l,a3Z,a0J,P4,b4E,b0X,b0Y,b0T,b0U,b0V,b0W,b0S,b27,b00,a9E,eC,eV,eB,k7,eBW,a5X,eT,eL,zN,aN,aC,a2L,h8,a4n,a2j,eIf,eU,a0I,X1,A4,nCV,g1,u6,a1J,bZ,Q7,M8,bOr,a30,b0Z,K2,a1L,a3S,b4f,b4g,V9,b4h,b4i,a1E,a1F,look,c7,h9,Q3,b2m,K1,a1M,b3e,a2O,tyN,a31,seqL,b1D,b1E,b1F,b1G,List.map_cons,List.map_nil,List.length_cons,List.length_nil,List.cons_append,List.nil_append,List.replicate_succ,List.replicate_zero,List.getElem?_cons_zero,List.getElem?_cons_succ,List.set_cons_zero,List.set_cons_succ,Nat.reduceAdd,Nat.reduceSub,if_true,if_false,Bool.not_true,Bool.not_false,Bool.not_not,Nat.zero_add,Bool.false_eq_true,decide_eq_true_eq,Bool.not_eq_true',decide_eq_false_iff_not,Option.map_some,Option.map_none,ite_self])
 return if s.getString=="eh" then t.raw else t.raw.modifyArg 4 (·.modifyArg 1 fun l=>l.setArg 0 l[2])
theorem Q5{ns:List Int}{k:Int}(hk:0≤k):m8 [.scr ns,.int k]=some (.ret (.int (C2 ns k))):=by
 rw[← b21 hk]
 unfold m8 a6n
 walk_at "ev"
 split
 ·cases atI ns k<;>rfl
 ·rfl
structure Sp4 where
 a:Int
 b:Int
 c:Int
 d:Int
def sD(q:Sp4):D:=.tup [.int q.a,.int q.b,.int q.c,.int q.d]
theorem T8{n:Nat}(h:n≤1000):P3 [.int (n:Int)]=some (0,n):=by
 unfold P3
 show(if _ then _ else _)=_
 rw[if_pos '!']
 simp
theorem V6{rg:List D→Option (Int×Nat)}{f:AF}{b:GF}{body:SF}{e e1:DE}{ds:List D}{lo:Int}{n:Nat}(h:f e=some (.ok ds e1))(hr:rg ds=some (lo,n)):P4 rg f b body e=B9 b body (N8 lo n) e1:=by
 unfold P4;rw[h,V9,hr]
theorem b1a(x:Int):O5 [.int x]=some (.ret (.bl true)):=by
 unfold O5 a47
 walk_at "ev"
 rfl
theorem a1d(m:Nat):N8 0 m=(List.range m).map fun(k:Nat)=>D.int (k:Int):=by
 unfold N8
 refine List.map_congr_left fun i _=>?_
 rw[Int.zero_add]
theorem b1b{α β:Type}(f:α→β){a:List β}{b:List β}(h:a.Perm b):∀l:List α,b=l.map f→∃m:List α,m.Perm l∧a=m.map f:=by
 induction h with
 | nil=>intro l e;exact⟨l,.refl _,e⟩
 | cons x p ih =>
  intro l e
  cases l with
  | nil=>cases e
  | cons y l =>
   rw[List.map_cons]at e
   injection e with e1 e2
   obtain⟨m,p1,q1⟩:=ih l e2
   exact⟨y::m,p1.cons y,by rw[List.map_cons,e1,q1]⟩
 | swap x y r =>
  intro l e
  match l,e with
  | a::b::l,e =>
   rw[List.map_cons,List.map_cons]at e
   injection e with e1 e2
   injection e2 with e2 e3
   exact⟨b::a::l,.swap _ _ _,by rw[List.map_cons,List.map_cons,e1,e2,e3]⟩
 | trans p q ih1 ih2 =>
  intro l e
  obtain⟨m1,p1,q1⟩:=ih2 l e
  obtain⟨m2,p2,q2⟩:=ih1 m1 q1
  exact⟨m2,p2.trans p1,q2⟩
abbrev oL(σ:List Nat):List D:=σ.map fun(k:Nat)=>D.int (k:Int)
abbrev b4M(GM:D→D→Option D):SF:=(j5 (eB m7 (eB GM (eB GM (eB v8 (eB v8 (eV 0) (eB GM (eV 1) (eV 1))) (eC (.int 7))) (eB v8 (eV 1) (eC (.int 3)))) (eC (.int 48271))) (eV 2)))
theorem b5n(GM:D→D→Option D)(c k p a b r:Int)(hp:0<p)(h1:GM (.int k) (.int k)=some (.int a))(h2:GM (.int (c+a+7)) (.int (k+3))=some (.int b))(h3:GM (.int b) (.int 48271)=some (.int r)):fD 3 3 (b4M GM) [.int c,.int k,.int p]=some (.ret (.int (r%p))):=by
 unfold b4M
 walk_at "eh"
theorem a2y(c:Int)(k p:Int)(hk:0≤k)(hk2:k≤100000)(hp:0<p):∃m:Int,0≤m∧r6 [.int c,.int k,.int p]=some (.ret (.int m)) :=
 ⟨_,Int.emod_nonneg _ '!',b5n a0f c k p _ _ _ hp (a0b '!') (a0b '!') (a0b (by decide))⟩
def N3(q:Sp4)(w:Bool):Int:=if w=true then q.d-q.b else q.c-q.a
def wI(w:Bool):Int:=if w=true then 1 else 0
def cD:Option (Bool×Int)→D
 | none=>.non
 | some (w,t)=>.tup [.int (wI w),.int t]
noncomputable abbrev a8K(MX:List D→Option R1)(GX GM:D→D→Option D):SF:=(d6 (T7 2 MX (aC (eV 1) (aC (eC (.int 1)) (aC (eC (.int 1000003)) aN)))) (d6 (j9 3 (eB m7 (eV 2) (eC (.int 2)))) (d6 (n6 (bZ (eB gLt (eB n9 (eB GX (eV 0) (eB v8 (eV 3) (eC (.int 2)))) (eB GX (eV 0) (eV 3))) (eC (.int 2)))) (j9 3 (eB n9 (eC (.int 1)) (eV 3))) t4) (d6 (j9 4 (eB n9 (eB GX (eV 0) (eB v8 (eV 3) (eC (.int 2)))) (eB GX (eV 0) (eV 3)))) (d6 (n6 (bZ (eB gLt (eV 4) (eC (.int 2)))) (j5 (eC .non)) t4) (d6 (n6 (bZ (eB (i7 false) (eB m7 (eV 1) (eC (.int 3))) (eC (.int 0)))) (j5 (eT (aC (eV 3) (aC (X1 W5 (aC (eC (.int 1)) (aC (eB D4 (eB GM (eV 4) (eB v8 (eC (.int 1)) (eB m7 (eB D4 (eV 2) (eC (.int 2))) (eC (.int 5))))) (eC (.int 6))) aN))) aN)))) t4) (j5 (eT (aC (eV 3) (aC (eB v8 (eC (.int 1)) (eB m7 (eB v8 (eB D4 (eV 2) (eC (.int 2))) (eB GM (eB D4 (eV 1) (eC (.int 64))) (eC (.int 7919)))) (eB n9 (eV 4) (eC (.int 1))))) aN))))))))))
theorem b1L(MX:List D→Option R1)(GX GM:D→D→Option D)(q:D)(c m y h0 l0 h1 l1 s g g2:Int)(hm:MX [.int c,.int 1,.int 1000003]=some (.ret (.int m)))(hy:m%2=y)(a:GX q (.int (y+2))=some (.int h0))(b:GX q (.int y)=some (.int l0))(a':GX q (.int (1-y+2))=some (.int h1))(b':GX q (.int (1-y))=some (.int l1))(z:Int)
  (hz:(¬h0-l0<2∧z=y∧h0-l0=s)∨(h0-l0<2∧z=1-y∧h1-l1=s)) (hs:¬s<2) (hs1:0<s-1) (e1:GM (.int s) (.int (1+m/2%5))=some (.int g)) (e2:GM (.int (c/64)) (.int 7919)=some (.int g2)) :
  ∃t:Int,fD 5 2 (a8K MX GX GM) [q,.int c]=some (.ret (.tup [.int z,.int t]))∧(t=(if g/6 > 1 then g/6 else 1)∨t=1+(m/2+g2)%(s-1)):=by
 unfold a8K
 by_cases h3:c%3=0
 ·refine⟨_,?_,.inl rfl⟩
  rcases hz with⟨z0,rfl,z1⟩ | ⟨z0,rfl,z1⟩<;>walk_at "eh"
 ·refine⟨_,?_,.inr rfl⟩
  rcases hz with⟨z0,rfl,z1⟩ | ⟨z0,rfl,z1⟩<;>walk_at "eh"
theorem b5o(MX:List D→Option R1)(GX GM:D→D→Option D)(q:D)(c m y h0 l0 h1 l1:Int)(hm:MX [.int c,.int 1,.int 1000003]=some (.ret (.int m)))(hy:m%2=y)(a:GX q (.int (y+2))=some (.int h0))(b:GX q (.int y)=some (.int l0))(a':GX q (.int (1-y+2))=some (.int h1))(b':GX q (.int (1-y))=some (.int l1))(hz:h0-l0<2)(hz1:h1-l1<2) :
  fD 5 2 (a8K MX GX GM) [q,.int c]=some (.ret .non):=by
 unfold a8K
 walk_at "eh"
theorem a5u(q:Sp4)(w:Bool):c7 (sD q) (.int (wI w+2))=some (.int (if w=true then q.d else q.c)):=by cases w<;>rfl
theorem a5v(q:Sp4)(w:Bool):c7 (sD q) (.int (wI w))=some (.int (if w=true then q.b else q.a)):=by cases w<;>rfl
theorem a6o{s m g g2 t:Int}(hm:0≤m)(hs:¬s<2)(hg:g=s*(1+m/2%5))(h:t=(if g/6 > 1 then g/6 else 1)∨t=1+(m/2+g2)%(s-1)):0<t∧t<s:=by
 rcases h with rfl | rfl
 ·split
  ·refine⟨by omega,?_⟩
   have h5:m/2%5=0∨m/2%5=1∨m/2%5=2∨m/2%5=3∨m/2%5=4:=by omega
   rcases h5 with z | z | z | z | z<;>rw[z]at hg<;>omega
  ·omega
 ·have h1:=Int.emod_nonneg (m/2+g2) (show s-1≠0 by omega)
  have h2:=Int.emod_lt_of_pos (m/2+g2) (show 0<s-1 by omega)
  omega
theorem b4N(q:Sp4)(c:Int):∃r,V5 [sD q,.int c]=some (.ret (cD r))∧∀w t,r=some (w,t)→0<t∧t<N3 q w:=by
 obtain⟨m,hm0,hm⟩:=a2y c 1 1000003 '!' '!' '!'
 obtain⟨w,hw⟩:∃w:Bool,m%2=wI w:=by
  rcases(show m%2=0∨m%2=1 by omega)with z | z
  ·exact⟨false,z⟩
  ·exact⟨true,z⟩
 have hn:1-wI w=wI (!w):=by cases w<;>rfl
 have a':c7 (sD q) (.int (1-wI w+2))=some (.int (if(!w)=true then q.d else q.c)):=by rw[hn];exact a5u q (!w)
 have b':c7 (sD q) (.int (1-wI w))=some (.int (if(!w)=true then q.b else q.a)):=by rw[hn];exact a5v q (!w)
 have sw:∀w,N3 q w=(if w=true then q.d else q.c)-(if w=true then q.b else q.a):=fun w=>by cases w<;>rfl
 by_cases z0:N3 q w<2
 ·by_cases z1:N3 q (!w)<2
  ·exact⟨none,b5o r6 c7 a0f (sD q) c m (wI w) _ _ _ _ hm hw (a5u q w) (a5v q w) a' b' (by rw[← sw];exact z0) (by rw[← sw];exact z1),fun w t e=>by cases e⟩
  ·obtain⟨t,ht,hb⟩:=b1L r6 c7 a0f (sD q) c m (wI w) _ _ _ _ (N3 q (!w)) _ _ hm hw (a5u q w) (a5v q w) a' b' (1-wI w) (.inr ⟨by rw[← sw];exact z0,rfl,by rw[sw]⟩) z1 '!' (a0b '!') (a0b (by decide))
   refine⟨some (!w,t),by rw[hn]at ht;exact ht,fun w' t' e=>?_⟩
   cases e
   exact a6o hm0 z1 rfl hb
 ·obtain⟨t,ht,hb⟩:=b1L r6 c7 a0f (sD q) c m (wI w) _ _ _ _ (N3 q w) _ _ hm hw (a5u q w) (a5v q w) a' b' (wI w) (.inl ⟨by rw[← sw];exact z0,rfl,by rw[sw]⟩) z0 '!' (a0b '!') (a0b (by decide))
  refine⟨some (w,t),ht,fun w' t' e=>?_⟩
  cases e
  exact a6o hm0 z0 rfl hb
def pL(q:Sp4)(w:Bool)(t:Int):Sp4:=if w=true then⟨q.a,q.b,q.c,q.b+t⟩else⟨q.a,q.b,q.a+t,q.d⟩
def pR(q:Sp4)(w:Bool)(t:Int):Sp4:=if w=true then⟨q.a,q.b+t,q.c,q.d⟩else⟨q.a+t,q.b,q.c,q.d⟩
def wS(w:Bool):Str:=if w=true then "up" else "across"
theorem a6p(q:Sp4)(w:Bool)(t:Int):y8 [sD q,.int (wI w),.int t]=some (.ret (.tup [sD (pL q w t),sD (pR q w t)])):=by
 obtain⟨a,b,c,d⟩:=q
 cases w<;>unfold y8 a48 sD pL pR wI<;>walk_at "ev" <;>rfl
theorem a9T(q:Sp4)(w:Bool)(t:Int)(x y:D):F9 [sD q,.tup [.str (wS w),.int t,x,y]]=some (.ret (.tup [sD (pL q w t),sD (pR q w t)])):=by
 obtain⟨a,b,c,d⟩:=q
 cases w<;>unfold F9 a28 sD pL pR wS<;>walk_at "ev" <;>rfl
theorem a7z(c:Int):∃s:Int,0≤s∧s≤10 ^ 40∧N2 [.int c]=some (.ret (.int s)):=by
 obtain⟨B,hB,eB⟩:∃B:Int,W4 (.int 10) (.int 40)=some (.int B)∧B=10 ^ 40:=⟨_,a7p (by decide +kernel),rfl⟩
 have h1:=Int.emod_nonneg (c/3) (show B≠0 by rw[eB];decide)
 have h2:=Int.emod_lt_of_pos (c/3) (show 0<B by rw[eB];decide)
 have hp:0<B:=by rw[eB];decide
 by_cases z:c%3=1
 ·refine⟨1+c/3%B,by omega,by omega,?_⟩
  clear eB h1 h2
  unfold N2 a3q
  generalize W4=GP at *
  walk_at "eh"
 ·refine⟨c/3%25,by omega,by omega,?_⟩
  clear eB h1 h2
  unfold N2 a3q
  generalize W4=GP at *
  walk_at "eh"
inductive Tr where
 | lf (k:Nat)
 | ct (k:Nat) (w:Bool) (t:Int) (l r:Tr)
def Tr.ix:Tr→Nat
 | .lf k=>k
 | .ct k _ _ _ _=>k
def Tr.ids:Tr→List Nat
 | .lf k=>[k]
 | .ct k _ _ l r=>k::(l.ids++r.ids)
def Tr.lvs:Tr→List Nat
 | .lf k=>[k]
 | .ct _ _ _ l r=>l.lvs++r.lvs
def nd(w:Bool)(t:Int)(i j:Nat):D:=.tup [.str (wS w),.int t,.int (i:Int),.int (j:Int)]
def Gd(N:List D)(S:List Sp4):Sp4→Tr→Prop
 | q,.lf k=>N[k]? = some .non∧S[k]? = some q
 | q,.ct k w t l r=>N[k]? = some (nd w t l.ix r.ix)∧S[k]? = some q∧k<l.ix∧k<r.ix∧0<t∧t<N3 q w∧Gd N S (pL q w t) l∧Gd N S (pR q w t) r
def Tr.rep(u:Nat)(w:Bool)(t:Int)(n:Nat):Tr→Tr
 | .lf k=>if k=u then .ct k w t (.lf n) (.lf (n+1))else .lf k
 | .ct k w' t' l r=>.ct k w' t' (l.rep u w t n) (r.rep u w t n)
theorem a2z(u:Nat)(w:Bool)(t:Int)(n:Nat):∀T:Tr,(T.rep u w t n).ix=T.ix
 | .lf k=>by unfold Tr.rep;split<;>rfl
 | .ct k _ _ l r=>rfl
theorem D3:∀{T:Tr} {k:Nat},k∈T.lvs→k∈T.ids
 | .lf k,_,h=>h
 | .ct k _ _ l r,x,h=>by
  rcases List.mem_append.mp h with h | h
  ·exact List.mem_cons_of_mem _ (List.mem_append.mpr (.inl (D3 h)))
  ·exact List.mem_cons_of_mem _ (List.mem_append.mpr (.inr (D3 h)))
theorem a2S{N N':List D}{S S':List Sp4}:∀{T:Tr} {q:Sp4},(∀i∈T.ids,N'[i]? = N[i]?∧∀x,S[i]? = some x→S'[i]? = some x)→Gd N S q T→Gd N' S' q T
 | .lf k,q,h,⟨a,b⟩=>by
  obtain⟨h1,h2⟩:=h k List.mem_cons_self
  exact⟨by rw[h1];exact a,h2 _ b⟩
 | .ct k w t l r,q,h,⟨a,b,c,d,e,f,gz1,g2⟩=>by
  obtain⟨h1,h2⟩:=h k List.mem_cons_self
  exact⟨by rw[h1];exact a,h2 _ b,c,d,e,f,a2S (fun i m=>h i (List.mem_cons_of_mem _ (List.mem_append.mpr (.inl m)))) gz1,a2S (fun i m=>h i (List.mem_cons_of_mem _ (List.mem_append.mpr (.inr m)))) g2⟩
theorem Y7(u:Nat)(w:Bool)(t:Int)(n:Nat):∀{T:Tr},u ∉ T.lvs→T.rep u w t n=T
 | .lf k,h=>by
  unfold Tr.rep
  rw[if_neg (fun z=>h (by rw[← z];exact List.mem_cons_self))]
 | .ct k _ _ l r,h=>by
  unfold Tr.rep
  rw[Y7 u w t n (fun m=>h (List.mem_append.mpr (.inl m))),Y7 u w t n (fun m=>h (List.mem_append.mpr (.inr m)))]
theorem b1M{k:Nat}{w:Bool}{t:Int}{l r:Tr}(h:(Tr.ct k w t l r).ids.Nodup):l.ids.Nodup∧r.ids.Nodup∧(∀x∈l.ids,x ∉ r.ids)∧k ∉ l.ids∧k ∉ r.ids:=by
 have h':(k::(l.ids++r.ids)).Nodup:=h
 rw[List.nodup_cons,List.nodup_append]at h'
 obtain⟨a,b,c,d⟩:=h'
 exact⟨b,c,fun x m m2=>d x m x m2 rfl,fun m=>a (List.mem_append.mpr (.inl m)),fun m=>a (List.mem_append.mpr (.inr m))⟩
theorem a4J(u:Nat)(w:Bool)(t:Int)(n:Nat):∀{T:Tr},T.ids.Nodup→u∈T.lvs→(T.rep u w t n).ids.Perm (T.ids++[n,n+1])
 | .lf k,_,m=>by
  unfold Tr.rep
  rw[if_pos (List.mem_singleton.mp m).symm]
  exact List.Perm.refl _
 | .ct k w' t' l r,h,m=>by
  obtain⟨h1,h2,h3,h4,h5⟩:=b1M h
  show(k::((l.rep u w t n).ids++(r.rep u w t n).ids)).Perm (k::(l.ids++r.ids)++[n,n+1])
  rw[List.cons_append]
  refine List.Perm.cons k ?_
  rcases List.mem_append.mp m with m | m
  ·rw[Y7 u w t n (T:=r) (fun m2=>h3 u (D3 m) (D3 m2))]
   have ih:=a4J u w t n h1 m
   refine(ih.append_right _).trans ?_
   rw[List.append_assoc,List.append_assoc]
   exact List.Perm.append_left _ List.perm_append_comm
  ·rw[Y7 u w t n (T:=l) (fun m2=>h3 u (D3 m2) (D3 m))]
   have ih:=a4J u w t n h2 m
   rw[List.append_assoc]
   exact ih.append_left _
theorem a4K(u:Nat)(w:Bool)(t:Int)(n:Nat):∀{T:Tr} {x:Nat},x∈T.lvs→x≠u→x∈(T.rep u w t n).lvs
 | .lf k,x,m,z=>by
  have e:=List.mem_singleton.mp m
  unfold Tr.rep
  rw[if_neg (fun y=>z (by rw[e,y]))]
  exact m
 | .ct k _ _ l r,x,m,z=>by
  rcases List.mem_append.mp m with m | m
  ·exact List.mem_append.mpr (.inl (a4K u w t n m z))
  ·exact List.mem_append.mpr (.inr (a4K u w t n m z))
theorem a4L(u:Nat)(w:Bool)(t:Int)(n:Nat):∀{T:Tr},u∈T.lvs→n∈(T.rep u w t n).lvs∧n+1∈(T.rep u w t n).lvs
 | .lf k,m=>by
  unfold Tr.rep
  rw[if_pos (List.mem_singleton.mp m).symm]
  exact⟨by simp[Tr.lvs],by simp[Tr.lvs]⟩
 | .ct k _ _ l r,m=>by
  rcases List.mem_append.mp m with m | m
  ·obtain⟨a,b⟩:=a4L u w t n m
   exact⟨List.mem_append.mpr (.inl a),List.mem_append.mpr (.inl b)⟩
  ·obtain⟨a,b⟩:=a4L u w t n m
   exact⟨List.mem_append.mpr (.inr a),List.mem_append.mpr (.inr b)⟩
theorem b4O{N:List D}{S:List Sp4}(u:Nat)(w:Bool)(t:Int)(n:Nat)(hN:N.length=n)(hS:S.length=n)(qu:Sp4)(hu:S[u]? = some qu)(h1:0<t)(h2:t<N3 qu w) :
  ∀{T:Tr} {q:Sp4},T.ids.Nodup→(∀i∈T.ids,i<n)→u∈T.lvs→Gd N S q T→Gd (N.set u (nd w t n (n+1))++[.non]++[.non]) (S++[pL qu w t]++[pR qu w t]) q (T.rep u w t n):=by
 have un:u<n:=by have:=(List.getElem?_eq_some_iff.mp hu).1;omega
 have lN:(N.set u (nd w t n (n+1))).length=n:=by rw[List.length_set,hN]
 have oN:∀i,i<n→(N.set u (nd w t n (n+1))++[.non]++[.non])[i]? = (N.set u (nd w t n (n+1)))[i]?:=fun i hi=>by
  rw[List.append_assoc,List.getElem?_append_left '!']
 have oS:∀i,i<n→(S++[pL qu w t]++[pR qu w t])[i]? = S[i]?:=fun i hi=>by
  rw[List.append_assoc,List.getElem?_append_left '!']
 have keep:∀{T:Tr},u ∉ T.ids→(∀i∈T.ids,i<n)→∀i∈T.ids,(N.set u (nd w t n (n+1))++[.non]++[.non])[i]? = N[i]?∧∀x,S[i]? = some x→(S++[pL qu w t]++[pR qu w t])[i]? = some x:=fun hu hi i m=>by
  refine⟨?_,fun x e=>by rw[oS i (hi i m)];exact e⟩
  rw[oN i (hi i m),List.getElem?_set_ne (fun z=>hu (by rw[z];exact m))]
 intro T
 induction T with
 | lf k =>
  intro q _ hi m ⟨a,b⟩
  have e:u=k:=List.mem_singleton.mp m
  subst e
  rw[hu]at b
  cases b
  unfold Tr.rep
  rw[if_pos rfl]
  refine⟨?_,?_,un,by show u<n+1;omega,h1,h2,⟨?_,?_⟩,⟨?_,?_⟩⟩
  ·rw[oN u un,List.getElem?_set_self '!'];rfl
  ·rw[oS u un];exact hu
  ·rw[List.append_assoc,List.getElem?_append_right '!',lN,Nat.sub_self];rfl
  ·rw[List.append_assoc,List.getElem?_append_right '!',hS,Nat.sub_self];rfl
  ·rw[List.append_assoc,List.getElem?_append_right '!',lN,Nat.add_sub_cancel_left];rfl
  ·rw[List.append_assoc,List.getElem?_append_right '!',hS,Nat.add_sub_cancel_left];rfl
 | ct k w' t' l r ihl ihr =>
  intro q hnd hi m ⟨a,b,c,d,e,f,gz1,g2⟩
  obtain⟨n1,n2,n3,n4,n5⟩:=b1M hnd
  have hil:∀i∈l.ids,i<n:=fun i m=>hi i (List.mem_cons_of_mem _ (List.mem_append.mpr (.inl m)))
  have hir:∀i∈r.ids,i<n:=fun i m=>hi i (List.mem_cons_of_mem _ (List.mem_append.mpr (.inr m)))
  have hk:k<n:=hi k List.mem_cons_self
  rcases List.mem_append.mp m with m | m
  ·have uk:u≠k:=fun z=>n4 (by rw[← z];exact D3 m)
   have er:r.rep u w t n=r:=Y7 u w t n (fun m2=>n3 u (D3 m) (D3 m2))
   show Gd _ _ q (.ct k w' t' (l.rep u w t n) (r.rep u w t n))
   rw[er]
   refine⟨?_,?_,by rw[a2z];exact c,d,e,f,ihl n1 hil m gz1,a2S (keep (fun m2=>n3 u (D3 m) m2) hir) g2⟩
   ·rw[oN k hk,List.getElem?_set_ne uk,a2z];exact a
   ·rw[oS k hk];exact b
  ·have uk:u≠k:=fun z=>n5 (by rw[← z];exact D3 m)
   have er:l.rep u w t n=l:=Y7 u w t n (fun m2=>n3 u (D3 m2) (D3 m))
   show Gd _ _ q (.ct k w' t' (l.rep u w t n) (r.rep u w t n))
   rw[er]
   refine⟨?_,?_,c,by rw[a2z];exact d,e,f,a2S (keep (fun m2=>n3 u m2 (D3 m)) hil) gz1,ihr n2 hir m g2⟩
   ·rw[oN k hk,List.getElem?_set_ne uk,a2z];exact a
   ·rw[oS k hk];exact b
theorem nodup_le:∀{l m:List Nat},l.Nodup→(∀x∈l,x∈m)→l.length≤m.length
 | [],m,_,_=>Nat.zero_le _
 | a::l,m,h,s=>by
  rw[List.nodup_cons]at h
  have ih:=nodup_le (m:=m.erase a) h.2 fun x hx=>(List.mem_erase_of_ne (fun z=>h.1 (by rw[← z];exact hx))).mpr (s x (List.mem_cons_of_mem _ hx))
  rw[List.length_erase_of_mem (s a List.mem_cons_self)]at ih
  have:0<m.length:=List.length_pos_of_mem (s a List.mem_cons_self)
  rw[List.length_cons]
  omega
abbrev ptB:SF:=(d6 (D5 4 (A4 u6 3)) (d6 (D5 2 (eV 9)) (D5 3 (eC .non))))
theorem b4P(b c:D)(A N U:List D)(x5 x6 x7 x8:Sl)(d:D)(h1:U.length<sizeLine)(h2:A.length<sizeLine)(h3:N.length<sizeLine):ptB [.fz b,.fz c,.ow A,.ow N,.ow U,x5,x6,x7,x8,.fz d]=some (.nx [.fz b,.fz c,.ow (A++[d]),.ow (N++[.non]),.ow (U++[.int (N.length:Int)]),x5,x6,x7,x8,.fz d]):=by
 unfold ptB
 walk_at "eh"
theorem b59(b c:D)(A N U:List D)(x5 x6 x7 x8:Sl)(o9:Option D)(d1 d2:D)(h1:U.length<1000000)(h2:A.length<1000000)(h3:N.length<1000000):B9 (g9 9) ptB [d1,d2] [.fz b,.fz c,.ow A,.ow N,.ow U,x5,x6,x7,x8,un o9]=some (.nx [.fz b,.fz c,.ow (A++[d1]++[d2]),.ow (N++[.non]++[.non]),.ow (U++[.int (N.length:Int)]++[.int ((N++[D.non]).length:Int)]),x5,x6,x7,x8,.fz d2]):=by
 have b1:∀(d:D) (A N U:List D) (o9:Option D),g9 9 d [.fz b,.fz c,.ow A,.ow N,.ow U,x5,x6,x7,x8,un o9]=some [.fz b,.fz c,.ow A,.ow N,.ow U,x5,x6,x7,x8,.fz d]:=fun d A N U o9=>by cases o9<;>rfl
 rw[R9,b1 d1 A N U o9,D2,b4P b c A N U x5 x6 x7 x8 d1 (by show _<2 ^ 24;omega) (by show _<2 ^ 24;omega) (by show _<2 ^ 24;omega),a1k]
 rw[R9,show g9 9 d2 [.fz b,.fz c,.ow (A++[d1]),.ow (N++[.non]),.ow (U++[.int (N.length:Int)]),x5,x6,x7,x8,.fz d1]=some [.fz b,.fz c,.ow (A++[d1]),.ow (N++[.non]),.ow (U++[.int (N.length:Int)]),x5,x6,x7,x8,.fz d2]from rfl,D2,b4P b c (A++[d1]) (N++[D.non]) (U++[D.int (N.length:Int)]) x5 x6 x7 x8 d2 (by rw[List.length_append];show _+1<2 ^ 24;omega) (by rw[List.length_append];show _+1<2 ^ 24;omega) (by rw[List.length_append];show _+1<2 ^ 24;omega),a1k,a57]
abbrev trB(CU:List D→Option R1)(ZP:ZF)(LP:SF):SF:=(d6 (j9 6 (eB m7 (eV 5) (A4 u6 4))) (d6 (T7 7 CU (aC (k7 h9 2 (k7 h9 4 (eV 6))) (aC (eV 5) aN))) (n6 (bZ (eB (K1 true) (eV 7) (eC .non))) (d6 (j9 8 ZP) (d6 (a2l 3 (eV 8) (eT (aC (eB c7 (eT (aC (eC (.str "across")) (aC (eC (.str "up")) aN))) (eB c7 (eV 7) (eC (.int 0)))) (aC (eB c7 (eV 7) (eC (.int 1))) (aC (A4 u6 3) (aC (eB v8 (A4 u6 3) (eC (.int 1))) aN)))))) LP)) t4)))
theorem b5_(CU:List D→Option R1)(ZP:ZF)(LP:SF)(b c:D)(A N U:List D)(x i u:Int)(q:D)(o6 o7 o8 o9:Option D)(h0:(0:Int)<(U.length:Int))(hi:x%(U.length:Int)=i)(a1:atI U i=some (.int u))(a2:atI A u=some q)(hc:CU [q,.int x]=some (.ret .non)) :
  trB CU ZP LP [.fz b,.fz c,.ow A,.ow N,.ow U,.fz (.int x),un o6,un o7,un o8,un o9]=some (.nx [.fz b,.fz c,.ow A,.ow N,.ow U,.fz (.int x),.fz (.int i),.fz .non,un o8,un o9]):=by
 unfold trB
 walk_at "eh"
theorem b6a(CU:List D→Option R1)(ZP:ZF)(LP:SF)(b c:D)(A N U U':List D)(x i u y t:Int)(wd:Str)(k:Nat)(q:D)(o6 o7 o8 o9:Option D)(e':DE)(h0:(0:Int)<(U.length:Int))(hi:x%(U.length:Int)=i)(a1:atI U i=some (.int u))(a2:atI A u=some q)(hc:CU [q,.int x]=some (.ret (.tup [.int y,.int t])))
  (hw:atI [D.str "across",D.str "up"] y=some (.str wd)) (hz:ZP [.fz b,.fz c,.ow A,.ow N,.ow U,.fz (.int x),.fz (.int i),.fz (.tup [.int y,.int t]),un o8,un o9]=some (.ok (.int u) [.fz b,.fz c,.ow A,.ow N,.ow U',.fz (.int x),.fz (.int i),.fz (.tup [.int y,.int t]),un o8,un o9]))
  (ix:Q9 N.length u=some k) (hl:LP [.fz b,.fz c,.ow A,.ow (N.set k (.tup [.str wd,.int t,.int (N.length:Int),.int ((N.length:Int)+1)])),.ow U',.fz (.int x),.fz (.int i),.fz (.tup [.int y,.int t]),.fz (.int u),un o9]=some (.nx e')) :
  trB CU ZP LP [.fz b,.fz c,.ow A,.ow N,.ow U,.fz (.int x),un o6,un o7,un o8,un o9]=some (.nx e'):=by
 unfold trB
 walk_at "eh"
theorem b6b(PA:List D→Option R1)(b c:D)(A N U:List D)(x i u y t:Int)(q p:D)(s9:Sl)(a2:atI A u=some q)(h:PA [q,.int y,.int t]=some (.ret p)):(h8 PA (aC (k7 h9 2 (eV 8)) (aC (eB c7 (eV 7) (eC (.int 0))) (aC (eB c7 (eV 7) (eC (.int 1))) aN)))) [.fz b,.fz c,.ow A,.ow N,.ow U,.fz (.int x),.fz (.int i),.fz (.tup [.int y,.int t]),.fz (.int u),s9]=some (.ok p [.fz b,.fz c,.ow A,.ow N,.ow U,.fz (.int x),.fz (.int i),.fz (.tup [.int y,.int t]),.fz (.int u),s9]):=by
 walk_at "eh"
abbrev plB(PA:List D→Option R1):SF:=(a3Z (h8 PA (aC (k7 h9 2 (eV 8)) (aC (eB c7 (eV 7) (eC (.int 0))) (aC (eB c7 (eV 7) (eC (.int 1))) aN)))) (g9 9) ptB)
theorem b5p(b c:D)(A N U:List D)(x5 s7 s8 s9:Sl)(i:Nat)(u:D)(hi:i<U.length)(hl:U.length≤1000000)(hu:U[i]? = some u):a2t 4 (eV 6) [.fz b,.fz c,.ow A,.ow N,.ow U,x5,.fz (.int (i:Int)),s7,s8,s9]=some (.ok u [.fz b,.fz c,.ow A,.ow N,.ow (U.eraseIdx i),x5,.fz (.int (i:Int)),s7,s8,s9]):=by
 show(if 0≤(i:Int)∧(i:Int)<U.length∧U.length≤1000000 then(match U[(i:Int).toNat]? with
   | some d=>some (L2.R.ok d (List.set [Sl.fz b,.fz c,.ow A,.ow N,.ow U,x5,.fz (.int (i:Int)),s7,s8,s9] 4 (.ow (U.eraseIdx (i:Int).toNat))))
   | none=>none)else none)=_
 rw[if_pos ⟨by omega,by omega,hl⟩,Int.toNat_natCast,hu]
 rfl
structure TrI(q0:Sp4)(m:Nat)(T:Tr)(S:List Sp4)(N:List D)(U:List Nat):Prop where
 lN:N.length=S.length
 le:S.length≤1+2*m
 ndp:T.ids.Nodup
 lt:∀i∈T.ids,i<S.length
 ln:T.ids.length=S.length
 ne:U≠[]
 un:U.Nodup
 uv:∀u∈U,u∈T.lvs
 rt:T.ix=0
 gd:Gd N S q0 T
theorem a6q{N:List D}{S:List Sp4}:∀{T:Tr} {q:Sp4},Gd N S q T→∀i∈T.ids,∃x,S[i]? = some x
 | .lf k,q,⟨a,b⟩,i,m=>⟨q,by rw[List.mem_singleton.mp m];exact b⟩
 | .ct k w t l r,q,⟨a,b,_,_,_,_,gz1,g2⟩,i,m=>by
  rcases List.mem_cons.mp m with rfl | m
  ·exact⟨q,b⟩
  ·rcases List.mem_append.mp m with m | m
   ·exact a6q gz1 i m
   ·exact a6q g2 i m
theorem TrI.step{q0:Sp4}{m:Nat}{T:Tr}{S:List Sp4}{N:List D}{U:List Nat}(I:TrI q0 m T S N U)(i:Nat)(hi:i<U.length)(qu:Sp4)(hu:S[U[i]]? = some qu)(w:Bool)(t:Int)(h1:0<t)(h2:t<N3 qu w) :
  TrI q0 (m+1) (T.rep U[i] w t S.length) (S++[pL qu w t]++[pR qu w t]) (N.set U[i] (nd w t S.length (S.length+1))++[.non]++[.non]) (U.eraseIdx i++[S.length]++[S.length+1]):=by
 have mu:U[i]∈T.lvs:=I.uv _ (List.getElem_mem hi)
 have pm:=a4J U[i] w t S.length I.ndp mu
 have lU:∀u∈U,u<S.length:=fun u m=>I.lt u (D3 (I.uv u m))
 have me:∀u∈U.eraseIdx i,u∈U∧u≠U[i]:=fun u m=>by
  obtain⟨j,hj,ne,e⟩:=List.mem_eraseIdx_iff_getElem.mp m
  refine⟨by rw[← e];exact List.getElem_mem hj,fun z=>ne ?_⟩
  rw[← e]at z
  exact(List.getElem_inj I.un).mp z
 have nds:(T.ids++[S.length,S.length+1]).Nodup:=by
  rw[List.nodup_append]
  refine⟨I.ndp,by simp,fun a ha b hb e=>?_⟩
  have:=I.lt a ha
  simp only[List.mem_cons,List.not_mem_nil,or_false]at hb
  omega
 refine⟨by simp only[List.length_append,List.length_set,List.length_cons,List.length_nil,I.lN],by have:=I.le;simp only[List.length_append,List.length_cons,List.length_nil];omega,pm.nodup_iff.mpr nds,fun j mj=>?_,?_,by simp,?_,fun u m=>?_,by rw[a2z];exact I.rt,b4O _ w t _ I.lN rfl qu hu h1 h2 I.ndp I.lt mu I.gd⟩
 ·have mj:=pm.mem_iff.mp mj
  simp only[List.length_append,List.length_cons,List.length_nil]
  rcases List.mem_append.mp mj with mj | mj
  ·have:=I.lt j mj;omega
  ·simp only[List.mem_cons,List.not_mem_nil,or_false]at mj;omega
 ·rw[pm.length_eq]
  simp only[List.length_append,List.length_cons,List.length_nil,I.ln]
 ·rw[List.append_assoc,List.nodup_append]
  refine⟨(List.eraseIdx_sublist _ _).nodup I.un,by simp,fun a ha b hb e=>?_⟩
  have:=lU a (me a ha).1
  simp only[List.cons_append,List.nil_append,List.mem_cons,List.not_mem_nil,or_false]at hb
  omega
 ·rw[List.append_assoc]at m
  rcases List.mem_append.mp m with m | m
  ·exact a4K _ w t _ (I.uv u (me u m).1) (me u m).2
  ·have n:=a4L U[i] w t S.length mu
   simp only[List.cons_append,List.nil_append,List.mem_cons,List.not_mem_nil,or_false]at m
   rcases m with rfl | rfl
   ·exact n.1
   ·exact n.2
theorem b4R(LP:SF)(w h:Int)(c:D)(A N U:List D)(s5 s6 s7 s8 s9:Sl)(hl:LP [.fz (.tup [.int w,.int h]),.fz c,.ow [.tup [.int 0,.int 0,.int w,.int h]],.ow [.non],.ow [.int 0],.no,.no,.no,.no,.no]=some (.nx [.fz (.tup [.int w,.int h]),.fz c,.ow A,.ow N,.ow U,s5,s6,s7,s8,s9])) :
  fD 10 2 (d6 (A5 2 (eL (aC (eT (aC (eC (.int 0)) (aC (eC (.int 0)) (aC (eB c7 (eV 0) (eC (.int 0))) (aC (eB c7 (eV 0) (eC (.int 1))) aN))))) aN))) (d6 (A5 3 (eL (aC (eC .non) aN))) (d6 (A5 4 (eL (aC (eC (.int 0)) aN))) (d6 LP (a0O 2 3))))) [.tup [.int w,.int h],c]=some (.owz [A,N]):=by
 have e:a0O 2 3 [.fz (.tup [.int w,.int h]),.fz c,.ow A,.ow N,.ow U,s5,s6,s7,s8,s9]=some (.rz [A,N]):=rfl
 generalize a0O 2 3=RZ at *
 walk_at "eh"
theorem b3q(W H:Int)(cs:List Int)(hl:cs.length≤180):∃(T:Tr) (S:List Sp4) (N:List D) (U:List Nat),TrI ⟨0,0,W,H⟩ cs.length T S N U∧U6 [.tup [.int W,.int H],.lst (cs.map D.int)]=some (.owz [S.map sD,N]):=by
 obtain⟨e',f,T,S,N,U,o5,o6,o7,o8,o9,I,rfl⟩:=a0w (b:=g9 5) (body:=trB V5 (a2t 4 (eV 6)) (plB y8)) D.int (fun pre e=>∃(T:Tr) (S:List Sp4) (N:List D) (U:List Nat) (o5 o6 o7 o8 o9:Option D),TrI ⟨0,0,W,H⟩ pre.length T S N U∧e=[.fz (.tup [.int W,.int H]),.fz (.lst (cs.map D.int)),.ow (S.map sD),.ow N,.ow (oL U),un o5,un o6,un o7,un o8,un o9]) cs [.fz (.tup [.int W,.int H]),.fz (.lst (cs.map D.int)),.ow [.tup [.int 0,.int 0,.int W,.int H]],.ow [.non],.ow [.int 0],.no,.no,.no,.no,.no]
  ⟨.lf 0,[⟨0,0,W,H⟩],[.non],[0],none,none,none,none,none,⟨rfl,by simp,by simp[Tr.ids],by simp[Tr.ids],rfl,by simp,by simp,by simp[Tr.lvs],rfl,rfl,rfl⟩,rfl⟩ (by
  rintro pre x post e hq ⟨T,S,N,U,o5,o6,o7,o8,o9,I,rfl⟩
  have hp:pre.length<180:=by have:=congrArg List.length hq;rw[List.length_append,List.length_cons]at this;omega
  have hb:g9 5 (.int x) [.fz (.tup [.int W,.int H]),.fz (.lst (cs.map D.int)),.ow (S.map sD),.ow N,.ow (oL U),un o5,un o6,un o7,un o8,un o9]=some [.fz (.tup [.int W,.int H]),.fz (.lst (cs.map D.int)),.ow (S.map sD),.ow N,.ow (oL U),.fz (.int x),un o6,un o7,un o8,un o9]:=by cases o5<;>rfl
  rw[hb,D2,List.length_append,List.length_singleton]
  have lU:0<U.length:=List.length_pos_iff.mpr I.ne
  have ll:(oL U).length=U.length:=List.length_map ..
  have lU2:U.length≤S.length:=by
   have:U.length≤T.ids.length:=nodup_le I.un fun u m=>D3 (I.uv u m)
   have:=I.ln
   omega
  have e1:=Int.emod_nonneg x (show(U.length:Int)≠0 by omega)
  have e2:=Int.emod_lt_of_pos x (show(0:Int)<(U.length:Int) by omega)
  obtain⟨i,hi⟩:∃i:Nat,x%(U.length:Int)=(i:Int):=⟨(x%(U.length:Int)).toNat,by omega⟩
  have hiU:i<U.length:=by omega
  have a1:atI (oL U) (i:Int)=some (.int (U[i]:Int)):=by
   apply Q2
   rw[List.getElem?_map,List.getElem?_eq_getElem hiU]
   rfl
  obtain⟨qu,hqu⟩:=a6q I.gd U[i] (D3 (I.uv _ (List.getElem_mem hiU)))
  have hn:U[i]<S.length:=(List.getElem?_eq_some_iff.mp hqu).1
  have a2:atI (S.map sD) (U[i]:Int)=some (sD qu):=by
   apply Q2
   rw[List.getElem?_map,hqu]
   rfl
  obtain⟨r,hr,hrb⟩:=b4N qu x
  have leS:=I.le
  cases r with
  | none =>
   exact⟨_,(congrArg K3 (b5_ V5 _ _ _ _ _ _ _ x (i:Int) _ _ o6 o7 o8 o9 (by rw[ll];omega) (by rw[ll];exact hi) a1 a2 hr)).trans rfl,T,S,N,U,some (.int x),some (.int (i:Int)),some .non,o8,o9,⟨I.lN,by omega,I.ndp,I.lt,I.ln,I.ne,I.un,I.uv,I.rt,I.gd⟩,rfl⟩
  | some r =>
   obtain⟨w,t⟩:=r
   obtain⟨t1,t2⟩:=hrb w t rfl
   have st:=I.step i hiU qu hqu w t t1 t2
   have hz:=b5p (.tup [.int W,.int H]) (.lst (cs.map D.int)) (S.map sD) N (oL U) (.fz (.int x)) (.fz (.tup [.int (wI w),.int t])) (un o8) (un o9) i (.int (U[i]:Int)) (by rw[ll];exact hiU) (by rw[ll];omega) (by rw[List.getElem?_map,List.getElem?_eq_getElem hiU];rfl)
   have hw:atI [D.str "across",D.str "up"] (wI w)=some (D.str (wS w)):=by cases w<;>rfl
   have hf0:plB y8 [.fz (.tup [.int W,.int H]),.fz (.lst (cs.map D.int)),.ow (S.map sD),.ow (N.set U[i] (.tup [.str (wS w),.int t,.int (N.length:Int),.int ((N.length:Int)+1)])),.ow ((oL U).eraseIdx i),.fz (.int x),.fz (.int (i:Int)),.fz (.tup [.int (wI w),.int t]),.fz (.int (U[i]:Int)),un o9]=B9 (g9 9) ptB [sD (pL qu w t),sD (pR qu w t)] [.fz (.tup [.int W,.int H]),.fz (.lst (cs.map D.int)),.ow (S.map sD),.ow (N.set U[i] (.tup [.str (wS w),.int t,.int (N.length:Int),.int ((N.length:Int)+1)])),.ow ((oL U).eraseIdx i),.fz (.int x),.fz (.int (i:Int)),.fz (.tup [.int (wI w),.int t]),.fz (.int (U[i]:Int)),un o9]:=by
    unfold plB a3Z
    rw[b6b y8 _ _ _ _ _ x _ _ _ _ _ _ _ a2 (a6p qu w t),V9]
   have hf:=hf0.trans (b59 _ _ (S.map sD) _ _ _ _ _ _ o9 _ _ (by rw[List.length_eraseIdx,ll];split<;>omega) (by rw[List.length_map];omega) (by rw[List.length_set,I.lN];omega))
   refine⟨_,(congrArg K3 (b6a V5 _ _ _ _ _ _ _ _ x (i:Int) _ _ t (wS w) U[i] _ o6 o7 o8 o9 _ (by rw[ll];omega) (by rw[ll];exact hi) a1 a2 hr hw hz (Y0 (by rw[I.lN];exact hn)) hf)).trans rfl,_,_,_,_,some (.int x),some (.int (i:Int)),some (.tup [.int (wI w),.int t]),some (.int (U[i]:Int)),some (sD (pR qu w t)),st,?_⟩
   have f1:S.map sD++[sD (pL qu w t)]++[sD (pR qu w t)]=(S++[pL qu w t]++[pR qu w t]).map sD:=by simp
   have f2:(D.tup [.str (wS w),.int t,.int (N.length:Int),.int ((N.length:Int)+1)])=nd w t S.length (S.length+1):=by rw[I.lN];rfl
   have f3:(oL U).eraseIdx i++[D.int (((N.set U[i] (D.tup [.str (wS w),.int t,.int (N.length:Int),.int ((N.length:Int)+1)])).length:Nat):Int)]++[D.int (((N.set U[i] (D.tup [.str (wS w),.int t,.int (N.length:Int),.int ((N.length:Int)+1)])++[D.non]).length:Nat):Int)]=oL (U.eraseIdx i++[S.length]++[S.length+1]):=by
    rw[List.length_append,List.length_set,I.lN]
    unfold oL
    rw[List.map_append,List.map_append,List.eraseIdx_eq_take_drop_succ,List.eraseIdx_eq_take_drop_succ,List.map_append,List.map_take,List.map_drop]
    rfl
   rw[f3,f2,f1]
   rfl)
 exact⟨T,S,N,U,I,b4R _ W H _ _ _ _ _ _ _ _ _ f⟩
inductive En where
 | wa
 | wr (i:Int) (b:Bool)
def eD:En→D
 | .wa=>.tup [.str "waste"]
 | .wr i b=>.tup [.str "ware",.int i,.bl b]
noncomputable abbrev flB(MX:List D→Option R1)(GI:D→D→Option D):SF:=(d6 (j9 5 (a2j (eB gGt (eB c7 (k7 h9 0 (eV 4)) (eC (.int 2))) (eB c7 (k7 h9 0 (eV 4)) (eC (.int 0)))) (eB gGt (eB c7 (k7 h9 0 (eV 4)) (eC (.int 3))) (eB c7 (k7 h9 0 (eV 4)) (eC (.int 1)))))) (n6 (M8 (bZ (eB GI (k7 h9 1 (eV 4)) (eC .non))) (M8 (bZ (eV 5)) (bZ (eB gGt (eB m7 (h8 MX (aC (eV 2) (aC (eV 4) (aC (eC (.int 10007)) aN)))) (eC (.int 4))) (eC (.int 0)))))) (D5 3 (eV 4)) t4))
abbrev flE(A N K:List D)(c:Int)(s4 s5:Sl):DE:=[.fz (.lst A),.fz (.lst N),.fz (.int c),.ow K,s4,s5,.no,.no,.no,.no,.no,.no]
theorem b6c(MX:List D→Option R1)(GI:D→D→Option D)(A N K:List D)(c k m w x y z:Int)(d:D)(b:Bool)(o5:Option D)(a1:atI A k=some (.tup [.int w,.int x,.int y,.int z]))(a2:atI N k=some d)(hd:GI d .non=some (.bl b))(hm:MX [.int c,.int k,.int 10007]=some (.ret (.int m)))(hK:K.length<sizeLine) :
  ∃(p:Bool) (v:D),flB MX GI (flE A N K c (.fz (.int k)) (un o5))=some (.nx (flE A N (if p=true then K++[.int k]else K) c (.fz (.int k)) (.fz v))):=by
 unfold flB flE
 by_cases h1:y > w
 ·by_cases h2:z > x
  ·by_cases h3:m%4 > 0
   ·cases b
    ·refine⟨false,.bl true,?_⟩
     rw[if_neg (by decide)]
     walk_at "eh"
    ·refine⟨true,.bl true,?_⟩
     rw[if_pos rfl]
     walk_at "eh"
   ·refine⟨false,.bl true,?_⟩
    rw[if_neg (by decide)]
    cases b<;>walk_at "eh" <;>rfl
  ·refine⟨false,.bl false,?_⟩
   rw[if_neg (by decide)]
   cases b<;>walk_at "eh" <;>rfl
 ·refine⟨false,.bl false,?_⟩
  rw[if_neg (by decide)]
  cases b<;>walk_at "eh" <;>rfl
theorem b3r(d:D):∃b,K1 false d .non=some (.bl b):=by cases d<;>exact⟨_,rfl⟩
theorem b4S{S:List Sp4}{k:Nat}(h:k<S.length):atI (S.map sD) (k:Int)=some (sD S[k]):=by
 apply Q2
 rw[List.getElem?_map,List.getElem?_eq_getElem h]
 rfl
theorem a8L{N:List D}{k:Nat}(h:k<N.length):atI N (k:Int)=some N[k]:=by
 apply Q2
 rw[List.getElem?_eq_getElem h]
theorem b4T(K:List Nat)(k:Nat):oL K++[.int (k:Int)]=oL (K++[k]):=by
 unfold oL
 rw[List.map_append]
 rfl
theorem b3s(S:List Sp4)(N:List D)(hN:N.length=S.length)(hl:S.length≤1000)(c:Int):∃(K:List Nat) (o4 o5:Option D),K.Nodup∧(∀k∈K,k<S.length)∧(P4 P3 (aC (A4 u6 1) aN) (g9 4) (flB r6 (K1 false))) (flE (S.map sD) N [] c .no .no)=some (.nx (flE (S.map sD) N (oL K) c (un o4) (un o5))):=by
 obtain⟨e',f,K,o4,o5,hK,rfl⟩:=a0w (b:=g9 4) (body:=flB r6 (K1 false)) (fun(k:Nat)=>D.int (k:Int)) (fun pre e=>∃(K:List Nat) (o4 o5:Option D),K.Sublist pre∧e=flE (S.map sD) N (oL K) c (un o4) (un o5)) (List.range S.length) (flE (S.map sD) N [] c .no .no) ⟨[],none,none,List.Sublist.refl _,rfl⟩ (by
  rintro pre k post e hq ⟨K,o4,o5,hK,rfl⟩
  have hk:k<S.length:=List.mem_range.mp (by rw[hq];simp)
  have hp:pre.length<S.length:=by have:=congrArg List.length hq;rw[List.length_range,List.length_append,List.length_cons]at this;omega
  have hb:g9 4 (.int (k:Int)) (flE (S.map sD) N (oL K) c (un o4) (un o5))=some (flE (S.map sD) N (oL K) c (.fz (.int (k:Int))) (un o5)):=by cases o4<;>rfl
  obtain⟨m,_,hm⟩:=a2y c (k:Int) 10007 '!' '!' '!'
  obtain⟨b,hd⟩:=b3r (N[k]' '!')
  obtain⟨p,v,st⟩:=b6c r6 (K1 false) (S.map sD) N (oL K) c (k:Int) m _ _ _ _ _ b o5 (b4S hk) (a8L '!') hd hm (by rw[List.length_map];have:=hK.length_le;show _<2 ^ 24;omega)
  rw[hb,D2]
  refine⟨_,(congrArg K3 st).trans rfl,if p=true then K++[k]else K,some (.int (k:Int)),some v,?_,?_⟩
  ·cases p
   ·exact hK.trans (List.sublist_append_left _ _)
   ·exact hK.append (List.Sublist.refl _)
  ·cases p
   ·rfl
   ·rw[if_pos rfl,if_pos rfl,b4T]
    rfl)
 refine⟨K,o4,o5,hK.nodup List.nodup_range,fun k m=>List.mem_range.mp (hK.subset m),?_⟩
 have e0:(aC (A4 u6 1) aN) (flE (S.map sD) N [] c .no .no)=some (.ok [.int (N.length:Int)] (flE (S.map sD) N [] c .no .no)):=rfl
 rw[hN]at e0
 rw[V6 e0 (T8 hl),a1d]
 exact f
abbrev elK(MX:List D→Option R1):ZF:=(eT (aC (h8 MX (aC (eB D4 (eV 1) (eC (.int 5))) (aC (eV 0) (aC (eC (.int 7919)) aN)))) (aC (eV 0) aN)))
theorem b4U(MX:List D→Option R1)(c k m:Int)(h:MX [.int (c/5),.int k,.int 7919]=some (.ret (.int m))):elK MX [.fz (.int k),.fz (.int c)]=some (.ok (.tup [.int m,.int k]) [.fz (.int k),.fz (.int c)]):=by
 unfold elK
 walk_at "eh"
theorem a7A(c:Int)(kf:Nat→List Int)(hf:∀k:Nat,k≤1000→elK r6 [.fz (.int (k:Int)),.fz (.int c)]=some (.ok (.tup ((kf k).map D.int)) [.fz (.int (k:Int)),.fz (.int c)]))(nn:∀k,kf k≠[]):∀K:List Nat,(∀k∈K,k≤1000)→Y1 (elK r6) [.no,.fz (.int c)] (oL K)=some (K.map kf)
 | [],_=>rfl
 | k::K,h=>by
  show Y1 (elK r6) [.no,.fz (.int c)] (.int (k:Int)::oL K)=_
  unfold Y1
  rw[show([Sl.no,.fz (.int c)]:DE).set 0 (.fz (.int (k:Int)))=[.fz (.int (k:Int)),.fz (.int c)]from rfl,hf k (h k List.mem_cons_self)]
  show(match a03 ((kf k).map D.int)with
   | some x=>if x≠[]then(Y1 (elK r6) [.no,.fz (.int c)] (oL K)).map (x :: ·)else none
   | none=>none)=_
  rw[L2.ints_map]
  show(if kf k≠[]then _ else _)=_
  rw[if_pos (nn k),a7A c kf hf nn K fun x m=>h x (List.mem_cons_of_mem _ m)]
  rfl
theorem b1c(c:Int)(e e1:DE)(K:List Nat)(hK:K.Nodup)(hk:∀k∈K,k<999)(h:(aC (eV 3) aN) e=some (.ok [.lst (oL K)] e1))(hc:y9 1 [2] e1=[.no,.fz (.int c)]):∃σ:List Nat,σ.Perm K∧a35 [2] (aC (eV 3) aN) (elK r6) e=some (.ok (oL σ) e1):=by
 have hx:∀k:Nat,k≤1000→∃m:Int,r6 [.int (c/5),.int (k:Int),.int 7919]=some (.ret (.int m)):=fun k h=>by
  obtain⟨m,_,hm⟩:=a2y (c/5) (k:Int) 7919 '!' '!' '!'
  exact⟨m,hm⟩
 let mf:Nat→Int:=fun k=>if h:k≤1000 then(hx k h).choose else 0
 have hmf:∀k:Nat,k≤1000→r6 [.int (c/5),.int (k:Int),.int 7919]=some (.ret (.int (mf k))):=fun k h=>by
  show _=some (R1.ret (.int (if h:k≤1000 then(hx k h).choose else 0)))
  rw[dif_pos h]
  exact(hx k h).choose_spec
 have hl9:K.length<1000:=by
  have:=nodup_le (m:=List.range 999) hK fun k m=>List.mem_range.mpr (hk k m)
  rw[List.length_range]at this
  omega
 generalize hkf:(fun k:Nat=>[mf k,(k:Int)])=kf at *
 have kfe:∀k,kf k=[mf k,(k:Int)]:=fun k=>by rw[← hkf]
 have key:=a7A c kf (fun k h=>by rw[kfe];exact b4U r6 c _ _ (hmf k h)) (fun k=>by rw[kfe];exact List.cons_ne_nil _ _) K (fun k m=>by have:=hk k m;omega)
 have ok:okK (K.map kf)=true:=by
  unfold okK
  rw[Bool.and_eq_true]
  constructor
  ·refine decide_eq_true ?_
   rw[List.nodup_iff_pairwise_ne,List.pairwise_map]
   refine List.Pairwise.imp ?_ hK
   intro i j h e
   rw[kfe,kfe]at e
   injection e with _ e
   injection e with e
   omega
  ·rw[List.all_eq_true]
   intro k mm
   obtain⟨i,hi,rfl⟩:=List.mem_map.mp mm
   cases K with
   | nil=>cases hi
   | cons a K=>rw[List.map_cons,List.headD_cons,kfe,kfe];rfl
 have hr:a1U (K.map kf) (oL K)=K.map fun(k:Nat)=>((kf k,[D.int (k:Int)]):Rw0):=by
  unfold a1U
  apply List.ext_getElem?
  intro i
  by_cases hi:i<K.length
  ·rw[List.getElem?_map,List.getElem?_range (by rw[List.length_map];exact hi),List.getElem?_map,List.getElem?_eq_getElem hi]
   show some ((K.map kf).getD i [],[(oL K).getD i .non])=some (kf K[i],[D.int (K[i]:Int)])
   rw[List.getD_eq_getElem?_getD,List.getElem?_map,List.getElem?_eq_getElem hi,List.getD_eq_getElem?_getD,List.getElem?_map,List.getElem?_eq_getElem hi]
   rfl
  ·rw[List.getElem?_eq_none (by rw[List.length_map,List.length_range,List.length_map];omega),List.getElem?_eq_none (by rw[List.length_map];omega)]
 obtain⟨σ,p1,p2⟩:=b1b (fun(k:Nat)=>((kf k,[D.int (k:Int)]):Rw0)) (a1T (a1U (K.map kf) (oL K))) K hr
 refine⟨σ,p1,?_⟩
 unfold a35
 rw[h,a3S]
 show(if(oL K).length<1000 then(match Y1 (elK r6) (y9 1 [2] e1) (oL K)with
  | some ks=>if okK ks=true then some (L2.R.ok ((a1S (a1U ks (oL K))).map fun q=>q.2.headD .non) e1)else none
  | none=>none)else none)=_
 rw[if_pos (by rw[List.length_map];exact hl9),hc,key]
 show(if okK (K.map kf)=true then _ else _)=_
 rw[if_pos ok,p2,List.map_map]
 rfl
noncomputable abbrev f2B(MX:List D→Option R1):SF:=(d6 (j9 9 (eB n9 (eB c7 (k7 h9 0 (eV 4)) (eC (.int 2))) (eB c7 (k7 h9 0 (eV 4)) (eC (.int 0))))) (d6 (j9 10 (eB n9 (eB c7 (k7 h9 0 (eV 4)) (eC (.int 3))) (eB c7 (k7 h9 0 (eV 4)) (eC (.int 1))))) (d6 (T7 11 MX (aC (eB D4 (eV 2) (eC (.int 3))) (aC (eV 4) (aC (eC (.int 20011)) aN)))) (d6 (a2l 8 (eV 4) (eT (aC (eC (.str "ware")) (aC (A4 u6 7) (aC (eB (i7 false) (eB m7 (eV 11) (eC (.int 3))) (eC (.int 0))) aN))))) (n6 (bZ (eB (i7 false) (eB m7 (eV 11) (eC (.int 3))) (eC (.int 0)))) (D5 7 (eT (aC (eV 10) (aC (eV 9) (aC (eC (.bl true)) aN))))) (D5 7 (eT (aC (eV 9) (aC (eV 10) (aC (eB (i7 false) (eB m7 (eB D4 (eV 11) (eC (.int 3))) (eC (.int 2))) (eC (.int 0))) aN))))))))))
abbrev f2E(A N K:D)(c:Int)(s4 s5:Sl)(O Wl E:List D)(s6:Sl)(s9 s10 s11:Sl):DE:=[.fz A,.fz N,.fz (.int c),.fz K,s4,s5,s6,.ow Wl,.ow E,s9,s10,s11]
abbrev W3:=Int×Int×Bool
def w3(v:W3):D:=.tup [.int v.1,.int v.2.1,.bl v.2.2]
theorem b6d(MX:List D→Option R1)(A:List D)(N K:D)(c k m w x y z:Int)(kn:Nat)(s5 s6:Sl)(O Wl E:List D)(o9 o10 o11:Option D)(a1:atI A k=some (.tup [.int w,.int x,.int y,.int z]))(hm:MX [.int (c/3),.int k,.int 20011]=some (.ret (.int m)))(ix:Q9 E.length k=some kn)(hW:Wl.length<sizeLine) :
  ∃v:D,(∃a:W3,v=w3 a)∧f2B MX (f2E (.lst A) N K c (.fz (.int k)) s5 O Wl E s6 (un o9) (un o10) (un o11))=some (.nx (f2E (.lst A) N K c (.fz (.int k)) s5 O (Wl++[v]) (E.set kn (.tup [.str "ware",.int (Wl.length:Int),.bl (decide (m%3=0))])) s6 (.fz (.int (y-w))) (.fz (.int (z-x))) (.fz (.int m)))):=by
 unfold f2B f2E
 by_cases h:m%3=0
 ·refine⟨.tup [.int (z-x),.int (y-w),.bl true],⟨(z-x,y-w,true),rfl⟩,?_⟩
  walk_at "eh"
 ·refine⟨.tup [.int (y-w),.int (z-x),.bl (decide (m/3%2=0))],⟨(y-w,z-x,decide (m/3%2=0)),rfl⟩,?_⟩
  walk_at "eh"
theorem b5q(S:List Sp4)(hl:S.length≤1000)(N K:D)(c:Int)(o4:Option D)(s5:Sl)(σ:List Nat)(hσ:∀k∈σ,k<S.length)(hs:σ.length≤1000):∃(Wl:List D) (L:List En) (p4 o9 o10 o11:Option D),(Wl.length=σ.length∧∀v∈Wl,∃a:W3,v=w3 a)∧L.length=S.length∧(∀k∈σ,∃i b,L[k]? = some (.wr i b)) ∧
  a2M 6 (g9 4) (f2B r6) (f2E (.lst (S.map sD)) N K c (un o4) s5 [] [] ((List.replicate S.length En.wa).map eD) (.ow (oL σ)) .no .no .no)=some (.nx (f2E (.lst (S.map sD)) N K c (un p4) s5 [] Wl (L.map eD) (.ow (oL σ)) (un o9) (un o10) (un o11))):=by
 obtain⟨e',f,Wl,L,p4,o9,o10,o11,h1,h2,h3,rfl⟩:=a0w (b:=g9 4) (body:=f2B r6) (fun(k:Nat)=>D.int (k:Int)) (fun pre e=>∃(Wl:List D) (L:List En) (p4 o9 o10 o11:Option D),(Wl.length=pre.length∧∀v∈Wl,∃a:W3,v=w3 a)∧L.length=S.length∧(∀k∈pre,∃i b,L[k]? = some (.wr i b))∧e=f2E (.lst (S.map sD)) N K c (un p4) s5 [] Wl (L.map eD) (.hd (oL σ)) (un o9) (un o10) (un o11)) σ (f2E (.lst (S.map sD)) N K c (un o4) s5 [] [] ((List.replicate S.length En.wa).map eD) (.hd (oL σ)) .no .no .no) ⟨[],List.replicate S.length En.wa,o4,none,none,none,⟨rfl,fun v m=>absurd m List.not_mem_nil⟩,List.length_replicate ..,fun k m=>absurd m List.not_mem_nil,rfl⟩ (by
  rintro pre k post e hq ⟨Wl,L,p4,o9,o10,o11,⟨h1,hw⟩,h2,h3,rfl⟩
  have hk:k<S.length:=hσ k (by rw[hq];simp)
  have hp:pre.length<1000:=by have:=congrArg List.length hq;rw[List.length_append,List.length_cons]at this;omega
  have hb:g9 4 (.int (k:Int)) (f2E (.lst (S.map sD)) N K c (un p4) s5 [] Wl (L.map eD) (.hd (oL σ)) (un o9) (un o10) (un o11))=some (f2E (.lst (S.map sD)) N K c (.fz (.int (k:Int))) s5 [] Wl (L.map eD) (.hd (oL σ)) (un o9) (un o10) (un o11)):=by cases p4<;>rfl
  obtain⟨m,_,hm⟩:=a2y (c/3) (k:Int) 20011 '!' '!' '!'
  obtain⟨v,hv,st⟩:=b6d r6 (S.map sD) N K c (k:Int) m _ _ _ _ k s5 (.hd (oL σ)) [] Wl (L.map eD) o9 o10 o11 (b4S hk) hm (Y0 (by rw[List.length_map,h2];exact hk)) (by show _<2 ^ 24;omega)
  rw[hb,D2]
  refine⟨_,(congrArg K3 st).trans rfl,Wl++[v],L.set k (.wr (Wl.length:Int) (decide (m%3=0))),some (.int (k:Int)),some (.int (S[k].c-S[k].a)),some (.int (S[k].d-S[k].b)),some (.int m),⟨by rw[List.length_append,List.length_append,h1];rfl,fun u mu=>by
   rcases List.mem_append.mp mu with mu | mu
   ·exact hw u mu
   ·rw[List.mem_singleton.mp mu];exact hv⟩,by rw[List.length_set,h2],fun j mj=>?_,?_⟩
  ·by_cases z:k=j
   ·subst z
    exact⟨_,_,List.getElem?_set_self '!'⟩
   ·rcases List.mem_append.mp mj with mj | mj
    ·rw[List.getElem?_set_ne z];exact h3 j mj
    ·exact absurd (List.mem_singleton.mp mj).symm z
  ·rw[List.map_set]
   rfl)
 refine⟨Wl,L,p4,o9,o10,o11,h1,h2,h3,?_⟩
 show unhide 6 (oL σ) (B9 (g9 4) (f2B r6) (oL σ) (f2E (.lst (S.map sD)) N K c (un o4) s5 [] [] ((List.replicate S.length En.wa).map eD) (.hd (oL σ)) .no .no .no))=_
 rw[f]
 rfl
abbrev wsC:NF:=(a2n 1 1 [] (g9 0) a30 (eT (aC (eC (.str "waste")) aN)))
theorem b5r(A:D)(N:List D)(hl:N.length≤1000)(c K:D)(s4 s5 s6 s7:Sl):wsC [.fz A,.fz (.lst N),.fz c,.fz K,s4,s5,s6,s7,.no,.no,.no,.no]=some (.ok ((List.replicate N.length En.wa).map eD) [.fz A,.fz (.lst N),.fz c,.fz K,s4,s5,s6,s7,.no,.no,.no,.no]):=by
 show E5 (g9 0) a30 (eT (aC (eC (.str "waste")) aN)) [.no] _ N []=_
 have e0:N=N.map id:=(List.map_id N).symm
 rw[e0,a3k id (fun _=>D.tup [.str "waste"]) (fun _=>true) N [] (by show 0+_≤2 ^ 24;omega) (fun d _=>⟨[.fz d],[.fz d],rfl,rfl,fun _=>⟨[.fz d],rfl⟩⟩)]
 rw[List.filter_eq_self.mpr '#',List.nil_append,List.map_const',List.map_replicate,List.map_id]
 rfl
theorem b1d(L1 L2:SF)(NS NW:NF)(A N:D)(c:Int)(K O Wl E E0:List D)(s4 s5 s4' s9 s10 s11:Sl)(h1:L1 [.fz A,.fz N,.fz (.int c),.ow [],.no,.no,.no,.no,.no,.no,.no,.no]=some (.nx [.fz A,.fz N,.fz (.int c),.ow K,s4,s5,.no,.no,.no,.no,.no,.no]))
  (h2:NS [.fz A,.fz N,.fz (.int c),.ow K,s4,s5,.no,.no,.no,.no,.no,.no]=some (.ok O [.fz A,.fz N,.fz (.int c),.fz (.lst K),s4,s5,.no,.no,.no,.no,.no,.no])) (h3:NW [.fz A,.fz N,.fz (.int c),.fz (.lst K),s4,s5,.ow O,.ow [],.no,.no,.no,.no]=some (.ok E0 [.fz A,.fz N,.fz (.int c),.fz (.lst K),s4,s5,.ow O,.ow [],.no,.no,.no,.no]))
  (h4:L2 [.fz A,.fz N,.fz (.int c),.fz (.lst K),s4,s5,.ow O,.ow [],.ow E0,.no,.no,.no]=some (.nx [.fz A,.fz N,.fz (.int c),.fz (.lst K),s4',s5,.ow O,.ow Wl,.ow E,s9,s10,s11])) :
  fD 12 3 (d6 (A5 3 (eL aN)) (d6 L1 (d6 (A5 6 NS) (d6 (A5 7 (eL aN)) (d6 (A5 8 NW) (d6 L2 (a0x 7 8 6))))))) [A,N,.int c]=some (.owz [Wl,E,O]):=by
 have e:a0x 7 8 6 [.fz A,.fz N,.fz (.int c),.fz (.lst K),s4',s5,.ow O,.ow Wl,.ow E,s9,s10,s11]=some (.rz [Wl,E,O]):=rfl
 generalize a0x 7 8 6=RZ at *
 walk_at "eh"
theorem a9X(S:List Sp4)(N:List D)(hN:N.length=S.length)(hl:S.length<999)(c:Int):∃(Wl:List D) (L:List En) (σ:List Nat),(Wl.length=σ.length∧∀v∈Wl,∃a:W3,v=w3 a)∧L.length=S.length∧(∀k∈σ,k<S.length∧∃i b,L[k]? = some (.wr i b))∧σ.length≤S.length∧Q0 [.lst (S.map sD),.lst N,.int c]=some (.owz [Wl,L.map eD,oL σ]):=by
 obtain⟨K,o4,o5,nK,kK,f1⟩:=b3s S N hN '!' c
 obtain⟨σ,pσ,f2⟩:=b1c c (flE (S.map sD) N (oL K) c (un o4) (un o5)) [.fz (.lst (S.map sD)),.fz (.lst N),.fz (.int c),.fz (.lst (oL K)),un o4,un o5,.no,.no,.no,.no,.no,.no] K nK (fun k m=>by have:=kK k m;omega) rfl rfl
 have hσ:∀k∈σ,k<S.length:=fun k m=>kK k (pσ.mem_iff.mp m)
 have hs:σ.length≤S.length:=by
  have:=nodup_le (m:=List.range S.length) nK fun k m=>List.mem_range.mpr (kK k m)
  rw[List.length_range]at this
  rw[pσ.length_eq]
  omega
 obtain⟨Wl,L,p4,o9,o10,o11,h0,h1,h2,f4⟩:=b5q S '!' (.lst N) (.lst (oL K)) c o4 (un o5) σ hσ '!'
 refine⟨Wl,L,σ,h0,h1,fun k m=>⟨hσ k m,h2 k m⟩,hs,b1d _ _ _ _ _ _ _ _ _ _ _ _ _ _ _ _ _ _ f1 f2 ?_ f4⟩
 have:=b5r (.lst (S.map sD)) N '!' (.int c) (.lst (oL K)) (un o4) (un o5) (.ow (oL σ)) (.ow [])
 rw[hN]at this
 exact this
inductive Pl where
 | en (e:En)
 | ct (w:Bool) (t:Int) (l r:Pl)
def pD:Pl→D
 | .en e=>eD e
 | .ct w t l r=>.tup [.str (wS w),.int t,pD l,pD r]
def Tr.pl(f:Nat→En):Tr→Pl
 | .lf k=>.en (f k)
 | .ct _ w t l r=>.ct w t (l.pl f) (r.pl f)
def Tr.subs:Tr→List Tr
 | .lf k=>[.lf k]
 | .ct k w t l r=>.ct k w t l r::(l.subs++r.subs)
theorem a2A:∀T:Tr,T∈T.subs
 | .lf _=>List.mem_cons_self
 | .ct _ _ _ _ _=>List.mem_cons_self
theorem a2T{k:Nat}{w:Bool}{t:Int}{l r:Tr}:∀{T:Tr},Tr.ct k w t l r∈T.subs→l∈T.subs∧r∈T.subs
 | .lf _,h=>by cases List.mem_singleton.mp h
 | .ct k' w' t' l' r',h=>by
  rcases List.mem_cons.mp h with e | m
  ·cases e
   exact⟨List.mem_cons_of_mem _ (List.mem_append.mpr (.inl (a2A _))),List.mem_cons_of_mem _ (List.mem_append.mpr (.inr (a2A _)))⟩
  ·rcases List.mem_append.mp m with m | m
   ·obtain⟨a,b⟩:=a2T m
    exact⟨List.mem_cons_of_mem _ (List.mem_append.mpr (.inl a)),List.mem_cons_of_mem _ (List.mem_append.mpr (.inl b))⟩
   ·obtain⟨a,b⟩:=a2T m
    exact⟨List.mem_cons_of_mem _ (List.mem_append.mpr (.inr a)),List.mem_cons_of_mem _ (List.mem_append.mpr (.inr b))⟩
def Nok(N:List D):Tr→Prop
 | .lf k=>N[k]? = some .non
 | .ct k w t l r=>N[k]? = some (nd w t l.ix r.ix)∧k<l.ix∧k<r.ix
theorem a3r{N:List D}{S:List Sp4}:∀{T:Tr} {q:Sp4},Gd N S q T→∀X∈T.subs,Nok N X
 | .lf k,q,⟨a,_⟩,X,m=>by rw[List.mem_singleton.mp m];exact a
 | .ct k w t l r,q,⟨a,_,c,d,_,_,gz1,g2⟩,X,m=>by
  rcases List.mem_cons.mp m with rfl | m
  ·exact⟨a,c,d⟩
  ·rcases List.mem_append.mp m with m | m
   ·exact a3r gz1 X m
   ·exact a3r g2 X m
theorem a2U:∀{T:Tr} {k:Nat},k∈T.ids→∃X∈T.subs,X.ix=k
 | .lf k,x,m=>⟨.lf k,List.mem_cons_self,(List.mem_singleton.mp m).symm⟩
 | .ct k w t l r,x,m=>by
  rcases List.mem_cons.mp m with rfl | m
  ·exact⟨_,List.mem_cons_self,rfl⟩
  ·rcases List.mem_append.mp m with m | m
   ·obtain⟨X,a,b⟩:=a2U m
    exact⟨X,List.mem_cons_of_mem _ (List.mem_append.mpr (.inl a)),b⟩
   ·obtain⟨X,a,b⟩:=a2U m
    exact⟨X,List.mem_cons_of_mem _ (List.mem_append.mpr (.inr a)),b⟩
theorem a3s:∀{T:Tr} {X:Tr},X∈T.subs→X.ix∈T.ids
 | .lf k,X,m=>by rw[List.mem_singleton.mp m];exact List.mem_cons_self
 | .ct k w t l r,X,m=>by
  rcases List.mem_cons.mp m with rfl | m
  ·exact List.mem_cons_self
  ·rcases List.mem_append.mp m with m | m
   ·exact List.mem_cons_of_mem _ (List.mem_append.mpr (.inl (a3s m)))
   ·exact List.mem_cons_of_mem _ (List.mem_append.mpr (.inr (a3s m)))
theorem a9Y{l:List Nat}(h:l.Nodup)(lt:∀i∈l,i<l.length){k:Nat}(hk:k<l.length):k∈l:=by
 by_cases m:k∈l
 ·exact m
 ·have:=nodup_le (l:=k::l) (m:=List.range l.length) (List.nodup_cons.mpr ⟨m,h⟩) fun x hx=>by
   rcases List.mem_cons.mp hx with rfl | hx
   ·exact List.mem_range.mpr hk
   ·exact List.mem_range.mpr (lt x hx)
  rw[List.length_cons,List.length_range]at this
  omega
abbrev jnB(GI:D→D→Option D):SF:=(d6 (j9 4 (eB n9 (eB n9 (A4 u6 0) (eC (.int 1))) (eV 3))) (n6 (bZ (eB GI (k7 h9 0 (eV 4)) (eC .non))) (a2l 2 (eV 4) (eT (aC (eB c7 (k7 h9 0 (eV 4)) (eC (.int 0))) (aC (eB c7 (k7 h9 0 (eV 4)) (eC (.int 1))) (aC (k7 h9 2 (eB c7 (k7 h9 0 (eV 4)) (eC (.int 2)))) (aC (k7 h9 2 (eB c7 (k7 h9 0 (eV 4)) (eC (.int 3)))) aN)))))) t4))
theorem b6e(GI:D→D→Option D)(N B:List D)(E:D)(b k:Int)(o4:Option D)(hk:(N.length:Int)-1-b=k)(a:atI N k=some .non)(g:GI .non .non=some (.bl false)):jnB GI [.fz (.lst N),.fz E,.ow B,.fz (.int b),un o4]=some (.nx [.fz (.lst N),.fz E,.ow B,.fz (.int b),.fz (.int k)]):=by
 unfold jnB
 walk_at "eh"
theorem b6f(GI:D→D→Option D)(N B:List D)(E:D)(b k t i j:Int)(wd:Str)(x y:D)(kn:Nat)(o4:Option D)(hk:(N.length:Int)-1-b=k)(a:atI N k=some (.tup [.str wd,.int t,.int i,.int j]))(g:GI (.tup [.str wd,.int t,.int i,.int j]) .non=some (.bl true))(hi:atI B i=some x)(hj:atI B j=some y)(ix:Q9 B.length k=some kn):jnB GI [.fz (.lst N),.fz E,.ow B,.fz (.int b),un o4]=some (.nx [.fz (.lst N),.fz E,.ow (B.set kn (.tup [.str wd,.int t,x,y])),.fz (.int b),.fz (.int k)]):=by
 unfold jnB
 walk_at "eh"
theorem b1e(LP:SF)(N:D)(E B:List D)(x:D)(s3 s4:Sl)(h:LP [.fz N,.fz (.lst E),.ow E,.no,.no]=some (.nx [.fz N,.fz (.lst E),.ow B,s3,s4]))(a:atI B 0=some x):fD 5 2 (d6 (A5 2 (nCV a1J 1)) (d6 LP (j5 (k7 h9 2 (eC (.int 0)))))) [N,.lst E]=some (.ret x):=by
 walk_at "eh"
structure TJ(n:Nat)(T:Tr)(N:List D):Prop where
 lN:N.length=n
 ndp:T.ids.Nodup
 lt:∀i∈T.ids,i<n
 ln:T.ids.length=n
 rt:T.ix=0
 nok:∀X∈T.subs,Nok N X
theorem TrI.tj{q0:Sp4}{m:Nat}{T:Tr}{S:List Sp4}{N:List D}{U:List Nat}(I:TrI q0 m T S N U):TJ S.length T N:=⟨I.lN,I.ndp,I.lt,I.ln,I.rt,a3r I.gd⟩
theorem a90{n:Nat}{T:Tr}{N:List D}(I:TJ n T N)(hl:n≤1000)(L:List En)(hL:L.length=n)(f:Nat→En)(hf:∀k,k<n→L[k]? = some (f k)):P9 [.lst N,.lst (L.map eD)]=some (.ret (pD (T.pl f))):=by
 have nok:=I.nok
 have hN:=I.lN
 have ltS:∀X∈T.subs,X.ix<n:=fun X m=>I.lt _ (a3s m)
 obtain⟨e',fo,B,o3,o4,hB,b1,b2,rfl⟩:=a0w (b:=g9 3) (body:=jnB (K1 true)) (fun(k:Nat)=>D.int (k:Int)) (fun pre e=>∃(B:List D) (o3 o4:Option D),B.length=n∧(∀X∈T.subs,n≤X.ix+pre.length→B[X.ix]? = some (pD (X.pl f)))∧(∀k,k+pre.length<n→B[k]? = some (eD (f k)))∧e=[.fz (.lst N),.fz (.lst (L.map eD)),.ow B,un o3,un o4]) (List.range n) [.fz (.lst N),.fz (.lst (L.map eD)),.ow (L.map eD),.no,.no]
  ⟨L.map eD,none,none,by rw[List.length_map,hL],fun X m h=>absurd (ltS X m) (by rw[List.length_nil]at h;omega),fun k h=>by rw[List.getElem?_map,hf k '!'];rfl,rfl⟩ (by
  rintro pre k post e hq ⟨B,o3,o4,hB,b1,b2,rfl⟩
  have hk:k<n:=List.mem_range.mp (by rw[hq];simp)
  have hpk:pre.length=k:=by
   have:=congrArg (fun l=>l[pre.length]?) hq
   simp only[List.getElem?_append_right (Nat.le_refl _),Nat.sub_self,List.getElem?_cons_zero]at this
   have h2:pre.length<n:=by have:=congrArg List.length hq;rw[List.length_range,List.length_append,List.length_cons]at this;omega
   rw[List.getElem?_range h2]at this
   exact Option.some.inj this
  have hb:g9 3 (.int (k:Int)) [.fz (.lst N),.fz (.lst (L.map eD)),.ow B,un o3,un o4]=some [.fz (.lst N),.fz (.lst (L.map eD)),.ow B,.fz (.int (k:Int)),un o4]:=by cases o3<;>rfl
  rw[hb,D2]
  obtain⟨j,hj⟩:∃j,j=n-1-k:=⟨_,rfl⟩
  have hjI:(N.length:Int)-1-(k:Int)=(j:Int):=by rw[hN];omega
  obtain⟨X,mX,eX⟩:=a2U (a9Y I.ndp (fun i m=>by rw[I.ln];exact I.lt i m) (k:=j) (by rw[I.ln];omega))
  have nX:=nok X mX
  cases X with
  | lf k' =>
   have eX:k'=j:=eX
   subst eX
   have a:atI N (k':Int)=some .non:=Q2 nX
   refine⟨_,(congrArg K3 (b6e (K1 true) N B _ _ _ o4 hjI a rfl)).trans rfl,B,some (.int (k:Int)),some (.int (k':Int)),hB,fun Y mY hY=>?_,fun x hx=>b2 x (by rw[List.length_append,List.length_singleton]at hx;omega),rfl⟩
   rw[List.length_append,List.length_singleton]at hY
   by_cases z:Y.ix=k'
   ·have nY:=nok Y mY
    cases Y with
    | lf y =>
     have z:y=k':=z
     subst z
     exact b2 y '!'
    | ct y w t l r =>
     have z:y=k':=z
     subst z
     have nX:N[y]? = some .non:=nX
     have nY1:=nY.1
     rw[nX]at nY1
     cases nY1
   ·exact b1 Y mY '!'
  | ct k' w t l r =>
   have eX:k'=j:=eX
   subst eX
   obtain⟨n1,n2,n3⟩:=nX
   obtain⟨ml,mr⟩:=a2T mX
   have x1:=b1 l ml '!'
   have x2:=b1 r mr '!'
   have a:atI N (k':Int)=some (nd w t l.ix r.ix):=Q2 n1
   refine⟨_,(congrArg K3 (b6f (K1 true) N B _ _ _ _ _ _ _ _ _ k' o4 hjI a rfl (Q2 x1) (Q2 x2) (Y0 (by rw[hB];omega)))).trans rfl,B.set k' (pD (.ct w t (l.pl f) (r.pl f))),some (.int (k:Int)),some (.int (k':Int)),by rw[List.length_set,hB],fun Y mY hY=>?_,fun x hx=>?_,rfl⟩
   ·rw[List.length_append,List.length_singleton]at hY
    by_cases z:Y.ix=k'
    ·have nY:=nok Y mY
     cases Y with
     | lf y =>
      have z:y=k':=z
      subst z
      have nY:N[y]? = some .non:=nY
      rw[n1]at nY
      cases nY
     | ct y w' t' l' r' =>
      have z:y=k':=z
      subst z
      obtain⟨ml',mr'⟩:=a2T mY
      obtain⟨q1,q2,q3⟩:=nY
      rw[n1]at q1
      unfold nd at q1
      simp only[Option.some.injEq,D.tup.injEq,List.cons.injEq,D.str.injEq,D.int.injEq,and_true]at q1
      obtain⟨ew,et,el,er⟩:=q1
      have ew:w=w':=by
       revert ew
       unfold wS
       cases w<;>cases w' <;>decide +kernel
      have el:l.ix=l'.ix:=by omega
      have er:r.ix=r'.ix:=by omega
      have y1:=b1 l' ml' '!'
      have y2:=b1 r' mr' '!'
      rw[← el,x1]at y1
      rw[← er,x2]at y2
      show(B.set y _)[y]? = _
      rw[List.getElem?_set_self '!']
      show some (D.tup [.str (wS w),.int t,pD (l.pl f),pD (r.pl f)])=some (D.tup [.str (wS w'),.int t',pD (l'.pl f),pD (r'.pl f)])
      rw[ew,et,Option.some.inj y1,Option.some.inj y2]
    ·rw[List.getElem?_set_ne (fun e=>z e.symm)]
     exact b1 Y mY '!'
   ·rw[List.length_append,List.length_singleton]at hx
    rw[List.getElem?_set_ne '!']
    exact b2 x '!')
 rw[List.length_range]at b1
 refine b1e _ (.lst N) (L.map eD) B _ (un o3) (un o4) ?_ (Q2 (j:=0) (by have:=b1 T (a2A T) '!';rw[I.rt]at this;exact this))
 have e0:(aC (A4 u6 0) aN) [.fz (.lst N),.fz (.lst (L.map eD)),.ow (L.map eD),.no,.no]=some (.ok [.int (N.length:Int)] [.fz (.lst N),.fz (.lst (L.map eD)),.ow (L.map eD),.no,.no]):=rfl
 rw[hN]at e0
 rw[V6 e0 (T8 hl),a1d]
 exact fo
theorem a4_{c:BF}{body:SF}(I:Nat→DE→Prop)(Fin:DE→Prop)(hs:∀m e,I m e→(∃e1 e2,c e=some (.ok true e1)∧K3 (body e1)=some (.nx e2)∧∃m',m'<m∧I m' e2)∨(∃e1,c e=some (.ok false e1)∧Fin e1)):∀(fuel m:Nat) (e:DE),m<fuel→I m e→∃e',E7 c body fuel e=some (.nx e')∧Fin e'
 | 0,_,_,h,_=>absurd h (Nat.not_lt_zero _)
 | fuel+1,m,e,h,hi=>by
  rcases hs m e hi with⟨e1,e2,h1,h2,m',hm,h3⟩ | ⟨e1,h1,h2⟩
  ·obtain⟨e',h4,h5⟩:=a4_ I Fin hs fuel m' e2 '!' h3
   refine⟨e',?_,h5⟩
   rw[E7,h1,V9,if_pos rfl]
   unfold K3 at h2
   split at h2
   ·rename_i q
    cases h2
    rw[q];exact h4
   ·rw[h2];exact h4
  ·exact⟨e1,by rw[E7,h1,V9];rfl,h2⟩
abbrev Np:=Sp4×Pl
def O6(x:Np):D:=.tup [sD x.1,pD x.2]
def A8:Sp4→Pl→List Np
 | q,.en e=>[(q,.en e)]
 | q,.ct w t l r=>(q,.ct w t l r)::(A8 (pL q w t) l++A8 (pR q w t) r)
def psz:Pl→Nat
 | .en _=>1
 | .ct _ _ l r=>1+(psz l+psz r)
def isC:Pl→Bool
 | .en _=>false
 | .ct _ _ _ _=>true
theorem a2V:∀P:Pl,1≤psz P
 | .en _=>Nat.le_refl _
 | .ct _ _ l r=>by unfold psz;omega
theorem a0V(P:Pl):B0 [pD P]=some (.ret (.bl (isC P))):=by
 cases P with
 | en e=>cases e<;>rfl
 | ct w t l r=>cases w<;>rfl
abbrev ndB(IC CS:List D→Option R1):SF:=(d6 (a1a (a0h 3) (K2 [(g9 4),(g9 5)])) (d6 (D5 2 (eT (aC (eV 4) (aC (eV 5) aN)))) (n6 (bZ (h8 IC (aC (eV 5) aN))) (d6 (a1a (h8 CS (aC (eV 4) (aC (eV 5) aN))) (K2 [(g9 6),(g9 7)])) (d6 (D5 3 (eT (aC (eV 7) (aC (eB c7 (eV 5) (eC (.int 3))) aN)))) (D5 3 (eT (aC (eV 6) (aC (eB c7 (eV 5) (eC (.int 2))) aN)))))) t4)))
theorem b6g(IC CS:List D→Option R1)(bx pl:D)(Out Z A:List D)(q p:D)(o4 o5 o6 o7:Option D)(z1:Z.getLast? = some (.tup [q,p]))(z2:Z.dropLast=A)(hl:Out.length<sizeLine)(hc:IC [p]=some (.ret (.bl false))):ndB IC CS [.fz bx,.fz pl,.ow Out,.ow Z,un o4,un o5,un o6,un o7]=some (.nx [.fz bx,.fz pl,.ow (Out++[.tup [q,p]]),.ow A,.fz q,.fz p,un o6,un o7]):=by
 unfold ndB
 walk_at "eh"
theorem b6h(IC CS:List D→Option R1)(bx pl:D)(Out Z A:List D)(q s t x y q1 q2:D)(o4 o5 o6 o7:Option D)(z1:Z.getLast? = some (.tup [q,.tup [s,t,x,y]]))(z2:Z.dropLast=A)(hl:Out.length<sizeLine)(hc:IC [.tup [s,t,x,y]]=some (.ret (.bl true)))(hs:CS [q,.tup [s,t,x,y]]=some (.ret (.tup [q1,q2])))(l1:A.length<sizeLine)(l2:(A++[D.tup [q2,y]]).length<sizeLine):ndB IC CS [.fz bx,.fz pl,.ow Out,.ow Z,un o4,un o5,un o6,un o7]=some (.nx [.fz bx,.fz pl,.ow (Out++[.tup [q,.tup [s,t,x,y]]]),.ow (A++[.tup [q2,y]]++[.tup [q1,x]]),.fz q,.fz (.tup [s,t,x,y]),.fz q1,.fz q2]):=by
 unfold ndB
 walk_at "eh"
theorem a7B(st:List Np)(x:Np):((st++[x]).map O6).getLast? = some (O6 x)∧((st++[x]).map O6).dropLast=st.map O6:=by
 rw[List.map_append,List.map_singleton]
 exact⟨List.getLast?_concat,List.dropLast_concat⟩
abbrev wcB:BF:=(bZ (eB gGt (A4 u6 3) (eC (.int 0))))
theorem a5w(s0 s1 s2:Sl)(Z:List D)(r:DE):wcB (s0::s1::s2 :: .ow Z::r)=some (.ok (decide ((Z.length:Int) > 0)) (s0::s1::s2 :: .ow Z::r)):=rfl
def fm(st:List Np):List Np:=st.reverse.flatMap fun x=>A8 x.1 x.2
theorem a1p(st:List Np)(x:Np):fm (st++[x])=A8 x.1 x.2++fm st:=by
 unfold fm
 rw[List.reverse_append,List.reverse_singleton,List.singleton_append,List.flatMap_cons]
def J3(st:List Np):Nat:=(st.map fun x=>psz x.2).sum
theorem G6(st:List Np)(x:Np):J3 (st++[x])=J3 st+psz x.2:=by
 unfold J3
 rw[List.map_append,List.sum_append]
 simp
theorem b1O(st:List Np):st.length≤J3 st:=by
 induction st with
 | nil=>exact Nat.zero_le _
 | cons a s ih =>
  have:=a2V a.2
  unfold J3 at *
  rw[List.map_cons,List.sum_cons,List.length_cons]
  omega
abbrev ndE(bx pl:D)(Out Z:List D)(s4 s5 s6 s7:Sl):DE:=[.fz bx,.fz pl,.ow Out,.ow Z,s4,s5,s6,s7]
theorem b3t(WH:SF)(w h:Int)(p:D)(Out Z:List D)(s4 s5 s6 s7:Sl)(hw:WH [.fz (.tup [.int w,.int h]),.fz p,.ow [],.ow [.tup [.tup [.int 0,.int 0,.int w,.int h],p]],.no,.no,.no,.no]=some (.nx [.fz (.tup [.int w,.int h]),.fz p,.ow Out,.ow Z,s4,s5,s6,s7])) :
  fD 8 2 (d6 (A5 2 (eL aN)) (d6 (A5 3 (eL (aC (eT (aC (eT (aC (eC (.int 0)) (aC (eC (.int 0)) (aC (eB c7 (eV 0) (eC (.int 0))) (aC (eB c7 (eV 0) (eC (.int 1))) aN))))) (aC (eV 1) aN))) aN))) (d6 WH (a3Y 2)))) [.tup [.int w,.int h],p]=some (.own Out):=by
 walk_at "eh"
theorem b1f(W H:Int)(P:Pl)(hs:psz P≤1000):M3 [.tup [.int W,.int H],pD P]=some (.own ((A8 ⟨0,0,W,H⟩ P).map O6)):=by
 obtain⟨e',f,Z,s4,s5,s6,s7,rfl⟩:=a4_ (c:=wcB) (body:=ndB B0 F9) (fun m e=>∃(out st:List Np) (o4 o5 o6 o7:Option D),e=ndE (.tup [.int W,.int H]) (pD P) (out.map O6) (st.map O6) (un o4) (un o5) (un o6) (un o7)∧out++fm st=A8 ⟨0,0,W,H⟩ P∧m=J3 st∧out.length+J3 st=psz P∧st.length≤J3 st) (fun e=>∃(Z:List D) (s4 s5 s6 s7:Sl),e=ndE (.tup [.int W,.int H]) (pD P) ((A8 ⟨0,0,W,H⟩ P).map O6) Z s4 s5 s6 s7) (by
  rintro m e ⟨out,st,o4,o5,o6,o7,rfl,h1,rfl,h2,h3⟩
  rcases List.eq_nil_or_concat st with rfl | ⟨st',x,rfl⟩
  ·right
   refine⟨_,a5w _ _ _ _ _,[],un o4,un o5,un o6,un o7,?_⟩
   rw[← h1]
   show _=ndE (.tup [.int W,.int H]) (pD P) ((out++[]).map O6) _ _ _ _ _
   rw[List.append_nil]
   rfl
  ·left
   rw[List.concat_eq_append]at *
   obtain⟨z1,z2⟩:=a7B st' x
   rw[G6]at h2 h3
   rw[List.length_append,List.length_singleton]at h3
   rw[a1p]at h1
   have hc:decide ((((st'++[x]).map O6).length:Int) > 0)=true:=decide_eq_true (by rw[List.length_map,List.length_append];show((_+1:Nat):Int) > 0;omega)
   obtain⟨q,X⟩:=x
   cases X with
   | en en0 =>
    have h2:out.length+(J3 st'+1)=psz P:=h2
    have h3:st'.length+1≤J3 st'+1:=h3
    refine⟨_,_,(a5w _ _ _ _ _).trans (by rw[hc]),(congrArg K3 (b6g B0 F9 _ _ (out.map O6) _ _ _ _ o4 o5 o6 o7 z1 z2 (by rw[List.length_map];show _<2 ^ 24;omega) (a0V (.en en0)))).trans rfl,J3 st',by rw[G6];show _<J3 st'+1;omega,out++[(q,.en en0)],st',some (sD q),some (pD (.en en0)),o6,o7,?_,?_,rfl,?_,by omega⟩
    ·rw[List.map_append];rfl
    ·rw[List.append_assoc];exact h1
    ·rw[List.length_append];show _+1+_=_;omega
   | ct w t l r =>
    have h2:out.length+(J3 st'+(1+(psz l+psz r)))=psz P:=h2
    have h3:st'.length+1≤J3 st'+(1+(psz l+psz r)):=h3
    have pl:=a2V l
    have pr:=a2V r
    have hst:=b1O st'
    have lz:(st'.map O6).length<sizeLine:=by rw[List.length_map];show _<2 ^ 24;omega
    refine⟨_,_,(a5w _ _ _ _ _).trans (by rw[hc]),(congrArg K3 (b6h B0 F9 _ _ (out.map O6) _ _ _ _ _ _ _ _ _ o4 o5 o6 o7 z1 z2 (by rw[List.length_map];show _<2 ^ 24;omega) (a0V (.ct w t l r)) (a9T q w t _ _) lz (by rw[List.length_append,List.length_map];show _+1<2 ^ 24;omega))).trans rfl,J3 (st'++[(pR q w t,r)]++[(pL q w t,l)]),?_,out++[(q,.ct w t l r)],st'++[(pR q w t,r)]++[(pL q w t,l)],some (sD q),some (pD (.ct w t l r)),some (sD (pL q w t)),some (sD (pR q w t)),?_,?_,rfl,?_,?_⟩
    ·rw[G6,G6,G6]
     show J3 st'+psz r+psz l<J3 st'+(1+(psz l+psz r))
     omega
    ·rw[List.map_append,List.map_append,List.map_append];rfl
    ·rw[a1p,a1p,List.append_assoc]
     show out++((q,Pl.ct w t l r)::(A8 (pL q w t) l++(A8 (pR q w t) r++fm st')))=_
     rw[← h1]
     show _=out++(((q,Pl.ct w t l r)::(A8 (pL q w t) l++A8 (pR q w t) r))++fm st')
     rw[List.cons_append,List.append_assoc]
    ·rw[G6,G6,List.length_append]
     show out.length+1+(J3 st'+psz r+psz l)=_
     omega
    ·rw[G6,G6,List.length_append,List.length_append]
     show st'.length+1+1≤J3 st'+psz r+psz l
     omega) 1000000 (psz P) (ndE (.tup [.int W,.int H]) (pD P) [] [O6 (⟨0,0,W,H⟩,P)] .no .no .no .no) (by omega) ⟨[],[(⟨0,0,W,H⟩,P)],none,none,none,none,rfl,by unfold fm;simp,by unfold J3;simp,by unfold J3;simp,by unfold J3;have:=a2V P;simp;omega⟩
 exact b3t _ W H _ _ Z s4 s5 s6 s7 f
def wAt(ws:List W3)(i:Int):W3:=ws.getD i.toNat (0,0,false)
def sdB(v:W3)(b:Bool):Int×Int:=if b=true then(v.2.1,v.1)else(v.1,v.2.1)
def sdD(p:Int×Int):D:=.tup [.int p.1,.int p.2]
def a1Z(ws:List W3)(q:Sp4)(i:Int)(b:Bool)(told:List Int):Bool:=decide (i<0) || (decide ((ws.length:Int)≤i) || (decide (i∈told) || ((b && !(wAt ws i).2.2) || decide (sdB (wAt ws i) b≠(q.c-q.a,q.d-q.b)))))
def stF(ws:List W3)(told:List Int)(x:Np):Sum D (List Int):=match x.2 with
 | .ct w t _ _=>if t<1∨N3 x.1 w≤t then .inl (.tup [.str "cut",.int t])else .inr told
 | .en .wa=>.inr told
 | .en (.wr i b)=>if a1Z ws x.1 i b told=true then .inl (.tup [.str "ware",.int i])else .inr (told++[i])
def W9(ws:List W3):List Np→List Int→Sum D (List Int)
 | [],t=>.inr t
 | x::xs,t=>match stF ws t x with
  | .inl d=>.inl d
  | .inr t'=>W9 ws xs t'
abbrev iI(l:List Int):List D:=l.map D.int
abbrev kT(t:List Int):DK:=.inl (t.map fun(j:Int)=>(Sum.inl j:v9))
abbrev vT(t:List Int):List D:=t.map fun _=>D.bl true
theorem a8M(i:Int):∀r:List Int,a0P (r.map fun(j:Int)=>(Sum.inl j:v9)) (.inl i)=decide (i∈r)
 | []=>rfl
 | j::r=>by
  have ih:=a8M i r
  unfold a0P at ih ⊢
  rw[List.map_cons,List.any_cons,ih]
  by_cases z:i=j
  ·subst z;simp
  ·have z':¬((Sum.inl j:v9)=.inl i):=fun y=>by injection y with y;exact z y.symm
   simp[z',z]
theorem b5s(r:List Int)(i:Int)(h:i ∉ r):putD (kT r) (vT r) (.int i) (.bl true)=some (kT (r++[i]),vT (r++[i])):=by
 show some (if a0P (r.map fun(j:Int)=>(Sum.inl j:v9)) (.inl i)=true then _ else _)=_
 rw[a8M]
 simp only[h,decide_false,if_false,Bool.false_eq_true]
 unfold kT vT
 rw[List.map_append,List.map_append]
 rfl
theorem b1Q(r:List Int)(j:Int):∃o,a0Q (kT r) (vT r) (.int j)=some o∧o.isSome=decide (j∈r):=by
 refine⟨_,rfl,?_⟩
 rw[← a8M]
 induction r with
 | nil=>rfl
 | cons x r ih =>
  unfold a0P at ih ⊢
  show(a1V ((Sum.inl x:v9)::_) (D.bl true::vT r) (Sum.inl j)).isSome=_
  rw[List.map_cons,List.any_cons,← ih,a1V]
  by_cases z:(Sum.inl x:v9)=.inl j
  ·rw[if_pos z];simp[z]
  ·rw[if_neg z];simp[z]
theorem b1R(i:Int)(r:List Int)(neg:Bool):X5 neg (.int i) (.lst (iI r))=some (.bl (if neg then !decide (i∈r)else decide (i∈r))):=by
 have hf:(iI r).all t9=true:=by
  rw[List.all_eq_true]
  intro d m
  obtain⟨j,_,rfl⟩:=List.mem_map.mp m
  rfl
 have hi:inD (.int i) (iI r)=decide (i∈r):=by
  unfold inD
  rw[Bool.eq_iff_iff,List.any_eq_true,decide_eq_true_eq]
  constructor
  ·rintro⟨d,m,h⟩
   obtain⟨j,mj,rfl⟩:=List.mem_map.mp m
   have:j=i:=by
    have h:V1 (.int j) (.int i)=true:=h
    simpa [V1]using h
   rw[← this];exact mj
  ·intro m
   exact⟨_,List.mem_map.mpr ⟨i,m,rfl⟩,by simp[V1]⟩
 show(if(true && (iI r).all t9)=true then _ else _)=_
 rw[hf,hi]
 rfl
theorem b4W{ws:List W3}{i:Int}(h0:¬i<0)(h1:¬(ws.length:Int)≤i):atI (ws.map w3) i=some (w3 (wAt ws i)):=by
 obtain⟨n,rfl⟩:=Int.eq_ofNat_of_zero_le (show 0≤i by omega)
 have hn:n<ws.length:=by omega
 refine Q2 ?_
 unfold wAt
 rw[List.getElem?_map,List.getElem?_eq_getElem hn]
 simp[hn]
theorem b4X(W:List D)(i:Int):A2 [.lst W,.int i]=some (.ret (.bl (decide (0≤i) && decide (i<(W.length:Int))))):=by
 unfold A2 a1n
 by_cases h:0≤i
 ·have h':i≥0:=h
  simp only[h,decide_true,Bool.true_and]
  walk_at "eh"
 ·have h':¬i≥0:=h
  simp only[h,decide_false,Bool.false_and]
  walk_at "eh"
theorem b3u(v:W3)(b:Bool)(h:b=true→v.2.2=true):F8 [w3 v,.bl b]=some (.ret (sdD (sdB v b))):=by
 obtain⟨x,y,t⟩:=v
 cases b
 ·rfl
 ·have:t=true:=h rfl
  subst this
  rfl
theorem b1S(neg:Bool)(p q:Int×Int):G8 neg (sdD p) (sdD q)=some (.bl (if neg then !decide (p=q)else decide (p=q))):=by
 obtain⟨a,b⟩:=p
 obtain⟨c,d⟩:=q
 have e:A7 (sdD (a,b)) (sdD (c,d))=decide ((a,b)=(c,d)):=by
  unfold sdD
  simp only[A7,P6,V1,List.isEmpty_nil,Bool.and_true]
  by_cases h1:a=c
  ·by_cases h2:b=d
   ·subst h1 h2;simp
   ·subst h1;simp[h2]
  ·simp[h1]
 show(if _ then some (D.bl (if neg then !A7 (sdD (a,b)) (sdD (c,d))else A7 (sdD (a,b)) (sdD (c,d))))else none)=_
 rw[e]
 rfl
noncomputable abbrev rwB(NU SI:List D→Option R1)(GT:Bool→D→D→Option D):SF:=(d6 (j9 4 (eB c7 (eV 2) (eC (.int 1)))) (d6 (j9 5 (eB c7 (eV 2) (eC (.int 2)))) (d6 (n6 (bOr (Q7 (bZ (h8 NU (aC (eV 0) (aC (eV 4) aN))))) (bOr (bZ (a8u (eV 4) 3)) (M8 (bZ (eV 5)) (Q7 (bZ (eB c7 (k7 h9 0 (eV 4)) (eC (.int 2)))))))) (j5 (eC (.bl false))) t4) (j5 (eB (GT false) (a2L SI (aC (k7 h9 0 (eV 4)) (aC (eV 5) aN))) (eT (aC (eB n9 (eB c7 (eV 1) (eC (.int 2))) (eB c7 (eV 1) (eC (.int 0)))) (aC (eB n9 (eB c7 (eV 1) (eC (.int 3))) (eB c7 (eV 1) (eC (.int 1)))) aN))))))))
theorem b4Y(NU SI:List D→Option R1)(GT:Bool→D→D→Option D)(W:List D)(q w:D)(i:Int)(b:D)(ks:DK)(vs:List D)(h1:NU [.lst W,.int i]=some (.ret (.bl false))):fD 6 4 (rwB NU SI GT) [.lst W,q,.tup [w,.int i,b],.dic ks vs]=some (.ret (.bl false)):=by
 unfold rwB
 walk_at "eh"
theorem b6i(NU SI:List D→Option R1)(GT:Bool→D→D→Option D)(W:List D)(q w:D)(i:Int)(b:D)(ks:DK)(vs:List D)(o:Option D)(h1:NU [.lst W,.int i]=some (.ret (.bl true)))(h2:a0Q ks vs (.int i)=some o)(h3:o.isSome=true):fD 6 4 (rwB NU SI GT) [.lst W,q,.tup [w,.int i,b],.dic ks vs]=some (.ret (.bl false)):=by
 unfold rwB
 walk_at "eh"
theorem b6j(NU SI:List D→Option R1)(GT:Bool→D→D→Option D)(W:List D)(q w:D)(i x y:Int)(ks:DK)(vs:List D)(o:Option D)(h1:NU [.lst W,.int i]=some (.ret (.bl true)))(h2:a0Q ks vs (.int i)=some o)(h3:o.isSome=false)(a:atI W i=some (.tup [.int x,.int y,.bl false])):fD 6 4 (rwB NU SI GT) [.lst W,q,.tup [w,.int i,.bl true],.dic ks vs]=some (.ret (.bl false)):=by
 unfold rwB
 walk_at "eh"
theorem b6k(NU SI:List D→Option R1)(GT:Bool→D→D→Option D)(W:List D)(qa qb qc qd:Int)(w:D)(i x y:Int)(t b e:Bool)(s:D)(ks:DK)(vs:List D)(o:Option D)(h1:NU [.lst W,.int i]=some (.ret (.bl true)))(h2:a0Q ks vs (.int i)=some o)(h3:o.isSome=false)(a:atI W i=some (.tup [.int x,.int y,.bl t]))(hb:b=false∨t=true)(hs:SI [.tup [.int x,.int y,.bl t],.bl b]=some (.ret s))(hg:GT false s (.tup [.int (qc-qa),.int (qd-qb)])=some (.bl e)) :
  fD 6 4 (rwB NU SI GT) [.lst W,.tup [.int qa,.int qb,.int qc,.int qd],.tup [w,.int i,.bl b],.dic ks vs]=some (.ret (.bl e)):=by
 unfold rwB
 rcases hb with rfl | rfl
 ·walk_at "eh"
 ·cases b<;>walk_at "eh"
theorem b1g(ws:List W3)(q:Sp4)(i:Int)(b:Bool)(told:List Int):v5 [.lst (ws.map w3),sD q,.tup [.str "ware",.int i,.bl b],.dic (kT told) (vT told)]=some (.ret (.bl (!a1Z ws q i b told))):=by
 have nu:=b4X (ws.map w3) i
 rw[List.length_map]at nu
 obtain⟨o,gz1,g2⟩:=b1Q told i
 unfold a1Z
 by_cases h0:i<0
 ·have e:(decide (0≤i) && decide (i<(ws.length:Int)))=false:=by simp;omega
  rw[e]at nu
  refine(b4Y A2 F8 G8 _ _ _ i _ _ _ nu).trans ?_
  simp[h0]
 ·by_cases h1:(ws.length:Int)≤i
  ·have e:(decide (0≤i) && decide (i<(ws.length:Int)))=false:=by simp;omega
   rw[e]at nu
   refine(b4Y A2 F8 G8 _ _ _ i _ _ _ nu).trans ?_
   simp[h1]
  ·have e:(decide (0≤i) && decide (i<(ws.length:Int)))=true:=by simp;omega
   rw[e]at nu
   have aw:=b4W h0 h1
   generalize hv:wAt ws i=v at *
   obtain⟨x,y,t⟩:=v
   by_cases h2:i∈told
   ·refine(b6i A2 F8 G8 _ _ _ i _ _ _ o nu gz1 (by rw[g2];exact decide_eq_true h2)).trans ?_
    simp[h2]
   ·have g3:o.isSome=false:=by rw[g2];exact decide_eq_false h2
    by_cases h3:b=true∧t=false
    ·obtain⟨rfl,rfl⟩:=h3
     refine(b6j A2 F8 G8 _ _ _ i x y _ _ o nu gz1 g3 aw).trans ?_
     simp
    ·have hb:b=false∨t=true:=by cases b<;>cases t<;>simp_all
     have si:=b3u (x,y,t) b (fun z=>by rcases hb with z' | z';rw[z]at z';cases z';exact z')
     refine(b6k A2 F8 G8 _ q.a q.b q.c q.d _ i x y t b _ _ _ _ o nu gz1 g3 aw hb si (b1S false _ (q.c-q.a,q.d-q.b))).trans ?_
     have n3:(b && !t)=false:=by rcases hb with rfl | rfl<;>simp
     simp only[h0,h1,h2,n3,decide_false,Bool.false_or,if_false,Bool.false_eq_true,ne_eq,decide_not,Bool.not_not]
noncomputable abbrev efB(GN GT:Bool→D→D→Option D):SF:=(d6 (j9 4 (eB c7 (eV 2) (eC (.int 1)))) (d6 (n6 (bOr (bZ (eB gLt (eV 4) (eC (.int 0)))) (bOr (bZ (eB gGe (eV 4) (A4 u6 0))) (bZ (eBW (GN false) (eV 4) 3)))) (j5 (eC (.bl true))) t4) (d6 (n6 (M8 (bZ (eB c7 (eV 2) (eC (.int 2)))) (Q7 (bZ (eB c7 (k7 h9 0 (eV 4)) (eC (.int 2)))))) (j5 (eC (.bl true))) t4) (d6 (j9 5 (eB n9 (eB c7 (eV 1) (eC (.int 2))) (eB c7 (eV 1) (eC (.int 0))))) (d6 (j9 6 (eB n9 (eB c7 (eV 1) (eC (.int 3))) (eB c7 (eV 1) (eC (.int 1))))) (d6 (n6 (bZ (eB c7 (eV 2) (eC (.int 2)))) (j5 (eB (GT true) (eT (aC (eB c7 (k7 h9 0 (eV 4)) (eC (.int 1))) (aC (eB c7 (k7 h9 0 (eV 4)) (eC (.int 0))) aN))) (eT (aC (eV 5) (aC (eV 6) aN))))) t4) (j5 (eB (GT true) (eT (aC (eB c7 (k7 h9 0 (eV 4)) (eC (.int 0))) (aC (eB c7 (k7 h9 0 (eV 4)) (eC (.int 1))) aN))) (eT (aC (eV 5) (aC (eV 6) aN)))))))))))
theorem b4Z(GN GT:Bool→D→D→Option D)(W:List D)(q w:D)(i:Int)(b:D)(T:List D)(h1:i<0∨(¬i<0∧i≥(W.length:Int))):fD 7 4 (efB GN GT) [.lst W,q,.tup [w,.int i,b],.lst T]=some (.ret (.bl true)):=by
 unfold efB
 rcases h1 with h1 | ⟨h1,h2⟩<;>walk_at "eh"
theorem b6l(GN GT:Bool→D→D→Option D)(W:List D)(q w:D)(i:Int)(b:D)(T:List D)(h1:¬i<0)(h2:¬i≥(W.length:Int))(h3:GN false (.int i) (.lst T)=some (.bl true)):fD 7 4 (efB GN GT) [.lst W,q,.tup [w,.int i,b],.lst T]=some (.ret (.bl true)):=by
 unfold efB
 walk_at "eh"
theorem b6m(GN GT:Bool→D→D→Option D)(W:List D)(q w:D)(i x y:Int)(T:List D)(h1:¬i<0)(h2:¬i≥(W.length:Int))(h3:GN false (.int i) (.lst T)=some (.bl false))(a:atI W i=some (.tup [.int x,.int y,.bl false])):fD 7 4 (efB GN GT) [.lst W,q,.tup [w,.int i,.bl true],.lst T]=some (.ret (.bl true)):=by
 unfold efB
 walk_at "eh"
theorem b6n(GN GT:Bool→D→D→Option D)(W:List D)(qa qb qc qd:Int)(w:D)(i x y:Int)(t b e:Bool)(T:List D)(h1:¬i<0)(h2:¬i≥(W.length:Int))(h3:GN false (.int i) (.lst T)=some (.bl false))(a:atI W i=some (.tup [.int x,.int y,.bl t]))(hb:b=false∨t=true)(hg:GT true (.tup [.int (if b=true then y else x),.int (if b=true then x else y)]) (.tup [.int (qc-qa),.int (qd-qb)])=some (.bl e)) :
  fD 7 4 (efB GN GT) [.lst W,.tup [.int qa,.int qb,.int qc,.int qd],.tup [w,.int i,.bl b],.lst T]=some (.ret (.bl e)):=by
 unfold efB
 rcases hb with rfl | rfl
 ·simp only[Bool.false_eq_true,if_false]at hg
  walk_at "eh"
 ·cases b
  ·simp only[Bool.false_eq_true,if_false]at hg
   walk_at "eh"
  ·simp only[if_true]at hg
   walk_at "eh"
theorem b3v(ws:List W3)(q:Sp4)(i:Int)(b:Bool)(told:List Int):z7 [.lst (ws.map w3),sD q,.tup [.str "ware",.int i,.bl b],.lst (iI told)]=some (.ret (.bl (a1Z ws q i b told))):=by
 have lw:(ws.map w3).length=ws.length:=List.length_map ..
 unfold a1Z
 by_cases h0:i<0
 ·refine(b4Z X5 G8 _ _ _ i _ _ (.inl h0)).trans ?_
  simp[h0]
 ·by_cases h1:(ws.length:Int)≤i
  ·refine(b4Z X5 G8 _ _ _ i _ _ (.inr ⟨h0,by rw[lw];exact h1⟩)).trans ?_
   simp[h1]
  ·have aw:=b4W h0 h1
   generalize hv:wAt ws i=v at *
   obtain⟨x,y,t⟩:=v
   have gi:=b1R i told false
   by_cases h2:i∈told
   ·refine(b6l X5 G8 _ _ _ i _ _ h0 (by rw[lw];exact h1) (gi.trans (by simp[h2]))).trans ?_
    simp[h2]
   ·have g3:X5 false (.int i) (.lst (iI told))=some (.bl false):=gi.trans (by simp[h2])
    by_cases h3:b=true∧t=false
    ·obtain⟨rfl,rfl⟩:=h3
     refine(b6m X5 G8 _ _ _ i x y _ h0 (by rw[lw];exact h1) g3 aw).trans ?_
     simp
    ·have hb:b=false∨t=true:=by cases b<;>cases t<;>simp_all
     have es:=b1S true (if b=true then y else x,if b=true then x else y) (q.c-q.a,q.d-q.b)
     refine(b6n X5 G8 _ q.a q.b q.c q.d _ i x y t b _ _ h0 (by rw[lw];exact h1) g3 aw hb es).trans ?_
     have n3:(b && !t)=false:=by rcases hb with rfl | rfl<;>simp
     have e2:(if b=true then y else x,if b=true then x else y)=sdB (x,y,t) b:=by cases b<;>rfl
     rw[e2]
     simp only[h0,h1,h2,n3,decide_false,Bool.false_or,if_true,ne_eq,decide_not]
noncomputable abbrev pfB(IC CSD RW:List D→Option R1)(GE:D→D→Option D):SF:=(d6 (n6 (M8 (bZ (h8 IC (aC (eV 5) aN))) (bOr (bZ (eB gLt (eB c7 (eV 5) (eC (.int 1))) (eC (.int 1)))) (bZ (eB gGe (eB c7 (eV 5) (eC (.int 1))) (h8 CSD (aC (eV 4) (aC (eV 5) aN))))))) (j5 (eT (aC (eC (.str "cut")) (aC (eB c7 (eV 5) (eC (.int 1))) aN)))) t4) (n6 (bZ (eB (GE) (eB c7 (eV 5) (eC (.int 0))) (eC (.str "ware")))) (d6 (n6 (a1R (Q7 (bZ (a2L RW (aC (eV 1) (aC (eV 4) (aC (eV 5) (aC (eV 3) aN)))))))) (j5 (eT (aC (eC (.str "ware")) (aC (eB c7 (eV 5) (eC (.int 1))) aN)))) t4) (a5s 3 (eB c7 (eV 5) (eC (.int 1))) (eC (.bl true)))) t4))
abbrev C1(bx:D)(W:List D)(pl:D)(ks:DK)(vs:List D)(s4 s5 s6:Sl):DE:=[.fz bx,.fz (.lst W),.fz pl,.od ks vs,s4,s5,s6]
theorem b6o(IC CSD RW:List D→Option R1)(GE:D→D→Option D)(bx:D)(W:List D)(pl q s x y:D)(t sd:Int)(ks:DK)(vs:List D)(s6:Sl)(h1:IC [.tup [s,.int t,x,y]]=some (.ret (.bl true)))(h2:CSD [q,.tup [s,.int t,x,y]]=some (.ret (.int sd)))(hc:t<1∨(¬t<1∧t≥sd)) :
  pfB IC CSD RW GE (C1 bx W pl ks vs (.fz q) (.fz (.tup [s,.int t,x,y])) s6)=some (.rt (.tup [.str "cut",.int t])):=by
 unfold pfB C1
 rcases hc with hc | ⟨hc,hd⟩<;>walk_at "eh"
theorem b6p(IC CSD RW:List D→Option R1)(GE:D→D→Option D)(bx:D)(W:List D)(pl q s x y:D)(t sd:Int)(ks:DK)(vs:List D)(s6:Sl)(h1:IC [.tup [s,.int t,x,y]]=some (.ret (.bl true)))(h2:CSD [q,.tup [s,.int t,x,y]]=some (.ret (.int sd)))(hc:¬t<1)(hd:¬t≥sd)(hg:GE s (.str "ware")=some (.bl false)) :
  pfB IC CSD RW GE (C1 bx W pl ks vs (.fz q) (.fz (.tup [s,.int t,x,y])) s6)=some (.nx (C1 bx W pl ks vs (.fz q) (.fz (.tup [s,.int t,x,y])) s6)):=by
 unfold pfB C1
 walk_at "eh"
theorem b6q(IC CSD RW:List D→Option R1)(GE:D→D→Option D)(bx:D)(W:List D)(pl q s:D)(ks:DK)(vs:List D)(s6:Sl)(h1:IC [.tup [s]]=some (.ret (.bl false)))(hg:GE s (.str "ware")=some (.bl false)) :
  pfB IC CSD RW GE (C1 bx W pl ks vs (.fz q) (.fz (.tup [s])) s6)=some (.nx (C1 bx W pl ks vs (.fz q) (.fz (.tup [s])) s6)):=by
 unfold pfB C1
 walk_at "eh"
theorem b6r(IC CSD RW:List D→Option R1)(GE:D→D→Option D)(bx:D)(W:List D)(pl q s b:D)(i:Int)(ks:DK)(vs:List D)(s6:Sl)(h1:IC [.tup [s,.int i,b]]=some (.ret (.bl false)))(hg:GE s (.str "ware")=some (.bl true))(hr:RW [.lst W,q,.tup [s,.int i,b],.dic ks vs]=some (.ret (.bl false))) :
  pfB IC CSD RW GE (C1 bx W pl ks vs (.fz q) (.fz (.tup [s,.int i,b])) s6)=some (.rt (.tup [.str "ware",.int i])):=by
 unfold pfB C1
 walk_at "eh"
theorem b6s(IC CSD RW:List D→Option R1)(GE:D→D→Option D)(bx:D)(W:List D)(pl q s b:D)(i:Int)(ks:DK)(vs:List D)(kd:DK×List D)(s6:Sl)(h1:IC [.tup [s,.int i,b]]=some (.ret (.bl false)))(hg:GE s (.str "ware")=some (.bl true))(hr:RW [.lst W,q,.tup [s,.int i,b],.dic ks vs]=some (.ret (.bl true)))(hl:dkN ks<sizeLine)(hp:putD ks vs (.int i) (.bl true)=some kd) :
  pfB IC CSD RW GE (C1 bx W pl ks vs (.fz q) (.fz (.tup [s,.int i,b])) s6)=some (.nx (C1 bx W pl kd.1 kd.2 (.fz q) (.fz (.tup [s,.int i,b])) s6)):=by
 unfold pfB C1
 walk_at "eh"
theorem b1h(q:Sp4)(w:Bool)(t:Int)(x y:D):B3 [sD q,.tup [.str (wS w),.int t,x,y]]=some (.ret (.int (N3 q w))):=by
 obtain⟨a,b,c,d⟩:=q
 cases w<;>unfold B3 a4c sD wS N3<;>walk_at "ev" <;>rfl
theorem gws(w:Bool):i7 false (.str (wS w)) (.str "ware")=some (.bl false)∧i7 true (.str (wS w)) (.str "waste")=some (.bl true)∧i7 false (.str (wS w)) (.str "up")=some (.bl w):=by cases w<;>exact⟨rfl,rfl,rfl⟩
theorem b3w(bx pl:D)(ws:List W3)(told:List Int)(ht:told.length≤1000)(x:Np)(s6:Sl):pfB B0 B3 v5 (i7 false) (C1 bx (ws.map w3) pl (kT told) (vT told) (.fz (sD x.1)) (.fz (pD x.2)) s6)=match stF ws told x with
  | .inl d=>some (.rt d)
  | .inr t=>some (.nx (C1 bx (ws.map w3) pl (kT t) (vT t) (.fz (sD x.1)) (.fz (pD x.2)) s6)):=by
 obtain⟨q,X⟩:=x
 cases X with
 | en e =>
  cases e with
  | wa=>exact b6q B0 B3 v5 (i7 false) _ _ _ _ _ _ _ _ (a0V (.en .wa)) rfl
  | wr i b =>
   have hr:=b1g ws q i b told
   show _=match(if a1Z ws q i b told=true then(Sum.inl (D.tup [.str "ware",.int i]):Sum D (List Int))else .inr (told++[i]))with
    | .inl d=>some (RS.rt d)
    | .inr t=>some (RS.nx (C1 bx (ws.map w3) pl (kT t) (vT t) (.fz (sD q)) (.fz (pD (.en (.wr i b)))) s6))
   cases hb:a1Z ws q i b told with
   | true =>
    rw[hb]at hr
    exact b6r B0 B3 v5 (i7 false) _ _ _ _ _ _ _ _ _ _ (a0V (.en (.wr i b))) rfl hr
   | false =>
    rw[hb]at hr
    have ni:i ∉ told:=fun m=>by
     unfold a1Z at hb
     simp[m]at hb
    exact b6s B0 B3 v5 (i7 false) _ _ _ _ _ _ _ _ _ _ _ (a0V (.en (.wr i b))) rfl hr (by show(told.map _).length<2 ^ 24;rw[List.length_map];omega) (b5s told i ni)
 | ct w t l r =>
  have hs:=b1h q w t (pD l) (pD r)
  show _=match(if t<1∨N3 q w≤t then(Sum.inl (D.tup [.str "cut",.int t]):Sum D (List Int))else .inr told)with
   | .inl d=>some (RS.rt d)
   | .inr t'=>some (RS.nx (C1 bx (ws.map w3) pl (kT t') (vT t') (.fz (sD q)) (.fz (pD (.ct w t l r))) s6))
  by_cases h:t<1∨N3 q w≤t
  ·rw[if_pos h]
   refine b6o B0 B3 v5 (i7 false) _ _ _ _ _ _ _ t _ _ _ _ (a0V (.ct w t l r)) hs ?_
   by_cases z:t<1
   ·exact .inl z
   ·exact .inr ⟨z,by rcases h with h | h;exact absurd h z;exact h⟩
  ·rw[if_neg h]
   exact b6p B0 B3 v5 (i7 false) _ _ _ _ _ _ _ t _ _ _ _ (a0V (.ct w t l r)) hs (fun z=>h (.inl z)) (fun z=>h (.inr z)) (gws w).1
theorem b3x{ws:List W3}{told t:List Int}{x:Np}(h:stF ws told x=.inr t):t.length≤told.length+1:=by
 unfold stF at h
 split at h
 ·split at h
  ·cases h
  ·cases h;omega
 ·cases h;omega
 ·split at h
  ·cases h
  ·cases h;rw[List.length_append,List.length_singleton];omega
theorem a7E(bx pl:D)(ws:List W3)(s6:Sl):∀(L:List Np) (told:List Int) (o4 o5:Option D),told.length+L.length≤1000→match W9 ws L told with
  | .inl d=>B9 (K2 [(g9 4),(g9 5)]) (pfB B0 B3 v5 (i7 false)) (L.map O6) (C1 bx (ws.map w3) pl (kT told) (vT told) (un o4) (un o5) s6)=some (.rt d)
  | .inr t=>∃p4 p5,B9 (K2 [(g9 4),(g9 5)]) (pfB B0 B3 v5 (i7 false)) (L.map O6) (C1 bx (ws.map w3) pl (kT told) (vT told) (un o4) (un o5) s6)=some (.nx (C1 bx (ws.map w3) pl (kT t) (vT t) (un p4) (un p5) s6))
 | [],told,o4,o5,_=>⟨o4,o5,rfl⟩
 | x::L,told,o4,o5,hl=>by
  rw[List.length_cons]at hl
  have hb:K2 [(g9 4),(g9 5)] (O6 x) (C1 bx (ws.map w3) pl (kT told) (vT told) (un o4) (un o5) s6)=some (C1 bx (ws.map w3) pl (kT told) (vT told) (.fz (sD x.1)) (.fz (pD x.2)) s6):=by cases o4<;>cases o5<;>rfl
  have st:=b3w bx pl ws told '!' x s6
  unfold W9
  rw[List.map_cons,R9,hb,D2,st]
  cases hs:stF ws told x with
  | inl d=>exact rfl
  | inr t =>
   have:=b3x hs
   exact a7E bx pl ws s6 L t (some (sD x.1)) (some (pD x.2)) '!'
noncomputable abbrev lfB(EF PA:List D→Option R1)(GE:Bool→D→D→Option D):SF:=(d6 (a1a (a0h 3) (K2 [(g9 5),(g9 6)])) (n6 (bZ (eB (GE false) (eB c7 (eV 6) (eC (.int 0))) (eC (.str "ware")))) (d6 (n6 (a1R (bZ (h8 EF (aC (eV 1) (aC (eV 5) (aC (eV 6) (aC (eV 4) aN))))))) (j5 (eT (aC (eC (.str "ware")) (aC (eB c7 (eV 6) (eC (.int 1))) aN)))) t4) (D5 4 (eB c7 (eV 6) (eC (.int 1))))) (n6 (bZ (eB (GE true) (eB c7 (eV 6) (eC (.int 0))) (eC (.str "waste")))) (d6 (j9 7 (X1 (g1 a0q) (aC (eB (GE false) (eB c7 (eV 6) (eC (.int 0))) (eC (.str "up"))) aN))) (d6 (n6 (Q7 (bZ (a31 gLe gLt (eC (.int 1)) (eB c7 (eV 6) (eC (.int 1))) (eB n9 (eB c7 (eV 5) (eB v8 (eV 7) (eC (.int 2)))) (eB c7 (eV 5) (eV 7)))))) (j5 (eT (aC (eC (.str "cut")) (aC (eB c7 (eV 6) (eC (.int 1))) aN)))) t4) (d6 (T7 8 PA (aC (eV 5) (aC (eV 7) (aC (eB c7 (eV 6) (eC (.int 1))) aN)))) (d6 (D5 3 (eT (aC (eB c7 (eV 8) (eC (.int 1))) (aC (eB c7 (eV 6) (eC (.int 3))) aN)))) (D5 3 (eT (aC (eB c7 (eV 8) (eC (.int 0))) (aC (eB c7 (eV 6) (eC (.int 2))) aN)))))))) t4)))
abbrev E8(bx:D)(W:List D)(pl:D)(Z T:List D)(s5 s6 s7 s8 s9:Sl):DE:=[.fz bx,.fz (.lst W),.fz pl,.ow Z,.ow T,s5,s6,s7,s8,s9]
theorem b6t(EF PA:List D→Option R1)(GE:Bool→D→D→Option D)(bx:D)(W:List D)(pl:D)(Z A T:List D)(q s b:D)(i:Int)(o5 o6:Option D)(s7 s8 s9:Sl)(z1:Z.getLast? = some (.tup [q,.tup [s,.int i,b]]))(z2:Z.dropLast=A)(gz1:GE false s (.str "ware")=some (.bl true))(he:EF [.lst W,q,.tup [s,.int i,b],.lst T]=some (.ret (.bl true))) :
  lfB EF PA GE (E8 bx W pl Z T (un o5) (un o6) s7 s8 s9)=some (.rt (.tup [.str "ware",.int i])):=by
 unfold lfB E8
 walk_at "eh"
theorem b6u(EF PA:List D→Option R1)(GE:Bool→D→D→Option D)(bx:D)(W:List D)(pl:D)(Z A T:List D)(q s b:D)(i:Int)(o5 o6:Option D)(s7 s8 s9:Sl)(z1:Z.getLast? = some (.tup [q,.tup [s,.int i,b]]))(z2:Z.dropLast=A)(gz1:GE false s (.str "ware")=some (.bl true))(he:EF [.lst W,q,.tup [s,.int i,b],.lst T]=some (.ret (.bl false)))(hl:T.length<sizeLine) :
  lfB EF PA GE (E8 bx W pl Z T (un o5) (un o6) s7 s8 s9)=some (.nx (E8 bx W pl A (T++[.int i]) (.fz q) (.fz (.tup [s,.int i,b])) s7 s8 s9)):=by
 unfold lfB E8
 walk_at "eh"
theorem b6v(EF PA:List D→Option R1)(GE:Bool→D→D→Option D)(bx:D)(W:List D)(pl:D)(Z A T:List D)(q s:D)(o5 o6:Option D)(s7 s8 s9:Sl)(z1:Z.getLast? = some (.tup [q,.tup [s]]))(z2:Z.dropLast=A)(gz1:GE false s (.str "ware")=some (.bl false))(g2:GE true s (.str "waste")=some (.bl false)) :
  lfB EF PA GE (E8 bx W pl Z T (un o5) (un o6) s7 s8 s9)=some (.nx (E8 bx W pl A T (.fz q) (.fz (.tup [s])) s7 s8 s9)):=by
 unfold lfB E8
 walk_at "eh"
theorem b6w(EF PA:List D→Option R1)(GE:Bool→D→D→Option D)(bx:D)(W:List D)(pl:D)(Z A T:List D)(q:Sp4)(s x y:D)(w:Bool)(t:Int)(o5 o6 o7:Option D)(s8 s9:Sl)(z1:Z.getLast? = some (.tup [sD q,.tup [s,.int t,x,y]]))(z2:Z.dropLast=A)(gz1:GE false s (.str "ware")=some (.bl false))(g2:GE true s (.str "waste")=some (.bl true))(g3:GE false s (.str "up")=some (.bl w))(hc:t<1∨N3 q w≤t) :
  lfB EF PA GE (E8 bx W pl Z T (un o5) (un o6) (un o7) s8 s9)=some (.rt (.tup [.str "cut",.int t])):=by
 obtain⟨qa,qb,qc,qd⟩:=q
 unfold lfB E8
 unfold sD at z1
 by_cases h:(1:Int)≤t
 ·cases w
  ·have hs:¬t<qc-qa:=by unfold N3 at hc;simp at hc;omega
   clear hc
   have i1:atI [D.int qa,.int qb,.int qc,.int qd] (0+2)=some (.int qc):=rfl
   have i2:atI [D.int qa,.int qb,.int qc,.int qd] 0=some (.int qa):=rfl
   walk_at "eh"
  ·have hs:¬t<qd-qb:=by unfold N3 at hc;simp at hc;omega
   clear hc
   have i1:atI [D.int qa,.int qb,.int qc,.int qd] (1+2)=some (.int qd):=rfl
   have i2:atI [D.int qa,.int qb,.int qc,.int qd] 1=some (.int qb):=rfl
   walk_at "eh"
 ·clear hc
  cases w
  ·have i1:atI [D.int qa,.int qb,.int qc,.int qd] (0+2)=some (.int qc):=rfl
   have i2:atI [D.int qa,.int qb,.int qc,.int qd] 0=some (.int qa):=rfl
   walk_at "eh"
  ·have i1:atI [D.int qa,.int qb,.int qc,.int qd] (1+2)=some (.int qd):=rfl
   have i2:atI [D.int qa,.int qb,.int qc,.int qd] 1=some (.int qb):=rfl
   walk_at "eh"
theorem b6x(EF PA:List D→Option R1)(GE:Bool→D→D→Option D)(bx:D)(W:List D)(pl:D)(Z A T:List D)(q:Sp4)(s x y q1 q2:D)(w:Bool)(t:Int)(o5 o6 o7 o8:Option D)(s9:Sl)(z1:Z.getLast? = some (.tup [sD q,.tup [s,.int t,x,y]]))(z2:Z.dropLast=A)(gz1:GE false s (.str "ware")=some (.bl false))(g2:GE true s (.str "waste")=some (.bl true))(g3:GE false s (.str "up")=some (.bl w))(h0:1≤t)(h1:t<N3 q w)
  (hp:PA [sD q,.int (wI w),.int t]=some (.ret (.tup [q1,q2]))) (l1:A.length<sizeLine) (l2:(A++[D.tup [q2,y]]).length<sizeLine) :
  lfB EF PA GE (E8 bx W pl Z T (un o5) (un o6) (un o7) (un o8) s9)=some (.nx (E8 bx W pl (A++[.tup [q2,y]]++[.tup [q1,x]]) T (.fz (sD q)) (.fz (.tup [s,.int t,x,y])) (.fz (.int (wI w))) (.fz (.tup [q1,q2])) s9)):=by
 obtain⟨qa,qb,qc,qd⟩:=q
 unfold lfB E8
 unfold sD at z1 hp ⊢
 cases w
 ·have hs:t<qc-qa:=by unfold N3 at h1;simpa using h1
  unfold wI at hp ⊢
  simp only[Bool.false_eq_true,if_false]at hp ⊢
  clear h1
  have i1:atI [D.int qa,.int qb,.int qc,.int qd] (0+2)=some (.int qc):=rfl
  have i2:atI [D.int qa,.int qb,.int qc,.int qd] 0=some (.int qa):=rfl
  walk_at "eh"
 ·have hs:t<qd-qb:=by unfold N3 at h1;simpa using h1
  unfold wI at hp ⊢
  simp only[if_true]at hp ⊢
  clear h1
  have i1:atI [D.int qa,.int qb,.int qc,.int qd] (1+2)=some (.int qd):=rfl
  have i2:atI [D.int qa,.int qb,.int qc,.int qd] 1=some (.int qb):=rfl
  walk_at "eh"
theorem a4M{c:BF}{body:SF}{f:Nat}{e e1 e2:DE}(h1:c e=some (.ok true e1))(h2:body e1=some (.nx e2)):E7 c body (f+1) e=E7 c body f e2:=by
 rw[E7,h1,V9,if_pos rfl,h2]
theorem a7F{c:BF}{body:SF}{f:Nat}{e e1:DE}{d:D}(h1:c e=some (.ok true e1))(h2:body e1=some (.rt d)):E7 c body (f+1) e=some (.rt d):=by
 rw[E7,h1,V9,if_pos rfl,h2]
theorem a4g(bx pl:D)(ws:List W3)(s9:Sl):∀(fuel:Nat) (st:List Np) (told:List Int) (o5 o6 o7 o8:Option D),J3 st<fuel→told.length+J3 st≤1000→match W9 ws (fm st) told with
  | .inl d=>E7 wcB (lfB z7 y8 i7) fuel (E8 bx (ws.map w3) pl (st.map O6) (iI told) (un o5) (un o6) (un o7) (un o8) s9)=some (.rt d)
  | .inr t=>∃p5 p6 p7 p8,E7 wcB (lfB z7 y8 i7) fuel (E8 bx (ws.map w3) pl (st.map O6) (iI told) (un o5) (un o6) (un o7) (un o8) s9)=some (.nx (E8 bx (ws.map w3) pl [] (iI t) (un p5) (un p6) (un p7) (un p8) s9))
 | 0,_,_,_,_,_,_,h,_=>absurd h (Nat.not_lt_zero _)
 | fuel+1,st,told,o5,o6,o7,o8,hf,hl=>by
  rcases List.eq_nil_or_concat st with rfl | ⟨st',x,rfl⟩
  ·refine⟨o5,o6,o7,o8,?_⟩
   have h1:wcB (E8 bx (ws.map w3) pl (([]:List Np).map O6) (iI told) (un o5) (un o6) (un o7) (un o8) s9)=some (.ok false (E8 bx (ws.map w3) pl [] (iI told) (un o5) (un o6) (un o7) (un o8) s9)):=rfl
   rw[E7,h1]
   rfl
  ·rw[List.concat_eq_append]at *
   obtain⟨z1,z2⟩:=a7B st' x
   rw[G6]at hf hl
   have hst:=b1O st'
   have hc:decide ((((st'++[x]).map O6).length:Int) > 0)=true:=decide_eq_true (by rw[List.length_map,List.length_append];show((_+1:Nat):Int) > 0;omega)
   have c1:wcB (E8 bx (ws.map w3) pl ((st'++[x]).map O6) (iI told) (un o5) (un o6) (un o7) (un o8) s9)=some (.ok true (E8 bx (ws.map w3) pl ((st'++[x]).map O6) (iI told) (un o5) (un o6) (un o7) (un o8) s9)):=(a5w _ _ _ _ _).trans (by rw[hc])
   rw[a1p]
   obtain⟨q,X⟩:=x
   cases X with
   | en e =>
    have hf:J3 st'+1<fuel+1:=hf
    have hl:told.length+(J3 st'+1)≤1000:=hl
    show match W9 ws ((q,Pl.en e)::fm st') told with
     | .inl d=>_
     | .inr t=>_
    unfold W9
    cases e with
    | wa =>
     have b1:=b6v z7 y8 i7 bx (ws.map w3) pl _ _ (iI told) (sD q) (.str "waste") o5 o6 (un o7) (un o8) s9 z1 z2 rfl rfl
     have st1:stF ws told (q,.en .wa)=.inr told:=rfl
     rw[st1,a4M c1 b1]
     exact a4g bx pl ws s9 fuel st' told (some (sD q)) (some (pD (.en .wa))) o7 o8 '!' '!'
    | wr i b =>
     have he:=b3v ws q i b told
     cases hb:a1Z ws q i b told with
     | true =>
      rw[hb]at he
      have b1:=b6t z7 y8 i7 bx (ws.map w3) pl _ _ (iI told) (sD q) (.str "ware") (.bl b) i o5 o6 (un o7) (un o8) s9 z1 z2 rfl he
      have st1:stF ws told (q,.en (.wr i b))=.inl (.tup [.str "ware",.int i]):=if_pos hb
      rw[st1,a7F c1 b1]
     | false =>
      rw[hb]at he
      have b1:=b6u z7 y8 i7 bx (ws.map w3) pl _ _ (iI told) (sD q) (.str "ware") (.bl b) i o5 o6 (un o7) (un o8) s9 z1 z2 rfl he (by rw[List.length_map];show _<2 ^ 24;omega)
      have st1:stF ws told (q,.en (.wr i b))=.inr (told++[i]):=if_neg (by rw[hb];exact Bool.false_ne_true)
      have ei:iI told++[.int i]=iI (told++[i]):=by unfold iI;rw[List.map_append];rfl
      rw[ei]at b1
      rw[st1,a4M c1 b1]
      exact a4g bx pl ws s9 fuel st' (told++[i]) (some (sD q)) (some (pD (.en (.wr i b)))) o7 o8 '!' (by rw[List.length_append,List.length_singleton];omega)
   | ct w t l r =>
    have hf:J3 st'+(1+(psz l+psz r))<fuel+1:=hf
    have hl:told.length+(J3 st'+(1+(psz l+psz r)))≤1000:=hl
    have lz:(st'.map O6).length<sizeLine:=by rw[List.length_map];show _<2 ^ 24;omega
    show match W9 ws ((q,Pl.ct w t l r)::(A8 (pL q w t) l++A8 (pR q w t) r)++fm st') told with
     | .inl d=>_
     | .inr t=>_
    rw[List.cons_append]
    unfold W9
    by_cases h:t<1∨N3 q w≤t
    ·have b1:=b6w z7 y8 i7 bx (ws.map w3) pl _ _ (iI told) q (.str (wS w)) (pD l) (pD r) w t o5 o6 o7 (un o8) s9 z1 z2 (gws w).1 (gws w).2.1 (gws w).2.2 h
     have st1:stF ws told (q,.ct w t l r)=.inl (.tup [.str "cut",.int t]):=if_pos h
     rw[st1,a7F c1 b1]
    ·have b1:=b6x z7 y8 i7 bx (ws.map w3) pl _ _ (iI told) q (.str (wS w)) (pD l) (pD r) _ _ w t o5 o6 o7 o8 s9 z1 z2 (gws w).1 (gws w).2.1 (gws w).2.2 '!' '!' (a6p q w t) lz (by rw[List.length_append,List.length_map];show _+1<2 ^ 24;omega)
     have st1:stF ws told (q,.ct w t l r)=.inr told:=if_neg h
     have ez:st'.map O6++[.tup [sD (pR q w t),pD r]]++[.tup [sD (pL q w t),pD l]]=(st'++[(pR q w t,r)]++[(pL q w t,l)]).map O6:=by rw[List.map_append,List.map_append];rfl
     rw[ez]at b1
     rw[st1,a4M c1 b1]
     have ef:A8 (pL q w t) l++A8 (pR q w t) r++fm st'=fm (st'++[(pR q w t,r)]++[(pL q w t,l)]):=by rw[a1p,a1p,List.append_assoc]
     have:=a4g bx pl ws s9 fuel (st'++[(pR q w t,r)]++[(pL q w t,l)]) told (some (sD q)) (some (pD (.ct w t l r))) (some (.int (wI w))) (some (.tup [sD (pL q w t),sD (pR q w t)])) (by rw[G6,G6];show J3 st'+psz r+psz l<fuel;omega) (by rw[G6,G6];show _+(J3 st'+psz r+psz l)≤_;omega)
     rw[← ef]at this
     exact this
theorem a10:∀(P:Pl) (q:Sp4),(A8 q P).length=psz P
 | .en _,_=>rfl
 | .ct w t l r,q=>by
  show(_::(A8 (pL q w t) l++A8 (pR q w t) r)).length=1+(psz l+psz r)
  rw[List.length_cons,List.length_append,a10 l,a10 r]
  omega
def T5:List Nat→List Int→Option Nat
 | [],_=>none
 | k::l,t=>if(k:Int)∈t then T5 l t else some k
def lkD(k:Nat):D:=.tup [.str "lacks",.int (k:Int)]
abbrev plL:SF:=(n6 (bZ (a8v (eV 6) 3)) (j5 (eT (aC (eC (.str "lacks")) (aC (eV 6) aN)))) t4)
abbrev llL(GN:Bool→D→D→Option D):SF:=(n6 (bZ (eBW (GN true) (eV 9) 4)) (j5 (eT (aC (eC (.str "lacks")) (aC (eV 9) aN)))) t4)
theorem b6y(bx:D)(W:List D)(pl:D)(ks:DK)(vs:List D)(s4 s5:Sl)(k:Int)(o:Option D)(h:a0Q ks vs (.int k)=some o)(h2:o.isSome=true):plL (C1 bx W pl ks vs s4 s5 (.fz (.int k)))=some (.nx (C1 bx W pl ks vs s4 s5 (.fz (.int k)))):=by
 unfold plL C1
 walk_at "eh"
theorem b6z(bx:D)(W:List D)(pl:D)(ks:DK)(vs:List D)(s4 s5:Sl)(k:Int)(o:Option D)(h:a0Q ks vs (.int k)=some o)(h2:o.isSome=false):plL (C1 bx W pl ks vs s4 s5 (.fz (.int k)))=some (.rt (.tup [.str "lacks",.int k])):=by
 unfold plL C1
 walk_at "eh"
theorem b6A(GN:Bool→D→D→Option D)(bx:D)(W:List D)(pl:D)(Z T:List D)(s5 s6 s7 s8:Sl)(k:Int)(h:GN true (.int k) (.lst T)=some (.bl false)):llL GN (E8 bx W pl Z T s5 s6 s7 s8 (.fz (.int k)))=some (.nx (E8 bx W pl Z T s5 s6 s7 s8 (.fz (.int k)))):=by
 unfold llL E8
 walk_at "eh"
theorem b6B(GN:Bool→D→D→Option D)(bx:D)(W:List D)(pl:D)(Z T:List D)(s5 s6 s7 s8:Sl)(k:Int)(h:GN true (.int k) (.lst T)=some (.bl true)):llL GN (E8 bx W pl Z T s5 s6 s7 s8 (.fz (.int k)))=some (.rt (.tup [.str "lacks",.int k])):=by
 unfold llL E8
 walk_at "eh"
theorem a7G(bx:D)(W:List D)(pl:D)(t:List Int)(s4 s5:Sl):∀(l:List Nat) (o6:Option D),match T5 l t with
  | some k=>B9 (g9 6) plL (l.map fun(k:Nat)=>D.int (k:Int)) (C1 bx W pl (kT t) (vT t) s4 s5 (un o6))=some (.rt (lkD k))
  | none=>∃p6,B9 (g9 6) plL (l.map fun(k:Nat)=>D.int (k:Int)) (C1 bx W pl (kT t) (vT t) s4 s5 (un o6))=some (.nx (C1 bx W pl (kT t) (vT t) s4 s5 (un p6)))
 | [],o6=>⟨o6,rfl⟩
 | k::l,o6=>by
  have hb:g9 6 (.int (k:Int)) (C1 bx W pl (kT t) (vT t) s4 s5 (un o6))=some (C1 bx W pl (kT t) (vT t) s4 s5 (.fz (.int (k:Int)))):=by cases o6<;>rfl
  obtain⟨o,gz1,g2⟩:=b1Q t (k:Int)
  unfold T5
  rw[List.map_cons,R9,hb,D2]
  by_cases z:(k:Int)∈t
  ·rw[if_pos z,b6y bx W pl _ _ s4 s5 k o gz1 (by rw[g2];exact decide_eq_true z),a1k]
   exact a7G bx W pl t s4 s5 l (some (.int (k:Int)))
  ·rw[if_neg z,b6z bx W pl _ _ s4 s5 k o gz1 (by rw[g2];exact decide_eq_false z),a4r]
   rfl
theorem a7H(bx:D)(W:List D)(pl:D)(Z:List D)(t:List Int)(s5 s6 s7 s8:Sl):∀(l:List Nat) (o9:Option D),match T5 l t with
  | some k=>B9 (g9 9) (llL X5) (l.map fun(k:Nat)=>D.int (k:Int)) (E8 bx W pl Z (iI t) s5 s6 s7 s8 (un o9))=some (.rt (lkD k))
  | none=>∃p9,B9 (g9 9) (llL X5) (l.map fun(k:Nat)=>D.int (k:Int)) (E8 bx W pl Z (iI t) s5 s6 s7 s8 (un o9))=some (.nx (E8 bx W pl Z (iI t) s5 s6 s7 s8 (un p9)))
 | [],o9=>⟨o9,rfl⟩
 | k::l,o9=>by
  have hb:g9 9 (.int (k:Int)) (E8 bx W pl Z (iI t) s5 s6 s7 s8 (un o9))=some (E8 bx W pl Z (iI t) s5 s6 s7 s8 (.fz (.int (k:Int)))):=by cases o9<;>rfl
  have gi:=b1R (k:Int) t true
  unfold T5
  rw[List.map_cons,R9,hb,D2]
  by_cases z:(k:Int)∈t
  ·rw[if_pos z,b6A X5 bx W pl Z _ s5 s6 s7 s8 k (gi.trans (by simp[z])),a1k]
   exact a7H bx W pl Z t s5 s6 s7 s8 l (some (.int (k:Int)))
  ·rw[if_neg z,b6B X5 bx W pl Z _ s5 s6 s7 s8 k (gi.trans (by simp[z])),a4r]
   rfl
def a3t(ws:List W3)(L:List Np):D:=match W9 ws L []with
 | .inl d=>d
 | .inr t=>match T5 (List.range ws.length) t with
  | some k=>lkD k
  | none=>.non
theorem b6C(NO:List D→Option R1)(PB LL:SF)(bx:D)(W:List D)(pl d:D)(L:List D)(h1:NO [bx,pl]=some (.own L))(h2:B9 (K2 [(g9 4),(g9 5)]) PB L (C1 bx W pl (.inl []) [] .no .no .no)=some (.rt d)):fD 7 3 (d6 (a38 3 a37) (d6 (a0J (h8 NO (aC (eV 0) (aC (eV 2) aN)))  (K2 [(g9 4),(g9 5)]) PB) (d6 LL (j5 (eC .non))))) [bx,.lst W,pl]=some (.ret d):=by
 have e:(a0J (h8 NO (aC (eV 0) (aC (eV 2) aN)))  (K2 [(g9 4),(g9 5)]) PB) (C1 bx W pl (.inl []) [] .no .no .no)=some (.rt d):=by
  unfold a0J
  have:(h8 NO (aC (eV 0) (aC (eV 2) aN))) (C1 bx W pl (.inl []) [] .no .no .no)=some (.ok (.lst L) (C1 bx W pl (.inl []) [] .no .no .no)):=by
   clear h2
   unfold C1
   walk_at "eh"
  rw[this,V9]
  exact h2
 unfold C1 at e
 generalize a0J (h8 NO (aC (eV 0) (aC (eV 2) aN)))  (K2 [(g9 4),(g9 5)]) PB=FF at *
 clear h2
 walk_at "eh"
theorem b40(NO:List D→Option R1)(PB LL:SF)(bx:D)(W:List D)(pl d:D)(L:List D)(e1:DE)(r:RS)(h1:NO [bx,pl]=some (.own L))(h2:B9 (K2 [(g9 4),(g9 5)]) PB L (C1 bx W pl (.inl []) [] .no .no .no)=some (.nx e1))(hl:LL e1=some r)(hr:r=.rt d∨(d=.non∧∃e2,r=.nx e2)):fD 7 3 (d6 (a38 3 a37) (d6 (a0J (h8 NO (aC (eV 0) (aC (eV 2) aN)))  (K2 [(g9 4),(g9 5)]) PB) (d6 LL (j5 (eC .non))))) [bx,.lst W,pl]=some (.ret d):=by
 have e:(a0J (h8 NO (aC (eV 0) (aC (eV 2) aN)))  (K2 [(g9 4),(g9 5)]) PB) (C1 bx W pl (.inl []) [] .no .no .no)=some (.nx e1):=by
  unfold a0J
  have:(h8 NO (aC (eV 0) (aC (eV 2) aN))) (C1 bx W pl (.inl []) [] .no .no .no)=some (.ok (.lst L) (C1 bx W pl (.inl []) [] .no .no .no)):=by
   clear h2 hl
   unfold C1
   walk_at "eh"
  rw[this,V9]
  exact h2
 unfold C1 at e
 generalize a0J (h8 NO (aC (eV 0) (aC (eV 2) aN)))  (K2 [(g9 4),(g9 5)]) PB=FF at *
 clear h2
 rcases hr with rfl | ⟨rfl,e2,rfl⟩<;>walk_at "eh"
theorem a5j(W H:Int)(ws:List W3)(hw:ws.length≤1000)(P:Pl)(hs:psz P≤1000):K5 [.tup [.int W,.int H],.lst (ws.map w3),pD P]=some (.ret (a3t ws (A8 ⟨0,0,W,H⟩ P))):=by
 have no:=b1f W H P hs
 have lp:=a7E (.tup [.int W,.int H]) (pD P) ws .no (A8 ⟨0,0,W,H⟩ P) [] none none (by rw[a10];show 0+_≤_;omega)
 unfold a3t
 cases hr:W9 ws (A8 ⟨0,0,W,H⟩ P) []with
 | inl d =>
  rw[hr]at lp
  exact b6C M3 _ (P4 P3 (aC (A4 u6 1) aN) (g9 6) plL) _ _ _ _ _ no lp
 | inr t =>
  rw[hr]at lp
  obtain⟨p4,p5,lp⟩:=lp
  have e0:(aC (A4 u6 1) aN) (C1 (.tup [.int W,.int H]) (ws.map w3) (pD P) (kT t) (vT t) (un p4) (un p5) .no)=some (.ok [.int ((ws.map w3).length:Int)] (C1 (.tup [.int W,.int H]) (ws.map w3) (pD P) (kT t) (vT t) (un p4) (un p5) .no)):=rfl
  rw[List.length_map]at e0
  have ll:=a7G (.tup [.int W,.int H]) (ws.map w3) (pD P) t (un p4) (un p5) (List.range ws.length) none
  show _=some (R1.ret (match T5 (List.range ws.length) t with | some k=>lkD k | none=>.non))
  cases hk:T5 (List.range ws.length) t with
  | some k =>
   rw[hk]at ll
   show _=some (R1.ret (lkD k))
   refine b40 M3 _ _ _ _ _ _ _ _ (.rt (lkD k)) no lp ?_ (.inl rfl)
   rw[V6 e0 (T8 hw),a1d]
   exact ll
  | none =>
   rw[hk]at ll
   obtain⟨p6,ll⟩:=ll
   show _=some (R1.ret D.non)
   refine b40 M3 _ _ _ _ _ _ _ _ (.nx (C1 (.tup [.int W,.int H]) (ws.map w3) (pD P) (kT t) (vT t) (un p4) (un p5) (un p6))) no lp ?_ (.inr ⟨rfl,_,rfl⟩)
   rw[V6 e0 (T8 hw),a1d]
   exact ll
theorem b6D(WL LL:SF)(w h:Int)(W:List D)(pl d:D)(hw:WL (E8 (.tup [.int w,.int h]) W pl [.tup [.tup [.int 0,.int 0,.int w,.int h],pl]] [] .no .no .no .no .no)=some (.rt d)):fD 10 3 (d6 (A5 3 (eL (aC (eT (aC (eT (aC (eC (.int 0)) (aC (eC (.int 0)) (aC (eB c7 (eV 0) (eC (.int 0))) (aC (eB c7 (eV 0) (eC (.int 1))) aN))))) (aC (eV 2) aN))) aN))) (d6 (A5 4 (eL aN)) (d6 WL (d6 LL (j5 (eC .non)))))) [.tup [.int w,.int h],.lst W,pl]=some (.ret d):=by
 unfold E8 at hw
 walk_at "eh"
theorem b41(WL LL:SF)(w h:Int)(W:List D)(pl d:D)(e1:DE)(r:RS)(hw:WL (E8 (.tup [.int w,.int h]) W pl [.tup [.tup [.int 0,.int 0,.int w,.int h],pl]] [] .no .no .no .no .no)=some (.nx e1))(hl:LL e1=some r)(hr:r=.rt d∨(d=.non∧∃e2,r=.nx e2)):fD 10 3 (d6 (A5 3 (eL (aC (eT (aC (eT (aC (eC (.int 0)) (aC (eC (.int 0)) (aC (eB c7 (eV 0) (eC (.int 0))) (aC (eB c7 (eV 0) (eC (.int 1))) aN))))) (aC (eV 2) aN))) aN))) (d6 (A5 4 (eL aN)) (d6 WL (d6 LL (j5 (eC .non)))))) [.tup [.int w,.int h],.lst W,pl]=some (.ret d):=by
 unfold E8 at hw
 rcases hr with rfl | ⟨rfl,e2,rfl⟩<;>walk_at "eh"
theorem a92(W H:Int)(ws:List W3)(hw:ws.length≤1000)(P:Pl)(hs:psz P≤1000):S0 [.tup [.int W,.int H],.lst (ws.map w3),pD P]=some (.ret (a3t ws (A8 ⟨0,0,W,H⟩ P))):=by
 have ef:fm [(⟨0,0,W,H⟩,P)]=A8 ⟨0,0,W,H⟩ P:=by unfold fm;simp
 have lp:=a4g (.tup [.int W,.int H]) (pD P) ws .no 1000000 [(⟨0,0,W,H⟩,P)] [] none none none none (by unfold J3;simp;omega) (by unfold J3;simp;omega)
 rw[ef]at lp
 unfold a3t
 cases hr:W9 ws (A8 ⟨0,0,W,H⟩ P) []with
 | inl d =>
  rw[hr]at lp
  exact b6D _ (P4 P3 (aC (A4 u6 1) aN) (g9 9) (llL X5)) W H _ _ _ lp
 | inr t =>
  rw[hr]at lp
  obtain⟨p5,p6,p7,p8,lp⟩:=lp
  have e0:(aC (A4 u6 1) aN) (E8 (.tup [.int W,.int H]) (ws.map w3) (pD P) [] (iI t) (un p5) (un p6) (un p7) (un p8) .no)=some (.ok [.int ((ws.map w3).length:Int)] (E8 (.tup [.int W,.int H]) (ws.map w3) (pD P) [] (iI t) (un p5) (un p6) (un p7) (un p8) .no)):=rfl
  rw[List.length_map]at e0
  have ll:=a7H (.tup [.int W,.int H]) (ws.map w3) (pD P) [] t (un p5) (un p6) (un p7) (un p8) (List.range ws.length) none
  show _=some (R1.ret (match T5 (List.range ws.length) t with | some k=>lkD k | none=>.non))
  cases hk:T5 (List.range ws.length) t with
  | some k =>
   rw[hk]at ll
   show _=some (R1.ret (lkD k))
   refine b41 _ _ W H _ _ _ _ (.rt (lkD k)) lp ?_ (.inl rfl)
   rw[V6 e0 (T8 hw),a1d]
   exact ll
  | none =>
   rw[hk]at ll
   obtain⟨p9,ll⟩:=ll
   show _=some (R1.ret D.non)
   refine b41 _ _ W H _ _ _ _ (.nx (E8 (.tup [.int W,.int H]) (ws.map w3) (pD P) [] (iI t) (un p5) (un p6) (un p7) (un p8) (un p9))) lp ?_ (.inr ⟨rfl,_,rfl⟩)
   rw[V6 e0 (T8 hw),a1d]
   exact ll
theorem ix5(x:Int)(h1:0≤x)(h2:x<5):∃pk:Int→Int→Int→Int→Int→Int,∀a b c d e:Int,c7 (.tup [.int a,.int b,.int c,.int d,.int e]) (.int x)=some (.int (pk a b c d e)):=by
 have:x=0∨x=1∨x=2∨x=3∨x=4:=by omega
 rcases this with rfl | rfl | rfl | rfl | rfl
 ·exact⟨fun a b c d e=>a,fun _ _ _ _ _=>rfl⟩
 ·exact⟨fun a b c d e=>b,fun _ _ _ _ _=>rfl⟩
 ·exact⟨fun a b c d e=>c,fun _ _ _ _ _=>rfl⟩
 ·exact⟨fun a b c d e=>d,fun _ _ _ _ _=>rfl⟩
 ·exact⟨fun a b c d e=>e,fun _ _ _ _ _=>rfl⟩
theorem ix7(x:Int)(h1:0≤x)(h2:x<7):∃pk:Int→Int→Int→Int→Int→Int→Int→Int,∀a b c d e f g:Int,c7 (.tup [.int a,.int b,.int c,.int d,.int e,.int f,.int g]) (.int x)=some (.int (pk a b c d e f g)):=by
 have:x=0∨x=1∨x=2∨x=3∨x=4∨x=5∨x=6:=by omega
 rcases this with rfl | rfl | rfl | rfl | rfl | rfl | rfl
 ·exact⟨fun a b c d e f g=>a,fun _ _ _ _ _ _ _=>rfl⟩
 ·exact⟨fun a b c d e f g=>b,fun _ _ _ _ _ _ _=>rfl⟩
 ·exact⟨fun a b c d e f g=>c,fun _ _ _ _ _ _ _=>rfl⟩
 ·exact⟨fun a b c d e f g=>d,fun _ _ _ _ _ _ _=>rfl⟩
 ·exact⟨fun a b c d e f g=>e,fun _ _ _ _ _ _ _=>rfl⟩
 ·exact⟨fun a b c d e f g=>f,fun _ _ _ _ _ _ _=>rfl⟩
 ·exact⟨fun a b c d e f g=>g,fun _ _ _ _ _ _ _=>rfl⟩
theorem b5t(GX:D→D→Option D)(c m x o k:Int)(pk:Int→Int→Int→Int→Int→Int)(hG:∀a b c d e:Int,GX (.tup [.int a,.int b,.int c,.int d,.int e]) (.int x)=some (.int (pk a b c d e)))(hx:c/4%5=x)(hk:c%4=k)(hm:0<(if m > 1 then m else 1))(hp:a09 10 20)(hq:(0:Int)<10 ^ (20:Int).toNat):∃o b,fD 5 3 (d6 (j9 3 (eB m7 (eV 1) (eC (.int 4)))) (d6 (j9 4 (eB GX (eT (aC (eU a0I (eC (.int 1))) (aC (eV 2) (aC (eB m7 (eB D4 (eV 1) (eC (.int 12))) (X1 W5 (aC (eC (.int 1)) (aC (eV 2) aN)))) (aC (eB v8 (eV 2) (eB m7 (eV 1) (eB W4 (eC (.int 10)) (eC (.int 20))))) (aC (eB n9 (eU a0I (eC (.int 2))) (eB m7 (eV 1) (eB W4 (eC (.int 10)) (eC (.int 20))))) aN)))))) (eB m7 (eB D4 (eV 1) (eC (.int 4))) (eC (.int 5))))) (d6 (n6 (bZ (eB (i7 false) (eB c7 (eV 0) (eC (.int 0))) (eC (.str "waste")))) (j5 (eT (aC (eC (.str "ware")) (aC (eV 4) (aC (eB (i7 false) (eV 3) (eC (.int 1))) aN))))) t4) (d6 (n6 (bZ (eB (i7 false) (eV 3) (eC (.int 0)))) (j5 (eT (aC (eC (.str "waste")) aN))) t4) (d6 (n6 (bZ (eB (i7 false) (eV 3) (eC (.int 1)))) (j5 (eT (aC (eC (.str "ware")) (aC (eB c7 (eV 0) (eC (.int 1))) (aC (a4n (eB c7 (eV 0) (eC (.int 2)))) aN))))) t4) (j5 (eT (aC (eC (.str "ware")) (aC (eV 4) (aC (eB c7 (eV 0) (eC (.int 2))) aN)))))))))) [.tup [.str "waste"],.int c,.int m]=some (.ret (.tup [.str "ware",.int o,.bl b])):=by
 refine⟨pk (-1) m (c/12%(if m > 1 then m else 1)) (m+c%10 ^ (20:Int).toNat) (-2-c%10 ^ (20:Int).toNat),decide (k=1),?_⟩
 walk_at "eh"
theorem b5u(GX:D→D→Option D)(c m x k i:Int)(b:Bool)(pk:Int→Int→Int→Int→Int→Int)(hG:∀a b c d e:Int,GX (.tup [.int a,.int b,.int c,.int d,.int e]) (.int x)=some (.int (pk a b c d e)))(hx:c/4%5=x)(hk:c%4=k)(hm:0<(if m > 1 then m else 1))(hp:a09 10 20)(hq:(0:Int)<10 ^ (20:Int).toNat):∃e:En,fD 5 3 (d6 (j9 3 (eB m7 (eV 1) (eC (.int 4)))) (d6 (j9 4 (eB GX (eT (aC (eU a0I (eC (.int 1))) (aC (eV 2) (aC (eB m7 (eB D4 (eV 1) (eC (.int 12))) (X1 W5 (aC (eC (.int 1)) (aC (eV 2) aN)))) (aC (eB v8 (eV 2) (eB m7 (eV 1) (eB W4 (eC (.int 10)) (eC (.int 20))))) (aC (eB n9 (eU a0I (eC (.int 2))) (eB m7 (eV 1) (eB W4 (eC (.int 10)) (eC (.int 20))))) aN)))))) (eB m7 (eB D4 (eV 1) (eC (.int 4))) (eC (.int 5))))) (d6 (n6 (bZ (eB (i7 false) (eB c7 (eV 0) (eC (.int 0))) (eC (.str "waste")))) (j5 (eT (aC (eC (.str "ware")) (aC (eV 4) (aC (eB (i7 false) (eV 3) (eC (.int 1))) aN))))) t4) (d6 (n6 (bZ (eB (i7 false) (eV 3) (eC (.int 0)))) (j5 (eT (aC (eC (.str "waste")) aN))) t4) (d6 (n6 (bZ (eB (i7 false) (eV 3) (eC (.int 1)))) (j5 (eT (aC (eC (.str "ware")) (aC (eB c7 (eV 0) (eC (.int 1))) (aC (a4n (eB c7 (eV 0) (eC (.int 2)))) aN))))) t4) (j5 (eT (aC (eC (.str "ware")) (aC (eV 4) (aC (eB c7 (eV 0) (eC (.int 2))) aN)))))))))) [.tup [.str "ware",.int i,.bl b],.int c,.int m]=some (.ret (eD e)):=by
 by_cases k0:k=0
 ·refine⟨.wa,?_⟩
  unfold eD
  subst k0
  walk_at "eh"
 ·by_cases k1:k=1
  ·refine⟨.wr i (!b),?_⟩
   unfold eD
   subst k1
   walk_at "eh"
  ·refine⟨.wr (pk (-1) m (c/12%(if m > 1 then m else 1)) (m+c%10 ^ (20:Int).toNat) (-2-c%10 ^ (20:Int).toNat)) b,?_⟩
   unfold eD
   walk_at "eh"
theorem a5k(e:En)(c m:Int):∃e':En,E9 [eD e,.int c,.int m]=some (.ret (eD e')):=by
 obtain⟨pk,hG⟩:=ix5 (c/4%5) '!' '!'
 have hm:0<(if m > 1 then m else 1):=by split<;>omega
 have hp:a09 10 20:=by decide
 have hq:(0:Int)<10 ^ (20:Int).toNat:=by decide
 cases e with
 | wa =>
  obtain⟨o,b,h⟩:=b5t c7 c m _ 0 _ pk hG rfl rfl hm hp hq
  exact⟨.wr o b,h⟩
 | wr i b=>exact b5u c7 c m _ _ i b pk hG rfl rfl hm hp hq
noncomputable abbrev spB(GI GS GX GE:D→D→Option D)(ES:List D→Option R1):UF:=(D0 (uS (j9 5 (eB m7 (eV 3) (A4 u6 1)))) (D0 (uS (j9 6 (eB v8 (eB D4 (eV 3) (eC (.int 64))) (eB m7 (eV 3) (eC (.int 64)))))) (D0 (uIf (bZ (eB GI (k7 h9 1 (eV 5)) (eC .non))) (D0 (a0R 2 (eV 5) (h8 ES (aC (k7 h9 2 (eV 5)) (aC (eV 6) (aC (eV 4) aN))))) a4F) uNx) (D0 (uS (j9 7 (k7 h9 1 (eV 5)))) (D0 (uS (j9 8 (eB c7 (eV 7) (eC (.int 0))))) (D0 (uS (j9 9 (eB m7 (eB D4 (eV 6) (eC (.int 7))) (eB W4 (eC (.int 10)) (eC (.int 41)))))) (D0 (uS (j9 10 (X1 (g1 a0q) (aC (eB (i7 false) (eV 8) (eC (.str "up"))) aN)))) (D0 (uS (j9 11 (eB n9 (eB GS (k7 h9 0 (eV 5)) (eB v8 (eV 10) (eC (.int 2)))) (eB GS (k7 h9 0 (eV 5)) (eV 10))))) (D0 (uS (j9 12 (eB GX (eT (aC (eB c7 (eV 7) (eC (.int 1))) (aC (eC (.int 0)) (aC (eB v8 (eB c7 (eV 7) (eC (.int 1))) (eC (.int 1))) (aC (eB n9 (eB c7 (eV 7) (eC (.int 1))) (eC (.int 1))) (aC (eV 9) (aC (eU a0I (eV 9)) (aC (eV 11) aN)))))))) (eB m7 (eV 6) (eC (.int 7)))))) (D0 (uS (n6 (bZ (eB GE (eB m7 (eV 6) (eC (.int 7))) (eC (.int 0)))) (j9 8 (eB c7 (eT (aC (eC (.str "up")) (aC (eC (.str "across")) aN))) (X1 (g1 a0q) (aC (eB (i7 false) (eV 8) (eC (.str "up"))) aN)))) t4)) (a0R 1 (eV 5) (eT (aC (eV 8) (aC (eV 12) (aC (eB c7 (eV 7) (eC (.int 2))) (aC (eB c7 (eV 7) (eC (.int 3))) aN))))))))))))))))
theorem b6E(GI GS GX GE:D→D→Option D)(ES:List D→Option R1)(A N E:List D)(c m k r:Int)(n:Nat)(x y:D)(h0:0<(N.length:Int))(ha:c%(N.length:Int)=k)(hr:c/64+c%64=r)(a1:atI N k=some .non)(g:GI .non .non=some (.bl true))(a2:atI E k=some x)(hE:ES [x,.int r,.int m]=some (.ret y))(ix:Q9 E.length k=some n):fU 13 (spB GI GS GX GE ES) [.fz (.lst A),.hd N,.hd E,.fz (.int c),.fz (.int m)]=some [.fz (.lst A),.hd N,.hd (E.set n y),.fz (.int c),.fz (.int m),.fz (.int k),.fz (.int r),.no,.no,.no,.no,.no,.no]:=by
 unfold spB
 walk_at "eh"
theorem b6F(GI GS GX GE:D→D→Option D)(ES:List D→Option R1)(A N E:List D)(c m k r t i j x q0 q1 q2 q3:Int)(n:Nat)(w z:Bool)(q:D)(pk:Int→Int→Int→Int→Int→Int→Int→Int)(h0:0<(N.length:Int))(ha:c%(N.length:Int)=k)(hr:c/64+c%64=r)(a1:atI N k=some (.tup [.str (wS w),.int t,.int i,.int j]))(g:GI (.tup [.str (wS w),.int t,.int i,.int j]) .non=some (.bl false))(hx:r%7=x)(hG:∀a b c d e f g:Int,GX (.tup [.int a,.int b,.int c,.int d,.int e,.int f,.int g]) (.int x)=some (.int (pk a b c d e f g)))(he:GE (.int x) (.int 0)=some (.bl z))(a2:atI A k=some q)(g0:GS q (.int 0)=some (.int q0))(gz1:GS q (.int 1)=some (.int q1))(g2:GS q (.int (0+2))=some (.int q2))(g3:GS q (.int (1+2))=some (.int q3))(ix:Q9 N.length k=some n)(hp:a09 10 41)(hq:(0:Int)<10 ^ (41:Int).toNat):∃(w':Bool) (t':Int) (rr:DE),fU 13 (spB GI GS GX GE ES) [.fz (.lst A),.hd N,.hd E,.fz (.int c),.fz (.int m)]=some (.fz (.lst A) :: .hd (N.set n (.tup [.str (wS w'),.int t',.int i,.int j])) :: .hd E :: .fz (.int c) :: .fz (.int m)::rr):=by
 have s1:wS true = "up" := rfl
 have s0:wS false = "across" := rfl
 refine⟨xor w z,pk t 0 (t+1) (t-1) (r/7%10 ^ (41:Int).toNat) (-(r/7%10 ^ (41:Int).toNat)) (if w=true then q3-q1 else q2-q0),?_⟩
 unfold spB
 have b1:(xor true true)=false:=rfl
 have b2:(xor true false)=true:=rfl
 have b3:(xor false true)=true:=rfl
 have b4:(xor false false)=false:=rfl
 refine⟨[.fz (.int k),.fz (.int r),.fz (.tup [.str (wS w),.int t,.int i,.int j]),.fz (.str (wS (xor w z))),.fz (.int (r/7%10 ^ (41:Int).toNat)),.fz (.int (if w=true then 1 else 0)),.fz (.int (if w=true then q3-q1 else q2-q0)),.fz (.int (pk t 0 (t+1) (t-1) (r/7%10 ^ (41:Int).toNat) (-(r/7%10 ^ (41:Int).toNat)) (if w=true then q3-q1 else q2-q0)))],?_⟩
 cases w<;>cases z<;>simp only[s0,s1]at a1 g<;>walk_at "eh"
def Tr.rel(k:Nat)(w:Bool)(t:Int):Tr→Tr
 | .lf i=>.lf i
 | .ct i w0 t0 l r=>.ct i (if i=k then w else w0) (if i=k then t else t0) (l.rel k w t) (r.rel k w t)
theorem a6u(k:Nat)(w:Bool)(t:Int):∀T:Tr,(T.rel k w t).ix=T.ix
 | .lf _=>rfl
 | .ct _ _ _ _ _=>rfl
theorem a1s(k:Nat)(w:Bool)(t:Int):∀T:Tr,(T.rel k w t).ids=T.ids
 | .lf _=>rfl
 | .ct i _ _ l r=>by
  show i::((l.rel k w t).ids++(r.rel k w t).ids)=i::(l.ids++r.ids)
  rw[a1s k w t l,a1s k w t r]
theorem a3u(k:Nat)(w:Bool)(t:Int):∀T:Tr,(T.rel k w t).subs=T.subs.map fun X=>X.rel k w t
 | .lf _=>rfl
 | .ct i w0 t0 l r=>by
  show _::((l.rel k w t).subs++(r.rel k w t).subs)=((Tr.ct i w0 t0 l r)::(l.subs++r.subs)).map _
  rw[a3u k w t l,a3u k w t r,List.map_cons,List.map_append]
  rfl
theorem TJ.rel{n:Nat}{T:Tr}{N:List D}(I:TJ n T N){k i j:Nat}{w0:Bool}{t0:Int}(h:N[k]? = some (nd w0 t0 i j))(w:Bool)(t:Int):TJ n (T.rel k w t) (N.set k (nd w t i j)):=by
 have hk:k<N.length:=by
  rcases Nat.lt_or_ge k N.length with h' | h'
  ·exact h'
  ·rw[List.getElem?_eq_none h']at h;cases h
 refine⟨by rw[List.length_set];exact I.lN,by rw[a1s];exact I.ndp,by rw[a1s];exact I.lt,by rw[a1s];exact I.ln,by rw[a6u];exact I.rt,?_⟩
 intro X m
 rw[a3u]at m
 obtain⟨Y,my,rfl⟩:=List.mem_map.mp m
 have:=I.nok Y my
 cases Y with
 | lf x =>
  have e:N[x]? = some .non:=this
  have ne:k≠x:=by rintro rfl;rw[h]at e;cases e
  show(N.set k _)[x]? = some .non
  rw[List.getElem?_set_ne ne]
  exact e
 | ct x w1 t1 l r =>
  obtain⟨e,e1,e2⟩:N[x]? = some (nd w1 t1 l.ix r.ix)∧x<l.ix∧x<r.ix:=this
  show(N.set k _)[x]? = some (nd _ _ (l.rel k w t).ix (r.rel k w t).ix)∧x<(l.rel k w t).ix∧x<(r.rel k w t).ix
  rw[a6u,a6u]
  refine⟨?_,e1,e2⟩
  by_cases z:x=k
  ·subst z
   rw[if_pos rfl,if_pos rfl,List.getElem?_set_self hk]
   rw[h]at e
   have e:=Option.some.inj e
   unfold nd at e
   injection e with e
   injection e with _ e
   injection e with _ e
   injection e with a e
   injection e with b _
   injection a with a
   injection b with b
   rw[Int.ofNat.inj a,Int.ofNat.inj b]
  ·rw[if_neg z,if_neg z,List.getElem?_set_ne (Ne.symm z)]
   exact e
theorem TJ.at{n:Nat}{T:Tr}{N:List D}(I:TJ n T N){k:Nat}(hk:k<n):N[k]? = some .non∨∃w t i j,N[k]? = some (nd w t i j):=by
 obtain⟨X,m,e⟩:=a2U (a9Y I.ndp (by rw[I.ln];exact I.lt) (by rw[I.ln];exact hk))
 have:=I.nok X m
 cases X with
 | lf x=>cases e;exact .inl this
 | ct x w t l r=>cases e;exact .inr ⟨_,_,_,_,this.1⟩
theorem a0W{α:Type}(f:α→D){L:List α}{k:Nat}(h:k<L.length):atI (L.map f) (k:Int)=some (f L[k]):=by
 rw[a8L (by rw[List.length_map];exact h),List.getElem_map]
theorem a93{n:Nat}{T:Tr}{N:List D}(I:TJ n T N)(h0:0<n)(S:List Sp4)(hS:S.length=n)(L:List En)(hL:L.length=n)(c m:Int):∃(T':Tr) (N':List D) (L':List En) (r:DE),TJ n T' N'∧L'.length=n∧J2 [.fz (.lst (S.map sD)),.hd N,.hd (L.map eD),.fz (.int c),.fz (.int m)]=some (.fz (.lst (S.map sD)) :: .hd N' :: .hd (L'.map eD) :: .fz (.int c) :: .fz (.int m)::r):=by
 obtain⟨k,hk⟩:∃k:Nat,c%(N.length:Int)=(k:Int):=⟨(c%(N.length:Int)).toNat,(Int.toNat_of_nonneg (Int.emod_nonneg _ (by rw[I.lN];omega))).symm⟩
 have kn:k<n:=by
  have:=Int.emod_lt_of_pos c (b:=(N.length:Int)) (by rw[I.lN];omega)
  rw[hk,I.lN]at this
  omega
 have hN:=I.lN
 have p0:0<(N.length:Int):=by rw[hN];omega
 rcases I.at kn with e | ⟨w,t,i,j,e⟩
 ·have a1:atI N (k:Int)=some .non:=by
   rw[a8L '!']
   rw[List.getElem?_eq_getElem '!']at e
   exact e
  have a2:=a0W eD (L:=L) (k:=k) '!'
  obtain⟨e',he⟩:=a5k L[k] (c/64+c%64) m
  refine⟨T,N,L.set k e',[.fz (.int k),.fz (.int (c/64+c%64)),.no,.no,.no,.no,.no,.no],I,by rw[List.length_set];exact hL,?_⟩
  ·rw[List.map_set]
   exact b6E (K1 false) c7 c7 (i7 false) E9 (S.map sD) N (L.map eD) c m k _ k _ _ p0 hk rfl a1 rfl a2 he (Y0 (by rw[List.length_map];omega))
 ·have a1:atI N (k:Int)=some (.tup [.str (wS w),.int t,.int (i:Int),.int (j:Int)]):=by
   rw[a8L '!']
   rw[List.getElem?_eq_getElem '!']at e
   exact e
  have a2:=a0W sD (L:=S) (k:=k) '!'
  obtain⟨pk,hG⟩:=ix7 ((c/64+c%64)%7) '!' '!'
  obtain⟨w',t',rr,hh⟩:=b6F (K1 false) c7 c7 (i7 false) E9 (S.map sD) N (L.map eD) c m k _ t i j _ _ _ _ _ k w _ _ pk p0 hk rfl a1 rfl rfl hG (Q3 ..) a2 rfl rfl rfl rfl (Y0 '!') (by decide) (by decide)
  exact⟨T.rel k w' t',N.set k (nd w' t' i j),L,rr,I.rel e w' t',hL,hh⟩
abbrev soB(MX:List D→Option R1):UF:=(uIf (bZ (eB (i7 false) (eB m7 (h8 MX (aC (eV 2) (aC (eV 3) (aC (eC (.int 30011)) aN)))) (eC (.int 4))) (eC (.int 0)))) (a0R 0 (k7 h9 1 (eV 3)) (eT (aC (eC (.str "waste")) aN))) uNx)
noncomputable abbrev ttI(GA GN GB:D→D→Option D):UF:=(D0 (uS (j9 7 (eB GA (eB n9 (eB c7 (k7 h9 0 (eV 5)) (eC (.int 2))) (eB c7 (k7 h9 0 (eV 5)) (eC (.int 0)))) (eB n9 (eB c7 (k7 h9 0 (eV 6)) (eC (.int 2))) (eB c7 (k7 h9 0 (eV 6)) (eC (.int 0))))))) (uIf (M8 (bZ (eB GN (eV 6) (eV 5))) (M8 (bZ (eV 7)) (bZ (eB GB (eB n9 (eB c7 (k7 h9 0 (eV 5)) (eC (.int 3))) (eB c7 (k7 h9 0 (eV 5)) (eC (.int 1)))) (eB n9 (eB c7 (k7 h9 0 (eV 6)) (eC (.int 3))) (eB c7 (k7 h9 0 (eV 6)) (eC (.int 1)))))))) (D0 (a0R 1 (eV 6) (k7 h9 1 (eV 5))) a4F) uNx))
abbrev ttO(IN:UF):UF:=(D0 (uS (j9 5 (k7 h9 2 (eB m7 (eB v8 (eV 4) (eB m7 (eV 3) (A4 u6 2))) (A4 u6 2))))) IN)
theorem a6v{rg:List D→Option (Int×Nat)}{f:AF}{b:GF}{body:UF}{e e1:DE}{ds:List D}{lo:Int}{n:Nat}(h:f e=some (.ok ds e1))(hr:rg ds=some (lo,n)):a1W rg f b body e=K8 b body (N8 lo n) e1:=by
 unfold a1W
 rw[h]
 dsimp only
 rw[hr]
theorem b1V{n:Nat}{body:UF}{as e0 e':DE}(he:as++List.replicate (n-as.length) .no=e0)(h:body e0=some (.nx e')∨body e0=some (.dn e')):fU n body as=some e':=by
 unfold fU
 rw[he]
 rcases h with h | h<;>rw[h]
theorem a11{b:GF}{body:UF}(I:DE→Prop):∀(ds:List D) (e:DE),(∀d∈ds,∀e,I e→∃e1 e2,b d e=some e1∧(body e1=some (.nx e2)∨body e1=some (.dn e2))∧I e2)→I e→∃e',(K8 b body ds e=some (.nx e')∨K8 b body ds e=some (.dn e'))∧I e'
 | [],e,_,i=>⟨e,.inl rfl,i⟩
 | d::ds,e,h,i=>by
  obtain⟨e1,e2,h1,h2,h3⟩:=h d List.mem_cons_self e i
  rcases h2 with h2 | h2
  ·obtain⟨e',h4,h5⟩:=a11 I ds e2 (fun d m=>h d (List.mem_cons_of_mem _ m)) h3
   have q:K8 b body (d::ds) e=K8 b body ds e2:=by
    show(match b d e with | none=>none | some e1=>match body e1 with | some (.nx e2)=>K8 b body ds e2 | r=>r)=_
    rw[h1]
    show(match body e1 with | some (.nx e2)=>K8 b body ds e2 | r=>r)=_
    rw[h2]
   exact⟨e',by rw[q];exact h4,h5⟩
  ·refine⟨e2,.inr ?_,h3⟩
   show(match b d e with | none=>none | some e1=>match body e1 with | some (.nx e2)=>K8 b body ds e2 | r=>r)=_
   rw[h1]
   show(match body e1 with | some (.nx e2)=>K8 b body ds e2 | r=>r)=_
   rw[h2]
theorem b6G(MX:List D→Option R1)(E O:List D)(c k m i:Int)(n:Nat)(hm:MX [.int c,.int k,.int 30011]=some (.ret (.int m)))(h4:m%4=0)(a:atI O k=some (.int i))(ix:Q9 E.length i=some n):soB MX [.hd E,.fz (.lst O),.fz (.int c),.fz (.int k)]=some (.nx [.hd (E.set n (.tup [.str "waste"])),.fz (.lst O),.fz (.int c),.fz (.int k)]):=by
 unfold soB
 walk_at "eh"
theorem b6H(MX:List D→Option R1)(E O:List D)(c k m:Int)(hm:MX [.int c,.int k,.int 30011]=some (.ret (.int m)))(h4:¬m%4=0):soB MX [.hd E,.fz (.lst O),.fz (.int c),.fz (.int k)]=some (.nx [.hd E,.fz (.lst O),.fz (.int c),.fz (.int k)]):=by
 unfold soB
 walk_at "eh"
def SoI(σ:List Nat)(c:Int)(n:Nat)(e:DE):Prop:=∃(L:List En) (o:Option D),L.length=n∧e=[.hd (L.map eD),.fz (.lst (oL σ)),.fz (.int c),un o]
theorem a6U(L:List En)(σ:List Nat)(hσ:∀k∈σ,k<L.length)(hs:σ.length≤1000)(c:Int):∃(L':List En) (r:DE),L'.length=L.length∧C6 [.hd (L.map eD),.fz (.lst (oL σ)),.fz (.int c)]=some (.hd (L'.map eD) :: .fz (.lst (oL σ)) :: .fz (.int c)::r):=by
 obtain⟨e',h,L',o,hl,rfl⟩:=a11 (b:=g9 3) (body:=soB r6) (SoI σ c L.length) (N8 0 σ.length) [.hd (L.map eD),.fz (.lst (oL σ)),.fz (.int c),.no] (by
  rw[a1d]
  rintro d md e ⟨L1,o,h1,rfl⟩
  obtain⟨k,mk,rfl⟩:=List.mem_map.mp md
  have hk:k<σ.length:=List.mem_range.mp mk
  have hb:g9 3 (.int (k:Int)) [.hd (L1.map eD),.fz (.lst (oL σ)),.fz (.int c),un o]=some [.hd (L1.map eD),.fz (.lst (oL σ)),.fz (.int c),.fz (.int (k:Int))]:=by cases o<;>rfl
  obtain⟨m,_,hm⟩:=a2y c k 30011 '!' '!' (by decide)
  by_cases h4:m%4=0
  ·have hlt:σ[k]<L1.length:=by rw[h1];exact hσ _ (List.getElem_mem hk)
   refine⟨_,_,hb,.inl (b6G r6 _ _ c k m (σ[k]:Nat) σ[k] hm h4 (a0W (fun(k:Nat)=>D.int (k:Int)) hk) (Y0 (by rw[List.length_map];exact hlt))),L1.set σ[k] .wa,some (.int (k:Int)),by rw[List.length_set];exact h1,?_⟩
   rw[List.map_set]
   rfl
  ·exact⟨_,_,hb,.inl (b6H r6 _ _ c k m hm h4),L1,some (.int (k:Int)),h1,rfl⟩) ⟨L,none,rfl,rfl⟩
 refine⟨L',[un o],hl,?_⟩
 have e0:(aC (A4 u6 1) aN) [.hd (L.map eD),.fz (.lst (oL σ)),.fz (.int c),.no]=some (.ok [.int ((oL σ).length:Int)] [.hd (L.map eD),.fz (.lst (oL σ)),.fz (.int c),.no]):=rfl
 rw[List.length_map]at e0
 have e2:a2x [.hd (L.map eD),.fz (.lst (oL σ)),.fz (.int c),.no]=K8 (g9 3) (soB r6) (N8 0 σ.length) [.hd (L.map eD),.fz (.lst (oL σ)),.fz (.int c),.no]:=a6v e0 (T8 hs)
 refine b1V (e0:=[.hd (L.map eD),.fz (.lst (oL σ)),.fz (.int c),.no]) rfl ?_
 rw[e2]
 exact h
theorem b6I(GA GN GB:D→D→Option D)(A E O:List D)(c u k j x0 x1 x2 x3 y0 y1 y2 y3:Int)(o7:Option D)(a1:atI A k=some (.tup [.int x0,.int x1,.int x2,.int x3]))(a2:atI A j=some (.tup [.int y0,.int y1,.int y2,.int y3]))(zA:Bool)(hA:GA (.int (x2-x0)) (.int (y2-y0))=some (.bl zA))(hN:GN (.int j) (.int k)=some (.bl false)):ttI GA GN GB [.fz (.lst A),.hd E,.fz (.lst O),.fz (.int c),.fz (.int u),.fz (.int k),.fz (.int j),un o7]=some (.nx [.fz (.lst A),.hd E,.fz (.lst O),.fz (.int c),.fz (.int u),.fz (.int k),.fz (.int j),.fz (.bl zA)]):=by
 unfold ttI
 cases o7<;>simp only[un]<;>walk_at "eh"
theorem b6J(GA GN GB:D→D→Option D)(A E O:List D)(c u k j x0 x1 x2 x3 y0 y1 y2 y3:Int)(o7:Option D)(a1:atI A k=some (.tup [.int x0,.int x1,.int x2,.int x3]))(a2:atI A j=some (.tup [.int y0,.int y1,.int y2,.int y3]))(hA:GA (.int (x2-x0)) (.int (y2-y0))=some (.bl false))(hN:GN (.int j) (.int k)=some (.bl true)):ttI GA GN GB [.fz (.lst A),.hd E,.fz (.lst O),.fz (.int c),.fz (.int u),.fz (.int k),.fz (.int j),un o7]=some (.nx [.fz (.lst A),.hd E,.fz (.lst O),.fz (.int c),.fz (.int u),.fz (.int k),.fz (.int j),.fz (.bl false)]):=by
 unfold ttI
 cases o7<;>simp only[un]<;>walk_at "eh"
theorem b6K(GA GN GB:D→D→Option D)(A E O:List D)(c u k j x0 x1 x2 x3 y0 y1 y2 y3:Int)(o7:Option D)(a1:atI A k=some (.tup [.int x0,.int x1,.int x2,.int x3]))(a2:atI A j=some (.tup [.int y0,.int y1,.int y2,.int y3]))(hA:GA (.int (x2-x0)) (.int (y2-y0))=some (.bl true))(hN:GN (.int j) (.int k)=some (.bl true))(hB:GB (.int (x3-x1)) (.int (y3-y1))=some (.bl false)):ttI GA GN GB [.fz (.lst A),.hd E,.fz (.lst O),.fz (.int c),.fz (.int u),.fz (.int k),.fz (.int j),un o7]=some (.nx [.fz (.lst A),.hd E,.fz (.lst O),.fz (.int c),.fz (.int u),.fz (.int k),.fz (.int j),.fz (.bl true)]):=by
 unfold ttI
 cases o7<;>simp only[un]<;>walk_at "eh"
theorem b6L(GA GN GB:D→D→Option D)(A E O:List D)(c u k j x0 x1 x2 x3 y0 y1 y2 y3:Int)(o7:Option D)(a1:atI A k=some (.tup [.int x0,.int x1,.int x2,.int x3]))(a2:atI A j=some (.tup [.int y0,.int y1,.int y2,.int y3]))(hA:GA (.int (x2-x0)) (.int (y2-y0))=some (.bl true))(hN:GN (.int j) (.int k)=some (.bl true))(hB:GB (.int (x3-x1)) (.int (y3-y1))=some (.bl true))(v:D)(n:Nat)(ak:atI E k=some v)(ix:Q9 E.length j=some n):ttI GA GN GB [.fz (.lst A),.hd E,.fz (.lst O),.fz (.int c),.fz (.int u),.fz (.int k),.fz (.int j),un o7]=some (.dn [.fz (.lst A),.hd (E.set n v),.fz (.lst O),.fz (.int c),.fz (.int u),.fz (.int k),.fz (.int j),.fz (.bl true)]):=by
 unfold ttI
 cases o7<;>simp only[un]<;>walk_at "eh"
theorem b42(IN:UF)(A E O:List D)(c u k i:Int)(o5 o6 o7:Option D)(r:MU)(h0:0<(O.length:Int))(hi:(u+c%(O.length:Int))%(O.length:Int)=i)(a:atI O i=some (.int k))(h:IN [.fz (.lst A),.hd E,.fz (.lst O),.fz (.int c),.fz (.int u),.fz (.int k),un o6,un o7]=some r):ttO IN [.fz (.lst A),.hd E,.fz (.lst O),.fz (.int c),.fz (.int u),un o5,un o6,un o7]=some r:=by
 unfold ttO
 cases o5<;>cases o6<;>cases o7<;>simp only[un]at h ⊢ <;>walk_at "eh"
def TtI(S:List Sp4)(σ:List Nat)(c:Int)(n:Nat)(e:DE):Prop:=∃(L:List En) (o4 o5 o6 o7:Option D),L.length=n∧e=[.fz (.lst (S.map sD)),.hd (L.map eD),.fz (.lst (oL σ)),.fz (.int c),un o4,un o5,un o6,un o7]
def TtJ(S:List Sp4)(σ:List Nat)(c:Int)(n:Nat)(u:Int)(k:Nat)(e:DE):Prop:=∃(L:List En) (o6 o7:Option D),L.length=n∧e=[.fz (.lst (S.map sD)),.hd (L.map eD),.fz (.lst (oL σ)),.fz (.int c),.fz (.int u),.fz (.int (k:Int)),un o6,un o7]
theorem b5v(S:List Sp4)(σ:List Nat)(c:Int)(n:Nat)(hS:S.length=n)(hσ:∀k∈σ,k<n)(u:Int)(k:Nat)(hk:k<n)(e:DE)(i:TtJ S σ c n u k e):∃e',(K8 (g9 6) (ttI (i7 false) (i7 true) (i7 false)) (oL σ) e=some (.nx e')∨K8 (g9 6) (ttI (i7 false) (i7 true) (i7 false)) (oL σ) e=some (.dn e'))∧TtJ S σ c n u k e':=by
 refine a11 (TtJ S σ c n u k) (oL σ) e ?_ i
 rintro d md e ⟨L,o6,o7,hl,rfl⟩
 obtain⟨j,mj,rfl⟩:=List.mem_map.mp md
 have hj:j<n:=hσ j mj
 have hb:g9 6 (.int (j:Int)) [.fz (.lst (S.map sD)),.hd (L.map eD),.fz (.lst (oL σ)),.fz (.int c),.fz (.int u),.fz (.int (k:Int)),un o6,un o7]=some [.fz (.lst (S.map sD)),.hd (L.map eD),.fz (.lst (oL σ)),.fz (.int c),.fz (.int u),.fz (.int (k:Int)),.fz (.int (j:Int)),un o7]:=by cases o6<;>rfl
 have a1:=a0W sD (L:=S) (k:=k) '!'
 have a2:=a0W sD (L:=S) (k:=j) '!'
 cases zN:decide (¬(j:Int)=(k:Int))with
 | false=>exact⟨_,_,hb,.inl (b6I (i7 false) (i7 true) (i7 false) _ _ _ c u k j _ _ _ _ _ _ _ _ o7 a1 a2 _ (Q3 ..) ((Q3 ..).trans (by simp at zN;simp[zN]))),L,some (.int (j:Int)),some (.bl _),hl,rfl⟩
 | true =>
  have hN:i7 true (.int (j:Int)) (.int (k:Int))=some (.bl true):=(Q3 ..).trans (by simp at zN;simp[zN])
  cases zA:decide ((S[k]' '!').c-(S[k]' '!').a=(S[j]' '!').c-(S[j]' '!').a)with
  | false=>exact⟨_,_,hb,.inl (b6J (i7 false) (i7 true) (i7 false) _ _ _ c u k j _ _ _ _ _ _ _ _ o7 a1 a2 ((Q3 ..).trans (by simp at zA;simp[zA])) hN),L,some (.int (j:Int)),some (.bl _),hl,rfl⟩
  | true =>
   cases zB:decide ((S[k]' '!').d-(S[k]' '!').b=(S[j]' '!').d-(S[j]' '!').b)with
   | false=>exact⟨_,_,hb,.inl (b6K (i7 false) (i7 true) (i7 false) _ _ _ c u k j _ _ _ _ _ _ _ _ o7 a1 a2 ((Q3 ..).trans (by simp at zA;simp[zA])) hN ((Q3 ..).trans (by simp at zB;simp[zB]))),L,some (.int (j:Int)),some (.bl _),hl,rfl⟩
   | true =>
    refine⟨_,_,hb,.inr (b6L (i7 false) (i7 true) (i7 false) _ _ _ c u k j _ _ _ _ _ _ _ _ o7 a1 a2 ((Q3 ..).trans (by simp at zA;simp[zA])) hN ((Q3 ..).trans (by simp at zB;simp[zB])) _ j (a0W eD (L:=L) (k:=k) '!') (Y0 (by rw[List.length_map];omega))),L.set j (L[k]' '!'),some (.int (j:Int)),some (.bl true),by rw[List.length_set];exact hl,?_⟩
    rw[List.map_set]
    rfl
theorem a5l(S:List Sp4)(L:List En)(hS:S.length=L.length)(σ:List Nat)(hσ:∀k∈σ,k<L.length)(hs:σ.length≤1000)(c:Int):∃(L':List En) (r:DE),L'.length=L.length∧A9 [.fz (.lst (S.map sD)),.hd (L.map eD),.fz (.lst (oL σ)),.fz (.int c)]=some (.fz (.lst (S.map sD)) :: .hd (L'.map eD) :: .fz (.lst (oL σ)) :: .fz (.int c)::r):=by
 obtain⟨e',h,L',o4,o5,o6,o7,hl,rfl⟩:=a11 (b:=g9 4) (body:=ttO (a1X 2 (g9 6) (ttI (i7 false) (i7 true) (i7 false)))) (TtI S σ c L.length) (N8 0 σ.length) [.fz (.lst (S.map sD)),.hd (L.map eD),.fz (.lst (oL σ)),.fz (.int c),.no,.no,.no,.no] (by
  rw[a1d]
  rintro d md e ⟨L1,o4,o5,o6,o7,h1,rfl⟩
  obtain⟨u,mu,rfl⟩:=List.mem_map.mp md
  have hu:u<σ.length:=List.mem_range.mp mu
  have hb:g9 4 (.int (u:Int)) [.fz (.lst (S.map sD)),.hd (L1.map eD),.fz (.lst (oL σ)),.fz (.int c),un o4,un o5,un o6,un o7]=some [.fz (.lst (S.map sD)),.hd (L1.map eD),.fz (.lst (oL σ)),.fz (.int c),.fz (.int (u:Int)),un o5,un o6,un o7]:=by cases o4<;>rfl
  have p0:(0:Int)<((oL σ).length:Int):=by rw[List.length_map];omega
  obtain⟨i,hi⟩:∃i:Nat,((u:Int)+c%((oL σ).length:Int))%((oL σ).length:Int)=(i:Int):=⟨_,(Int.toNat_of_nonneg (Int.emod_nonneg _ '!')).symm⟩
  have il:i<σ.length:=by
   have:=Int.emod_lt_of_pos ((u:Int)+c%((oL σ).length:Int)) p0
   rw[hi,List.length_map]at this
   omega
  have a:=a0W (fun(k:Nat)=>D.int (k:Int)) il
  have kl:σ[i]<L.length:=hσ _ (List.getElem_mem il)
  obtain⟨e2,h2,L2,p6,p7,q1,rfl⟩:=b5v S σ c L.length hS hσ u σ[i] kl _ ⟨L1,o6,o7,h1,rfl⟩
  have hv:∀r,K8 (g9 6) (ttI (i7 false) (i7 true) (i7 false)) (oL σ) [.fz (.lst (S.map sD)),.hd (L1.map eD),.fz (.lst (oL σ)),.fz (.int c),.fz (.int (u:Int)),.fz (.int (σ[i]:Int)),un o6,un o7]=some r→(a1X 2 (g9 6) (ttI (i7 false) (i7 true) (i7 false))) [.fz (.lst (S.map sD)),.hd (L1.map eD),.fz (.lst (oL σ)),.fz (.int c),.fz (.int (u:Int)),.fz (.int (σ[i]:Int)),un o6,un o7]=some r:=fun r h=>h
  refine⟨_,_,hb,?_,L2,some (.int (u:Int)),some (.int (σ[i]:Int)),p6,p7,q1,rfl⟩
  rcases h2 with h2 | h2
  ·exact .inl (b42 _ _ _ _ c u _ i o5 o6 o7 _ p0 hi a (hv _ h2))
  ·exact .inr (b42 _ _ _ _ c u _ i o5 o6 o7 _ p0 hi a (hv _ h2))) ⟨L,none,none,none,none,rfl,rfl⟩
 refine⟨L',[un o4,un o5,un o6,un o7],hl,?_⟩
 have e0:(aC (A4 u6 2) aN) [.fz (.lst (S.map sD)),.hd (L.map eD),.fz (.lst (oL σ)),.fz (.int c),.no,.no,.no,.no]=some (.ok [.int ((oL σ).length:Int)] [.fz (.lst (S.map sD)),.hd (L.map eD),.fz (.lst (oL σ)),.fz (.int c),.no,.no,.no,.no]):=rfl
 rw[List.length_map]at e0
 have e2:a1o [.fz (.lst (S.map sD)),.hd (L.map eD),.fz (.lst (oL σ)),.fz (.int c),.no,.no,.no,.no]=K8 (g9 4) (ttO (a1X 2 (g9 6) (ttI (i7 false) (i7 true) (i7 false)))) (N8 0 σ.length) [.fz (.lst (S.map sD)),.hd (L.map eD),.fz (.lst (oL σ)),.fz (.int c),.no,.no,.no,.no]:=a6v e0 (T8 hs)
 refine b1V (e0:=[.fz (.lst (S.map sD)),.hd (L.map eD),.fz (.lst (oL σ)),.fz (.int c),.no,.no,.no,.no]) rfl ?_
 rw[e2]
 exact h
abbrev spC(SP:DE→Option DE)(CE:List D→Option R1):SF:=(K4 5 [1,2] SP (F5 (eV 2) (W7 3 (W7 5 (F5 (h8 CE (aC (eV 0) (aC (eB v8 (eC (.int 4)) (eV 8)) aN))) (F5 (A4 u6 4) auN))))))
theorem b5w(SP:DE→Option DE)(CE:List D→Option R1)(ns:List Int)(w h md k c:Int)(A N E W N1 E1:List D)(s6:Sl)(r:DE)(hc:CE [.scr ns,.int (4+k)]=some (.ret (.int c)))(hs:SP [.fz (.lst A),.hd N,.hd E,.fz (.int c),.fz (.int (W.length:Int))]=some (.fz (.lst A) :: .hd N1 :: .hd E1 :: .fz (.int c) :: .fz (.int (W.length:Int))::r)):spC SP CE [.fz (.scr ns),.fz (.tup [.int w,.int h]),.ow A,.ow N,.ow W,.ow E,s6,.fz (.int md),.fz (.int k),.no,.no,.no,.no,.no]=some (.nx [.fz (.scr ns),.fz (.tup [.int w,.int h]),.fz (.lst A),.ow N1,.ow W,.ow E1,s6,.fz (.int md),.fz (.int k),.no,.no,.no,.no,.no]):=by
 unfold spC
 walk_at "eh"
theorem b5x(SP:DE→Option DE)(CE:List D→Option R1)(ns:List Int)(w h md k c:Int)(A N E W N1 E1:List D)(s6:Sl)(r:DE)(hc:CE [.scr ns,.int (4+k)]=some (.ret (.int c)))(hs:SP [.fz (.lst A),.hd N,.hd E,.fz (.int c),.fz (.int (W.length:Int))]=some (.fz (.lst A) :: .hd N1 :: .hd E1 :: .fz (.int c) :: .fz (.int (W.length:Int))::r)):spC SP CE [.fz (.scr ns),.fz (.tup [.int w,.int h]),.fz (.lst A),.ow N,.ow W,.ow E,s6,.fz (.int md),.fz (.int k),.no,.no,.no,.no,.no]=some (.nx [.fz (.scr ns),.fz (.tup [.int w,.int h]),.fz (.lst A),.ow N1,.ow W,.ow E1,s6,.fz (.int md),.fz (.int k),.no,.no,.no,.no,.no]):=by
 unfold spC
 walk_at "eh"
def SpI(ns:List Int)(w h md:Int)(A W:List D)(s6:Sl)(n:Nat)(e:DE):Prop:=∃(T:Tr) (N:List D) (L:List En) (s2:Sl) (o8:Option D),TJ n T N∧L.length=n∧(s2=.ow A∨s2=.fz (.lst A))∧e=[.fz (.scr ns),.fz (.tup [.int w,.int h]),s2,.ow N,.ow W,.ow (L.map eD),s6,.fz (.int md),un o8,.no,.no,.no,.no,.no]
theorem b44(ns:List Int)(w h:Int)(S:List Sp4)(W:List D)(s6:Sl)(h0:0<S.length)(T:Tr)(N:List D)(I:TJ S.length T N)(L:List En)(hL:L.length=S.length)(md:Int)(m0:0≤md)(m5:md<5):∃e',(P4 P3 (aC (eB c7 (eT (aC (eC (.int 0)) (aC (eC (.int 1)) (aC (eC (.int 2)) (aC (eC (.int 0)) (aC (eC (.int 0)) aN)))))) (eV 7)) aN) (g9 8) (K4 5 [1,2] J2 (F5 (eV 2) (W7 3 (W7 5 (F5 (h8 m8 (aC (eV 0) (aC (eB v8 (eC (.int 4)) (eV 8)) aN))) (F5 (A4 u6 4) auN))))))) [.fz (.scr ns),.fz (.tup [.int w,.int h]),.ow (S.map sD),.ow N,.ow W,.ow (L.map eD),s6,.fz (.int md),.no,.no,.no,.no,.no,.no]=some (.nx e')∧SpI ns w h md (S.map sD) W s6 S.length e':=by
 obtain⟨n,hn,e0⟩:∃n:Nat,n≤2∧(aC (eB c7 (eT (aC (eC (.int 0)) (aC (eC (.int 1)) (aC (eC (.int 2)) (aC (eC (.int 0)) (aC (eC (.int 0)) aN)))))) (eV 7)) aN) [.fz (.scr ns),.fz (.tup [.int w,.int h]),.ow (S.map sD),.ow N,.ow W,.ow (L.map eD),s6,.fz (.int md),.no,.no,.no,.no,.no,.no]=some (.ok [.int (n:Int)] [.fz (.scr ns),.fz (.tup [.int w,.int h]),.ow (S.map sD),.ow N,.ow W,.ow (L.map eD),s6,.fz (.int md),.no,.no,.no,.no,.no,.no]):=by
  have:md=0∨md=1∨md=2∨md=3∨md=4:=by omega
  rcases this with rfl | rfl | rfl | rfl | rfl
  ·exact⟨0,by omega,rfl⟩
  ·exact⟨1,by omega,rfl⟩
  ·exact⟨2,by omega,rfl⟩
  ·exact⟨0,by omega,rfl⟩
  ·exact⟨0,by omega,rfl⟩
 refine(V6 e0 (T8 '!')).symm▸?_
 rw[a1d]
 refine a0w (fun(k:Nat)=>D.int (k:Int)) (fun _ e=>SpI ns w h md (S.map sD) W s6 S.length e) (List.range n) _ ⟨T,N,L,_,none,I,hL,.inl rfl,rfl⟩ ?_
 rintro pre k post e hq ⟨T,N,L,s2,o8,I,hL,hs,rfl⟩
 have hb:g9 8 (.int (k:Int)) [.fz (.scr ns),.fz (.tup [.int w,.int h]),s2,.ow N,.ow W,.ow (L.map eD),s6,.fz (.int md),un o8,.no,.no,.no,.no,.no]=some [.fz (.scr ns),.fz (.tup [.int w,.int h]),s2,.ow N,.ow W,.ow (L.map eD),s6,.fz (.int md),.fz (.int (k:Int)),.no,.no,.no,.no,.no]:=by cases o8<;>rfl
 rw[hb,D2]
 obtain⟨T',N',L',r,I',hL',hh⟩:=a93 I h0 S rfl L hL (C2 ns (4+(k:Int))) (W.length:Int)
 have hc:m8 [.scr ns,.int (4+(k:Int))]=some (.ret (.int (C2 ns (4+(k:Int))))):=Q5 '!'
 rcases hs with rfl | rfl
 ·exact⟨_,(congrArg K3 (b5w J2 m8 ns w h md k _ _ _ _ _ _ _ s6 r hc hh)).trans rfl,T',N',L',_,some (.int (k:Int)),I',hL',.inr rfl,rfl⟩
 ·exact⟨_,(congrArg K3 (b5x J2 m8 ns w h md k _ _ _ _ _ _ _ s6 r hc hh)).trans rfl,T',N',L',_,some (.int (k:Int)),I',hL',.inr rfl,rfl⟩
theorem b6M(TT:DE→Option DE)(CE:List D→Option R1)(ns:List Int)(w h md c:Int)(A N E W E1 O:List D)(s8:Sl)(r:DE)(hc:CE [.scr ns,.int 4]=some (.ret (.int c)))(hm:md=3)(hs:TT [.fz (.lst A),.hd E,.fz (.lst O),.fz (.int c)]=some (.fz (.lst A) :: .hd E1 :: .fz (.lst O) :: .fz (.int c)::r)):(n6 (bZ (eB (i7 false) (eV 7) (eC (.int 3)))) (K4 4 [1] TT (F5 (eV 2) (W7 5 (F5 (eV 6) (F5 (h8 CE (aC (eV 0) (aC (eC (.int 4)) aN))) auN))))) t4) [.fz (.scr ns),.fz (.tup [.int w,.int h]),.ow A,.ow N,.ow W,.ow E,.ow O,.fz (.int md),s8,.no,.no,.no,.no,.no]=some (.nx [.fz (.scr ns),.fz (.tup [.int w,.int h]),.fz (.lst A),.ow N,.ow W,.ow E1,.fz (.lst O),.fz (.int md),s8,.no,.no,.no,.no,.no]):=by
 walk_at "eh"
theorem b6N(TT:DE→Option DE)(CE:List D→Option R1)(ns:List Int)(w h md c:Int)(A N E W E1 O:List D)(s8:Sl)(r:DE)(hc:CE [.scr ns,.int 4]=some (.ret (.int c)))(hm:md=3)(hs:TT [.fz (.lst A),.hd E,.fz (.lst O),.fz (.int c)]=some (.fz (.lst A) :: .hd E1 :: .fz (.lst O) :: .fz (.int c)::r)):(n6 (bZ (eB (i7 false) (eV 7) (eC (.int 3)))) (K4 4 [1] TT (F5 (eV 2) (W7 5 (F5 (eV 6) (F5 (h8 CE (aC (eV 0) (aC (eC (.int 4)) aN))) auN))))) t4) [.fz (.scr ns),.fz (.tup [.int w,.int h]),.fz (.lst A),.ow N,.ow W,.ow E,.ow O,.fz (.int md),s8,.no,.no,.no,.no,.no]=some (.nx [.fz (.scr ns),.fz (.tup [.int w,.int h]),.fz (.lst A),.ow N,.ow W,.ow E1,.fz (.lst O),.fz (.int md),s8,.no,.no,.no,.no,.no]):=by
 walk_at "eh"
theorem b6O(TT:DE→Option DE)(CE:List D→Option R1)(ns:List Int)(w h md:Int)(N E W:List D)(s2 s6 s8:Sl)(hm:¬md=3):(n6 (bZ (eB (i7 false) (eV 7) (eC (.int 3)))) (K4 4 [1] TT (F5 (eV 2) (W7 5 (F5 (eV 6) (F5 (h8 CE (aC (eV 0) (aC (eC (.int 4)) aN))) auN))))) t4) [.fz (.scr ns),.fz (.tup [.int w,.int h]),s2,.ow N,.ow W,.ow E,s6,.fz (.int md),s8,.no,.no,.no,.no,.no]=some (.nx [.fz (.scr ns),.fz (.tup [.int w,.int h]),s2,.ow N,.ow W,.ow E,s6,.fz (.int md),s8,.no,.no,.no,.no,.no]):=by
 walk_at "eh"
theorem b6P(SO:DE→Option DE)(CE:List D→Option R1)(ns:List Int)(w h md c:Int)(N E W E1 O:List D)(s2 s8:Sl)(r:DE)(hc:CE [.scr ns,.int 5]=some (.ret (.int c)))(hm:md=4)(hs:SO [.hd E,.fz (.lst O),.fz (.int c)]=some (.hd E1 :: .fz (.lst O) :: .fz (.int c)::r)):(n6 (bZ (eB (i7 false) (eV 7) (eC (.int 4)))) (K4 3 [0] SO (W7 5 (F5 (eV 6) (F5 (h8 CE (aC (eV 0) (aC (eC (.int 5)) aN))) auN)))) t4) [.fz (.scr ns),.fz (.tup [.int w,.int h]),s2,.ow N,.ow W,.ow E,.ow O,.fz (.int md),s8,.no,.no,.no,.no,.no]=some (.nx [.fz (.scr ns),.fz (.tup [.int w,.int h]),s2,.ow N,.ow W,.ow E1,.fz (.lst O),.fz (.int md),s8,.no,.no,.no,.no,.no]):=by
 walk_at "eh"
theorem b6Q(SO:DE→Option DE)(CE:List D→Option R1)(ns:List Int)(w h md c:Int)(N E W E1 O:List D)(s2 s8:Sl)(r:DE)(hc:CE [.scr ns,.int 5]=some (.ret (.int c)))(hm:md=4)(hs:SO [.hd E,.fz (.lst O),.fz (.int c)]=some (.hd E1 :: .fz (.lst O) :: .fz (.int c)::r)):(n6 (bZ (eB (i7 false) (eV 7) (eC (.int 4)))) (K4 3 [0] SO (W7 5 (F5 (eV 6) (F5 (h8 CE (aC (eV 0) (aC (eC (.int 5)) aN))) auN)))) t4) [.fz (.scr ns),.fz (.tup [.int w,.int h]),s2,.ow N,.ow W,.ow E,.fz (.lst O),.fz (.int md),s8,.no,.no,.no,.no,.no]=some (.nx [.fz (.scr ns),.fz (.tup [.int w,.int h]),s2,.ow N,.ow W,.ow E1,.fz (.lst O),.fz (.int md),s8,.no,.no,.no,.no,.no]):=by
 walk_at "eh"
theorem b6R(SO:DE→Option DE)(CE:List D→Option R1)(ns:List Int)(w h md:Int)(N E W:List D)(s2 s6 s8:Sl)(hm:¬md=4):(n6 (bZ (eB (i7 false) (eV 7) (eC (.int 4)))) (K4 3 [0] SO (W7 5 (F5 (eV 6) (F5 (h8 CE (aC (eV 0) (aC (eC (.int 5)) aN))) auN)))) t4) [.fz (.scr ns),.fz (.tup [.int w,.int h]),s2,.ow N,.ow W,.ow E,s6,.fz (.int md),s8,.no,.no,.no,.no,.no]=some (.nx [.fz (.scr ns),.fz (.tup [.int w,.int h]),s2,.ow N,.ow W,.ow E,s6,.fz (.int md),s8,.no,.no,.no,.no,.no]):=by
 walk_at "eh"
theorem b5y(ns:List Int)(w h md:Int)(S:List Sp4)(N W:List D)(L:List En)(hL:L.length=S.length)(σ:List Nat)(hσ:∀k∈σ,k<S.length)(hs:σ.length≤1000)(s2 s8:Sl)(h2:s2=.ow (S.map sD)∨s2=.fz (.lst (S.map sD))):∃(L':List En) (s2' s6:Sl),L'.length=S.length∧(s6=.ow (oL σ)∨s6=.fz (.lst (oL σ)))∧(n6 (bZ (eB (i7 false) (eV 7) (eC (.int 3)))) (K4 4 [1] A9 (F5 (eV 2) (W7 5 (F5 (eV 6) (F5 (h8 m8 (aC (eV 0) (aC (eC (.int 4)) aN))) auN))))) t4) [.fz (.scr ns),.fz (.tup [.int w,.int h]),s2,.ow N,.ow W,.ow (L.map eD),.ow (oL σ),.fz (.int md),s8,.no,.no,.no,.no,.no]=some (.nx [.fz (.scr ns),.fz (.tup [.int w,.int h]),s2',.ow N,.ow W,.ow (L'.map eD),s6,.fz (.int md),s8,.no,.no,.no,.no,.no]):=by
 by_cases z:md=3
 ·obtain⟨L',r,hl,hh⟩:=a5l S L hL.symm σ (fun k m=>by rw[hL];exact hσ k m) hs (C2 ns 4)
  rcases h2 with rfl | rfl
  ·exact⟨L',_,_,hl.trans hL,.inr rfl,b6M A9 m8 ns w h md _ _ _ _ _ _ _ s8 r (Q5 '!') z hh⟩
  ·exact⟨L',_,_,hl.trans hL,.inr rfl,b6N A9 m8 ns w h md _ _ _ _ _ _ _ s8 r (Q5 '!') z hh⟩
 ·exact⟨L,_,_,hL,.inl rfl,b6O A9 m8 ns w h md _ _ _ _ _ _ z⟩
theorem b5z(ns:List Int)(w h md:Int)(n:Nat)(N W:List D)(L:List En)(hL:L.length=n)(σ:List Nat)(hσ:∀k∈σ,k<n)(hs:σ.length≤1000)(s2 s6 s8:Sl)(h2:s6=.ow (oL σ)∨s6=.fz (.lst (oL σ))):∃(L':List En) (s6':Sl),L'.length=n∧(n6 (bZ (eB (i7 false) (eV 7) (eC (.int 4)))) (K4 3 [0] C6 (W7 5 (F5 (eV 6) (F5 (h8 m8 (aC (eV 0) (aC (eC (.int 5)) aN))) auN)))) t4) [.fz (.scr ns),.fz (.tup [.int w,.int h]),s2,.ow N,.ow W,.ow (L.map eD),s6,.fz (.int md),s8,.no,.no,.no,.no,.no]=some (.nx [.fz (.scr ns),.fz (.tup [.int w,.int h]),s2,.ow N,.ow W,.ow (L'.map eD),s6',.fz (.int md),s8,.no,.no,.no,.no,.no]):=by
 by_cases z:md=4
 ·obtain⟨L',r,hl,hh⟩:=a6U L σ (fun k m=>by rw[hL];exact hσ k m) hs (C2 ns 5)
  rcases h2 with rfl | rfl
  ·exact⟨L',_,hl.trans hL,b6P C6 m8 ns w h md _ _ _ _ _ _ s2 s8 r (Q5 '!') z hh⟩
  ·exact⟨L',_,hl.trans hL,b6Q C6 m8 ns w h md _ _ _ _ _ _ s2 s8 r (Q5 '!') z hh⟩
 ·exact⟨L,_,hL,b6R C6 m8 ns w h md _ _ _ _ _ _ z⟩
theorem b6S(ns:List Int)(w h md sz:Int)(N E W:List D)(v:D)(s2 s6 s8:Sl)(hz:sz=1)(gz1:0<(W.length:Int))(hl:W.getLast? = some v):(n6 (M8 (bZ (eB (i7 false) (eV 9) (eC (.int 1)))) (bZ (eB gGt (A4 u6 4) (eC (.int 0))))) (sEx (a0h 4)) t4) [.fz (.scr ns),.fz (.tup [.int w,.int h]),s2,.ow N,.ow W,.ow E,s6,.fz (.int md),s8,.fz (.int sz),.no,.no,.no,.no]=some (.nx [.fz (.scr ns),.fz (.tup [.int w,.int h]),s2,.ow N,.ow W.dropLast,.ow E,s6,.fz (.int md),s8,.fz (.int sz),.no,.no,.no,.no]):=by
 walk_at "eh"
theorem b6T(ns:List Int)(w h md sz:Int)(N E W:List D)(s2 s6 s8:Sl)(hz:¬sz=1):(n6 (M8 (bZ (eB (i7 false) (eV 9) (eC (.int 1)))) (bZ (eB gGt (A4 u6 4) (eC (.int 0))))) (sEx (a0h 4)) t4) [.fz (.scr ns),.fz (.tup [.int w,.int h]),s2,.ow N,.ow W,.ow E,s6,.fz (.int md),s8,.fz (.int sz),.no,.no,.no,.no]=some (.nx [.fz (.scr ns),.fz (.tup [.int w,.int h]),s2,.ow N,.ow W,.ow E,s6,.fz (.int md),s8,.fz (.int sz),.no,.no,.no,.no]):=by
 walk_at "eh"
theorem b6U(ns:List Int)(w h md sz:Int)(N E W:List D)(s2 s6 s8:Sl)(hz:sz=1)(gz1:¬0<(W.length:Int)):(n6 (M8 (bZ (eB (i7 false) (eV 9) (eC (.int 1)))) (bZ (eB gGt (A4 u6 4) (eC (.int 0))))) (sEx (a0h 4)) t4) [.fz (.scr ns),.fz (.tup [.int w,.int h]),s2,.ow N,.ow W,.ow E,s6,.fz (.int md),s8,.fz (.int sz),.no,.no,.no,.no]=some (.nx [.fz (.scr ns),.fz (.tup [.int w,.int h]),s2,.ow N,.ow W,.ow E,s6,.fz (.int md),s8,.fz (.int sz),.no,.no,.no,.no]):=by
 walk_at "eh"
theorem b5A(ns:List Int)(w h md sz:Int)(N E:List D)(ws:List W3)(s2 s6 s8:Sl):∃ws':List W3,ws'.length≤ws.length∧(n6 (M8 (bZ (eB (i7 false) (eV 9) (eC (.int 1)))) (bZ (eB gGt (A4 u6 4) (eC (.int 0))))) (sEx (a0h 4)) t4) [.fz (.scr ns),.fz (.tup [.int w,.int h]),s2,.ow N,.ow (ws.map w3),.ow E,s6,.fz (.int md),s8,.fz (.int sz),.no,.no,.no,.no]=some (.nx [.fz (.scr ns),.fz (.tup [.int w,.int h]),s2,.ow N,.ow (ws'.map w3),.ow E,s6,.fz (.int md),s8,.fz (.int sz),.no,.no,.no,.no]):=by
 by_cases z:sz=1
 ·by_cases g:0<((ws.map w3).length:Int)
  ·refine⟨ws.dropLast,by rw[List.length_dropLast];omega,?_⟩
   rw[List.map_dropLast]
   have ne:ws≠[]:=by rintro rfl;simp at g
   exact b6S ns w h md sz N E _ (w3 (ws.getLast ne)) s2 s6 s8 z g (by rw[List.getLast?_map,List.getLast?_eq_some_getLast ne];rfl)
  ·exact⟨ws,Nat.le_refl _,b6U ns w h md sz N E _ s2 s6 s8 z g⟩
 ·exact⟨ws,Nat.le_refl _,b6T ns w h md sz N E _ s2 s6 s8 z⟩
abbrev apB(CE:List D→Option R1):SF:=(D5 4 (eT (aC (eB v8 (eC (.int 1)) (eB m7 (h8 CE (aC (eV 0) (aC (eC (.int 4)) aN))) (eC (.int 9)))) (aC (eB v8 (eC (.int 1)) (eV 8)) (aC (eB (i7 false) (eV 8) (eC (.int 0))) aN)))))
theorem b6V(CE:List D→Option R1)(ns:List Int)(w h md sz k c:Int)(N E W:List D)(s2 s6:Sl)(hc:CE [.scr ns,.int 4]=some (.ret (.int c)))(hl:W.length<sizeLine):apB CE [.fz (.scr ns),.fz (.tup [.int w,.int h]),s2,.ow N,.ow W,.ow E,s6,.fz (.int md),.fz (.int k),.fz (.int sz),.no,.no,.no,.no]=some (.nx [.fz (.scr ns),.fz (.tup [.int w,.int h]),s2,.ow N,.ow (W++[.tup [.int (1+c%9),.int (1+k),.bl (decide (k=0))]]),.ow E,s6,.fz (.int md),.fz (.int k),.fz (.int sz),.no,.no,.no,.no]):=by
 unfold apB
 walk_at "eh"
theorem b46(ns:List Int)(w h md sz:Int)(N E:List D)(ws:List W3)(s2 s6:Sl)(o8:Option D)(z0:0≤sz)(z6:sz<6)(hw:ws.length≤900):∃(ws':List W3) (p8:Option D),ws'.length≤1000∧(P4 P3 (aC (X1 W5 (aC (eC (.int 0)) (aC (eB n9 (eV 9) (eC (.int 3))) aN))) aN) (g9 8) (D5 4 (eT (aC (eB v8 (eC (.int 1)) (eB m7 (h8 m8 (aC (eV 0) (aC (eC (.int 4)) aN))) (eC (.int 9)))) (aC (eB v8 (eC (.int 1)) (eV 8)) (aC (eB (i7 false) (eV 8) (eC (.int 0))) aN)))))) [.fz (.scr ns),.fz (.tup [.int w,.int h]),s2,.ow N,.ow (ws.map w3),.ow E,s6,.fz (.int md),un o8,.fz (.int sz),.no,.no,.no,.no]=some (.nx [.fz (.scr ns),.fz (.tup [.int w,.int h]),s2,.ow N,.ow (ws'.map w3),.ow E,s6,.fz (.int md),un p8,.fz (.int sz),.no,.no,.no,.no]):=by
 obtain⟨n,hn,e0⟩:∃n:Nat,n≤2∧(aC (X1 W5 (aC (eC (.int 0)) (aC (eB n9 (eV 9) (eC (.int 3))) aN))) aN) [.fz (.scr ns),.fz (.tup [.int w,.int h]),s2,.ow N,.ow (ws.map w3),.ow E,s6,.fz (.int md),un o8,.fz (.int sz),.no,.no,.no,.no]=some (.ok [.int (n:Int)] [.fz (.scr ns),.fz (.tup [.int w,.int h]),s2,.ow N,.ow (ws.map w3),.ow E,s6,.fz (.int md),un o8,.fz (.int sz),.no,.no,.no,.no]):=by
  refine⟨(if sz-3 > 0 then sz-3 else 0).toNat,by split<;>omega,?_⟩
  rw[Int.toNat_of_nonneg (by split<;>omega)]
  rfl
 obtain⟨e',f,ws',p8,hl,rfl⟩:=a0w (b:=g9 8) (body:=apB m8) (fun(k:Nat)=>D.int (k:Int)) (fun pre e=>∃(ws':List W3) (p8:Option D),ws'.length≤ws.length+pre.length∧e=[.fz (.scr ns),.fz (.tup [.int w,.int h]),s2,.ow N,.ow (ws'.map w3),.ow E,s6,.fz (.int md),un p8,.fz (.int sz),.no,.no,.no,.no]) (List.range n) [.fz (.scr ns),.fz (.tup [.int w,.int h]),s2,.ow N,.ow (ws.map w3),.ow E,s6,.fz (.int md),un o8,.fz (.int sz),.no,.no,.no,.no] ⟨ws,o8,Nat.le_refl _,rfl⟩ (by
  rintro pre k post e hq ⟨ws',p8,hl,rfl⟩
  have pl:pre.length<2:=by
   have:=congrArg List.length hq
   rw[List.length_range,List.length_append,List.length_cons]at this
   omega
  have hb:g9 8 (.int (k:Int)) [.fz (.scr ns),.fz (.tup [.int w,.int h]),s2,.ow N,.ow (ws'.map w3),.ow E,s6,.fz (.int md),un p8,.fz (.int sz),.no,.no,.no,.no]=some [.fz (.scr ns),.fz (.tup [.int w,.int h]),s2,.ow N,.ow (ws'.map w3),.ow E,s6,.fz (.int md),.fz (.int (k:Int)),.fz (.int sz),.no,.no,.no,.no]:=by cases p8<;>rfl
  rw[hb,D2]
  refine⟨_,(congrArg K3 (b6V m8 ns w h md sz k _ N E _ s2 s6 (Q5 '!') (by rw[List.length_map];show _<2 ^ 24;omega))).trans rfl,ws'++[(1+C2 ns 4%9,1+(k:Int),decide ((k:Int)=0))],some (.int (k:Int)),by rw[List.length_append,List.length_append,List.length_singleton,List.length_singleton];omega,?_⟩
  rw[List.map_append]
  rfl)
 rw[List.length_range]at hl
 refine⟨ws',p8,by omega,?_⟩
 refine(V6 e0 (T8 '!')).trans ?_
 rw[a1d]
 exact f
theorem b5B(LO CE TR FI JO PF LF WH:List D→Option R1)(NS:NF)(LP1 X3 X4 P1 LP2:SF)(G1 G2:D→D→Option D)(ns:List Int)(w h c0 c1 c2 c3:Int)(C A N0 N W0 W1 W2 E0 E1 E2 E3 O:List D)(s2 s2b s6 s6b s8 s8b:Sl)(p d:D)(k0:CE [.scr ns,.int 0]=some (.ret (.int c0)))(k1:CE [.scr ns,.int 1]=some (.ret (.int c1)))(k2:CE [.scr ns,.int 2]=some (.ret (.int c2)))(k3:CE [.scr ns,.int 3]=some (.ret (.int c3)))(k4:LO [.int c0]=some (.ret (.int w)))(k5:LO [.int c1]=some (.ret (.int h)))
  (s1:NS [.fz (.scr ns),.fz (.tup [.int w,.int h]),.no,.no,.no,.no,.no,.no,.no,.no,.no,.no,.no,.no]=some (.ok C [.fz (.scr ns),.fz (.tup [.int w,.int h]),.no,.no,.no,.no,.no,.no,.no,.no,.no,.no,.no,.no])) (tr:TR [.tup [.int w,.int h],.lst C]=some (.owz [A,N0])) (fi:FI [.lst A,.lst N0,.int c2]=some (.owz [W0,E0,O])) (n1:noLs W0=true) (n2:noLs E0=true) (n3:noLs O=true)
  (l1:LP1 [.fz (.scr ns),.fz (.tup [.int w,.int h]),.ow A,.ow N0,.ow W0,.ow E0,.ow O,.fz (.int (c3%5)),.no,.no,.no,.no,.no,.no]=some (.nx [.fz (.scr ns),.fz (.tup [.int w,.int h]),s2,.ow N,.ow W0,.ow E1,.ow O,.fz (.int (c3%5)),s8,.no,.no,.no,.no,.no])) (l3:X3 [.fz (.scr ns),.fz (.tup [.int w,.int h]),s2,.ow N,.ow W0,.ow E1,.ow O,.fz (.int (c3%5)),s8,.no,.no,.no,.no,.no]=some (.nx [.fz (.scr ns),.fz (.tup [.int w,.int h]),s2b,.ow N,.ow W0,.ow E2,s6,.fz (.int (c3%5)),s8,.no,.no,.no,.no,.no])) (l4:X4 [.fz (.scr ns),.fz (.tup [.int w,.int h]),s2b,.ow N,.ow W0,.ow E2,s6,.fz (.int (c3%5)),s8,.no,.no,.no,.no,.no]=some (.nx [.fz (.scr ns),.fz (.tup [.int w,.int h]),s2b,.ow N,.ow W0,.ow E3,s6b,.fz (.int (c3%5)),s8,.no,.no,.no,.no,.no])) (l5:P1 [.fz (.scr ns),.fz (.tup [.int w,.int h]),s2b,.ow N,.ow W0,.ow E3,s6b,.fz (.int (c3%5)),s8,.fz (.int (c3/5%6)),.no,.no,.no,.no]=some (.nx [.fz (.scr ns),.fz (.tup [.int w,.int h]),s2b,.ow N,.ow W1,.ow E3,s6b,.fz (.int (c3%5)),s8,.fz (.int (c3/5%6)),.no,.no,.no,.no])) (l6:LP2 [.fz (.scr ns),.fz (.tup [.int w,.int h]),s2b,.ow N,.ow W1,.ow E3,s6b,.fz (.int (c3%5)),s8,.fz (.int (c3/5%6)),.no,.no,.no,.no]=some (.nx [.fz (.scr ns),.fz (.tup [.int w,.int h]),s2b,.ow N,.ow W2,.ow E3,s6b,.fz (.int (c3%5)),s8b,.fz (.int (c3/5%6)),.no,.no,.no,.no]))
  (jo:JO [.lst N,.lst E3]=some (.ret p)) (np:noL p=true) (pf:PF [.tup [.int w,.int h],.lst W2,p]=some (.ret d)) (lf:LF [.tup [.int w,.int h],.lst W2,p]=some (.ret d)) (nd:noL d=true) (gz1:G1 (.lst W2) (.lst W2)=some (.bl false)) (hd:d=.non∨∃(s:Str) (k:Int),d=.tup [.str s,.int k]∧WH [.int k]=some (.ret (.bl true))∧G2 (.tup [.str s,.int k]) (.tup [.str s,.int k])=some (.bl true)) :
  fD 14 1 (d6 (j9 1 (eT (aC (h8 LO (aC (h8 CE (aC (eV 0) (aC (eC (.int 0)) aN))) aN)) (aC (h8 LO (aC (h8 CE (aC (eV 0) (aC (eC (.int 1)) aN))) aN)) aN)))) (d6 (a2R 2 3 TR (aC (eV 1) (aC (zN NS) aN))) (d6 (a1m 4 5 6 FI (aC (eV 2) (aC (eV 3) (aC (h8 CE (aC (eV 0) (aC (eC (.int 2)) aN))) aN)))) (d6 (j9 7 (eB m7 (h8 CE (aC (eV 0) (aC (eC (.int 3)) aN))) (eC (.int 5)))) (d6 LP1 (d6 X3 (d6 X4 (d6 (j9 9 (eB m7 (eB D4 (h8 CE (aC (eV 0) (aC (eC (.int 3)) aN))) (eC (.int 5))) (eC (.int 6)))) (d6 P1 (d6 LP2 (d6 (j9 10 (a1Q (h8 JO (aC (eV 3) (aC (eV 5) aN))))) (d6 (A5 11 (nCV a1J 4)) (d6 (a5r 12 PF (aC (eV 1) (aC (eV 11) (aC (eV 10) aN)))) (d6 (j9 13 (a1Q (h8 LF (aC (eV 1) (aC (eV 4) (aC (eV 10) aN)))))) (d6 (n6 (bZ (a5X G1 11 4)) (j5 (eC (.bl false))) t4) (d6 (n6 (bZ (eB (K1 false) (eV 13) (eC .non))) (j5 (eB (K1 false) (eV 12) (eC .non))) t4) (d6 (n6 (bOr (Q7 (bZ (a1M 12 "tuple"))) (bOr (bZ (eB (i7 true) (A4 u6 12) (eC (.int 2)))) (Q7 (bZ (X1 a4p (aC (eB c7 (eV 12) (eC (.int 0))) (aC (eC (.ty "str")) aN))))))) (j5 (eC (.bl false))) t4) (j5 (a2j (h8 WH (aC (eB c7 (eV 12) (eC (.int 1))) aN)) (eB G2 (eV 12) (eV 13))))))))))))))))))))) [.scr ns]=some (.ret (.bl true)):=by
 rcases hd with rfl | ⟨s,k,rfl,wh,g2⟩
 ·walk_at "eh"
 ·walk_at "eh"
theorem a6w(f:Nat→En):∀T:Tr,psz (T.pl f)=T.ids.length
 | .lf k=>rfl
 | .ct k w t l r=>by
  show 1+(psz (l.pl f)+psz (r.pl f))=(k::(l.ids++r.ids)).length
  rw[a6w f l,a6w f r,List.length_cons,List.length_append]
  omega
theorem a6x:∀P:Pl,noL (pD P)=true
 | .en e=>by cases e<;>rfl
 | .ct w t l r=>by
  show(noL (.str (wS w)) && (noL (.int t) && (noL (pD l) && (noL (pD r) && noLs []))))=true
  rw[a6x l,a6x r]
  rfl
theorem b6W(ws:List W3)(t:List Int)(x:Np)(d:D)(h:stF ws t x=.inl d):∃(s:Str) (k:Int),d=.tup [.str s,.int k]:=by
 unfold stF at h
 split at h
 ·split at h
  ·cases h;exact⟨_,_,rfl⟩
  ·cases h
 ·cases h
 ·split at h
  ·cases h;exact⟨_,_,rfl⟩
  ·cases h
theorem b1X(ws:List W3):∀(l:List Np) (t:List Int) (d:D),W9 ws l t=.inl d→∃(s:Str) (k:Int),d=.tup [.str s,.int k]
 | [],t,d,h=>by cases h
 | x::xs,t,d,h=>by
  unfold W9 at h
  cases hs:stF ws t x with
  | inl d'=>rw[hs]at h;cases h;exact b6W ws t x d hs
  | inr t'=>rw[hs]at h;exact b1X ws xs t' d h
theorem b5C(ws:List W3)(l:List Np):a3t ws l=.non∨∃(s:Str) (k:Int),a3t ws l=.tup [.str s,.int k]:=by
 unfold a3t
 cases h:W9 ws l []with
 | inl d=>exact .inr (b1X ws l [] d h)
 | inr t =>
  show(match T5 (List.range ws.length) t with | some k=>lkD k | none=>.non)=D.non∨∃(s:Str) (k:Int),(match T5 (List.range ws.length) t with | some k=>lkD k | none=>.non)=D.tup [.str s,.int k]
  cases T5 (List.range ws.length) t with
  | none=>exact .inl rfl
  | some k=>exact .inr ⟨_,_,rfl⟩
theorem a7J:∀Wl:List D,(∀v∈Wl,∃a:W3,v=w3 a)→∃ws:List W3,Wl=ws.map w3
 | [],_=>⟨[],rfl⟩
 | v::l,h=>by
  obtain⟨a,e⟩:=h v List.mem_cons_self
  obtain⟨ws,e2⟩:=a7J l fun x m=>h x (List.mem_cons_of_mem _ m)
  exact⟨a::ws,by rw[e,e2];rfl⟩
theorem a12{α:Type}(f:α→D)(h:∀a,noL (f a)=true):∀l:List α,noLs (l.map f)=true
 | []=>rfl
 | a::l=>by
  show(noL (f a) && noLs (l.map f))=true
  rw[h a,a12 f h l]
  rfl
theorem b5D(ws:List W3):G8 true (.lst (ws.map w3)) (.lst (ws.map w3))=some (.bl false):=a44 true (by
  simp only[j6]
  exact a6L fun x _=>rfl) (by
  have:=a9D (f:=w3) (l:=ws) (n:=3) (fun x _=>by unfold w3;simp[U3,P7])
  simp only[U3]
  omega) rfl
theorem b5E(s:Str)(k:Int):G8 false (.tup [.str s,.int k]) (.tup [.str s,.int k])=some (.bl true):=a44 false rfl (by simp[U3,P7]) rfl
theorem main(ns:List Int)(hl:ns.length≤63)(hb:∀m∈ns,Builtin.Int.intBits m≤2 ^ 20):b1K [.scr ns]=some (.ret (.bl true)):=by
 obtain⟨w,w0,w1,hw⟩:=a7z (C2 ns 0)
 obtain⟨h,h0,h1,hh⟩:=a7z (C2 ns 1)
 obtain⟨cs,hcs⟩:∃cs,cs=(ns.drop 6).take 40:=⟨_,rfl⟩
 have lcs:cs.length≤40:=by rw[hcs,List.length_take];omega
 have hc:a4s (ns.map D.int) (some 6) (some 46)=cs.map D.int:=by
  rw[b3d '!' '!',show(6:Int).toNat=6 by omega,show((46:Int)-6).toNat=40 by omega,hcs,List.map_take,List.map_drop]
 obtain⟨T,S,N0,U,I,tr⟩:=b3q w h cs '!'
 have leS:=I.le
 have J:=I.tj
 have p0:0<S.length:=by
  rw[← I.ln]
  cases T<;>simp[Tr.ids]
 obtain⟨Wl,L,σ,⟨lW,eW⟩,hL,hσ,lσ,fi⟩:=a9X S N0 I.lN '!' (C2 ns 2)
 obtain⟨ws,rfl⟩:=a7J Wl eW
 rw[List.length_map]at lW
 obtain⟨e1,l1,T1,N1,L1,s2,o8,J1,hL1,hs2,rfl⟩:=b44 ns w h S (ws.map w3) (.ow (oL σ)) p0 T N0 J L hL (C2 ns 3%5) '!' '!'
 obtain⟨L2,s2b,s6,hL2,hs6,l3⟩:=b5y ns w h (C2 ns 3%5) S N1 (ws.map w3) L1 hL1 σ (fun k m=>(hσ k m).1) '!' s2 (un o8) hs2
 obtain⟨L3,s6b,hL3,l4⟩:=b5z ns w h (C2 ns 3%5) S.length N1 (ws.map w3) L2 hL2 σ (fun k m=>(hσ k m).1) '!' s2b s6 (un o8) hs6
 obtain⟨ws1,hw1,l5⟩:=b5A ns w h (C2 ns 3%5) (C2 ns 3/5%6) N1 (L3.map eD) ws s2b s6b (un o8)
 obtain⟨ws2,p8,hw2,l6⟩:=b46 ns w h (C2 ns 3%5) (C2 ns 3/5%6) N1 (L3.map eD) ws1 s2b s6b o8 '!' '!' '!'
 obtain⟨f,hf⟩:∃f:Nat→En,f=fun k=>L3.getD k .wa:=⟨_,rfl⟩
 have jo:=a90 J1 '!' L3 hL3 f (fun k hk=>by rw[hf];show _=some (L3.getD k .wa);rw[List.getD_eq_getElem?_getD,List.getElem?_eq_getElem '!'];rfl)
 have sz:psz (T1.pl f)≤1000:=by rw[a6w,J1.ln];omega
 have pf:=a5j w h ws2 hw2 (T1.pl f) sz
 have lf:=a92 w h ws2 hw2 (T1.pl f) sz
 have rd:=b5C ws2 (A8 ⟨0,0,w,h⟩ (T1.pl f))
 refine b5B N2 m8 U6 Q0 P9 K5 S0 O5 _ _ _ _ _ _ (G8 true) (G8 false) ns w h (C2 ns 0) (C2 ns 1) (C2 ns 2) (C2 ns 3) (cs.map D.int) (S.map sD) N0 N1 (ws.map w3) (ws1.map w3) (ws2.map w3) (L.map eD) (L1.map eD) (L2.map eD) (L3.map eD) (oL σ) s2 s2b s6 s6b (un o8) (un p8) (pD (T1.pl f)) _ (Q5 '!') (Q5 '!') (Q5 '!') (Q5 '!') hw hh ?_ tr fi (a12 w3 (fun _=>rfl) _) (a12 eD (fun e=>by cases e<;>rfl) _) (a12 _ (fun _=>rfl) _) l1 l3 l4 l5 l6 jo (a6x _) pf lf ?_ (b5D ws2) ?_
 ·rw[← hc];rfl
 ·rcases rd with e | ⟨s,k,e⟩<;>rw[e]<;>rfl
 ·rcases rd with e | ⟨s,k,e⟩
  ·exact .inl e
  ·exact .inr ⟨s,k,e,b1a k,b5E s k⟩
def a4h(K:PySem.W.Frag)(c:Str→Addr):Sp:=fun vs H Q _=>∃a,∃ns:List Int,vs=[.ref a]∧Scr K H a (ns.map V.int)∧(∀m∈ns,Builtin.Int.intBits m≤2 ^ 20)∧ns.length≤63∧∀H',Q (.bl true) H'
theorem b47{TB:List (Addr×Str)}{f:Addr}{fd:FuncData}(F:Fun K "law" "law" Z3 f fd)(T:Txt K mg c)(G_l_long:Own P w K mg base 3 "_law_long" ["_law_cell_here"] (k8 K c N2))(G_l_cell:Own P w K mg base 3 "_law_cell" ["_law_script","_law_k"] (k8 K c m8))(G_l_tree:Own P w K mg base 7 "_law_tree" ["_law_box","_law_cells"] (k8 K c U6))(G_l_filled:Own P w K mg base 8 "_law_filled" ["_law_spots","_law_nodes","_law_cell_here"] (spT TB (k8 K c Q0)))(G_l_spoilt:Own P w K mg base 5 "_law_spoilt" ["_law_spots","_law_nodes","_law_ends","_law_cell_here","_law_many"] (spU K c 5 [1,2] J2))(G_l_told_twice:Own P w K mg base 3 "_law_told_twice" ["_law_spots","_law_ends","_law_order","_law_cell_here"] (spU K c 4 [1] A9))(G_l_some_out:Own P w K mg base 5 "_law_some_out" ["_law_ends","_law_order","_law_cell_here"] (spU K c 3 [0] C6))(G_l_joined:Own P w K mg base 3 "_law_joined" ["_law_nodes","_law_ends"] (k8 K c P9))(G_plan_fault:Own P w K mg base 7 "plan_fault" ["box","wares","plan"] (k8 K c K5))(G_l_fault:Own P w K mg base 5 "_law_fault" ["_law_box","_law_wares","_law_plan"] (k8 K c S0))(G_l_whole:Own P w K mg base 3 "_law_whole" ["_law_found"] (k8 K c O5)):FnOk P w K mg base (A6 P w) 10 f fd ["_law_script"] (spT TB (a4h K c)) :=
 (b3p F T G_l_long G_l_cell G_l_tree G_l_filled G_l_spoilt G_l_told_twice G_l_some_out G_l_joined G_plan_fault G_l_fault G_l_whole ).imp fun vs H Q E ⟨hT,a,ns,e,h,hb,hl,q⟩=>⟨hT,b2s e h q (main ns hl hb)⟩
def cOf(l:List (Str×Addr))(x:Str):Addr:=(l.lookup x).getD 0
abbrev cL(c0:Addr):=cOf [("BadTurn",c0)]
theorem all_mk{w:World}{K:PySem.W.Frag}{h:Heap}{mg:Str→Option Value}{fa:Addr}(X:K.In h)(G:h.Ns mainGlobals mg)(hfa:mg "law" = some (.ref fa)){q:Program}{loose:List Str}{mean:ExcName→Option Value}{mb:Str→Option Value}(Tp:PyProof.Rows.Top q loose mean mg mb h)
  {c0:Addr} {f_0:Addr} {oc_0 kV_0 dc_0 pm_0 cd_0 ct_0:Value} {od_0 an_0:Option Addr} {sl_0:Array (Option Value)} {f_1:Addr} {oc_1 kV_1 dc_1 pm_1 cd_1 ct_1:Value} {od_1 an_1:Option Addr} {sl_1:Array (Option Value)} {f_2:Addr} {oc_2 kV_2 dc_2 pm_2 cd_2 ct_2:Value} {od_2 an_2:Option Addr} {sl_2:Array (Option Value)} {f_3:Addr} {oc_3 kV_3 dc_3 pm_3 cd_3 ct_3:Value} {od_3 an_3:Option Addr} {sl_3:Array (Option Value)} {f_4:Addr} {oc_4 kV_4 dc_4 pm_4 cd_4 ct_4:Value} {od_4 an_4:Option Addr} {sl_4:Array (Option Value)} {f_5:Addr} {oc_5 kV_5 dc_5 pm_5 cd_5 ct_5:Value} {od_5 an_5:Option Addr} {sl_5:Array (Option Value)} {f_6:Addr} {oc_6 kV_6 dc_6 pm_6 cd_6 ct_6:Value} {od_6 an_6:Option Addr} {sl_6:Array (Option Value)} {f_7:Addr} {oc_7 kV_7 dc_7 pm_7 cd_7 ct_7:Value} {od_7 an_7:Option Addr} {sl_7:Array (Option Value)} {f_8:Addr} {oc_8 kV_8 dc_8 pm_8 cd_8 ct_8:Value} {od_8 an_8:Option Addr} {sl_8:Array (Option Value)} {f_9:Addr} {oc_9 kV_9 dc_9 pm_9 cd_9 ct_9:Value} {od_9 an_9:Option Addr} {sl_9:Array (Option Value)} {f_10:Addr} {oc_10 kV_10 dc_10 pm_10 cd_10 ct_10:Value} {od_10 an_10:Option Addr} {sl_10:Array (Option Value)} {f_11:Addr} {oc_11 kV_11 dc_11 pm_11 cd_11 ct_11:Value} {od_11 an_11:Option Addr} {sl_11:Array (Option Value)} {f_12:Addr} {oc_12 kV_12 dc_12 pm_12 cd_12 ct_12:Value} {od_12 an_12:Option Addr} {sl_12:Array (Option Value)} {f_13:Addr} {oc_13 kV_13 dc_13 pm_13 cd_13 ct_13:Value} {od_13 an_13:Option Addr} {sl_13:Array (Option Value)} {f_14:Addr} {oc_14 kV_14 dc_14 pm_14 cd_14 ct_14:Value} {od_14 an_14:Option Addr} {sl_14:Array (Option Value)} {f_15:Addr} {oc_15 kV_15 dc_15 pm_15 cd_15 ct_15:Value} {od_15 an_15:Option Addr} {sl_15:Array (Option Value)} {f_16:Addr} {oc_16 kV_16 dc_16 pm_16 cd_16 ct_16:Value} {od_16 an_16:Option Addr} {sl_16:Array (Option Value)} {f_17:Addr} {oc_17 kV_17 dc_17 pm_17 cd_17 ct_17:Value} {od_17 an_17:Option Addr} {sl_17:Array (Option Value)} {f_18:Addr} {oc_18 kV_18 dc_18 pm_18 cd_18 ct_18:Value} {od_18 an_18:Option Addr} {sl_18:Array (Option Value)} {f_19:Addr} {oc_19 kV_19 dc_19 pm_19 cd_19 ct_19:Value} {od_19 an_19:Option Addr} {sl_19:Array (Option Value)} {f_20:Addr} {oc_20 kV_20 dc_20 pm_20 cd_20 ct_20:Value} {od_20 an_20:Option Addr} {sl_20:Array (Option Value)} {f_21:Addr} {oc_21 kV_21 dc_21 pm_21 cd_21 ct_21:Value} {od_21 an_21:Option Addr} {sl_21:Array (Option Value)} {f_22:Addr} {oc_22 kV_22 dc_22 pm_22 cd_22 ct_22:Value} {od_22 an_22:Option Addr} {sl_22:Array (Option Value)} {f_23:Addr} {oc_23 kV_23 dc_23 pm_23 cd_23 ct_23:Value} {od_23 an_23:Option Addr} {sl_23:Array (Option Value)} {cc_l_filled Pt_l_filled:Addr} {oq_l_filled:Value} {oe_l_filled:Option Addr} {vs_l_filled:Array Value} {sm_l_filled:Array (Option Value)}
  (a_0:PySem.W.nsIn K mainGlobals "is_number_of" = some (some (.ref f_0)))
  (l_0:K.lookup f_0=some ⟨oc_0,od_0,.func (PySem.W.fnOf "is_number_of" "is_number_of" (u4 J6) (k6 J6) (d9 J6) .none kV_0 dc_0 pm_0 an_0 cd_0 ct_0),sl_0⟩)
  (c_0:PySem.W.codeIn K cd_0 "is_number_of" = true)
  (k_0:PySem.W.keepIn K (.ref f_0)=true)
  (a_1:PySem.W.nsIn K mainGlobals "sides_of" = some (some (.ref f_1)))
  (l_1:K.lookup f_1=some ⟨oc_1,od_1,.func (PySem.W.fnOf "sides_of" "sides_of" (u4 S7) (k6 S7) (d9 S7) .none kV_1 dc_1 pm_1 an_1 cd_1 ct_1),sl_1⟩)
  (c_1:PySem.W.codeIn K cd_1 "sides_of" = true)
  (k_1:PySem.W.keepIn K (.ref f_1)=true)
  (a_2:PySem.W.nsIn K mainGlobals "is_cut" = some (some (.ref f_2)))
  (l_2:K.lookup f_2=some ⟨oc_2,od_2,.func (PySem.W.fnOf "is_cut" "is_cut" (u4 Y3) (k6 Y3) (d9 Y3) .none kV_2 dc_2 pm_2 an_2 cd_2 ct_2),sl_2⟩)
  (c_2:PySem.W.codeIn K cd_2 "is_cut" = true)
  (k_2:PySem.W.keepIn K (.ref f_2)=true)
  (a_3:PySem.W.nsIn K mainGlobals "cut_side" = some (some (.ref f_3)))
  (l_3:K.lookup f_3=some ⟨oc_3,od_3,.func (PySem.W.fnOf "cut_side" "cut_side" (u4 S8) (k6 S8) (d9 S8) .none kV_3 dc_3 pm_3 an_3 cd_3 ct_3),sl_3⟩)
  (c_3:PySem.W.codeIn K cd_3 "cut_side" = true)
  (k_3:PySem.W.keepIn K (.ref f_3)=true)
  (a_4:PySem.W.nsIn K mainGlobals "cut_spots" = some (some (.ref f_4)))
  (l_4:K.lookup f_4=some ⟨oc_4,od_4,.func (PySem.W.fnOf "cut_spots" "cut_spots" (u4 Q4) (k6 Q4) (d9 Q4) .none kV_4 dc_4 pm_4 an_4 cd_4 ct_4),sl_4⟩)
  (c_4:PySem.W.codeIn K cd_4 "cut_spots" = true)
  (k_4:PySem.W.keepIn K (.ref f_4)=true)
  (a_5:PySem.W.nsIn K mainGlobals "nodes_of" = some (some (.ref f_5)))
  (l_5:K.lookup f_5=some ⟨oc_5,od_5,.func (PySem.W.fnOf "nodes_of" "nodes_of" (u4 S9) (k6 S9) (d9 S9) .none kV_5 dc_5 pm_5 an_5 cd_5 ct_5),sl_5⟩)
  (c_5:PySem.W.codeIn K cd_5 "nodes_of" = true)
  (k_5:PySem.W.keepIn K (.ref f_5)=true)
  (a_6:PySem.W.nsIn K mainGlobals "is_right_ware" = some (some (.ref f_6)))
  (l_6:K.lookup f_6=some ⟨oc_6,od_6,.func (PySem.W.fnOf "is_right_ware" "is_right_ware" (u4 G5) (k6 G5) (d9 G5) .none kV_6 dc_6 pm_6 an_6 cd_6 ct_6),sl_6⟩)
  (c_6:PySem.W.codeIn K cd_6 "is_right_ware" = true)
  (k_6:PySem.W.keepIn K (.ref f_6)=true)
  (a_7:PySem.W.nsIn K mainGlobals "plan_fault" = some (some (.ref f_7)))
  (l_7:K.lookup f_7=some ⟨oc_7,od_7,.func (PySem.W.fnOf "plan_fault" "plan_fault" (u4 N9) (k6 N9) (d9 N9) .none kV_7 dc_7 pm_7 an_7 cd_7 ct_7),sl_7⟩)
  (c_7:PySem.W.codeIn K cd_7 "plan_fault" = true)
  (k_7:PySem.W.keepIn K (.ref f_7)=true)
  (a_8:PySem.W.nsIn K mainGlobals "_law_whole" = some (some (.ref f_8)))
  (l_8:K.lookup f_8=some ⟨oc_8,od_8,.func (PySem.W.fnOf "_law_whole" "_law_whole" (u4 V2) (k6 V2) (d9 V2) .none kV_8 dc_8 pm_8 an_8 cd_8 ct_8),sl_8⟩)
  (c_8:PySem.W.codeIn K cd_8 "_law_whole" = true)
  (k_8:PySem.W.keepIn K (.ref f_8)=true)
  (a_9:PySem.W.nsIn K mainGlobals "_law_cell" = some (some (.ref f_9)))
  (l_9:K.lookup f_9=some ⟨oc_9,od_9,.func (PySem.W.fnOf "_law_cell" "_law_cell" (u4 Y4) (k6 Y4) (d9 Y4) .none kV_9 dc_9 pm_9 an_9 cd_9 ct_9),sl_9⟩)
  (c_9:PySem.W.codeIn K cd_9 "_law_cell" = true)
  (k_9:PySem.W.keepIn K (.ref f_9)=true)
  (a_10:PySem.W.nsIn K mainGlobals "_law_mix" = some (some (.ref f_10)))
  (l_10:K.lookup f_10=some ⟨oc_10,od_10,.func (PySem.W.fnOf "_law_mix" "_law_mix" (u4 a0y) (k6 a0y) (d9 a0y) .none kV_10 dc_10 pm_10 an_10 cd_10 ct_10),sl_10⟩)
  (c_10:PySem.W.codeIn K cd_10 "_law_mix" = true)
  (k_10:PySem.W.keepIn K (.ref f_10)=true)
  (a_11:PySem.W.nsIn K mainGlobals "_law_cut" = some (some (.ref f_11)))
  (l_11:K.lookup f_11=some ⟨oc_11,od_11,.func (PySem.W.fnOf "_law_cut" "_law_cut" (u4 a0z) (k6 a0z) (d9 a0z) .none kV_11 dc_11 pm_11 an_11 cd_11 ct_11),sl_11⟩)
  (c_11:PySem.W.codeIn K cd_11 "_law_cut" = true)
  (k_11:PySem.W.keepIn K (.ref f_11)=true)
  (a_12:PySem.W.nsIn K mainGlobals "_law_parts" = some (some (.ref f_12)))
  (l_12:K.lookup f_12=some ⟨oc_12,od_12,.func (PySem.W.fnOf "_law_parts" "_law_parts" (u4 V3) (k6 V3) (d9 V3) .none kV_12 dc_12 pm_12 an_12 cd_12 ct_12),sl_12⟩)
  (c_12:PySem.W.codeIn K cd_12 "_law_parts" = true)
  (k_12:PySem.W.keepIn K (.ref f_12)=true)
  (a_13:PySem.W.nsIn K mainGlobals "_law_tree" = some (some (.ref f_13)))
  (l_13:K.lookup f_13=some ⟨oc_13,od_13,.func (PySem.W.fnOf "_law_tree" "_law_tree" (u4 Y5) (k6 Y5) (d9 Y5) .none kV_13 dc_13 pm_13 an_13 cd_13 ct_13),sl_13⟩)
  (c_13:PySem.W.codeIn K cd_13 "_law_tree" = true)
  (k_13:PySem.W.keepIn K (.ref f_13)=true)
  (a_14:PySem.W.nsIn K mainGlobals "_law_joined" = some (some (.ref f_14)))
  (l_14:K.lookup f_14=some ⟨oc_14,od_14,.func (PySem.W.fnOf "_law_joined" "_law_joined" (u4 T2) (k6 T2) (d9 T2) .none kV_14 dc_14 pm_14 an_14 cd_14 ct_14),sl_14⟩)
  (c_14:PySem.W.codeIn K cd_14 "_law_joined" = true)
  (k_14:PySem.W.keepIn K (.ref f_14)=true)
  (a_15:PySem.W.nsIn K mainGlobals "_law_filled" = some (some (.ref f_15)))
  (l_15:K.lookup f_15=some ⟨oc_15,od_15,.func (PySem.W.fnOf "_law_filled" "_law_filled" (u4 F7) (k6 F7) (d9 F7) .none kV_15 dc_15 pm_15 an_15 cd_15 ct_15),sl_15⟩)
  (c_15:PySem.W.codeIn K cd_15 "_law_filled" = true)
  (k_15:PySem.W.keepIn K (.ref f_15)=true)
  (a_16:PySem.W.nsIn K mainGlobals "_law_long" = some (some (.ref f_16)))
  (l_16:K.lookup f_16=some ⟨oc_16,od_16,.func (PySem.W.fnOf "_law_long" "_law_long" (u4 Y6) (k6 Y6) (d9 Y6) .none kV_16 dc_16 pm_16 an_16 cd_16 ct_16),sl_16⟩)
  (c_16:PySem.W.codeIn K cd_16 "_law_long" = true)
  (k_16:PySem.W.keepIn K (.ref f_16)=true)
  (a_17:PySem.W.nsIn K mainGlobals "_law_end_spoilt" = some (some (.ref f_17)))
  (l_17:K.lookup f_17=some ⟨oc_17,od_17,.func (PySem.W.fnOf "_law_end_spoilt" "_law_end_spoilt" (u4 J7) (k6 J7) (d9 J7) .none kV_17 dc_17 pm_17 an_17 cd_17 ct_17),sl_17⟩)
  (c_17:PySem.W.codeIn K cd_17 "_law_end_spoilt" = true)
  (k_17:PySem.W.keepIn K (.ref f_17)=true)
  (a_18:PySem.W.nsIn K mainGlobals "_law_spoilt" = some (some (.ref f_18)))
  (l_18:K.lookup f_18=some ⟨oc_18,od_18,.func (PySem.W.fnOf "_law_spoilt" "_law_spoilt" (u4 T3) (k6 T3) (d9 T3) .none kV_18 dc_18 pm_18 an_18 cd_18 ct_18),sl_18⟩)
  (c_18:PySem.W.codeIn K cd_18 "_law_spoilt" = true)
  (k_18:PySem.W.keepIn K (.ref f_18)=true)
  (a_19:PySem.W.nsIn K mainGlobals "_law_end_fault" = some (some (.ref f_19)))
  (l_19:K.lookup f_19=some ⟨oc_19,od_19,.func (PySem.W.fnOf "_law_end_fault" "_law_end_fault" (u4 L5) (k6 L5) (d9 L5) .none kV_19 dc_19 pm_19 an_19 cd_19 ct_19),sl_19⟩)
  (c_19:PySem.W.codeIn K cd_19 "_law_end_fault" = true)
  (k_19:PySem.W.keepIn K (.ref f_19)=true)
  (a_20:PySem.W.nsIn K mainGlobals "_law_fault" = some (some (.ref f_20)))
  (l_20:K.lookup f_20=some ⟨oc_20,od_20,.func (PySem.W.fnOf "_law_fault" "_law_fault" (u4 V4) (k6 V4) (d9 V4) .none kV_20 dc_20 pm_20 an_20 cd_20 ct_20),sl_20⟩)
  (c_20:PySem.W.codeIn K cd_20 "_law_fault" = true)
  (k_20:PySem.W.keepIn K (.ref f_20)=true)
  (a_21:PySem.W.nsIn K mainGlobals "_law_told_twice" = some (some (.ref f_21)))
  (l_21:K.lookup f_21=some ⟨oc_21,od_21,.func (PySem.W.fnOf "_law_told_twice" "_law_told_twice" (u4 J8) (k6 J8) (d9 J8) .none kV_21 dc_21 pm_21 an_21 cd_21 ct_21),sl_21⟩)
  (c_21:PySem.W.codeIn K cd_21 "_law_told_twice" = true)
  (k_21:PySem.W.keepIn K (.ref f_21)=true)
  (a_22:PySem.W.nsIn K mainGlobals "_law_some_out" = some (some (.ref f_22)))
  (l_22:K.lookup f_22=some ⟨oc_22,od_22,.func (PySem.W.fnOf "_law_some_out" "_law_some_out" (u4 O0) (k6 O0) (d9 O0) .none kV_22 dc_22 pm_22 an_22 cd_22 ct_22),sl_22⟩)
  (c_22:PySem.W.codeIn K cd_22 "_law_some_out" = true)
  (k_22:PySem.W.keepIn K (.ref f_22)=true)
  (a_23:PySem.W.nsIn K mainGlobals "law" = some (some (.ref f_23)))
  (l_23:K.lookup f_23=some ⟨oc_23,od_23,.func (PySem.W.fnOf "law" "law" (u4 Z3) (k6 Z3) (d9 Z3) .none kV_23 dc_23 pm_23 an_23 cd_23 ct_23),sl_23⟩)
  (c_23:PySem.W.codeIn K cd_23 "law" = true)
  (k_23:PySem.W.keepIn K (.ref f_23)=true)
  (tc_l_filled:cd_15=.ref cc_l_filled)
  (tk_l_filled:K.lookup cc_l_filled=some ⟨oq_l_filled,oe_l_filled,.fields vs_l_filled,sm_l_filled⟩)
  (tp_l_filled:vs_l_filled.getD 11 .none=.ref Pt_l_filled)
  (tn_l_filled:K.lookup Pt_l_filled=none)
  (tr_l_filled:(PyProof.Rows.recsOf q).any (fun d=>d.name == "_law_filled")=true)
  (z_bool:PySem.W.nsIn K mainGlobals "bool" = some none)
  (z_int:PySem.W.nsIn K mainGlobals "int" = some none)
  (z_isinstance:PySem.W.nsIn K mainGlobals "isinstance" = some none)
  (z_len:PySem.W.nsIn K mainGlobals "len" = some none)
  (z_list:PySem.W.nsIn K mainGlobals "list" = some none)
  (z_max:PySem.W.nsIn K mainGlobals "max" = some none)
  (z_range:PySem.W.nsIn K mainGlobals "range" = some none)
  (z_sorted:PySem.W.nsIn K mainGlobals "sorted" = some none)
  (z_str:PySem.W.nsIn K mainGlobals "str" = some none)
  (z_tuple:PySem.W.nsIn K mainGlobals "tuple" = some none)
  (m_BadTurn:PySem.W.nsIn K mainGlobals "BadTurn" = some (some (.ref c0)))
  (x_BadTurn:PySem.W.excIn K c0 a5N "ValueError.__new__" = true)
  : ∃(fd:FuncData) (TB:List (Addr×Str)),(∀(s:Shared) (v:Value),BindsTo s fd ⟨[v],[]⟩ [("_law_script",v)])∧(∀Pa qq,TB.lookup Pa=some qq→(∃c,h.TableAt c Pa #[])∧K.lookup Pa=none)∧∃c:Str→Addr,∀base:Heap,K.In base→base.Ns mainGlobals mg→(∀b o,h.get? b=some o→o.cls≠.none→o.cls≠.type "list"→base.get? b=some o)→FnOk (PySem.Challenge.rw_cratefit_k58_first_fault_of_a_plan).prog w K mg base (A6 (PySem.Challenge.rw_cratefit_k58_first_fault_of_a_plan).prog w) 10 fa fd ["_law_script"] (spT TB (a4h K c)):=by
 have e:=hfa.symm.trans (PySem.W.mg_of X G a_23)
 cases e
 have T:Txt K mg (cL c0):=⟨PySem.W.mg_none_of X G z_bool,PySem.W.mg_none_of X G z_int,PySem.W.mg_none_of X G z_isinstance,PySem.W.mg_none_of X G z_len,PySem.W.mg_none_of X G z_list,PySem.W.mg_none_of X G z_max,PySem.W.mg_none_of X G z_range,PySem.W.mg_none_of X G z_sorted,PySem.W.mg_none_of X G z_str,PySem.W.mg_none_of X G z_tuple,PySem.W.mg_of X G m_BadTurn,x_BadTurn⟩
 have TT_l_filled:=b3Z Tp X tr_l_filled (PySem.W.mg_of X G a_15) l_15 tc_l_filled tk_l_filled tp_l_filled
 refine⟨PySem.W.fnOf "law" "law" (u4 Z3) (k6 Z3) (d9 Z3) .none kV_23 dc_23 pm_23 an_23 cd_23 ct_23,[(Pt_l_filled,("_law_filled.<locals>.<lambda>" : Str))],fun s v=>.of_eq rfl,fun Pa qq e=>?_,cOf [("BadTurn",c0)],fun base _ _ kp=>?_⟩
 ·simp only[List.lookup]at e
  split at e
  ·rename_i z;have z:=beq_iff_eq.mp z;subst z;exact⟨⟨_,TT_l_filled.1⟩,tn_l_filled⟩
  ·cases e
 have hL_l_filled:List.lookup Pt_l_filled [(Pt_l_filled,("_law_filled.<locals>.<lambda>" : Str))]=some "_law_filled.<locals>.<lambda>" := by simp[List.lookup]
 have F_0:=B1 (st:=J6) l_0 c_0 k_0
 have B_0:=F_0.binds (ps:=["wares","k"]) fun _ _ _ _ _ _ us hl=>match us,hl with | [_,_],_=>rfl
 have O_0:Own (PySem.Challenge.rw_cratefit_k58_first_fault_of_a_plan).prog w K mg base 3 "is_number_of" ["wares","k"] (k8 K (cL c0) A2):=⟨_,_,a4b F_0 T ,B_0,k_0,PySem.W.mg_of X G a_0⟩
 have F_1:=B1 (st:=S7) l_1 c_1 k_1
 have B_1:=F_1.binds (ps:=["ware","lie"]) fun _ _ _ _ _ _ us hl=>match us,hl with | [_,_],_=>rfl
 have O_1:Own (PySem.Challenge.rw_cratefit_k58_first_fault_of_a_plan).prog w K mg base 3 "sides_of" ["ware","lie"] (k8 K (cL c0) F8):=⟨_,_,a6N F_1 T ,B_1,k_1,PySem.W.mg_of X G a_1⟩
 have F_2:=B1 (st:=Y3) l_2 c_2 k_2
 have B_2:=F_2.binds (ps:=["plan"]) fun _ _ _ _ _ _ us hl=>match us,hl with | [_],_=>rfl
 have O_2:Own (PySem.Challenge.rw_cratefit_k58_first_fault_of_a_plan).prog w K mg base 3 "is_cut" ["plan"] (k8 K (cL c0) B0):=⟨_,_,a9M F_2 T ,B_2,k_2,PySem.W.mg_of X G a_2⟩
 have F_3:=B1 (st:=S8) l_3 c_3 k_3
 have B_3:=F_3.binds (ps:=["spot","plan"]) fun _ _ _ _ _ _ us hl=>match us,hl with | [_,_],_=>rfl
 have O_3:Own (PySem.Challenge.rw_cratefit_k58_first_fault_of_a_plan).prog w K mg base 3 "cut_side" ["spot","plan"] (k8 K (cL c0) B3):=⟨_,_,a6P F_3 T ,B_3,k_3,PySem.W.mg_of X G a_3⟩
 have F_4:=B1 (st:=Q4) l_4 c_4 k_4
 have B_4:=F_4.binds (ps:=["spot","plan"]) fun _ _ _ _ _ _ us hl=>match us,hl with | [_,_],_=>rfl
 have O_4:Own (PySem.Challenge.rw_cratefit_k58_first_fault_of_a_plan).prog w K mg base 3 "cut_spots" ["spot","plan"] (k8 K (cL c0) F9):=⟨_,_,a6l F_4 T ,B_4,k_4,PySem.W.mg_of X G a_4⟩
 have F_5:=B1 (st:=S9) l_5 c_5 k_5
 have B_5:=F_5.binds (ps:=["box","plan"]) fun _ _ _ _ _ _ us hl=>match us,hl with | [_,_],_=>rfl
 have O_5:Own (PySem.Challenge.rw_cratefit_k58_first_fault_of_a_plan).prog w K mg base 5 "nodes_of" ["box","plan"] (k8 K (cL c0) M3):=⟨_,_,a6Q F_5 T O_2 O_4,B_5,k_5,PySem.W.mg_of X G a_5⟩
 have F_6:=B1 (st:=G5) l_6 c_6 k_6
 have B_6:=F_6.binds (ps:=["wares","spot","leaf","stood"]) fun _ _ _ _ _ _ us hl=>match us,hl with | [_,_,_,_],_=>rfl
 have O_6:Own (PySem.Challenge.rw_cratefit_k58_first_fault_of_a_plan).prog w K mg base 5 "is_right_ware" ["wares","spot","leaf","stood"] (k8 K (cL c0) v5):=⟨_,_,a3p F_6 T O_0 O_1,B_6,k_6,PySem.W.mg_of X G a_6⟩
 have F_7:=B1 (st:=N9) l_7 c_7 k_7
 have B_7:=F_7.binds (ps:=["box","wares","plan"]) fun _ _ _ _ _ _ us hl=>match us,hl with | [_,_,_],_=>rfl
 have O_7:Own (PySem.Challenge.rw_cratefit_k58_first_fault_of_a_plan).prog w K mg base 7 "plan_fault" ["box","wares","plan"] (k8 K (cL c0) K5):=⟨_,_,a5g F_7 T O_5 O_3 O_2 O_6,B_7,k_7,PySem.W.mg_of X G a_7⟩
 have F_8:=B1 (st:=V2) l_8 c_8 k_8
 have B_8:=F_8.binds (ps:=["_law_found"]) fun _ _ _ _ _ _ us hl=>match us,hl with | [_],_=>rfl
 have O_8:Own (PySem.Challenge.rw_cratefit_k58_first_fault_of_a_plan).prog w K mg base 3 "_law_whole" ["_law_found"] (k8 K (cL c0) O5):=⟨_,_,a8D F_8 T ,B_8,k_8,PySem.W.mg_of X G a_8⟩
 have F_9:=B1 (st:=Y4) l_9 c_9 k_9
 have B_9:=F_9.binds (ps:=["_law_script","_law_k"]) fun _ _ _ _ _ _ us hl=>match us,hl with | [_,_],_=>rfl
 have O_9:Own (PySem.Challenge.rw_cratefit_k58_first_fault_of_a_plan).prog w K mg base 3 "_law_cell" ["_law_script","_law_k"] (k8 K (cL c0) m8):=⟨_,_,a9O F_9 T ,B_9,k_9,PySem.W.mg_of X G a_9⟩
 have F_10:=B1 (st:=a0y) l_10 c_10 k_10
 have B_10:=F_10.binds (ps:=["_law_cell_here","_law_k","_law_prime"]) fun _ _ _ _ _ _ us hl=>match us,hl with | [_,_,_],_=>rfl
 have O_10:Own (PySem.Challenge.rw_cratefit_k58_first_fault_of_a_plan).prog w K mg base 3 "_law_mix" ["_law_cell_here","_law_k","_law_prime"] (k8 K (cL c0) r6):=⟨_,_,b08 F_10 T ,B_10,k_10,PySem.W.mg_of X G a_10⟩
 have F_11:=B1 (st:=a0z) l_11 c_11 k_11
 have B_11:=F_11.binds (ps:=["_law_spot","_law_cell_here"]) fun _ _ _ _ _ _ us hl=>match us,hl with | [_,_],_=>rfl
 have O_11:Own (PySem.Challenge.rw_cratefit_k58_first_fault_of_a_plan).prog w K mg base 5 "_law_cut" ["_law_spot","_law_cell_here"] (k8 K (cL c0) V5):=⟨_,_,b09 F_11 T O_10,B_11,k_11,PySem.W.mg_of X G a_11⟩
 have F_12:=B1 (st:=V3) l_12 c_12 k_12
 have B_12:=F_12.binds (ps:=["_law_spot","_law_way","_law_at"]) fun _ _ _ _ _ _ us hl=>match us,hl with | [_,_,_],_=>rfl
 have O_12:Own (PySem.Challenge.rw_cratefit_k58_first_fault_of_a_plan).prog w K mg base 3 "_law_parts" ["_law_spot","_law_way","_law_at"] (k8 K (cL c0) y8):=⟨_,_,a8F F_12 T ,B_12,k_12,PySem.W.mg_of X G a_12⟩
 have F_13:=B1 (st:=Y5) l_13 c_13 k_13
 have B_13:=F_13.binds (ps:=["_law_box","_law_cells"]) fun _ _ _ _ _ _ us hl=>match us,hl with | [_,_],_=>rfl
 have O_13:Own (PySem.Challenge.rw_cratefit_k58_first_fault_of_a_plan).prog w K mg base 7 "_law_tree" ["_law_box","_law_cells"] (k8 K (cL c0) U6):=⟨_,_,a9P F_13 T O_11 O_12,B_13,k_13,PySem.W.mg_of X G a_13⟩
 have F_14:=B1 (st:=T2) l_14 c_14 k_14
 have B_14:=F_14.binds (ps:=["_law_nodes","_law_ends"]) fun _ _ _ _ _ _ us hl=>match us,hl with | [_,_],_=>rfl
 have O_14:Own (PySem.Challenge.rw_cratefit_k58_first_fault_of_a_plan).prog w K mg base 3 "_law_joined" ["_law_nodes","_law_ends"] (k8 K (cL c0) P9):=⟨_,_,a6R F_14 T ,B_14,k_14,PySem.W.mg_of X G a_14⟩
 have F_15:=B1 (st:=F7) l_15 c_15 k_15
 have B_15:=F_15.binds (ps:=["_law_spots","_law_nodes","_law_cell_here"]) fun _ _ _ _ _ _ us hl=>match us,hl with | [_,_,_],_=>rfl
 have O_15:Own (PySem.Challenge.rw_cratefit_k58_first_fault_of_a_plan).prog w K mg base 8 "_law_filled" ["_law_spots","_law_nodes","_law_cell_here"] (spT [(Pt_l_filled,("_law_filled.<locals>.<lambda>" : Str))] (k8 K (cL c0) Q0)):=⟨_,_,a6S F_15 T O_10 (tc_l_filled) (TT_l_filled.2 base kp).1 (TT_l_filled.2 base kp).2 hL_l_filled,B_15,k_15,PySem.W.mg_of X G a_15⟩
 have F_16:=B1 (st:=Y6) l_16 c_16 k_16
 have B_16:=F_16.binds (ps:=["_law_cell_here"]) fun _ _ _ _ _ _ us hl=>match us,hl with | [_],_=>rfl
 have O_16:Own (PySem.Challenge.rw_cratefit_k58_first_fault_of_a_plan).prog w K mg base 3 "_law_long" ["_law_cell_here"] (k8 K (cL c0) N2):=⟨_,_,a9R F_16 T ,B_16,k_16,PySem.W.mg_of X G a_16⟩
 have F_17:=B1 (st:=J7) l_17 c_17 k_17
 have B_17:=F_17.binds (ps:=["_law_end","_law_cell_here","_law_many"]) fun _ _ _ _ _ _ us hl=>match us,hl with | [_,_,_],_=>rfl
 have O_17:Own (PySem.Challenge.rw_cratefit_k58_first_fault_of_a_plan).prog w K mg base 3 "_law_end_spoilt" ["_law_end","_law_cell_here","_law_many"] (k8 K (cL c0) E9):=⟨_,_,a4e F_17 T ,B_17,k_17,PySem.W.mg_of X G a_17⟩
 have F_18:=B1 (st:=T3) l_18 c_18 k_18
 have B_18:=F_18.binds (ps:=["_law_spots","_law_nodes","_law_ends","_law_cell_here","_law_many"]) fun _ _ _ _ _ _ us hl=>match us,hl with | [_,_,_,_,_],_=>rfl
 have O_18:Own (PySem.Challenge.rw_cratefit_k58_first_fault_of_a_plan).prog w K mg base 5 "_law_spoilt" ["_law_spots","_law_nodes","_law_ends","_law_cell_here","_law_many"] (spU K (cL c0) 5 [1,2] J2):=⟨_,_,a6T F_18 T O_17,B_18,k_18,PySem.W.mg_of X G a_18⟩
 have F_19:=B1 (st:=L5) l_19 c_19 k_19
 have B_19:=F_19.binds (ps:=["_law_wares","_law_spot","_law_end","_law_told"]) fun _ _ _ _ _ _ us hl=>match us,hl with | [_,_,_,_],_=>rfl
 have O_19:Own (PySem.Challenge.rw_cratefit_k58_first_fault_of_a_plan).prog w K mg base 3 "_law_end_fault" ["_law_wares","_law_spot","_law_end","_law_told"] (k8 K (cL c0) z7):=⟨_,_,a4I F_19 T ,B_19,k_19,PySem.W.mg_of X G a_19⟩
 have F_20:=B1 (st:=V4) l_20 c_20 k_20
 have B_20:=F_20.binds (ps:=["_law_box","_law_wares","_law_plan"]) fun _ _ _ _ _ _ us hl=>match us,hl with | [_,_,_],_=>rfl
 have O_20:Own (PySem.Challenge.rw_cratefit_k58_first_fault_of_a_plan).prog w K mg base 5 "_law_fault" ["_law_box","_law_wares","_law_plan"] (k8 K (cL c0) S0):=⟨_,_,a8J F_20 T O_19 O_12,B_20,k_20,PySem.W.mg_of X G a_20⟩
 have F_21:=B1 (st:=J8) l_21 c_21 k_21
 have B_21:=F_21.binds (ps:=["_law_spots","_law_ends","_law_order","_law_cell_here"]) fun _ _ _ _ _ _ us hl=>match us,hl with | [_,_,_,_],_=>rfl
 have O_21:Own (PySem.Challenge.rw_cratefit_k58_first_fault_of_a_plan).prog w K mg base 3 "_law_told_twice" ["_law_spots","_law_ends","_law_order","_law_cell_here"] (spU K (cL c0) 4 [1] A9):=⟨_,_,a4f F_21 T ,B_21,k_21,PySem.W.mg_of X G a_21⟩
 have F_22:=B1 (st:=O0) l_22 c_22 k_22
 have B_22:=F_22.binds (ps:=["_law_ends","_law_order","_law_cell_here"]) fun _ _ _ _ _ _ us hl=>match us,hl with | [_,_,_],_=>rfl
 have O_22:Own (PySem.Challenge.rw_cratefit_k58_first_fault_of_a_plan).prog w K mg base 5 "_law_some_out" ["_law_ends","_law_order","_law_cell_here"] (spU K (cL c0) 3 [0] C6):=⟨_,_,a5i F_22 T O_10,B_22,k_22,PySem.W.mg_of X G a_22⟩
 have F_23:=B1 (st:=Z3) l_23 c_23 k_23
 exact b47 F_23 T O_16 O_9 O_13 O_15 O_18 O_21 O_22 O_14 O_7 O_20 O_8
end Law
namespace Law
open PySem L2 PyProof.Rows
theorem walk{q:Program}{loose:List Str}{XP:(Str→Option Value)→Heap→Prop}{YP:World→Heap→Prop}{d:DefRec}{K:Params→PySem.W.Frag}(hdf:d.params.defaults=[])(hY:∀(w:World) (h:Heap),YP w h→(K w.params).In h)
  (F:∀(w:World) (mg mb:Str→Option Value) (fa:Addr) (h:Heap) (mean:ExcName→Option Value),(K w.params).In h→h.Ns mainGlobals mg→mg d.name=some (.ref fa)→PyProof.Rows.Top q (PySem.W.looseW q loose) mean mg mb h →
   ∃(fd:FuncData) (TB:List (Addr×Str)),(∀(s:Shared) (u:Value),BindsTo s fd ⟨[u],[]⟩ [("_law_script",u)])∧(∀Pa qq,TB.lookup Pa=some qq→(∃c,h.TableAt c Pa #[])∧(K w.params).lookup Pa=none)∧∃c:Str→Addr,∀base:Heap,(K w.params).In base→base.Ns mainGlobals mg→(∀b o,h.get? b=some o→o.cls≠.none→o.cls≠.type "list"→base.get? b=some o)→FnOk (PySem.Challenge.rw_cratefit_k58_first_fault_of_a_plan).prog w (K w.params) mg base (A6 (PySem.Challenge.rw_cratefit_k58_first_fault_of_a_plan).prog w) 10 fa fd ["_law_script"] (spT TB (a4h (K w.params) c))) :
  PySem.W.WalkO q loose XP YP (PySem.Challenge.rw_cratefit_k58_first_fault_of_a_plan).row.toRowW d [] (fun f vs=>PySem.call f vs):=by
 refine L2.walk_ofT (l:=PySem.Challenge.rw_cratefit_k58_first_fault_of_a_plan) (n:=63) (k:=10) (x := "_law_script") (K:=K) (CX:=fun w=>A6 (PySem.Challenge.rw_cratefit_k58_first_fault_of_a_plan).prog w) (sp:=fun w vs H Q E=>∀c,a4h (K w.params) c vs H Q E) rfl (by decide) hdf ⟨rfl,by decide,by decide⟩ hY (fun w mg mb fa h mean KX G hm Tp=>?_) (fun w H a ns h1 h2 h3 c=>⟨a,ns,rfl,h3,h2,h1,fun _=>rfl⟩) fun w H s e s' z=>b4_ H s e s' z
 obtain⟨fd,TB,hb,hTb,c,hF⟩:=F w mg mb fa h mean KX G hm Tp
 exact⟨fd,TB,hb,hTb,fun base kb nb kp=>(hF base kb nb kp).imp fun vs H Q E z=>⟨z.1,z.2 c⟩⟩
end Law
local macro_rules|`(#check 0)=>do
 let g:=fun(n:Lean.Name)=>do
  let y:=Lean.mkIdent (.str `PySem.W.Fast s!"tw{n.hash}")
  `(theorem $y:ident : True:=trivial)
 let mut r:=#[←g `PySem.Challenge.pw_cratefit_k58_first_fault_of_a_plan]
 for x in ["sts_49","sts_64","sts_114","sts_198","heap_39","heap_46","heap_249","view_39","env_41","tree_47","tree_63","tree_113","tree_197","tree_248"]++(List.range 206).map (s!"o_{·+43}") do r:=r.push (←g (.str `PySem.Challenge.cw_cratefit_k58_first_fault_of_a_plan_holds x))
 return Lean.mkNullNode r
#check 0
open PySem.W
set_option maxRecDepth 100000 in
set_option maxHeartbeats 0 in
theorem PySem.Challenge.cw_cratefit_k58_first_fault_of_a_plan_holds : PySem.Challenge.rw_cratefit_k58_first_fault_of_a_plan.Holds := by
 w_on;o_law;k_head; (case hw=>w_witness2)
 k_fill
 refine Law.walk rfl (fun w h Y=>PySem.W.km_in_of Y) ?F
 case F =>
  intro w mg mb fa h mean KX G hmg Tp
  refine' Law.all_mk KX G hmg Tp ?a_is_number_of ?l_is_number_of ?c_is_number_of ?k_is_number_of ?a_sides_of ?l_sides_of ?c_sides_of ?k_sides_of ?a_is_cut ?l_is_cut ?c_is_cut ?k_is_cut ?a_cut_side ?l_cut_side ?c_cut_side ?k_cut_side ?a_cut_spots ?l_cut_spots ?c_cut_spots ?k_cut_spots ?a_nodes_of ?l_nodes_of ?c_nodes_of ?k_nodes_of ?a_is_right_ware ?l_is_right_ware ?c_is_right_ware ?k_is_right_ware ?a_plan_fault ?l_plan_fault ?c_plan_fault ?k_plan_fault ?a_l_whole ?l_l_whole ?c_l_whole ?k_l_whole ?a_l_cell ?l_l_cell ?c_l_cell ?k_l_cell ?a_l_mix ?l_l_mix ?c_l_mix ?k_l_mix ?a_l_cut ?l_l_cut ?c_l_cut ?k_l_cut ?a_l_parts ?l_l_parts ?c_l_parts ?k_l_parts ?a_l_tree ?l_l_tree ?c_l_tree ?k_l_tree ?a_l_joined ?l_l_joined ?c_l_joined ?k_l_joined ?a_l_filled ?l_l_filled ?c_l_filled ?k_l_filled ?a_l_long ?l_l_long ?c_l_long ?k_l_long ?a_l_end_spoilt ?l_l_end_spoilt ?c_l_end_spoilt ?k_l_end_spoilt ?a_l_spoilt ?l_l_spoilt ?c_l_spoilt ?k_l_spoilt ?a_l_end_fault ?l_l_end_fault ?c_l_end_fault ?k_l_end_fault ?a_l_fault ?l_l_fault ?c_l_fault ?k_l_fault ?a_l_told_twice ?l_l_told_twice ?c_l_told_twice ?k_l_told_twice ?a_l_some_out ?l_l_some_out ?c_l_some_out ?k_l_some_out ?a_law ?l_law ?c_law ?k_law ?tc_l_filled ?tk_l_filled ?tp_l_filled ?tn_l_filled ?tr_l_filled ?z_bool ?z_int ?z_isinstance ?z_len ?z_list ?z_max ?z_range ?z_sorted ?z_str ?z_tuple ?m_BadTurn ?x_BadTurn
  (case a_is_number_of=>k_is)
  (case l_is_number_of=>k_is)
  (case c_is_number_of=>k_is)
  (case k_is_number_of=>k_is)
  (case a_sides_of=>k_is)
  (case l_sides_of=>k_is)
  (case c_sides_of=>k_is)
  (case k_sides_of=>k_is)
  (case a_is_cut=>k_is)
  (case l_is_cut=>k_is)
  (case c_is_cut=>k_is)
  (case k_is_cut=>k_is)
  (case a_cut_side=>k_is)
  (case l_cut_side=>k_is)
  (case c_cut_side=>k_is)
  (case k_cut_side=>k_is)
  (case a_cut_spots=>k_is)
  (case l_cut_spots=>k_is)
  (case c_cut_spots=>k_is)
  (case k_cut_spots=>k_is)
  (case a_nodes_of=>k_is)
  (case l_nodes_of=>k_is)
  (case c_nodes_of=>k_is)
  (case k_nodes_of=>k_is)
  (case a_is_right_ware=>k_is)
  (case l_is_right_ware=>k_is)
  (case c_is_right_ware=>k_is)
  (case k_is_right_ware=>k_is)
  (case a_plan_fault=>k_is)
  (case l_plan_fault=>k_is)
  (case c_plan_fault=>k_is)
  (case k_plan_fault=>k_is)
  (case a_l_whole=>k_is)
  (case l_l_whole=>k_is)
  (case c_l_whole=>k_is)
  (case k_l_whole=>k_is)
  (case a_l_cell=>k_is)
  (case l_l_cell=>k_is)
  (case c_l_cell=>k_is)
  (case k_l_cell=>k_is)
  (case a_l_mix=>k_is)
  (case l_l_mix=>k_is)
  (case c_l_mix=>k_is)
  (case k_l_mix=>k_is)
  (case a_l_cut=>k_is)
  (case l_l_cut=>k_is)
  (case c_l_cut=>k_is)
  (case k_l_cut=>k_is)
  (case a_l_parts=>k_is)
  (case l_l_parts=>k_is)
  (case c_l_parts=>k_is)
  (case k_l_parts=>k_is)
  (case a_l_tree=>k_is)
  (case l_l_tree=>k_is)
  (case c_l_tree=>k_is)
  (case k_l_tree=>k_is)
  (case a_l_joined=>k_is)
  (case l_l_joined=>k_is)
  (case c_l_joined=>k_is)
  (case k_l_joined=>k_is)
  (case a_l_filled=>k_is)
  (case l_l_filled=>k_is)
  (case c_l_filled=>k_is)
  (case k_l_filled=>k_is)
  (case a_l_long=>k_is)
  (case l_l_long=>k_is)
  (case c_l_long=>k_is)
  (case k_l_long=>k_is)
  (case a_l_end_spoilt=>k_is)
  (case l_l_end_spoilt=>k_is)
  (case c_l_end_spoilt=>k_is)
  (case k_l_end_spoilt=>k_is)
  (case a_l_spoilt=>k_is)
  (case l_l_spoilt=>k_is)
  (case c_l_spoilt=>k_is)
  (case k_l_spoilt=>k_is)
  (case a_l_end_fault=>k_is)
  (case l_l_end_fault=>k_is)
  (case c_l_end_fault=>k_is)
  (case k_l_end_fault=>k_is)
  (case a_l_fault=>k_is)
  (case l_l_fault=>k_is)
  (case c_l_fault=>k_is)
  (case k_l_fault=>k_is)
  (case a_l_told_twice=>k_is)
  (case l_l_told_twice=>k_is)
  (case c_l_told_twice=>k_is)
  (case k_l_told_twice=>k_is)
  (case a_l_some_out=>k_is)
  (case l_l_some_out=>k_is)
  (case c_l_some_out=>k_is)
  (case k_l_some_out=>k_is)
  (case a_law=>k_is)
  (case l_law=>k_is)
  (case c_law=>k_is)
  (case k_law=>k_is)
  (case tc_l_filled=>exact rfl)
  (case tk_l_filled=>k_is)
  (case tp_l_filled=>exact rfl)
  (case tn_l_filled=>first | k_is | rfl | decide +kernel)
  (case tr_l_filled=>first | rfl | decide +kernel)
  (case z_bool=>k_is)
  (case z_int=>k_is)
  (case z_isinstance=>k_is)
  (case z_len=>k_is)
  (case z_list=>k_is)
  (case z_max=>k_is)
  (case z_range=>k_is)
  (case z_sorted=>k_is)
  (case z_str=>k_is)
  (case z_tuple=>k_is)
  (case m_BadTurn=>k_is)
  (case x_BadTurn=>kernel_rfl)
