import PyProof.Rows.All
import Wide.All
import OpenK.AllK
import Wide.FinOn
import Lean
import PyProof.EqAt
import PyProof.EqKinds
import PyProof.TupleCall
import KE.KLam
import KE.KSortKey
import PyProof.ListRange
import PyProof.CollectIter
import PyProof.Rows.RuleB_bool
import PySem.Challenge.RW_cratefit_k03_wares_in_order
set_option Elab.async false
set_option linter.all false
set_option maxRecDepth 100000
set_option hygiene false
namespace L2
open PySem PySem.Spec PyProof.Rows
abbrev D4:=Sum Int Str
def a5G:D4→Value→Bool
 | .inl k,v=>Value.isInt k v
 | .inr x,v=>Value.isStrOf x v
def a9H(w:World):D4→Int
 | .inl k=>hashInt k
 | .inr x=>hashStr w x
theorem n8:∀{k:D4} {v:Value},a5G k v=true→(∃i t,k=Sum.inl i∧v=Value.int i t)∨(∃x t,k=Sum.inr x∧v=Value.str x t)
 | .inl i,v,h=>by
  obtain⟨t,e⟩:=Value.isInt_shape (k:=i) (v:=v) h
  exact .inl ⟨i,t,rfl,e⟩
 | .inr x,v,h=>by
  obtain⟨t,e⟩:=Value.isStrOf_shape (x:=x) (v:=v) h
  exact .inr ⟨x,t,rfl,e⟩
theorem a7D(a b:Int):decide ((Sum.inl a:D4)=Sum.inl b)=(a == b):=by
 by_cases e:a=b
 ·subst e;simp
 ·have h:¬(Sum.inl a:D4)=Sum.inl b:=fun q=>e (Sum.inl.inj q)
  rw[decide_eq_false h]
  exact(beq_eq_false_iff_ne.mpr e).symm
theorem a7E(a b:Str):decide ((Sum.inr a:D4)=Sum.inr b)=decide (a=b):=by
 by_cases e:a=b
 ·subst e;simp
 ·have h:¬(Sum.inr a:D4)=Sum.inr b:=fun q=>e (Sum.inr.inj q)
  rw[decide_eq_false h,decide_eq_false e]
theorem a7F(a:Int)(b:Str):decide ((Sum.inl a:D4)=Sum.inr b)=false:=decide_eq_false (fun q=>nomatch q)
theorem a7G(a:Str)(b:Int):decide ((Sum.inr a:D4)=Sum.inl b)=false:=decide_eq_false (fun q=>nomatch q)
def a2N(prog:Program)(w:World):PySem.KeyKind prog w D4 where
 is:=a5G
 hash:=a9H w
 inj:=fun v a b ha hb=>by
  rcases n8 ha with⟨i,t,rfl,rfl⟩ | ⟨x,t,rfl,rfl⟩
  ·rcases n8 hb with⟨j,u,rfl,e⟩ | ⟨y,u,rfl,e⟩
   ·injection e with e1 _;rw[e1]
   ·exact nomatch e
  ·rcases n8 hb with⟨j,u,rfl,e⟩ | ⟨y,u,rfl,e⟩
   ·exact nomatch e
   ·injection e with e1 _;rw[e1]
 byValue:=fun k v h=>by
  rcases n8 h with⟨i,t,rfl,rfl⟩ | ⟨x,t,rfl,rfl⟩<;>rfl
 pyHash:=fun hv h=>by
  rcases n8 hv with⟨i,t,rfl,rfl⟩ | ⟨x,t,rfl,rfl⟩
  ·exact wpAny_pyHash_int h
  ·exact wpAny_pyHash_str h
 eqBool:=fun hu hv h=>by
  rcases n8 hu with⟨i,t,rfl,rfl⟩ | ⟨x,t,rfl,rfl⟩
  ·rcases n8 hv with⟨j,u,rfl,rfl⟩ | ⟨y,u,rfl,rfl⟩
   ·rw[a7D]at h;exact wpAny_eqBool_int h
   ·rw[a7F]at h;exact SeqAt.EqAt.int_str i t y u _ _ _ _ h
  ·rcases n8 hv with⟨j,u,rfl,rfl⟩ | ⟨y,u,rfl,rfl⟩
   ·rw[a7G]at h;exact SeqAt.EqAt.str_int x t j u _ _ _ _ h
   ·rw[a7E]at h;exact wpAny_eqBool_str h
 «strs» := fun k x t v h=>by
  rcases n8 h with⟨i,u,rfl,e⟩ | ⟨y,u,rfl,e⟩
  ·exact nomatch e
  ·injection e with e1 _
   subst e1
   cases v<;>rfl
inductive V where
 | non | bl (b:Bool) | int (i:Int) | str (x:Str) | byt (b:Array UInt8) | flt (b:UInt64) | ref (a:Addr) | ty (n:String)
 deriving DecidableEq
def RelV:V→Value→Prop
 | .non,u=>u=Value.none
 | .bl b,u=>u=Value.bool b
 | .int i,u=>∃t,u=Value.int i t
 | .str x,u=>∃t,u=Value.str x t
 | .byt b,u=>∃t,u=Value.bytes b t
 | .flt b,u=>∃t,u=Value.float b t
 | .ref a,u=>u=Value.ref a
 | .ty n,u=>u=Value.type n
abbrev Vals:List V→List Value→Prop:=Paired RelV
theorem Vals.length{xs:List V}{us:List Value}(r:Vals xs us):xs.length=us.length:=Paired.length r
theorem Vals.get:∀{xs:List V} {us:List Value} {i:Nat} {x:V},Vals xs us→xs[i]? = some x→∃u,us[i]? = some u∧RelV x u
 | _,_,_,_,.nil,e=>by simp at e
 | _,_,0,_,.cons r _,e=>by simp at e;subst e;exact⟨_,rfl,r⟩
 | _,_,i+1,x,.cons _ t,e=>by
  obtain⟨u,h1,h2⟩:=Vals.get (i:=i) (x:=x) t (by simpa using e)
  exact⟨u,by simpa using h1,h2⟩
theorem Vals.set{x:V}{u:Value}(r:RelV x u):∀{xs:List V} {us:List Value} (i:Nat),Vals xs us→Vals (xs.set i x) (us.set i u)
 | _,_,_,.nil=>.nil
 | _,_,0,.cons _ t=>.cons r t
 | _,_,i+1,.cons q t=>.cons q (Vals.set r i t)
theorem Vals.append:∀{xs ys:List V} {us ws:List Value},Vals xs us→Vals ys ws→Vals (xs++ys) (us++ws)
 | _,_,_,_,.nil,s=>s
 | _,_,_,_,.cons r t,s=>.cons r (Vals.append t s)
theorem Vals.take:∀{xs:List V} {us:List Value} (n:Nat),Vals xs us→Vals (xs.take n) (us.take n)
 | _,_,0,_=>.nil
 | _,_,_+1,.nil=>.nil
 | _,_,n+1,.cons r t=>.cons r (Vals.take n t)
theorem Vals.drop:∀{xs:List V} {us:List Value} (n:Nat),Vals xs us→Vals (xs.drop n) (us.drop n)
 | _,_,0,r=>r
 | _,_,_+1,.nil=>.nil
 | _,_,n+1,.cons _ t=>Vals.drop n t
def a4H:Option V→Option Value→Prop
 | some v,some u=>RelV v u
 | none,none=>True
 | _,_=>False
def KV{κ:Type}:List (κ×V)→List (κ×Value)→Prop:=Paired fun(p:κ×V) (q:κ×Value)=>p.1=q.1∧RelV p.2 q.2
def kV:D4→V
 | .inl i=>.int i
 | .inr x=>.str x
inductive HO where
 /-- a list -/
 | lst (xs:List V)
 /-- a tuple (never changes) -/
 | tup (xs:List V)
 /-- a dict whose keys are ints and texts; one whose keys are tuples of ints and texts (the empty one is both) -/
 | dK (kvs:List (D4×V)) | dT (kvs:List (List D4×V))
 /-- a set of ints: its members, its size -/
 | set (S:Int→Bool) (n:Nat)
 /-- an instance of the class at C, its dict at dx, its attributes -/
 | ins (C dx:Addr) (fs:List (Str×V))
 /-- the dict of the instance at x -/
 | own (x:Addr)
 /-- the dict of an exception -/
 | xd (fs:List (Str×V))
 /-- a bound method, f of x -/
 | met (f x:Addr)
 /-- a range object lo, lo + 1, .. below hi -/
 | rng (lo hi:Int)
 /-- a thing that is known to the object (the script; a dict while a loop walks it): read, never written while it is so -/
 | frz (o:Obj) (u:HO)
 /-- a code object's table -/
 | tbl (ps:Array Value)
 /-- any other thing, by what is true of its one object (a def of one's own: SetO a S n := HO.ext fun h => ..) -/
 | ext (φ:Heap→Prop)
abbrev Hp:=Addr→Option HO
def upd(H:Hp)(a:Addr)(o:HO):Hp:=fun b=>if b=a then some o else H b
theorem g7{H:Hp}{a:Addr}{o:HO}:upd H a o a=some o:=by unfold upd;rw[if_pos rfl]
theorem a8{H:Hp}{a b:Addr}{o:HO}(h:b≠a):upd H a o b=H b:=by unfold upd;rw[if_neg h]
theorem a9f{H:Hp}{a b:Addr}{o u:HO}(h:H a=some o)(h':H b=some u)(d:o≠u):a≠b:=by
 intro e;subst e;rw[h]at h';exact d (Option.some.inj h')
theorem d5{H:Hp}{a b:Addr}{o:HO}(h:H a=some o)(h':H b=none):a≠b:=by
 intro e;subst e;rw[h]at h';cases h'
section
variable (P:Program)(w:World)
def ObjOk(H:Hp)(h:Heap)(a:Addr):HO→Prop
 | .lst xs=>xs.length≤sizeLine∧∃(its:List Value) (n:Nat),Vals xs its∧h.get? a=some { cls:=.type "list",data:=.seq its.toArray n }
 | .tup xs=>xs.length≤sizeLine∧∃its:List Value,Vals xs its∧IsTup h a its.toArray
 | .dK kvs=>kvs.length≤sizeLine∧(a == sysModules)=false∧∃vs,KV kvs vs∧h.DictOf (a2N P w) a vs
 | .dT kvs=>kvs.length≤sizeLine∧(a == sysModules)=false∧∃xs:List (List D4×Addr×Value),
   Paired (fun(p:List D4×V) (q:List D4×Addr×Value)=>p.1=q.1∧H q.2.1=some (.tup (p.1.map kV))∧RelV p.2 q.2.2) kvs xs ∧
   ∃o es ep,h.get? a=some o∧o.ExactDict∧o.data=.dict es ep∧es.toList=xs.map (entryOfKey (tupleKind (a2N P w)))∧(xs.map (·.1)).Nodup
 | .set S n=>h.SetOf (intKind P w) a S n
 | .ins C dx fs=>H dx=some (.own a)∧fs.length≤1000∧dx≠a∧h.get? a=some (W.instObj C dx) ∧
   ∃mA,h.Ns1 dx mA∧(∀f,a4H (fs.lookup f) (mA f))∧PySem.Within mA (fs.map (·.1))
 | .own _=>∃o,h.get? a=some o
 | .xd fs=>∃mA,h.Ns1 a mA∧∀f,a4H (fs.lookup f) (mA f)
 | .rng lo hi=>∃t u v,h.get? a=some { cls:=.type "range",data:=.fields #[.int lo t,.int hi u,.int 1 v] }
 | .frz o u=>h.get? a=some o∧ObjOk H h a u
 | .tbl qs=>∃ps:Array Value,h.get? a=some { cls:=.none,data:=.fields ps }∧TriplesOk ps.toList∧∀pos cv,codeAmong pos ps.toList=some cv→∃c oc u,cv=Value.ref c∧H c=some (.frz oc u)∧∃vs q t t2,oc.data=.fields vs∧vs[1]? = some (Value.str q t2)∧qs[0]? = some (Value.str q t)
 | .met f x=>h.get? a=some (W.methodObj (.ref f) (.ref x))
 | .ext φ=>φ h∧(∃o,h.get? a=some o)∧∀h1 h2:Heap,φ h1→(∀o,h1.get? a=some o→h2.get? a=some o)→φ h2
def HOk(H:Hp)(h:Heap):Prop:=∀a o,H a=some o→ObjOk P w H h a o
end
section
variable {P:Program}{w:World}{H H':Hp}{h h':Heap}{a:Addr}{o:HO}
theorem ObjOk.lt(x:ObjOk P w H h a o):a<h.objs.size:=by
 cases o with
 | lst xs=>obtain⟨_,_,_,_,e⟩:=x;exact Heap.lt_size e
 | tup xs=>obtain⟨_,_,_,p⟩:=x;exact p.lt
 | dK kvs=>obtain⟨_,_,_,_,o,_,_,e,_⟩:=x;exact Heap.lt_size e
 | dT kvs=>obtain⟨_,_,_,_,o,_,_,e,_⟩:=x;exact Heap.lt_size e
 | set S n=>obtain⟨o,_,_,_,e,_⟩:=x;exact Heap.lt_size e
 | ins C dx fs=>obtain⟨_,_,_,e,_⟩:=x;exact Heap.lt_size e
 | own y=>obtain⟨_,e⟩:=x;exact Heap.lt_size e
 | xd fs=>obtain⟨_,⟨_,_,_,e,_⟩,_⟩:=x;exact Heap.lt_size e
 | rng lo hi=>obtain⟨_,_,_,e⟩:=x;exact Heap.lt_size e
 | frz ob u=>obtain⟨e,_⟩:=x;exact Heap.lt_size e
 | tbl ps=>obtain⟨_,e,_⟩:=x;exact Heap.lt_size e
 | met f y=>exact Heap.lt_size (show h.get? a=some _ from x)
 | ext φ=>obtain⟨_,⟨_,e⟩,_⟩:=x;exact Heap.lt_size e
theorem Paired.mapP{α β:Type}{F G:α→β→Prop}:∀{l₁:List α} {l₂:List β},Paired F l₁ l₂→(∀a b,F a b→G a b)→Paired G l₁ l₂
 | _,_,.nil,_=>.nil
 | _,_,.cons r t,f=>.cons (f _ _ r) (Paired.mapP t f)
theorem ObjOk.stay(x:ObjOk P w H h a o)(k:∀b u,(b=a∨H b=some (.own a))→h.get? b=some u→h'.get? b=some u)
  (ho:∀b,H b=some (.own a)→H' b=some (.own a)) (ht:∀b xs,H b=some (.tup xs)→H' b=some (.tup xs)) (hz:∀b ob u,H b=some (.frz ob u)→H' b=some (.frz ob u)):ObjOk P w H' h' a o:=by
 induction o with
 | lst xs=>obtain⟨z,its,n,r,e⟩:=x;exact⟨z,its,n,r,k _ _ (.inl rfl) e⟩
 | tup xs=>obtain⟨z,its,r,ob,e,c⟩:=x;exact⟨z,its,r,ob,k _ _ (.inl rfl) e,c⟩
 | dK kvs=>obtain⟨z,y,vs,r,ob,es,ep,e,c⟩:=x;exact⟨z,y,vs,r,ob,es,ep,k _ _ (.inl rfl) e,c⟩
 | dT kvs =>
  obtain⟨z,y,xs,r,ob,es,ep,e,c⟩:=x
  exact⟨z,y,xs,Paired.mapP r fun p q z=>⟨z.1,ht _ _ z.2.1,z.2.2⟩,ob,es,ep,k _ _ (.inl rfl) e,c⟩
 | set S n=>obtain⟨ob,es,ep,t,e,c⟩:=x;exact⟨ob,es,ep,t,k _ _ (.inl rfl) e,c⟩
 | ins C dx fs =>
  obtain⟨d,z,ne,e,mA,⟨od,es,ep,e2,c⟩,r⟩:=x
  exact⟨ho _ d,z,ne,k _ _ (.inl rfl) e,mA,⟨od,es,ep,k _ _ (.inr d) e2,c⟩,r⟩
 | own y=>obtain⟨ob,e⟩:=x;exact⟨ob,k _ _ (.inl rfl) e⟩
 | xd fs=>obtain⟨mA,⟨od,es,ep,e,c⟩,r⟩:=x;exact⟨mA,⟨od,es,ep,k _ _ (.inl rfl) e,c⟩,r⟩
 | rng lo hi=>obtain⟨t,u,v,e⟩:=x;exact⟨t,u,v,k _ _ (.inl rfl) e⟩
 | frz ob u ih=>obtain⟨e,q⟩:=x;exact⟨k _ _ (.inl rfl) e,ih q⟩
 | tbl qs =>
  obtain⟨ps,e,tr,al⟩:=x
  refine⟨ps,k a _ (.inl rfl) e,tr,fun pos cv q=>?_⟩
  obtain⟨c,oc,u,e1,e3,r⟩:=al pos cv q
  exact⟨c,oc,u,e1,hz _ _ _ e3,r⟩
 | met f y =>
  have e:h.get? a=some (W.methodObj (.ref f) (.ref y)):=x
  show h'.get? a=some (W.methodObj (.ref f) (.ref y))
  exact k a _ (.inl rfl) e
 | ext φ=>obtain⟨p,⟨o,e⟩,st⟩:=x;exact⟨st _ _ p fun o q=>k _ _ (.inl rfl) q,⟨o,k _ _ (.inl rfl) e⟩,st⟩
theorem HOk.lt(x:HOk P w H h)(e:H a=some o):a<h.objs.size:=(x a o e).lt
theorem HOk.fresh(x:HOk P w H h)(e:h.objs.size≤a):H a=none:=by
 cases q:H a with
 | none=>rfl
 | some u=>exact absurd (Nat.lt_of_lt_of_le (x.lt q) e) (Nat.lt_irrefl _)
theorem HOk.kept(x:HOk P w H h)(k:∀b u,h.get? b=some u→h'.get? b=some u):HOk P w H h':=fun a o e =>
 (x a o e).stay (fun b u _ q=>k b u q) (fun _ q=>q) (fun _ _ q=>q) fun _ _ _ q=>q
theorem HOk.laid(x:HOk P w H h)(k:∀b u,h.get? b=some u→h'.get? b=some u)(hp:h.objs.size≤a)(new:ObjOk P w (upd H a o) h' a o):HOk P w (upd H a o) h':=fun b u e=>by
 have hn:=x.fresh hp
 by_cases hb:b=a
 ·subst hb;rw[g7]at e;cases e;exact new
 ·rw[a8 hb]at e
  exact(x b u e).stay (fun c v _ q=>k c v q) (fun c q=>by rw[a8 (d5 q hn)];exact q) (fun c xs q=>by rw[a8 (d5 q hn)];exact q) fun c ob u q=>by rw[a8 (d5 q hn)];exact q
end
def Rd(H:Hp)(a:Addr)(u:HO):Prop:=H a=some u∨∃o,H a=some (.frz o u)
theorem Rd.of{H:Hp}{a:Addr}{u:HO}(h:H a=some u):Rd H a u:=.inl h
theorem Rd.ok{P:Program}{w:World}{H:Hp}{h:Heap}{a:Addr}{u:HO}(r:Rd H a u)(x:HOk P w H h):ObjOk P w H h a u:=by
 rcases r with r | ⟨o,r⟩
 ·exact x a u r
 ·obtain⟨_,q⟩:=x a _ r
  exact q
def Mut:Option HO→Prop
 | some (.lst _)=>True
 | some (.dK _)=>True
 | some (.dT _)=>True
 | some (.set _ _)=>True
 | some (.ins _ _ _)=>True
 | some (.ext _)=>True
 | _=>False
section
variable {P:Program}{w:World}{H:Hp}{h h':Heap}{x e:Addr}{o':HO}
theorem HOk.write(ok:HOk P w H h)(mu:Mut (H x))(he:e=x∨H e=some (.own x))(k:∀b u,b≠e→h.get? b=some u→h'.get? b=some u)(heo:∃u,h'.get? e=some u)
  (new:ObjOk P w (upd H x o') h' x o'):HOk P w (upd H x o') h':=fun b u q=>by
 have nown:∀c y,H c=some (.own y)→c≠x:=fun c y r z=>by subst z;rw[r]at mu;exact mu
 have ntup:∀c xs,H c=some (.tup xs)→c≠x:=fun c xs r z=>by subst z;rw[r]at mu;exact mu
 by_cases hb:b=x
 ·subst hb;rw[g7]at q;cases q;exact new
 ·rw[a8 hb]at q
  by_cases hbe:b=e
  ·have q':H b=some (.own x):=by
    rcases he with z | z
    ·exact absurd (hbe.trans z) hb
    ·rw[hbe];exact z
   rw[q]at q';cases q'
   obtain⟨v,hv⟩:=heo
   exact⟨v,by rw[hbe];exact hv⟩
  ·refine(ok b u q).stay (fun c v hc r=>k c v ?_ r) (fun c r=>by rw[a8 (nown c b r)];exact r) (fun c xs r=>by rw[a8 (ntup c xs r)];exact r) fun c ob u r=>by rw[a8 (fun z=>by subst z;rw[r]at mu;exact mu)];exact r
   rcases hc with rfl | hc
   ·exact hbe
   ·rintro rfl
    rcases he with z | z
    ·exact nown c b hc z
    ·rw[hc]at z;cases z;exact hb rfl
end
structure Un(fs ex:List Addr)(H H':Hp)(h h':Heap):Prop where
 keep:∀b o,h.get? b=some o→H b=none→b ∉ fs→b ∉ ex→h'.get? b=some o
 slot:∀b o,h.get? b=some o→H b=none→b∈fs→b ∉ ex→∃sl,h'.get? b=some { o with slots:=sl }
 free:∀b o,h.get? b=some o→H b=none→b ∉ ex→H' b=none
 there:∀b o,h.get? b=some o→b ∉ ex→∃o',h'.get? b=some o'
 tups:∀b xs,H b=some (.tup xs)→H' b=some (.tup xs)
 frzs:∀b o u,H b=some (.frz o u)→H' b=some (.frz o u)
 tbls:∀b ps,H b=some (.tbl ps)→∃more,H' b=some (.tbl (ps++more))
section
variable {fs fs' ex ex':List Addr}{H H1 H2:Hp}{h h1 h2 h':Heap}{a x e:Addr}{o:HO}
theorem Un.any(u:Un fs ex H H1 h h1){b:Addr}{ob:Obj}(q:h.get? b=some ob)(n:H b=none)(hx:b ∉ ex):∃sl,h1.get? b=some { ob with slots:=sl }:=by
 by_cases hb:b∈fs
 ·exact u.slot b ob q n hb hx
 ·exact⟨ob.slots,u.keep b ob q n hb hx⟩
theorem Un.trans(a:Un fs ex H H1 h h1)(b:Un fs ex H1 H2 h1 h2):Un fs ex H H2 h h2 where
 keep:=fun c ob q n hc hx=>b.keep c ob (a.keep c ob q n hc hx) (a.free c ob q n hx) hc hx
 slot:=fun c ob q n hc hx=>by
  obtain⟨sl,e1⟩:=a.slot c ob q n hc hx
  obtain⟨sl',e2⟩:=b.slot c _ e1 (a.free c ob q n hx) hc hx
  exact⟨sl',e2⟩
 free:=fun c ob q n hx=>by
  obtain⟨o',e1⟩:=a.there c ob q hx
  exact b.free c o' e1 (a.free c ob q n hx) hx
 there:=fun c ob q hx=>by
  obtain⟨o',e1⟩:=a.there c ob q hx
  exact b.there c o' e1 hx
 tups:=fun c xs q=>b.tups c xs (a.tups c xs q)
 frzs:=fun c ob xs q=>b.frzs c ob xs (a.frzs c ob xs q)
 tbls:=fun c ps q=>by
  obtain⟨m1,e1⟩:=a.tbls c ps q
  obtain⟨m2,e2⟩:=b.tbls c _ e1
  exact⟨m1++m2,by rw[e2,Array.append_assoc]⟩
theorem Un.kept(k:∀b u,h.get? b=some u→h'.get? b=some u):Un fs ex H H h h' :=
 ⟨fun b ob q _ _ _=>k b ob q,fun b ob q _ _ _=>⟨ob.slots,k b ob q⟩,fun _ _ _ n _=>n,fun b ob q _=>⟨ob,k b ob q⟩,fun _ _ q=>q,fun _ _ _ q=>q,fun _ ps q=>⟨#[],by rw[q];simp⟩⟩
theorem Un.refl:Un fs ex H H h h:=Un.kept fun _ _ q=>q
theorem Un.laid(k:∀b u,h.get? b=some u→h'.get? b=some u)(hp:h.objs.size≤a)(hn:H a=none):Un fs ex H (upd H a o) h h' where
 keep:=fun b u q _ _ _=>k b u q
 slot:=fun b u q _ _ _=>⟨u.slots,k b u q⟩
 free:=fun b u q n _=>by rw[a8 (Nat.ne_of_lt (Nat.lt_of_lt_of_le (Heap.lt_size q) hp))];exact n
 there:=fun b u q _=>⟨u,k b u q⟩
 tups:=fun b xs q=>by rw[a8 (d5 q hn)];exact q
 frzs:=fun b u xs q=>by rw[a8 (d5 q hn)];exact q
 tbls:=fun b ps q=>⟨#[],by rw[a8 (d5 q hn),q];simp⟩
theorem Un.write(mu:Mut (H x))(he:e=x∨H e=some (.own x))(k:∀b u,b≠e→h.get? b=some u→h'.get? b=some u)(heo:∃u,h'.get? e=some u):Un fs ex H (upd H x o) h h':=by
 have hx:∀b,H b=none→b≠x:=fun b n z=>by subst z;rw[n]at mu;exact mu
 have hb:∀b,H b=none→b≠e:=fun b n z=>by
  subst z
  rcases he with r | r
  ·exact hx b n r
  ·rw[n]at r;cases r
 have hm:∀b u,H b=some u→¬Mut (some u)→b≠x:=fun b u q nm z=>by subst z;rw[q]at mu;exact nm mu
 refine⟨fun b u q n _ _=>k b u (hb b n) q,fun b u q n _ _=>⟨u.slots,k b u (hb b n) q⟩,fun b u q n _=>by rw[a8 (hx b n)];exact n,fun b u q _=>?_,
  fun b xs q=>by rw[a8 (hm b _ q fun z=>z)];exact q,fun b u xs q=>by rw[a8 (hm b _ q fun z=>z)];exact q,fun b ps q=>⟨#[],by rw[a8 (hm b _ q fun z=>z),q];simp⟩⟩
 by_cases hbe:b=e
 ·subst hbe;exact heo
 ·exact⟨u,k b u hbe q⟩
theorem Un.mono(u:Un fs ex H H1 h h1)(hs:∀b∈fs,b∈fs')(hx:∀b∈ex,b∈ex'):Un fs' ex' H H1 h h1 :=
 ⟨fun b ob q n hb he=>u.keep b ob q n (fun z=>hb (hs b z)) fun z=>he (hx b z),fun _ _ q n _ he=>u.any q n fun z=>he (hx _ z),fun b ob q n he=>u.free b ob q n fun z=>he (hx b z),fun b ob q he=>u.there b ob q fun z=>he (hx b z),u.tups,u.frzs,u.tbls⟩
end
def trk(h:Heap)(H:Hp):List Addr:=(List.range h.objs.size).filter fun a=>(H a).isSome
def O7(h:Heap)(H:Hp):Heap:=W.hideAll h (trk h H)
theorem a3B(h:Heap)(H:Hp):(O7 h H).objs.size=h.objs.size:=W.hideAll_size _ _
theorem a4I{h:Heap}{H:Hp}{b:Addr}{o:Obj}(e:h.get? b=some o)(n:H b=none):(O7 h H).get? b=some o :=
 W.hideAll_get _ e fun hm=>by
  have q:(H b).isSome=true:=(List.mem_filter.mp hm).2
  rw[n]at q;simp at q
theorem a6h{h:Heap}{H:Hp}{b:Addr}{o:Obj}(e:(O7 h H).get? b=some o):h.get? b=some o∧H b=none:=by
 have e':h.get? b=some o:=W.of_hideAll (trk h H) e
 refine⟨e',?_⟩
 cases q:H b with
 | none=>rfl
 | some x =>
  have hm:b∈trk h H:=List.mem_filter.mpr ⟨List.mem_range.mpr (Heap.lt_size e'),by simp[q]⟩
  have z:(O7 h H).get? b=none:=W.hideAll_none (trk h H) hm
  rw[z]at e;cases e
def a6i(g h:Heap)(L:Addr):List (Addr×Obj):=(List.range h.objs.size).filterMap fun a=>if a=L∨(g.get? a).isSome=true then none else(h.get? a).map fun o=>(a,o)
def i4(g h:Heap)(L d:Addr):List (Addr×Obj):=(a6i g h L).filter fun p=>decide (p.1≠d)
structure Mod(K:W.Frag)(mg:Str→Option Value)(base:Heap):Prop where
 kin:K.In base
 glob:base.Ns mainGlobals mg
 blt:∃mb,base.Ns builtinsNs mb∧∀x:Str,x≠"__name__"→mb x=bootBuiltins x
 nolimit:base.NoLimit
structure Cx where
 prog:Program
 w:World
 K:W.Frag
 mg:Str→Option Value
 base:Heap
 A:Around
 N:List Str
 s₀:Shared
 H₀:Hp
 env:Env
 outer:List Env
 stack:List Env
 ex:List Addr
 fn:Str→Bool
 calm:Bool
 pn:List (Addr×Obj)
 xe:Value→Shared→Prop
def v8(l:List Env):List Addr:=l.filterMap (·.frame)
abbrev Cx.fs(X:Cx):List Addr:=v8 X.outer
def Vis(sc:Scope)(x:Str):Prop:=sc.names.lookup x=some .local∨sc.names.lookup x=some .cell∨sc.names.lookup x=some .free
def Loc(sc:Scope)(x:Str):Prop:=sc.names.lookup x=some .local∨sc.names.lookup x=some .cell
def a9I(env:Env)(h:Heap)(m:Str→Option Value)(x:Str)(u:Value):Prop :=
 (env.kindOf x=some .local∧m x=some u)∨((env.kindOf x=some .cell∨env.kindOf x=some .free)∧∃c,env.cells.lookup x=some c∧h.IsCell c (some u))
structure Cx.Ok(X:Cx):Prop where
 mod:Mod X.K X.mg X.base
 kind:X.env.scope.kind=.function
 glob:X.env.globals=mainGlobals
 blt:X.env.builtins=builtinsNs
 above:X.s₀.heap.objs.size≤X.env.locals
 inj:∀x y c,X.env.cells.lookup x=some c→X.env.cells.lookup y=some c→x=y
 has:∀x,(X.env.kindOf x=some .cell∨X.env.kindOf x=some .free)→∃c,X.env.cells.lookup x=some c
 cab:∀x c,X.fn x=true→X.env.cells.lookup x=some c→X.s₀.heap.objs.size≤c
 hd:X.calm=true→X.A.handled=none
 frames:X.A.frames=some X.stack
 stk:X.stack=X.outer∨(X.stack=X.env::X.outer∧X.env.frame=some X.env.locals)
 exf:∀b∈X.ex,b≠X.env.locals∧∀x c,X.env.cells.lookup x=some c→c≠b
 bs:∀b o,X.base.get? b=some o→X.s₀.heap.get? b=some o∧X.H₀ b=none
 bsz:X.base.objs.size≤X.s₀.heap.objs.size
 noex:∀b o,X.base.get? b=some o→b ∉ X.ex
 exfs:∀b∈X.ex,b ∉ X.fs
 funs:X.s₀.heap.FunFrames X.base X.outer
 frf:∀b∈X.fs,X.H₀ b=none
structure Inv(X:Cx)(pins:List (Addr×Obj))(σ:List (Option V))(H:Hp)(s:Shared):Prop where
 ok:X.Ok
 os:s.os=X.s₀.os
 bare:AllBare s.gens
 base:Un X.fs X.ex X.H₀ H X.s₀.heap s.heap
 loc:∃m,s.heap.Ns X.env.locals m∧∀(i:Nat) (x:Str) (v:V),X.N[i]? = some x→σ[i]? = some (some v)→Vis X.env.scope x→∃u,RelV v u∧a9I X.env s.heap m x u
 cell:∀x c,X.env.cells.lookup x=some c→∃v,s.heap.IsCell c v
 free:H X.env.locals=none
 freeC:∀x c,X.env.cells.lookup x=some c→H c=none
 pin:∀p∈X.pn++pins,s.heap.get? p.1=some p.2∧H p.1=none∧p.1≠X.env.locals∧p.1 ∉ X.fs∧∀v,p.2.data≠.cell v
 hok:HOk X.prog X.w H s.heap
 len:σ.length=X.N.length
section
variable {X:Cx}{pins:List (Addr×Obj)}{σ:List (Option V)}{H H':Hp}{s:Shared}{h':Heap}
theorem Cx.Ok.nofr(ok:X.Ok){b:Addr}{o:Obj}(e:X.base.get? b=some o):b ∉ X.fs:=fun hb=>by
 have:=(ok.funs.mem hb).1
 rw[e]at this;cases this
theorem Inv.bs(I:Inv X pins σ H s):∀b o,X.base.get? b=some o→s.heap.get? b=some o∧H b=none:=fun b o e =>
 ⟨I.base.keep b o (I.ok.bs b o e).1 (I.ok.bs b o e).2 (I.ok.nofr e) (I.ok.noex b o e),I.base.free b o (I.ok.bs b o e).1 (I.ok.bs b o e).2 (I.ok.noex b o e)⟩
theorem Inv.bk(I:Inv X pins σ H s):∀b o,X.base.get? b=some o→s.heap.get? b=some o:=fun b o e=>(I.bs b o e).1
theorem Inv.mod(I:Inv X pins σ H s):Mod X.K X.mg X.base:=I.ok.mod
theorem Inv.kIn(I:Inv X pins σ H s):X.K.In s.heap:=I.ok.mod.kin.keeps I.bk
theorem Inv.nolimit(I:Inv X pins σ H s):s.heap.NoLimit:=I.ok.mod.nolimit.keeps I.bk
theorem Inv.fr(I:Inv X pins σ H s):∃m,Fr X.base X.env.locals s.heap m :=
 let ⟨m,hn,_⟩:=I.loc
 ⟨m,hn,I.bk,Nat.le_trans I.ok.bsz I.ok.above⟩
theorem Inv.lt(I:Inv X pins σ H s):X.env.locals<s.heap.objs.size:=let ⟨_,hn,_⟩:=I.loc;hn.lt
theorem Inv.sz(I:Inv X pins σ H s):X.s₀.heap.objs.size≤s.heap.objs.size:=Nat.le_trans I.ok.above (Nat.le_of_lt I.lt)
theorem Inv.nofs(I:Inv X pins σ H s){a:Addr}(h:s.heap.objs.size≤a):a ∉ X.fs:=fun hb=>by
 obtain⟨_,o,ho,_⟩:=I.ok.funs.mem hb
 exact absurd (Nat.lt_of_lt_of_le (Heap.lt_size ho) (Nat.le_trans I.sz h)) (Nat.lt_irrefl _)
theorem Inv.cne(I:Inv X pins σ H s):∀x c,X.env.cells.lookup x=some c→c≠X.env.locals:=fun x c e z=>by
 obtain⟨v,o,ho,hd⟩:=I.cell x c e
 obtain⟨m,⟨o',es,ep,ho',hd',_⟩,_⟩:=I.loc
 rw[z,ho']at ho;cases ho;rw[hd']at hd;cases hd
theorem Inv.funs(I:Inv X pins σ H s):s.heap.FunFrames X.base X.outer:=by
 have all:∀(l:List Env),(∀b∈v8 l,b∈X.fs)→X.s₀.heap.FunFrames X.base l→s.heap.FunFrames X.base l:=by
  intro l
  induction l with
  | nil=>intro _ _;trivial
  | cons env r ih =>
   intro hs hl
   obtain⟨hk,⟨L,o,hf,hn,ho,hd⟩,hr⟩:=hl
   have hL:L∈X.fs:=hs L (by unfold v8;rw[List.filterMap_cons,hf];exact List.mem_cons_self)
   obtain⟨sl,e⟩:=I.base.slot L o ho (I.ok.frf L hL) hL fun z=>I.ok.exfs L z hL
   exact⟨hk,⟨L,_,hf,hn,e,hd⟩,ih (fun b hb=>hs b (by unfold v8;rw[List.filterMap_cons,hf];exact List.mem_cons_of_mem _ hb)) hr⟩
 exact all X.outer (fun _ hb=>hb) I.ok.funs
theorem Inv.stack(I:Inv X pins σ H s):s.heap.FunFrames X.base X.stack:=by
 rcases I.ok.stk with e | ⟨e,hf⟩
 ·rw[e];exact I.funs
 ·rw[e]
  obtain⟨m,hn,_⟩:=I.loc
  refine .cons (by rw[I.ok.kind];decide) hf hn ?_ I.funs
  exact Heap.get?_none_of_le (Nat.le_trans I.ok.bsz I.ok.above)
theorem Inv.stkSub(I:Inv X pins σ H s):∀b∈v8 X.stack,b∈X.env.locals::X.fs:=fun b hb=>by
 rcases I.ok.stk with e | ⟨e,hf⟩
 ·rw[e]at hb;exact List.mem_cons_of_mem _ hb
 ·rw[e]at hb
  unfold v8 at hb
  rw[List.filterMap_cons,hf]at hb
  exact hb
theorem Inv.stkFree(I:Inv X pins σ H s):∀b∈v8 X.stack,H b=none:=fun b hb=>by
 rcases List.mem_cons.mp (I.stkSub b hb)with e | hb
 ·rw[e];exact I.free
 ·obtain⟨_,o,ho,_⟩:=I.ok.funs.mem hb
  exact I.base.free b o ho (I.ok.frf b hb) fun z=>I.ok.exfs b z hb
theorem Inv.step{g':Array GenState}{t':Nat}{d':Drawn}{ch:List Addr}(I:Inv X pins σ H s)
  (hch:∀b∈ch,(b∈X.ex∨X.s₀.heap.objs.size≤b)∧b≠X.env.locals∧(∀x c,X.env.cells.lookup x=some c→c≠b)∧∀p∈X.pn++pins,p.1≠b)
  (keep:∀b o,b≠X.env.locals→b ∉ X.fs→b ∉ ch→s.heap.get? b=some o→H b=none→h'.get? b=some o)
  (slot:∀b o,b≠X.env.locals→b∈X.fs→b ∉ ch→s.heap.get? b=some o→H b=none→∃sl,h'.get? b=some { o with slots:=sl }) (free:∀b o,b ∉ ch→s.heap.get? b=some o→H b=none→H' b=none)
  (there:∀b o,b ∉ ch→s.heap.get? b=some o→∃o',h'.get? b=some o')
  (tups:∀b xs,H b=some (.tup xs)→H' b=some (.tup xs)) (frzs:∀b o u,H b=some (.frz o u)→H' b=some (.frz o u)) (tbls:∀b ps,H b=some (.tbl ps)→∃more,H' b=some (.tbl (ps++more)))
  (ns:∀m,s.heap.Ns X.env.locals m→h'.Ns X.env.locals m) (hok:HOk X.prog X.w H' h') (hg:AllBare g') :
  Inv X pins σ H' { s with heap:=h',gens:=g',drawn:=d',toks:=t' }:=by
 have neL:∀b o,X.s₀.heap.get? b=some o→b≠X.env.locals:=fun b o e=>Nat.ne_of_lt (Nat.lt_of_lt_of_le (Heap.lt_size e) I.ok.above)
 have neC:∀b o,X.s₀.heap.get? b=some o→b ∉ X.ex→b ∉ ch:=fun b o e hx hb=>by
  rcases(hch b hb).1 with z | z
  ·exact hx z
  ·exact absurd (Nat.lt_of_lt_of_le (Heap.lt_size e) z) (Nat.lt_irrefl _)
 have cellK:∀x c,X.env.cells.lookup x=some c→∀v,s.heap.IsCell c v→h'.IsCell c v:=fun x c e v ⟨o,ho,hd⟩=>by
  have nch:c ∉ ch:=fun z=>(hch c z).2.2.1 x c e rfl
  by_cases hc:c∈X.fs
  ·obtain⟨sl,q⟩:=slot c o (I.cne x c e) hc nch ho (I.freeC x c e)
   exact⟨_,q,hd⟩
  ·exact⟨o,keep c o (I.cne x c e) hc nch ho (I.freeC x c e),hd⟩
 refine⟨I.ok,I.os,hg,⟨fun b o e n hb hx=>?_,fun b o e n hb hx=>?_,fun b o e n hx=>?_,fun b o e hx=>?_,fun b xs e=>tups b xs (I.base.tups b xs e),fun b o xs e=>frzs b o xs (I.base.frzs b o xs e),fun b ps e=>?_⟩,?_,fun x c e=>?_,?_,fun x c e=>?_,fun p hp=>?_,hok,I.len⟩
 ·exact keep b o (neL b o e) hb (neC b o e hx) (I.base.keep b o e n hb hx) (I.base.free b o e n hx)
 ·obtain⟨sl,e1⟩:=I.base.slot b o e n hb hx
  obtain⟨sl',e2⟩:=slot b _ (neL b o e) hb (neC b o e hx) e1 (I.base.free b o e n hx)
  exact⟨sl',e2⟩
 ·obtain⟨o',e1⟩:=I.base.there b o e hx
  exact free b o' (neC b o e hx) e1 (I.base.free b o e n hx)
 ·obtain⟨o',e1⟩:=I.base.there b o e hx
  exact there b o' (neC b o e hx) e1
 ·obtain⟨m1,e1⟩:=I.base.tbls b ps e
  obtain⟨m2,e2⟩:=tbls b _ e1
  exact⟨m1++m2,by rw[e2,Array.append_assoc]⟩
 ·obtain⟨m,hn,hl⟩:=I.loc
  refine⟨m,ns m hn,fun i x v e1 e2 e3=>?_⟩
  obtain⟨u,r,l⟩:=hl i x v e1 e2 e3
  refine⟨u,r,?_⟩
  rcases l with l | ⟨k,c,e,z⟩
  ·exact .inl l
  ·exact .inr ⟨k,c,e,cellK x c e _ z⟩
 ·obtain⟨v,z⟩:=I.cell x c e
  exact⟨v,cellK x c e v z⟩
 ·obtain⟨m,⟨o,_,_,ho,_⟩,_⟩:=I.loc
  exact free _ o (fun z=>(hch _ z).2.1 rfl) ho I.free
 ·obtain⟨v,o,ho,hd⟩:=I.cell x c e
  exact free c o (fun z=>(hch c z).2.2.1 x c e rfl) ho (I.freeC x c e)
 ·obtain⟨e,n,ne,nf,d⟩:=I.pin p hp
  have nch:p.1 ∉ ch:=fun z=>(hch p.1 z).2.2.2 p hp rfl
  exact⟨keep p.1 p.2 ne nf nch e n,free p.1 p.2 nch e n,ne,nf,d⟩
theorem Inv.un{t':Nat}(I:Inv X pins σ H s)(u:Un X.fs [] H H' s.heap h')(hok:HOk X.prog X.w H' h'):Inv X pins σ H' { s with heap:=h',toks:=t' }:=by
 obtain⟨m,⟨o,es,ep,ho,r⟩,_⟩:=id I.loc
 obtain⟨sl,hL⟩:=u.any ho I.free (by simp)
 exact I.step (g':=s.gens) (d':=s.drawn) (ch:=[]) (fun _ z=>nomatch z) (fun b o _ hb _ e n=>u.keep b o e n hb (by simp)) (fun b o _ hb _ e n=>u.slot b o e n hb (by simp)) (fun b o _ e n=>u.free b o e n (by simp)) (fun b o _ e=>u.there b o e (by simp)) u.tups u.frzs u.tbls (fun m' hm=>by
  obtain⟨o',es',ep',ho',r'⟩:=hm
  rw[ho]at ho';cases ho'
  exact⟨_,es',ep',hL,r'⟩) hok I.bare
theorem Inv.call{g':Array GenState}{t':Nat}{d':Drawn}{ch:List Addr}(I:Inv X pins σ H s)(u:Un (v8 X.stack) ch H H' s.heap h')(hok:HOk X.prog X.w H' h')(hg:AllBare g')
  (hch:∀b∈ch,(b∈X.ex∨X.s₀.heap.objs.size≤b)∧b≠X.env.locals∧(∀x c,X.env.cells.lookup x=some c→c≠b)∧∀p∈X.pn++pins,p.1≠b) :
  Inv X pins σ H' { s with heap:=h',gens:=g',drawn:=d',toks:=t' }:=by
 obtain⟨m,⟨o,es,ep,ho,r⟩,_⟩:=id I.loc
 obtain⟨sl,hL⟩:=u.any ho I.free fun z=>(hch _ z).2.1 rfl
 exact I.step (ch:=ch) hch (fun b o hL hb hc e n=>u.keep b o e n (fun z=>(List.mem_cons.mp (I.stkSub b z)).elim hL hb) hc) (fun b o _ _ hc e n=>u.any e n hc) (fun b o hc e n=>u.free b o e n hc) (fun b o hc e=>u.there b o e hc) u.tups u.frzs u.tbls (fun m' hm=>by
  obtain⟨o',es',ep',ho',r'⟩:=hm
  rw[ho]at ho';cases ho'
  exact⟨_,es',ep',hL,r'⟩) hok hg
theorem Inv.turned{t':Nat}{it:Addr}(I:Inv X pins σ H s)(k:∀b o,b≠it→s.heap.get? b=some o→h'.get? b=some o)(hn:H it=none)(hL:it≠X.env.locals)
  (h1:it∈X.ex∨X.s₀.heap.objs.size≤it) (h2:∀x c,X.env.cells.lookup x=some c→c≠it) (h3:∀p∈X.pn++pins,p.1≠it):Inv X pins σ H { s with heap:=h',toks:=t' }:=by
 have nit:∀b u,H b=some u→b≠it:=fun b u e z=>by rw[z,hn]at e;cases e
 refine I.step (g':=s.gens) (d':=s.drawn) (ch:=[it]) (fun b hb=>?_) (fun b o _ _ hc e _=>k b o (fun z=>hc (by simp[z])) e) (fun b o _ _ hc e _=>⟨o.slots,k b o (fun z=>hc (by simp[z])) e⟩) (fun _ _ _ _ n=>n)
  (fun b o hc e=>⟨o,k b o (fun z=>hc (by simp[z])) e⟩) (fun _ _ e=>e) (fun _ _ _ e=>e) (fun b ps e=>⟨#[],by rw[e];simp⟩) (fun m hm=>?_) (fun b u e=>?_) I.bare
 ·have e:b=it:=by simpa using hb
  subst e
  exact⟨h1,hL,h2,h3⟩
 ·obtain⟨o,es,ep,ho,r⟩:=hm
  exact⟨o,es,ep,k _ o (Ne.symm hL) ho,r⟩
 ·refine(I.hok b u e).stay (fun c v hc q=>k c v ?_ q) (fun _ q=>q) (fun _ _ q=>q) fun _ _ _ q=>q
  rcases hc with z | z
  ·rw[z];exact nit b u e
  ·exact nit c _ z
theorem Inv.tok(I:Inv X pins σ H s)(t:Nat):Inv X pins σ H { s with toks:=t }:=I.un (h':=s.heap) (t':=t) Un.refl I.hok
theorem Inv.kept{t':Nat}(I:Inv X pins σ H s)(k:∀b u,s.heap.get? b=some u→h'.get? b=some u):Inv X pins σ H { s with heap:=h',toks:=t' }:=I.un (Un.kept k) (I.hok.kept k)
theorem Inv.laid{a:Addr}{o:HO}{t':Nat}(I:Inv X pins σ H s)(k:∀b u,s.heap.get? b=some u→h'.get? b=some u)(hp:s.heap.objs.size≤a)(new:ObjOk X.prog X.w (upd H a o) h' a o) :
  Inv X pins σ (upd H a o) { s with heap:=h',toks:=t' }:=I.un (Un.laid k hp (I.hok.fresh hp)) (I.hok.laid k hp new)
theorem Inv.write{x e:Addr}{o:HO}{t':Nat}(I:Inv X pins σ H s)(mu:Mut (H x))(he:e=x∨H e=some (.own x))(k:∀b u,b≠e→s.heap.get? b=some u→h'.get? b=some u)(heo:∃u,h'.get? e=some u)
  (new:ObjOk X.prog X.w (upd H x o) h' x o):Inv X pins σ (upd H x o) { s with heap:=h',toks:=t' }:=I.un (Un.write mu he k heo) (I.hok.write mu he k heo new)
theorem Inv.weak{σ':List (Option V)}(I:Inv X pins σ H s)(hl:σ'.length=σ.length)(w:∀(i:Nat) v,σ'[i]? = some (some v)→σ[i]? = some (some v)):Inv X pins σ' H s :=
 ⟨I.ok,I.os,I.bare,I.base,let ⟨m,hn,hl'⟩:=I.loc; ⟨m,hn,fun i x v e1 e2 e3=>hl' i x v e1 (w i v e2) e3⟩,I.cell,I.free,I.freeC,I.pin,I.hok,hl.trans I.len⟩
theorem Inv.pins_of{pins':List (Addr×Obj)}(I:Inv X pins σ H s)(h:∀p∈pins',s.heap.get? p.1=some p.2∧H p.1=none∧p.1≠X.env.locals∧p.1 ∉ X.fs∧∀v,p.2.data≠.cell v):Inv X pins' σ H s :=
 ⟨I.ok,I.os,I.bare,I.base,I.loc,I.cell,I.free,I.freeC,fun p hp=>(List.mem_append.mp hp).elim (fun z=>I.pin p (List.mem_append_left _ z)) (h p),I.hok,I.len⟩
theorem a1G{N:List Str}(hN:N.Nodup){i j:Nat}{x:Str}(a:N[i]? = some x)(b:N[j]? = some x):i=j:=by
 obtain⟨h1,e1⟩:=List.getElem?_eq_some_iff.mp a
 obtain⟨h2,e2⟩:=List.getElem?_eq_some_iff.mp b
 exact(List.getElem_inj hN).mp (e1.trans e2.symm)
theorem a09{M:Model}{A:Around}{E:Value→Shared→Prop}{i:Nat}{x:Str}{v:V}{u:Value}{Q:Unit→Shared→Prop}(I:Inv X pins σ H s)(hN:X.N.Nodup)(hi:X.N[i]? = some x)(hx:Loc X.env.scope x)(r:RelV v u)
  (h:∀s',Inv X pins (σ.set i (some v)) H s'→(∃a,Heap.SameBut a s.heap s'.heap∧(a=X.env.locals∨X.env.cells.lookup x=some a))→Q () s') (hf:X.fn x=true∨X.env.scope.names.lookup x=some .local:=by first | exact .inl rfl | exact .inr rfl | assumption):wpAny M A (storeName X.env x u) Q E s:=by
 obtain⟨m,hn,hl⟩:=id I.loc
 have hcls:(X.env.scope.kind == .class || (X.env.scope.kind == .module && X.env.locals != X.env.globals))=false:=by rw[I.ok.kind];rfl
 have hiσ:i<σ.length:=by rw[I.len];exact(List.getElem?_eq_some_iff.mp hi).1
 have cne:=I.cne
 have tracked:∀{a:Addr} {h':Heap},(∃o,s.heap.get? a=some o∧H a=none)→Heap.SameBut a s.heap h'→HOk X.prog X.w H h':=fun{a h'} ha hs b ob e=>by
  obtain⟨_,_,hfree⟩:=ha
  refine(I.hok b ob e).stay (fun c w' hc q=>(hs.2 c ?_).trans q) (fun _ q=>q) (fun _ _ q=>q) fun _ _ _ q=>q
  rintro rfl
  rcases hc with rfl | hc
  ·rw[hfree]at e;cases e
  ·rw[hfree]at hc;cases hc
 rcases hx with hk | hk
 ·refine wpAny_storeName_local hk hn (fun h' hn' hs=>?_) hcls
  obtain⟨oL,_,_,hoL,_⟩:=id hn
  refine h _ ⟨I.ok,I.os,I.bare,⟨fun b o e n hb hx=>?_,fun b o e n hb hx=>?_,I.base.free,fun b o e hx=>?_,I.base.tups,I.base.frzs,I.base.tbls⟩,⟨_,hn',fun j y v' e1 e2 e3=>?_⟩,fun y c e=>?_,I.free,I.freeC,fun p hp=>?_,tracked ⟨oL,hoL,I.free⟩ hs,by simpa using I.len⟩ ⟨_,hs,.inl rfl⟩
  ·exact(hs.2 b (Nat.ne_of_lt (Nat.lt_of_lt_of_le (Heap.lt_size e) I.ok.above))).trans (I.base.keep b o e n hb hx)
  ·obtain⟨sl,e1⟩:=I.base.slot b o e n hb hx
   exact⟨sl,(hs.2 b (Nat.ne_of_lt (Nat.lt_of_lt_of_le (Heap.lt_size e) I.ok.above))).trans e1⟩
  ·obtain⟨o',e1⟩:=I.base.there b o e hx
   exact⟨o',(hs.2 b (Nat.ne_of_lt (Nat.lt_of_lt_of_le (Heap.lt_size e) I.ok.above))).trans e1⟩
  ·by_cases hj:j=i
   ·subst hj
    rw[hi]at e1;cases e1
    rw[List.getElem?_set_self hiσ]at e2
    cases e2
    exact⟨u,r,.inl ⟨hk,by simp⟩⟩
   ·rw[List.getElem?_set_ne (Ne.symm hj)]at e2
    obtain⟨u',r',q⟩:=hl j y v' e1 e2 e3
    refine⟨u',r',?_⟩
    rcases q with⟨k,e⟩ | ⟨k,c,e,z⟩
    ·refine .inl ⟨k,?_⟩
     have:y≠x:=fun e=>hj (a1G hN e1 (e▸hi))
     simp[this,e]
    ·exact .inr ⟨k,c,e,z.sameBut hs (cne y c e)⟩
  ·obtain⟨w',z⟩:=I.cell y c e
   exact⟨w',z.sameBut hs (cne y c e)⟩
  ·obtain⟨e,n,ne,nf,d⟩:=I.pin p hp
   exact⟨(hs.2 p.1 ne).trans e,n,ne,nf,d⟩
 ·have hfn:X.fn x=true:=by
   rcases hf with z | z
   ·exact z
   ·rw[z]at hk;cases hk
  obtain⟨c,hc⟩:=I.ok.has x (.inl hk)
  obtain⟨w',z⟩:=I.cell x c hc
  refine wpAny_storeName_cell I.ok.kind hk hc z (fun h' hc' hs=>?_)
  obtain⟨oc,hoc,hocd⟩:=id z
  refine h { s with heap:=h' } ⟨I.ok,I.os,I.bare,⟨fun b o e n hb hx=>?_,fun b o e n hb hx=>?_,I.base.free,fun b o e hx=>?_,I.base.tups,I.base.frzs,I.base.tbls⟩,⟨m,hn.sameBut hs (Ne.symm (cne x c hc)),fun j y v' e1 e2 e3=>?_⟩,fun y c' e=>?_,I.free,I.freeC,fun p hp=>?_,tracked ⟨oc,hoc,I.freeC x c hc⟩ hs,by simpa using I.len⟩ ⟨c,hs,.inr hc⟩
  ·exact(hs.2 b (Nat.ne_of_lt (Nat.lt_of_lt_of_le (Heap.lt_size e) (I.ok.cab x c hfn hc)))).trans (I.base.keep b o e n hb hx)
  ·obtain⟨sl,e1⟩:=I.base.slot b o e n hb hx
   exact⟨sl,(hs.2 b (Nat.ne_of_lt (Nat.lt_of_lt_of_le (Heap.lt_size e) (I.ok.cab x c hfn hc)))).trans e1⟩
  ·obtain⟨o',e1⟩:=I.base.there b o e hx
   exact⟨o',(hs.2 b (Nat.ne_of_lt (Nat.lt_of_lt_of_le (Heap.lt_size e) (I.ok.cab x c hfn hc)))).trans e1⟩
  ·by_cases hj:j=i
   ·subst hj
    rw[hi]at e1;cases e1
    rw[List.getElem?_set_self hiσ]at e2
    cases e2
    exact⟨u,r,.inr ⟨.inl hk,c,hc,hc'⟩⟩
   ·rw[List.getElem?_set_ne (Ne.symm hj)]at e2
    obtain⟨u',r',q⟩:=hl j y v' e1 e2 e3
    refine⟨u',r',?_⟩
    rcases q with q | ⟨k,c',e,z'⟩
    ·exact .inl q
    ·refine .inr ⟨k,c',e,z'.sameBut hs ?_⟩
     rintro rfl
     exact hj (a1G hN e1 (I.ok.inj _ _ _ e hc▸hi))
  ·by_cases hcc:c'=c
   ·subst hcc;exact⟨_,hc'⟩
   ·obtain⟨w2,z2⟩:=I.cell y c' e
    exact⟨w2,z2.sameBut hs hcc⟩
  ·obtain⟨e,n,ne,nf,d⟩:=I.pin p hp
   refine⟨(hs.2 p.1 ?_).trans e,n,ne,nf,d⟩
   intro q
   rw[q,hoc]at e
   have q':oc=p.2:=Option.some.inj e
   exact d w' (by rw[← q'];exact hocd)
theorem a1H{M:Model}{A:Around}{E:Value→Shared→Prop}{i:Nat}{x:Str}{v:V}{u:Value}{Q:Unit→Shared→Prop}(I:Inv X pins σ H s)(hN:X.N.Nodup)(hi:X.N[i]? = some x)(hx:Loc X.env.scope x)(r:RelV v u)
  (h:∀s',Inv X pins (σ.set i (some v)) H s'→Q () s') (hf:X.fn x=true∨X.env.scope.names.lookup x=some .local:=by first | exact .inl rfl | exact .inr rfl | assumption):wpAny M A (storeName X.env x u) Q E s :=
 a09 I hN hi hx r (fun s' I' _=>h s' I') hf
theorem Inv.call'{s':Shared}{ch:List Addr}(I:Inv X pins σ H s)(ho:s'.os=s.os)(u:Un (v8 X.stack) ch H H' s.heap s'.heap)(hok:HOk X.prog X.w H' s'.heap)(hg:AllBare s'.gens)
  (hch:∀b∈ch,(b∈X.ex∨X.s₀.heap.objs.size≤b)∧b≠X.env.locals∧(∀x c,X.env.cells.lookup x=some c→c≠b)∧∀p∈X.pn++pins,p.1≠b):Inv X pins σ H' s':=by
 obtain⟨h',g',d',t',o'⟩:=s'
 have e:o'=s.os:=ho
 subst e
 exact I.call (g':=g') (t':=t') (d':=d') u hok hg hch
end
abbrev XK:=Value→Option Addr→Hp→Prop
abbrev St:=List (Option V)
abbrev VK:=V→Hp→Prop
abbrev TE:=St→Hp→VK→Prop
abbrev TT:=St→Hp→(Bool→Hp→Prop)→Prop
abbrev TA:=St→Hp→(List V→Hp→Prop)→Prop
structure Ends where
 nx:St→Hp→Prop
 rt:VK
 bk:St→Hp→Prop:=fun _ _=>False
 ct:St→Hp→Prop:=fun _ _=>False
abbrev TS:=Ends→St→Hp→Prop
def EP(X:Cx)(pins:List (Addr×Obj))(σ:St)(Q:VK)(u:Value)(s':Shared):Prop:=∃v H',Inv X pins σ H' s'∧RelV v u∧Q v H'
def TP(X:Cx)(pins:List (Addr×Obj))(σ:St)(Q:Bool→Hp→Prop)(b:Bool)(s':Shared):Prop:=∃H',Inv X pins σ H' s'∧Q b H'
def AP(X:Cx)(pins:List (Addr×Obj))(σ:St)(Q:List V→Hp→Prop)(us:List Value)(s':Shared):Prop:=∃vs H',Inv X pins σ H' s'∧Vals vs us∧Q vs H'
def SP(X:Cx)(pins:List (Addr×Obj))(D:Ends)(f:Flow)(s':Shared):Prop :=
 match f with
 | .next=>∃σ' H',Inv X pins σ' H' s'∧D.nx σ' H'
 | .brk=>∃σ' H',Inv X pins σ' H' s'∧D.bk σ' H'
 | .cont=>∃σ' H',Inv X pins σ' H' s'∧D.ct σ' H'
 | .ret u=>∃v σ' H',Inv X pins σ' H' s'∧RelV v u∧D.rt v H'
def PE(X:Cx)(e:Expr)(t:TE):Prop :=
 ∀(pins:List (Addr×Obj)) (s:Shared) (σ:St) (H:Hp) (Q:VK),Inv X pins σ H s→t σ H Q→wpAny (model X.prog X.w) X.A (eval e X.env) (EP X pins σ Q) X.xe s
def PT(X:Cx)(e:Expr)(t:TT):Prop :=
 ∀(pins:List (Addr×Obj)) (s:Shared) (σ:St) (H:Hp) (Q:Bool→Hp→Prop),Inv X pins σ H s→t σ H Q→wpAny (model X.prog X.w) X.A (isTrue e X.env (eval e X.env)) (TP X pins σ Q) X.xe s
def PW(X:Cx)(e:Expr)(t:TT):Prop :=
 ∀(whole:Sem Value) (pins:List (Addr×Obj)) (s:Shared) (σ:St) (H:Hp) (Q:Bool→Hp→Prop),Inv X pins σ H s→t σ H Q→wpAny (model X.prog X.w) X.A (isTrue e X.env whole) (TP X pins σ Q) X.xe s
theorem PW.pt{X:Cx}{e:Expr}{t:TT}(h:PW X e t):PT X e t:=h _
def PA(X:Cx)(es:List Expr)(t:TA):Prop :=
 ∀(pos:Pos) (pins:List (Addr×Obj)) (s:Shared) (σ:St) (H:Hp) (Q:List V→Hp→Prop),Inv X pins σ H s→t σ H Q→wpAny (model X.prog X.w) X.A (spliced (backTo pos (starEach es X.env))) (AP X pins σ Q) X.xe s
def PS(X:Cx)(st:Stmt)(t:TS):Prop :=
 ∀(pins:List (Addr×Obj)) (s:Shared) (σ:St) (H:Hp) (D:Ends),Inv X pins σ H s→t D σ H→wpAny (model X.prog X.w) X.A (exec st X.env) (SP X pins D) X.xe s
def PSs(X:Cx)(st:List Stmt)(t:TS):Prop :=
 ∀(pins:List (Addr×Obj)) (s:Shared) (σ:St) (H:Hp) (D:Ends),Inv X pins σ H s→t D σ H→wpAny (model X.prog X.w) X.A (execs st X.env) (SP X pins D) X.xe s
theorem h9{α:Type}{t:Sem α}{Q Q':α→Shared→Prop}{M:Model}{A:Around}{E:Value→Shared→Prop}{s:Shared}(h:wpAny M A t Q E s)(hQ:∀a s,Q a s→Q' a s):wpAny M A t Q' E s:=wpAny_mono h hQ fun _ _ x=>x
section
variable {X:Cx}
def A3(i:Nat):TE:=fun σ H Q=>∃v,σ[i]? = some (some v)∧Q v H
def tC(v:V):TE:=fun _ H Q=>Q v H
theorem a7I{i:Nat}{x:Str}{pos:Pos}(hN:X.N[i]? = some x)(hv:Vis X.env.scope x)(hd:(x == ("__debug__" : Str))=false:=by decide)(hcd:(x == ("__classdict__" : Str))=false:=by decide):PE X (.Name x pos) (A3 i):=by
 intro pins s σ H Q I h
 obtain⟨v,e,h⟩:=h
 obtain⟨m,hn,hl⟩:=I.loc
 obtain⟨u,r,l⟩:=hl i x v hN e hv
 have fin:EP X pins σ Q u s:=⟨v,H,I,r,h⟩
 rcases l with⟨hk,hm⟩ | ⟨hk,c,hc,hcell⟩
 ·exact wpAny_Name (wpAny_loadName_local I.ok.kind hk hn hm fin) hd
 ·rcases hk with hk | hk
  ·exact wpAny_Name (wpAny_loadName_cell I.ok.kind hk hc hcell fin) hd
  ·exact wpAny_Name (wpAny_loadName_free I.ok.kind hk hc hcell fin hcd) hd
theorem a9{i j pos}:PE X (.Constant (.int i) j pos) (tC (.int i)):=fun _ _ _ H _ I h=>wpAny_Constant_int ⟨.int i,H,I.tok _,⟨_,rfl⟩,h⟩
theorem M8{b j pos}:PE X (.Constant (.bool b) j pos) (tC (.bl b)):=fun _ _ _ H _ I h=>Constant_bool ⟨.bl b,H,I,rfl,h⟩
def Gl(X:Cx)(x:Str):Prop:=X.env.kindOf x=some .globalImplicit
theorem a6j{E:Value→Shared→Prop}{pins:List (Addr×Obj)}{s:Shared}{σ:St}{H:Hp}{x:Str}{u:Value}{pos:Pos}{Q:Value→Shared→Prop}(I:Inv X pins σ H s)(hg:Gl X x)(hm:X.mg x=some u)(h:Q u s)
  (hd:(x == ("__debug__" : Str))=false:=by decide):wpAny (model X.prog X.w) X.A (eval (.Name x pos) X.env) Q E s :=
 Calls.Name_function_global I.ok.kind hg (Calls.loadGlobal_global (by rw[I.ok.glob];exact I.mod.glob.keeps I.bk) hm h) hd
theorem K2{E:Value→Shared→Prop}{pins:List (Addr×Obj)}{s:Shared}{σ:St}{H:Hp}{x:Str}{u:Value}{pos:Pos}{Q:Value→Shared→Prop}(I:Inv X pins σ H s)(hg:Gl X x)(hm:X.mg x=none)(hv:bootBuiltins x=some u)(h:Q u s)
  (hn:x≠"__name__" := by decide) (hd:(x == ("__debug__" : Str))=false:=by decide):wpAny (model X.prog X.w) X.A (eval (.Name x pos) X.env) Q E s:=by
 obtain⟨mb,h1,h2⟩:=I.mod.blt
 exact Calls.Name_function_global I.ok.kind hg (Calls.loadGlobal_builtin (by rw[I.ok.glob];exact I.mod.glob.keeps I.bk) hm (by rw[I.ok.blt];exact h1.keeps I.bk) ((h2 x hn).trans hv) h) hd
theorem a0y{x:Str}{v:V}{u:Value}{pos:Pos}(hg:Gl X x)(hm:X.mg x=none)(hv:bootBuiltins x=some u)(r:RelV v u)(hn:x≠"__name__" := by decide)(hd:(x == ("__debug__" : Str))=false:=by decide):PE X (.Name x pos) (tC v) :=
 fun _ _ _ H _ I h=>K2 I hg hm hv ⟨v,H,I,r,h⟩ hn hd
variable {a b:Expr}{ta tb:TE}{pos:Pos}
def tB(t:TE):TT:=fun σ H Q=>t σ H fun x H1=>∃c,x=.bl c∧Q c H1
theorem F7{e:Expr}{t:TE}(h:PE X e t)(he:∀whole,isTrue e X.env whole=(do let v ← whole;standAt e.pos;holding [v] (truthy v)):=by intro _;rfl):PT X e (tB t):=by
 intro pins s σ H Q I hw
 refine isTrue_plain (h9 (h pins s σ H _ I hw) fun v s1 ⟨x,H1,I1,r1,q1⟩=>?_) (he _)
 obtain⟨d,rfl,q⟩:=q1
 cases r1
 exact wpAny_truthy_bool ⟨H1,I1,q⟩
variable {tA tB':TT}{i4:List Expr}
def tOr(t u:TT):TT:=fun σ H Q=>t σ H fun c H1=>if c=true then Q true H1 else u σ H1 Q
def a7J(t:TT):TT:=fun σ H Q=>t σ H fun c H1=>Q (!c) H1
theorem P4(ha:PT X a tA):PW X (.BoolOp .Or [a] pos) tA:=by
 intro wh pins s σ H Q I h
 refine isTrue_or (h9 (ha pins s σ H Q I h) fun c s1 e=>?_)
 cases c with
 | false=>exact isTrue_or_nil e
 | true=>exact e
theorem Q7(ha:PT X a tA)(hb:PW X (.BoolOp .Or (b::i4) pos) tB'):PW X (.BoolOp .Or (a::b::i4) pos) (tOr tA tB'):=by
 intro wh pins s σ H Q I h
 refine isTrue_or (h9 (ha pins s σ H _ I h) fun c s1 ⟨H1,I1,q1⟩=>?_)
 cases c with
 | true=>exact⟨H1,I1,q1⟩
 | false=>exact hb wh pins s1 σ H1 Q I1 q1
theorem C8(ha:PT X a tA):PT X (.UnaryOp .Not a pos) (a7J tA):=by
 intro pins s σ H Q I h
 exact isTrue_not (ha pins s σ H (fun c H1=>Q (!c) H1) I h)
def a5K(ta tb:TE):TE:=fun σ H Q=>ta σ H fun x H1=>∃c,x=.bl c∧if c=true then tb σ H1 Q else Q (.bl false) H1
def a5L(ta:TE):TE:=fun σ H Q=>ta σ H fun x H1=>∃c,x=.bl c∧Q (.bl (!c)) H1
theorem a7K{op}{t:TE}(h:PE X a t):PE X (.BoolOp op [a] pos) t:=fun pins s σ H Q I hw=>BoolOp_one (h pins s σ H Q I hw)
theorem a7L(ha:PE X a ta)(hb:PE X (.BoolOp .And (b::i4) pos) tb):PE X (.BoolOp .And (a::b::i4) pos) (a5K ta tb):=by
 intro pins s σ H Q I h
 refine BoolOp_and (h9 (ha pins s σ H _ I h) fun v s1 ⟨x,H1,I1,r1,q1⟩=>?_)
 obtain⟨c,rfl,q1⟩:=q1
 cases r1
 refine wpAny_truthy_bool ?_
 cases c with
 | true=>exact hb pins s1 σ H1 Q I1 q1
 | false=>exact⟨.bl false,H1,I1,rfl,q1⟩
theorem a7M(ha:PE X a ta):PE X (.UnaryOp .Not a pos) (a5L ta):=by
 intro pins s σ H Q I h
 refine UnaryOp_ (h9 (ha pins s σ H _ I h) fun v s1 ⟨x,H1,I1,r1,q1⟩=>?_)
 obtain⟨c,rfl,q1⟩:=q1
 cases r1
 exact not_of (wpAny_truthy_bool ⟨.bl (!c),H1,I1,rfl,q1⟩)
end
def SqL(K:W.Frag)(H:Hp)(a:Addr)(xs:List V):Prop :=
 Rd H a (.lst xs) ∨
  ∃(o:Obj) (its:Array Value) (n:Nat),K.lookup a=some o∧o.cls=.type "list"∧o.dict=none∧o.data=.seq its n∧its.size≤sizeLine∧Vals xs its.toList
def SqT(K:W.Frag)(H:Hp)(a:Addr)(xs:List V):Prop :=
 Rd H a (.tup xs) ∨
  ∃(o:Obj) (its:Array Value) (n:Nat),K.lookup a=some o∧o.cls=.type "tuple"∧o.data=.seq its n∧its.size≤sizeLine∧Vals xs its.toList
def a9J:Value→Option V
 | .none=>some .non
 | .bool b=>some (.bl b)
 | .int i _=>some (.int i)
 | .str x _=>some (.str x)
 | .bytes b _=>some (.byt b)
 | .float b _=>some (.flt b)
 | .ref a=>some (.ref a)
 | .type n=>some (.ty n)
 | _=>none
theorem RelV.abs{x:V}{u:Value}(r:RelV x u):a9J u=some x:=by
 cases x with
 | non=>cases r;rfl
 | bl _=>cases r;rfl
 | int _=>obtain⟨t,rfl⟩:=r;rfl
 | str _=>obtain⟨t,rfl⟩:=r;rfl
 | byt _=>obtain⟨t,rfl⟩:=r;rfl
 | flt _=>obtain⟨t,rfl⟩:=r;rfl
 | ref _=>cases r;rfl
 | ty _=>cases r;rfl
theorem RelV.inj{x y:V}{u:Value}(r:RelV x u)(q:RelV y u):x=y:=Option.some.inj (r.abs.symm.trans q.abs)
theorem Vals.inj:∀{xs ys:List V} {us:List Value},Vals xs us→Vals ys us→xs=ys
 | _,_,_,.nil,.nil=>rfl
 | _,_,_,.cons r t,.cons r' t'=>by rw[r.inj r',Vals.inj t t']
section
variable {X:Cx}{pins:List (Addr×Obj)}{σ:St}{H:Hp}{s:Shared}{a:Addr}{xs ys:List V}
theorem SqL.of{K:W.Frag}(h:H a=some (.lst xs)):SqL K H a xs:=.inl (.inl h)
theorem SqT.of{K:W.Frag}(h:H a=some (.tup xs)):SqT K H a xs:=.inl (.inl h)
theorem Inv.list(I:Inv X pins σ H s)(h:SqL X.K H a xs):∃its:List Value,Vals xs its∧PlainL s.heap a its.toArray∧xs.length≤sizeLine:=by
 rcases h with h | ⟨o,its,n,hk,hc,hd,hs,hz,r⟩
 ·obtain⟨z,its,n,r,e⟩:=h.ok I.hok
  exact⟨its,r,⟨_,n,e,rfl,rfl,rfl⟩,z⟩
 ·refine⟨its.toList,r,⟨o,n,I.kIn a o hk,hc,hd,by simpa using hs⟩,?_⟩
  have e:=r.length
  simp only[Array.length_toList]at e
  omega
theorem Inv.tuple(I:Inv X pins σ H s)(h:SqT X.K H a xs):∃its:List Value,Vals xs its∧IsTup s.heap a its.toArray∧xs.length≤sizeLine:=by
 rcases h with h | ⟨o,its,n,hk,hc,hs,hz,r⟩
 ·obtain⟨z,its,r,p⟩:=h.ok I.hok
  exact⟨its,r,p,z⟩
 ·refine⟨its.toList,r,⟨o,I.kIn a o hk,hc,n,by simpa using hs⟩,?_⟩
  have e:=r.length
  simp only[Array.length_toList]at e
  omega
theorem Inv.list_inj(I:Inv X pins σ H s)(h:SqL X.K H a xs)(h':SqL X.K H a ys):xs=ys:=by
 obtain⟨its,r,⟨o,n,e,_,_,d⟩,_⟩:=I.list h
 obtain⟨its',r',⟨o',n',e',_,_,d'⟩,_⟩:=I.list h'
 rw[e]at e';cases e'
 rw[d]at d'
 injection d' with d1 _
 have:its=its':=by simpa using congrArg Array.toList d1
 subst this
 exact r.inj r'
end
abbrev Cx.wish(X:Cx)(E:Value→Shared→Prop):Cx:={ X with xe:=E }
abbrev Cx.nox(X:Cx):Cx:=X.wish fun _ _=>False
theorem Cx.Ok.wish{X:Cx}(ok:X.Ok)(E:Value→Shared→Prop):(X.wish E).Ok :=
 ⟨ok.mod,ok.kind,ok.glob,ok.blt,ok.above,ok.inj,ok.has,ok.cab,ok.hd,ok.frames,ok.stk,ok.exf,ok.bs,ok.bsz,ok.noex,ok.exfs,ok.funs,ok.frf⟩
theorem Cx.Ok.unwish{X:Cx}{E:Value→Shared→Prop}(ok:(X.wish E).Ok):X.Ok :=
 ⟨ok.mod,ok.kind,ok.glob,ok.blt,ok.above,ok.inj,ok.has,ok.cab,ok.hd,ok.frames,ok.stk,ok.exf,ok.bs,ok.bsz,ok.noex,ok.exfs,ok.funs,ok.frf⟩
section
variable {X:Cx}{pins:List (Addr×Obj)}{σ:St}{H:Hp}{s:Shared}{E:Value→Shared→Prop}
theorem Inv.wish(I:Inv X pins σ H s)(E:Value→Shared→Prop):Inv (X.wish E) pins σ H s:=⟨I.ok.wish E,I.os,I.bare,I.base,I.loc,I.cell,I.free,I.freeC,I.pin,I.hok,I.len⟩
theorem Inv.unwish(I:Inv (X.wish E) pins σ H s):Inv X pins σ H s:=⟨I.ok.unwish,I.os,I.bare,I.base,I.loc,I.cell,I.free,I.freeC,I.pin,I.hok,I.len⟩
theorem SP.unwish{D:Ends}{f:Flow}{s':Shared}(h:SP (X.wish E) pins D f s'):SP X pins D f s':=by
 cases f with
 | next=>obtain⟨σ',H',I,q⟩:=h;exact⟨σ',H',I.unwish,q⟩
 | brk=>obtain⟨σ',H',I,q⟩:=h;exact⟨σ',H',I.unwish,q⟩
 | cont=>obtain⟨σ',H',I,q⟩:=h;exact⟨σ',H',I.unwish,q⟩
 | ret u=>obtain⟨v,σ',H',I,r,q⟩:=h;exact⟨v,σ',H',I.unwish,r,q⟩
theorem PE.nox{e:Expr}{t:TE}(h:PE X.nox e t):PE X e t:=fun pins s σ H Q I hw =>
 wpAny_mono (h pins s σ H Q (I.wish _) hw) (fun _ _ ⟨v,H',I',r,q⟩=>⟨v,H',I'.unwish,r,q⟩) fun _ _ z=>False.elim z
theorem PT.nox{e:Expr}{t:TT}(h:PT X.nox e t):PT X e t:=fun pins s σ H Q I hw =>
 wpAny_mono (h pins s σ H Q (I.wish _) hw) (fun _ _ ⟨H',I',q⟩=>⟨H',I'.unwish,q⟩) fun _ _ z=>False.elim z
theorem PSs.nox{st:List Stmt}{t:TS}(h:PSs X.nox st t):PSs X st t:=fun pins s σ H D I hw =>
 wpAny_mono (h pins s σ H D (I.wish _) hw) (fun _ _ q=>q.unwish) fun _ _ z=>False.elim z
end
section
variable {X:Cx}{st:Stmt}{i4:List Stmt}{t u:TS}{e:Expr}{te:TE}{pos:Pos}
def a5M:TS:=fun D σ H=>D.nx σ H
def a7N(t u:TS):TS:=fun D σ H=>t { D with nx:=u D } σ H
theorem n6:PSs X [] a5M:=fun _ _ σ H _ I h=>wpAny_execs_nil ⟨σ,H,I,h⟩
theorem c7(h1:PS X st t)(h2:PSs X i4 u):PSs X (st::i4) (a7N t u):=by
 intro pins s σ H D I h
 refine wpAny_execs_cons (h9 (h1 pins s σ H { D with nx:=u D } I h) fun f s1 q=>?_)
 cases f with
 | next =>
  obtain⟨σ',H',I',q⟩:=q
  exact h2 pins s1 σ' H' D I' q
 | ret v=>exact q
 | brk=>exact q
 | cont=>exact q
theorem g8(h1:PS X st t):PSs X [st] t:=by
 intro pins s σ H D I h
 refine wpAny_execs_cons (h9 (h1 pins s σ H D I h) fun f s1 q=>?_)
 cases f with
 | next=>exact wpAny_execs_nil q
 | ret v=>exact q
 | brk=>exact q
 | cont=>exact q
theorem Inv.quiet{pins:List (Addr×Obj)}{σ:St}{H:Hp}{s:Shared}(I:Inv X pins σ H s):interactive X.env=false:=by simp[interactive,I.ok.kind]
def a1w(te:TE):TS:=fun D σ H=>te σ H fun _ H1=>D.nx σ H1
theorem P5(he:PE X e te)(hs:swapsWith e none pos.line X.env=pure false:=by rfl):PS X (.Expr e pos) (a1w te):=by
 intro pins s σ H D I h
 exact wpAny_Expr_any (h9 (he pins s σ H _ I h) fun v s1 ⟨x,H1,I1,r1,q1⟩=>⟨σ,H1,I1,q1⟩) I.quiet hs
def a27(te:TE):TS:=fun D σ H=>te σ H D.rt
theorem j6(he:PE X e te):PS X (.Return (some e) pos) (a27 te):=by
 intro pins s σ H D I h
 exact wpAny_Return_some (h9 (he pins s σ H _ I h) fun v s1 ⟨x,H1,I1,r1,q1⟩=>⟨x,σ,H1,I1,r1,q1⟩)
def a7O(c:TT)(t u:TS):TS:=fun D σ H=>c σ H fun b H1=>if b=true then t D σ H1 else u D σ H1
theorem x3{c:Expr}{a b:List Stmt}{tc:TT}(hc:PT X c tc)(ha:PSs X a t)(hb:PSs X b u):PS X (.If c a b pos) (a7O tc t u):=by
 intro pins s σ H D I h
 refine wpAny_If (h9 (hc pins s σ H _ I h) fun d s1 ⟨H1,I1,q1⟩=>?_)
 cases d with
 | true=>exact ha pins s1 σ H1 D I1 q1
 | false=>exact hb pins s1 σ H1 D I1 q1
end
abbrev TG:=V→St→Hp→(St→Hp→Prop)→Prop
abbrev U1:=List V→St→Hp→(St→Hp→Prop)→Prop
def PG(X:Cx)(target:Expr)(t:TG):Prop :=
 ∀(pins:List (Addr×Obj)) (s:Shared) (σ:St) (H:Hp) (v:V) (u:Value) (Q:St→Hp→Prop),Inv X pins σ H s→RelV v u→t v σ H Q →
  wpAny (model X.prog X.w) X.A (assign target X.env u) (fun _ s'=>∃σ' H',Inv X pins σ' H' s'∧Q σ' H') X.xe s
def PGs(X:Cx)(ts:List Expr)(t:U1):Prop :=
 ∀(pins:List (Addr×Obj)) (s:Shared) (σ:St) (H:Hp) (vs:List V) (us:List Value) (Q:St→Hp→Prop),Inv X pins σ H s→Vals vs us→t vs σ H Q →
  wpAny (model X.prog X.w) X.A (assignInOrder ((assignEach ts X.env).map (·.2)) us) (fun _ s'=>∃σ' H',Inv X pins σ' H' s'∧Q σ' H') X.xe s
section
variable {X:Cx}{pos:Pos}
def W0(i:Nat):TG:=fun v σ H Q=>Q (σ.set i (some v)) H
theorem o7{i:Nat}{x:Str}(hN:X.N.Nodup)(hi:X.N[i]? = some x)(hx:Loc X.env.scope x)(hf:X.fn x=true∨X.env.scope.names.lookup x=some .local:=by first | exact .inl rfl | exact .inr rfl | assumption):PG X (.Name x pos) (W0 i):=by
 intro pins s σ H v u Q I r h
 exact wpAny_assign_Name (a1H I hN hi hx r (fun s' I'=>⟨_,H,I',h⟩) hf)
def a7P:U1:=fun vs σ H Q=>vs=[]∧Q σ H
def a5N(t:TG)(u:U1):U1:=fun vs σ H Q=>∃v r,vs=v::r∧t v σ H fun σ' H'=>u r σ' H' Q
theorem a0z:PGs X [] a7P:=by
 intro pins s σ H vs us Q I r h
 obtain⟨e,h⟩:=h
 subst e
 cases r
 exact assignInOrder_nil ⟨σ,H,I,h⟩
theorem D7{e:Expr}{es:List Expr}{t:TG}{u:U1}(h1:PG X e t)(h2:PGs X es u)
  (hs:(assignEach (e::es) X.env).map (·.2)=assign e X.env::(assignEach es X.env).map (·.2):=by rfl):PGs X (e::es) (a5N t u):=by
 intro pins s σ H vs us Q I r h
 obtain⟨v,vr,e1,h⟩:=h
 subst e1
 cases r with
 | cons r rr =>
  rw[hs]
  refine assignInOrder_cons (h9 (h1 pins s σ H _ _ _ I r h) fun _ s1 ⟨σ1,H1,I1,q1⟩=>?_)
  exact h2 pins s1 σ1 H1 _ _ Q I1 rr q1
def a4J(K:W.Frag)(n:Nat)(t:U1):TG:=fun v σ H Q=>∃a xs,v=.ref a∧SqT K H a xs∧xs.length=n∧t xs σ H Q
theorem a7Q{es:List Expr}{k:Nat}{t:U1}{n:Nat}(hc:X.calm=true)(h:PGs X es t)
  (hn:(assignEach es X.env).length=n:=by rfl) (hst:(assignEach es X.env).findIdx? (·.1)=none:=by rfl):PG X (.Tuple es k pos) (a4J X.K n t):=by
 intro pins s σ H v u Q I r hw
 obtain⟨a,xs,e1,hq,hl,hw⟩:=hw
 subst e1
 cases r
 obtain⟨its,rv,ht,hz⟩:=I.tuple hq
 refine assign_Tuple_tuple (I.ok.hd hc) ht (by simp[hn,← hl,rv.length]) hst fun h' hx=>?_
 have I1:Inv X pins σ H { s with heap:=h' }:=I.kept (t':=s.toks) fun b o e=>hx b o (Nat.ne_of_lt (Heap.lt_size e)) e
 exact h pins _ σ H xs _ Q I1 (by simpa using rv) hw
def a28(te:TE)(g:TG):TS:=fun D σ H=>te σ H fun x H1=>g x σ H1 D.nx
theorem l4{i:Nat}{x:Str}{e:Expr}{te:TE}{pos':Pos}(hN:X.N.Nodup)(hi:X.N[i]? = some x)(hx:Loc X.env.scope x)(he:PE X e te)(hs:swapsWith e (some (.Name x pos')) pos.line X.env=pure false:=by rfl)(hf:X.fn x=true∨X.env.scope.names.lookup x=some .local:=by first | exact .inl rfl | exact .inr rfl | assumption) :
  PS X (.Assign [.Name x pos'] e pos) (a28 te (W0 i)):=by
 intro pins s σ H D I h
 refine wpAny_Assign_Name (h9 (he pins s σ H _ I h) fun v s1 ⟨y,H1,I1,r1,q1⟩=>?_) hs
 exact a1H I1 hN hi hx r1 (fun s2 I2=>⟨_,H1,I2,q1⟩) hf
end
structure It where
 go:Nat→Hp→Prop
 yld:Nat→Hp→V→Hp→Prop
 stop:Nat→Hp→Prop
def FpOk(X:Cx)(pins:List (Addr×Obj))(H:Hp)(b:Addr):Prop :=
 H b=none∧b≠X.env.locals∧b ∉ X.fs∧(b∈X.ex∨X.s₀.heap.objs.size≤b)∧(∀x c,X.env.cells.lookup x=some c→c≠b)∧∀p∈X.pn++pins,p.1≠b
theorem Inv.fpOk{X:Cx}{pins:List (Addr×Obj)}{σ:St}{H H':Hp}{s:Shared}{b:Addr}(I:Inv X pins σ H s)(hb:s.heap.objs.size≤b)(hn:H' b=none):FpOk X pins H' b:=by
 refine⟨hn,Nat.ne_of_gt (Nat.lt_of_lt_of_le I.lt hb),I.nofs hb,.inr (Nat.le_trans I.sz hb),fun x c e z=>?_,fun p hp z=>?_⟩
 ·obtain⟨v,q⟩:=I.cell x c e
  exact absurd (Nat.lt_of_lt_of_le q.lt (by rw[z];exact hb)) (Nat.lt_irrefl _)
 ·exact absurd (Nat.lt_of_lt_of_le (Heap.lt_size (I.pin p hp).1) (by rw[z];exact hb)) (Nat.lt_irrefl _)
structure Turn(P:Program)(w:World)(K:W.Frag)(tg:Expr)(J:It)(fp:List Addr)(it:Addr)(tn:Nat→Heap→Prop):Prop where
 mem:it∈fp
 obj:∀i h,tn i h→∀b∈fp,∃o,h.get? b=some o∧∀v,o.data≠.cell v
 keep:∀i h h',tn i h→(∀b∈fp,∀o,h.get? b=some o→h'.get? b=some o)→tn i h'
 item:∀(X:Cx),X.prog=P→X.w=w→X.K=K→X.calm=true→∀(i:Nat) (pins:List (Addr×Obj)) (s:Shared) (σ:St) (H:Hp) (E:Value→Shared→Prop),Inv X pins σ H s→(∀b∈fp,FpOk X pins H b)→tn i s.heap→J.go i H →
  wpAny (model P w) X.A (pyNext (.ref it)) (fun r s1=>∃u,r=some u ∧
   wpAny (model P w) X.A (letOwnedTupleGo tg (.ref it) u) (fun _ s2=>∃x H',Inv X pins σ H' s2∧RelV x u∧J.yld i H x H'∧tn (i+1) s2.heap∧∀b∈fp,H' b=none) E s1) E s
 done:∀(X:Cx),X.prog=P→X.w=w→X.K=K→X.calm=true→∀(i:Nat) (pins:List (Addr×Obj)) (s:Shared) (σ:St) (H:Hp) (E:Value→Shared→Prop),Inv X pins σ H s→(∀b∈fp,FpOk X pins H b)→tn i s.heap→J.stop i H →
  wpAny (model P w) X.A (pyNext (.ref it)) (fun r s1=>r=none∧Inv X pins σ H s1) E s
 self:∀(A:Around) (i:Nat) (s:Shared) (Q:Value→Shared→Prop) (E:Value→Shared→Prop),tn i s.heap→Q (.ref it) s→wpAny (model P w) A (pyIter (.ref it)) Q E s
abbrev TI:=St→Hp→(It→Hp→Prop)→Prop
def PIE(X:Cx)(pins:List (Addr×Obj))(σ:St)(tg:Expr)(R:It→Hp→Prop)(itv:Value)(s2:Shared):Prop :=
 ∃(it:Addr) (fp:List Addr) (tn:Nat→Heap→Prop) (J:It) (H':Hp),itv=.ref it∧Inv X pins σ H' s2∧Turn X.prog X.w X.K tg J fp it tn∧tn 0 s2.heap∧(∀b∈fp,FpOk X pins H' b)∧R J H'
def PI(X:Cx)(tg iter:Expr)(wi:TI):Prop :=
 ∀(pins:List (Addr×Obj)) (s:Shared) (σ:St) (H:Hp) (R:It→Hp→Prop),Inv X pins σ H s→wi σ H R →
  wpAny (model X.prog X.w) X.A (eval iter X.env) (fun v s1=>wpAny (model X.prog X.w) X.A (pyIter v) (PIE X pins σ tg R) X.xe s1) X.xe s
theorem a5O{M:Model}{A:Around}{E:Value→Shared→Prop}{s:Shared}{tg:Expr}{it:Addr}{u:Value}{o:Obj}{n:String}{vs:Array Value}{Q:Unit→Shared→Prop}(ho:s.heap.get? it=some o)(hc:o.cls=.type n)(hd:o.data=.fields vs)
  (hn:["enumerate","zip","dict_itemiterator","dict_reverseitemiterator","odict_iterator","itertools.zip_longest","itertools.pairwise"].contains n=false) (hQ:Q () s):wpAny M A (letOwnedTupleGo tg (.ref it) u) Q E s:=by
 unfold letOwnedTupleGo
 cases tg<;>first
  | exact wpAny_pure hQ
  | (cases u<;>first
    | exact wpAny_pure hQ
    | (refine wpAny_bind (wpAny_load ho ?_)
       rw[hc,hd]
       show wpAny M A (if(["enumerate","zip","dict_itemiterator","dict_reverseitemiterator","odict_iterator","itertools.zip_longest","itertools.pairwise"].contains n && vs[0]? == some (rawInt _))=true then _ else _) Q E s
       rw[if_neg (by intro h;rw[hn,Bool.false_and]at h;cases h)]
       exact wpAny_pure hQ))
def X2(K:W.Frag)(a:Addr):It :=
 ⟨fun i H=>∃xs x,SqL K H a xs∧xs[i]? = some x,fun i H x H'=>H'=H∧∀xs,SqL K H a xs→xs[i]? = some x,fun i H=>∃xs,SqL K H a xs∧xs.length≤i⟩
def X3(lo:Int)(n:Nat):It:=⟨fun i _=>i<n,fun i H x H'=>H'=H∧x=.int (lo+i),fun i _=>n≤i⟩
theorem a3D{P:Program}{w:World}{K:W.Frag}{tg:Expr}(a it:Addr):Turn P w K tg (X2 K a) [it] it (fun i h=>h.IsListIter it a i) where
 mem:=by simp
 obj:=fun i h st b hb=>by
  have e:b=it:=by simpa using hb
  subst e
  obtain⟨o,e,c,d⟩:=st
  exact⟨o,e,fun v z=>by rw[d]at z;cases z⟩
 keep:=fun i h h' st k=>st.at fun o e=>k it (by simp) o e
 item:=by
  intro X hP hw hK hc i pins s σ H E I hf st hg
  subst hP hw hK
  obtain⟨xs,x,hq,hx⟩:=hg
  obtain⟨its,rv,p,hz⟩:=I.list hq
  obtain⟨u,hu,ru⟩:=rv.get hx
  obtain⟨f0,f1,f2,f3,f4,f5⟩:=hf it (by simp)
  refine wpAny_pyNext_list_item st p.isList (x:=u) (by simpa using hu) fun h' st' sb=>?_
  have I1:Inv X pins σ H { s with heap:=h' }:=I.turned (t':=s.toks) (fun b o hb e=>(sb.2 b hb).trans e) f0 f1 f3 f4 f5
  obtain⟨o,e,c,d⟩:=id st'
  exact⟨u,rfl,a5O (s:={ s with heap:=h' }) e c d (by decide) ⟨x,H,I1,ru,⟨rfl,fun ys hy=>by rw[I.list_inj hy hq];exact hx⟩,st',fun b hb=>(hf b hb).1⟩⟩
 done:=by
  intro X hP hw hK hc i pins s σ H E I hf st hg
  subst hP hw hK
  obtain⟨xs,hq,hx⟩:=hg
  obtain⟨its,rv,p,hz⟩:=I.list hq
  obtain⟨f0,f1,f2,f3,f4,f5⟩:=hf it (by simp)
  have hl:=rv.length
  exact wpAny_pyNext_list_end (I.ok.hd hc) st p.isList (by simp;omega) fun h' eb=>⟨rfl,I.turned (t':=s.toks) (fun b o hb e=>eb b o hb e) f0 f1 f3 f4 f5⟩
 self:=fun _ _ _ _ _ st h=>wpAny_pyIter_listiter st h
theorem a29{P:Program}{w:World}{K:PySem.W.Frag}{tg:Expr}(it:Addr)(lo:Int)(n:Nat):Turn P w K tg (X3 lo n) [it] it (fun i h=>IsRangeIter h it (lo+(i:Nat)*1) ((n:Int)-(i:Nat)) 1) where
 mem:=by simp
 obj:=fun i h st b hb=>by
  have e:b=it:=by simpa using hb
  subst e
  exact⟨_,st,fun v z=>by
   have z':Data.fields _=Data.cell v:=z
   cases z'⟩
 keep:=fun i h h' st k=>k it (by simp) _ st
 item:=by
  intro X hP hw hK hc i pins s σ H E I hf st hg
  subst hP hw hK
  obtain⟨f0,f1,f2,f3,f4,f5⟩:=hf it (by simp)
  have W:=Walks.range (prog:=X.prog) (w:=X.w) (I.ok.hd hc) it lo 1 n
  refine W.item i s _ _ hg st fun v h' tk hv st' kk=>?_
  obtain⟨t,rfl⟩:=hv
  have I1:Inv X pins σ H { s with heap:=h',toks:=tk }:=I.turned (fun b o hb e=>kk b o (by simpa using hb) e) f0 f1 f3 f4 f5
  refine⟨_,rfl,a5O (s:={ s with heap:=h',toks:=tk }) (n := "range_iterator") st' rfl rfl (by decide) ⟨.int (lo+i),H,I1,⟨t,?_⟩,⟨rfl,rfl⟩,st',fun b hb=>(hf b hb).1⟩⟩
  rw[Int.mul_one]
 done:=by
  intro X hP hw hK hc i pins s σ H E I hf st hg
  subst hP hw hK
  obtain⟨f0,f1,f2,f3,f4,f5⟩:=hf it (by simp)
  exact wpAny_pyNext_range_end (I.ok.hd hc) st (by have:n≤i:=hg;omega) fun h' eb=>⟨rfl,I.turned (t':=s.toks) (fun b o hb e=>eb b o hb e) f0 f1 f3 f4 f5⟩
 self:=fun _ _ _ _ _ st h=>wpAny_pyIter_rangeiter st h
section
variable {X:Cx}{tg:Expr}
def a1x(K:W.Frag)(tl:TE):TI:=fun σ H R=>tl σ H fun x H1=>∃a,x=.ref a∧(∃xs,SqL K H1 a xs)∧R (X2 K a) H1
theorem K0{l:Expr}{tl:TE}(hl:PE X l tl):PI X tg l (a1x X.K tl):=by
 intro pins s σ H R I h
 refine h9 (hl pins s σ H _ I h) fun v s1 ⟨x,H1,I1,r1,q1⟩=>?_
 obtain⟨a,e,⟨xs,hq⟩,q⟩:=q1
 subst e
 cases r1
 obtain⟨its,rv,p,hz⟩:=I1.list hq
 refine wpAny_pyIter_list p.isList ?_
 refine⟨s1.heap.objs.size,[s1.heap.objs.size],_,_,H1,rfl,I1.kept (t':=s1.toks) fun b o e=>Heap.get?_push_of_some _ e,a3D a _,⟨_,Heap.get?_push_size _ rfl,rfl,rfl⟩,fun b hb=>?_,q⟩
 have e:b=s1.heap.objs.size:=by simpa using hb
 subst e
 exact I1.fpOk (Nat.le_refl _) (I1.hok.fresh (Nat.le_refl _))
theorem a1I{pins:List (Addr×Obj)}{σ:St}{H:Hp}{s:Shared}{R:It→Hp→Prop}{E:Value→Shared→Prop}{lo hi:Int}{t u v:Tok}{tk:Nat}(I:Inv X pins σ H s)(h1 : -(2 ^ 62)≤lo)(h2:lo<2 ^ 62)(h3 : -(2 ^ 62)≤hi)(h4:hi<2 ^ 62)
  (q:R (X3 lo (hi-lo).toNat) H):wpAny (model X.prog X.w) X.A (pyIter (.ref s.heap.objs.size)) (PIE X pins σ tg R) E { s with heap:=s.heap.push { cls:=.type "range",data:=.fields #[.int lo t,.int hi u,.int 1 v] },toks:=tk }:=by
 refine wpAny_pyIter_range (IsRange.new ..) (small_one h1 h2 h3 h4) ?_
 have I1:Inv X pins σ H { s with heap:=s.heap.push { cls:=.type "range",data:=.fields #[.int lo t,.int hi u,.int 1 v] },toks:=tk }:=I.kept fun b o e=>Heap.get?_push_of_some _ e
 refine⟨(s.heap.push { cls:=.type "range",data:=.fields #[.int lo t,.int hi u,.int 1 v] }).objs.size,[(s.heap.push { cls:=.type "range",data:=.fields #[.int lo t,.int hi u,.int 1 v] }).objs.size],_,_,H,rfl,
  I1.kept (t':=tk) fun b o e=>Heap.get?_push_of_some _ e,a29 _ lo (hi-lo).toNat,?_,fun b hb=>?_,q⟩
 ·have e1:lo+((0:Nat):Int)*1=lo:=by simp
  have e2:(((hi-lo).toNat:Nat):Int)-((0:Nat):Int)=Builtin.Range.rangeSize lo hi 1:=by rw[rangeSize_one];split<;>omega
  show IsRangeIter _ _ (lo+((0:Nat):Int)*1) ((((hi-lo).toNat:Nat):Int)-((0:Nat):Int)) 1
  rw[e1,e2]
  exact Heap.get?_push_size _ rfl
 ·have e:b=(s.heap.push { cls:=.type "range",data:=.fields #[.int lo t,.int hi u,.int 1 v] }).objs.size:=by simpa using hb
  subst e
  exact I1.fpOk (Nat.le_refl _) (I1.hok.fresh (Nat.le_refl _))
def a5P(ta:TA):TI:=fun σ H R=>ta σ H fun vs H1=>∃j:Int,vs=[.int j]∧-(2 ^ 62)≤j∧j<2 ^ 62∧R (X3 0 j.toNat) H1
def a5Q(ta:TA):TI:=fun σ H R=>ta σ H fun vs H1=>∃i j:Int,vs=[.int i,.int j]∧(-(2 ^ 62)≤i∧i<2 ^ 62∧-(2 ^ 62)≤j∧j<2 ^ 62)∧R (X3 i (j-i).toNat) H1
theorem a3E{a:Expr}{ta:TA}{p pos:Pos}(hg:Gl X "range")(hm:X.mg "range" = none)(ha:PA X [a] ta)(hs:starEach [a] X.env=[(false,eval a X.env)]:=by rfl):PI X tg (.Call (.Name "range" p) [a] [] pos) (a5P ta):=by
 intro pins s σ H R I h
 refine Call_ (K2 I hg hm boot_range (PyProof.Rows.callWith_type1 (h9 (ha pos pins s σ H _ I h) fun us s1 ⟨vs,H1,I1,r1,q1⟩=>?_) hs rfl))
 obtain⟨j,e,q1,q2,q⟩:=q1
 subst e
 cases r1 with
 | cons r rr =>
  cases rr
  obtain⟨t,rfl⟩:=r
  exact call_range_1 (a1I I1 (by omega) (by omega) q1 q2 (by simpa using q))
theorem a3F{a b:Expr}{ta:TA}{p pos:Pos}(hg:Gl X "range")(hm:X.mg "range" = none)(ha:PA X [a,b] ta)(hs:starEach [a,b] X.env=[(false,eval a X.env),(false,eval b X.env)]:=by rfl)(hs2:starEach [b] X.env=[(false,eval b X.env)]:=by rfl) :
  PI X tg (.Call (.Name "range" p) [a,b] [] pos) (a5Q ta):=by
 intro pins s σ H R I h
 refine Call_ (K2 I hg hm boot_range (PyProof.Rows.callWith_type1 (h9 (ha pos pins s σ H _ I h) fun us s1 ⟨vs,H1,I1,r1,q1⟩=>?_) (by rw[hs,hs2]) (by rw[hs2];rfl)))
 obtain⟨i,j,e,⟨q1,q2,q3,q4⟩,q⟩:=q1
 subst e
 cases r1 with
 | cons r rr =>
  cases rr with
  | cons r' rr =>
   cases rr
   obtain⟨t,rfl⟩:=r
   obtain⟨t',rfl⟩:=r'
   exact call_range_2 (a1I I1 q1 q2 q3 q4 q)
def a2_(wi:TI)(g:TG)(tb:TS):TS:=fun D σ H=>wi σ H fun J H1=>∃W:Nat→Nat→St→Hp→Prop,(∃m,W 0 m σ H1)∧∀i m σ H,W i m σ H →
 (J.stop i H∧D.nx σ H)∨(J.go i H∧∃N:St→Hp→Prop,(∀σ' H',N σ' H'→∃m',m'<m∧W (i+1) m' σ' H')∧∀x H',J.yld i H x H'→g x σ H' fun σ2 H2=>tb { D with nx:=N,ct:=N,bk:=D.nx } σ2 H2)
def U2(fp:List Addr)(h:Heap):List (Addr×Obj):=fp.filterMap fun b=>(h.get? b).map fun o=>(b,o)
theorem J3{fp:List Addr}{h:Heap}{b:Addr}{o:Obj}(hb:b∈fp)(e:h.get? b=some o):(b,o)∈U2 fp h:=List.mem_filterMap.mpr ⟨b,hb,by rw[e];rfl⟩
theorem a3G{fp:List Addr}{h:Heap}{p:Addr×Obj}(hp:p∈U2 fp h):p.1∈fp∧h.get? p.1=some p.2:=by
 obtain⟨b,hb,e⟩:=List.mem_filterMap.mp hp
 cases q:h.get? b with
 | none=>rw[q]at e;cases e
 | some o =>
  rw[q]at e
  have e':(b,o)=p:=Option.some.inj e
  subst e'
  exact⟨hb,q⟩
theorem Inv.pinned{pins:List (Addr×Obj)}{σ:St}{H:Hp}{s:Shared}{fp:List Addr}(I:Inv X pins σ H s)(hf:∀b∈fp,FpOk X pins H b)(ho:∀b∈fp,∃o,s.heap.get? b=some o∧∀v,o.data≠.cell v):Inv X (pins++U2 fp s.heap) σ H s :=
 I.pins_of fun p hp=>(List.mem_append.mp hp).elim (fun z=>I.pin p (List.mem_append_right _ z)) fun z=>by
  obtain⟨hb,e⟩:=a3G z
  obtain⟨f0,f1,f2,_⟩:=hf p.1 hb
  obtain⟨o,e',d⟩:=ho p.1 hb
  rw[e]at e';cases e'
  exact⟨e,f0,f1,f2,d⟩
theorem Inv.unpinned{pins pl:List (Addr×Obj)}{σ:St}{H:Hp}{s:Shared}(I:Inv X (pins++pl) σ H s):Inv X pins σ H s:=I.pins_of fun p hp=>I.pin p (List.mem_append_right _ (List.mem_append_left _ hp))
theorem Z5{iter:Expr}{body:List Stmt}{wi:TI}{g:TG}{tb:TS}{pos:Pos}(hp:PassesOwn (model X.prog X.w) X.A X.env X.xe)(hc:X.calm=true)(hi:PI X tg iter wi)(hg:PG X tg g)(hb:PSs X body tb)
  (hs:∀x,foldedSetIterable iter X.env x=pure x:=by intro _;rfl):PS X (.For tg iter body [] pos) (a2_ wi g tb):=by
 intro pins s σ H D I h
 refine wpAny_For (h9 (hi pins s σ H _ I h) fun v s1 h1=>h9 h1 fun itv s2 h2=>?_) hs
 obtain⟨it,fp,tn,J,H2,e,I2,T,st2,f2,W,⟨m0,w0⟩,turn⟩:=h2
 subst e
 -- what stays true of the iterator's objects through the loop
 have stat:∀{H':Hp},(∀b∈fp,H' b=none)→∀b∈fp,FpOk X pins H' b:=fun hn b hb=>⟨hn b hb,(f2 b hb).2⟩
 refine codeAny_forLoop_any (fun n s'=>∃i σ' H',Inv X pins σ' H' s'∧tn i s'.heap∧(∀b∈fp,H' b=none)∧W i n σ' H') ?_ m0 ⟨0,σ,H2,I2,st2,fun b hb=>(f2 b hb).1,w0⟩
 rintro n s3 ⟨i,σ3,H3,I3,st3,fr3,w3⟩
 rcases turn i n σ3 H3 w3 with⟨stop,qn⟩ | ⟨go,N,hN,step⟩
 ·refine wpAny_passesOwn hp (h9 (T.done X rfl rfl rfl hc i pins s3 σ3 H3 X.xe I3 (stat fr3) st3 stop) fun r s4 ⟨hr,I4⟩=>?_)
  subst hr
  exact wpAny_execs_nil ⟨σ3,H3,I4,qn⟩
 ·refine wpAny_passesOwn hp (h9 (T.item X rfl rfl rfl hc i pins s3 σ3 H3 X.xe I3 (stat fr3) st3 go) fun r s4 ⟨u,hr,h4⟩=>?_)
  subst hr
  refine wpAny_passesOwn hp (h9 h4 fun _ s5 ⟨x,H5,I5,r5,y5,st5,fr5⟩=>?_)
  have I5':=I5.pinned (stat fr5) (T.obj _ _ st5)
  refine wpAny_passesOwn hp (h9 (hg _ s5 σ3 H5 x u _ I5' r5 (step x H5 y5)) fun _ s6 ⟨σ6,H6,I6,q6⟩=>?_)
  refine wpAny_passesOwn hp (h9 (hb _ s6 σ6 H6 _ I6 q6) fun f s7 q7=>?_)
  have again:∀{σ7:St} {H7:Hp},Inv X (pins++U2 fp s5.heap) σ7 H7 s7→N σ7 H7→∃m,m<n∧∃i σ' H',Inv X pins σ' H' s7∧tn i s7.heap∧(∀b∈fp,H' b=none)∧W i m σ' H':=fun{σ7 H7} I7 n7=>by
   obtain⟨m',hm,w7⟩:=hN σ7 H7 n7
   refine⟨m',hm,i+1,σ7,H7,I7.unpinned,T.keep _ _ _ st5 fun b hb o e=>(I7.pin (b,o) (List.mem_append_right _ (List.mem_append_right _ (J3 hb e)))).1,fun b hb=>?_,w7⟩
   obtain⟨o,e,d⟩:=T.obj _ _ st5 b hb
   exact(I7.pin (b,o) (List.mem_append_right _ (List.mem_append_right _ (J3 hb e)))).2.1
  cases f with
  | next=>obtain⟨σ7,H7,I7,n7⟩:=q7;exact again I7 n7
  | cont=>obtain⟨σ7,H7,I7,n7⟩:=q7;exact again I7 n7
  | brk=>obtain⟨σ7,H7,I7,q7⟩:=q7;exact⟨σ7,H7,I7.unpinned,q7⟩
  | ret v=>obtain⟨x7,σ7,H7,I7,r7,q7⟩:=q7;exact⟨x7,σ7,H7,I7.unpinned,r7,q7⟩
end
theorem a4K{K:PySem.W.Frag}{a:Addr}{xs:List V}{g:TG}{tb:TS}{D:Ends}{σ:St}{H:Hp}(Pv:Nat→St→Hp→Prop)(h0:Pv 0 σ H)(hl:∀i σ H,i≤xs.length→Pv i σ H→SqL K H a xs)
  (hs:∀i x σ H,xs[i]? = some x→Pv i σ H→g x σ H fun σ2 H2=>tb { D with nx:=Pv (i+1),ct:=Pv (i+1),bk:=D.nx } σ2 H2) (hd:∀σ H,Pv xs.length σ H→D.nx σ H) :
  ∃W:Nat→Nat→St→Hp→Prop,(∃m,W 0 m σ H)∧∀i m σ H,W i m σ H →
   ((X2 K a).stop i H∧D.nx σ H)∨((X2 K a).go i H∧∃N:St→Hp→Prop,(∀σ' H',N σ' H'→∃m',m'<m∧W (i+1) m' σ' H')∧∀x H',(X2 K a).yld i H x H'→g x σ H' fun σ2 H2=>tb { D with nx:=N,ct:=N,bk:=D.nx } σ2 H2):=by
 refine⟨fun i m σ H=>m=xs.length-i∧i≤xs.length∧Pv i σ H,⟨xs.length,by simp,Nat.zero_le _,h0⟩,?_⟩
 rintro i m σ H ⟨rfl,hi,p⟩
 have q:=hl i σ H hi p
 by_cases hlt:i<xs.length
 ·refine .inr ⟨⟨xs,xs[i],q,by simp[hlt]⟩,Pv (i+1),fun σ' H' p'=>⟨xs.length-(i+1),by omega,rfl,hlt,p'⟩,fun x H' y=>?_⟩
  obtain⟨e,y⟩:=y
  subst e
  exact hs i x σ _ (y xs q) p
 ·have e:i=xs.length:=by omega
  subst e
  exact .inl ⟨⟨xs,q,Nat.le_refl _⟩,hd σ H p⟩
theorem a3H{lo:Int}{n:Nat}{g:TG}{tb:TS}{D:Ends}{σ:St}{H:Hp}(Pv:Nat→St→Hp→Prop)(h0:Pv 0 σ H)
  (hs:∀i σ H,i<n→Pv i σ H→g (.int (lo+i)) σ H fun σ2 H2=>tb { D with nx:=Pv (i+1),ct:=Pv (i+1),bk:=D.nx } σ2 H2) (hd:∀σ H,Pv n σ H→D.nx σ H) :
  ∃W:Nat→Nat→St→Hp→Prop,(∃m,W 0 m σ H)∧∀i m σ H,W i m σ H →
   ((X3 lo n).stop i H∧D.nx σ H)∨((X3 lo n).go i H∧∃N:St→Hp→Prop,(∀σ' H',N σ' H'→∃m',m'<m∧W (i+1) m' σ' H')∧∀x H',(X3 lo n).yld i H x H'→g x σ H' fun σ2 H2=>tb { D with nx:=N,ct:=N,bk:=D.nx } σ2 H2):=by
 refine⟨fun i m σ H=>m=n-i∧i≤n∧Pv i σ H,⟨n,by simp,Nat.zero_le _,h0⟩,?_⟩
 rintro i m σ H ⟨rfl,hi,p⟩
 by_cases hlt:i<n
 ·refine .inr ⟨hlt,Pv (i+1),fun σ' H' p'=>⟨n-(i+1),by omega,rfl,hlt,p'⟩,fun x H' y=>?_⟩
  obtain⟨e,y⟩:=y
  subst e y
  exact hs i σ _ hlt p
 ·have e:i=n:=by omega
  subst e
  exact .inl ⟨Nat.le_refl _,hd σ H p⟩
abbrev R2:=V→V→Hp→VK→Prop
def C5(X:Cx)(f:Value→Value→Sem Value)(r:R2):Prop :=
 ∀(pins:List (Addr×Obj)) (s:Shared) (σ:St) (H:Hp) (x y:V) (v u:Value) (Q:VK),Inv X pins σ H s→RelV x v→RelV y u→r x y H Q →
  wpAny (model X.prog X.w) X.A (f v u) (EP X pins σ Q) X.xe s
def UnR(X:Cx)(f:Value→Sem Value)(r:V→Hp→VK→Prop):Prop :=
 ∀(pins:List (Addr×Obj)) (s:Shared) (σ:St) (H:Hp) (x:V) (v:Value) (Q:VK),Inv X pins σ H s→RelV x v→r x H Q →
  wpAny (model X.prog X.w) X.A (f v) (EP X pins σ Q) X.xe s
def E6(X:Cx)(f:Value)(r:List V→Hp→VK→Prop):Prop :=
 ∀(pins:List (Addr×Obj)) (s:Shared) (σ:St) (H:Hp) (xs:List V) (us:List Value) (Q:VK),Inv X pins σ H s→Vals xs us→r xs H Q →
  wpAny (model X.prog X.w) X.A (call f us) (EP X pins σ Q) X.xe s
def tOp(r:R2)(ta tb:TE):TE:=fun σ H Q=>ta σ H fun x H1=>tb σ H1 fun y H2=>r x y H2 Q
def tUn(r:V→Hp→VK→Prop)(ta:TE):TE:=fun σ H Q=>ta σ H fun x H1=>r x H1 Q
def rI(C:Int→Int→Prop)(g:Int→Int→V):R2:=fun x y H Q=>∃i j,x=.int i∧y=.int j∧C i j∧Q (g i j) H
def P6(g:Int→Int→V):R2:=fun x y H Q=>∃i j,x=.int i∧y=.int j∧Q (g i j) H
def rU(g:Int→V):V→Hp→VK→Prop:=fun x H Q=>∃i,x=.int i∧Q (g i) H
section
variable {X:Cx}{a b c:Expr}{ta tb tc:TE}{pos:Pos}
theorem a4L(ha:PE X a ta)(hb:PE X b tb){pins:List (Addr×Obj)}{s:Shared}{σ:St}{H:Hp}{R:V→V→Hp→Prop}(I:Inv X pins σ H s)
  (h:ta σ H fun x H1=>tb σ H1 fun y H2=>R x y H2) {Q:Value→Shared→Prop} {f:Value→Value→Sem Value}
  (hf:∀v u s2 x y H2,Inv X pins σ H2 s2→RelV x v→RelV y u→R x y H2→wpAny (model X.prog X.w) X.A (f v u) Q X.xe s2) :
  wpAny (model X.prog X.w) X.A (eval a X.env) (fun v s₁=>wpAny (model X.prog X.w) X.A (eval b X.env) (fun u s₂=>wpAny (model X.prog X.w) X.A (f v u) Q X.xe s₂) X.xe s₁) X.xe s:=by
 refine h9 (ha pins s σ H _ I h) fun v s1 ⟨x,H1,I1,r1,q1⟩=>?_
 refine h9 (hb pins s1 σ H1 _ I1 q1) fun u s2 ⟨y,H2,I2,r2,q2⟩=>?_
 exact hf v u s2 x y H2 I2 r1 r2 q2
theorem d9{op:Operator}{r:R2}(ho:C5 X (binaryOp op) r)(ha:PE X a ta)(hb:PE X b tb):PE X (.BinOp a op b pos) (tOp r ta tb):=by
 intro pins s σ H Q I h
 exact wpAny_BinOp (a4L ha hb I h fun v u s2 x y H2 I2 rx ry q=>ho pins s2 σ H2 x y v u Q I2 rx ry q)
theorem M9{op:UnaryOp}{r:V→Hp→VK→Prop}(ho:UnR X (unaryOp op) r)(ha:PE X a ta):PE X (.UnaryOp op a pos) (tUn r ta):=by
 intro pins s σ H Q I h
 exact UnaryOp_ (h9 (ha pins s σ H _ I h) fun v s1 ⟨x,H1,I1,r1,q1⟩=>ho pins s1 σ H1 x v Q I1 r1 q1)
theorem opI{f:Value→Value→Sem Value}{C:Int→Int→Prop}{g:Int→Int→Int}
  (rule:∀(i j:Int) (t u:Tok) (s:Shared) (Q:Value→Shared→Prop) (E:Value→Shared→Prop),C i j→Q (.int (g i j) s.toks) { s with toks:=s.toks+1 }→wpAny (model X.prog X.w) X.A (f (.int i t) (.int j u)) Q E s) :
  C5 X f (rI C fun i j=>.int (g i j)):=by
 intro pins s σ H x y v u Q I rx ry h
 obtain⟨i,j,rfl,rfl,hc,q⟩:=h
 obtain⟨t,rfl⟩:=rx
 obtain⟨t',rfl⟩:=ry
 exact rule i j t t' s _ _ hc ⟨.int (g i j),H,I.tok _,⟨_,rfl⟩,q⟩
theorem a7S{f:Value→Value→Sem Value}{g:Int→Int→Int}
  (rule:∀(i j:Int) (t u:Tok) (s:Shared) (Q:Value→Shared→Prop) (E:Value→Shared→Prop),Q (.int (g i j) s.toks) { s with toks:=s.toks+1 }→wpAny (model X.prog X.w) X.A (f (.int i t) (.int j u)) Q E s) :
  C5 X f (P6 fun i j=>.int (g i j)):=by
 intro pins s σ H x y v u Q I rx ry h
 obtain⟨i,j,rfl,rfl,q⟩:=h
 obtain⟨t,rfl⟩:=rx
 obtain⟨t',rfl⟩:=ry
 exact rule i j t t' s _ _ ⟨.int (g i j),H,I.tok _,⟨_,rfl⟩,q⟩
theorem a4M{f:Value→Value→Sem Value}{g:Int→Int→Bool}
  (rule:∀(i j:Int) (t u:Tok) (s:Shared) (Q:Value→Shared→Prop) (E:Value→Shared→Prop),Q (.bool (g i j)) s→wpAny (model X.prog X.w) X.A (f (.int i t) (.int j u)) Q E s) :
  C5 X f (P6 fun i j=>.bl (g i j)):=by
 intro pins s σ H x y v u Q I rx ry h
 obtain⟨i,j,rfl,rfl,q⟩:=h
 obtain⟨t,rfl⟩:=rx
 obtain⟨t',rfl⟩:=ry
 exact rule i j t t' s _ _ ⟨.bl (g i j),H,I,rfl,q⟩
def a0A(i j:Int):Prop:=0≤j∧j≤1000000∧i.natAbs<2 ^ 64
def CMul(i j:Int):Prop:=(-(2 ^ 64)<i∧i<2 ^ 64)∨(-(2 ^ 64)<j∧j<2 ^ 64)
theorem CMul.ok{i j:Int}(h:CMul i j):IntMulOk i j:=by
 rcases h with⟨h1,h2⟩ | ⟨h1,h2⟩
 ·exact .of_left (intBits_le_64 h1 h2)
 ·exact .of_right (intBits_le_64 h1 h2)
theorem C1:C5 X (binaryOp .Add) (P6 fun i j=>.int (i+j)):=a7S fun _ _ _ _ _ _ _ q=>add_int q
theorem a3I:C5 X (binaryOp .Sub) (P6 fun i j=>.int (i-j)):=a7S fun _ _ _ _ _ _ _ q=>sub_int q
theorem l5:C5 X (binaryOp .Mod) (rI (fun _ j=>0<j) fun i j=>.int (i%j)):=opI fun i j _ _ _ _ _ hc q=>by
 have h1:(0:Int)<j:=hc
 exact mod_int' (by omega) (by rw[Int.fmod_eq_emod_of_nonneg i (by omega)];exact q)
theorem Z6:C5 X (binaryOp .Pow) (rI a0A fun i j=>.int (i ^ j.toNat)):=opI fun _ _ _ _ _ _ _ hc q=>pow_int_small hc.1 hc.2.1 hc.2.2 q
theorem unI{f:Value→Sem Value}{g:Int→Int}
  (rule:∀(i:Int) (t:Tok) (s:Shared) (Q:Value→Shared→Prop) (E:Value→Shared→Prop),Q (.int (g i) s.toks) { s with toks:=s.toks+1 }→wpAny (model X.prog X.w) X.A (f (.int i t)) Q E s) :
  UnR X f (rU fun i=>.int (g i)):=by
 intro pins s σ H x v Q I rx h
 obtain⟨i,rfl,q⟩:=h
 obtain⟨t,rfl⟩:=rx
 exact rule i t s _ _ ⟨.int (g i),H,I.tok _,⟨_,rfl⟩,q⟩
theorem F8:UnR X (unaryOp .USub) (rU fun i=>.int (-i)):=unI fun _ _ _ _ _ q=>neg_int q
end
def a3a:V→V→Bool
 | .non,.non=>true | .non,.int _=>true | .int _,.non=>true | .non,.bl _=>true | .bl _,.non=>true | .non,.str _=>true | .str _,.non=>true
 | .int _,.int _=>true | .bl _,.bl _=>true | .str _,.str _=>true | .byt _,.byt _=>true
 | .int _,.str _=>true | .str _,.int _=>true | .bl _,.str _=>true | .str _,.bl _=>true
 | _,_=>false
def rEq:R2:=fun x y H Q=>a3a x y=true∧Q (.bl (decide (x=y))) H
def rNe:R2:=fun x y H Q=>a3a x y=true∧Q (.bl (!decide (x=y))) H
theorem a2O{i j:Int}:decide (V.int i=V.int j)=(i == j):=by
 rw[Bool.eq_iff_iff]
 simp
theorem a3J{i j:Bool}:decide (V.bl i=V.bl j)=(i == j):=by
 rw[Bool.eq_iff_iff]
 simp
theorem a2P{i j:Str}:decide (V.str i=V.str j)=(i == j):=by
 rw[Bool.eq_iff_iff]
 simp
theorem a2Q{i j:Array UInt8}:decide (V.byt i=V.byt j)=(i.toList == j.toList):=by
 rw[Bool.eq_iff_iff]
 cases i
 cases j
 simp
section
variable {X:Cx}{a b c:Expr}{ta tb tc:TE}{pos:Pos}
theorem i0{pins:List (Addr×Obj)}{σ:St}{H:Hp}{s:Shared}{Q:VK}{k k':Bool}(I:Inv X pins σ H s)(q:Q (.bl k) H)(e:k=k'):EP X pins σ Q (.bool k') s:=by
 subst e
 exact⟨.bl k,H,I,rfl,q⟩
theorem N0:C5 X (compareOp .Eq) rEq:=by
 intro pins s σ H x y v u Q I rx ry h
 obtain⟨hs,q⟩:=h
 cases x with
 | non =>
  cases rx
  cases y with
  | non=>cases ry;exact PySem.EqNone.eq_none_none (i0 I q (by simp))
  | bl j=>cases ry;exact PySem.EqNone.eq_none_bool (i0 I q (by simp))
  | int j=>obtain⟨t',rfl⟩:=ry;exact PySem.EqNone.eq_none_int (i0 I q (by simp))
  | str j=>obtain⟨t',rfl⟩:=ry;exact PySem.EqNone.eq_none_str (i0 I q (by simp))
  | _=>exact absurd (show false=true from hs) Bool.false_ne_true
 | bl i =>
  cases rx
  cases y with
  | non=>cases ry;exact PySem.EqNone.eq_bool_none (i0 I q (by simp))
  | bl j=>cases ry;exact eq_bool (i0 I q a3J)
  | str j=>obtain⟨t',rfl⟩:=ry;exact PySem.EqMixed.eq_bool_str (i0 I q (by simp))
  | _=>exact absurd (show false=true from hs) Bool.false_ne_true
 | int i =>
  obtain⟨t,rfl⟩:=rx
  cases y with
  | non=>cases ry;exact PySem.EqNone.eq_int_none (i0 I q (by simp))
  | int j=>obtain⟨t',rfl⟩:=ry;exact eq_int (i0 I q a2O)
  | str j=>obtain⟨t',rfl⟩:=ry;exact PySem.EqMixed.eq_int_str (i0 I q (by simp))
  | _=>exact absurd (show false=true from hs) Bool.false_ne_true
 | str i =>
  obtain⟨t,rfl⟩:=rx
  cases y with
  | non=>cases ry;exact PySem.EqNone.eq_str_none (i0 I q (by simp))
  | bl j=>cases ry;exact PySem.EqMixed.eq_str_bool (i0 I q (by simp))
  | int j=>obtain⟨t',rfl⟩:=ry;exact PySem.EqMixed.eq_str_int (i0 I q (by simp))
  | str j=>obtain⟨t',rfl⟩:=ry;exact eq_str (i0 I q a2P)
  | _=>exact absurd (show false=true from hs) Bool.false_ne_true
 | byt i =>
  obtain⟨t,rfl⟩:=rx
  cases y with
  | byt j=>obtain⟨t',rfl⟩:=ry;exact W.eq_bytes (i0 I q a2Q)
  | _=>exact absurd (show false=true from hs) Bool.false_ne_true
 | _=>cases y<;>exact absurd (show false=true from hs) Bool.false_ne_true
theorem a3b:C5 X (compareOp .NotEq) rNe:=by
 intro pins s σ H x y v u Q I rx ry h
 obtain⟨hs,q⟩:=h
 cases x with
 | non =>
  cases rx
  cases y with
  | non=>cases ry;exact PySem.EqNone.ne_none_none (i0 I q (by simp))
  | bl j=>cases ry;exact PySem.EqNone.ne_none_bool (i0 I q (by simp))
  | int j=>obtain⟨t',rfl⟩:=ry;exact PySem.EqNone.ne_none_int (i0 I q (by simp))
  | str j=>obtain⟨t',rfl⟩:=ry;exact PySem.EqNone.ne_none_str (i0 I q (by simp))
  | _=>exact absurd (show false=true from hs) Bool.false_ne_true
 | bl i =>
  cases rx
  cases y with
  | non=>cases ry;exact PySem.EqNone.ne_bool_none (i0 I q (by simp))
  | bl j=>cases ry;exact ne_bool (i0 I q (congrArg not a3J))
  | str j=>obtain⟨t',rfl⟩:=ry;exact PySem.EqMixed.ne_bool_str (i0 I q (by simp))
  | _=>exact absurd (show false=true from hs) Bool.false_ne_true
 | int i =>
  obtain⟨t,rfl⟩:=rx
  cases y with
  | non=>cases ry;exact PySem.EqNone.ne_int_none (i0 I q (by simp))
  | int j=>obtain⟨t',rfl⟩:=ry;exact ne_int (i0 I q (congrArg not a2O))
  | str j=>obtain⟨t',rfl⟩:=ry;exact PySem.EqMixed.ne_int_str (i0 I q (by simp))
  | _=>exact absurd (show false=true from hs) Bool.false_ne_true
 | str i =>
  obtain⟨t,rfl⟩:=rx
  cases y with
  | non=>cases ry;exact PySem.EqNone.ne_str_none (i0 I q (by simp))
  | bl j=>cases ry;exact PySem.EqMixed.ne_str_bool (i0 I q (by simp))
  | int j=>obtain⟨t',rfl⟩:=ry;exact PySem.EqMixed.ne_str_int (i0 I q (by simp))
  | str j=>obtain⟨t',rfl⟩:=ry;exact ne_str (i0 I q (congrArg not a2P))
  | _=>exact absurd (show false=true from hs) Bool.false_ne_true
 | byt i =>
  obtain⟨t,rfl⟩:=rx
  cases y with
  | byt j=>obtain⟨t',rfl⟩:=ry;exact W.ne_bytes (i0 I q (congrArg not a2Q))
  | _=>exact absurd (show false=true from hs) Bool.false_ne_true
 | _=>cases y<;>exact absurd (show false=true from hs) Bool.false_ne_true
theorem a5S:C5 X (compareOp .Lt) (P6 fun i j=>.bl (decide (i<j))):=a4M fun _ _ _ _ _ _ _ q=>lt_int q
theorem a9g:C5 X (compareOp .Gt) (P6 fun i j=>.bl (decide (j<i))):=a4M fun _ _ _ _ _ _ _ q=>gt_int q
theorem a9h:C5 X (compareOp .GtE) (P6 fun i j=>.bl (decide (j≤i))):=a4M fun _ _ _ _ _ _ _ q=>ge_int q
theorem n9(b:Expr){op:CmpOp}(h:op≠.In:=by decide)(h2:op≠.NotIn:=by decide):behindInMarks op b=false:=by
 have e1:(op == CmpOp.In)=false:=by cases op<;>first | rfl | exact absurd rfl h
 have e2:(op == CmpOp.NotIn)=false:=by cases op<;>first | rfl | exact absurd rfl h2
 cases b<;>simp[behindInMarks,e1,e2]
theorem a0B{op:CmpOp}{r:R2}(ho:C5 X (compareOp op) r)(ha:PE X a ta)(hb:PE X b tb)(hm:behindInMarks op b=false):PE X (.Compare a [op] [b] pos) (tOp r ta tb):=by
 intro pins s σ H Q I h
 exact wpAny_Compare1 (a4L ha hb I h fun v u s2 x y H2 I2 rx ry q=>ho pins s2 σ H2 x y v u Q I2 rx ry q) hm
def a5T(t:TE):TT:=fun σ H Q=>t σ H fun x H'=>∃k,x=.bl k∧Q k H'
theorem o8{op:CmpOp}{r:R2}(ho:C5 X (compareOp op) r)(ha:PE X a ta)(hb:PE X b tb)(hm:behindInMarks op b=false):PT X (.Compare a [op] [b] pos) (a5T (tOp r ta tb)):=by
 intro pins s σ H Q I h
 refine wpAny_isTrue_Compare1 (h9 (ha pins s σ H _ I h) fun v s1 ⟨x,H1,I1,r1,q1⟩=>h9 (hb pins s1 σ H1 _ I1 q1) fun u s2 ⟨y,H2,I2,r2,q2⟩ =>
  h9 (ho pins s2 σ H2 x y v u _ I2 r1 r2 q2) fun c s3 ⟨z,H3,I3,r3,k,e,q3⟩=>?_) hm
 subst e
 cases r3
 exact wpAny_truthy_bool ⟨H3,I3,q3⟩
theorem a1K:(sizeLine:Nat)<2 ^ 63:=by rw[sizeLine_eq];decide
theorem a5U{x:V}{us:List Value}(r:Vals [x] us):∃u,us=[u]∧RelV x u:=by
 cases r with
 | cons r1 r2=>cases r2;exact⟨_,rfl,r1⟩
theorem a9i{x y:V}{us:List Value}(r:Vals [x,y] us):∃u w',us=[u,w']∧RelV x u∧RelV y w':=by
 cases r with
 | cons r1 r2 =>
  cases r2 with
  | cons r3 r4=>cases r4;exact⟨_,_,rfl,r1,r3⟩
end
structure ObjM(h:Heap)(x dx C:Addr)(mA:Str→Option Value):Prop where
 obj:h.get? x=some (W.instObj C dx)
 ns:h.Ns1 dx mA
 ne:dx≠x
theorem a3K{h:Heap}{dx:Addr}{mA:Str→Option Value}(n:h.Ns1 dx mA):∃od,h.get? dx=some od∧∀name,W.lookIn name od=some (mA name):=by
 obtain⟨o,es,ep,ho,hd,hk,_,hm⟩:=n
 refine⟨o,ho,fun name=>?_⟩
 have e:=hm name
 unfold nsFind findBy at e
 rw[← Array.find?_toList]at e
 unfold W.lookIn
 rw[hd]
 dsimp only
 split
 ·rename_i y q
  rw[q]at e
  exact congrArg some e
 ·rename_i q
  rw[q]at e
  have a:es.toList.any (·.refKey)=false:=by
   rw[List.any_eq_false]
   intro y hy
   obtain⟨z,t,hkey⟩:=hk y (Array.mem_toList_iff.mp hy)
   simp[DictEntry.refKey,hkey]
  have a':¬es.toList.any (·.refKey)=true:=by rw[a];exact Bool.false_ne_true
  rw[if_neg a']
  exact congrArg some e
theorem ObjM.look{h:Heap}{x dx C:Addr}{mA:Str→Option Value}(I:ObjM h x dx C mA):∃od,W.InstAt h x (W.instObj C dx) C (some od)∧∀name,W.lookIn name od=some (mA name) :=
 let ⟨od,ho,hl⟩:=a3K I.ns
 ⟨od,⟨I.obj,rfl,rfl,ho⟩,hl⟩
section
variable {P:Program}{w:World}{H H':Hp}{h h':Heap}{a C dx:Addr}{fs fs':List (Str×V)}
theorem a6k(hok:HOk P w H h)(e:H a=some (.ins C dx fs)):∃mA,ObjM h a dx C mA∧(∀f,a4H (fs.lookup f) (mA f))∧PySem.Within mA (fs.map (·.1))∧fs.length≤1000∧H dx=some (.own a):=by
 obtain⟨d,z,ne,ob,mA,n,r,q⟩:=(show ObjOk P w H h a (.ins C dx fs)from hok a _ e)
 exact⟨mA,⟨ob,n,ne⟩,r,q,z,d⟩
end
structure Cls(K:W.Frag)(C:Addr):Prop where
 pg:W.plainGet K C Str.empty=true
 hd:W.hasDictIn K C=true
 po:W.plainOver K C=true
 sa:W.findIn K (.ref C) "__setattr__" = some (some (.builtin "object.__setattr__"))
theorem Cls.get{K:W.Frag}{C:Addr}(c:Cls K C)(f:Str):W.plainGet K C f=true:=c.pg
section
variable {X:Cx}{pins:List (Addr×Obj)}{σ:St}{H:Hp}{s:Shared}{A:Around}{E:Value→Shared→Prop}{Q:Value→Shared→Prop}{c:Value}{b:Bool}
inductive TyOf(K:W.Frag)(H:Hp):V→Value→Prop where
 | non:TyOf K H .non (.type "NoneType")
 | bl (x:Bool):TyOf K H (.bl x) (.type "bool")
 | int (i:Int):TyOf K H (.int i) (.type "int")
 | str (x:Str):TyOf K H (.str x) (.type "str")
 | flt (x:UInt64):TyOf K H (.flt x) (.type "float")
 | lst {a:Addr} {xs:List V} (e:H a=some (.lst xs)):TyOf K H (.ref a) (.type "list")
 | frz {a:Addr} {o:Obj} {xs:List V} (e:H a=some (.frz o (.lst xs))):TyOf K H (.ref a) (.type "list")
 | tup {a:Addr} {xs:List V} (e:H a=some (.tup xs)):TyOf K H (.ref a) (.type "tuple")
 | dK {a:Addr} {kvs:List (D4×V)} (e:H a=some (.dK kvs)):TyOf K H (.ref a) (.type "dict")
 | dT {a:Addr} {kvs:List (List D4×V)} (e:H a=some (.dT kvs)):TyOf K H (.ref a) (.type "dict")
 | ins {a C dx:Addr} {fs:List (Str×V)} (e:H a=some (.ins C dx fs)) (cl:Cls K C) (ha:W.findIn K (.ref C) "__class__" = some (some (.builtin "object.__class__")))
   (hn:W.specialIn K (.builtin "object.__class__") "__get__" = some (some (.builtin "getset_descriptor.__get__"))) (htk:W.takesIn K (.builtin "object.__class__")=some true)
   (hm:W.mroIn K C (.type "object")=some true):TyOf K H (.ref a) (.ref C)
end
structure Room(k:Nat)(A:Around):Prop where
 hd:A.handled=none
 dp:A.depth+3*k+5<recursionLimit
 un:A.units+16*k+200<cLine
theorem Room.mono{j k:Nat}{A:Around}(r:Room k A)(h:j≤k):Room j A:=⟨r.hd,by have:=r.dp;omega,by have:=r.un;omega⟩
theorem Room.deeper{k:Nat}{A:Around}(r:Room (k+1) A)(env:Env):Room k (A.deeper env) :=
 ⟨r.hd,by have:=r.dp;show A.depth+1+3*k+5<_;omega,by have:=r.un;show A.units+3+16*k+200<_;omega⟩
theorem Room.in1{k:Nat}{A:Around}(r:Room (k+1) A):Room k A.in1 :=
 ⟨r.hd,by have:=r.dp;show A.depth+3*k+5<_;omega,by have:=r.un;show A.units+1+16*k+200<_;omega⟩
theorem Room.depth{k:Nat}{A:Around}(r:Room k A):A.depth<recursionLimit:=by have:=r.dp;omega
theorem Room.units{k:Nat}{A:Around}(r:Room k A):A.units+64<cLine:=by have:=r.un;omega
def Q8:TA:=fun _ H Q=>Q [] H
def E7(ta:TE)(tr:TA):TA:=fun σ H Q=>ta σ H fun x H1=>tr σ H1 fun xs H2=>Q (x::xs) H2
section
variable {X:Cx}{e:Expr}{es:List Expr}{te:TE}{t:TA}{pos:Pos}
theorem c6:PA X [] Q8:=fun _ _ _ _ H Q I h=>Calls.spliced_nil ⟨[],H,I,.nil,h⟩
theorem a6(ha:PE X e te)(hr:PA X es t)(hs:starEach (e::es) X.env=(false,eval e X.env)::starEach es X.env:=by rfl):PA X (e::es) (E7 te t):=by
 intro pos pins s σ H Q I h
 rw[hs]
 show wpAny _ _ (spliced ((false,eval e X.env)::backTo pos (starEach es X.env))) _ _ s
 refine Calls.spliced_cons (h9 (ha pins s σ H _ I h) fun u s1 ⟨x,H1,I1,r1,q1⟩=>?_)
 exact h9 (hr pos pins s1 σ H1 _ I1 q1) fun us s2 ⟨xs,H2,I2,r2,q2⟩=>⟨x::xs,H2,I2,.cons r1 r2,q2⟩
def a7T(t:TA):TE:=fun σ H Q=>t σ H fun xs H1=>xs.length≤sizeLine∧∀p,H1 p=none→Q (.ref p) (upd H1 p (.tup xs))
def a7U(t:TA):TE:=fun σ H Q=>t σ H fun xs H1=>xs.length≤sizeLine∧∀p,H1 p=none→Q (.ref p) (upd H1 p (.lst xs))
theorem K5{x1}(h:PA X es t):PE X (.Tuple es x1 pos) (a7T t):=by
 intro pins s σ H Q I hq
 refine wpAny_Tuple_spliced (h9 (h pos pins s σ H _ I hq) fun us s1 ⟨xs,H1,I1,r,z,q⟩=>⟨by rw[← r.length];exact z,?_⟩)
 have hf:H1 s1.heap.objs.size=none:=I1.hok.fresh (Nat.le_refl _)
 refine⟨.ref s1.heap.objs.size,upd H1 s1.heap.objs.size (.tup xs),I1.laid (t':=s1.toks) (fun b u e=>Heap.get?_push_of_some _ e) (Nat.le_refl _) ?_,rfl,q _ hf⟩
 exact⟨z,us,r,⟨_,Heap.get?_push_size _ rfl,rfl,_,rfl⟩⟩
theorem a3L(h:PA X es t):PE X (.List es pos) (a7U t):=by
 intro pins s σ H Q I hq
 refine wpAny_List_spliced (h9 (h pos pins s σ H _ I hq) fun us s1 ⟨xs,H1,I1,r,z,q⟩=>⟨by rw[← r.length];exact z,?_⟩)
 have hf:H1 s1.heap.objs.size=none:=I1.hok.fresh (Nat.le_refl _)
 refine⟨.ref s1.heap.objs.size,upd H1 s1.heap.objs.size (.lst xs),I1.laid (t':=s1.toks) (fun b u e=>Heap.get?_push_of_some _ e) (Nat.le_refl _) ?_,rfl,q _ hf⟩
 exact⟨z,us,0,r,Heap.get?_push_size _ rfl⟩
end
abbrev Sp:=List V→Hp→VK→XK→Prop
abbrev N5:=List Env→Hp→Shared→XK→Value→Shared→Prop
structure Env0(P:Program)(w:World)(K:W.Frag)(mg:Str→Option Value)(base:Heap)(A:Around)(outer:List Env)(s:Shared)(H:Hp):Prop where
 frames:A.frames=some outer
 mod:Mod K mg base
 bs:∀b o,base.get? b=some o→s.heap.get? b=some o∧H b=none
 bsz:base.objs.size≤s.heap.objs.size
 funs:s.heap.FunFrames base outer
 frf:∀b∈v8 outer,H b=none
 hok:HOk P w H s.heap
 bare:AllBare s.gens
def CE(outer:List Env)(P:Program)(w:World)(H:Hp)(s:Shared)(Q:VK)(u:Value)(s':Shared):Prop :=
 ∃v H',s'.os=s.os∧AllBare s'.gens∧Un (v8 outer) [] H H' s.heap s'.heap∧HOk P w H' s'.heap∧RelV v u∧Q v H'
def CR(CX:N5)(outer:List Env)(P:Program)(w:World)(H:Hp)(s:Shared)(Q:VK)(E:XK)(r:Result)(s':Shared):Prop :=
 match r with
 | .ok (.ret u)=>CE outer P w H s Q u s'
 | .ok _=>False
 | .error e=>CX outer H s E e s'
structure FnOk(P:Program)(w:World)(K:W.Frag)(mg:Str→Option Value)(base:Heap)(CX:N5)(k:Nat)(f:Addr)(fd:FuncData)(ps:List Str)(sp:Sp):Prop where
 len:∀vs H Q E,sp vs H Q E→vs.length=ps.length
 run:∀(A:Around) (outer:List Env) (s:Shared) (H:Hp) (args:Args) (us:List Value) (vs:List V) (Q:VK) (E:XK),Room k A→Env0 P w K mg base A outer s H→BindsTo s fd args (ps.zip us)→Vals vs us→sp vs H Q E →
  codeAny (model P w) A (.call (.ref f) args) (CR CX outer P w H s Q E) s
theorem FnOk.mono{P:Program}{w:World}{K:W.Frag}{mg:Str→Option Value}{base:Heap}{CX:N5}{j k:Nat}{f:Addr}{fd:FuncData}{ps:List Str}{sp:Sp}(F:FnOk P w K mg base CX j f fd ps sp)(h:j≤k) :
  FnOk P w K mg base CX k f fd ps sp:=⟨F.len,fun A outer s H args us vs Q E hr=>F.run A outer s H args us vs Q E (hr.mono h)⟩
theorem FnOk.imp{P:Program}{w:World}{K:W.Frag}{mg:Str→Option Value}{base:Heap}{CX:N5}{k:Nat}{f:Addr}{fd:FuncData}{ps:List Str}{sp sp':Sp}(F:FnOk P w K mg base CX k f fd ps sp)
  (h:∀vs H Q E,sp' vs H Q E→sp vs H Q E):FnOk P w K mg base CX k f fd ps sp' :=
 ⟨fun vs H Q E q=>F.len vs H Q E (h _ _ _ _ q),fun A outer s H args us vs Q E hr he hb hv hs=>F.run A outer s H args us vs Q E hr he hb hv (h _ _ _ _ hs)⟩
theorem Env0.in1{P:Program}{w:World}{K:W.Frag}{mg:Str→Option Value}{base:Heap}{A:Around}{outer:List Env}{s:Shared}{H:Hp}(e:Env0 P w K mg base A outer s H) :
  Env0 P w K mg base A.in1 outer s H:=⟨e.frames,e.mod,e.bs,e.bsz,e.funs,e.frf,e.hok,e.bare⟩
section
variable {X:Cx}{pins:List (Addr×Obj)}{σ:St}{H:Hp}{s s':Shared}
theorem Inv.env0(I:Inv X pins σ H s):Env0 X.prog X.w X.K X.mg X.base X.A X.stack s H :=
 ⟨I.ok.frames,I.ok.mod,I.bs,Nat.le_trans I.ok.bsz I.sz,I.stack,I.stkFree,I.hok,I.bare⟩
theorem Inv.after{Q:VK}{u:Value}(I:Inv X pins σ H s)(h:CE X.stack X.prog X.w H s Q u s'):EP X pins σ Q u s':=by
 obtain⟨v,H',os,bare,un,hok,r,q⟩:=h
 obtain⟨hh,g,d,t,os'⟩:=s'
 obtain rfl:os'=s.os:=os
 exact⟨v,H',I.call (h':=hh) (g':=g) (d':=d) (t':=t) (ch:=[]) un hok bare (fun b z=>absurd z (by simp)),r,q⟩
end
def W1(sp:Sp)(dvs:List V)(E:XK)(t:TA):TE:=fun σ H Q=>t σ H fun vs H1=>sp (vs++dvs) H1 Q E
def Binds(K:W.Frag)(fd:FuncData)(ps:List Str)(ds:List Value):Prop :=
 ∀(s:Shared) (us:List Value),K.In s.heap→(us++ds).length=ps.length→BindsTo s fd ⟨us,[]⟩ (ps.zip (us++ds))
theorem Binds.all{K:W.Frag}{fd:FuncData}{ps:List Str}(h:∀us:List Value,us.length=ps.length→bindArgs fd ⟨us,[]⟩=pure (ps.zip us)):Binds K fd ps []:=fun s us _ hl=>by
 rw[List.append_nil]at hl ⊢
 exact .of_eq (h us hl)
def U3(CX:N5)(X:Cx)(E:XK):Prop:=∀(pins:List (Addr×Obj)) (σ:St) (H:Hp) (s:Shared) (e:Value) (s':Shared),Inv X pins σ H s→CX X.stack H s E e s'→X.xe e s'
section
variable {X:Cx}{CX:N5}{k:Nat}{f C:Addr}{fd:FuncData}{ps:List Str}{sp:Sp}{dvs:List V}{ds:List Value}{E:XK}{x m:Str}{p pos apos:Pos}{e o:Expr}{es:List Expr}{ta:TE}{t:TA}
theorem a7V{pins:List (Addr×Obj)}{σ:St}{H:Hp}{s:Shared}{Q:VK}{us:List Value}{vs:List V}(F:FnOk X.prog X.w X.K X.mg X.base CX k f fd ps sp)(hr:Room k X.A)(hb:Binds X.K fd ps ds)(hd:Vals dvs ds)(hx:U3 CX X E)
  (I:Inv X pins σ H s) (r:Vals vs us) (h:sp (vs++dvs) H Q E):wpAny (model X.prog X.w) X.A (call (.ref f) us) (EP X pins σ Q) X.xe s:=by
 have r2:Vals (vs++dvs) (us++ds):=r.append hd
 have hl:(us++ds).length=ps.length:=by rw[← r2.length];exact F.len _ _ _ _ h
 refine wpAny_call (codeAny_mono (F.run X.A X.stack s H ⟨us,[]⟩ (us++ds) (vs++dvs) Q E hr I.env0 (hb s us I.kIn hl) r2 h) fun r s' hq=>?_)
 cases r with
 | error e=>exact hx pins σ H s e s' I hq
 | ok fl =>
  cases fl with
  | ret u=>exact I.after hq
  | next=>exact False.elim hq
  | brk=>exact False.elim hq
  | cont=>exact False.elim hq
theorem a6l(F:FnOk X.prog X.w X.K X.mg X.base CX k f fd ps sp)(hr:Room k X.A)(hg:Gl X x)(hm:X.mg x=some (.ref f))(hk:W.keepIn X.K (.ref f)=true)(hb:Binds X.K fd ps ds)(hd:Vals dvs ds)(hx:U3 CX X E)
  (ha:PA X (e::es) t) (hdb:(x == ("__debug__" : Str))=false:=by decide) (he:starEach (e::es) X.env=(false,eval e X.env)::starEach es X.env:=by rfl) (hpl:(backTo pos (starEach es X.env)).any (·.1)=false:=by rfl) :
  PE X (.Call (.Name x p) (e::es) [] pos) (W1 sp dvs E t):=by
 intro pins s σ H Q I h
 refine wpAny_Call_Name_kw (a6j I hg hm ?_ hdb)
 refine W.callWith_K (h₀:=X.base) I.ok.mod.kin hk (h9 (ha pos pins s σ H _ I h) fun us s1 ⟨vs,H1,I1,r,q⟩=>⟨I1.kIn,?_⟩) he hpl
 exact a7V F hr hb hd hx I1 r q
end
def PK(X:Cx)(kws:List Keyword)(t:TA):Prop :=
 ∀(pos:Pos) (pins:List (Addr×Obj)) (s:Shared) (σ:St) (H:Hp) (Q:List V→Hp→Prop),Inv X pins σ H s→t σ H Q→wpAny (model X.prog X.w) X.A (evalAll ((backToKw pos (keywordEach kws X.env)).map (·.2))) (AP X pins σ Q) X.xe s
section
variable {X:Cx}{CX:N5}{k:Nat}{f C:Addr}{fd:FuncData}{ps ks:List Str}{sp:Sp}{E:XK}{x m:Str}{p pos apos kpos:Pos}{e o:Expr}{es:List Expr}{kws:List Keyword}{te ta:TE}{t tk:TA}{nm:Option Str}
theorem a7W:PK X [] Q8:=fun _ _ _ _ H Q I h=>wpAny_evalAll_nil ⟨[],H,I,.nil,h⟩
theorem a6m(ha:PE X e te)(hr:PK X kws t):PK X (⟨nm,e,kpos⟩ :: kws) (E7 te t):=by
 intro pos pins s σ H Q I h
 show wpAny _ _ (evalAll ((do let v ← eval e X.env;standAt pos;pure v)::(backToKw pos (keywordEach kws X.env)).map (·.2))) _ _ s
 refine wpAny_evalAll_cons (wpAny_bind (h9 (ha pins s σ H _ I h) fun u s1 ⟨x,H1,I1,r1,q1⟩=>wpAny_bind (wpAny_standAt (wpAny_pure ?_))))
 exact h9 (hr pos pins s1 σ H1 _ I1 q1) fun us s2 ⟨xs,H2,I2,r2,q2⟩=>⟨x::xs,H2,I2,.cons r1 r2,q2⟩
variable {g:List Value→List Value→List Value}{gV:List V→List V→List V}
end
structure FnScope(N P:List Str)(sc:Scope):Prop where
 kind:sc.kind=.function
 co:sc.isCoroutine=false
 gen:sc.isGenerator=false
 nd:N.Nodup
 pre:N.take P.length=P
 par:∀x∈P,sc.names.lookup x=some .local∨sc.names.lookup x=some .cell
 nofree:∀y∈sc.names,y.2≠.free
theorem a0_{kindOf:Str→Option NameKind}{x:Str}:∀{binds:List (Str×Value)} {m:Str→Option Value},(∀v,(x,v) ∉ binds)→bindL kindOf binds m x=m x
 | [],_,_=>rfl
 | (n,v)::r,m,h=>by
  unfold bindL
  rw[a0_ fun w hw=>h w (List.mem_cons_of_mem _ hw)]
  split
  ·have:x≠n:=by rintro rfl;exact h v List.mem_cons_self
   simp[this]
  ·rfl
theorem a1a{kindOf:Str→Option NameKind}{x:Str}:∀{binds:List (Str×Value)} {m:Str→Option Value},(∀v,(x,v) ∉ binds)→bindC kindOf binds m x=m x
 | [],_,_=>rfl
 | (n,v)::r,m,h=>by
  unfold bindC
  rw[a1a fun w hw=>h w (List.mem_cons_of_mem _ hw)]
  split
  ·rfl
  ·have:x≠n:=by rintro rfl;exact h v List.mem_cons_self
   simp[this]
theorem a1b{kindOf:Str→Option NameKind}{x:Str}{v:Value}:∀{P:List Str} {vs:List Value} {i:Nat} {m:Str→Option Value},P.Nodup→P[i]? = some x→vs[i]? = some v→kindOf x=some .local →
  bindL kindOf (P.zip vs) m x=some v
 | [],_,_,_,_,h,_,_=>by simp at h
 | _::_,[],_,_,_,_,h,_=>by simp at h
 | p::P,w::vs,0,m,nd,h1,h2,hk=>by
  simp at h1 h2;subst h1;subst h2
  show bindL kindOf ((p,w)::P.zip vs) m p=_
  unfold bindL
  rw[a0_ fun v hv=>(List.nodup_cons.mp nd).1 (List.of_mem_zip hv).1,if_pos hk]
  simp
 | p::P,w::vs,i+1,m,nd,h1,h2,hk=>by
  show bindL kindOf ((p,w)::P.zip vs) m x=_
  unfold bindL
  exact a1b (i:=i) (List.nodup_cons.mp nd).2 (by simpa using h1) (by simpa using h2) hk
theorem a1c{kindOf:Str→Option NameKind}{x:Str}{v:Value}:∀{P:List Str} {vs:List Value} {i:Nat} {m:Str→Option Value},P.Nodup→P[i]? = some x→vs[i]? = some v→kindOf x≠some .local →
  bindC kindOf (P.zip vs) m x=some v
 | [],_,_,_,_,h,_,_=>by simp at h
 | _::_,[],_,_,_,_,h,_=>by simp at h
 | p::P,w::vs,0,m,nd,h1,h2,hk=>by
  simp at h1 h2;subst h1;subst h2
  show bindC kindOf ((p,w)::P.zip vs) m p=_
  unfold bindC
  rw[a1a fun v hv=>(List.nodup_cons.mp nd).1 (List.of_mem_zip hv).1,if_neg hk]
  simp
 | p::P,w::vs,i+1,m,nd,h1,h2,hk=>by
  show bindC kindOf ((p,w)::P.zip vs) m x=_
  unfold bindC
  exact a1c (i:=i) (List.nodup_cons.mp nd).2 (by simpa using h1) (by simpa using h2) hk
def start(N:List Str)(vs:List V):St:=vs.map some++List.replicate (N.length-vs.length) none
def G4(CX:N5)(P:Program)(w:World)(K:W.Frag)(mg:Str→Option Value)(base:Heap)(N:List Str)(qual:Str)(scope:Scope)(f:Addr)(cd:Value)(A:Around)(outer:List Env)(s:Shared)(H:Hp)(E:XK):Cx where
 prog:=P
 w:=w
 K:=K
 mg:=mg
 base:=base
 A:=A.deeper (envOfC qual scope s.heap.objs.size f cd)
 N:=N
 s₀:=s
 H₀:=H
 env:=envOfC qual scope s.heap.objs.size f cd
 outer:=outer
 stack:=envOfC qual scope s.heap.objs.size f cd::outer
 ex:=[]
 calm:=true
 fn:=fun _=>true
 pn:=[]
 xe:=fun e s'=>wpAny (model P w) (A.deeper (envOfC qual scope s.heap.objs.size f cd)) (leaving (envOfC qual scope s.heap.objs.size f cd) e) (fun _ s''=>CX outer H s E e s'') (fun e' s''=>CX outer H s E e' s'') s'
theorem a1L{sc:Scope}{n:Nat}{x:Str}(h:sc.names.lookup x=some .cell):∃c,(cellsFrom n sc.names []).lookup x=some c:=by
 have q:=W.cellsFrom_some sc.names n [] (.inl h)
 exact Option.isSome_iff_exists.mp q
theorem a3M{CX:N5}{P:Program}{w:World}{K:W.Frag}{mg:Str→Option Value}{base:Heap}{N ps:List Str}{qual:Str}{scope:Scope}{f:Addr}{cd:Value}{A:Around}{outer:List Env}{s s1:Shared}{H:Hp}{E:XK}{us:List Value}{vs:List V}
  (S:FnScope N ps scope) (hd:A.handled=none) (e0:Env0 P w K mg base A outer s H) (hl:vs.length=ps.length) (r:Vals vs us)
  (x:InCallC s s.heap.objs.size (bindL (envOfC qual scope s.heap.objs.size f cd).kindOf (ps.zip us) fun _=>none) (cellsFrom (s.heap.objs.size+1) scope.names []) (bindC (envOfC qual scope s.heap.objs.size f cd).kindOf (ps.zip us) fun _=>none) s1) :
  Inv (G4 CX P w K mg base N qual scope f cd A outer s H E) [] (start N vs) H s1:=by
 have hpl:ps.length≤N.length:=by have:=congrArg List.length S.pre;rw[List.length_take]at this;omega
 obtain⟨h1,tk,rfl,hk⟩:=x.done
 have noA:∀b:Addr,b ∉ (G4 CX P w K mg base N qual scope f cd A outer s H E).ex:=fun b z=>absurd (show b∈([]:List Addr)from z) (by simp)
 refine⟨⟨e0.mod,S.kind,rfl,rfl,Nat.le_refl _,fun y z c h1 h2=>?_,fun y hy=>?_,fun y c _ h=>?_,fun _=>hd,Around.frames_deeper e0.frames,.inr ⟨rfl,rfl⟩,fun b z=>absurd z (noA b),e0.bs,e0.bsz,fun b _ _=>noA b,fun b z=>absurd z (noA b),e0.funs,e0.frf⟩,
  rfl,e0.bare,Un.kept hk,⟨_,x.toInCall.ns,fun i y v h1 h2 h3=>?_⟩,fun y c h=>⟨_,x.cell y c h⟩,e0.hok.fresh (Nat.le_refl _),fun y c h=>?_,fun p hp=>absurd (show p∈([]:List (Addr×Obj))from hp) (by simp),e0.hok.kept hk,?_⟩
 ·exact name_of_addr x.apart (PySem.mem_of_lookup h1) (PySem.mem_of_lookup h2)
 ·have hy:scope.names.lookup y=some .cell∨scope.names.lookup y=some .free:=hy
  rcases hy with hy | hy
  ·exact a1L hy
  ·exact absurd rfl (S.nofree _ (PySem.mem_of_lookup hy))
 ·exact Nat.le_of_lt (x.above y c (PySem.mem_of_lookup h))
 ·have hi:i<vs.length:=by
   unfold start at h2
   by_cases hi:i<vs.length
   ·exact hi
   ·rw[List.getElem?_append_right (by simpa using hi)]at h2
    rw[List.getElem?_replicate]at h2
    split at h2<;>cases h2
  have ha:vs[i]? = some v:=by
   unfold start at h2
   rw[List.getElem?_append_left (by simpa using hi),List.getElem?_map]at h2
   cases e:vs[i]? with
   | none=>rw[e]at h2;cases h2
   | some a=>rw[e]at h2;cases h2;rfl
  obtain⟨u,hu,rv⟩:=r.get ha
  have hp:ps[i]? = some y:=by
   rw[← S.pre,List.getElem?_take_of_lt (by omega)];exact h1
  have ndP:ps.Nodup:=by rw[← S.pre];exact S.nd.sublist (List.take_sublist _ _)
  refine⟨u,rv,?_⟩
  rcases S.par y (List.mem_of_getElem? hp)with k | k
  ·exact .inl ⟨k,a1b ndP hp hu k⟩
  ·obtain⟨c,e⟩:=a1L (n:=s.heap.objs.size+1) k
   refine .inr ⟨.inl k,c,e,?_⟩
   have q:=x.cell y c e
   rw[a1c ndP hp hu (by show scope.names.lookup y≠_;rw[k];decide)]at q
   exact q
 ·exact e0.hok.fresh (Nat.le_of_lt (x.above y c (PySem.mem_of_lookup h)))
 ·unfold start
  show _=N.length
  rw[List.length_append,List.length_map,List.length_replicate]
  omega
theorem Z7{CX:N5}{P:Program}{w:World}{K:W.Frag}{mg:Str→Option Value}{base:Heap}{k:Nat}{f:Addr}{name qual:Str}{params:Arguments}{body:List Stmt}{scope:Scope}{dV kV doc pm cdv ct oc:Value}{an od:Option Addr}
  {osl:Array (Option Value)} {N ps:List Str} {sp:Sp} (lk:K.lookup f=some ⟨oc,od,.func (W.fnOf name qual params body scope dV kV doc pm an cdv ct),osl⟩) (hcd:W.codeIn K cdv qual=true) (S:FnScope N ps scope)
  (len:∀vs H Q E,sp vs H Q E→vs.length=ps.length)
  (hbody:∀(A:Around) (outer:List Env) (s:Shared) (H:Hp) (vs:List V) (Q:VK) (E:XK),Room k (A.deeper (envOfC qual scope s.heap.objs.size f cdv))→sp vs H Q E →
   ∃t,PSs (G4 CX P w K mg base N qual scope f cdv A outer s H E) body t∧t { nx:=fun _ H'=>Q .non H',rt:=Q } (start N vs) H) :
  FnOk P w K mg base CX (k+1) f (W.fnOf name qual params body scope dV kV doc pm an cdv ct) ps sp:=by
 refine⟨len,fun A outer s H args us vs Q E hr e0 hb r hsp=>?_⟩
 have hl:=len _ _ _ _ hsp
 have KX:K.In s.heap:=e0.mod.kin.keeps fun b o e=>(e0.bs b o e).1
 have lim:s.heap.NoLimit:=e0.mod.nolimit.keeps fun b o e=>(e0.bs b o e).1
 have hkind:∀y∈ps.zip us,scope.names.lookup y.1=some .local∨(scope.names.lookup y.1=some .cell∧((cellsFrom (s.heap.objs.size+1) scope.names []).lookup y.1).isSome=true):=fun⟨n,v⟩ hy=>by
  rcases S.par n (List.of_mem_zip hy).1 with q | q
  ·exact .inl q
  ·exact .inr ⟨q,W.cellsFrom_some _ _ _ (.inl q)⟩
 refine codeAny_call_function hr.depth (KX _ _ lk) rfl S.co S.gen rfl (W.codeRec_of KX hcd) (hb _ _ _ _ ?_)
 refine wpAny_newFunctionEnv_cells S.kind hkind fun env he s1 x=>?_
 subst he
 refine⟨lim.keeps x.toInCall.keep,codeAny_func ?_⟩
 obtain⟨t,ht,hq⟩:=hbody A outer s H vs Q E (hr.deeper _) hsp
 have I:Inv (G4 CX P w K mg base N qual scope f cdv A outer s H E) [] (start N vs) H s1:=a3M S hr.hd e0 hl r x
 refine wpAny_mono (ht [] s1 (start N vs) H _ I hq) (fun fl s' hs=>?_) fun e s' hs=>hs
 have fin:∀{σ':St} {H':Hp} {v:V} {u:Value},Inv (G4 CX P w K mg base N qual scope f cdv A outer s H E) [] σ' H' s'→RelV v u→Q v H'→CE outer P w H s Q u s' :=
  fun{σ' H' v u} J rv q=>⟨v,H',J.os,J.bare,J.base,J.hok,rv,q⟩
 cases fl with
 | ret u =>
  obtain⟨v,σ',H',J,rv,q⟩:=hs
  exact fin J rv q
 | next =>
  obtain⟨σ',H',J,q⟩:=hs
  exact fin (v:=V.non) (u:=Value.none) J rfl q
 | brk =>
  obtain⟨_,_,_,q⟩:=hs
  exact False.elim q
 | cont =>
  obtain⟨_,_,_,q⟩:=hs
  exact False.elim q
section
variable {X:Cx}{x:Str}{p pos:Pos}{e:Expr}{es:List Expr}{t:TA}{id T:String}{r:List V→Hp→VK→Prop}
def tCB(r:List V→Hp→VK→Prop)(t:TA):TE:=fun σ H Q=>t σ H fun vs H1=>r vs H1 Q
theorem t4(hc:E6 X (.builtin id) r)(hg:Gl X x)(hm:X.mg x=none)(hv:bootBuiltins x=some (.builtin id))(ha:PA X (e::es) t)(hn:x≠"__name__" := by decide)(hdb:(x == ("__debug__" : Str))=false:=by decide)
  (he:starEach (e::es) X.env=(false,eval e X.env)::starEach es X.env:=by rfl) (hpl:(backTo pos (starEach es X.env)).any (·.1)=false:=by rfl):PE X (.Call (.Name x p) (e::es) [] pos) (tCB r t):=by
 intro pins s σ H Q I h
 refine wpAny_Call_Name_kw (K2 I hg hm hv ?_ hn hdb)
 exact PyProof.Rows.callWith_builtin1 (h9 (ha pos pins s σ H _ I h) fun us s1 ⟨vs,H1,I1,r1,q1⟩=>hc pins s1 σ H1 vs us Q I1 r1 q1) he hpl
theorem a1e(hc:E6 X (.type T) r)(hg:Gl X x)(hm:X.mg x=none)(hv:bootBuiltins x=some (.type T))(ha:PA X (e::es) t)(hn:x≠"__name__" := by decide)(hdb:(x == ("__debug__" : Str))=false:=by decide)
  (he:starEach (e::es) X.env=(false,eval e X.env)::starEach es X.env:=by rfl) (hpl:(backTo pos (starEach es X.env)).any (·.1)=false:=by rfl):PE X (.Call (.Name x p) (e::es) [] pos) (tCB r t):=by
 intro pins s σ H Q I h
 refine wpAny_Call_Name_kw (K2 I hg hm hv ?_ hn hdb)
 exact PyProof.Rows.callWith_type1 (h9 (ha pos pins s σ H _ I h) fun us s1 ⟨vs,H1,I1,r1,q1⟩=>hc pins s1 σ H1 vs us Q I1 r1 q1) he hpl
end
end L2
namespace HT
open PySem PyProof.Rows
def lexLt:List Int→List Int→Bool
 | [],[]=>false
 | [],_::_=>true
 | _::_,[]=>false
 | x::xs,y::ys=>if x=y then lexLt xs ys else decide (x<y)
theorem lexLt_cons(x y:Int)(xs ys:List Int):lexLt (x::xs) (y::ys)=if x=y then lexLt xs ys else decide (x<y):=rfl
theorem a1p:lexLt [] []=false:=rfl
theorem a0C(y:Int)(ys:List Int):lexLt [] (y::ys)=true:=rfl
theorem a0D(x:Int)(xs:List Int):lexLt (x::xs) []=false:=rfl
theorem a4N(A:Around)(s:Shared)(a:Int)(t:Tok)(c:Int)(u:Tok):∃e,SeqAt.EqAt A s (.int a t) (.int c u) e∧(e=true↔a=c) :=
 ⟨(a == c),SeqAt.EqAt.int_int a t c u,by simp⟩
theorem a4O(A:Around)(s:Shared)(a:Int)(t:Tok)(c:Int)(u:Tok)(prog:Program)(w:World)(E:Value→Shared→Prop)(Q:Value→Shared→Prop)(h:Q (.bool (decide (a<c))) s) :
  wpAny (model prog w) A (richCompare .Lt (.int a t) (.int c u)) Q E s :=
 (PyProof.Rows.lt_int h:wpAny (model prog w) A (compareOp .Lt (.int a t) (.int c u)) Q E s)
section
open PySem.SeqAt
open PySem.AutoSeq1 (wpAny_loadPart')
open PySem.MeetsSeq PySem.MeetsSeq2 PySem.MeetsSeq3
theorem a1q(l b:Addr)(items items2:Array Value)(n n2:Nat)(dd dd2:Option Addr)(sl sl2:Array (Option Value))(ns ms:List Int)(hi:IntsAre items.toList ns)(hj:IntsAre items2.toList ms) :
  Meets (Builtin.«tuple.__lt__» ⟨[.ref l,.ref b],[]⟩)
   (fun _ R s=>s.heap.get? l=some { cls:=.type "tuple",dict:=dd,data:=.seq items n,slots:=sl }∧s.heap.get? b=some { cls:=.type "tuple",dict:=dd2,data:=.seq items2 n2,slots:=sl2 } ∧
    R (.ok (.ret (.bool (lexLt ns ms)))) s) :=
 .of_wp fun prog w A R s h=>by
  obtain⟨hp,g,d,tk,os⟩:=s;obtain⟨hl,hb,h⟩:=h
  have f2:=AutoSeq1.sub_tuple_tuple
  have z1:items.size=ns.length:=by rw[← hi.length];simp
  have z2:items2.size=ms.length:=by rw[← hj.length];simp
  wp_walk using wpAny_loadPart' hl,wpAny_loadPart' hb,wpAny_forIn_list _ (fun i4 b s'=>b.1=none∧s'=⟨hp,g,d,tk,os⟩∧∃(vs ws:List Value) (ns' ms':List Int),i4=vs.zip ws ∧
   IntsAre vs ns'∧IntsAre ws ms'∧ns'.length+items2.size=ms'.length+items.size∧R (.ok (.ret (.bool (lexLt ns' ms')))) ⟨hp,g,d,tk,os⟩) _
  case turn =>
   rintro⟨y,x⟩ i4 b s' ⟨hb',rfl,vs,ws,ns',ms',hz,hvi,hwi,hlen,hR⟩
   cases hvi with
   | nil=>rw[List.zip_nil_left]at hz;cases hz
   | cons a t hvi' =>
    cases hwi with
    | nil=>rw[List.zip_nil_right]at hz;cases hz
    | cons c u hwi' =>
     rw[List.zip_cons_cons]at hz
     injection hz with hyx hrest
     injection hyx with hy hx
     subst hy hx
     rw[lexLt_cons]at hR
     simp only[List.length_cons]at hlen
     obtain⟨e,he,hiff⟩:=a4N A.in1 ⟨hp,g,d,tk,os⟩ a t c u
     refine wpAny_bind (he prog w _ _ ?_)
     cases e with
     | true =>
      rw[if_pos (hiff.mp rfl)]at hR
      wp_walk
      exact⟨rfl,rfl,_,_,_,_,hrest,hvi',hwi',by omega,hR⟩
     | false =>
      rw[if_neg (fun q=>absurd (hiff.mpr q) Bool.false_ne_true)]at hR
      have hri:=a4O A.in1 ⟨hp,g,d,tk,os⟩ a t c u prog w
      wp_walk using hri
      exact⟨_,rfl,by simpa using hR⟩
  case fin =>
   rintro⟨b1,b2⟩ s' ⟨hb',rfl,vs,ws,ns',ms',hz,hvi,hwi,hlen,hR⟩
   simp only at hb'
   subst hb'
   have hv:lexLt ns' ms'=decide (items.size<items2.size):=by
    cases hvi with
    | nil =>
     cases hwi with
     | nil =>
      simp only[List.length_nil]at hlen
      rw[a1p]
      exact(decide_eq_false (by omega)).symm
     | cons c u hw =>
      simp only[List.length_nil,List.length_cons]at hlen
      rw[a0C]
      exact(decide_eq_true (by omega)).symm
    | cons a t hv =>
     cases hwi with
     | nil =>
      simp only[List.length_nil,List.length_cons]at hlen
      rw[a0D]
      exact(decide_eq_false (by omega)).symm
     | cons c u hw =>
      rw[List.zip_cons_cons]at hz
      cases hz
   rw[hv]at hR
   wp_walk
   exact⟨_,rfl,by simpa [Builtin.Tuple.tupleCompareSizes]using hR⟩
  case h =>
   exact⟨rfl,rfl,items.toList,items2.toList,ns,ms,rfl,hi,hj,by omega,h⟩
end
section
variable {prog:Program}{w:World}{A:Around}{E:Value→Shared→Prop}{s:Shared}
theorem lt_tupInts{l b:Addr}{items items2:Array Value}{ns ms:List Int}{Q:Value→Shared→Prop}(hl:IsTup s.heap l items)(hb:IsTup s.heap b items2)(hi:IntsAre items.toList ns)(hj:IntsAre items2.toList ms)
  (hu:A.units<cLine) (h:Q (.bool (lexLt ns ms)) s):wpAny (model prog w) A (compareOp .Lt (.ref l) (.ref b)) Q E s:=by
 obtain⟨⟨cls,dd,data,sl⟩,ho,hc,n,hd⟩:=id hl
 obtain⟨⟨cls2,dd2,data2,sl2⟩,ho2,hc2,n2,hd2⟩:=id hb
 simp only at hc hd hc2 hd2
 subst hc hd hc2 hd2
 exact richCompare_meets_room (op:=.Lt) ⟨_,ho,rfl⟩ ⟨_,ho2,rfl⟩ PySem.F.slot_tuple_lt PySem.F.entry_tuple_lt (PySem.F.args_tuple_lt_2 _ _) (a1q l b items items2 n n2 dd dd2 sl sl2 ns ms hi hj)
  ⟨ho,ho2,show Value.bool (lexLt ns ms)≠Value.notImplemented∧Q (.bool (lexLt ns ms)) s from⟨(fun x=>nomatch x),h⟩⟩ hu
def sIx(n d:Nat):Option Int→Nat
 | none=>d
 | some v=>if v<0 then(v+(n:Int)).toNat else min v.toNat n
theorem sIx_nat(n d k:Nat):sIx n d (some (k:Int))=min k n:=by
 show(if(k:Int)<0 then((k:Int)+(n:Int)).toNat else min (k:Int).toNat n)=min k n
 rw[if_neg (by omega),Int.toNat_natCast]
end
end HT
namespace L2
open PySem PySem.Spec PyProof.Rows
abbrev TO:=St→Hp→(Option Int→Hp→Prop)→Prop
def PO(X:Cx)(e:Option Expr)(t:TO):Prop :=
 ∀(pins:List (Addr×Obj)) (s:Shared) (σ:St) (H:Hp) (Q:Option Int→Hp→Prop),Inv X pins σ H s→t σ H Q →
  wpAny (model X.prog X.w) X.A (evalPart e X.env) (fun u s'=>∃o H',Inv X pins σ H' s'∧IsPart u o∧Q o H') X.xe s
def a5V(t:TE):TO:=fun σ H Q=>t σ H fun x H1=>∃i,x=.int i∧Q (some i) H1
theorem Z8{ns:List Int}:∀{us:List Value},Vals (ns.map V.int) us→IntsAre us ns:=by
 induction ns with
 | nil=>intro us r;rw[List.map_nil]at r;cases r;exact .nil
 | cons n ns ih =>
  intro us r
  rw[List.map_cons]at r
  cases r with
  | cons r1 r2 =>
   obtain⟨t,e⟩:=r1
   subst e
   exact .cons n t (ih r2)
section
variable {X:Cx}{e:Expr}{te:TE}{lo hi:Option Expr}{tl th:TO}{pos p2:Pos}
theorem W2(h:PE X e te):PO X (some e) (a5V te):=by
 intro pins s σ H Q I hw
 rw[evalPart_some]
 refine h9 (h pins s σ H _ I hw) fun u s1 ⟨x,H1,I1,r1,q1⟩=>?_
 obtain⟨i,rfl,q⟩:=q1
 obtain⟨t,rfl⟩:=r1
 exact⟨some i,H1,I1,.int i t,q⟩
def SlR(X:Cx)(r:V→Option Int→Option Int→Hp→VK→Prop):Prop :=
 ∀(pins:List (Addr×Obj)) (s:Shared) (σ:St) (H:Hp) (x:V) (v vl vu:Value) (lo hi:Option Int) (sl:Addr) (Q:VK),Inv X pins σ H s→RelV x v→s.heap.IsSliceOf sl vl vu .none→IsPart vl lo→IsPart vu hi→r x lo hi H Q →
  ∃T id,typeLookup (.type T) "__getitem__" = pure (some (.builtin id))∧s.TypeIs v T∧wpAny (model X.prog X.w) X.A (getItem v (.ref sl)) (EP X pins σ Q) X.xe s
def tSl(r:V→Option Int→Option Int→Hp→VK→Prop)(te:TE)(tl th:TO):TE:=fun σ H Q=>te σ H fun x H1=>tl σ H1 fun l H2=>th σ H2 fun u H3=>r x l u H3 Q
theorem a1M{r:V→Option Int→Option Int→Hp→VK→Prop}(hr:SlR X r)(he:PE X e te)(hl:PO X lo tl)(hu:PO X hi th):PE X (.Subscript e (.Slice lo hi none p2) pos) (tSl r te tl th):=by
 intro pins s σ H Q I h
 refine Subscript_ (h9 (he pins s σ H _ I h) fun v s1 ⟨x,H1,I1,r1,q1⟩=>?_)
 refine wpAny_Slice (h9 (hl pins s1 σ H1 _ I1 q1) fun vl s2 ⟨l,H2,I2,pl,q2⟩=>h9 (hu pins s2 σ H2 _ I2 q2) fun vu s3 ⟨u,H3,I3,pu,q3⟩=>?_)
 rw[evalPart_none]
 refine wpAny_pure ?_
 have I4:Inv X pins σ H3 { s3 with heap:=s3.heap.push { cls:=.type "slice",data:=.fields #[vl,vu,.none] } }:=I3.kept (t':=s3.toks) fun b ob q=>Heap.get?_push_of_some _ q
 obtain⟨T,id,hT,ht,hg⟩:=hr pins { s3 with heap:=s3.heap.push { cls:=.type "slice",data:=.fields #[vl,vu,.none] } } σ H3 x v vl vu l u s3.heap.objs.size Q I4 r1 (Heap.IsSliceOf.new ..) pl pu q3
 show wpAny (model X.prog X.w) X.A (subscriptTail e (.Slice lo hi none p2) v (.ref s3.heap.objs.size)) (EP X pins σ Q) X.xe { s3 with heap:=s3.heap.push { cls:=.type "slice",data:=.fields #[vl,vu,.none] } }
 exact tail_any (ops:=[.ref s3.heap.objs.size,v]) ht hT hg (by with_unfolding_all rfl)
def a0E(xs:List V)(lo hi:Option Int):List V:=(xs.drop (HT.sIx xs.length 0 lo)).take (HT.sIx xs.length xs.length hi-HT.sIx xs.length 0 lo)
theorem a2u(xs:List V)(lo hi:Option Int):(a0E xs lo hi).length≤xs.length:=by
 unfold a0E
 rw[List.length_take,List.length_drop]
 omega
def a4P(K:W.Frag):R2:=fun x y H Q=>∃a b ns ms,x=.ref a∧y=.ref b∧SqT K H a (ns.map V.int)∧SqT K H b (ms.map V.int)∧Q (.bl (HT.lexLt ns ms)) H
theorem a7Y(hu:X.A.units<cLine):C5 X (compareOp .Lt) (a4P X.K):=by
 intro pins s σ H x y v u Q I rx ry h
 obtain⟨a,b,ns,ms,rfl,rfl,ha,hb,q⟩:=h
 cases rx
 cases ry
 obtain⟨its,r1,p1,_⟩:=I.tuple ha
 obtain⟨its2,r2,p2,_⟩:=I.tuple hb
 have i1:IntsAre its.toArray.toList ns:=Z8 r1
 have i2:IntsAre its2.toArray.toList ms:=Z8 r2
 exact HT.lt_tupInts p1 p2 i1 i2 hu ⟨.bl (HT.lexLt ns ms),H,I,rfl,q⟩
end
def U4(n:Nat)(i:Int):Option Nat:=if 0≤i then(if i<n then some i.toNat else none)else if -(n:Int)≤i then some (i+n).toNat else none
def atI{α:Type}(xs:List α)(i:Int):Option α:=(U4 xs.length i).bind fun j=>xs[j]?
theorem a6n{n:Nat}{i:Int}{j:Nat}(h:U4 n i=some j):seqIndex? i n=some j∧j<n∧-(n:Int)≤i∧i<n:=by
 unfold U4 at h
 by_cases h0:0≤i
 ·rw[if_pos h0]at h
  by_cases h1:i<n
  ·rw[if_pos h1]at h
   have e:i.toNat=j:=Option.some.inj h
   exact⟨by rw[seqIndex_of h0 h1,e],by omega,by omega,h1⟩
  ·rw[if_neg h1]at h;cases h
 ·rw[if_neg h0]at h
  by_cases h1 : -(n:Int)≤i
  ·rw[if_pos h1]at h
   have e:(i+n).toNat=j:=Option.some.inj h
   exact⟨by rw[seqIndex_neg (by omega) h1,e],by omega,h1,by omega⟩
  ·rw[if_neg h1]at h;cases h
theorem a2R{α:Type}{xs:List α}{i:Int}{v:α}(h:atI xs i=some v):∃j,seqIndex? i xs.length=some j∧xs[j]? = some v∧j<xs.length∧-(xs.length:Int)≤i∧i<xs.length:=by
 unfold atI at h
 cases e:U4 xs.length i with
 | none=>rw[e]at h;cases h
 | some j =>
  rw[e]at h
  obtain⟨h1,h2,h3,h4⟩:=a6n e
  exact⟨j,h1,h,h2,h3,h4⟩
theorem a0F{α:Type}{xs:List α}{j:Nat}{v:α}(h:xs[j]? = some v):atI xs (j:Int)=some v:=by
 have hj:j<xs.length:=(List.getElem?_eq_some_iff.mp h).1
 have e:U4 xs.length (j:Int)=some j:=by
  unfold U4
  rw[if_pos (by omega),if_pos (by omega)];simp
 unfold atI;rw[e];exact h
def a6o(b:Expr):Prop:=∀o i,subscripted b false o i=operate [o,i] (getItem o i)
def IxR(X:Cx)(r:R2):Prop :=
 ∀(value slice:Expr) (pins:List (Addr×Obj)) (s:Shared) (σ:St) (H:Hp) (x y:V) (v u:Value) (Q:VK),Inv X pins σ H s→RelV x v→RelV y u→r x y H Q →
  subscripted slice false v u=operate [v,u] (getItem v u)→wpAny (model X.prog X.w) X.A (subscriptTail value slice v u) (EP X pins σ Q) X.xe s
def MtR(X:Cx)(id:String)(r:V→List V→Hp→VK→Prop):Prop :=
 ∀(pins:List (Addr×Obj)) (s:Shared) (σ:St) (H:Hp) (x:V) (xs:List V) (v:Value) (us:List Value) (Q:VK),Inv X pins σ H s→RelV x v→Vals xs us→r x xs H Q →
  wpAny (model X.prog X.w) X.A (call (.builtin id) (v::us)) (EP X pins σ Q) X.xe s
section
variable {X:Cx}{a b:Expr}{ta tb:TE}{pos:Pos}
theorem o9{r:R2}(hr:IxR X r)(ha:PE X a ta)(hb:PE X b tb)(hs:a6o b):PE X (.Subscript a b pos) (tOp r ta tb):=by
 intro pins s σ H Q I h
 exact Subscript_ (a4L ha hb I h fun v u s2 x y H2 I2 rx ry q=>hr a b pins s2 σ H2 x y v u Q I2 rx ry q (hs _ _))
def a4Q(K:W.Frag):R2:=fun x y H Q=>∃p xs i v,x=.ref p∧y=.int i∧SqL K H p xs∧atI xs i=some v∧Q v H
def a4R(K:W.Frag):R2:=fun x y H Q=>∃p xs i v,x=.ref p∧y=.int i∧SqT K H p xs∧atI xs i=some v∧Q v H
theorem a6p:IxR X (a4Q X.K):=by
 intro value slice pins s σ H x y v u Q I rx ry h hs
 obtain⟨p,xs,i,z,rfl,rfl,hq,he,q⟩:=h
 cases rx
 obtain⟨t,rfl⟩:=ry
 obtain⟨its,r,pl,hz⟩:=I.list hq
 obtain⟨j,h1,h2,h3,h4,h5⟩:=a2R he
 obtain⟨w,ew,rw'⟩:=r.get h2
 have hl:=r.length
 have hn:=a1K
 have fin:EP X pins σ Q w s:=⟨z,H,I,rw',q⟩
 by_cases h0:0≤i
 ·have hj:i.toNat=j:=by
   rw[seqIndex_of h0 h5]at h1
   exact Option.some.inj h1
  exact item_listR pl.isList h0 (by omega) (by rw[hj];simpa using ew) fin hs
 ·have hj:(i+(its.toArray.size:Int)).toNat=j:=by
   rw[seqIndex_neg (by omega) h4]at h1
   rw[List.size_toArray,← hl]
   exact Option.some.inj h1
  exact subscriptTail_builtinR (x:=w) pl.isList.typeIs slot_list_getitem.lookup
   (wpAny_getItem_list_neg (Q:=fun r s'=>r=w∧EP X pins σ Q r s') pl.isList (by omega) (by rw[List.size_toArray]<;>omega) (by omega) (by rw[hj];simpa using ew) ⟨rfl,fin⟩) hs
theorem a7Z:IxR X (a4R X.K):=by
 intro value slice pins s σ H x y v u Q I rx ry h hs
 obtain⟨p,xs,i,z,rfl,rfl,hq,he,q⟩:=h
 cases rx
 obtain⟨t,rfl⟩:=ry
 obtain⟨its,r,pl,hz⟩:=I.tuple hq
 obtain⟨j,h1,h2,h3,h4,h5⟩:=a2R he
 obtain⟨w,ew,rw'⟩:=r.get h2
 have hl:=r.length
 have hn:=a1K
 have fin:EP X pins σ Q w s:=⟨z,H,I,rw',q⟩
 exact subscriptTail_builtinR (x:=w) pl.typeIs slot_tuple_getitem.lookup
  (getItem_tuple (j:=j) (Q:=fun r s'=>r=w∧EP X pins σ Q r s') pl (by omega) (by omega) (by rw[List.size_toArray,← hl];exact h1) (by simpa using ew) ⟨rfl,fin⟩) hs
theorem Inv.lst{pins:List (Addr×Obj)}{σ:St}{H:Hp}{s:Shared}{p:Addr}{xs:List V}(I:Inv X pins σ H s)(h:H p=some (.lst xs)) :
  ∃(its:List Value) (n:Nat),Vals xs its∧s.heap.get? p=some { cls:=.type "list",data:=.seq its.toArray n }∧xs.length≤sizeLine:=by
 obtain⟨z,its,n,r,e⟩:=I.hok p _ h
 exact⟨its,n,r,e,z⟩
theorem a1N(lo hi:Option Int)(n:Nat):(sliceBounds lo hi none n).1=((HT.sIx n 0 lo:Nat):Int)∧(sliceBounds lo hi none n).2.1=((HT.sIx n n hi:Nat):Int)∧(sliceBounds lo hi none n).2.2=1:=by
 refine⟨?_,?_,rfl⟩
 ·cases lo with
  | none=>simp[sliceBounds,HT.sIx]
  | some i =>
   simp only[sliceBounds,HT.sIx,Option.getD_none,show(1:Int) > 0 by decide,if_true]
   by_cases h:i<0
   ·simp only[h,if_true]<;>omega
   ·simp only[h,if_false]<;>omega
 ·cases hi with
  | none=>simp[sliceBounds,HT.sIx]
  | some i =>
   simp only[sliceBounds,HT.sIx,Option.getD_none,show(1:Int) > 0 by decide,if_true]
   by_cases h:i<0
   ·simp only[h,if_true]<;>omega
   ·simp only[h,if_false]<;>omega
theorem a1r(its:List Value)(lo hi:Option Int):slicePick its.toArray lo hi none=((its.drop (HT.sIx its.length 0 lo)).take (HT.sIx its.length its.length hi-HT.sIx its.length 0 lo)).toArray:=by
 obtain⟨h1,h2,h3⟩:=a1N lo hi its.toArray.size
 unfold slicePick
 rw[h1,h2,h3]
 simp only[sliceRange_one,pick_run,List.size_toArray]<;>rfl
def a4S(K:W.Frag):V→Option Int→Option Int→Hp→VK→Prop:=fun x lo hi H Q=>∃a xs,x=.ref a∧SqL K H a xs∧∀p,H p=none→Q (.ref p) (upd H p (.lst (a0E xs lo hi)))
theorem a6q:SlR X (a4S X.K):=by
 intro pins s σ H x v vl vu lo hi sl Q I rx hs pl pu h
 obtain⟨a,xs,rfl,hx,q⟩:=h
 cases rx
 obtain⟨its,r,ht,hz⟩:=I.list hx
 have hlen:=r.length
 refine⟨"list",_,slot_list_getitem.lookup,ht.isList.typeIs,?_⟩
 refine wpAny_getItem_list_slice ht.isList hs pl pu .none (by simp) ?_ (by rw[List.size_toArray]<;>omega)
 rw[a1r,← hlen]
 refine⟨.ref s.heap.objs.size,_,I.laid (t':=s.toks) (o:=.lst (a0E xs lo hi)) (fun b ob q=>Heap.get?_push_of_some _ q) (Nat.le_refl _) ?_,rfl,q _ (I.hok.fresh (Nat.le_refl _))⟩
 exact⟨Nat.le_trans (a2u xs lo hi) hz,_,0,(r.drop (HT.sIx xs.length 0 lo)).take (HT.sIx xs.length xs.length hi-HT.sIx xs.length 0 lo),Heap.get?_push_size _ rfl⟩
def a1y:V→Bool
 | .non=>true
 | .bl _=>true
 | .int _=>true
 | .str _=>true
 | _=>false
def eqV:V→V→Bool
 | .non,.non=>true
 | .bl a,.bl b=>a == b
 | .bl a,.int b=>(if a then 1 else 0) == b
 | .int a,.bl b=>a == (if b then 1 else 0)
 | .int a,.int b=>a == b
 | .str a,.str b=>a == b
 | _,_=>false
theorem a71{A:Around}{s:Shared}{y x:V}{u v:Value}(ry:RelV y u)(rx:RelV x v)(fy:a1y y=true)(fx:a1y x=true):SeqAt.EqAt A s u v (eqV y x):=by
 cases y with
 | non =>
  cases ry
  cases x with
  | non=>cases rx;exact SeqAt.EqAt.same _
  | bl b=>cases rx;exact SeqAt.EqAt.none_bool b
  | int b=>obtain⟨t,rfl⟩:=rx;exact SeqAt.EqAt.none_int b t
  | str b=>obtain⟨t,rfl⟩:=rx;exact SeqAt.EqAt.none_str b t
  | _=>exact absurd (show false=true from fx) Bool.false_ne_true
 | bl a =>
  cases ry
  cases x with
  | non=>cases rx;exact SeqAt.EqAt.bool_none a
  | bl b=>cases rx;exact SeqAt.EqAt.bool_bool a b
  | int b=>obtain⟨t,rfl⟩:=rx;exact SeqAt.EqAt.bool_int a b t
  | str b=>obtain⟨t,rfl⟩:=rx;exact SeqAt.EqAt.bool_str a b t
  | _=>exact absurd (show false=true from fx) Bool.false_ne_true
 | int a =>
  obtain⟨t',rfl⟩:=ry
  cases x with
  | non=>cases rx;exact SeqAt.EqAt.int_none a t'
  | bl b=>cases rx;exact SeqAt.EqAt.int_bool a t' b
  | int b=>obtain⟨t,rfl⟩:=rx;exact SeqAt.EqAt.int_int a t' b t
  | str b=>obtain⟨t,rfl⟩:=rx;exact SeqAt.EqAt.int_str a t' b t
  | _=>exact absurd (show false=true from fx) Bool.false_ne_true
 | str a =>
  obtain⟨t',rfl⟩:=ry
  cases x with
  | non=>cases rx;exact SeqAt.EqAt.str_none a t'
  | bl b=>cases rx;exact SeqAt.EqAt.str_bool a t' b
  | int b=>obtain⟨t,rfl⟩:=rx;exact SeqAt.EqAt.str_int a t' b t
  | str b=>obtain⟨t,rfl⟩:=rx;exact SeqAt.EqAt.str_str a t' b t
  | _=>exact absurd (show false=true from fx) Bool.false_ne_true
 | _=>exact absurd (show false=true from fy) Bool.false_ne_true
theorem a1O:E6 X (.builtin "len") (fun xs H Q=>∃p ys,xs=[.ref p]∧(SqL X.K H p ys∨SqT X.K H p ys)∧Q (.int ys.length) H):=by
 intro pins s σ H xs us Q I r h
 obtain⟨p,ys,rfl,hq,q⟩:=h
 obtain⟨u,rfl,rx⟩:=a5U r
 cases rx
 have hn:=a1K
 rcases hq with hq | hq
 ·obtain⟨its,r',pl,hz⟩:=I.list hq
  have hlen:=r'.length
  exact Calls.call_len_list pl.isList (by simp only[List.size_toArray]<;>omega) ⟨.int ys.length,H,I.tok _,⟨s.toks+1,by rw[List.size_toArray,hlen]⟩,q⟩
 ·obtain⟨its,r',pl,hz⟩:=I.tuple hq
  have hlen:=r'.length
  exact len_tuple pl (by simp only[List.size_toArray]<;>omega) ⟨.int ys.length,H,I.tok _,⟨s.toks+1,by rw[List.size_toArray,hlen]⟩,q⟩
theorem a1P:E6 X (.type "list") (fun xs H Q=>∃p ys,xs=[.ref p]∧(SqL X.K H p ys∨SqT X.K H p ys)∧∀l,H l=none→Q (.ref l) (upd H l (.lst ys))):=by
 intro pins s σ H xs us Q I r h
 obtain⟨p,ys,rfl,hq,q⟩:=h
 obtain⟨u,rfl,rx⟩:=a5U r
 cases rx
 have fin:∀(its:List Value),Vals ys its→ys.length≤sizeLine→∀(h':Heap) (c':Nat),(∀b o',s.heap.get? b=some o'→h'.get? b=some o') →
   h'.get? s.heap.objs.size=some { cls:=.type "list",dict:=none,data:=.seq its.toArray c',slots := #[] }→EP X pins σ Q (.ref s.heap.objs.size) { s with heap:=h' }:=fun its r' hz h' c' kp e =>
  ⟨.ref s.heap.objs.size,_,I.laid (t':=s.toks) kp (Nat.le_refl _) (show ObjOk X.prog X.w _ h' _ (.lst ys)from⟨hz,its,c',r',e⟩),rfl,q _ (I.hok.fresh (Nat.le_refl _))⟩
 rcases hq with hq | hq
 ·obtain⟨its,r',pl,hz⟩:=I.list hq
  have hlen:=r'.length
  obtain⟨o,ho,hc,n,hd⟩:=pl.isList
  exact call_list_seq p (.inl rfl) ho hc hd (fun h' c' kp e=>fin its r' hz h' c' kp e) (by simp only[List.size_toArray]<;>omega)
 ·obtain⟨its,r',pl,hz⟩:=I.tuple hq
  have hlen:=r'.length
  obtain⟨o,ho,hc,n,hd⟩:=pl
  exact call_list_seq p (.inr rfl) ho hc hd (fun h' c' kp e=>fin its r' hz h' c' kp e) (by simp only[List.size_toArray]<;>omega)
def tyV(K:W.Frag)(T:String)(x:V)(H:Hp):Prop:=match x with
 | .str _=>T = "str"
 | .int _=>T = "int"
 | .ref p=>(T = "list"∧∃xs,SqL K H p xs)∨(T = "tuple"∧∃o,K.lookup p=some o∧o.cls=.type "tuple"∧o.dict=none) ∨
   (T = "dict"∧((∃kvs,H p=some (.dK kvs))∨∃kvs,H p=some (.dT kvs)))∨(T = "set"∧∃S n,H p=some (.set S n))
 | _=>False
theorem a3O{pins:List (Addr×Obj)}{σ:St}{H:Hp}{s:Shared}{T:String}{x:V}{v:Value}(I:Inv X pins σ H s)(r:RelV x v)(ty:tyV X.K T x H) :
  s.TypeIs v T∧∀a,v=.ref a→∃ob,s.heap.get? a=some ob∧ob.dict=none:=by
 cases x with
 | str z =>
  obtain⟨t,rfl⟩:=r
  cases (show T = "str" from ty)
  exact⟨typeIs_str s z t,fun _ e=>nomatch e⟩
 | int i =>
  obtain⟨t,rfl⟩:=r
  cases (show T = "int" from ty)
  exact⟨typeIs_int s i t,fun _ e=>nomatch e⟩
 | ref p =>
  cases r
  rcases ty with⟨rfl,xs,hq⟩ | ⟨rfl,o,hk,hc,hd⟩ | ⟨rfl,hk⟩ | ⟨rfl,S,n,hk⟩
  ·obtain⟨its,_,pl,_⟩:=I.list hq
   refine⟨pl.isList.typeIs,fun a e=>?_⟩
   cases e
   obtain⟨o,n,e,c,hd,_⟩:=pl
   exact⟨o,e,hd⟩
  ·refine⟨⟨o,I.kIn p o hk,hc⟩,fun a e=>?_⟩
   cases e
   exact⟨o,I.kIn _ o hk,hd⟩
  ·have z:∃o,s.heap.get? p=some o∧o.ExactDict:=by
    rcases hk with⟨kvs,hk⟩ | ⟨kvs,hk⟩
    ·obtain⟨_,_,_,_,o,_,_,e,ex,_⟩:=I.hok p _ hk
     exact⟨o,e,ex⟩
    ·obtain⟨_,_,_,_,o,_,_,e,ex,_⟩:=I.hok p _ hk
     exact⟨o,e,ex⟩
   obtain⟨o,e,ex⟩:=z
   refine⟨⟨o,e,ex.1⟩,fun a e2=>?_⟩
   cases e2
   exact⟨o,e,ex.2.1⟩
  ·obtain⟨o,_,_,_,e,ex,_⟩:=I.hok p _ hk
   refine⟨⟨o,e,ex.1⟩,fun a e2=>?_⟩
   cases e2
   exact⟨o,e,ex.2.1⟩
 | _=>exact False.elim ty
def a3c(K:W.Frag)(T:String)(r:V→List V→Hp→VK→Prop)(to:TE):TE:=fun σ H Q=>to σ H fun x H1=>tyV K T x H1∧r x [] H1 Q
def tBM(K:W.Frag)(T:String)(r:V→List V→Hp→VK→Prop)(to:TE)(t:TA):TE:=fun σ H Q=>to σ H fun x H1=>tyV K T x H1∧t σ H1 fun xs H2=>r x xs H2 Q
variable {o e:Expr}{es:List Expr}{to:TE}{t:TA}{name:Str}{apos cpos:Pos}{T id:String}{r:V→List V→Hp→VK→Prop}
theorem a74(pa:PlainAttrs T)(slot:Slot T name id)(hty:typeOf (.builtin id)=pure (.type "method_descriptor"))(hm:MtR X id r)(ho:PE X o to)
  (hbase:attributeBase o name X.env (eval o X.env)=eval o X.env:=by rfl) (hline:(apos.endLine == cpos.line)=true:=by rfl):PE X (.Call (.Attribute o name apos) [] [] cpos) (a3c X.K T r to):=by
 intro pins s σ H Q I h
 refine wpAny_Call_method0_late hbase hline (h9 (ho pins s σ H _ I h) fun v s1 ⟨x,H1,I1,r1,ty,q1⟩=>?_)
 obtain⟨h1,h2⟩:=a3O I1 r1 ty
 exact⟨T,id,pa,slot,hty,h1,h2,Calls.callWith_builtin rfl (PySem.evalArgs_none (hm pins s1 σ H1 x [] v [] Q I1 r1 .nil q1))⟩
theorem a9j(pa:PlainAttrs T)(slot:Slot T name id)(hty:typeOf (.builtin id)=pure (.type "method_descriptor"))(hm:MtR X id r)(ho:PE X o to)(ha:PA X (e::es) t)
  (hbase:attributeBase o name X.env (eval o X.env)=eval o X.env:=by rfl)
  (hfew:((backTo cpos (starEach (e::es) X.env)).all (fun x=>!x.1) && (backToKw cpos (keywordEach [] X.env)).all (fun x=>x.1.isSome)
   && decide ((e::es).length+([]:List Keyword).length+(if([]:List Keyword).isEmpty then 0 else 1)<30))=true:=by rfl)
  (hline:(apos.endLine == cpos.line)=true:=by rfl) (hs:starEach (e::es) X.env=(false,eval e X.env)::starEach es X.env:=by rfl) (hplain:(backTo cpos (starEach es X.env)).any (·.1)=false:=by rfl) :
  PE X (.Call (.Attribute o name apos) (e::es) [] cpos) (tBM X.K T r to t):=by
 intro pins s σ H Q I h
 refine wpAny_Call_method_late hbase hfew hline rfl (h9 (ho pins s σ H _ I h) fun v s1 ⟨x,H1,I1,r1,ty,q1⟩=>?_)
 obtain⟨h1,h2⟩:=a3O I1 r1 ty
 refine⟨T,id,pa,slot,hty,h1,h2,?_⟩
 have hA:=ha cpos pins s1 σ H1 _ I1 q1
 rw[hs]at hA ⊢
 refine Calls.callWith_builtin (by show(false || (backTo cpos (starEach es X.env)).any (·.1))=false;rw[hplain]<;>rfl) (Calls.evalArgs_plain ?_)
 exact h9 hA fun us s2 ⟨vs,H2,I2,r2,q2⟩=>hm pins s2 σ H2 x vs v us Q I2 r1 r2 q2
end
def MtM(X:Cx)(id:String)(r:V→List V→Hp→VK→Prop):Prop :=
 ∀(pins:List (Addr×Obj)) (s:Shared) (σ:St) (H:Hp) (x:V) (xs:List V) (v:Value) (us:List Value) (Q:VK),Inv X pins σ H s→RelV x v→Vals xs us→r x xs H Q →
  wpAny (model X.prog X.w) X.A (call (.builtin id) (v::us)) (EP X pins σ Q) X.xe s
theorem Vals.one:∀{x:V} {us:List Value},Vals [x] us→∃u,us=[u]∧RelV x u
 | _,_,.cons r .nil=>⟨_,rfl,r⟩
theorem Vals.zero:∀{us:List Value},Vals [] us→us=[]
 | _,.nil=>rfl
theorem Vals.reverse{xs:List V}{us:List Value}(h:Vals xs us):Vals xs.reverse us.reverse:=by
 induction h with
 | nil=>exact .nil
 | cons r t ih=>rw[List.reverse_cons,List.reverse_cons];exact Vals.append ih (.cons r .nil)
section
variable {X:Cx}{pins:List (Addr×Obj)}{σ:St}{H:Hp}{s:Shared}{l b:Addr}{xs ys zs:List V}
theorem Inv.lset{its its':List Value}{n:Nat}{f:Array Value→Array Value}{t':Nat}(I:Inv X pins σ H s)(hH:H l=some (.lst xs))
  (e:s.heap.get? l=some { cls:=.type "list",data:=.seq its.toArray n }) (hf:f its.toArray=its'.toArray) (hv:Vals ys its') (hz:ys.length≤sizeLine) :
  Inv X pins σ (upd H l (.lst ys)) { s with heap:=s.heap.update l (Obj.mapSeq f),toks:=t' }:=by
 have q:=PySem.IsL.update e f
 rw[hf]at q
 refine I.write (x:=l) (e:=l) (by rw[hH];exact trivial) (.inl rfl) (fun b' u hb hu=>(Heap.get?_update_other s.heap (Obj.mapSeq f) (Ne.symm hb)).trans hu) ⟨_,q⟩ ?_
 exact⟨hz,its',_,hv,q⟩
theorem Inv.lnew{its:List Value}{t':Nat}(I:Inv X pins σ H s)(hv:Vals ys its)(hz:ys.length≤sizeLine) :
  Inv X pins σ (upd H s.heap.objs.size (.lst ys)) { s with heap:=s.heap.push { cls:=.type "list",data:=.seq its.toArray },toks:=t' } :=
 I.laid (fun _ _ q=>Heap.get?_push_of_some _ q) (Nat.le_refl _) ⟨hz,its,0,hv,Heap.get?_push_size _ rfl⟩
theorem Inv.fresh(I:Inv X pins σ H s):H s.heap.objs.size=none:=I.hok.fresh (Nat.le_refl _)
theorem Inv.lstM(I:Inv X pins σ H s)(hH:H l=some (.lst xs)):xs.length≤sizeLine∧∃(its:List Value) (n:Nat),Vals xs its∧xs.length=its.length∧s.heap.get? l=some { cls:=.type "list",data:=.seq its.toArray n }:=by
 obtain⟨z,its,n,r,e⟩:=I.hok l _ hH
 exact⟨z,its,n,r,r.length,e⟩
end
section
variable {X:Cx}
def a2S:V→List V→Hp→VK→Prop:=fun x vs H Q=>∃l xs y,x=.ref l∧vs=[y]∧H l=some (.lst xs)∧xs.length<sizeLine∧Q .non (upd H l (.lst (xs++[y])))
theorem U5:MtM X "list.append" a2S:=by
 intro pins s σ H x vs v us Q I rx rv h
 obtain⟨l,xs,y,rfl,rfl,hH,hz,q⟩:=h
 cases rx
 obtain⟨u,rfl,ru⟩:=rv.one
 obtain⟨z,its,n,r,hl,e⟩:=I.lstM hH
 refine call_meets F.slot_list_append ⟨_,e,rfl⟩ F.entry_list_append (F.args_list_append_2 _ _) (PySem.list_append l its.toArray n u (by rw[List.size_toArray];omega)) ⟨e,?_⟩
 refine⟨.non,_,I.lset (its':=its++[u]) hH e (by simp) (r.append (.cons ru .nil)) ?_,rfl,q⟩
 rw[List.length_append,List.length_singleton]
 omega
def a1Q:V→List V→Hp→VK→Prop:=fun x vs H Q=>∃l xs,x=.ref l∧vs=[]∧H l=some (.lst xs)∧Q .non (upd H l (.lst xs.reverse))
theorem Z9:MtM X "list.reverse" a1Q:=by
 intro pins s σ H x vs v us Q I rx rv h
 obtain⟨l,xs,rfl,rfl,hH,q⟩:=h
 cases rx
 have hus:=rv.zero
 subst hus
 obtain⟨z,its,n,r,hl,e⟩:=I.lstM hH
 refine call_meets F.slot_list_reverse ⟨_,e,rfl⟩ F.entry_list_reverse (F.args_list_reverse_1 _) (AutoSeq1.list_reverse_list_0 l its.toArray n (by rw[List.size_toArray];omega)) ⟨e,?_⟩
 refine⟨.non,_,I.lset (its':=its.reverse) hH e (by simp) r.reverse ?_,rfl,q⟩
 rw[List.length_reverse]
 omega
def a3P:V→List V→Hp→VK→Prop:=fun x vs H Q=>∃l xs,x=.ref l∧vs=[]∧H l=some (.lst xs)∧Q .non (upd H l (.lst []))
theorem a4T:MtM X "list.clear" a3P:=by
 intro pins s σ H x vs v us Q I rx rv h
 obtain⟨l,xs,rfl,rfl,hH,q⟩:=h
 cases rx
 have hus:=rv.zero
 subst hus
 obtain⟨z,its,n,r,hl,e⟩:=I.lstM hH
 refine call_meets F.slot_list_clear ⟨_,e,rfl⟩ F.entry_list_clear (F.args_list_clear_1 _) (AutoSeq1.list_clear_list_0 l its.toArray n (by rw[List.size_toArray];omega)) ⟨e,?_⟩
 exact⟨.non,_,I.lset (its':=[]) (ys:=[]) hH e rfl .nil (Nat.zero_le _),rfl,q⟩
end
end L2
namespace Att
open PySem PySem.W PySem.Calls PyProof.Rows
theorem a0a{P:Params}{h:Heap}:∀(ns:List Int) (vs:List Value),WellAll P h vs (ns.map WData.int)→IntsAre vs ns:=by
 intro ns
 induction ns with
 | nil =>
  intro vs w
  rw[List.map_nil]at w
  cases w
  exact .nil
 | cons n ns ih =>
  intro vs w
  rw[List.map_cons]at w
  cases w with
  | cons a b =>
   cases a
   exact .cons _ _ (ih _ b)
theorem script_of{l:OpenLaw}{n:Nat}(hn:l.most=some n){P:Params}{h:Heap}{args:List WData}{vals:List Value}
  (hpre:l.row.toRowW.claim.pre args=true) (hwl:WellAll P h vals args) :
  ∃a vs ns,vals=[Value.ref a]∧args=[WData.list (ns.map WData.int)]∧h.get? a=some { cls:=.type "list",data:=.seq vs.toArray }∧IntsAre vs ns∧ns.length≤n:=by
 have hsh:WShape.hasAll [] args [.list .int]=true:=(pre_splitW hpre).1
 have hc:l.pre.holds [] { args:=args }=true:=(pre_splitW hpre).2
 obtain⟨d,r,rfl,h1,h2⟩:=hasAllW_cons hsh
 obtain rfl:=hasAllW_nil h2
 obtain⟨xs,rfl,h3⟩:=hasW_list h1
 obtain⟨ns,rfl⟩:=items_int h3
 have hlen:ns.length≤n:=by
  unfold OpenLaw.pre at hc
  have h4:(WTm.not (.lt (.lit (.int (n:Int))) (.len (.arg 0)))).holds [] { args:=[.list (ns.map .int)] }=true:=by
   have h4:=(holds_andW hc).1
   rw[hn]at h4
   exact h4
  have h5:=condW_of h4 (w_not (w_lt w_lit (w_len_list (w_arg rfl))))
  rw[List.length_map]at h5
  refine Nat.le_of_not_lt fun q=>?_
  have q':(n:Int)<((ns.length:Nat):Int):=by omega
  first
   | (rw[decide_eq_true q']at h5;exact absurd h5 (by decide))
   | (simp at h5;omega)
 cases hwl with
 | cons w1 w2 =>
  cases w2
  cases w1 with
  | list ho hall=>exact⟨_,_,ns,rfl,rfl,ho,a0a ns _ hall,hlen⟩
theorem post_true(l:OpenLaw)(args:List WData):l.row.toRowW.claim.post args (.bool true) args=true :=
 postW_of (r:=l.row.toRowW) (X:=(true == true))
  (show WShape.has [] (.bool true) .bool=true by first | rfl | decide | simp[WShape.has,WShape.arms,WShape.armsAll])
  (show(WTm.eq .res (.lit (.bool true))).value [] { args:=args,res:=some (.bool true),after:=args }=some (.bool (true == true))from w_eq_bool (w_res rfl) w_lit) rfl
end Att
namespace L2
open PySem PySem.Spec PyProof.Rows
theorem a1f:∀{vs:List Value} {ns:List Int},IntsAre vs ns→Vals (ns.map V.int) vs
 | _,_,.nil=>.nil
 | _,_,.cons n t h=>.cons ⟨t,rfl⟩ (a1f h)
def a9K(H:Hp):Prop:=∀b,H b=none∨∃o xs,H b=some (.frz o (.lst xs))
def k6(s:Stmt):Arguments:=match s with
 | .FunctionDef _ a _ _ _ _ _ _ _ _=>a
 | _=>{ posonlyargs:=[],args:=[],vararg:=none,kwonlyargs:=[],kw_defaults:=[],kwarg:=none,defaults:=[] }
def i5(s:Stmt):List Stmt:=match s with
 | .FunctionDef _ _ b _ _ _ _ _ _ _=>b
 | _=>[]
def a7(s:Stmt):Scope:=match s with
 | .FunctionDef _ _ _ _ _ _ sc _ _ _=>sc
 | _=>{ kind:=.function,names:=[],isGenerator:=false,isCoroutine:=false }
abbrev CX0:N5:=fun _ _ _ _ _ _=>False
abbrev E0:XK:=fun _ _ _=>False
structure Fun(K:W.Frag)(x qual:Str)(st:Stmt)(f:Addr)(fd:FuncData):Prop where
 ex:∃(oc:Value) (od:Option Addr) (kV doc pm:Value) (an:Option Addr) (cdv ct:Value) (osl:Array (Option Value)),
  fd=W.fnOf x qual (k6 st) (i5 st) (a7 st) .none kV doc pm an cdv ct∧K.lookup f=some ⟨oc,od,.func fd,osl⟩∧W.codeIn K cdv qual=true
 kp:W.keepIn K (.ref f)=true
section
variable {P:Program}{w:World}{K:W.Frag}{mg:Str→Option Value}{base:Heap}
theorem Fun.ok{x qual:Str}{st:Stmt}{f:Addr}{fd:FuncData}{N ps:List Str}{k:Nat}{sp:Sp}(F:Fun K x qual st f fd)(S:FnScope N ps (a7 st))(len:∀vs H Q E,sp vs H Q E→vs.length=ps.length)
  (hbody:∀(cdv:Value) (A:Around) (outer:List Env) (s:Shared) (H:Hp) (vs:List V) (Q:VK) (E:XK),Room k (A.deeper (envOfC qual (a7 st) s.heap.objs.size f cdv))→sp vs H Q E →
   ∃t,PSs (G4 CX0 P w K mg base N qual (a7 st) f cdv A outer s H E).nox (i5 st) t∧t { nx:=fun _ H'=>Q .non H',rt:=Q } (start N vs) H):FnOk P w K mg base CX0 (k+1) f fd ps sp:=by
 obtain⟨oc,od,kV,doc,pm,an,cdv,ct,osl,rfl,lk,hcd⟩:=F.ex
 refine Z7 lk hcd S len fun A outer s H vs Q E hr hsp=>?_
 obtain⟨t,h,q⟩:=hbody cdv A outer s H vs Q E hr hsp
 exact⟨t,h.nox,q⟩
theorem Fun.binds{x qual:Str}{st:Stmt}{f:Addr}{fd:FuncData}{ps:List Str}(F:Fun K x qual st f fd)
  (h:∀(kV doc pm:Value) (an:Option Addr) (cdv ct:Value) (us:List Value),us.length=ps.length→bindArgs (W.fnOf x qual (k6 st) (i5 st) (a7 st) .none kV doc pm an cdv ct) ⟨us,[]⟩=pure (ps.zip us)):Binds K fd ps []:=by
 obtain⟨oc,od,kV,doc,pm,an,cdv,ct,osl,rfl,lk,hcd⟩:=F.ex
 exact .all (h kV doc pm an cdv ct)
theorem A4{x qual:Str}{st:Stmt}{f:Addr}{oc:Value}{od an:Option Addr}{osl:Array (Option Value)}{kV doc pm cdv ct:Value}(l:K.lookup f=some ⟨oc,od,.func (W.fnOf x qual (k6 st) (i5 st) (a7 st) .none kV doc pm an cdv ct),osl⟩)
  (c:W.codeIn K cdv qual=true) (k:W.keepIn K (.ref f)=true):Fun K x qual st f (W.fnOf x qual (k6 st) (i5 st) (a7 st) .none kV doc pm an cdv ct):=⟨⟨oc,od,kV,doc,pm,an,cdv,ct,osl,rfl,l,c⟩,k⟩
end
theorem a3Q{n:Nat}(h:n≤1000):n<sizeLine:=Nat.lt_of_le_of_lt h (by decide)
section
variable {X:Cx}
theorem pv(i:Nat){x:Str}{pos:Pos}(hN:X.N[i]? = some x:=by rfl)(hv:Vis X.env.scope x:=by first | exact Or.inl rfl | exact Or.inr (Or.inl rfl) | exact Or.inr (Or.inr rfl))(hd:(x == ("__debug__" : Str))=false:=by decide)
  (hcd:(x == ("__classdict__" : Str))=false:=by decide):PE X (.Name x pos) (A3 i):=a7I hN hv hd hcd
end
def Same(H H':Hp):Prop:=∀b o,H b=some o→H' b=some o
theorem Same.refl(H:Hp):Same H H:=fun _ _ h=>h
theorem Same.trans{H H1 H2:Hp}(a:Same H H1)(b:Same H1 H2):Same H H2:=fun c o h=>b c o (a c o h)
theorem Same.free{H H':Hp}(e:Same H H'){l:Addr}(h:H' l=Option.none):H l=Option.none:=by
 cases q:H l with
 | none=>rfl
 | some o =>
  rw[e l o q]at h
  cases h
theorem Same.seq{K:W.Frag}{H H':Hp}{a:Addr}{xs:List V}(e:Same H H')(h:SqL K H a xs):SqL K H' a xs:=by
 rcases h with(h | ⟨o,h⟩) | h
 ·exact .inl (.inl (e _ _ h))
 ·exact .inl (.inr ⟨o,e _ _ h⟩)
 ·exact .inr h
end L2
set_option maxHeartbeats 4000000
namespace L2
open PySem PySem.Spec PyProof.Rows
theorem ObjOk.there{P:Program}{w:World}{H:Hp}{h:Heap}{a:Addr}{o:HO}(x:ObjOk P w H h a o):∃ob,h.get? a=some ob:=by
 cases o with
 | lst xs=>obtain⟨_,_,_,_,e⟩:=x;exact⟨_,e⟩
 | tup xs=>obtain⟨_,_,_,p⟩:=x;obtain⟨o,e,_⟩:=p;exact⟨_,e⟩
 | dK kvs=>obtain⟨_,_,_,_,o,_,_,e,_⟩:=x;exact⟨_,e⟩
 | dT kvs=>obtain⟨_,_,_,_,o,_,_,e,_⟩:=x;exact⟨_,e⟩
 | set S n=>obtain⟨o,_,_,_,e,_⟩:=x;exact⟨_,e⟩
 | ins C dx fs=>obtain⟨_,_,_,e,_⟩:=x;exact⟨_,e⟩
 | own y=>obtain⟨_,e⟩:=x;exact⟨_,e⟩
 | xd fs=>obtain⟨_,⟨_,_,_,e,_⟩,_⟩:=x;exact⟨_,e⟩
 | rng lo hi=>obtain⟨_,_,_,e⟩:=x;exact⟨_,e⟩
 | frz ob u=>obtain⟨e,_⟩:=x;exact⟨_,e⟩
 | tbl ps=>obtain⟨_,e,_⟩:=x;exact⟨_,e⟩
 | met f y=>exact⟨_,(show h.get? a=some _ from x)⟩
 | ext φ=>obtain⟨_,⟨_,e⟩,_⟩:=x;exact⟨_,e⟩
def Imp(X:Cx)(pins:List (Addr×Obj))(H:Hp)(b:Addr):Prop:=H b≠none∨(b ∉ X.ex∧∃o,X.s₀.heap.get? b=some o)∨∃p∈X.pn++pins,p.1=b
def a1R:Option Addr→Value
 | none=>.none
 | some a=>.ref a
def TrX(h B:Heap)(e:Addr)(cls:Value)(cx:Option Addr)(fl:Value):Prop :=
 ∃oe vs T oT ts,(h.get? e=some oe∧oe.cls=cls∧oe.data=.fields vs)∧(vs[1]? = some (.ref T)∧vs[2]? = some (a1R cx))∧(B.get? T=none∧T≠e)∧h.get? T=some oT∧oT.data=.fields ts∧ts[3]? = some fl
inductive Ph where | new | fly | any
def XTr(B h:Heap)(a:Addr)(cls:Value)(cx:Option Addr):Ph→Prop
 | .new=>∃oe vs,h.get? a=some oe∧oe.cls=cls∧oe.data=.fields vs∧vs[1]? = some .none∧vs[2]? = some (a1R cx)
 | .fly=>TrX h B a cls cx .none
 | .any=>∃fl,TrX h B a cls cx fl
theorem XTr.there{B h:Heap}{a:Addr}{cls:Value}{cx:Option Addr}{ph:Ph}(x:XTr B h a cls cx ph):∃oe vs,h.get? a=some oe∧oe.cls=cls∧oe.data=.fields vs∧vs[2]? = some (a1R cx):=by
 cases ph with
 | new=>obtain⟨oe,vs,h1,h2,h3,_,h4⟩:=x;exact⟨oe,vs,h1,h2,h3,h4⟩
 | fly=>obtain⟨oe,vs,_,_,_,⟨h1,h2,h3⟩,⟨_,h4⟩,_⟩:=x;exact⟨oe,vs,h1,h2,h3,h4⟩
 | any=>obtain⟨_,oe,vs,_,_,_,⟨h1,h2,h3⟩,⟨_,h4⟩,_⟩:=x;exact⟨oe,vs,h1,h2,h3,h4⟩
structure XAt(X:Cx)(pins:List (Addr×Obj))(H:Hp)(s:Shared)(a:Addr)(cls:Value)(cx:Option Addr)(B:Heap)(ph:Ph):Prop where
 free:H a=none
 stays:B.StaysIn s.heap
 fresh:B.get? a=none
 frames:s.heap.FunFrames B X.stack
 cov:∀b o,s.heap.get? b=some o→Imp X pins H b→b ∉ v8 X.stack→B.get? b=some o
 tr:XTr B s.heap a cls cx ph
section
variable {X:Cx}{pins:List (Addr×Obj)}{σ:St}{H:Hp}{s:Shared}{a:Addr}{cls:Value}{cx:Option Addr}{B h':Heap}{ph:Ph}
theorem Imp.there(I:Inv X pins σ H s){b:Addr}(i:Imp X pins H b):∃o,s.heap.get? b=some o:=by
 rcases i with i | ⟨hx,o,i⟩ | ⟨p,hp,e⟩
 ·cases q:H b with
  | none=>exact absurd q i
  | some u=>exact(I.hok b u q).there
 ·exact I.base.there b o i hx
 ·exact⟨p.2,by rw[← e];exact(I.pin p hp).1⟩
theorem Inv.exc(I:Inv X pins σ H s)(cov:∀b o,s.heap.get? b=some o→Imp X pins H b→b ∉ v8 X.stack→B.get? b=some o)(st:B.StaysIn h')(ups:s.heap.UpToSlots h') :
  Inv X pins σ H { s with heap:=h' }:=by
 have fr:∀b,b∈v8 X.stack→∀o,s.heap.get? b=some o→∃sl,h'.get? b=some { o with slots:=sl }:=fun b hb o e=>by
  obtain⟨_,o',e',d⟩:=I.stack.mem hb
  rw[e]at e';cases e'
  exact ups b o e d
 have nfr:∀b,b ∉ X.fs→b≠X.env.locals→b ∉ v8 X.stack:=fun b h1 h2 z=>(List.mem_cons.mp (I.stkSub b z)).elim h2 h1
 have neL:∀b o,X.s₀.heap.get? b=some o→b≠X.env.locals:=fun b o e=>Nat.ne_of_lt (Nat.lt_of_lt_of_le (Heap.lt_size e) I.ok.above)
 have cellK:∀c v,s.heap.IsCell c v→h'.IsCell c v:=fun c v ⟨o,ho,hd⟩=>by
  obtain⟨sl,q⟩:=ups c o ho (fun vs z=>by rw[hd]at z;cases z)
  exact⟨_,q,hd⟩
 refine⟨I.ok,I.os,I.bare,⟨fun b o e n hb hx=>?_,fun b o e n hb hx=>?_,I.base.free,fun b o e hx=>?_,I.base.tups,I.base.frzs,I.base.tbls⟩,?_,fun x c e=>?_,I.free,I.freeC,fun p hp=>?_,?_,I.len⟩
 ·exact st _ _ (cov b o (I.base.keep b o e n hb hx) (.inr (.inl ⟨hx,o,e⟩)) (nfr b hb (neL b o e)))
 ·obtain⟨sl,e1⟩:=I.base.slot b o e n hb hx
  have hb':b∈v8 X.stack:=by
   rcases I.ok.stk with q | ⟨q,hf⟩
   ·rw[q];exact hb
   ·rw[q];unfold v8;rw[List.filterMap_cons,hf];exact List.mem_cons_of_mem _ hb
  obtain⟨sl',e2⟩:=fr b hb' _ e1
  exact⟨sl',e2⟩
 ·obtain⟨o',e1⟩:=I.base.there b o e hx
  by_cases hb:b∈v8 X.stack
  ·obtain⟨sl,q⟩:=fr b hb _ e1
   exact⟨_,q⟩
  ·exact⟨o',st _ _ (cov b o' e1 (.inr (.inl ⟨hx,o,e⟩)) hb)⟩
 ·obtain⟨m,hn,hl⟩:=I.loc
  refine⟨m,ups.ns hn,fun i x v e1 e2 e3=>?_⟩
  obtain⟨u,r,l⟩:=hl i x v e1 e2 e3
  refine⟨u,r,?_⟩
  rcases l with l | ⟨k,c,e,z⟩
  ·exact .inl l
  ·exact .inr ⟨k,c,e,cellK c _ z⟩
 ·obtain⟨v,z⟩:=I.cell x c e
  exact⟨v,cellK c v z⟩
 ·obtain⟨e,n,ne,nf,d⟩:=I.pin p hp
  exact⟨st _ _ (cov p.1 p.2 e (.inr (.inr ⟨p,hp,rfl⟩)) (nfr p.1 nf ne)),n,ne,nf,d⟩
 ·intro b u e
  refine(I.hok b u e).stay (fun c v hc q=>?_) (fun _ q=>q) (fun _ _ q=>q) fun _ _ _ q=>q
  have hc':H c≠none:=by
   rcases hc with z | z
   ·rw[z,e];exact fun q=>nomatch q
   ·rw[z];exact fun q=>nomatch q
  exact st _ _ (cov c v q (.inl hc') fun z=>hc' (I.stkFree c z))
variable {M:Model}{A:Around}{E:Value→Shared→Prop}{Q:Unit→Shared→Prop}
end
def r0(P:Program)(w:World):N5:=fun outer H s E e s' =>
 ∃(a:Addr) (cls:Value) (cx:Option Addr) (H':Hp) (B:Heap),e=.ref a∧s'.os=s.os∧AllBare s'.gens∧Un (v8 outer) [] H H' s.heap s'.heap∧HOk P w H' s'.heap∧B.StaysIn s'.heap∧B.get? a=none∧s'.heap.FunFrames B outer ∧
  TrX s'.heap B a cls cx .none∧H' a=none∧(∀b o,s'.heap.get? b=some o→(H' b≠none∨∃o',s.heap.get? b=some o')→b ∉ v8 outer→B.get? b=some o)∧E cls cx H'
end L2
namespace PySem.W
open PySem PySem.Spec PySem.Calls PyProof.Rows
structure ExcT(K:Frag)(C:Addr):Prop where
 ga:findIn K (.ref C) "__getattribute__" = some (some (.builtin "BaseException.__getattribute__"))
 gt:findIn K (.ref C) "__getattr__" = some none
 cl:findIn K (.ref C) "__class__" = some (some (.builtin "object.__class__"))
 mo:mroIn K C (.type "object")=some true
 sb:subIn K (.ref C) (.type "BaseException")=some true
section
variable {prog:Program}{w:World}{A:Around}{E:Value→Shared→Prop}{h:Heap}{g:Array GenState}{d:Drawn}{t:Nat}{os:OsState}{K:Frag}{x C:Addr}{o:Obj}{R:Result→Shared→Prop}
theorem a1s{tp:Value}(X:K.In h)(hx:h.get? x=some o)(hc:o.cls=.ref C)(hm:mroIn K C (.type "object")=some true)
  (q:R (.ok (.ret (.ref C))) ⟨h,g,d,t,os⟩):codeAny (model prog w) A (.call (.builtin "getset_descriptor.__get__") ⟨[.builtin "object.__class__",.ref x,tp],[]⟩) R ⟨h,g,d,t,os⟩:=by
 have L0:Looks (model prog w) h (typeOf (.ref x)) (.ref C):=hc▸(Looks.ld hx).andThen .now
 have L1:=looks_mroIn (M:=model prog w) X hm
 refine codeAny_call_builtin KF.slot_gs.plain KF.entry_gs (KF.slot_gs.check _ _ _ _ _ _ _ _ KF.type_class (KF.args_gs _ _ _) ?_)
 unfold Builtin.«getset_descriptor.__get__» Builtin.Getset_descriptor.descrGet
 rw[dga_obj]
 refine wpAny_bind (wpAny_pure ?_)
 unfold Builtin.Getset_descriptor.descrGetter Builtin.Getset_descriptor.descrCheckInstance Builtin.Getset_descriptor.descrNameAndClass isInstance
 simp only[KF.owner_class]
 repeat lk
 refine⟨Code.quiet_builtin _ (by decide +kernel),codeAny_builtin KF.entry_class ?_⟩
 unfold Builtin.«object.__class__» shownTypeOf
 repeat lk
 exact q
theorem a0b{tk:Tok}{Q:Fin→Shared→Prop}(X:K.In h)(T:ExcT K C)(hx:h.get? x=some o)(hc:o.cls=.ref C)(q:Q (.done (.ret (.ref C))) ⟨h,g,d,t,os⟩) :
  wpAny (model prog w) A (Builtin.«object.__getattribute__» ⟨[.ref x,.str "__class__" tk],[]⟩) Q E ⟨h,g,d,t,os⟩:=by
 have L0:Looks (model prog w) h (typeOf (.ref x)) (.ref C):=hc▸(Looks.ld hx).andThen .now
 have L1:=looks_findIn (M:=model prog w) X T.cl
 have hT5:(⟨h,g,d,t,os⟩:Shared).TypeIs (.builtin "object.__class__") "getset_descriptor" := F.typeOf_object_class
 have f5:=F.typeOf_object_class
 have f6:=F.slot_gs_get.lookup
 have f7:=F.slot_gs_set.lookup
 repeat (any_goals (first | assumption | (with_reducible refine L0.at ?_) | (with_reducible refine wpAny_bind (L0.at ?_)) | (with_reducible refine L1.at ?_) | (with_reducible refine wpAny_bind (L1.at ?_)) | wp_step))
 refine a1s X hx hc T.mo ?_
 repeat (any_goals (first | assumption | wp_step))
theorem a1S{M:Model}{nameV:Value}{Q:Unit→Shared→Prop}(X:K.In h)(T:ExcT K C)(hx:h.get? x=some o)(hc:o.cls=.ref C)(hq:Q () ⟨h,g,d,t,os⟩):wpAny M A (checkBuiltinCall "BaseException.__getattribute__" ⟨[.ref x,nameV],[]⟩) Q E ⟨h,g,d,t,os⟩:=by
 have hk:builtinKind "BaseException.__getattribute__" = some .slot:=by decide +kernel
 have hsplit:splitId "BaseException.__getattribute__" = some ("BaseException","__getattribute__"):=by decide +kernel
 have L0:Looks M h (typeOf (.ref x)) (.ref C):=hc▸(Looks.ld hx).andThen .now
 have L1:=looks_subIn (M:=M) X T.sb
 have L2:Looks M h (isInstance (.ref x) (.type "BaseException")) true:=L0.andThen L1
 have ha:=F.args_bexc_ga (.ref x) nameV
 simp only[checkBuiltinCall,hk,hsplit]
 refine wpAny_bind (L2.at ?_)
 repeat (first | assumption | wp_step)
theorem a1T{tk:Tok}{Q:Value→Shared→Prop}(X:K.In h)(T:ExcT K C)(hx:h.get? x=some o)(hc:o.cls=.ref C)(hq:Q (.ref C) ⟨h,g,d,t,os⟩):wpAny (model prog w) A (getAttrBy (.ref x) (.str "__class__" tk) false) Q E ⟨h,g,d,t,os⟩:=by
 have L0:Looks (model prog w) h (typeOf (.ref x)) (.ref C):=hc▸(Looks.ld hx).andThen .now
 have L1:=looks_findIn (M:=model prog w) X T.ga
 have L2:=looks_findIn (M:=model prog w) X T.gt
 have f3:=F.attr_ValueError.ga.bind (.ref x)
 have hx2:(Value.builtin "BaseException.__getattribute__" == Value.builtin "object.__getattribute__")=false:=by decide +kernel
 have hx1:(onTheHeap (Value.ref C) && Value.builtin "BaseException.__getattribute__" == Value.builtin "object.__getattribute__")=false:=by rw[hx2];rfl
 repeat (any_goals (first | assumption | (with_reducible refine L0.at ?_) | (with_reducible refine wpAny_bind (L0.at ?_)) | (with_reducible refine L1.at ?_) | (with_reducible refine wpAny_bind (L1.at ?_)) | (with_reducible refine L2.at ?_) | (with_reducible refine wpAny_bind (L2.at ?_)) | wp_step))
 refine codeAny_call_builtin F.attr_ValueError.ga.plain F.entry_bexc_ga (a1S X T hx hc (a0b X T hx hc ?_))
 repeat (any_goals (first | assumption | wp_step))
theorem a0G{Q:Option Value→Shared→Prop}(X:K.In h)(T:ExcT K C)(hx:h.get? x=some o)(hc:o.cls=.ref C)(hq:Q (some (.ref C)) ⟨h,g,d,t+1,os⟩):wpAny (model prog w) A (getAttr? (.ref x) "__class__") Q E ⟨h,g,d,t,os⟩:=by
 unfold getAttr? getAttrBy?
 repeat (any_goals (first | assumption | with_reducible apply a1T X T hx hc | wp_step))
end
def a77(x C:Addr)(h:Heap):Prop:=∃o vs,h.get? x=some o∧o.cls=.ref C∧o.data=.fields vs
theorem kitx_exc{K:Frag}{x C:Addr}(T:ExcT K C):KitX K (.ref x) (.ref C) (a77 x C) where
 ty:=fun _ _ _ ⟨_,_,hx,hc,_⟩=>hc▸(Looks.ld hx).andThen .now
 it:=fun M h X _=>by
  have hm:=T.mo
  unfold mroIn at hm
  obtain⟨cd,hcd⟩:∃cd,clsIn K C=some cd:=by
   cases q:clsIn K C with
   | none=>rw[q]at hm;cases hm
   | some cd=>exact⟨cd,rfl⟩
  unfold clsIn at hcd
  split at hcd
  ·rename_i c' d' cd' sl' ho
   intro A' Q' E' s' k q
   unfold isType loadHead
   exact wpAny_bind (wpAny_loadPart (k _ _ (X _ _ ho)) (wpAny_pure q))
  ·cases hcd
 ne:=fun h tp dd its n sl X htp=>by
  have hm:=T.mo
  unfold mroIn at hm
  obtain⟨cd,hcd⟩:∃cd,clsIn K C=some cd:=by
   cases q:clsIn K C with
   | none=>rw[q]at hm;cases hm
   | some cd=>exact⟨cd,rfl⟩
  refine Bool.eq_false_iff.mpr fun q=>?_
  have e:C=tp:=Value.ref.inj (beq_iff_eq.mp q)
  subst e
  unfold clsIn at hcd
  split at hcd
  ·rename_i c' d' cd' sl' ho
   have z:=(X _ _ ho).symm.trans htp
   cases z
  ·cases hcd
 ca:=fun{_ _ _ _ _ s} X ⟨_,_,hx,hc,_⟩ k=>by
  obtain⟨h,g,d,t,os⟩:=s
  exact a0G X T hx hc k
end PySem.W
namespace L2
open PySem PySem.Spec PyProof.Rows
abbrev TJ:=St→Hp→Str→(Str→Hp→Prop)→Prop
section
variable {X:Cx}{E:XK}
theorem XAt.first{pins:List (Addr×Obj)}{σ:St}{H:Hp}{s:Shared}{h':Heap}{a:Addr}{cls:Value}{cx:Option Addr}{oe:Obj}{vs:Array Value}(I:Inv X pins σ H s)(k:∀b o,s.heap.get? b=some o→h'.get? b=some o)
  (n:s.heap.get? a=none) (g:h'.get? a=some oe) (hc:oe.cls=cls) (hd:oe.data=.fields vs) (z1:vs[1]? = some .none) (z2:vs[2]? = some (a1R cx)) :
  Inv X pins σ H { s with heap:=h' }∧XAt X pins H { s with heap:=h' } a cls cx (W.hideAll s.heap (v8 X.stack)) .new:=by
 have I':Inv X pins σ H { s with heap:=h' }:=I.kept (t':=s.toks) k
 have fr:H a=none:=by
  cases q:H a with
  | none=>rfl
  | some u=>obtain⟨o,e⟩:=(I.hok a u q).there;rw[n]at e;cases e
 refine⟨I',fr,fun b o e=>k b o (W.of_hideAll _ e),?_,(W.funFrames_hide I.stack fun env he b hb=>List.mem_filterMap.mpr ⟨env,he,hb⟩).of_keeps fun b o e _=>⟨o,k b o e,rfl⟩,fun b o e i n=>?_,⟨oe,vs,g,hc,hd,z1,z2⟩⟩
 ·cases q:(W.hideAll s.heap (v8 X.stack)).get? a with
  | none=>rfl
  | some o=>have:=W.of_hideAll _ q;rw[n]at this;cases this
 ·obtain⟨o1,e1⟩:=i.there I
  have e2:=k _ _ e1
  rw[e]at e2;cases e2
  exact W.hideAll_get _ e1 n
end
def a3d(a:Addr)(cls:Value)(cx:Option Addr):HO:=.ext fun h=>∃o vs,h.get? a=some o∧o.cls=cls∧o.data=.fields vs∧vs[2]? = some (a1R cx)
section
variable {X:Cx}{pins:List (Addr×Obj)}{σ:St}{H:Hp}{s:Shared}{a:Addr}{cls:Value}{cx:Option Addr}{B:Heap}{ph:Ph}
theorem XAt.nofr(x:XAt X pins H s a cls cx B ph):a ∉ v8 X.stack:=fun z=>by
 obtain⟨oe,vs,e,_,d,_⟩:=x.tr.there
 obtain⟨_,o,e',d'⟩:=x.frames.mem z
 rw[e]at e';cases e'
 exact d' vs d
end
theorem j4{X:Cx}{P:Program}{w:World}:U3 (r0 P w) X E0:=fun _ _ _ _ _ _ _ h=>by
 obtain⟨_,_,_,_,_,_,_,_,_,_,_,_,_,_,_,_,hE⟩:=h
 exact hE.elim
section
variable {P:Program}{w:World}{K:W.Frag}{mg:Str→Option Value}{base:Heap}
theorem Fun.okE{x qual:Str}{st:Stmt}{f:Addr}{fd:FuncData}{N ps:List Str}{k:Nat}{sp:Sp}(F:Fun K x qual st f fd)(S:FnScope N ps (a7 st))(len:∀vs H Q E,sp vs H Q E→vs.length=ps.length)
  (hbody:∀(cdv:Value) (A:Around) (outer:List Env) (s:Shared) (H:Hp) (vs:List V) (Q:VK) (E:XK),Room k (A.deeper (envOfC qual (a7 st) s.heap.objs.size f cdv))→sp vs H Q E →
   ∃t,PSs (G4 (r0 P w) P w K mg base N qual (a7 st) f cdv A outer s H E) (i5 st) t∧t { nx:=fun _ H'=>Q .non H',rt:=Q } (start N vs) H):FnOk P w K mg base (r0 P w) (k+1) f fd ps sp:=by
 obtain⟨oc,od,kV,doc,pm,an,cdv,ct,osl,rfl,lk,hcd⟩:=F.ex
 exact Z7 lk hcd S len fun A outer s H vs Q E hr hsp=>hbody cdv A outer s H vs Q E hr hsp
structure FunD(K:W.Frag)(x qual:Str)(st:Stmt)(dT:Addr)(f:Addr)(fd:FuncData):Prop where
 ex:∃(oc:Value) (od:Option Addr) (kV doc pm:Value) (an:Option Addr) (cdv ct:Value) (osl:Array (Option Value)),
  fd=W.fnOf x qual (k6 st) (i5 st) (a7 st) (.ref dT) kV doc pm an cdv ct∧K.lookup f=some ⟨oc,od,.func fd,osl⟩∧W.codeIn K cdv qual=true
 kp:W.keepIn K (.ref f)=true
theorem FunD.okE{x qual:Str}{st:Stmt}{dT f:Addr}{fd:FuncData}{N ps:List Str}{k:Nat}{sp:Sp}(F:FunD K x qual st dT f fd)(S:FnScope N ps (a7 st))(len:∀vs H Q E,sp vs H Q E→vs.length=ps.length)
  (hbody:∀(cdv:Value) (A:Around) (outer:List Env) (s:Shared) (H:Hp) (vs:List V) (Q:VK) (E:XK),Room k (A.deeper (envOfC qual (a7 st) s.heap.objs.size f cdv))→sp vs H Q E →
   ∃t,PSs (G4 (r0 P w) P w K mg base N qual (a7 st) f cdv A outer s H E) (i5 st) t∧t { nx:=fun _ H'=>Q .non H',rt:=Q } (start N vs) H):FnOk P w K mg base (r0 P w) (k+1) f fd ps sp:=by
 obtain⟨oc,od,kV,doc,pm,an,cdv,ct,osl,rfl,lk,hcd⟩:=F.ex
 exact Z7 lk hcd S len fun A outer s H vs Q E hr hsp=>hbody cdv A outer s H vs Q E hr hsp
theorem FunD.binds{x qual:Str}{st:Stmt}{dT f:Addr}{fd:FuncData}{ps:List Str}{ds:List Value}{items:List Value}{o:Obj}{nn:Nat}(F:FunD K x qual st dT f fd)(ho:K.lookup dT=some o)(hs:o.data=.seq items.toArray nn)
  (h:∀(kV doc pm:Value) (an:Option Addr) (cdv ct:Value) (us:List Value),(us++ds).length=ps.length→∃k:Option (Array Value)→Sem (List (Str×Value)),
   bindArgs (W.fnOf x qual (k6 st) (i5 st) (a7 st) (.ref dT) kV doc pm an cdv ct) ⟨us,[]⟩=seqItems? (.ref dT) >>= k∧k (some items.toArray)=pure (ps.zip (us++ds))):Binds K fd ps ds:=by
 obtain⟨oc,od,kV,doc,pm,an,cdv,ct,osl,rfl,lk,hcd⟩:=F.ex
 intro s us KX hl
 obtain⟨k,h1,h2⟩:=h kV doc pm an cdv ct us hl
 exact W.binds_K KX rfl ho hs h1 h2
end
structure RoomW(k:Nat)(A:Around):Prop where
 dp:A.depth+3*k+5<recursionLimit
 un:A.units+16*k+200<cLine
theorem Room.w{k:Nat}{A:Around}(r:Room k A)(h:Option Value):RoomW k (A.mark h):=⟨r.dp,r.un⟩
theorem RoomW.deeper{k:Nat}{A:Around}(r:RoomW (k+1) A)(env:Env):RoomW k (A.deeper env) :=
 ⟨by have:=r.dp;show A.depth+1+3*k+5<_;omega,by have:=r.un;show A.units+3+16*k+200<_;omega⟩
def a78:V→Option Value
 | .ty n=>some (.type n)
 | .ref a=>some (.ref a)
 | _=>none
theorem a6r{y:V}{c u:Value}(e:a78 y=some c)(r:RelV y u):u=c:=by
 cases y with
 | ty n=>cases e;exact r
 | ref a=>cases e;exact r
 | _=>cases e
inductive TyX(K:W.Frag)(H:Hp):V→Value→Prop where
 | of {x:V} {t:Value} (h:TyOf K H x t):TyX K H x t
 | exc {a C:Addr} {cx:Option Addr} (h:H a=some (a3d a (.ref C) cx)) (T:W.ExcT K C):TyX K H (.ref a) (.ref C)
section
variable {X:Cx}{pins:List (Addr×Obj)}{σ:St}{H:Hp}{s:Shared}{A:Around}{E:Value→Shared→Prop}{Q:Value→Shared→Prop}
theorem TyX.kit{x:V}{u t:Value}(I:Inv X pins σ H s)(rx:RelV x u)(ty:TyX X.K H x t):∃Φ:Heap→Prop,W.KitX X.K u t Φ∧Φ s.heap∧u≠.builtin "__main__.__loader__#opaque" := by
 cases ty with
 | @exc a C cx h T =>
  cases (show u=Value.ref a from rx)
  obtain⟨⟨o,vs,h1,h2,h3,_⟩,_⟩:=(show ObjOk X.prog X.w H s.heap a (a3d a (.ref C) cx)from I.hok a _ h)
  exact⟨_,W.kitx_exc T,⟨o,vs,h1,h2,h3⟩,fun z=>nomatch z⟩
 | of h =>
 cases h with
 | non=>cases (show u=Value.none from rx);exact⟨_,W.kitx_none,True.intro,fun z=>nomatch z⟩
 | bl y=>cases (show u=Value.bool y from rx);exact⟨_,W.kitx_bool,True.intro,fun z=>nomatch z⟩
 | int i=>obtain⟨t,q⟩:=(show ∃t,u=Value.int i t from rx);cases q;exact⟨_,W.kitx_int,True.intro,fun z=>nomatch z⟩
 | str y=>obtain⟨t,q⟩:=(show ∃t,u=Value.str y t from rx);cases q;exact⟨_,W.kitx_str,True.intro,fun z=>nomatch z⟩
 | flt y=>obtain⟨t,q⟩:=(show ∃t,u=Value.float y t from rx);cases q;exact⟨_,W.kitx_float,True.intro,fun z=>nomatch z⟩
 | @lst a xs ea =>
  cases (show u=Value.ref a from rx)
  obtain⟨_,_,n,_,h1⟩:=(show ObjOk X.prog X.w H s.heap a (.lst xs)from I.hok a _ ea)
  exact⟨_,W.kitx_list,⟨_,h1,rfl⟩,fun z=>nomatch z⟩
 | @frz a ob xs ea =>
  cases (show u=Value.ref a from rx)
  obtain⟨_,_,_,n,_,h1⟩:=(show ObjOk X.prog X.w H s.heap a (.frz ob (.lst xs))from I.hok a _ ea)
  exact⟨_,W.kitx_list,⟨_,h1,rfl⟩,fun z=>nomatch z⟩
 | @tup a xs ea =>
  cases (show u=Value.ref a from rx)
  obtain⟨_,_,_,p⟩:=(show ObjOk X.prog X.w H s.heap a (.tup xs)from I.hok a _ ea)
  obtain⟨o,h1,h2,_⟩:=p
  exact⟨_,W.kitx_tuple,⟨o,h1,h2⟩,fun z=>nomatch z⟩
 | @dK a kvs ea =>
  cases (show u=Value.ref a from rx)
  obtain⟨_,_,vs,_,p⟩:=(show ObjOk X.prog X.w H s.heap a (.dK kvs)from I.hok a _ ea)
  obtain⟨o,es,ep,h1,h2,_⟩:=p
  exact⟨_,W.kitx_dict,⟨o,h1,h2.1⟩,fun z=>nomatch z⟩
 | @dT a kvs ea =>
  cases (show u=Value.ref a from rx)
  obtain⟨_,_,xs,_,o,es,ep,h1,h2,_⟩:=(show ObjOk X.prog X.w H s.heap a (.dT kvs)from I.hok a _ ea)
  exact⟨_,W.kitx_dict,⟨o,h1,h2.1⟩,fun z=>nomatch z⟩
 | @ins a C dx fs ea cl ha hn htk hm =>
  cases (show u=Value.ref a from rx)
  obtain⟨mA,O,_⟩:=a6k I.hok ea
  obtain⟨od,J,_⟩:=O.look
  exact⟨_,W.kitx_own (cl.get _) cl.hd ha hn htk hm,J,fun z=>nomatch z⟩
def a4U(K:W.Frag):List V→Hp→VK→Prop:=fun xs H Q=>∃x y t c b,xs=[x,y]∧a78 y=some c∧TyX K H x t∧W.kitOne K t c=some b∧Q (.bl b) H
theorem a4V:E6 X (.builtin "isinstance") (a4U X.K):=by
 intro pins s σ H xs us Q I r h
 obtain⟨x,y,t,c,b,rfl,e1,e2,e3,q⟩:=h
 obtain⟨u,v,rfl,r1,r2⟩:=a9i r
 obtain rfl:=a6r e1 r2
 obtain⟨Φ,Z,p,n⟩:=e2.kit I r1
 exact W.kia_one Z I.kIn p e3 n fun tk=>⟨.bl b,H,I.tok _,rfl,q⟩
end
def a4W:List V→List V→Bool
 | [],[]=>true
 | x::xs,y::ys=>eqV x y && a4W xs ys
 | _,_=>false
section
variable {X:Cx}{pins:List (Addr×Obj)}{σ:St}{H:Hp}{s:Shared}
theorem B5:C5 X (binaryOp .Mult) (rI IntMulOk fun i j=>.int (i*j)):=opI fun _ _ _ _ _ _ _ hc q=>mul_int q hc
theorem D8:C5 X (binaryOp .FloorDiv) (rI (fun _ j=>0<j∧j.natAbs.log2<9000) fun i j=>.int (i/j)):=opI fun i j _ _ _ _ _ hc q=>by
 have h0:j≠0:=by have:=hc.1;omega
 refine floordiv_int h0 ?_ (.inl (PyProof.noPylong_of_log2 hc.2))
 rw[Int.fdiv_eq_ediv_of_nonneg _ (Int.le_of_lt hc.1)]
 exact q
end
open PySem.W PySem.Calls
theorem a2v{ns:List Int}(h:WData.layableAll [WData.list (ns.map WData.int)]=true):∀n∈ns,Builtin.Int.intBits n≤2 ^ 20:=fun n hn=>by
 have h1:(WData.list (ns.map WData.int)).layable=true:=layableW_arg h _ (List.mem_singleton.mpr rfl)
 have h2:=layableW_item h1 (WData.int n) (List.mem_map.mpr ⟨n,hn,rfl⟩)
 have h3:=(layableW_iff.mp h2).2.2
 simpa only[WData.weight,Builtin.Int.intBits]using h3
theorem a9k{P:Program}{w:World}{outer:List Env}(H:Hp)(s:Shared)(e:Value)(s':Shared)(h:r0 P w outer H s (fun _ _ _=>False) e s'):False:=by
 obtain⟨_,_,_,_,_,_,_,_,_,_,_,_,_,_,_,_,hE⟩:=h
 exact hE
structure Own(P:Program)(w:World)(K:W.Frag)(mg:Str→Option Value)(base:Heap)(k:Nat)(x:Str)(ps:List Str)(sp:Sp):Prop where
 ex:∃f fd,FnOk P w K mg base (r0 P w) k f fd ps sp∧Binds K fd ps []∧W.keepIn K (.ref f)=true∧mg x=some (.ref f)
structure OwnD(P:Program)(w:World)(K:W.Frag)(mg:Str→Option Value)(base:Heap)(k:Nat)(x:Str)(ps:List Str)(sp:Sp)(d:V):Prop where
 ex:∃f fd du,FnOk P w K mg base (r0 P w) k f fd ps sp∧Binds K fd ps []∧Binds K fd ps [du]∧RelV d du∧W.keepIn K (.ref f)=true∧mg x=some (.ref f)
section
variable {X:Cx}{k k':Nat}{ps:List Str}{sp:Sp}{x:Str}{p pos:Pos}{e:Expr}{es:List Expr}{t:TA}{E:XK}{d:V}
theorem k7(G:Own X.prog X.w X.K X.mg X.base k x ps sp)(hr:Room k' X.A)(hk:k≤k')(hx:U3 (r0 X.prog X.w) X E)(ha:PA X (e::es) t)(hg:Gl X x:=by rfl)
  (hdb:(x == ("__debug__" : Str))=false:=by decide) (he:starEach (e::es) X.env=(false,eval e X.env)::starEach es X.env:=by rfl) (hpl:(backTo pos (starEach es X.env)).any (·.1)=false:=by rfl) :
  PE X (.Call (.Name x p) (e::es) [] pos) (W1 sp [] E t):=by
 obtain⟨f,fd,F,b,kp,m⟩:=G.ex
 exact a6l F (hr.mono hk) hg m kp b .nil hx ha hdb he hpl
end
theorem a79:bootBuiltins "int" = some (.type "int"):=by decide +kernel
theorem a6s:bootBuiltins "bool" = some (.type "bool"):=by decide +kernel
theorem a2T:bootBuiltins "list" = some (.type "list"):=by decide +kernel
theorem G5:bootBuiltins "isinstance" = some (.builtin "isinstance"):=by decide +kernel
theorem K6:bootBuiltins "len" = some (.builtin "len"):=by decide +kernel
theorem K7{H:Hp}{p:Addr}(h:H p=none)(o:HO):Same H (upd H p o):=fun b u q=>by rw[a8 (d5 q h)];exact q
def Scr(K:W.Frag)(H:Hp)(a:Addr)(xs:List V):Prop:=(∃o,H a=some (.frz o (.lst xs))) ∨
  ∃(o:Obj) (its:Array Value) (n:Nat),K.lookup a=some o∧o.cls=.type "list"∧o.dict=none∧o.data=.seq its n∧its.size≤sizeLine∧Vals xs its.toList
theorem Scr.seq{K:W.Frag}{H:Hp}{a:Addr}{xs:List V}(h:Scr K H a xs):SqL K H a xs:=h.elim (fun z=>.inl (.inr z)) .inr
theorem Scr.of{K:W.Frag}{H:Hp}{a:Addr}{xs:List V}(h:SqL K H a xs)(o:a9K H):Scr K H a xs:=by
 rcases h with(h | h) | h
 ·rcases o a with z | ⟨o,ys,z⟩
  ·rw[h]at z;cases z
  ·rw[h]at z;cases z
 ·exact .inl h
 ·exact .inr h
theorem Scr.same{K:W.Frag}{H H':Hp}{a:Addr}{xs:List V}(g:Same H H')(h:Scr K H a xs):Scr K H' a xs:=h.elim (fun⟨o,z⟩=>.inl ⟨o,g _ _ z⟩) .inr
theorem Scr.upd{K:W.Frag}{H:Hp}{a l:Addr}{xs ys:List V}{o:HO}(hl:H l=some (.lst ys))(h:Scr K H a xs):Scr K (L2.upd H l o) a xs:=h.elim (fun⟨ob,z⟩=>.inl ⟨ob,by rw[a8 (a9f z hl (by intro q;cases q))];exact z⟩) .inr
theorem small{n:Nat}(h:n≤1000):n≤sizeLine:=Nat.le_of_lt (a3Q h)
section
variable {prog:Program}{w:World}{A:Around}{R:Result→Shared→Prop}{s:Shared}
theorem a2w{elt target iter:Expr}{ifs:List Expr}{scope:Scope}{pos:Pos}{it acc:Value}{env:Env}{N:Value→Shared→Prop}(hN:N=notedBy (model prog w) A env fun e s'=>R (.error e) s')(I:Nat→Shared→Prop)
  (turn:∀n s,I n s→wpAny (model prog w) A (pyNext it) (fun r s₁=>match r with
   | none=>R (.ok .next) s₁
   | some v=>wpAny (model prog w) A (letOwnedTupleGo target it v) (fun _ s₁'=>wpAny (model prog w) A (assign target env v) (fun _ s₂ =>
     wpAny (model prog w) A (forIn ifs true fun c r=>if r=true then do let ok ← isTrue c env (eval c env);pure (ForInStep.yield ok)else pure (ForInStep.yield r)) (fun ok s₃ =>
      if ok=true then wpAny (model prog w) A (eval elt env) (fun x s₄ =>
       wpAny (model prog w) A (call (.builtin "list.append") [acc,x]) (fun _ s₅=>∃m,m<n∧I m s₅) N s₄) N s₃
      else ∃m,m<n∧I m s₃) N s₂) N s₁') N s₁) N s)
  (n:Nat) (h:I n s) :
  codeAny (model prog w) A (.compLoop (.ListComp elt [⟨target,iter,ifs,0⟩] scope pos) 0 it acc env) R s:=by
 subst hN
 refine codeAny_loop rfl I (fun k z q=>?_) n h
 show wpAny _ A ((compTurn (.ListComp elt [⟨target,iter,ifs,0⟩] scope pos) 0 it acc env).onRaise (fun ex=>do noteFrame ex env;theTreesLotGoes ex)) _ _ z
 refine wpAny_noted ?_
 rw[compTurn_list]
 refine wpAny_bind (wpAny_standAt (wpAny_bind (h9 (turn k z q) fun r z1 q1=>?_)))
 cases r with
 | none=>exact wpAny_pure q1
 | some v =>
  refine wpAny_bind (h9 q1 fun _ z2 q2=>?_)
  refine wpAny_bind (h9 q2 fun _ z3 q3=>?_)
  refine wpAny_bind (h9 q3 fun ok z4 q4=>?_)
  cases ok with
  | false=>exact wpAny_pure ⟨rfl,q4⟩
  | true=>exact wpAny_bind (wpAny_bind (h9 q4 fun x z5 q5=>wpAny_bind (h9 q5 fun _ z6 q6=>wpAny_pure (wpAny_pure ⟨rfl,q6⟩))))
end
def p4(cells:List (Str×Addr)):List (Str×NameKind)→List (Str×Addr)→List (Str×Addr)
 | [],acc=>acc
 | (n,k)::r,acc=>if k == .free then(match cells.lookup n with
   | some c=>p4 cells r ((n,c)::acc)
   | none=>p4 cells r acc)else p4 cells r acc
theorem N6{cells:List (Str×Addr)}{x:Str}{c:Addr}:∀{names:List (Str×NameKind)} {acc:List (Str×Addr)},(∀d,acc.lookup x=some d→cells.lookup x=some d)→(p4 cells names acc).lookup x=some c→cells.lookup x=some c
 | [],acc,h,e=>h c e
 | (n,k)::r,acc,h,e=>by
  unfold p4 at e
  split at e
  ·split at e
   ·rename_i c' hc'
    refine N6 (fun d q=>?_) e
    rw[List.lookup_cons]at q
    split at q
    ·rename_i hx
     have hx':x=n:=by simpa using hx
     cases q
     rw[hx'];exact hc'
    ·exact h d q
   ·exact N6 h e
  ·exact N6 h e
theorem E8{cells:List (Str×Addr)}{x:Str}:∀{names:List (Str×NameKind)} {acc:List (Str×Addr)},(∃d,acc.lookup x=some d)→∃d,(p4 cells names acc).lookup x=some d
 | [],acc,h=>h
 | (n,k)::r,acc,h=>by
  unfold p4
  split
  ·split
   ·refine E8 ?_
    rw[List.lookup_cons]
    split
    ·exact⟨_,rfl⟩
    ·exact h
   ·exact E8 h
  ·exact E8 h
theorem A5{cells:List (Str×Addr)}{x:Str}:∀{names:List (Str×NameKind)} {acc:List (Str×Addr)},(x,NameKind.free)∈names→(∃c,cells.lookup x=some c)→∃d,(p4 cells names acc).lookup x=some d
 | [],acc,h,_=>by simp at h
 | (n,k)::r,acc,h,hc=>by
  unfold p4
  rcases List.mem_cons.mp h with e | h
  ·cases e
   obtain⟨c,hc⟩:=hc
   rw[if_pos (by rfl),hc]
   exact E8 ⟨c,by simp[List.lookup_cons]⟩
  ·split
   ·split
    ·exact A5 h hc
    ·exact A5 h hc
   ·exact A5 h hc
theorem Q9{env:Env}:∀(names:List (Str×NameKind)) (acc:List (Str×Addr)),(∀y∈names,y.2=.free→∃c,env.cells.lookup y.1=some c) →
  (forIn names acc fun(x:Str×NameKind) (cs:List (Str×Addr))=>if(x.2 == NameKind.free)=true then do let a ← cellOf env x.1;pure (ForInStep.yield ((x.1,a)::cs))else pure (ForInStep.yield cs):Sem (List (Str×Addr)))=pure (p4 env.cells names acc)
 | [],acc,_=>rfl
 | (n,k)::r,acc,h=>by
  rw[List.forIn_cons]
  unfold p4
  by_cases hk:(k == NameKind.free)=true
  ·obtain⟨c,hc⟩:=h (n,k) List.mem_cons_self (by simpa using hk)
   have e:cellOf env n=pure c:=by unfold cellOf;rw[hc]
   rw[if_pos hk,if_pos hk,hc,e]
   exact Q9 r _ fun y hy=>h y (List.mem_cons_of_mem _ hy)
  ·rw[if_neg hk,if_neg hk]
   exact Q9 r acc fun y hy=>h y (List.mem_cons_of_mem _ hy)
theorem O8{scope:Scope}{env:Env}(h:∀y∈scope.names,y.2=.free→∃c,env.cells.lookup y.1=some c):closureFor scope env=pure (p4 env.cells scope.names []):=by
 have:=Q9 (env:=env) scope.names [] h
 unfold closureFor
 exact(congrArg (· >>= pure) this).trans (by first | rfl | simp)
theorem B6{env:Env}:∀{names:List (Str×NameKind)} {x:Str} {k':NameKind},
  (names.map fun(n,k)=>if(k == NameKind.free && env.scope.kind == .function && env.kindOf n == some .cell)then(n,NameKind.cell)else(n,k)).lookup x=some k' →
  ∃k,names.lookup x=some k∧(k'=k∨(k=.free∧k'=.cell))
 | [],_,_,h=>by simp at h
 | (n,k)::r,x,k',h=>by
  rw[List.map_cons]at h
  dsimp only at h
  by_cases hc:(k == NameKind.free && env.scope.kind == .function && env.kindOf n == some .cell)=true
  ·rw[if_pos hc,List.lookup_cons]at h
   rw[List.lookup_cons]
   split at h
   ·rename_i hx
    cases h
    have hk:k=.free:=by
     have:=(Bool.and_eq_true _ _▸(Bool.and_eq_true _ _▸hc).1).1
     simpa using this
    exact⟨k,rfl,.inr ⟨hk,rfl⟩⟩
   ·rename_i hx
    obtain⟨k2,q1,q2⟩:=B6 h
    exact⟨k2,q1,q2⟩
  ·rw[if_neg hc,List.lookup_cons]at h
   rw[List.lookup_cons]
   split at h
   ·rename_i hx
    cases h
    exact⟨k,rfl,.inl rfl⟩
   ·rename_i hx
    obtain⟨k2,q1,q2⟩:=B6 h
    exact⟨k2,q1,q2⟩
theorem z7{env:Env}:∀{names:List (Str×NameKind)} {x:Str},names.lookup x=some .free →
  (names.map fun(n,k)=>if(k == NameKind.free && env.scope.kind == .function && env.kindOf n == some .cell)then(n,NameKind.cell)else(n,k)).lookup x=some .cell ∨
  (names.map fun(n,k)=>if(k == NameKind.free && env.scope.kind == .function && env.kindOf n == some .cell)then(n,NameKind.cell)else(n,k)).lookup x=some .free
 | [],_,h=>by simp at h
 | (n,k)::r,x,h=>by
  rw[List.map_cons]
  dsimp only
  rw[List.lookup_cons]at h
  by_cases hc:(k == NameKind.free && env.scope.kind == .function && env.kindOf n == some .cell)=true
  ·rw[if_pos hc,List.lookup_cons]
   split at h
   ·rename_i hx
    left;rfl
   ·rename_i hx
    exact z7 (env:=env) h
  ·rw[if_neg hc,List.lookup_cons]
   split at h
   ·rename_i hx
    right;exact h
   ·rename_i hx
    exact z7 (env:=env) h
structure CompSc(Sc scope:Scope)(N Nc:List Str)(k:Nat)(js:List Nat):Prop where
 cell:∀y∈scope.names,y.2≠.cell
 kind:scope.kind=.function
 names:∀y∈scope.names,y.2=.local→scope.names.lookup y.1=some .local
 free:∀y∈scope.names,y.2=.free→Sc.names.lookup y.1=some .cell∨Sc.names.lookup y.1=some .free
 nd:Nc.Nodup
 len:Nc.length=k+js.length
 cap:(Nc.drop k).map some=js.map fun j=>N[j]?
 caps:∀x∈Nc.drop k,scope.names.lookup x=some .free
def i8(k:Nat)(js:List Nat)(σ:St):St:=List.replicate k none++js.map fun j=>(σ[j]?).getD none
theorem u5{names:List (Str×NameKind)}{x:Str}{k:NameKind}(h:names.lookup x=some k):(x,k)∈names:=PySem.mem_of_lookup h
abbrev n4(X:Cx)(scope:Scope)(Nc:List Str)(C:Addr)(s3:Shared)(H3:Hp)(fp:List Addr)(xe:Value→Shared→Prop):Cx :=
 { X with N:=Nc,s₀:=s3,H₀:=H3,env:=compEnvC scope (p4 X.env.cells scope.names []) C X.env,outer:=X.stack,ex:=fp,fn:=fun _=>false,pn:=[],xe:=xe }
section
variable {X:Cx}{pins:List (Addr×Obj)}{σ:St}{H3:Hp}{s3:Shared}{scope:Scope}{Nc:List Str}{k:Nat}{js:List Nat}{fp:List Addr}{xe:Value→Shared→Prop}{h₁:Heap}{m₀:Str→Option Value}{tk:Nat}
theorem a0c(I:Inv X pins σ H3 s3)(S:CompSc X.env.scope scope X.N Nc k js):∀y∈scope.names,y.2=.free→∃c,X.env.cells.lookup y.1=some c:=fun y hy hk=>I.ok.has y.1 (S.free y hy hk)
theorem p6{x:Str}{c:Addr}(e:(p4 X.env.cells scope.names []).lookup x=some c):X.env.cells.lookup x=some c:=N6 (fun d q=>by simp at q) e
theorem a4X(I:Inv X pins σ H3 s3)(S:CompSc X.env.scope scope X.N Nc k js)(hf:∀b∈fp,FpOk X pins H3 b)(hfo:∀b∈fp,b<s3.heap.objs.size)(hns:h₁.Ns s3.heap.objs.size m₀)(old:∀b o,s3.heap.get? b=some o→h₁.get? b=some o) :
  Inv (n4 X scope Nc s3.heap.objs.size s3 H3 fp xe) [] (i8 k js σ) H3 { s3 with heap:=h₁,toks:=tk }:=by
 have ok:=I.ok
 have hb0:∀b o,X.base.get? b=some o→b<X.s₀.heap.objs.size:=fun b o e=>Nat.lt_of_lt_of_le (Heap.lt_size e) ok.bsz
 refine⟨⟨ok.mod,S.kind,ok.glob,ok.blt,Nat.le_refl _,fun x y c h1 h2=>ok.inj x y c (p6 h1) (p6 h2),fun x hx=>?_,(fun x c z=>nomatch z),ok.hd,ok.frames,.inl rfl,fun b hb=>⟨Nat.ne_of_lt (hfo b hb),fun x c e=>(hf b hb).2.2.2.2.1 x c (p6 e)⟩,I.bs,Nat.le_trans ok.bsz I.sz,fun b o e hb=>?_,fun b hb z=>?_,I.stack,I.stkFree⟩,
  rfl,I.bare,Un.kept old,⟨m₀,hns,fun i x v e1 e2 e3=>?_⟩,fun x c e=>?_,I.hok.fresh (Nat.le_refl _),fun x c e=>I.freeC x c (p6 e),fun p hp=>absurd (show p∈([]:List (Addr×Obj))from hp) (by simp),I.hok.kept old,?_⟩
 ·have hx:(relabel scope X.env).names.lookup x=some .cell∨(relabel scope X.env).names.lookup x=some .free:=hx
  have hfree:scope.names.lookup x=some .free:=by
   rcases hx with hx | hx
   ·obtain⟨k2,q1,q2⟩:=B6 (env:=X.env) hx
    rcases q2 with q2 | ⟨q2,_⟩
    ·subst q2;exact absurd rfl (S.cell _ (u5 q1))
    ·rw[q2]at q1;exact q1
   ·obtain⟨k2,q1,q2⟩:=B6 (env:=X.env) hx
    rcases q2 with q2 | ⟨q2,q3⟩
    ·subst q2;exact q1
    ·cases q3
  exact A5 (u5 hfree) (ok.has x (S.free _ (u5 hfree) rfl))
 ·rcases(hf b hb).2.2.2.1 with z | z
  ·exact ok.noex b o e z
  ·exact absurd (Nat.lt_of_lt_of_le (hb0 b o e) z) (Nat.lt_irrefl _)
 ·rcases List.mem_cons.mp (I.stkSub b z)with q | q
  ·exact(hf b hb).2.1 q
  ·exact(hf b hb).2.2.1 q
 ·have hlen:(List.replicate k (none:Option V)).length=k:=List.length_replicate
  by_cases hi:i<k
  ·unfold i8 at e2
   rw[List.getElem?_append_left (by omega),List.getElem?_replicate]at e2
   split at e2<;>cases e2
  ·unfold i8 at e2
   rw[List.getElem?_append_right (by omega),hlen,List.getElem?_map]at e2
   cases hj:js[i-k]? with
   | none=>rw[hj]at e2;cases e2
   | some j =>
    rw[hj]at e2
    have e2':(σ[j]?).getD none=some v:=Option.some.inj e2
    have hσ:σ[j]? = some (some v):=by
     cases q:σ[j]? with
     | none=>rw[q]at e2';cases e2'
     | some y=>rw[q]at e2';simp at e2';rw[e2']
    have hx:(Nc.drop k)[i-k]? = some x:=by rw[List.getElem?_drop];rw[show k+(i-k)=i by omega];exact e1
    have hNj:X.N[j]? = some x:=by
     have:=congrArg (fun l=>l[i-k]?) S.cap
     simp only[List.getElem?_map,hx,hj,Option.map_some]at this
     exact(Option.some.inj this).symm
    have hfr:scope.names.lookup x=some .free:=S.caps x (List.mem_of_getElem? hx)
    have hk:=S.free _ (u5 hfr) rfl
    obtain⟨m,hn,hl⟩:=I.loc
    obtain⟨u,r,l⟩:=hl j x v hNj hσ (.inr hk)
    refine⟨u,r,.inr ⟨z7 hfr,?_⟩⟩
    rcases l with⟨l1,_⟩ | ⟨_,c,hc,hcell⟩
    ·have l1:X.env.scope.names.lookup x=some .local:=l1
     rcases hk with hk | hk
     ·rw[l1]at hk;cases hk
     ·rw[l1]at hk;cases hk
    ·obtain⟨d,hd⟩:=A5 (cells:=X.env.cells) (acc:=[]) (u5 hfr) ⟨c,hc⟩
     have:=p6 hd
     rw[hc]at this;cases this
     obtain⟨o,ho,hdd⟩:=hcell
     exact⟨c,hd,⟨o,old _ _ ho,hdd⟩⟩
 ·obtain⟨v,o,ho,hd⟩:=I.cell x c (p6 e)
  exact⟨v,o,old _ _ ho,hd⟩
 ·unfold i8
  rw[List.length_append,List.length_replicate,List.length_map]
  exact S.len.symm
end
def PF(X:Cx)(ifs:List Expr)(t:TT):Prop :=
 ∀(pins:List (Addr×Obj)) (s:Shared) (σ:St) (H:Hp) (Q:Bool→Hp→Prop),Inv X pins σ H s→t σ H Q →
  wpAny (model X.prog X.w) X.A (forIn ifs true fun c r=>if r=true then do let ok ← isTrue c X.env (eval c X.env);pure (ForInStep.yield ok)else pure (ForInStep.yield r)) (TP X pins σ Q) X.xe s
def a5X:TT:=fun _ H Q=>Q true H
theorem K8{X:Cx}:PF X [] a5X:=fun pins s σ H Q I h=>wpAny_tests_nil ⟨H,I,h⟩
def K9(J:It)(g:TG)(tf:TT)(te:TE)(k:Nat)(σ0:St)(D:Addr)(Fin:Hp→Prop)(H1:Hp):Prop :=
 ∃W:Nat→Nat→List V→Hp→Prop,(∃m,W 0 m [] (upd H1 D (.lst [])))∧∀i m ys H,W i m ys H →
  (J.stop i H∧Fin H)∨(J.go i H∧∃N:List V→Hp→Prop,(∀ys' H',N ys' H'→∃m',m'<m∧W (i+1) m' ys' H')∧∀x H',J.yld i H x H'→g x σ0 H' fun σ2 H2=>(σ2.drop k=σ0.drop k∧σ2.length=σ0.length)∧tf σ2 H2 fun b H3 =>
   if b=true then te σ2 H3 fun y H4=>H4 D=some (.lst ys)∧ys.length<sizeLine∧N (ys++[y]) (upd H4 D (.lst (ys++[y])))else N ys H3)
section
variable {X:Cx}{pins:List (Addr×Obj)}{σ:St}{H:Hp}{s:Shared}{elt tg iter:Expr}{ifs:List Expr}{scope:Scope}{pos:Pos}{Nc:List Str}{k:Nat}{js:List Nat}{g:TG}{tf:TT}{te:TE}
theorem a0d{J:It}{fp:List Addr}{it:Addr}{tn:Nat→Heap→Prop}{E:Value→Shared→Prop}{RR:Value→Addr→Result→Shared→Prop}{Fin:Addr→Hp→Prop}(hc:X.calm=true)(S:CompSc X.env.scope scope X.N Nc k js)
  (hg:∀C s3 H3 fp xe,PG (n4 X scope Nc C s3 H3 fp xe) tg g) (hf:∀C s3 H3 fp xe,PF (n4 X scope Nc C s3 H3 fp xe) ifs tf)
  (he:∀C D H3,∃xe:Value→Shared→Prop,(∀e s',xe e s'→notedBy (model X.prog X.w) X.A (compEnvC scope (p4 X.env.cells scope.names []) C X.env) (fun e s'=>RR (.ref D) C (.error e) s') e s') ∧
   ∀s3,Inv X pins σ H3 s3→C=s3.heap.objs.size→(∀b∈fp,FpOk X pins H3 b)→PE (n4 X scope Nc C s3 H3 fp xe) elt te)
  (I2:Inv X pins σ H s) (T:Turn X.prog X.w X.K tg J fp it tn) (st2:tn 0 s.heap) (f2:∀b∈fp,FpOk X pins H b) (hR:∀D,H D=none→K9 J g tf te k (i8 k js σ) D (Fin D) H)
  (hRR:∀D C H' s' m',Inv X pins σ H' s'→s'.heap.Ns C m'→H' C=none→C≠X.env.locals→X.s₀.heap.objs.size≤C→(∀x c,X.env.cells.lookup x=some c→c≠C)→(∀p∈X.pn++pins,p.1≠C)→Fin D H'→RR (.ref D) C (.ok .next) s') :
  wpAny (model X.prog X.w) X.A (newList []) (fun acc s₃=>wpAny (model X.prog X.w) X.A (newFunctionEnv scope X.env.globals (p4 X.env.cells scope.names []) [] X.env.qual none .none (some X.env)) (fun cenv s₄ =>
   codeAny (model X.prog X.w) X.A (.compStart (.ListComp elt [⟨tg,iter,ifs,0⟩] scope pos) 0 (.ref it) acc { cenv with scope:=relabel scope X.env }) (RR acc cenv.locals) s₄) E s₃) E s:=by
 refine wpAny_newObj_type (wpAny_newFunctionEnv S.cell (by intro y hy;simp at hy) (fun h₁ hns₁ hsb₁=>?_) S.kind)
 dsimp only at hns₁ hsb₁ ⊢
 have I3:Inv X pins σ (upd H s.heap.objs.size (.lst [])) { s with heap:=s.heap.push { cls:=.type "list",data:=.seq ([]:List Value).toArray },toks:=s.toks }:=I2.lnew (its:=[]) .nil (Nat.zero_le _)
 have hDn:H s.heap.objs.size=none:=I2.fresh
 obtain⟨W,⟨m0,w0⟩,turn⟩:=hR _ hDn
 generalize hs3:({ s with heap:=s.heap.push { cls:=.type "list",data:=.seq ([]:List Value).toArray },toks:=s.toks }:Shared)=s3 at I3
 have e3:s3.heap=s.heap.push { cls:=.type "list",dict:=none,data:=.seq ([]:List Value).toArray }:=by rw[← hs3]
 rw[← e3]at hns₁ hsb₁ ⊢
 have fpo:∀b∈fp,b<s.heap.objs.size:=fun b hb=>by obtain⟨o,e,_⟩:=T.obj _ _ st2 b hb;exact Heap.lt_size e
 have sz3:s3.heap.objs.size=s.heap.objs.size+1:=by rw[e3,Heap.size_push]
 have fpo3:∀b∈fp,b<s3.heap.objs.size:=fun b hb=>by rw[sz3];exact Nat.lt_succ_of_lt (fpo b hb)
 have f3:∀b∈fp,FpOk X pins (upd H s.heap.objs.size (.lst [])) b:=fun b hb=>⟨by rw[a8 (Nat.ne_of_lt (fpo b hb))];exact(f2 b hb).1,(f2 b hb).2⟩
 have old:∀b o,s3.heap.get? b=some o→h₁.get? b=some o:=fun b o e=>hsb₁.extBut b o (Nat.ne_of_lt (Heap.lt_size e)) (Heap.get?_push_of_some _ e)
 have oldS:∀b o,s.heap.get? b=some o→h₁.get? b=some o:=fun b o e=>old b o (by rw[e3];exact Heap.get?_push_of_some _ e)
 obtain⟨xe,hxe,hel⟩:=he s3.heap.objs.size s.heap.objs.size (upd H s.heap.objs.size (.lst []))
 have hel:=hel s3 I3 rfl f3
 have I4:Inv (n4 X scope Nc s3.heap.objs.size s3 (upd H s.heap.objs.size (.lst [])) fp xe) [] (i8 k js σ) (upd H s.heap.objs.size (.lst [])) { s3 with heap:=h₁,toks:=s.toks+([]:List (Str×Value)).length } :=
  a4X I3 S f3 fpo3 hns₁ old
 have st4:tn 0 h₁:=T.keep _ _ _ st2 fun b hb o e=>oldS b o e
 have es3:({ s3 with heap:=h₁,toks:=s.toks+([]:List (Str×Value)).length }:Shared)={ s with heap:=h₁,toks:=s.toks+([]:List (Str×Value)).length }:=by rw[← hs3]
 rw[es3]at I4
 have ok:=I2.ok
 have lk:=I3.lt
 have hCL:s3.heap.objs.size≠X.env.locals:=Nat.ne_of_gt lk
 have stat:∀{H':Hp},(∀b∈fp,H' b=none)→∀b∈fp,FpOk (n4 X scope Nc s3.heap.objs.size s3 (upd H s.heap.objs.size (.lst [])) fp xe) [] H' b:=fun hn b hb =>
  ⟨hn b hb,Nat.ne_of_lt (fpo3 b hb),fun z=>(List.mem_cons.mp (I3.stkSub b z)).elim (fun q=>(f3 b hb).2.1 q) fun q=>(f3 b hb).2.2.1 q,.inl hb,fun x c e=>(f3 b hb).2.2.2.2.1 x c (p6 e),fun p hp=>absurd (show p∈([]:List (Addr×Obj))from hp) (by simp)⟩
 have loop:codeAny (model X.prog X.w) X.A (.compLoop (.ListComp elt [⟨tg,iter,ifs,0⟩] scope pos) 0 (.ref it) (.ref s.heap.objs.size) (compEnvC scope (p4 X.env.cells scope.names []) s3.heap.objs.size X.env))
    (RR (.ref s.heap.objs.size) s3.heap.objs.size) { s with heap:=h₁,toks:=s.toks+([]:List (Str×Value)).length }:=by
  refine a2w rfl (fun n s'=>∃i ys H',Inv (n4 X scope Nc s3.heap.objs.size s3 (upd H s.heap.objs.size (.lst [])) fp xe) [] (i8 k js σ) H' s'∧tn i s'.heap∧(∀b∈fp,H' b=none)∧W i n ys H') ?_ m0 ⟨0,[],_,I4,st4,fun b hb=>(f3 b hb).1,w0⟩
  rintro n s5 ⟨i,ys,H5,I5,st5,fr5,w5⟩
  rcases turn i n ys H5 w5 with⟨stop,fin⟩ | ⟨go,Nx,hNx,step⟩
  ·refine h9 (T.done (n4 X scope Nc s3.heap.objs.size s3 (upd H s.heap.objs.size (.lst [])) fp xe) rfl rfl rfl hc i [] s5 (i8 k js σ) H5 _ I5 (stat fr5) st5 stop) fun r s6 ⟨hr,I6⟩=>?_
   subst hr
   obtain⟨m6,hn6,_⟩:=I6.loc
   have J:Inv X pins σ H5 s6:=I3.call' (ch:=fp) (I6.os.trans rfl) I6.base I6.hok I6.bare fun b hb=>⟨(f3 b hb).2.2.2.1,(f3 b hb).2.1,(f3 b hb).2.2.2.2.1,(f3 b hb).2.2.2.2.2⟩
   refine hRR _ _ H5 s6 m6 J hn6 I6.free hCL (I3.sz) (fun x c e z=>?_) (fun p hp z=>?_) fin
   ·obtain⟨v,q⟩:=I3.cell x c e
    exact absurd q.lt (by rw[z];exact Nat.lt_irrefl _)
   ·exact absurd (Heap.lt_size (I3.pin p hp).1) (by rw[z];exact Nat.lt_irrefl _)
  ·refine h9 (T.item (n4 X scope Nc s3.heap.objs.size s3 (upd H s.heap.objs.size (.lst [])) fp xe) rfl rfl rfl hc i [] s5 (i8 k js σ) H5 _ I5 (stat fr5) st5 go) fun r s6 ⟨u,hr,h6⟩=>?_
   subst hr
   refine h9 h6 fun _ s7 ⟨x,H7,I7,r7,y7,st7,fr7⟩=>?_
   have I7':=I7.pinned (stat fr7) (T.obj _ _ st7)
   refine wpAny_mono (hg _ _ _ _ _ _ s7 _ H7 x u _ I7' r7 (step x H7 y7)) (fun _ s8 ⟨σ8,H8,I8,⟨d8,l8⟩,q8⟩=>?_) fun e s' z=>hxe e s' z
   refine wpAny_mono (hf _ _ _ _ _ _ s8 σ8 H8 _ I8 q8) (fun b s9 ⟨H9,I9,q9⟩=>?_) fun e s' z=>hxe e s' z
   have again:∀{H':Hp} {s':Shared} {ys':List V},Inv (n4 X scope Nc s3.heap.objs.size s3 (upd H s.heap.objs.size (.lst [])) fp xe) ([]++U2 fp s7.heap) σ8 H' s'→Nx ys' H' →
     ∃m,m<n∧∃i ys H',Inv (n4 X scope Nc s3.heap.objs.size s3 (upd H s.heap.objs.size (.lst [])) fp xe) [] (i8 k js σ) H' s'∧tn i s'.heap∧(∀b∈fp,H' b=none)∧W i m ys H':=fun{H' s' ys'} I' hw=>by
    obtain⟨m',hm,w'⟩:=hNx _ _ hw
    refine⟨m',hm,i+1,ys',H',(I'.unpinned).weak l8.symm fun j v e=>?_,T.keep _ _ _ st7 fun b hb o e=>(I'.pin (b,o) (List.mem_append_right _ (List.mem_append_right _ (J3 hb e)))).1,fun b hb=>?_,w'⟩
    ·by_cases hj:j<k
     ·unfold i8 at e
      rw[List.getElem?_append_left (by rw[List.length_replicate];exact hj),List.getElem?_replicate]at e
      split at e<;>cases e
     ·have e':((i8 k js σ).drop k)[j-k]? = some (some v):=by rw[List.getElem?_drop,show k+(j-k)=j by omega];exact e
      rw[← d8,List.getElem?_drop,show k+(j-k)=j by omega]at e'
      exact e'
    ·obtain⟨o,e,d⟩:=T.obj _ _ st7 b hb
     exact(I'.pin (b,o) (List.mem_append_right _ (List.mem_append_right _ (J3 hb e)))).2.1
   cases b with
   | false =>
    rw[if_neg Bool.false_ne_true]at q9 ⊢
    exact again I9 q9
   | true =>
    rw[if_pos rfl]at q9 ⊢
    refine wpAny_mono (hel _ s9 σ8 H9 _ I9 q9) (fun v s10 ⟨y,H10,I10,r10,hD,hz,w'⟩=>?_) fun e s' z=>hxe e s' z
    refine wpAny_mono (U5 (X:=n4 X scope Nc s3.heap.objs.size s3 (upd H s.heap.objs.size (.lst [])) fp xe) _ s10 σ8 H10 (.ref s.heap.objs.size) [y] (.ref s.heap.objs.size) [v] (fun _ H'=>H'=upd H10 s.heap.objs.size (.lst (ys++[y]))) I10 rfl (.cons r10 .nil)
     ⟨_,ys,y,rfl,rfl,hD,hz,rfl⟩) (fun _ s11 ⟨_,H11,I11,_,q11⟩=>?_) fun e s' z=>hxe e s' z
    subst q11
    exact again I11 w'
 exact codeAny_compStart_list loop (T.self _ 0 _ _ _ st4 loop)
end
def a0e(wi:TI)(g:TG)(tf:TT)(te:TE)(k:Nat)(js:List Nat):TE:=fun σ H Q=>wi σ H fun J H1=>∀D,H1 D=none→K9 J g tf te k (i8 k js σ) D (fun H'=>Q (.ref D) H') H1
def a1U(i:Nat)(wi:TI)(g:TG)(tf:TT)(te:TE)(k:Nat)(js:List Nat):TS:=fun N σ H=>wi σ H fun J H1=>∀D,H1 D=none→K9 J g tf te k (i8 k js σ) D (fun H'=>N.nx (σ.set i (some (.ref D))) H') H1
section
variable {X:Cx}{elt tg iter:Expr}{ifs:List Expr}{scope:Scope}{pos:Pos}{Nc:List Str}{k:Nat}{js:List Nat}{wi:TI}{g:TG}{tf:TT}{te:TE}
theorem W3(hc:X.calm=true)(S:CompSc X.env.scope scope X.N Nc k js)(hi:PI X tg iter wi)(hg:∀C s3 H3 fp xe,PG (n4 X scope Nc C s3 H3 fp xe) tg g)(hf:∀C s3 H3 fp xe,PF (n4 X scope Nc C s3 H3 fp xe) ifs tf)
  (he:∀C s3 H3 fp xe,PE (n4 X scope Nc C s3 H3 fp xe) elt te) (hs:∀x,foldedSetIterable iter X.env x=pure x:=by intro _;rfl):PE X (.ListComp elt [⟨tg,iter,ifs,0⟩] scope pos) (a0e wi g tf te k js):=by
 intro pins s σ H Q I h
 rw[eval_ListComp]
 refine wpAny_comprehension_free (use:=none) rfl hs (O8 (a0c I S)) S.kind S.names (h9 (hi pins s σ H _ I h) fun v s1 h1=>h9 h1 fun itv s2 h2=>?_)
 obtain⟨it,fp,tn,J,H2,rfl,I2,T,st2,f2,hR⟩:=h2
 refine a0d (RR:=fun acc C=>compPost (model X.prog X.w) X.A X.xe none (EP X pins σ Q) acc C) (Fin:=fun D H'=>Q (.ref D) H') hc S hg hf (fun C D H3=>⟨fun _ _=>False,fun _ _ z=>z.elim,fun s3 _ _ _=>he _ _ _ _ _⟩) I2 T st2 f2 hR ?_
 intro D C H' s' m' I' hn hC hCL hsz hcl hpn q
 exact⟨m',hn,fun h' hs'=>⟨.ref D,H',I'.turned (t':=s'.toks) (fun b o hb e=>(hs'.2 b hb).trans e) hC hCL (.inr hsz) hcl hpn,rfl,q⟩⟩
theorem R0{i:Nat}{y:Str}{py spos:Pos}(hc:X.calm=true)(S:CompSc X.env.scope scope X.N Nc k js)(hN:X.N.Nodup)(hy:X.N[i]? = some y)(hi:PI X tg iter wi)(hg:∀C s3 H3 fp xe,PG (n4 X scope Nc C s3 H3 fp xe) tg g)(hf:∀C s3 H3 fp xe,PF (n4 X scope Nc C s3 H3 fp xe) ifs tf)
  (he:∀C s3 H3 fp xe,PE (n4 X scope Nc C s3 H3 fp xe) elt te) (hl:X.env.scope.names.lookup y=some .local:=by rfl) (hs:∀x,foldedSetIterable iter X.env x=pure x:=by intro _;rfl)
  (hsw:swapsWith (.ListComp elt [⟨tg,iter,ifs,0⟩] scope pos) (some (.Name y py)) spos.line X.env=pure true:=by rfl):PS X (.Assign [.Name y py] (.ListComp elt [⟨tg,iter,ifs,0⟩] scope pos) spos) (a1U i wi g tf te k js):=by
 intro pins s σ H N I h
 rw[exec_Assign_Name_used _ _ _ _ hsw]
 refine wpAny_bind (wpAny_standAt (wpAny_bind ?_))
 show wpAny _ X.A (do let _ ← comprehension (.ListComp elt [⟨tg,iter,ifs,0⟩] scope pos) scope X.env _ (newList []) false (eval iter X.env) (some (assign (.Name y py) X.env))) _ _ s
 refine wpAny_bind (h9 (wpAny_comprehension_free (use:=some (assign (.Name y py) X.env)) (Q:=fun _ z=>SP X pins N .next z) rfl hs (O8 (a0c I S)) S.kind S.names
  (h9 (hi pins s σ H _ I h) fun v s1 h1=>h9 h1 fun itv s2 h2=>?_)) fun _ z hq=>wpAny_pure (wpAny_pure hq))
 obtain⟨it,fp,tn,J,H2,rfl,I2,T,st2,f2,hR⟩:=h2
 refine a0d (RR:=fun acc C=>compPost (model X.prog X.w) X.A X.xe (some (assign (.Name y py) X.env)) (fun _ z=>SP X pins N .next z) acc C) (Fin:=fun D H'=>N.nx (σ.set i (some (.ref D))) H') hc S hg hf
  (fun C D H3=>⟨fun _ _=>False,fun _ _ z=>z.elim,fun s3 _ _ _=>he _ _ _ _ _⟩) I2 T st2 f2 hR ?_
 intro D C H' s' m' I' hn hC hCL hsz hcl hpn q
 show wpAny _ X.A (assign (.Name y py) X.env (.ref D)) _ _ s'
 refine wpAny_assign_Name (a09 (v:=.ref D) I' hN hy (.inl hl) rfl (fun s'' I'' ⟨a,hsb,ha⟩=>?_) (.inr hl))
 have hCa:C≠a:=by
  rcases ha with ha | ha
  ·rw[ha];exact hCL
  ·exact fun z=>hcl y a ha z.symm
 exact⟨m',hn.sameBut hsb hCa,fun h' hs'=>⟨_,H',I''.turned (t':=s''.toks) (fun b o hb e=>(hs'.2 b hb).trans e) hC hCL (.inr hsz) hcl hpn,q⟩⟩
end
theorem a3R{K:W.Frag}{a:Addr}{xs:List V}{g:TG}{tf:TT}{te:TE}{k:Nat}{σ0:St}{D:Addr}{Fin:Hp→Prop}{H1:Hp}(Pv:Nat→List V→Hp→Prop)(h0:Pv 0 [] (upd H1 D (.lst [])))(hl:∀i ys H,i≤xs.length→Pv i ys H→SqL K H a xs)
  (hs:∀i x ys H,xs[i]? = some x→Pv i ys H→g x σ0 H fun σ2 H2=>(σ2.drop k=σ0.drop k∧σ2.length=σ0.length)∧tf σ2 H2 fun b H3 =>
   if b=true then te σ2 H3 fun y H4=>H4 D=some (.lst ys)∧ys.length<sizeLine∧Pv (i+1) (ys++[y]) (upd H4 D (.lst (ys++[y])))else Pv (i+1) ys H3)
  (hd:∀ys H,Pv xs.length ys H→Fin H):K9 (X2 K a) g tf te k σ0 D Fin H1:=by
 refine⟨fun i m ys H=>m=xs.length-i∧i≤xs.length∧Pv i ys H,⟨xs.length,by simp,Nat.zero_le _,h0⟩,?_⟩
 rintro i m ys H ⟨rfl,hi,p⟩
 have q:=hl i ys H hi p
 by_cases hlt:i<xs.length
 ·refine .inr ⟨⟨xs,xs[i],q,by simp[hlt]⟩,Pv (i+1),fun ys' H' z=>⟨xs.length-(i+1),by omega,rfl,hlt,z⟩,fun x H' y=>?_⟩
  obtain⟨e,y⟩:=y
  subst e
  exact hs i x ys _ (y xs q) p
 ·have e:i=xs.length:=by omega
  subst e
  exact .inl ⟨⟨xs,q,Nat.le_refl _⟩,hd ys H p⟩
section
variable {X:Cx}{pins:List (Addr×Obj)}{σ:St}{H:Hp}{s:Shared}
theorem Inv.turnedL{h':Heap}{t':Nat}{ch:List Addr}{p:Addr}{o:HO}(I:Inv X pins σ H s)(k:∀b u,b ∉ ch→s.heap.get? b=some u→h'.get? b=some u)(hf:∀b∈ch,FpOk X pins H b)(hp:s.heap.objs.size≤p)(new:ObjOk X.prog X.w (upd H p o) h' p o) :
  Inv X pins σ (upd H p o) { s with heap:=h',toks:=t' }:=by
 have hn:=I.hok.fresh hp
 have nch:∀b u,H b=some u→b ∉ ch:=fun b u q z=>by rw[(hf b z).1]at q;cases q
 refine I.call (g':=s.gens) (d':=s.drawn) (ch:=ch) ⟨fun b u q _ _ hx=>k b u hx q,fun b u q _ _ hx=>⟨u.slots,k b u hx q⟩,fun b u q n _=>?_,fun b u q hx=>⟨u,k b u hx q⟩,fun b xs q=>?_,fun b u xs q=>?_,fun b ps q=>⟨#[],?_⟩⟩ (fun b u q=>?_) I.bare
  fun b hb=>⟨(hf b hb).2.2.2.1,(hf b hb).2.1,(hf b hb).2.2.2.2.1,(hf b hb).2.2.2.2.2⟩
 ·rw[a8 (Nat.ne_of_lt (Nat.lt_of_lt_of_le (Heap.lt_size q) hp))];exact n
 ·rw[a8 (d5 q hn)];exact q
 ·rw[a8 (d5 q hn)];exact q
 ·rw[a8 (d5 q hn),q];simp
 ·by_cases hb:b=p
  ·subst hb;rw[g7]at q;cases q;exact new
  ·rw[a8 hb]at q
   refine(I.hok b u q).stay (fun c v hc r=>k c v ?_ r) (fun c z=>?_) (fun c xs z=>?_) fun c ob u z=>?_
   ·rcases hc with hc | hc
    ·rw[hc];exact nch b u q
    ·exact nch c _ hc
   ·rw[a8 (d5 z hn)];exact z
   ·rw[a8 (d5 z hn)];exact z
   ·rw[a8 (d5 z hn)];exact z
theorem Inv.turnedN{h':Heap}{t':Nat}{ch:List Addr}(I:Inv X pins σ H s)(k:∀b u,b ∉ ch→s.heap.get? b=some u→h'.get? b=some u)(hf:∀b∈ch,FpOk X pins H b):Inv X pins σ H { s with heap:=h',toks:=t' }:=by
 have nch:∀b u,H b=some u→b ∉ ch:=fun b u q z=>by rw[(hf b z).1]at q;cases q
 refine I.call (g':=s.gens) (d':=s.drawn) (ch:=ch) ⟨fun b u q _ _ hx=>k b u hx q,fun b u q _ _ hx=>⟨u.slots,k b u hx q⟩,fun b u q n _=>n,fun b u q hx=>⟨u,k b u hx q⟩,fun b xs q=>q,fun b u xs q=>q,fun b ps q=>⟨#[],by rw[q];simp⟩⟩ (fun b u q=>?_) I.bare
  fun b hb=>⟨(hf b hb).2.2.2.1,(hf b hb).2.1,(hf b hb).2.2.2.2.1,(hf b hb).2.2.2.2.2⟩
 refine(I.hok b u q).stay (fun c v hc r=>k c v ?_ r) (fun c z=>z) (fun c xs z=>z) fun c ob u z=>z
 rcases hc with hc | hc
 ·rw[hc];exact nch b u q
 ·exact nch c _ hc
end
def Ite(K:W.Frag)(a:Addr):It :=
 ⟨fun i H=>∃xs x,SqL K H a xs∧xs[i]? = some x,fun i H v H'=>∃p x,v=.ref p∧H p=none∧H'=upd H p (.tup [.int i,x])∧∀xs,SqL K H a xs→xs[i]? = some x,fun i H=>∃xs,SqL K H a xs∧xs.length≤i⟩
theorem a3S{P:Program}{w:World}{K:W.Frag}{elts:List Expr}{x1}{tpos:Pos}(a it e:Addr)(hne:e≠it):Turn P w K (.Tuple elts x1 tpos) (Ite K a) [e,it] e (fun i h=>(∃old,IsEnum h e it i old)∧h.IsListIter it a i) where
 mem:=by simp
 obj:=fun i h ⟨⟨old,st⟩,it1⟩ b hb=>by
  rcases List.mem_cons.mp hb with q | hb
  ·subst q
   exact⟨_,st,fun v z=>nomatch (show Data.fields _=Data.cell v from z)⟩
  ·have q:b=it:=by simpa using hb
   subst q
   obtain⟨o,e1,c,d⟩:=it1
   exact⟨o,e1,fun v z=>by rw[d]at z;cases z⟩
 keep:=fun i h h' ⟨⟨old,st⟩,it1⟩ k=>⟨⟨old,k e (by simp) _ st⟩,it1.at fun o q=>k it (by simp) o q⟩
 item:=by
  intro X hP hw hK hc i pins s σ H E I hf st hg
  subst hP hw hK
  obtain⟨⟨old,st⟩,it1⟩:=st
  obtain⟨xs,x,hq,hx⟩:=hg
  obtain⟨its,rv,p,hz⟩:=I.list hq
  obtain⟨u,hu,ru⟩:=rv.get hx
  refine wpAny_pyNext_enum_item st it1 p.isList (x:=u) (by simpa using hu) hne fun h' q1 q2 q3 q4 q5=>⟨_,rfl,?_⟩
  refine wpAny_letOwnedTupleGo_enum (s:={ s with heap:=h',toks:=s.toks+1 }) q1 fun h2 r1 r2=>?_
  have ne1:s.heap.objs.size≠e:=Nat.ne_of_gt (Heap.lt_size st)
  have k2:∀b o,b ∉ [e,it]→s.heap.get? b=some o→h2.get? b=some o:=fun b o hb q=>by
   have hb1:b≠e:=fun z=>hb (by simp[z])
   have hb2:b≠it:=fun z=>hb (by simp[z])
   exact(r2.2 b hb1).trans (q5 b o hb1 hb2 q)
  have I1:Inv X pins σ (upd H s.heap.objs.size (.tup [.int i,x])) { s with heap:=h2,toks:=s.toks+1 }:=I.turnedL k2 hf (Nat.le_refl _)
   ⟨by show 2≤sizeLine;decide,[.int i s.toks,u],.cons ⟨_,rfl⟩ (.cons ru .nil),⟨_,(r2.2 _ ne1).trans q3,rfl,_,rfl⟩⟩
  refine⟨.ref s.heap.objs.size,_,I1,rfl,⟨_,x,rfl,I.fresh,rfl,fun ys hy=>by rw[I.list_inj hy hq];exact hx⟩,⟨⟨_,by rw[show((i+1:Nat):Int)=(i:Int)+1 by omega];exact r1⟩,?_⟩,fun b hb=>?_⟩
  ·exact q2.extBut r2.extBut (Ne.symm hne)
  ·obtain⟨o,e1,_⟩:∃o,s.heap.get? b=some o∧True:=by
    rcases List.mem_cons.mp hb with q | hb
    ·exact⟨_,by rw[q];exact st,trivial⟩
    ·have q:b=it:=by simpa using hb
     obtain⟨o,e1,_⟩:=it1
     exact⟨o,by rw[q];exact e1,trivial⟩
   rw[a8 (Nat.ne_of_lt (Heap.lt_size e1))]
   exact(hf b hb).1
 done:=by
  intro X hP hw hK hc i pins s σ H E I hf st hg
  subst hP hw hK
  obtain⟨⟨old,st⟩,it1⟩:=st
  obtain⟨xs,hq,hx⟩:=hg
  obtain⟨its,rv,p,hz⟩:=I.list hq
  have hl:=rv.length
  exact wpAny_pyNext_enum_end (I.ok.hd hc) st it1 p.isList (by simp;omega) fun h' eb=>⟨rfl,I.turnedN (t':=s.toks) (fun b o hb q=>eb b o (fun z=>hb (by simp[z])) q) hf⟩
 self:=fun _ _ _ _ _ st h=>wpAny_pyIter_enum st.1.choose_spec h
theorem a3T{K:W.Frag}{a:Addr}{xs:List V}{g:TG}{tf:TT}{te:TE}{k:Nat}{σ0:St}{D:Addr}{Fin:Hp→Prop}{H1:Hp}(Pv:Nat→List V→Hp→Prop)(h0:Pv 0 [] (upd H1 D (.lst [])))(hl:∀i ys H,i≤xs.length→Pv i ys H→SqL K H a xs)
  (hs:∀i x ys H p,xs[i]? = some x→Pv i ys H→H p=none→g (.ref p) σ0 (upd H p (.tup [.int i,x])) fun σ2 H2=>(σ2.drop k=σ0.drop k∧σ2.length=σ0.length)∧tf σ2 H2 fun b H3 =>
   if b=true then te σ2 H3 fun y H4=>H4 D=some (.lst ys)∧ys.length<sizeLine∧Pv (i+1) (ys++[y]) (upd H4 D (.lst (ys++[y])))else Pv (i+1) ys H3)
  (hd:∀ys H,Pv xs.length ys H→Fin H):K9 (Ite K a) g tf te k σ0 D Fin H1:=by
 refine⟨fun i m ys H=>m=xs.length-i∧i≤xs.length∧Pv i ys H,⟨xs.length,by simp,Nat.zero_le _,h0⟩,?_⟩
 rintro i m ys H ⟨rfl,hi,p⟩
 have q:=hl i ys H hi p
 by_cases hlt:i<xs.length
 ·refine .inr ⟨⟨xs,xs[i],q,by simp[hlt]⟩,Pv (i+1),fun ys' H' z=>⟨xs.length-(i+1),by omega,rfl,hlt,z⟩,fun v H' y=>?_⟩
  obtain⟨c,x,rfl,hc,rfl,y⟩:=y
  exact hs i x ys _ c (y xs q) p hc
 ·have e:i=xs.length:=by omega
  subst e
  exact .inl ⟨⟨xs,q,Nat.le_refl _⟩,hd ys H p⟩
theorem a1V:bootBuiltins "enumerate" = some (.type "enumerate"):=by decide +kernel
def a5Z(K:W.Frag)(ta:TA):TI:=fun σ H R=>ta σ H fun vs H1=>∃a,vs=[.ref a]∧(∃xs,SqL K H1 a xs)∧R (Ite K a) H1
section
variable {X:Cx}
theorem a0H{elts:List Expr}{x1}{tpos:Pos}{l:Expr}{ta:TA}{p pos:Pos}(hg:Gl X "enumerate")(hm:X.mg "enumerate" = none)(ha:PA X [l] ta)(hs:starEach [l] X.env=[(false,eval l X.env)]:=by rfl) :
  PI X (.Tuple elts x1 tpos) (.Call (.Name "enumerate" p) [l] [] pos) (a5Z X.K ta):=by
 intro pins s σ H R I h
 refine Call_ (K2 I hg hm a1V (PyProof.Rows.callWith_type1 (h9 (ha pos pins s σ H _ I h) fun us s1 ⟨vs,H1,I1,r1,q1⟩=>?_) hs rfl))
 obtain⟨a,e,⟨xs,hq⟩,q⟩:=q1
 subst e
 obtain⟨u,rfl,ru⟩:=r1.one
 cases (show u=Value.ref a from ru)
 obtain⟨its,rv,pl,hz⟩:=I1.list hq
 refine call_enumerate_list pl.isList fun h' q1 q2 q3 q4=>?_
 have I2:Inv X pins σ H1 { s1 with heap:=h' }:=I1.kept (t':=s1.toks) q4
 refine wpAny_pyIter_enum (s:={ s1 with heap:=h' }) q1 ?_
 refine⟨s1.heap.objs.size+1,[s1.heap.objs.size+1,s1.heap.objs.size],_,_,H1,rfl,I2,a3S a s1.heap.objs.size _ (Nat.succ_ne_self _),⟨⟨_,q1⟩,q2⟩,fun b hb=>?_,q⟩
 have hb':s1.heap.objs.size≤b:=by
  rcases List.mem_cons.mp hb with z | z
  ·rw[z];exact Nat.le_succ _
  ·have z:b=s1.heap.objs.size:=by simpa using z
   rw[z];exact Nat.le_refl _
 exact I1.fpOk hb' (I1.hok.fresh hb')
end
section
variable {X:Cx}{K:W.Frag}
theorem A6(hK:X.K=K:=by rfl):IxR X (a4Q K):=hK▸a6p
theorem t7(hK:X.K=K:=by rfl):IxR X (a4R K):=hK▸a7Z
theorem a1W(hK:X.K=K:=by rfl):SlR X (a4S K):=hK▸a6q
theorem a6t(hu:X.A.units<cLine)(hK:X.K=K:=by rfl):C5 X (compareOp .Lt) (a4P K):=hK▸a7Y hu
def a2U(K:W.Frag):List V→Hp→VK→Prop:=fun xs H Q=>∃p ys,xs=[.ref p]∧(SqL K H p ys∨SqT K H p ys)∧Q (.int ys.length) H
theorem p7(hK:X.K=K:=by rfl):E6 X (.builtin "len") (a2U K):=hK▸a1O
def a2V(K:W.Frag):List V→Hp→VK→Prop:=fun xs H Q=>∃p ys,xs=[.ref p]∧(SqL K H p ys∨SqT K H p ys)∧∀l,H l=none→Q (.ref l) (upd H l (.lst ys))
theorem a1t(hK:X.K=K:=by rfl):E6 X (.type "list") (a2V K):=hK▸a1P
theorem U6(hK:X.K=K:=by rfl):E6 X (.builtin "isinstance") (a4U K):=hK▸a4V
theorem a0I{es:List Expr}{k:Nat}{t:U1}{n:Nat}{pos:Pos}(hc:X.calm=true)(h:PGs X es t)(hK:X.K=K:=by rfl)(hn:(assignEach es X.env).length=n:=by rfl)(hst:(assignEach es X.env).findIdx? (·.1)=none:=by rfl) :
  PG X (.Tuple es k pos) (a4J K n t):=hK▸a7Q hc h hn hst
variable {o e:Expr}{es:List Expr}{to:TE}{t:TA}{name:Str}{apos cpos:Pos}{T id:String}{r:V→List V→Hp→VK→Prop}
theorem a0J(pa:PlainAttrs T)(slot:Slot T name id)(hty:typeOf (.builtin id)=pure (.type "method_descriptor"))(hm:MtR X id r)(ho:PE X o to)(hK:X.K=K:=by rfl)
  (hbase:attributeBase o name X.env (eval o X.env)=eval o X.env:=by rfl) (hline:(apos.endLine == cpos.line)=true:=by rfl):PE X (.Call (.Attribute o name apos) [] [] cpos) (a3c K T r to):=hK▸a74 pa slot hty hm ho hbase hline
theorem a3U(pa:PlainAttrs T)(slot:Slot T name id)(hty:typeOf (.builtin id)=pure (.type "method_descriptor"))(hm:MtR X id r)(ho:PE X o to)(ha:PA X (e::es) t)(hK:X.K=K:=by rfl)
  (hbase:attributeBase o name X.env (eval o X.env)=eval o X.env:=by rfl)
  (hfew:((backTo cpos (starEach (e::es) X.env)).all (fun x=>!x.1) && (backToKw cpos (keywordEach [] X.env)).all (fun x=>x.1.isSome)
   && decide ((e::es).length+([]:List Keyword).length+(if([]:List Keyword).isEmpty then 0 else 1)<30))=true:=by rfl)
  (hline:(apos.endLine == cpos.line)=true:=by rfl) (hs:starEach (e::es) X.env=(false,eval e X.env)::starEach es X.env:=by rfl) (hplain:(backTo cpos (starEach es X.env)).any (·.1)=false:=by rfl) :
  PE X (.Call (.Attribute o name apos) (e::es) [] cpos) (tBM K T r to t):=hK▸a9j pa slot hty hm ho ha hbase hfew hline hs hplain
end
def a7_(K:W.Frag):List V→Hp→VK→Prop:=fun xs H Q=>∃(a:Addr) (ns:List Int),xs=[.ref a]∧SqL K H a (ns.map V.int)∧Q (.int ns.sum) H
theorem a0f:∀{ns:List Int} {us:List Value},Vals (ns.map V.int) us→∃ps:List (Int×Tok),us=ps.map (fun p=>Value.int p.1 p.2)∧ps.map (·.1)=ns
 | [],_,.nil=>⟨[],rfl,rfl⟩
 | n::ns,_,.cons r t=>by
  obtain⟨tk,rfl⟩:=r
  obtain⟨ps,rfl,e⟩:=a0f t
  exact⟨(n,tk)::ps,rfl,by rw[List.map_cons,e]⟩
section
variable {X:Cx}
theorem a3V{K:W.Frag}(hc:X.calm=true:=by rfl)(hK:X.K=K:=by rfl):E6 X (.builtin "sum") (a7_ K):=by
 subst hK
 intro pins s σ H xs us Q I r h
 obtain⟨a,ns,rfl,hq,q⟩:=h
 obtain⟨u,rfl,ru⟩:=r.one
 cases (show u=Value.ref a from ru)
 obtain⟨its,rv,pl,hz⟩:=I.list hq
 obtain⟨ps,rfl,e⟩:=a0f rv
 have el:(ps.map fun p=>Value.int p.1 p.2).toArray=intItems ps.toArray:=by unfold intItems;simp
 have hl:=pl.isList
 rw[el]at hl
 refine sum_intListG (I.ok.hd hc) hl fun h' tk t' hk=>⟨.int ns.sum,H,I.kept (t':=tk) hk,?_,q⟩
 refine⟨t',?_⟩
 rw[preSum_eq,List.take_of_length_le (by simp),e]
end
theorem a8a:bootBuiltins "sum" = some (.builtin "sum"):=by decide +kernel
def Gd(n:Nat)(lt:Nat→Nat→Bool){α:Type}:KasT α→(α→Prop)→Prop
 | .ret a,P=>P a
 | .ask i j k,P=>i<n∧j<n∧Gd n lt (k (lt i j)) P
theorem Gd.mono{n:Nat}{lt:Nat→Nat→Bool}{α:Type}{P P':α→Prop}(h:∀a,P a→P' a):∀{t:KasT α},Gd n lt t P→Gd n lt t P'
 | .ret a,g=>h a g
 | .ask i j k,g=>⟨g.1,g.2.1,Gd.mono h g.2.2⟩
theorem Gd.bind{n:Nat}{lt:Nat→Nat→Bool}{α β:Type}{P:β→Prop}{f:α→KasT β}:∀{t:KasT α},Gd n lt t (fun a=>Gd n lt (f a) P)→Gd n lt (t.bind f) P
 | .ret a,g=>g
 | .ask i j k,g=>⟨g.1,g.2.1,Gd.bind (t:=k (lt i j)) g.2.2⟩
def ga(p:Array Nat)(k:Nat):Nat:=p.getD k 0
theorem a50(p:Array Nat)(k:Nat):ga p k=(p[k]?).getD 0:=by
 unfold ga;simp[Array.getD_eq_getD_getElem?]
structure TPre(lt:Nat→Nat→Bool):Prop where
 irr:∀i,lt i i=false
 tr:∀i j k,lt j i=false→lt k j=false→lt k i=false
 asy:∀i j,lt i j=true→lt j i=false
section
variable {n:Nat}{lt:Nat→Nat→Bool}
def Pmn(n:Nat)(p:Array Nat):Prop:=p.toList.Perm (List.range n)
theorem Pmn.size{p:Array Nat}(h:Pmn n p):p.size=n:=by have:=h.length_eq;simpa using this
theorem Pmn.rev{p:Array Nat}(h:Pmn n p)(i j:Nat):Pmn n (kas_rev p i j):=((Array.perm_iff_toList_perm.mp (mirror_perm p i j _)).trans h)
theorem Pmn.bub{p:Array Nat}(h:Pmn n p)(i j:Nat):Pmn n (bubble p i j):=((Array.perm_iff_toList_perm.mp (bubble_perm p i j)).trans h)
theorem a8b{p:Array Nat}{i j:Nat}(hj:j≤p.size)(k:Nat):ga (kas_rev p i j) k=if i≤k∧k<j then ga p (i+j-1-k)else ga p k:=by
 rw[a50,kas_rev,getElem?_mirror_all hj]
 split<;>rw[a50]
end
theorem a0K:∀a:List Int,HT.lexLt a a=false
 | []=>rfl
 | x::xs=>by rw[HT.lexLt_cons,if_pos rfl];exact a0K xs
theorem a0L:∀a b:List Int,HT.lexLt a b=true→HT.lexLt b a=false
 | [],[],h=>by cases h
 | [],_::_,_=>rfl
 | _::_,[],h=>by cases h
 | x::xs,y::ys,h=>by
  rw[HT.lexLt_cons]at h ⊢
  by_cases e:x=y
  ·rw[if_pos e]at h;rw[if_pos e.symm];exact a0L xs ys h
  ·rw[if_neg e]at h;rw[if_neg (Ne.symm e)]
   have:=of_decide_eq_true h
   exact decide_eq_false (by omega)
theorem a1X:∀a b c:List Int,HT.lexLt b a=false→HT.lexLt c b=false→HT.lexLt c a=false
 | [],[],_,_,h=>h
 | [],y::ys,[],_,h=>rfl
 | [],y::ys,z::zs,_,_=>rfl
 | x::xs,[],_,h,_=>by cases h
 | x::xs,y::ys,[],_,h=>by cases h
 | x::xs,y::ys,z::zs,h1,h2=>by
  rw[HT.lexLt_cons]at h1 h2 ⊢
  by_cases e1:y=x
  ·rw[if_pos e1]at h1
   by_cases e2:z=y
   ·rw[if_pos e2]at h2;rw[if_pos (e2.trans e1)];exact a1X xs ys zs h1 h2
   ·rw[if_neg e2]at h2;rw[if_neg (fun q=>e2 (q.trans e1.symm))];rw[← e1];exact h2
  ·rw[if_neg e1]at h1
   have:=of_decide_eq_false h1
   by_cases e2:z=y
   ·rw[if_neg (fun q=>e1 (e2.symm.trans q)),e2];exact h1
   ·rw[if_neg e2]at h2
    have:=of_decide_eq_false h2
    rw[if_neg (by omega)]
    exact decide_eq_false (by omega)
section
variable {prog:Program}{w:World}{A:Around}{E:Value→Shared→Prop}{s:Shared}{b fin:Bool}{Q:Bool→Shared→Prop}
theorem X4:∀{vs ws:List Value} {ns ms:List Int} (i:Nat),IntsAre vs ns→IntsAre ws ms→fin=decide (ns.length<ms.length)→Q (HT.lexLt ns ms) s→KatLex prog w A true fin Q (vs.zip ws) i s
 | _,_,_,_,i,.nil,.nil,hf,h=>by rw[List.zip_nil_left];refine kat_nil ?_;rw[hf];exact h
 | _,_,_,_,i,.nil,.cons c u t,hf,h=>by
  rw[List.zip_nil_left];refine kat_nil ?_;rw[hf,decide_eq_true (by simp)];exact h
 | _,_,_,_,i,.cons a t r,.nil,hf,h=>by
  rw[List.zip_nil_right];refine kat_nil ?_;rw[hf,decide_eq_false (by simp)];exact h
 | _,_,_,_,i,.cons (ns:=ns) a t r,.cons (ns:=ms) c u r',hf,h=>by
  rw[List.zip_cons_cons]
  rw[HT.lexLt_cons]at h
  refine kat_cons (wpAny_eqBool_int (kat_go (fun e=>?_) fun e=>?_))
  ·rw[if_pos (by simpa using e)]at h
   exact kat_yes (X4 (i+1) r r' (by rw[hf];simp) h)
  ·rw[if_neg (by simpa using e)]at h
   refine kat_no ?_
   by_cases hi:i=0
   ·subst hi
    show wpAny _ _ (oneLt' true _ _) _ _ _
    exact oneLt_int h
   ·have e0:(true && i == 0)=false:=by simpa using hi
    rw[e0]
    exact kat_one _ _ (PyProof.Rows.lt_int h)
def TupKey(h:Heap)(v:Value)(k:List Int):Prop:=∃a o xs m,v=.ref a∧h.get? a=some o∧o.cls=.type "tuple"∧o.data=.seq xs m∧IntsAre xs.toList k∧k≠[]
theorem TupKey.keeps{h h':Heap}{v:Value}{k:List Int}(t:TupKey h v k)(kp:∀a o,h.get? a=some o→h'.get? a=some o):TupKey h' v k:=by
 obtain⟨a,o,xs,m,e,ho,r⟩:=t
 exact⟨a,o,xs,m,e,kp _ _ ho,r⟩
theorem TupKey.lt{v u:Value}{k l:List Int}{C:Bool→Shared→Prop}{E:Value→Shared→Prop}(t:TupKey s.heap v k)(t':TupKey s.heap u l)(h:C (HT.lexLt k l) s):wpAny (model prog w) A (keyLt' (tuples' true) v u) C E s:=by
 obtain⟨a,o,xs,m,rfl,ho,_,hd,hi,_⟩:=t
 obtain⟨a',o',xs',m',rfl,ho',_,hd',hi',_⟩:=t'
 have z1:xs.size=k.length:=by rw[← hi.length];simp
 have z2:xs'.size=l.length:=by rw[← hi'.length];simp
 exact kat_lt ho hd ho' hd' (X4 0 hi hi' (by rw[z1,z2]) h)
def TKs(h:Heap):List Value→List (List Int)→Prop
 | [],[]=>True
 | v::vs,k::ks=>TupKey h v k∧TKs h vs ks
 | _,_=>False
theorem TKs.keeps{h h':Heap}(kp:∀a o,h.get? a=some o→h'.get? a=some o):∀{vs:List Value} {ks:List (List Int)},TKs h vs ks→TKs h' vs ks
 | [],[],_=>trivial
 | [],_::_,t=>t.elim
 | _::_,[],t=>t.elim
 | v::vs,k::ks,t=>⟨t.1.keeps kp,TKs.keeps kp t.2⟩
theorem TKs.len{h:Heap}:∀{vs:List Value} {ks:List (List Int)},TKs h vs ks→vs.length=ks.length
 | [],[],_=>rfl
 | [],_::_,t=>t.elim
 | _::_,[],t=>t.elim
 | v::vs,k::ks,t=>by simp[t.2.len]
theorem TKs.at{h:Heap}:∀{vs:List Value} {ks:List (List Int)} (i:Nat),TKs h vs ks→i<vs.length→TupKey h (vs.getD i Value.none) (ks.getD i [])
 | [],_,i,_,hi=>absurd hi (Nat.not_lt_zero _)
 | _::_,[],_,t,_=>t.elim
 | v::vs,k::ks,0,t,_=>t.1
 | v::vs,k::ks,i+1,t,hi=>TKs.at (vs:=vs) (ks:=ks) i t.2 (by simpa using hi)
end
theorem a1g:∀{ys:List V} {us:List Value} (p:List Nat),Vals ys us→(∀i∈p,i<ys.length)→Vals (p.map fun i=>ys.getD i .non) (p.map fun i=>us.getD i Value.none)
 | _,_,[],_,_=>.nil
 | ys,us,i::p,r,h=>by
  have hi:=h i (by simp)
  obtain⟨u,e,ru⟩:=r.get (List.getElem?_eq_getElem hi)
  refine .cons ?_ (a1g p r fun j hj=>h j (by simp[hj]))
  have e1:ys.getD i .non=ys[i]:=by simp[hi]
  have e2:us.getD i Value.none=u:=by simp[e]
  show RelV (ys.getD i .non) (us.getD i Value.none)
  rw[e1,e2];exact ru
namespace F'
end F'
open PySem PySem.Spec PyProof.Rows PySem.W
section
variable {X:Cx}{pins:List (Addr×Obj)}{σ:St}{H:Hp}{s:Shared}{a:Addr}
theorem Inv.trackO{oe:Obj}{vs:Array Value}{k:Nat}{u:HO}(I:Inv X pins σ H s)(ni:¬Imp X pins H a)(e:s.heap.get? a=some oe)(d:oe.data=.seq vs k)(new:ObjOk X.prog X.w (upd H a u) s.heap a u):Inv X pins σ (upd H a u) s:=by
 have fr:H a=none:=by
  cases q:H a with
  | none=>rfl
  | some v=>exact absurd (.inl (by rw[q];exact nofun)) ni
 refine⟨I.ok,I.os,I.bare,⟨I.base.keep,I.base.slot,fun b o e1 n hx=>?_,I.base.there,fun b xs q=>?_,fun b o u q=>?_,fun b ps q=>?_⟩,I.loc,I.cell,?_,fun y c q=>?_,fun p hp=>?_,fun b u q=>?_,I.len⟩
 ·rw[a8 (fun z=>ni (.inr (.inl ⟨by rw[← z];exact hx,o,by rw[← z];exact e1⟩)))]
  exact I.base.free b o e1 n hx
 ·have q1:=I.base.tups b xs q
  rw[a8 (d5 q1 fr)];exact q1
 ·have q1:=I.base.frzs b o u q
  rw[a8 (d5 q1 fr)];exact q1
 ·obtain⟨more,q1⟩:=I.base.tbls b ps q
  exact⟨more,by rw[a8 (d5 q1 fr)];exact q1⟩
 ·rw[a8 fun z=>?_]
  ·exact I.free
  ·obtain⟨m,⟨o,es,ep,ho,hd,_⟩,_⟩:=I.loc
   rw[z,e]at ho;cases ho
   rw[d]at hd;cases hd
 ·rw[a8 fun z=>?_]
  ·exact I.freeC y c q
  ·obtain⟨v,o,ho,hd⟩:=I.cell y c q
   rw[z,e]at ho;cases ho
   rw[d]at hd;cases hd
 ·obtain⟨h1,h2,h3,h4,h5⟩:=I.pin p hp
  exact⟨h1,by rw[a8 (fun z=>ni (.inr (.inr ⟨p,hp,z⟩)))];exact h2,h3,h4,h5⟩
 ·by_cases hb:b=a
  ·subst hb
   rw[g7]at q;cases q
   exact new
  ·rw[a8 hb]at q
   refine(I.hok b u q).stay (fun _ _ _ z=>z) (fun c z=>?_) (fun c xs z=>?_) fun c ob u z=>?_
   ·rw[a8 (d5 z fr)];exact z
   ·rw[a8 (d5 z fr)];exact z
   ·rw[a8 (d5 z fr)];exact z
end
section
variable {prog:Program}{w:World}{A:Around}{E:Value→Shared→Prop}{s:Shared}{fin:Bool}{Q:Bool→Shared→Prop}
theorem a6u{v:Value}(hv:(v == v)=true){E:Value→Shared→Prop}(h:Q true s):wpAny (model prog w) A (eqBool v v) Q E s:=by
 unfold eqBool
 refine wpAny_holding ?_
 rw[if_pos hv]
 exact wpAny_bind (wpAny_rule (wpAny_pure h))
theorem X5:∀{vs:List Value} (i:Nat),(∀v∈vs,(v == v)=true)→Q fin s→KatLex prog w A true fin Q (vs.zip vs) i s
 | [],i,_,h=>by rw[List.zip_nil_left];exact kat_nil h
 | v::vs,i,hv,h=>by
  rw[List.zip_cons_cons]
  exact kat_cons (a6u (hv v (by simp)) (kat_yes (X5 (i+1) (fun u hu=>hv u (by simp[hu])) h)))
theorem a0g{rs rs':List Value}:∀{vs ws:List Value} {ns ms:List Int} (i:Nat),IntsAre vs ns→IntsAre ws ms→ns.length=ms.length→ns≠ms→Q (HT.lexLt ns ms) s→KatLex prog w A true fin Q ((vs++rs).zip (ws++rs')) i s
 | _,_,_,_,i,.nil,.nil,_,hn,_=>absurd rfl hn
 | _,_,_,_,i,.nil,.cons c u t,hf,_,_=>by simp at hf
 | _,_,_,_,i,.cons a t r,.nil,hf,_,_=>by simp at hf
 | _,_,_,_,i,.cons (ns:=ns) a t r,.cons (ns:=ms) c u r',hf,hn,h=>by
  rw[List.cons_append,List.cons_append,List.zip_cons_cons]
  rw[HT.lexLt_cons]at h
  refine kat_cons (wpAny_eqBool_int (kat_go (fun e=>?_) fun e=>?_))
  ·have e':a=c:=by simpa using e
   rw[if_pos e']at h
   exact kat_yes (a0g (i+1) r r' (by simpa using hf) (fun z=>hn (by rw[e',z])) h)
  ·rw[if_neg (by simpa using e)]at h
   refine kat_no ?_
   by_cases hi:i=0
   ·subst hi
    show wpAny _ _ (oneLt' true _ _) _ _ _
    exact oneLt_int h
   ·have e0:(true && i == 0)=false:=by simpa using hi
    rw[e0]
    exact kat_one _ _ (PyProof.Rows.lt_int h)
def TupPre(h:Heap)(v:Value)(k:List Int):Prop:=∃a o xs m vs rs,v=.ref a∧h.get? a=some o∧o.cls=.type "tuple"∧o.data=.seq xs m∧xs.toList=vs++rs∧IntsAre vs k∧k≠[]∧∀u∈xs.toList,(u == u)=true
theorem TupPre.keeps{h h':Heap}{v:Value}{k:List Int}(t:TupPre h v k)(kp:∀a o,h.get? a=some o→h'.get? a=some o):TupPre h' v k:=by
 obtain⟨a,o,xs,m,vs,rs,e,ho,r⟩:=t
 exact⟨a,o,xs,m,vs,rs,e,kp _ _ ho,r⟩
theorem TupPre.lt{v u:Value}{k l:List Int}{C:Bool→Shared→Prop}(t:TupPre s.heap v k)(t':TupPre s.heap u l)(hl:k.length=l.length)(hn:k≠l)(h:C (HT.lexLt k l) s):wpAny (model prog w) A (keyLt' (tuples' true) v u) C E s:=by
 obtain⟨a,o,xs,m,vs,rs,rfl,ho,_,hd,hx,hi,_⟩:=t
 obtain⟨a',o',xs',m',vs',rs',rfl,ho',_,hd',hx',hi',_⟩:=t'
 refine kat_lt ho hd ho' hd' ?_
 rw[hx,hx']
 exact a0g 0 hi hi' hl hn h
theorem TupPre.lt_self{v:Value}{k:List Int}{C:Bool→Shared→Prop}(t:TupPre s.heap v k)(h:C false s):wpAny (model prog w) A (keyLt' (tuples' true) v v) C E s:=by
 obtain⟨a,o,xs,m,vs,rs,rfl,ho,_,hd,hx,hi,_,hv⟩:=t
 refine kat_lt ho hd ho hd (X5 0 hv ?_)
 rw[decide_eq_false (Nat.lt_irrefl _)]
 exact h
def TPs(h:Heap):List Value→List (List Int)→Prop
 | [],[]=>True
 | v::vs,k::ks=>TupPre h v k∧TPs h vs ks
 | _,_=>False
theorem TPs.keeps{h h':Heap}(kp:∀a o,h.get? a=some o→h'.get? a=some o):∀{vs:List Value} {ks:List (List Int)},TPs h vs ks→TPs h' vs ks
 | [],[],_=>trivial
 | [],_::_,t=>t.elim
 | _::_,[],t=>t.elim
 | v::vs,k::ks,t=>⟨t.1.keeps kp,TPs.keeps kp t.2⟩
theorem TPs.at{h:Heap}:∀{vs:List Value} {ks:List (List Int)} (i:Nat),TPs h vs ks→i<vs.length→TupPre h (vs.getD i Value.none) (ks.getD i [])
 | [],_,i,_,hi=>absurd hi (Nat.not_lt_zero _)
 | _::_,[],_,t,_=>t.elim
 | v::vs,k::ks,0,t,_=>t.1
 | v::vs,k::ks,i+1,t,hi=>TPs.at (vs:=vs) (ks:=ks) i t.2 (by simpa using hi)
theorem a2W:∀{h:Heap} {vs:List Value} {ks:List (List Int)},TPs h vs ks→∃fs,KatTups h vs fs∧fs.length=vs.length∧∀v∈fs,∃i t,v=Value.int i t
 | _,[],[],_=>⟨[],.nil,rfl,fun v h=>by cases h⟩
 | _,[],_::_,t=>t.elim
 | _,_::_,[],t=>t.elim
 | h,v::vs,k::ks,⟨t,r⟩=>by
  obtain⟨fs,h1,h2,h3⟩:=a2W r
  obtain⟨a,o,xs,m,us,rs,rfl,ho,hc,hd,hx,hi,hn,_⟩:=t
  obtain⟨xl⟩:=xs
  cases hi with
  | nil=>exact absurd rfl hn
  | cons n tk hr =>
   simp only at hx
   subst hx
   exact⟨.int n tk::fs,.cons ho hc hd (by simp) h1,by simp[h2],fun v hv=>by
    rcases List.mem_cons.mp hv with rfl | hv
    ·exact⟨n,tk,rfl⟩
    ·exact h3 v hv⟩
end
def VPs(K:W.Frag)(H:Hp):List V→List (List Int)→Prop
 | [],[]=>True
 | v::vs,k::ks=>(∃a rs,v=.ref a∧SqT K H a (k.map V.int++rs)∧k≠[]∧∀r∈rs,∃b,r=.ref b)∧VPs K H vs ks
 | _,_=>False
theorem a0h:∀{k:List Int} {rs:List V} {us:List Value},Vals (k.map V.int++rs) us→∃vs ws,us=vs++ws∧IntsAre vs k∧Vals rs ws
 | [],rs,us,r=>⟨[],us,rfl,.nil,r⟩
 | n::k,rs,_,.cons r t=>by
  obtain⟨vs,ws,e,h1,h2⟩:=a0h (k:=k) t
  obtain⟨tk,e2⟩:=r
  exact⟨.int n tk::vs,ws,by rw[e,e2];rfl,.cons n tk h1,h2⟩
theorem X6:∀{vs:List Value} {ns:List Int},IntsAre vs ns→∀u∈vs,∃m t,u=Value.int m t
 | _,_,.nil,u,hu=>by cases hu
 | _,_,.cons m t r,u,hu=>by
  rcases List.mem_cons.mp hu with rfl | hu
  ·exact⟨m,t,rfl⟩
  ·exact X6 r u hu
theorem a4Y(n:Int)(t:Tok):(Value.int n t == Value.int n t)=true:=by simp
theorem a4Z(a:Addr):(Value.ref a == Value.ref a)=true:=by simp
section
variable {X:Cx}
theorem a2Y{pins:List (Addr×Obj)}{σ:St}{H:Hp}{s:Shared}(I:Inv X pins σ H s):∀{ys:List V} {us:List Value} {ks:List (List Int)},Vals ys us→VPs X.K H ys ks→TPs s.heap us ks
 | [],_,[],.nil,_=>trivial
 | [],_,_::_,_,h=>h.elim
 | _::_,_,[],_,h=>h.elim
 | v::ys,_,k::ks,.cons r rs,⟨⟨a,zs,e,hq,hn,hz⟩,h⟩=>by
  refine⟨?_,a2Y I rs h⟩
  subst e
  obtain⟨its,rv,⟨o,ho,hc,n,hd⟩,_⟩:=I.tuple hq
  obtain⟨vs,ws,e,hi,hw⟩:=a0h rv
  refine⟨a,o,_,n,vs,ws,r,ho,hc,hd,by simpa using e,hi,hn,?_⟩
  intro u hu
  have hu:u∈its:=by simpa using hu
  rw[e]at hu
  rcases List.mem_append.mp hu with hu | hu
  ·obtain⟨m,t,rfl⟩:=X6 hi u hu
   exact a4Y m t
  ·obtain⟨j,hj,e2⟩:=List.mem_iff_getElem.mp hu
   have hl:=hw.length
   have hj2:j<zs.length:=by omega
   obtain⟨w',q1,q2⟩:=hw.get (List.getElem?_eq_getElem hj2)
   obtain⟨b,eb⟩:=hz zs[j] (List.getElem_mem hj2)
   rw[eb]at q2
   rw[List.getElem?_eq_getElem hj,e2]at q1
   cases q1
   cases q2
   exact a4Z b
end
theorem a1u{pos:Pos}{a b:Int}{c cv:Value}(l:List Value)(h:TriplesOk l)(e:codeAmong pos (l++[rawInt a,rawInt b,c])=some cv):codeAmong pos l=some cv∨cv=c:=by
 fun_induction TriplesOk l with
 | case1 =>
  simp only[List.nil_append,codeAmong,rawInt]at e
  split at e
  ·exact .inr (Option.some.inj e).symm
  ·cases e
 | case2 a t b u x i4 ih =>
  simp only[List.cons_append,codeAmong]at e ⊢
  split at e
  ·exact .inl (by rename_i z;rw[if_pos z];exact e)
  ·rename_i z;rw[if_neg z];exact ih h e
 | case3=>exact h.elim
def W4(oc:Obj)(q:Str):Prop:=∃vs t,oc.data=.fields vs∧vs[1]? = some (.str q t)
section
variable {X:Cx}{pins:List (Addr×Obj)}{σ:St}{H:Hp}{s:Shared}{params:Arguments}{body:Expr}{scope:Scope}{lpos:Pos}{c P:Addr}{q:Str}{tq:Tok}{qs:Array Value}{Q:Value→Shared→Prop}{E:Value→Shared→Prop}
abbrev O9(X:Cx)(params:Arguments)(body:Expr)(scope:Scope)(q:Str)(c':Addr)(pm ctv:Value):Obj:=kla_obj "<lambda>" q params body scope (p4 X.env.cells scope.names []) pm c' ctv
theorem Inv.grown{h':Heap}{tk:Nat}{c':Addr}{oc:Obj}{ps:Array Value}{a b:Int}(I:Inv X pins σ H s)(hT:H P=some (.tbl qs))(hqs:qs[0]? = some (Value.str q tq))(eP:s.heap.get? P=some (tabObj ps))(tr:TriplesOk ps.toList)
  (al:∀pos cv,codeAmong pos ps.toList=some cv→∃c oc u,cv=Value.ref c∧H c=some (.frz oc u)∧∃vs q' t t2,oc.data=.fields vs∧vs[1]? = some (Value.str q' t2)∧qs[0]? = some (Value.str q' t))
  (hx:Heap.ExtBut P s.heap h') (hge:s.heap.objs.size≤c') (hoc:h'.get? c'=some oc) (hq:W4 oc q) (htb:h'.get? P=some (tabObj (ps ++ #[rawInt a,rawInt b,.ref c']))) :
  Inv X pins σ (upd H c' (.frz oc (.own c'))) { s with heap:=h',toks:=tk }:=by
 have hn:H c'=none:=I.hok.fresh hge
 have neP:∀b',H b'=none→b'≠P:=fun b' n z=>by rw[z,hT]at n;cases n
 refine I.un (t':=tk) ⟨fun b o e n _ _=>hx b o (neP b n) e,fun b o e n _ _=>⟨o.slots,hx b o (neP b n) e⟩,fun b o e n _=>by rw[a8 (Nat.ne_of_lt (Nat.lt_of_lt_of_le (Heap.lt_size e) hge))];exact n,fun b o e _=>?_,fun b xs e=>by rw[a8 (d5 e hn)];exact e,fun b o u e=>by rw[a8 (d5 e hn)];exact e,fun b qs e=>⟨#[],by rw[a8 (d5 e hn),e];simp⟩⟩ fun b u e=>?_
 ·by_cases z:b=P
  ·rw[z];exact⟨_,htb⟩
  ·exact⟨o,hx b o z e⟩
 ·by_cases z:b=c'
  ·subst z
   rw[g7]at e;cases e
   exact⟨hoc,oc,hoc⟩
  ·rw[a8 z]at e
   by_cases y:b=P
   ·subst y
    rw[hT]at e;cases e
    refine⟨_,htb,by rw[Array.toList_append];exact TriplesOk_snoc _ _ _ _ tr,fun pos cv e=>?_⟩
    rw[Array.toList_append]at e
    rcases a1u _ tr e with e | rfl
    ·obtain⟨c,o,u,e1,e2,r⟩:=al pos cv e
     exact⟨c,o,u,e1,by rw[a8 (d5 e2 hn)];exact e2,r⟩
    ·obtain⟨vs,t,d1,d2⟩:=hq
     exact⟨c',oc,.own c',rfl,g7,vs,q,tq,t,d1,d2,hqs⟩
   ·refine(I.hok b u e).stay (fun d v hd r=>hx d v ?_ r) (fun d r=>by rw[a8 (d5 r hn)];exact r) (fun d xs r=>by rw[a8 (d5 r hn)];exact r) fun d o u r=>by rw[a8 (d5 r hn)];exact r
    rcases hd with rfl | hd
    ·exact y
    ·intro z;rw[z,hT]at hd;cases hd
theorem a40(I:Inv X pins σ H s)(hd:defaultsOf params X.env=([],[]))(hcode:X.env.code=.ref c)(C:CodeHd X.base c P)(hbl:X.base.BuiltinsAt X.mg P)(hT:H P=some (.tbl qs))(hqs:qs[0]? = some (Value.str q tq))(hq:q=X.env.qual ++ "<lambda>")
  (hfree:∀y∈scope.names,y.2=.free→X.env.scope.names.lookup y.1=some .cell∨X.env.scope.names.lookup y.1=some .free)
  (h:∀f c' oc u pm ctv H' s',Inv X pins σ H' s'→(∀a o,H a=some o→H' a=some o)→H' f=some (.frz (O9 X params body scope q c' pm ctv) (.own f))→H' c'=some (.frz oc u)→W4 oc q→Q (.ref f) s') :
  wpAny (model X.prog X.w) X.A (eval (.Lambda params body scope lpos) X.env) Q E s:=by
 refine kla_eval hd ?_
 subst hq
 obtain⟨ps,eP,tr,al⟩:=I.hok P _ hT
 have hcl:=O8 (scope:=scope) (env:=X.env) fun y hy hk=>I.ok.has y.1 (hfree y hy hk)
 have hg:s.heap.Ns mainGlobals X.mg:=I.mod.glob.keeps I.bk
 obtain⟨bm,ob,b1,b2,b3,b4,b5,b6,b7,b8⟩:=hbl
 have hb:s.heap.BuiltinsAt X.mg P:=⟨bm,ob,b1,b2,b3,b4,I.bk _ _ b5,b6,b7,b8⟩
 have lay:∀(H1:Hp) (h1:Heap) (tk:Nat) (c':Addr) (oc:Obj) (u:HO) (pm ctv:Value),Inv X pins σ H1 { s with heap:=h1,toks:=tk }→(∀a o,H a=some o→H1 a=some o)→H1 c'=some (.frz oc u)→W4 oc (X.env.qual ++ "<lambda>")→Q (.ref h1.objs.size) { s with heap:=h1.push (O9 X params body scope (X.env.qual ++ "<lambda>") c' pm ctv),toks:=tk }:=by
  intro H1 h1 tk c' oc u pm ctv I1 ex e3 e4
  have hf:H1 h1.objs.size=none:=I1.hok.fresh (Nat.le_refl _)
  have hgt:(h1.push (O9 X params body scope (X.env.qual ++ "<lambda>") c' pm ctv)).get? h1.objs.size=some (O9 X params body scope (X.env.qual ++ "<lambda>") c' pm ctv):=Heap.get?_push_size _ rfl
  have I2:=I1.laid (a:=h1.objs.size) (o:=.frz (O9 X params body scope (X.env.qual ++ "<lambda>") c' pm ctv) (.own h1.objs.size)) (t':=tk) (fun b o e=>Heap.get?_push_of_some (O9 X params body scope (X.env.qual ++ "<lambda>") c' pm ctv) e) (Nat.le_refl _) ⟨hgt,_,hgt⟩
  refine h _ c' oc u pm ctv _ _ I2 (fun a o e=>?_) g7 ?_ e4
  ·rw[a8 (d5 (ex a o e) hf)];exact ex a o e
  ·rw[a8 (d5 e3 hf)];exact e3
 cases e:codeAmong lpos ps.toList with
 | some cv =>
  obtain⟨c',oc,u,rfl,hc',vs,q',t,t2,d1,d2,d3⟩:=al lpos cv e
  have hq:q'=X.env.qual ++ "<lambda>" := by
   rw[hqs]at d3
   injection d3 with d3
   injection d3 with d3
   exact d3.symm
  subst hq
  refine kla_makeFunctionHit (mg:=X.mg) hcl I.ok.glob hg hcode (C.keeps I.bk) eP tr e hb fun ctv h' tk hk hsz=>?_
  exact lay H h' tk c' oc u _ ctv (I.kept hk) (fun _ _ e=>e) hc' ⟨vs,t2,d1,d2⟩
 | none =>
  have hgP:mainGlobals≠P:=fun z=>by
   obtain⟨o,es,ep,e1,hd,_⟩:=hg
   rw[z,eP]at e1;cases e1;cases hd
  refine kla_makeFunction (mg:=X.mg) hcl I.ok.glob hg hcode (C.keeps I.bk) eP tr e hgP hb fun c' ctv h' tk hx hge hlt hrec htb=>?_
  obtain⟨c2,oc,vs,t,e2,hoc,hd,hv⟩:=hrec
  cases e2
  exact lay _ h' tk c' oc (.own c') _ ctv (I.grown (tk:=tk) hT hqs eP tr al hx hge hoc ⟨vs,t,hd,hv⟩ htb) (fun a o e=>by rw[a8 (d5 e (I.hok.fresh hge))];exact e) g7 ⟨vs,t,hd,hv⟩
end
abbrev a1Y(X:Cx)(scope:Scope)(q:Str)(L f c':Addr):Env:=envX q scope L f (.ref c') (p4 X.env.cells scope.names [])
abbrev a3e(X:Cx)(A':Around)(scope:Scope)(q:Str)(Nc:List Str)(f c':Addr)(s:Shared)(H:Hp):Cx :=
 { X with A:=A'.deeper (a1Y X scope q s.heap.objs.size f c'),N:=Nc,s₀:=s,H₀:=H,env:=a1Y X scope q s.heap.objs.size f c',outer:=X.stack,stack:=a1Y X scope q s.heap.objs.size f c'::X.stack,ex:=[],fn:=fun _=>false,calm:=true,pn:=[],xe:=fun _ _=>False }
def a1z(js:List Nat)(σ:St)(x:V):St:=some x::js.map fun j=>(σ[j]?).getD none
section
variable {X:Cx}{pins:List (Addr×Obj)}{σ:St}{H:Hp}{s:Shared}{A':Around}{params:Arguments}{body:Expr}{scope:Scope}{q kn:Str}{f c':Addr}{Nc:List Str}{js:List Nat}{h₁:Heap}{tk:Nat}{v:Value}{x:V}
theorem a6v(I:Inv X pins σ H s)(hA:A'.frames=some X.stack)(hh:A'.handled=none)(S:CompSc X.env.scope scope X.N Nc 1 js)(hk0:Nc[0]? = some kn)(hloc:scope.names.lookup kn=some .local)
  (hns:h₁.Ns s.heap.objs.size (fun y=>([(kn,v)]:List (Str×Value)).reverse.lookup y)) (old:∀b o,s.heap.get? b=some o→h₁.get? b=some o) (rv:RelV x v) :
  Inv (a3e X A' scope q Nc f c' s H) [] (a1z js σ x) H { s with heap:=h₁,toks:=tk }:=by
 have ok:=I.ok
 refine⟨⟨ok.mod,S.kind,rfl,rfl,Nat.le_refl _,fun x y c h1 h2=>ok.inj x y c (p6 h1) (p6 h2),fun y hy=>?_,(fun x c z=>nomatch z),fun _=>hh,Around.frames_deeper hA,.inr ⟨rfl,rfl⟩,fun b hb=>absurd (show b∈([]:List Addr)from hb) (by simp),I.bs,Nat.le_trans ok.bsz I.sz,fun b o e hb=>absurd (show b∈([]:List Addr)from hb) (by simp),fun b hb=>absurd (show b∈([]:List Addr)from hb) (by simp),I.stack,I.stkFree⟩,
  rfl,I.bare,Un.kept old,⟨_,hns,fun i y w e1 e2 e3=>?_⟩,fun y c e=>?_,I.hok.fresh (Nat.le_refl _),fun y c e=>I.freeC y c (p6 e),fun p hp=>absurd (show p∈([]:List (Addr×Obj))from hp) (by simp),I.hok.kept old,?_⟩
 ·have hy:scope.names.lookup y=some .cell∨scope.names.lookup y=some .free:=hy
  rcases hy with hy | hy
  ·exact absurd rfl (S.cell _ (u5 hy))
  ·exact A5 (u5 hy) (ok.has y (S.free _ (u5 hy) rfl))
 ·cases i with
  | zero =>
   have e1:Nc[0]? = some y:=e1
   rw[hk0]at e1;cases e1
   have e2:some (some x)=some (some w):=e2
   cases e2
   refine⟨v,rv,.inl ⟨hloc,?_⟩⟩
   show([(kn,v)]:List (Str×Value)).reverse.lookup kn=some v
   simp
  | succ i =>
   have e2:(js.map fun j=>(σ[j]?).getD none)[i]? = some (some w):=e2
   rw[List.getElem?_map]at e2
   cases hj:js[i]? with
   | none=>rw[hj]at e2;cases e2
   | some j =>
    rw[hj]at e2
    have e2':(σ[j]?).getD none=some w:=Option.some.inj e2
    have hσ:σ[j]? = some (some w):=by
     cases z:σ[j]? with
     | none=>rw[z]at e2';cases e2'
     | some y=>rw[z]at e2';simp at e2';rw[e2']
    have e1:Nc[i+1]? = some y:=e1
    have hx:(Nc.drop 1)[i]? = some y:=by rw[List.getElem?_drop,show 1+i=i+1 by omega];exact e1
    have hNj:X.N[j]? = some y:=by
     have:=congrArg (fun l=>l[i]?) S.cap
     simp only[List.getElem?_map,hx,hj,Option.map_some]at this
     exact(Option.some.inj this).symm
    have hfr:scope.names.lookup y=some .free:=S.caps y (List.mem_of_getElem? hx)
    have hk:=S.free _ (u5 hfr) rfl
    obtain⟨m,hn,hl⟩:=I.loc
    obtain⟨u,r,l⟩:=hl j y w hNj hσ (.inr hk)
    refine⟨u,r,.inr ⟨.inr hfr,?_⟩⟩
    rcases l with⟨l1,_⟩ | ⟨_,c,hc,hcell⟩
    ·have l1:X.env.scope.names.lookup y=some .local:=l1
     rcases hk with hk | hk
     ·rw[l1]at hk;cases hk
     ·rw[l1]at hk;cases hk
    ·obtain⟨d,hd⟩:=A5 (cells:=X.env.cells) (acc:=[]) (u5 hfr) ⟨c,hc⟩
     have:=p6 hd
     rw[hc]at this;cases this
     obtain⟨o,ho,hdd⟩:=hcell
     exact⟨c,hd,⟨o,old _ _ ho,hdd⟩⟩
 ·obtain⟨w,o,ho,hd⟩:=I.cell y c (p6 e)
  exact⟨w,o,old _ _ ho,hd⟩
 ·unfold a1z
  rw[List.length_cons,List.length_map]
  have:=S.len
  show _=Nc.length
  omega
theorem a41{oc:Obj}{u u':HO}{pm ctv:Value}{te:TE}{Qk:VK}(I:Inv X pins σ H s)(hA:A'.frames=some X.stack)(hh:A'.handled=none)(hdp:A'.depth<recursionLimit)(S:CompSc X.env.scope scope X.N Nc 1 js)(hk0:Nc[0]? = some kn)(hloc:scope.names.lookup kn=some .local)
  (hf:H f=some (.frz (O9 X params body scope q c' pm ctv) u')) (hc:H c'=some (.frz oc u)) (hq:W4 oc q) (hbind:bindArgs (kla_fn "<lambda>" q params body scope (p4 X.env.cells scope.names []) pm (.ref c') ctv) ⟨[v],[]⟩=pure [(kn,v)])
  (hco:scope.isCoroutine=false) (hgen:scope.isGenerator=false) (hbody:PE (a3e X A' scope q Nc f c' s H) body te) (rv:RelV x v) (ht:te (a1z js σ x) H Qk) :
  wpAny (model X.prog X.w) A' (call (.ref f) [v]) (fun w s'=>∃y H2,Inv X pins σ H2 s'∧RelV y w∧Qk y H2∧Un (v8 X.stack) [] H H2 s.heap s'.heap) (fun _ _=>False) s:=by
 have ef:s.heap.get? f=some (O9 X params body scope q c' pm ctv):=(I.hok f _ hf).1
 have ec:s.heap.get? c'=some oc:=(I.hok c' _ hc).1
 obtain⟨vs,t,d1,d2⟩:=hq
 refine wpAny_call (kla_callFunE hdp ef rfl hco hgen rfl ⟨c',oc,vs,t,rfl,ec,d1,d2⟩ ?_)
 rw[hbind]
 refine wpAny_pure (wpAny_newFunctionEnv S.cell (by
  intro y hy
  rw[List.mem_singleton.mp hy]
  exact hloc) (fun h₁ hns hsb=>⟨I.nolimit.fresh _ hsb,?_⟩) S.kind)
 have old:∀b o,s.heap.get? b=some o→h₁.get? b=some o:=fun b o e=>hsb.extBut b o (Nat.ne_of_lt (Heap.lt_size e)) (Heap.get?_push_of_some _ e)
 have J:=a6v (q:=q) (f:=f) (c':=c') (tk:=s.toks+([(kn,v)]:List (Str×Value)).length) I hA hh S hk0 hloc hns old rv
 refine kla_codeExpr (wpAny_mono (hbody [] _ _ H _ J ht) (fun w s' hw=>?_) fun _ _ z=>z.elim)
 obtain⟨y,H2,I2,ry,q2⟩:=hw
 exact⟨y,H2,I.call' (ch:=[]) (I2.os.trans rfl) I2.base I2.hok I2.bare (fun b hb=>absurd hb (by simp)),ry,q2,I2.base⟩
end
section
variable {prog:Program}{w:World}{A:Around}{E:Value→Shared→Prop}{s:Shared}
theorem a2x{r:Addr}{a b c:Int}{t u v:Tok}{n:Nat}{Q:List Value→Shared→Prop}(hh:A.handled=none)(hr:IsRange s.heap r a b c t u v)(hsmall:Builtin.Range.small a b c=true)(hn:Builtin.Range.rangeSize a b c=n)(hlen:n≤2 ^ 24)
  (h:∀h' tk acc,(∀b o,s.heap.get? b=some o→h'.get? b=some o)→ItemsOf (fun i v=>∃t,v=.int (a+i*c) t) acc n→Q acc.toList { s with heap:=h',toks:=tk }) :
  wpAny (model prog w) A (collect (.ref r)) Q E s:=by
 unfold collect
 refine wpAny_bind (wpAny_runValue (codeAny_builtin F.entry_proto_collect ?_))
 rw[Around.under_plainId F.plain_proto_collect _]
 show wpAny _ A.in1 (newList [] >>= fun l=>again (.builtin "list.__iadd__" ⟨[l,.ref r],[]⟩)) _ _ s
 refine wpAny_bind (wpAny_newObj_type ?_)
 refine wpAny_pure ⟨plainId_quiet F.plain_list_iadd _,codeAny_builtin F.entry_list_iadd ?_⟩
 rw[Around.under_plainId F.plain_list_iadd _]
 have hS:(s.heap.push { cls:=.type "list",data:=.seq ([]:List Value).toArray }).get? s.heap.objs.size=some { cls:=.type "list",data:=.seq ([]:List Value).toArray }:=Heap.get?_push_size _ rfl
 show wpAny _ A.in1 (Builtin.List.listExtendWith (.ref s.heap.objs.size) (.ref r) (.ref s.heap.objs.size)) _ _ _
 refine wpAny_extend_range (A:=A) (R:=fun r' s'=>match r' with
  | .ok (.ret v)=>wpAny (model prog w) A (match v with
   | .ref a=>do
    let o ← load a
    match o.data with
     | .seq xs _=>pure xs.toList
     | _=>unsupported "internal:collect"
   | _=>unsupported "internal:collect") Q E s'
  | .ok _=>False
  | .error e=>E e s') (s:={ s with heap:=s.heap.push { cls:=.type "list",data:=.seq ([]:List Value).toArray } }) hh (Heap.get?_push_of_some _ hr) hsmall hn hlen s.heap.objs.size (.ref s.heap.objs.size) 0 hS fun h' tk acc c' hk hS' hi=>?_
 show wpAny _ A (load s.heap.objs.size >>= _) _ _ _
 refine wpAny_bind (wpAny_load hS' ?_)
 exact wpAny_pure (h h' tk acc (fun b o e=>hk b o (Nat.ne_of_lt (Heap.lt_size e)) (Heap.get?_push_of_some _ e)) hi)
end
section
variable {X:Cx}{pins:List (Addr×Obj)}{σ:St}{H:Hp}{s:Shared}{A':Around}{E:Value→Shared→Prop}
theorem FpOk.nstk{H':Hp}{b:Addr}(I:Inv X pins σ H s)(f:FpOk X pins H' b):b ∉ v8 X.stack:=fun z=>by
 rcases List.mem_cons.mp (I.stkSub b z)with q | q
 ·exact f.2.1 q
 ·exact f.2.2.1 q
theorem FpOk.to{H':Hp}{b:Addr}(f:FpOk X pins H b)(n:H' b=none):FpOk X pins H' b:=⟨n,f.2⟩
theorem a6w{xs:List V}{vs:List Value}(r:Vals xs vs){j:Nat}{u:Value}(h:vs[j]? = some u):∃x,xs[j]? = some x∧RelV x u:=by
 have hj:=(List.getElem?_eq_some_iff.mp h).1
 have hl:=r.length
 obtain⟨u',e,q⟩:=r.get (List.getElem?_eq_getElem (l:=xs) (i:=j) (by omega))
 rw[h]at e;cases e
 exact⟨_,List.getElem?_eq_getElem (by omega),q⟩
end
def TbAt(P:Addr)(q:Str)(H:Hp):Prop:=∃(qs:Array Value) (t:Tok),H P=some (.tbl qs)∧qs[0]? = some (Value.str q t)
theorem TbAt.now{P:Addr}{q:Str}{fs ex:List Addr}{H H':Hp}{h h':Heap}(t:TbAt P q H)(u:Un fs ex H H' h h'):TbAt P q H':=by
 obtain⟨qs,t,e,e2⟩:=t
 obtain⟨more,e3⟩:=u.tbls _ _ e
 refine⟨_,t,e3,?_⟩
 have h0:0<qs.size:=by
  by_cases z:0<qs.size
  ·exact z
  ·rw[Array.getElem?_eq_none (by omega)]at e2;cases e2
 rw[Array.getElem?_append_left h0];exact e2
def a1A:List V→Hp→VK→Prop:=fun xs H Q=>∃j:Int,xs=[.int j]∧∀r,H r=none→Q (.ref r) (upd H r (.rng 0 j))
section
variable {X:Cx}
theorem a2y:E6 X (.type "range") a1A:=by
 intro pins s σ H xs us Q I r h
 obtain⟨j,rfl,q⟩:=h
 obtain⟨u,rfl,ru⟩:=r.one
 obtain⟨t,rfl⟩:=ru
 refine call_range_1 ?_
 have hg:(s.heap.push { cls:=.type "range",data:=.fields #[.int 0 s.toks,.int j t,.int 1 (s.toks+1)] }).get? s.heap.objs.size=some { cls:=.type "range",data:=.fields #[.int 0 s.toks,.int j t,.int 1 (s.toks+1)] }:=Heap.get?_push_size _ rfl
 exact⟨.ref _,_,I.laid (t':=s.toks+1+1) (o:=.rng 0 j) (fun b o e=>Heap.get?_push_of_some _ e) (Nat.le_refl _) ⟨_,_,_,hg⟩,rfl,q _ I.fresh⟩
theorem a2z:∀{n:Nat} {acc:Array Value},ItemsOf (fun i v=>∃t,v=.int (0+(i:Int)*1) t) acc n→Vals ((List.range n).map fun(i:Nat)=>V.int (i:Int)) acc.toList:=by
 intro n acc ⟨hs,hv⟩
 have key:∀(l:List Value) (k:Nat),(∀j v,l[j]? = some v→∃t,v=Value.int ((k+j:Nat):Int) t)→Vals ((List.range' k l.length).map fun(i:Nat)=>V.int (i:Int)) l:=by
  intro l
  induction l with
  | nil=>intro k _;exact .nil
  | cons u l ih =>
   intro k h
   rw[List.length_cons,List.range'_succ,List.map_cons]
   refine .cons ?_ (ih (k+1) fun j v e=>?_)
   ·obtain⟨t,rfl⟩:=h 0 u rfl
    exact⟨t,rfl⟩
   ·obtain⟨t,rfl⟩:=h (j+1) v (by simpa using e)
    exact⟨t,by rw[show k+(j+1)=k+1+j by omega]⟩
 have hl:acc.toList.length=n:=by simpa using hs
 have:=key acc.toList 0 fun j v e=>by
  obtain⟨t,rfl⟩:=hv j v (by simpa using e)
  exact⟨t,by congr 1;omega⟩
 rw[hl,← List.range_eq_range']at this
 exact this
theorem a2A:bootBuiltins "sorted" = some (.builtin "sorted"):=by decide +kernel
theorem a2B:bootBuiltins "range" = some (.type "range"):=by decide +kernel
end
def v9(TB:List (Addr×Str))(H:Hp):Hp:=fun b=>match TB.lookup b with
 | some q=>some (.tbl #[.str q 0])
 | none=>H b
def TbAll(TB:List (Addr×Str))(H:Hp):Prop:=∀P q,TB.lookup P=some q→TbAt P q H
theorem TbAll.now{TB:List (Addr×Str)}{fs ex:List Addr}{H H':Hp}{h h':Heap}(t:TbAll TB H)(u:Un fs ex H H' h h'):TbAll TB H':=fun P q e=>(t P q e).now u
theorem a6x(TB:List (Addr×Str))(H:Hp):TbAll TB (v9 TB H):=fun P q e=>⟨#[.str q 0],0,by unfold v9;rw[e],rfl⟩
theorem a3W{P:Program}{w:World}{K:W.Frag}{mg mb:Str→Option Value}{CX:N5}{k:Nat}{fa a:Addr}{fd:FuncData}{x:Str}{sp:Sp}{s₁:Shared}{vs:List Value}{ns:List Int}{TB:List (Addr×Str)}
  (KX:K.In s₁.heap) (hns:s₁.heap.Ns mainGlobals mg) (hb:s₁.heap.Ns builtinsNs mb) (hbb:∀x:Str,x≠"__name__"→mb x=bootBuiltins x) (hlim:s₁.heap.NoLimit) (hg:s₁.gens = #[])
  (ha:s₁.heap.get? a=some { cls:=.type "list",data:=.seq vs.toArray }) (hi:IntsAre vs ns) (hl:ns.length≤sizeLine) (hr:Room k callerA)
  (hT:∀Pa q,TB.lookup Pa=some q→(∃c,s₁.heap.TableAt c Pa #[])∧K.lookup Pa=none)
  (F:∀base:Heap,K.In base→base.Ns mainGlobals mg→(∀b o,s₁.heap.get? b=some o→TB.lookup b=none→b≠a→base.get? b=some o)→FnOk P w K mg base CX k fa fd [x] sp) (hbind:∀(s:Shared) (u:Value),BindsTo s fd ⟨[u],[]⟩ [(x,u)])
  (hsp:∀H:Hp,TbAll TB H→Scr K H a (ns.map V.int)→sp [.ref a] H (fun v _=>v=.bl true) fun _ _ _=>False)
  (hCX:∀H e s',CX [] H s₁ (fun _ _ _=>False) e s'→False) :
  codeAny (model P w) callerA (.call (.ref fa) ⟨[.ref a],[]⟩) (fun r s'=>r=.ok (.ret (.bool true))∧OldK s₁.heap s'.heap∧s'.os=s₁.os∧AllBare s'.gens) s₁:=by
 have rv:=a1f hi
 have lenV:=hi.length
 have tabA:∀{Pa q},TB.lookup Pa=some q→s₁.heap.get? Pa=some (tabObj #[]):=fun{Pa q} e=>by
  obtain⟨⟨c,_,e2⟩,_⟩:=hT Pa q e
  exact e2
 have neA:TB.lookup a=none:=by
  cases e:TB.lookup a with
  | none=>rfl
  | some q=>have:=tabA e;rw[ha]at this;cases this
 have core:∀H0:Hp,Scr K (v9 TB H0) a (ns.map V.int)→HOk P w (v9 TB H0) s₁.heap→(∀b,H0 b=none∨∃o xs,H0 b=some (.frz o (.lst xs)))→(∀b,H0 b≠none→b=a)→(H0 a≠none→K.lookup a=none) →
   codeAny (model P w) callerA (.call (.ref fa) ⟨[.ref a],[]⟩) (fun r s'=>r=.ok (.ret (.bool true))∧OldK s₁.heap s'.heap∧s'.os=s₁.os∧AllBare s'.gens) s₁:=by
  intro H0 hS hok hO hA hK
  have cs:∀b,(∃q,TB.lookup b=some q∧v9 TB H0 b=some (.tbl #[.str q 0]))∨(TB.lookup b=none∧v9 TB H0 b=H0 b):=fun b=>by
   unfold v9
   cases e:TB.lookup b with
   | none=>exact .inr ⟨rfl,rfl⟩
   | some q=>exact .inl ⟨q,rfl,rfl⟩
  have base_of:∀{b:Addr} {o:Obj},s₁.heap.get? b=some o→v9 TB H0 b=none→(O7 s₁.heap (v9 TB H0)).get? b=some o:=fun e n=>a4I e n
  have noA:∀{b:Addr} {o:Obj} {es:Array DictEntry} {ep:Nat},s₁.heap.get? b=some o→o.data=.dict es ep→v9 TB H0 b=none:=fun{b o es ep} e d=>by
   rcases cs b with⟨q,e1,_⟩ | ⟨e1,e2⟩
   ·have:=tabA e1;rw[e]at this;cases this;cases d
   ·rw[e2]
    cases q:H0 b with
    | none=>rfl
    | some u =>
     have e':b=a:=hA b (by rw[q];simp)
     subst e'
     rw[ha]at e;cases e
     cases d
  have nsK:∀{b:Addr} {m:Str→Option Value},s₁.heap.Ns b m→(O7 s₁.heap (v9 TB H0)).Ns b m:=fun{b m} ⟨o,es,ep,e,d,r⟩=>⟨o,es,ep,base_of e (noA e d),d,r⟩
  have hKb:K.In (O7 s₁.heap (v9 TB H0)):=fun b o e=>base_of (KX b o e) (by
   rcases cs b with⟨q,e1,_⟩ | ⟨e1,e2⟩
   ·rw[(hT b q e1).2]at e;cases e
   ·rw[e2]
    cases q:H0 b with
    | none=>rfl
    | some u =>
     have e':b=a:=hA b (by rw[q];simp)
     subst e'
     rw[hK (by rw[q];simp)]at e;cases e)
  have hM:Mod K mg (O7 s₁.heap (v9 TB H0)):=⟨hKb,nsK hns,⟨mb,nsK hb,hbb⟩,let ⟨mc,h1,h2⟩:=hlim; ⟨mc,nsK h1,h2⟩⟩
  have e0:Env0 P w K mg (O7 s₁.heap (v9 TB H0)) callerA [] s₁ (v9 TB H0):=⟨rfl,hM,fun b o e=>a6h e,Nat.le_of_eq (a3B _ _),trivial,fun b hb=>absurd (show b∈([]:List Addr)from hb) (by simp),hok,.of_eq hg⟩
  have bk:∀b o,s₁.heap.get? b=some o→TB.lookup b=none→b≠a→(O7 s₁.heap (v9 TB H0)).get? b=some o:=fun b o e n na=>base_of e (by
   rcases cs b with⟨q,e1,_⟩ | ⟨e1,e2⟩
   ·rw[n]at e1;cases e1
   ·rw[e2]
    cases q:H0 b with
    | none=>rfl
    | some u=>exact absurd (hA b (by rw[q];simp)) na)
  refine codeAny_mono ((F _ hKb (nsK hns) bk).run callerA [] s₁ (v9 TB H0) ⟨[.ref a],[]⟩ [.ref a] [.ref a] _ _ hr e0 (hbind s₁ (.ref a)) (.cons rfl .nil) (hsp _ (a6x TB H0) hS)) fun r s' h=>?_
  cases r with
  | error e=>exact(hCX _ e s' h).elim
  | ok fl =>
   cases fl with
   | next=>exact False.elim h
   | brk=>exact False.elim h
   | cont=>exact False.elim h
   | ret u =>
    obtain⟨v,H',os,bare,un,hok',r',q⟩:=h
    have q':v=.bl true:=q
    subst q'
    obtain rfl:u=Value.bool true:=r'
    refine⟨rfl,?_,os,bare⟩
    have kpt:∀b o,s₁.heap.get? b=some o→TB.lookup b=none→s'.heap.get? b=some o:=fun b o e n=>by
     rcases cs b with⟨q,e1,_⟩ | ⟨_,e2⟩
     ·rw[n]at e1;cases e1
     ·cases q:H0 b with
      | none=>exact un.keep b o e (by rw[e2,q]) (by intro z;exact absurd (show b∈([]:List Addr)from z) (by simp)) (by simp)
      | some u =>
       rcases hO b with z | ⟨ob,xs,z⟩
       ·rw[q]at z;cases z
       ·rw[← e2]at z
        have z2:=un.frzs b ob _ z
        obtain⟨e1,_⟩:=hok b _ z
        obtain⟨e2,_⟩:=hok' b _ z2
        rw[e]at e1;cases e1
        exact e2
    have tbt:∀b q,TB.lookup b=some q→∃ps,s'.heap.get? b=some (tabObj ps):=fun b q e=>by
     rcases cs b with⟨q',e1,e2⟩ | ⟨e1,_⟩
     ·obtain⟨more,e3⟩:=un.tbls b _ e2
      obtain⟨ps,e4,_⟩:=hok' b _ e3
      exact⟨ps,e4⟩
     ·rw[e]at e1;cases e1
    refine⟨fun b o e=>?_,fun b o e=>?_⟩
    ·cases n:TB.lookup b with
     | none=>exact .inl (kpt b o e n)
     | some q =>
      obtain⟨ps,e4⟩:=tbt b q n
      have e5:=tabA n
      rw[e]at e5;cases e5
      obtain⟨⟨c,ht⟩,_⟩:=hT b q n
      exact .inr (.inl ⟨ht.isCodeTable,rfl,#[],ps,rfl,by rw[e4];simp⟩)
    ·cases n:TB.lookup b with
     | none=>exact⟨o,kpt b o e n⟩
     | some q=>obtain⟨ps,e4⟩:=tbt b q n;exact⟨_,e4⟩
 have tabOk:∀H0 b u,TB.lookup b≠none→v9 TB H0 b=some u→ObjOk P w (v9 TB H0) s₁.heap b u:=fun H0 b u n e=>by
  cases q:TB.lookup b with
  | none=>exact absurd q n
  | some q' =>
   have e':v9 TB H0 b=some (.tbl #[.str q' 0]):=by unfold v9;rw[q]
   rw[e']at e;cases e
   exact⟨#[],tabA q,trivial,fun pos cv z=>by cases z⟩
 cases hk:K.lookup a with
 | some o =>
  have e:=KX a o hk
  rw[ha]at e
  cases e
  refine core (fun _=>none) (.inr ⟨_,vs.toArray,_,hk,rfl,rfl,rfl,by rw[List.size_toArray,lenV];exact hl,by simpa using rv⟩) (fun b u z=>?_) (fun _=>.inl rfl) (fun b z=>absurd rfl z) fun z=>absurd rfl z
  cases n:TB.lookup b with
  | none =>
   have z':v9 TB (fun _=>none) b=none:=by unfold v9;rw[n]
   rw[z']at z;cases z
  | some q=>exact tabOk _ b u (by rw[n];simp) z
 | none =>
  refine core (fun b=>if b=a then some (.frz { cls:=.type "list",data:=.seq vs.toArray } (.lst (ns.map V.int)))else none) (.inl ⟨{ cls:=.type "list",data:=.seq vs.toArray },by unfold v9;rw[neA];exact if_pos rfl⟩) (fun b u z=>?_) (fun b=>?_) (fun b z=>?_) fun _=>hk
  ·cases n:TB.lookup b with
   | some q=>exact tabOk _ b u (by rw[n];simp) z
   | none =>
    have z':v9 TB (fun b=>if b=a then some (.frz { cls:=.type "list",data:=.seq vs.toArray } (.lst (ns.map V.int)))else none) b=(if b=a then some (.frz { cls:=.type "list",data:=.seq vs.toArray } (.lst (ns.map V.int)))else none):=by unfold v9;rw[n]
    rw[z']at z
    by_cases hb:b=a
    ·rw[if_pos hb]at z
     cases z
     subst hb
     exact⟨ha,by rw[List.length_map];exact hl,vs,_,rv,ha⟩
    ·rw[if_neg hb]at z;cases z
  ·by_cases hb:b=a
   ·exact .inr ⟨_,_,if_pos hb⟩
   ·exact .inl (if_neg hb)
  ·by_cases hb:b=a
   ·exact hb
   ·exact absurd (if_neg hb) z
def G9(TB:List (Addr×Str))(sp:Sp):Sp:=fun vs H Q E=>TbAll TB H∧sp vs H Q E
theorem walk_ofT{l:OpenLaw}{n k:Nat}{q:Program}{loose:List Str}{XP:(Str→Option Value)→Heap→Prop}{YP:World→Heap→Prop}{d:DefRec}{K:Params→Frag}{CX:World→N5}{sp:World→Sp}{x:Str}
  (hn:l.most=some n) (hn2:n≤sizeLine) (hdf:d.params.defaults=[]) (hr:Room k callerA)
  (hY:∀(w:World) (h:Heap),YP w h→(K w.params).In h)
  (F:∀(w:World) (mg mb:Str→Option Value) (fa:Addr) (h:Heap) (mean:ExcName→Option Value),(K w.params).In h→h.Ns mainGlobals mg→mg d.name=some (.ref fa)→Top q (looseW q loose) mean mg mb h →
   ∃(fd:FuncData) (TB:List (Addr×Str)),(∀(s:Shared) (u:Value),BindsTo s fd ⟨[u],[]⟩ [(x,u)])∧(∀Pa qq,TB.lookup Pa=some qq→(∃c,h.TableAt c Pa #[])∧(K w.params).lookup Pa=none) ∧
    ∀base:Heap,(K w.params).In base→base.Ns mainGlobals mg→(∀b o,h.get? b=some o→o.cls≠.none→o.cls≠.type "list"→base.get? b=some o)→FnOk l.prog w (K w.params) mg base (CX w) k fa fd [x] (G9 TB (sp w)))
  (hsp:∀(w:World) (H:Hp) (a:Addr) (ns:List Int),ns.length≤n→(∀m∈ns,Builtin.Int.intBits m≤2 ^ 20)→Scr (K w.params) H a (ns.map V.int)→sp w [.ref a] H (fun v _=>v=.bl true) fun _ _ _=>False)
  (hCX:∀(w:World) (H:Hp) (s:Shared) (e:Value) (s':Shared),CX w [] H s (fun _ _ _=>False) e s'→False) :
  WalkO q loose XP YP l.row.toRowW d [] (fun f vs=>PySem.call f vs):=by
 intro w s₀ s₁ mg mb G Y fa o pm cd doc dV kV ho hd hcd hD hmg hg args vals as hpre hlay hrd hwl hlo
 obtain rfl:dV=.none:=Dflts.none hD hdf
 obtain rfl:kV=.none:=Dflts.noKw hD
 obtain⟨a,vs,ns,rfl,rfl,hobj,hints,hlen⟩:=Att.script_of hn hpre hwl
 have KX:=hY w _ Y
 obtain⟨fd,TB,hb,hT,hF⟩:=F w mg mb fa _ _ KX G.T.g hmg G.T
 refine enter_call (codeAny_mono (a3W (TB:=TB) KX G.T.g G.T.b G.T.builtins G.T.nolimit hg hobj hints (Nat.le_trans hlen hn2) hr hT (fun base k1 k2 k3=>hF base k1 k2 fun b o e c1 c2=>k3 b o e (by
  cases z:TB.lookup b with
  | none=>rfl
  | some q' =>
   obtain⟨⟨c,_,e2⟩,_⟩:=hT b q' z
   rw[e]at e2;cases e2;exact absurd rfl c1) (fun z=>by rw[z,hobj]at e;cases e;exact absurd rfl c2)) hb (fun H hO hS=>⟨hO,hsp w H a ns hlen (a2v hlay) hS⟩) fun H e s'=>hCX w H s₁ e s') fun r s' hq=>?_)
 obtain⟨rfl,h2,h3,h4⟩:=hq
 exact⟨.inl ⟨.bool true,.bool true,[],rfl,fun _=>rfl,.bool true,Att.post_true l _,fun _=>⟨List.Pairwise.nil,fun _ hm=>(nomatch hm)⟩⟩,h2,h3,h4⟩
theorem a3X{q:Program}{loose:List Str}{mean:ExcName→Option Value}{mg mb:Str→Option Value}{h:Heap}{K:Frag}{x:Str}{f c:Addr}{oc oc':Value}{od od':Option Addr}{fd:FuncData}{osl osl':Array (Option Value)}{vs:Array Value}{P:Addr}(T:Top q loose mean mg mb h)(KX:K.In h)(hrec:(recsOf q).any (fun d=>d.name == x)=true)(hm:mg x=some (.ref f))(lk:K.lookup f=some ⟨oc,od,.func fd,osl⟩)(hc:fd.code=.ref c)(lc:K.lookup c=some ⟨oc',od',.fields vs,osl'⟩)(hP:vs.getD 11 .none=.ref P) :
  h.TableAt c P #[]∧∀base:Heap,(∀b o,h.get? b=some o→o.cls≠.none→o.cls≠.type "list"→base.get? b=some o)→CodeHd base c P∧base.BuiltinsAt mg P:=by
 obtain⟨d,hd,e⟩:=List.any_eq_true.mp hrec
 have e:d.name=x:=by simpa using e
 subst e
 obtain⟨a,o,fd',c',P',h1,h2,h3,h4,h5,h6⟩:=T.tab d hd
 rw[hm]at h1;cases h1
 rw[KX _ _ lk]at h2;cases h2
 have h3:Data.func fd=Data.func fd':=h3
 cases h3
 rw[hc]at h4;cases h4
 have C:=CodeHd.of h5 h6
 obtain⟨o,vs',file,tf,flags,tg,inF,text,tt,c1,c2,c3,c4,c5,cr⟩:=C
 have hPP:P'=P:=by
  rw[KX _ _ lc]at c1;cases c1
  have c3:Data.fields vs=Data.fields vs':=c3
  cases c3
  rw[hP]at c5;cases c5;rfl
 subst hPP
 refine⟨h6,fun base kp=>⟨⟨o,vs',file,tf,flags,tg,inF,text,tt,kp _ _ c1 (by rw[c2];decide) (by rw[c2];decide),c2,c3,c4,c5,cr⟩,?_⟩⟩
 obtain⟨bm,ob,b1,b2,b3,b4,b5,b6⟩:=T.bmain
 refine⟨bm,ob,b1,b2,fun z=>?_,fun z=>?_,kp _ _ b3 (by rw[b4];decide) (by rw[b4];decide),b4,b5,b6⟩
 ·obtain⟨o',es,ep,e,hd,_⟩:=T.g
  rw[z,e]at b3;cases b3;rw[hd]at b6;cases b6
 ·rw[z,h6.2]at b3;cases b3;cases b4
end L2
namespace HT
open PySem PyProof.Rows
end HT
namespace L2
open PySem PySem.Spec PyProof.Rows
open PySem.W
def Rise(a:Array Nat):Prop:=a.toList.Pairwise (· < ·)
theorem Rise.lt{a:Array Nat}(h:Rise a){i j:Nat}(hij:i<j)(hj:j<a.size):a.getD i 0<a.getD j 0:=by
 have hi:i<a.size:=Nat.lt_trans hij hj
 have:=List.pairwise_iff_getElem.mp h i j (by simpa using hi) (by simpa using hj) hij
 simpa [Array.getD,hi,hj]using this
structure TbR(led:Bool)(t:SetTable):Prop where
 rise:Rise t.place
 dum:t.dummies = #[]
 led:t.led=led
def a8c(e:Int×Value):Int:=match e.2 with
 | .int k _=>k
 | _=>0
def IsI(e:Int×Value):Prop:=∃k t,e=(hashInt k,Value.int k t)
structure SetR(w:World)(h:Heap)(a:Addr)(L:List Int):Prop where
 ex:∃o es ep t,h.get? a=some o∧o.ExactSet∧o.data=.set es ep t∧(∀e∈es.toList,IsI e)∧(es.toList.map a8c).Nodup∧(∀k,k∈es.toList.map a8c↔k∈L)∧es.size<scanBound∧t.fits es.size=true∧TbR (!w.params.followText "set-order") t
section
variable {prog:Program}{w:World}{A:Around}{E:Value→Shared→Prop}{s:Shared}
theorem SetR.frame{h h':Heap}{a:Addr}{L:List Int}(S:SetR w h a L)(e:∀o,h.get? a=some o→h'.get? a=some o):SetR w h' a L:=by
 obtain⟨o,es,ep,t,ho,r⟩:=S.ex
 exact⟨o,es,ep,t,e o ho,r⟩
end
end L2
namespace HT
open PySem PyProof.Rows
inductive IB:List Value→List Value→List Int→List Int→Prop
 | nil:IB [] [] [] []
 | int (a:Int) (t:Tok) (c:Int) (u:Tok) {vs ws:List Value} {ns ms:List Int} (h:IB vs ws ns ms):IB (.int a t::vs) (.int c u::ws) (a::ns) (c::ms)
 | bl (p q:Bool) {vs ws:List Value} {ns ms:List Int} (h:IB vs ws ns ms):IB (.bool p::vs) (.bool q::ws) (b2i p::ns) (b2i q::ms)
theorem IB.len{vs ws:List Value}{ns ms:List Int}(h:IB vs ws ns ms):vs.length=ws.length:=by
 induction h with
 | nil=>rfl
 | int _ _ _ _ _ ih=>simp[ih]
 | bl _ _ _ ih=>simp[ih]
end HT
namespace L2
open PySem PySem.Spec PyProof.Rows
open PySem.W
section
variable {n:Nat}{lt:Nat→Nat→Bool}
def Prx(n:Nat)(p:Array Nat)(m:Nat):Prop:=(∀i,i<m→ga p i<m)∧∀i,m≤i→i<n→ga p i=i
theorem Prx.up{p:Array Nat}{m k:Nat}(h:Prx n p m)(hk:m≤k)(hn:k≤n):Prx n p k:=by
 refine⟨fun i hi=>?_,fun i h1 h2=>h.2 i (by omega) h2⟩
 by_cases z:i<m
 ·have:=h.1 i z;omega
 ·rw[h.2 i (by omega) (by omega)];exact hi
structure DR(n:Nat)(lt:Nat→Nat→Bool)(p:Array Nat)(k:Nat):Prop where
 pre:Prx n p k
 d1:∀i j,i<j→j<k→lt (ga p i) (ga p j)=false
 d2:∀i j,i<j→j<k→lt (ga p j) (ga p i)=false→ga p j<ga p i
structure DG(n:Nat)(lt:Nat→Nat→Bool)(p:Array Nat)(k q:Nat):Prop where
 pre:Prx n p (k-(q+1))
 d1:∀i j,i<j→j<k→lt (ga p i) (ga p j)=false
 d2:∀i j,i<j→j<k-(q+1)→lt (ga p j) (ga p i)=false→ga p j<ga p i
 d3:∀i,i<k-(q+1)→lt (ga p (k-1)) (ga p i)=true
 d4:∀i,k-(q+1)≤i→i<k→lt (ga p (k-1)) (ga p i)=false
theorem DR.snoc{p:Array Nat}{k:Nat}(T:TPre lt)(d:DR n lt p k)(h:∀i,i<k→lt (ga p k) (ga p i)=true)(hk:k<n):DG n lt p (k+1) 0:=by
 have e:k+1-(0+1)=k:=by omega
 refine⟨by rw[e];exact d.pre,fun i j hij hj=>?_,fun i j hij hj=>by rw[e]at hj;exact d.d2 i j hij hj,fun i hi=>by rw[e]at hi;rw[Nat.add_sub_cancel];exact h i hi,fun i h1 h2=>?_⟩
 ·by_cases z:j<k
  ·exact d.d1 i j hij z
  ·have e:j=k:=by omega
   subst e
   exact T.asy _ _ (h i hij)
 ·have e:i=k:=by omega
  subst e
  rw[Nat.add_sub_cancel];exact T.irr _
theorem DG.alike{p:Array Nat}{k q:Nat}(T:TPre lt)(d:DG n lt p k q)(hq:q+1≤k){i j:Nat}(h1:k-(q+1)≤i)(h2:i<k)(h3:k-(q+1)≤j)(h4:j<k):lt (ga p i) (ga p j)=false:=by
 have a:lt (ga p i) (ga p (k-1))=false:=by
  by_cases z:i=k-1
  ·rw[z];exact T.irr _
  ·exact d.d1 i (k-1) (by omega) (by omega)
 exact T.tr _ _ _ (d.d4 j h3 h4) a
theorem DG.rev{p:Array Nat}{k q:Nat}(T:TPre lt)(hp:Pmn n p)(d:DG n lt p k q)(hq:q+1≤k)(hk:k≤n):DR n lt (kas_rev p (k-(q+1)) k) k:=by
 have hps:=hp.size
 have gr:=a8b (p:=p) (i:=k-(q+1)) (j:=k) (by omega)
 have pi:∀i,k-(q+1)≤i→i<n→ga p i=i:=d.pre.2
 refine⟨⟨fun i hi=>?_,fun i h1 h2=>?_⟩,fun i j hij hj=>?_,fun i j hij hj=>?_⟩
 ·rw[gr]
  split
  ·rw[pi _ (by omega) (by omega)];omega
  ·have:=d.pre.1 i (by omega);omega
 ·rw[gr,if_neg (by omega)];exact pi i (by omega) h2
 ·rw[gr,gr]
  by_cases zj:k-(q+1)≤j
  ·rw[if_pos (show k-(q+1)≤j∧j<k by omega)]
   by_cases zi:k-(q+1)≤i
   ·rw[if_pos (by omega)]
    exact d.alike T hq (by omega) (by omega) (by omega) (by omega)
   ·rw[if_neg (by omega)]
    exact d.d1 _ _ (by omega) (by omega)
  ·rw[if_neg (show ¬(k-(q+1)≤j∧j<k) by omega),if_neg (by omega)]
   exact d.d1 _ _ hij hj
 ·rw[gr,gr]
  by_cases zj:k-(q+1)≤j
  ·rw[if_pos (show k-(q+1)≤j∧j<k by omega)]
   by_cases zi:k-(q+1)≤i
   ·rw[if_pos (by omega)]
    intro _
    rw[pi _ (by omega) (by omega),pi _ (by omega) (by omega)]
    omega
   ·rw[if_neg (by omega)]
    intro z
    have a:=d.alike T hq (i:=k-1) (j:=k-(q+1)+k-1-j) (by omega) (by omega) (by omega) (by omega)
    have b:=T.tr _ _ _ z a
    rw[d.d3 i (by omega)]at b
    cases b
  ·rw[if_neg (show ¬(k-(q+1)≤j∧j<k) by omega),if_neg (by omega)]
   exact d.d2 _ _ hij (by omega)
theorem DG.one{p:Array Nat}{k:Nat}(T:TPre lt)(d:DG n lt p k 0)(hk1:1≤k)(hk:k≤n):DR n lt p k:=by
 refine⟨d.pre.up (by omega) hk,d.d1,fun i j hij hj z=>?_⟩
 by_cases e:j=k-1
 ·subst e
  rw[d.d3 i (by omega)]at z
  cases z
 ·exact d.d2 i j hij (by omega) z
end
theorem SqL.ext{K:W.Frag}{H1 H2:Hp}{a:Addr}{xs:List V}(h:SqL K H1 a xs)(ex:∀a o,H1 a=some o→H2 a=some o):SqL K H2 a xs:=by
 rcases h with(h | ⟨o,h⟩) | h
 ·exact .inl (.inl (ex _ _ h))
 ·exact .inl (.inr ⟨o,ex _ _ h⟩)
 ·exact .inr h
def t8:Bool→Keyed→Array Keyed→Nat→Nat→Nat→StateT SortSt Sem (Option Nat):=sortPriv% PySem.Builtin.gallop
abbrev K1(left:Bool)(key:Keyed)(arr:Array Keyed)(base i:Nat):StateT SortSt Sem (Option Bool):=do
 let x ← elem' arr (base+i)
 if left then lt' x key else return (← lt' key x).map (!·)
theorem a3f(left:Bool)(key:Keyed)(arr:Array Keyed)(base n hint:Nat):t8 left key arr base n hint=(do
 let mut lastofs:=0
 let mut ofs:=1
 let mut lo:=0
 let mut hi:=0
 let some right ← K1 left key arr base hint | return none
 if right then
  let maxofs:=n-hint
  for _ in [0:n]do
   if ofs≥maxofs then break
   let some more ← K1 left key arr base (hint+ofs) | return none
   if !more then break
   lastofs:=ofs
   ofs:=2*ofs+1
  lo:=hint+lastofs+1
  hi:=hint+min ofs maxofs
 else
  let maxofs:=hint+1
  for _ in [0:n]do
   if ofs≥maxofs then break
   let some found ← K1 left key arr base (hint-ofs) | return none
   if found then break
   lastofs:=ofs
   ofs:=2*ofs+1
  lo:=hint+1-min ofs maxofs
  hi:=hint-lastofs
 for _ in [0:n]do
  if lo≥hi then break
  let m:=lo+(hi-lo)/2
  let some more ← K1 left key arr base m | return none
  if more then lo:=m+1 else hi:=m
 return some hi):=rfl
structure TPK(lt:Keyed→Keyed→Bool)(Dm:Keyed→Prop):Prop where
 irr:∀x,Dm x→lt x x=false
 tr:∀x y z,Dm x→Dm y→Dm z→lt y x=false→lt z y=false→lt z x=false
 asy:∀x y,Dm x→Dm y→lt x y=true→lt y x=false
section
variable {prog:Program}{w:World}{A:Around}{E:Value→Shared→Prop}{s:Shared}{κ:SortKind}{lt:Keyed→Keyed→Bool}{Dm:Keyed→Prop}
def r6(prog:Program)(w:World)(A:Around)(s:Shared)(κ:SortKind)(lt:Keyed→Keyed→Bool)(Dm:Keyed→Prop):Prop:=∀x y,Dm x→Dm y→∀Q:Bool→Shared→Prop,Q (lt x y) s→wpAny (model prog w) A (keyLt' κ x.1 y.1) Q (fun _ _=>False) s
theorem U7{x y:Keyed}{st:SortSt}{Q:Option Bool→SortSt→Prop}(C:r6 prog w A s κ lt Dm)(hk:kindOf st=κ)(hx:Dm x)(hy:Dm y)(h:Q (some (lt x y)) st):wpS (model prog w) A E s (lt' x y) Q st:=by
 rw[lt'_eq]
 refine wpS_bind (wpS_get ?_)
 rw[hk]
 refine wpS_bind (wpS_lift (wpAny_attempt (wpAny_mono (C x y hx hy (fun b s'=>s'=s∧b=lt x y) ⟨rfl,rfl⟩) (fun b s' hb=>?_) fun _ _ z=>z.elim)))
 obtain⟨rfl,rfl⟩:=hb
 exact⟨rfl,wpS_pure h⟩
theorem j9{arr:Array Keyed}{i:Nat}{x:Keyed}{st:SortSt}{Q:Keyed→SortSt→Prop}(hx:arr[i]? = some x)(h:Q x st):wpS (model prog w) A E s (elem' arr i) Q st:=by
 rw[elem'_eq,hx]
 exact wpS_pure h
def bey(lt:Keyed→Keyed→Bool)(left:Bool)(key x:Keyed):Bool:=if left=true then lt x key else !lt key x
theorem a6y{left:Bool}{key x:Keyed}{arr:Array Keyed}{base i:Nat}{st:SortSt}{Q:Option Bool→SortSt→Prop}(C:r6 prog w A s κ lt Dm)(hk:kindOf st=κ)(hkey:Dm key)(hx:arr[base+i]? = some x)(dx:Dm x)(h:Q (some (bey lt left key x)) st):wpS (model prog w) A E s (K1 left key arr base i) Q st:=by
 refine wpS_bind (j9 hx ?_)
 cases left with
 | true=>exact U7 C hk dx hkey h
 | false=>exact wpS_bind (U7 C hk hkey dx (wpS_pure h))
theorem G6{β:Type}{n:Nat}{f:Nat→β→StateT SortSt Sem (ForInStep β)}(I:Nat→β→SortSt→Prop)(Q':β→SortSt→Prop){Q:β→SortSt→Prop}{c:β}{st:SortSt}
  (hstep:∀i c st,i<n→I i c st→wpS (model prog w) A E s (f i c) (fun r st'=>match r with | .done c'=>Q' c' st' | .yield c'=>I (i+1) c' st') st)
  (hend:∀c st,I n c st→Q' c st) (h:I 0 c st) (hq:∀c st',Q' c st'→Q c st'):wpS (model prog w) A E s (forIn [:n] c f) Q st :=
 wpS_mono (wpS_forRange I (Q:=Q') (fun i c st _ hi hI=>hstep i c st hi hI) (fun c st hI=>hend c st (by rw[show max 0 n=n by omega]at hI;exact hI)) h) hq
theorem a2Z{n lo hi:Nat}{st:SortSt}{B:Nat→StateT SortSt Sem (Option Bool)}{Q:Option (Option Nat)×Nat×Nat→SortSt→Prop}(b:Nat→Bool)(ask:∀i (Q':Option Bool→SortSt→Prop),i<n→Q' (some (b i)) st→wpS (model prog w) A E s (B i) Q' st)
  (mono:∀i j,i≤j→j<n→b j=true→b i=true) (h1:lo≤hi) (h2:hi≤n) (h3:∀i,i<lo→b i=true) (h4:∀i,hi≤i→i<n→b i=false) (h:∀k,k≤n→(∀i,i<k→b i=true)→(∀i,k≤i→i<n→b i=false)→∀l,Q (none,l,k) st) :
  wpS (model prog w) A E s (forIn [:n] ((none,lo,hi):Option (Option Nat)×Nat×Nat) fun x __s =>
        if __s.snd.fst≥__s.snd.snd then pure (ForInStep.done (none,__s.snd.fst,__s.snd.snd))
        else do
         let __x ← B (__s.snd.fst+(__s.snd.snd-__s.snd.fst)/2)
         match __x with
          | some more =>
           if more=true then
            pure (ForInStep.yield (none,__s.snd.fst+(__s.snd.snd-__s.snd.fst)/2+1,__s.snd.snd))
           else pure (ForInStep.yield (none,__s.snd.fst,__s.snd.fst+(__s.snd.snd-__s.snd.fst)/2))
          | x=>pure (ForInStep.done (some none,__s.snd.fst,__s.snd.snd))) Q st:=by
 refine wpS_forRange (fun i c st'=>c.1=none∧st'=st∧c.2.1≤c.2.2∧c.2.2≤n∧(∀i,i<c.2.1→b i=true)∧(∀i,c.2.2≤i→i<n→b i=false)∧c.2.2-c.2.1≤n-i) ?_ ?_ ⟨rfl,rfl,h1,h2,h3,h4,by simp;omega⟩
 ·rintro i ⟨c0,lo,hi⟩ st' _ hi2 ⟨e0,rfl,a1,a2,a3,a4,a5⟩
  dsimp only at *
  by_cases z:lo≥hi
  ·rw[if_pos z]
   refine wpS_pure ?_
   have:lo=hi:=by omega
   subst this
   exact h lo a2 a3 a4 lo
  ·rw[if_neg z]
   refine wpS_bind (ask _ _ (by omega) ?_)
   dsimp only
   cases c:b (lo+(hi-lo)/2)with
   | true =>
    rw[if_pos rfl]
    exact wpS_pure ⟨rfl,rfl,by show lo+(hi-lo)/2+1≤hi;omega,a2,fun j hj=>mono j _ (by have:j<lo+(hi-lo)/2+1:=hj;omega) (by omega) c,a4,by show hi-(lo+(hi-lo)/2+1)≤n-(i+1);omega⟩
   | false =>
    rw[if_neg (by simp)]
    refine wpS_pure ⟨rfl,rfl,by show lo≤lo+(hi-lo)/2;omega,by show lo+(hi-lo)/2≤n;omega,a3,fun j hj hn=>?_,by show lo+(hi-lo)/2-lo≤n-(i+1);omega⟩
    have hj:lo+(hi-lo)/2≤j:=hj
    cases d:b j with
    | false=>rfl
    | true=>rw[mono _ j hj hn d]at c;cases c
 ·rintro⟨c0,lo,hi⟩ st' ⟨e0,rfl,a1,a2,a3,a4,a5⟩
  dsimp only at *
  subst e0
  have:lo=hi:=by
   have:max 0 n=n:=by omega
   omega
  subst this
  exact h lo a2 a3 a4 lo
theorem B7{left:Bool}{key:Keyed}{arr:Array Keyed}{base n hint:Nat}{st:SortSt}{Q:Option Nat→SortSt→Prop}(C:r6 prog w A s κ lt Dm)(hk:kindOf st=κ)(hkey:Dm key)(hh:hint<n)(b:Nat→Bool)(hb:∀i,i<n→∃x,arr[base+i]? = some x∧Dm x∧bey lt left key x=b i)(mono:∀i j,i≤j→j<n→b j=true→b i=true)
  (h:∀k,k≤n→(∀i,i<k→b i=true)→(∀i,k≤i→i<n→b i=false)→Q (some k) st):wpS (model prog w) A E s (t8 left key arr base n hint) Q st:=by
 have ask:∀i (Q':Option Bool→SortSt→Prop),i<n→Q' (some (b i)) st→wpS (model prog w) A E s (K1 left key arr base i) Q' st:=fun i Q' hi hq=>by
  obtain⟨x,hx,dx,e⟩:=hb i hi
  exact a6y C hk hkey hx dx (by rw[e];exact hq)
 rw[a3f]
 refine wpS_bind (ask hint _ hh ?_)
 dsimp only
 have neg:∀i j,i≤j→j<n→b i=false→b j=false:=fun i j h1 h2 h3=>by
  cases d:b j with
  | false=>rfl
  | true=>rw[mono i j h1 h2 d]at h3;cases h3
 cases c:b hint with
 | true =>
  rw[if_pos rfl]
  refine wpS_bind (G6 (fun(i:Nat) (c:Option (Option Nat)×Nat×Nat) st'=>c.1=none∧st'=st∧c.2.1<c.2.2∧i+1≤c.2.2∧hint+c.2.1<n∧b (hint+c.2.1)=true) (fun(c:Option (Option Nat)×Nat×Nat) st'=>c.1=none∧st'=st∧c.2.1<c.2.2∧hint+c.2.1<n∧b (hint+c.2.1)=true∧(hint+c.2.2<n→b (hint+c.2.2)=false)) ?_ ?_ ⟨rfl,rfl,by show 0<1;omega,by show 0+1≤1;omega,by show hint+0<n;omega,c⟩ ?_)
  ·rintro i ⟨c0,l,o⟩ st' hi2 ⟨e0,rfl,a1,a2,a3,a4⟩
   dsimp only at *
   by_cases z:o≥n-hint
   ·rw[if_pos z]
    exact wpS_pure ⟨rfl,rfl,a1,a3,a4,fun y=>absurd y (by show ¬hint+o<n;omega)⟩
   ·rw[if_neg z]
    refine wpS_bind (ask _ _ (by omega) ?_)
    dsimp only
    cases d:b (hint+o)with
    | true =>
     rw[if_neg (by simp)]
     exact wpS_pure ⟨rfl,rfl,by show o<2*o+1;omega,by show i+1+1≤2*o+1;omega,by show hint+o<n;omega,d⟩
    | false =>
     rw[if_pos (by simp)]
     exact wpS_pure ⟨rfl,rfl,a1,a3,a4,fun _=>d⟩
  ·rintro⟨c0,l,o⟩ st' ⟨e0,rfl,a1,a2,a3,a4⟩
   dsimp only at *
   refine⟨e0,rfl,a1,a3,a4,fun y=>absurd y ?_⟩
   omega
  ·rintro⟨c0,l,o⟩ st' ⟨e0,rfl,a1,a3,a4,a5⟩
   dsimp only at *
   subst e0
   dsimp only
   refine wpS_bind (a2Z b ask mono (by omega) (by omega) (fun j hj=>mono j (hint+l) (by omega) a3 a4) (fun j hj hn=>neg (hint+o) j (by omega) hn (a5 (by omega))) fun k k1 k2 k3 l=>wpS_pure (h k k1 k2 k3))
 | false =>
  rw[if_neg (by simp)]
  refine wpS_bind (G6 (fun(i:Nat) (c:Option (Option Nat)×Nat×Nat) st'=>c.1=none∧st'=st∧c.2.1<c.2.2∧i+1≤c.2.2∧c.2.1≤hint∧b (hint-c.2.1)=false) (fun(c:Option (Option Nat)×Nat×Nat) st'=>c.1=none∧st'=st∧c.2.1<c.2.2∧c.2.1≤hint∧b (hint-c.2.1)=false∧(c.2.2≤hint→b (hint-c.2.2)=true)) ?_ ?_ ⟨rfl,rfl,by show 0<1;omega,by show 0+1≤1;omega,by show 0≤hint;omega,c⟩ ?_)
  ·rintro i ⟨c0,l,o⟩ st' hi2 ⟨e0,rfl,a1,a2,a3,a4⟩
   dsimp only at *
   by_cases z:o≥hint+1
   ·rw[if_pos z]
    exact wpS_pure ⟨rfl,rfl,a1,a3,a4,fun y=>absurd y (by show ¬o≤hint;omega)⟩
   ·rw[if_neg z]
    refine wpS_bind (ask _ _ (by omega) ?_)
    dsimp only
    cases d:b (hint-o)with
    | true =>
     rw[if_pos rfl]
     exact wpS_pure ⟨rfl,rfl,a1,a3,a4,fun _=>d⟩
    | false =>
     rw[if_neg (by simp)]
     exact wpS_pure ⟨rfl,rfl,by show o<2*o+1;omega,by show i+1+1≤2*o+1;omega,by show o≤hint;omega,d⟩
  ·rintro⟨c0,l,o⟩ st' ⟨e0,rfl,a1,a2,a3,a4⟩
   dsimp only at *
   refine⟨e0,rfl,a1,a3,a4,fun y=>absurd y ?_⟩
   omega
  ·rintro⟨c0,l,o⟩ st' ⟨e0,rfl,a1,a3,a4,a5⟩
   dsimp only at *
   subst e0
   dsimp only
   refine wpS_bind (a2Z b ask mono (by omega) (by omega) (fun j hj=>?_) (fun j hj hn=>neg (hint-l) j hj hn a4) fun k k1 k2 k3 l=>wpS_pure (h k k1 k2 k3))
   by_cases y:o≤hint
   ·exact mono j (hint-o) (by omega) (by omega) (a5 y)
   ·omega
end
def t9:Nat→StateT SortSt Sem Unit:=sortPriv% PySem.Builtin.setMinGallop
theorem Y1(g:Nat):t9 g=modify fun s=>SortSt.mk' (kindOf s) (arrOf s) (pendingOf s) g (failedOf s):=rfl
def Y2:Array Keyed→Array Keyed→StateT SortSt Sem (Array Keyed):=sortPriv% PySem.Builtin.mergeLo
abbrev x4(a b out:Array Keyed)(ia ib:Nat):Array Keyed:=out++a.extract ia a.size++b.extract ib b.size
abbrev R5(a b out:Array Keyed)(ia ib:Nat):Array Keyed:=out++b.extract ib b.size++a.extract ia a.size
theorem a2C(a b:Array Keyed):Y2 a b=(do
 rule "list.sort.merge-lo"
 let total:=a.size+b.size
 let mut out:Array Keyed := #[← elem' b 0]
 let mut ia:=0
 let mut ib:=1
 if ib == b.size then return x4 a b out ia ib
 if ia+1 == a.size then return R5 a b out ia ib
 let mut minGallop:=gallopOf (← get)
 for _ in [0:total]do
  let mut acount:=0
  let mut bcount:=0
  for _ in [0:total]do
   let some bWins ← lt' (← elem' b ib) (← elem' a ia) | return x4 a b out ia ib
   if bWins then
    out:=out.push (← elem' b ib);ib:=ib+1;bcount:=bcount+1;acount:=0
    if ib == b.size then return x4 a b out ia ib
    if bcount≥minGallop then break
   else
    out:=out.push (← elem' a ia);ia:=ia+1;acount:=acount+1;bcount:=0
    if ia+1 == a.size then return R5 a b out ia ib
    if acount≥minGallop then break
  rule "list.sort.gallop"
  minGallop:=minGallop+1
  for _ in [0:total]do
   if minGallop > 1 then minGallop:=minGallop-1
   t9 minGallop
   let some k ← t8 false (← elem' b ib) a ia (a.size-ia) 0 | return x4 a b out ia ib
   acount:=k
   if k > 0 then
    out:=out++a.extract ia (ia+k);ia:=ia+k
    if ia+1 == a.size then return R5 a b out ia ib
    if ia == a.size then return x4 a b out ia ib
   out:=out.push (← elem' b ib);ib:=ib+1
   if ib == b.size then return x4 a b out ia ib
   let some k ← t8 true (← elem' a ia) b ib (b.size-ib) 0 | return x4 a b out ia ib
   bcount:=k
   if k > 0 then
    out:=out++b.extract ib (ib+k);ib:=ib+k
    if ib == b.size then return x4 a b out ia ib
   out:=out.push (← elem' a ia);ia:=ia+1
   if ia+1 == a.size then return R5 a b out ia ib
   if acount<7 && bcount<7 then break
  minGallop:=minGallop+1
  t9 minGallop
 unsupported "internal:list.sort.merge-bound"):=rfl
def Srt(lt:Keyed→Keyed→Bool)(l:List Keyed):Prop:=l.Pairwise fun x y=>lt y x=false
structure ML(lt:Keyed→Keyed→Bool)(aL bL o ra rb:List Keyed):Prop where
 ex:∃pa pb,aL=pa++ra∧bL=pb++rb∧o.Perm (pa++pb)
 so:Srt lt o
 oa:∀x∈o,∀y∈ra,lt y x=false
 ob:∀x∈o,∀y∈rb,lt y x=false
def j7(lt:Keyed→Keyed→Bool)(aL bL r:List Keyed):Prop:=r.Perm (aL++bL)∧Srt lt r
section
variable {lt:Keyed→Keyed→Bool}{aL bL o ra rb u:List Keyed}{x y:Keyed}
theorem Srt.app{l m:List Keyed}(h1:Srt lt l)(h2:Srt lt m)(h3:∀x∈l,∀y∈m,lt y x=false):Srt lt (l++m):=List.pairwise_append.mpr ⟨h1,h2,h3⟩
theorem Srt.drop{l:List Keyed}(h:Srt lt l)(n:Nat):Srt lt (l.drop n):=List.Pairwise.sublist (List.drop_sublist n l) h
theorem ML.addB(m:ML lt aL bL o ra (y::rb))(hs:Srt lt (y::rb))(h:∀x∈ra,lt x y=false):ML lt aL bL (o++[y]) ra rb:=by
 obtain⟨pa,pb,e1,e2,p⟩:=m.ex
 have hy:=List.pairwise_cons.mp hs
 refine⟨⟨pa,pb++[y],e1,by rw[e2];simp,?_⟩,m.so.app (List.pairwise_singleton _ _) (fun x hx z hz=>?_),fun x hx z hz=>?_,fun x hx z hz=>?_⟩
 ·rw[← List.append_assoc];exact p.append_right [y]
 ·rw[List.mem_singleton.mp hz];exact m.ob x hx y List.mem_cons_self
 ·rcases List.mem_append.mp hx with hx | hx
  ·exact m.oa x hx z hz
  ·rw[List.mem_singleton.mp hx];exact h z hz
 ·rcases List.mem_append.mp hx with hx | hx
  ·exact m.ob x hx z (List.mem_cons_of_mem _ hz)
  ·rw[List.mem_singleton.mp hx];exact hy.1 z hz
theorem ML.addA(m:ML lt aL bL o (x::ra) rb)(hs:Srt lt (x::ra))(h:∀y∈rb,lt y x=false):ML lt aL bL (o++[x]) ra rb:=by
 obtain⟨pa,pb,e1,e2,p⟩:=m.ex
 have hx':=List.pairwise_cons.mp hs
 refine⟨⟨pa++[x],pb,by rw[e1];simp,e2,?_⟩,m.so.app (List.pairwise_singleton _ _) (fun w hw z hz=>?_),fun w hw z hz=>?_,fun w hw z hz=>?_⟩
 ·refine(p.append_right [x]).trans ?_
  rw[List.append_assoc,List.append_assoc]
  exact List.Perm.append_left pa List.perm_append_comm
 ·rw[List.mem_singleton.mp hz];exact m.oa w hw x List.mem_cons_self
 ·rcases List.mem_append.mp hw with hw | hw
  ·exact m.oa w hw z (List.mem_cons_of_mem _ hz)
  ·rw[List.mem_singleton.mp hw];exact hx'.1 z hz
 ·rcases List.mem_append.mp hw with hw | hw
  ·exact m.ob w hw z hz
  ·rw[List.mem_singleton.mp hw];exact h z hz
theorem ML.addAs:∀{u o:List Keyed},ML lt aL bL o (u++ra) rb→Srt lt (u++ra)→(∀x∈u,∀y∈rb,lt y x=false)→ML lt aL bL (o++u) ra rb
 | [],o,m,_,_=>by rw[List.append_nil];exact m
 | x::u,o,m,hs,h=>by
  have:=ML.addAs (u:=u) (ML.addA m hs (h x List.mem_cons_self)) (List.pairwise_cons.mp hs).2 fun z hz=>h z (List.mem_cons_of_mem _ hz)
  rw[List.append_assoc]at this
  exact this
theorem ML.addBs:∀{u o:List Keyed},ML lt aL bL o ra (u++rb)→Srt lt (u++rb)→(∀y∈u,∀x∈ra,lt x y=false)→ML lt aL bL (o++u) ra rb
 | [],o,m,_,_=>by rw[List.append_nil];exact m
 | x::u,o,m,hs,h=>by
  have:=ML.addBs (u:=u) (ML.addB m hs (h x List.mem_cons_self)) (List.pairwise_cons.mp hs).2 fun z hz=>h z (List.mem_cons_of_mem _ hz)
  rw[List.append_assoc]at this
  exact this
theorem ML.finA(m:ML lt aL bL o ra [])(hs:Srt lt ra):j7 lt aL bL (o++ra):=by
 obtain⟨pa,pb,e1,e2,p⟩:=m.ex
 refine⟨?_,m.so.app hs m.oa⟩
 rw[e1,e2,List.append_nil]
 refine(p.append_right ra).trans ?_
 rw[List.append_assoc,List.append_assoc]
 exact List.Perm.append_left pa List.perm_append_comm
theorem ML.finB(m:ML lt aL bL o [] rb)(hs:Srt lt rb):j7 lt aL bL (o++rb):=by
 obtain⟨pa,pb,e1,e2,p⟩:=m.ex
 refine⟨?_,m.so.app hs m.ob⟩
 rw[e1,e2,List.append_nil,← List.append_assoc]
 exact p.append_right rb
theorem ML.finL(m:ML lt aL bL o [x] rb)(hs:Srt lt rb)(h:∀y∈rb,lt x y=false):j7 lt aL bL (o++rb++[x]):=by
 obtain⟨pa,pb,e1,e2,p⟩:=m.ex
 refine⟨?_,(m.so.app hs m.ob).app (List.pairwise_singleton _ _) fun w hw z hz=>?_⟩
 ·rw[e1,e2]
  refine((p.append_right rb).append_right [x]).trans ?_
  simp only[List.append_assoc]
  refine List.Perm.append_left pa ?_
  rw[← List.append_assoc]
  exact List.perm_append_comm
 ·rw[List.mem_singleton.mp hz]
  rcases List.mem_append.mp hw with hw | hw
  ·exact m.oa w hw x List.mem_cons_self
  ·exact h w hw
end
theorem D9(a:Array Keyed)(i:Nat):(a.extract i a.size).toList=a.toList.drop i:=by
 rw[Array.toList_extract,List.extract_eq_take_drop,List.take_of_length_le (by rw[List.length_drop,Array.length_toList];exact Nat.le_refl _)]
theorem a20(a:Array Keyed)(i k:Nat):(a.extract i (i+k)).toList=(a.toList.drop i).take k:=by
 rw[Array.toList_extract,List.extract_eq_take_drop]
 congr 1
 omega
def SameG(st st':SortSt):Prop:=kindOf st'=kindOf st∧arrOf st'=arrOf st∧pendingOf st'=pendingOf st∧failedOf st'=failedOf st
theorem SameG.refl(st:SortSt):SameG st st:=⟨rfl,rfl,rfl,rfl⟩
theorem SameG.trans{a b c:SortSt}(h:SameG a b)(g:SameG b c):SameG a c:=⟨g.1.trans h.1,g.2.1.trans h.2.1,g.2.2.1.trans h.2.2.1,g.2.2.2.trans h.2.2.2⟩
structure MI(lt:Keyed→Keyed→Bool)(a b out:Array Keyed)(ia ib:Nat):Prop where
 la:ia+1<a.size
 lb:ib<b.size
 ml:ML lt a.toList b.toList out.toList (a.toList.drop ia) (b.toList.drop ib)
structure MP(lt:Keyed→Keyed→Bool)(Dm:Keyed→Prop)(a b:Array Keyed):Prop where
 T:TPK lt Dm
 da:∀x∈a.toList,Dm x
 db:∀x∈b.toList,Dm x
 sa:Srt lt a.toList
 sb:Srt lt b.toList
 la:∀y∈b.toList,∀x,a.toList[a.size-1]? = some x→lt x y=false
section
variable {lt:Keyed→Keyed→Bool}{Dm:Keyed→Prop}{a b out:Array Keyed}{ia ib:Nat}{x y:Keyed}
theorem P7{l:List Keyed}{i:Nat}(h:l[i]? = some x):l.drop i=x::l.drop (i+1):=by
 obtain⟨hi,e⟩:=List.getElem?_eq_some_iff.mp h
 rw[List.drop_eq_getElem_cons hi,e]
theorem m9{a:Array Keyed}{i:Nat}(h:i<a.size):∃x,a[i]? = some x∧a.toList[i]? = some x∧x∈a.toList:=by
 refine⟨a[i],by simp[h],?_,Array.getElem_mem_toList h⟩
 rw[List.getElem?_eq_getElem (by simpa using h)]
 simp
theorem t5{l:List Keyed}{i:Nat}{z:Keyed}(h:z∈l.drop i):∃j,i≤j∧l[j]? = some z:=by
 obtain⟨j,hj⟩:=List.mem_iff_getElem?.mp h
 rw[List.getElem?_drop]at hj
 exact⟨i+j,by omega,hj⟩
theorem l6{l:List Keyed}(T:TPK lt Dm)(hD:∀x∈l,Dm x)(hs:Srt lt l){i j:Nat}(hij:i≤j)(hx:l[i]? = some x)(hy:l[j]? = some y):lt y x=false:=by
 obtain⟨hi,e1⟩:=List.getElem?_eq_some_iff.mp hx
 obtain⟨hj,e2⟩:=List.getElem?_eq_some_iff.mp hy
 by_cases z:i=j
 ·subst z
  rw[hx]at hy;cases hy
  exact T.irr _ (hD _ (List.mem_of_getElem? hx))
 ·rw[← e1,← e2]
  exact List.pairwise_iff_getElem.mp hs i j hi hj (by omega)
theorem MI.good_last{ia ib:Nat}(P:MP lt Dm a b)(m:ML lt a.toList b.toList out.toList (a.toList.drop ia) (b.toList.drop ib))(h:ia+1=a.size):j7 lt a.toList b.toList (R5 a b out ia ib).toList:=by
 obtain⟨x,_,hx,_⟩:=m9 (a:=a) (i:=ia) (by omega)
 have e1:a.toList.drop ia=[x]:=by
  rw[P7 hx,List.drop_eq_nil_of_le (by rw[Array.length_toList];omega)]
 show j7 _ _ _ (out++b.extract ib b.size++a.extract ia a.size).toList
 rw[Array.toList_append,Array.toList_append,D9,D9,e1]
 rw[e1]at m
 refine m.finL (P.sb.drop ib) fun y hy=>P.la y (List.mem_of_mem_drop hy) x ?_
 rw[show a.size-1=ia by omega]
 exact hx
theorem MI.good_doneB{ia ib:Nat}(P:MP lt Dm a b)(m:ML lt a.toList b.toList out.toList (a.toList.drop ia) (b.toList.drop ib))(h:ib=b.size):j7 lt a.toList b.toList (x4 a b out ia ib).toList:=by
 have e1:b.toList.drop ib=[]:=List.drop_eq_nil_of_le (by rw[Array.length_toList];omega)
 show j7 _ _ _ (out++a.extract ia a.size++b.extract ib b.size).toList
 rw[Array.toList_append,Array.toList_append,D9,D9,e1,List.append_nil]
 rw[e1]at m
 exact m.finA (P.sa.drop ia)
theorem MI.good_doneA{ia ib:Nat}(P:MP lt Dm a b)(m:ML lt a.toList b.toList out.toList (a.toList.drop ia) (b.toList.drop ib))(h:ia=a.size):j7 lt a.toList b.toList (x4 a b out ia ib).toList:=by
 have e1:a.toList.drop ia=[]:=List.drop_eq_nil_of_le (by rw[Array.length_toList];omega)
 show j7 _ _ _ (out++a.extract ia a.size++b.extract ib b.size).toList
 rw[Array.toList_append,Array.toList_append,D9,D9,e1,List.append_nil]
 rw[e1]at m
 exact m.finB (P.sb.drop ib)
theorem a42(P:MP lt Dm a b)(m:ML lt a.toList b.toList out.toList (a.toList.drop ia) (b.toList.drop ib))(hy:b.toList[ib]? = some y)(h:∀x,a.toList[ia]? = some x→lt x y=false):ML lt a.toList b.toList (out.push y).toList (a.toList.drop ia) (b.toList.drop (ib+1)):=by
 rw[P7 hy]at m
 rw[Array.toList_push]
 refine m.addB (by rw[← P7 hy];exact P.sb.drop ib) fun z hz=>?_
 obtain⟨j,hj,e⟩:=t5 hz
 obtain⟨hjl,_⟩:=List.getElem?_eq_some_iff.mp e
 have ei:a.toList[ia]? = some a.toList[ia]:=List.getElem?_eq_getElem (by omega)
 exact P.T.tr _ _ _ (P.db y (List.mem_of_getElem? hy)) (P.da _ (List.mem_of_getElem? ei)) (P.da z (List.mem_of_getElem? e)) (h _ ei) (l6 P.T P.da P.sa hj ei e)
theorem a8d(P:MP lt Dm a b)(m:ML lt a.toList b.toList out.toList (a.toList.drop ia) (b.toList.drop ib))(hx:a.toList[ia]? = some x)(h:∀y,b.toList[ib]? = some y→lt y x=false):ML lt a.toList b.toList (out.push x).toList (a.toList.drop (ia+1)) (b.toList.drop ib):=by
 rw[P7 hx]at m
 rw[Array.toList_push]
 refine m.addA (by rw[← P7 hx];exact P.sa.drop ia) fun z hz=>?_
 obtain⟨j,hj,e⟩:=t5 hz
 obtain⟨hjl,_⟩:=List.getElem?_eq_some_iff.mp e
 have ei:b.toList[ib]? = some b.toList[ib]:=List.getElem?_eq_getElem (by omega)
 exact P.T.tr _ _ _ (P.da x (List.mem_of_getElem? hx)) (P.db _ (List.mem_of_getElem? ei)) (P.db z (List.mem_of_getElem? e)) (h _ ei) (l6 P.T P.db P.sb hj ei e)
theorem R6{l:List Keyed}{i k:Nat}{z:Keyed}(h:z∈(l.drop i).take k):∃j,j<k∧l[i+j]? = some z:=by
 obtain⟨j,hj⟩:=List.mem_iff_getElem?.mp h
 by_cases hk:j<k
 ·rw[List.getElem?_take_of_lt hk,List.getElem?_drop]at hj
  exact⟨j,hk,hj⟩
 ·rw[List.getElem?_eq_none (by rw[List.length_take];omega)]at hj
  cases hj
theorem a9l(P:MP lt Dm a b)(m:ML lt a.toList b.toList out.toList (a.toList.drop ia) (b.toList.drop ib))(hy:b.toList[ib]? = some y)(k:Nat)(h:∀j x,j<k→a.toList[ia+j]? = some x→lt y x=false):ML lt a.toList b.toList (out++a.extract ia (ia+k)).toList (a.toList.drop (ia+k)) (b.toList.drop ib):=by
 have e0:a.toList.drop ia=(a.toList.drop ia).take k++a.toList.drop (ia+k):=by
  rw[show a.toList.drop (ia+k)=(a.toList.drop ia).drop k by rw[List.drop_drop],List.take_append_drop]
 rw[Array.toList_append,a20]
 refine ML.addAs (by rw[← e0];exact m) (by rw[← e0];exact P.sa.drop ia) fun z hz v hv=>?_
 obtain⟨j,hj,e⟩:=R6 hz
 obtain⟨i,hi,e2⟩:=t5 hv
 exact P.T.tr _ _ _ (P.da z (List.mem_of_getElem? e)) (P.db y (List.mem_of_getElem? hy)) (P.db v (List.mem_of_getElem? e2)) (h j z hj e) (l6 P.T P.db P.sb hi hy e2)
theorem a9m(P:MP lt Dm a b)(m:ML lt a.toList b.toList out.toList (a.toList.drop ia) (b.toList.drop ib))(hx:a.toList[ia]? = some x)(k:Nat)(h:∀j y,j<k→b.toList[ib+j]? = some y→lt x y=false):ML lt a.toList b.toList (out++b.extract ib (ib+k)).toList (a.toList.drop ia) (b.toList.drop (ib+k)):=by
 have e0:b.toList.drop ib=(b.toList.drop ib).take k++b.toList.drop (ib+k):=by
  rw[show b.toList.drop (ib+k)=(b.toList.drop ib).drop k by rw[List.drop_drop],List.take_append_drop]
 rw[Array.toList_append,a20]
 refine ML.addBs (by rw[← e0];exact m) (by rw[← e0];exact P.sb.drop ib) fun z hz v hv=>?_
 obtain⟨j,hj,e⟩:=R6 hz
 obtain⟨i,hi,e2⟩:=t5 hv
 exact P.T.tr _ _ _ (P.db z (List.mem_of_getElem? e)) (P.da x (List.mem_of_getElem? hx)) (P.da v (List.mem_of_getElem? e2)) (h j z hj e) (l6 P.T P.da P.sa hi hx e2)
end
abbrev GS:=Option (Array Keyed)×Array Keyed×Nat×Nat×Nat×Nat×Nat
abbrev loC(a b out:Array Keyed)(ia ib mg ac bc:Nat):StateT SortSt Sem (ForInStep GS):=do
 let x ← elem' a ia
 if(ia+1+1 == a.size)=true then pure (.done (some (R5 a b (out.push x) (ia+1) ib),out.push x,ia+1,ib,mg,ac,bc))
 else if(decide (ac<7) && decide (bc<7))=true then pure (.done (none,out.push x,ia+1,ib,mg,ac,bc))
 else pure (.yield (none,out.push x,ia+1,ib,mg,ac,bc))
abbrev loB(a b out:Array Keyed)(ia ib mg ac bc:Nat):StateT SortSt Sem (ForInStep GS):=do
 let y ← elem' b ib
 if(ib+1 == b.size)=true then pure (.done (some (x4 a b (out.push y) ia (ib+1)),out.push y,ia,ib+1,mg,ac,bc))
 else do
  let x ← elem' a ia
  let r ← t8 true x b (ib+1) (b.size-(ib+1)) 0
  match r with
  | some k =>
   if k > 0 then
    (if(ib+1+k == b.size)=true then pure (.done (some (x4 a b (out.push y++b.extract (ib+1) (ib+1+k)) ia (ib+1+k)),out.push y++b.extract (ib+1) (ib+1+k),ia,ib+1+k,mg,ac,k))
    else loC a b (out.push y++b.extract (ib+1) (ib+1+k)) ia (ib+1+k) mg ac k)
   else loC a b (out.push y) ia (ib+1) mg ac k
  | _=>pure (.done (some (x4 a b (out.push y) ia (ib+1)),out.push y,ia,ib+1,mg,ac,bc))
abbrev loA(a b out:Array Keyed)(ia ib mg ac bc:Nat):StateT SortSt Sem (ForInStep GS):=do
 let y ← elem' b ib
 let r ← t8 false y a ia (a.size-ia) 0
 match r with
 | some k =>
  if k > 0 then
   (if(ia+k+1 == a.size)=true then pure (.done (some (R5 a b (out++a.extract ia (ia+k)) (ia+k) ib),out++a.extract ia (ia+k),ia+k,ib,mg,k,bc))
   else if(ia+k == a.size)=true then pure (.done (some (x4 a b (out++a.extract ia (ia+k)) (ia+k) ib),out++a.extract ia (ia+k),ia+k,ib,mg,k,bc))
   else loB a b (out++a.extract ia (ia+k)) (ia+k) ib mg k bc)
  else loB a b out ia ib mg k bc
 | _=>pure (.done (some (x4 a b out ia ib),out,ia,ib,mg,ac,bc))
section
variable {prog:Program}{w:World}{A:Around}{E:Value→Shared→Prop}{s:Shared}{κ:SortKind}{lt:Keyed→Keyed→Bool}{Dm:Keyed→Prop}{a b out:Array Keyed}{ia ib mg ac bc p0:Nat}{st0 st:SortSt}
def PQ(lt:Keyed→Keyed→Bool)(a b:Array Keyed)(p0:Nat)(st0:SortSt):ForInStep GS→SortSt→Prop
 | .done c,st'=>SameG st0 st'∧((∃r,c.1=some r∧j7 lt a.toList b.toList r.toList)∨(c.1=none∧MI lt a b c.2.1 c.2.2.1 c.2.2.2.1∧p0≤c.2.2.1+c.2.2.2.1))
 | .yield c,st'=>SameG st0 st'∧c.1=none∧MI lt a b c.2.1 c.2.2.1 c.2.2.2.1∧p0≤c.2.2.1+c.2.2.2.1
theorem a8g(P:MP lt Dm a b)(hg:SameG st0 st)(m:MI lt a b out ia ib)(hp:p0≤ia+ib)(hle:∀x y,a.toList[ia]? = some x→b.toList[ib]? = some y→lt y x=false):wpS (model prog w) A E s (loC a b out ia ib mg ac bc) (PQ lt a b p0 st0) st:=by
 obtain⟨x,hx,hxl,_⟩:=m9 (a:=a) (i:=ia) (by have:=m.la;omega)
 have ml:=a8d P m.ml hxl (fun y hy=>hle x y hxl hy)
 refine wpS_bind (j9 hx ?_)
 by_cases z:(ia+1+1 == a.size)=true
 ·rw[if_pos z]
  exact wpS_pure ⟨hg,.inl ⟨_,rfl,MI.good_last P ml (by simpa using z)⟩⟩
 ·rw[if_neg z]
  have z':ia+1+1≠a.size:=by simpa using z
  have m':MI lt a b (out.push x) (ia+1) ib:=⟨by have:=m.la;omega,m.lb,ml⟩
  split
  ·exact wpS_pure ⟨hg,.inr ⟨rfl,m',by show p0≤ia+1+ib;omega⟩⟩
  ·exact wpS_pure ⟨hg,rfl,m',by show p0≤ia+1+ib;omega⟩
theorem a8h(C:r6 prog w A s κ lt Dm)(P:MP lt Dm a b)(hk:kindOf st=κ)(hg:SameG st0 st)(m:MI lt a b out ia ib)(hp:p0≤ia+ib)(hle:∀x y,a.toList[ia]? = some x→b.toList[ib]? = some y→lt x y=false):wpS (model prog w) A E s (loB a b out ia ib mg ac bc) (PQ lt a b p0 st0) st:=by
 obtain⟨y,hy,hyl,_⟩:=m9 (a:=b) (i:=ib) m.lb
 obtain⟨x,hx,hxl,mx⟩:=m9 (a:=a) (i:=ia) (by have:=m.la;omega)
 have ml:=a42 P m.ml hyl (fun x hx=>hle x y hx hyl)
 have dx:=P.da x mx
 refine wpS_bind (j9 hy ?_)
 by_cases z:(ib+1 == b.size)=true
 ·rw[if_pos z]
  exact wpS_pure ⟨hg,.inl ⟨_,rfl,MI.good_doneB P ml (by simpa using z)⟩⟩
 ·rw[if_neg z]
  have z':ib+1≠b.size:=by simpa using z
  have hlb:ib+1<b.size:=by have:=m.lb;omega
  refine wpS_bind (j9 hx (wpS_bind ?_))
  have at_:∀i,i<b.size-(ib+1)→∃v,b[ib+1+i]? = some v∧b.toList[ib+1+i]? = some v∧v∈b.toList:=fun i hi=>m9 (by omega)
  refine B7 C hk dx (by omega) (fun i=>lt ((b.toList[ib+1+i]?).getD x) x) (fun i hi=>?_) (fun i j hij hj hb=>?_) fun k hk1 hk2 hk3=>?_
  ·obtain⟨v,h1,h2,h3⟩:=at_ i hi
   exact⟨v,h1,P.db v h3,by rw[h2];rfl⟩
  ·obtain⟨v,h1,h2,h3⟩:=at_ i (by omega)
   obtain⟨u,u1,u2,u3⟩:=at_ j hj
   rw[u2]at hb
   rw[h2]
   show lt v x=true
   cases q:lt v x with
   | true=>rfl
   | false =>
    have:=P.T.tr x v u dx (P.db v h3) (P.db u u3) q (l6 P.T P.db P.sb (by omega) h2 u2)
    have hb:lt u x=true:=hb
    rw[this]at hb;cases hb
  ·dsimp only
   have low:∀j v,j<k→b.toList[ib+1+j]? = some v→lt x v=false:=fun j v hj hv=>by
    have:=hk2 j hj
    rw[hv]at this
    exact P.T.asy _ _ (P.db v (List.mem_of_getElem? hv)) dx this
   have high:∀v,b.toList[ib+1+k]? = some v→lt v x=false:=fun v hv=>by
    obtain⟨hl,_⟩:=List.getElem?_eq_some_iff.mp hv
    rw[Array.length_toList]at hl
    have:=hk3 k (Nat.le_refl _) (by omega)
    rw[hv]at this
    exact this
   by_cases k0:k > 0
   ·rw[if_pos k0]
    have ml2:=a9m P ml hxl k low
    by_cases y1:(ib+1+k == b.size)=true
    ·rw[if_pos y1]
     exact wpS_pure ⟨hg,.inl ⟨_,rfl,MI.good_doneB P ml2 (by simpa using y1)⟩⟩
    ·rw[if_neg y1]
     have y1':ib+1+k≠b.size:=by simpa using y1
     exact a8g P hg ⟨m.la,by omega,ml2⟩ (by omega) fun x' y' e1 e2=>by
      rw[hxl]at e1;cases e1
      exact high y' e2
   ·rw[if_neg k0]
    have e0:k=0:=by omega
    subst e0
    exact a8g P hg ⟨m.la,hlb,ml⟩ (by omega) fun x' y' e1 e2=>by
     rw[hxl]at e1;cases e1
     exact high y' e2
theorem a8i(C:r6 prog w A s κ lt Dm)(P:MP lt Dm a b)(hk:kindOf st=κ)(hg:SameG st0 st)(m:MI lt a b out ia ib)(hp:p0≤ia+ib):wpS (model prog w) A E s (loA a b out ia ib mg ac bc) (PQ lt a b p0 st0) st:=by
 obtain⟨y,hy,hyl,my⟩:=m9 (a:=b) (i:=ib) m.lb
 have dy:=P.db y my
 have hla:=m.la
 refine wpS_bind (j9 hy (wpS_bind ?_))
 have at_:∀i,i<a.size-ia→∃v,a[ia+i]? = some v∧a.toList[ia+i]? = some v∧v∈a.toList:=fun i hi=>m9 (by omega)
 refine B7 C hk dy (by omega) (fun i=>!lt y ((a.toList[ia+i]?).getD y)) (fun i hi=>?_) (fun i j hij hj hb=>?_) fun k hk1 hk2 hk3=>?_
 ·obtain⟨v,h1,h2,h3⟩:=at_ i hi
  exact⟨v,h1,P.da v h3,by rw[h2];rfl⟩
 ·obtain⟨v,h1,h2,h3⟩:=at_ i (by omega)
  obtain⟨u,u1,u2,u3⟩:=at_ j hj
  rw[u2]at hb
  rw[h2]
  have hb:(!lt y u)=true:=hb
  have hb':lt y u=false:=by simpa using hb
  show(!lt y v)=true
  rw[P.T.tr v u y (P.da v h3) (P.da u u3) dy (l6 P.T P.da P.sa (by omega) h2 u2) hb']
  rfl
 ·dsimp only
  have low:∀j v,j<k→a.toList[ia+j]? = some v→lt y v=false:=fun j v hj hv=>by
   have:=hk2 j hj
   rw[hv]at this
   have this:(!lt y v)=true:=this
   simpa using this
  have high:∀v,a.toList[ia+k]? = some v→lt v y=false:=fun v hv=>by
   obtain⟨hl,_⟩:=List.getElem?_eq_some_iff.mp hv
   rw[Array.length_toList]at hl
   have:=hk3 k (Nat.le_refl _) (by omega)
   rw[hv]at this
   have this:(!lt y v)=false:=this
   exact P.T.asy _ _ dy (P.da v (List.mem_of_getElem? hv)) (by simpa using this)
  by_cases k0:k > 0
  ·rw[if_pos k0]
   have ml2:=a9l P m.ml hyl k low
   by_cases y1:(ia+k+1 == a.size)=true
   ·rw[if_pos y1]
    exact wpS_pure ⟨hg,.inl ⟨_,rfl,MI.good_last P ml2 (by simpa using y1)⟩⟩
   ·rw[if_neg y1]
    have y1':ia+k+1≠a.size:=by simpa using y1
    by_cases y2:(ia+k == a.size)=true
    ·rw[if_pos y2]
     exact wpS_pure ⟨hg,.inl ⟨_,rfl,MI.good_doneA P ml2 (by simpa using y2)⟩⟩
    ·rw[if_neg y2]
     have y2':ia+k≠a.size:=by simpa using y2
     exact a8h C P hk hg ⟨by omega,m.lb,ml2⟩ (by omega) fun x' y' e1 e2=>by
      rw[hyl]at e2;cases e2
      exact high x' e1
  ·rw[if_neg k0]
   have e0:k=0:=by omega
   subst e0
   exact a8h C P hk hg m (by omega) fun x' y' e1 e2=>by
    rw[hyl]at e2;cases e2
    exact high x' e1
theorem smg{g:Nat}{Q:Unit→SortSt→Prop}(h:∀st',SameG st st'→Q () st'):wpS (model prog w) A E s (t9 g) Q st:=by
 rw[Y1]
 exact wpS_modify (h _ ⟨rfl,rfl,rfl,rfl⟩)
theorem a1Z{α:Type}{c:Prop} [Decidable c] {m1 m2:StateT SortSt Sem α} {Q:α→SortSt→Prop} (h1:c→wpS (model prog w) A E s m1 Q st) (h2:¬c→wpS (model prog w) A E s m2 Q st):wpS (model prog w) A E s (if c then m1 else m2) Q st:=by
 by_cases z:c
 ·rw[if_pos z];exact h1 z
 ·rw[if_neg z];exact h2 z
abbrev S1:=Option (Array Keyed)×Array Keyed×Nat×Nat×Nat×Nat
theorem a2D{Q:Array Keyed→SortSt→Prop}(C:r6 prog w A s κ lt Dm)(P:MP lt Dm a b)(hk:kindOf st=κ)(ha:1≤a.size)(hb:1≤b.size)(h0:∀x y,a.toList[0]? = some x→b.toList[0]? = some y→lt x y=false)
  (h:∀r st',SameG st st'→j7 lt a.toList b.toList r.toList→Q r st'):wpS (model prog w) A E s (Y2 a b) Q st:=by
 rw[a2C]
 refine wpS_bind (wpS_lift (wpAny_rule ⟨rfl,?_⟩))
 obtain⟨y,hy,hyl,my⟩:=m9 (a:=b) (i:=0) hb
 refine wpS_bind (j9 hy ?_)
 dsimp only
 have m0:ML lt a.toList b.toList [] (a.toList.drop 0) (b.toList.drop 0):=⟨⟨[],[],rfl,rfl,.refl _⟩,.nil,fun x hx=>absurd hx List.not_mem_nil,fun x hx=>absurd hx List.not_mem_nil⟩
 have m1:ML lt a.toList b.toList (#[y]:Array Keyed).toList (a.toList.drop 0) (b.toList.drop 1):=a42 (out := #[]) P m0 hyl fun x hx=>h0 x y hx hyl
 by_cases z:(1 == b.size)=true
 ·rw[if_pos z]
  exact wpS_pure (h _ _ (.refl _) (MI.good_doneB P m1 (by simpa using z)))
 rw[if_neg z]
 have z':1≠b.size:=by simpa using z
 by_cases z2:(0+1 == a.size)=true
 ·rw[if_pos z2]
  exact wpS_pure (h _ _ (.refl _) (MI.good_last P m1 (by simpa using z2)))
 rw[if_neg z2]
 have z2':0+1≠a.size:=by simpa using z2
 refine wpS_bind (wpS_get ?_)
 refine wpS_bind (G6 (fun(i:Nat) (c:Option (Array Keyed)×Array Keyed×Nat×Nat×Nat) st'=>c.1=none∧SameG st st'∧MI lt a b c.2.1 c.2.2.1 c.2.2.2.1∧i+1≤c.2.2.1+c.2.2.2.1)
  (fun(c:Option (Array Keyed)×Array Keyed×Nat×Nat×Nat) st'=>∃r,c.1=some r∧SameG st st'∧j7 lt a.toList b.toList r.toList) ?_ ?_ ⟨rfl,.refl _,⟨by show 0+1<a.size;omega,by show 1<b.size;omega,m1⟩,by show 0+1≤0+1;omega⟩ ?_)
 ·rintro i ⟨c0,out,ia,ib,mg⟩ st1 hi ⟨e0,hg,m,hp⟩
  dsimp only at *
  refine wpS_bind (G6 (fun(j:Nat) (c:S1) st'=>c.1=none∧SameG st st'∧MI lt a b c.2.1 c.2.2.1 c.2.2.2.1∧ia+ib+j≤c.2.2.1+c.2.2.2.1)
   (fun(c:S1) st'=>SameG st st'∧((∃r,c.1=some r∧j7 lt a.toList b.toList r.toList)∨(c.1=none∧MI lt a b c.2.1 c.2.2.1 c.2.2.2.1∧ia+ib+1≤c.2.2.1+c.2.2.2.1))) ?_ ?_ ⟨rfl,hg,m,Nat.le_refl _⟩ ?_)
  ·rintro j ⟨d0,out',ja,jb,ac,bc⟩ st2 hj ⟨f0,hg2,m2,hp2⟩
   dsimp only at *
   obtain⟨y2,hy2,hyl2,my2⟩:=m9 (a:=b) (i:=jb) m2.lb
   obtain⟨x2,hx2,hxl2,mx2⟩:=m9 (a:=a) (i:=ja) (by have:=m2.la;omega)
   refine wpS_bind (j9 hy2 (wpS_bind (j9 hx2 (wpS_bind (U7 C (hg2.1.trans hk) (P.db _ my2) (P.da _ mx2) ?_)))))
   dsimp only
   have hla:=m2.la
   have hlb:=m2.lb
   cases bw:lt y2 x2 with
   | true =>
    rw[if_pos rfl]
    have ml:=a42 P m2.ml hyl2 (fun x hx=>by rw[hxl2]at hx;cases hx;exact P.T.asy _ _ (P.db _ my2) (P.da _ mx2) bw)
    refine wpS_bind (j9 hy2 ?_)
    by_cases q:(jb+1 == b.size)=true
    ·rw[if_pos q]
     exact wpS_pure ⟨hg2,.inl ⟨_,rfl,MI.good_doneB P ml (by simpa using q)⟩⟩
    ·rw[if_neg q]
     have q':jb+1≠b.size:=by simpa using q
     have m3:MI lt a b (out'.push y2) ja (jb+1):=⟨hla,by omega,ml⟩
     split
     ·exact wpS_pure ⟨hg2,.inr ⟨rfl,m3,by show ia+ib+1≤ja+(jb+1);omega⟩⟩
     ·exact wpS_pure ⟨rfl,hg2,m3,by show ia+ib+(j+1)≤ja+(jb+1);omega⟩
   | false =>
    rw[if_neg (by simp)]
    have ml:=a8d P m2.ml hxl2 (fun y hy=>by rw[hyl2]at hy;cases hy;exact bw)
    refine wpS_bind (j9 hx2 ?_)
    by_cases q:(ja+1+1 == a.size)=true
    ·rw[if_pos q]
     exact wpS_pure ⟨hg2,.inl ⟨_,rfl,MI.good_last P ml (by simpa using q)⟩⟩
    ·rw[if_neg q]
     have q':ja+1+1≠a.size:=by simpa using q
     have m3:MI lt a b (out'.push x2) (ja+1) jb:=⟨by omega,hlb,ml⟩
     split
     ·exact wpS_pure ⟨hg2,.inr ⟨rfl,m3,by show ia+ib+1≤ja+1+jb;omega⟩⟩
     ·exact wpS_pure ⟨rfl,hg2,m3,by show ia+ib+(j+1)≤ja+1+jb;omega⟩
  ·rintro⟨d0,out',ja,jb,ac,bc⟩ st2 ⟨f0,hg2,m2,hp2⟩
   dsimp only at *
   exact⟨hg2,.inr ⟨f0,m2,by show ia+ib+1≤ja+jb;omega⟩⟩
  ·rintro⟨d0,out',ja,jb,ac,bc⟩ st2 ⟨hg2,⟨r,f0,gr⟩ | ⟨f0,m2,hp2⟩⟩
   ·dsimp only at *
    subst f0
    exact wpS_pure ⟨r,rfl,hg2,gr⟩
   ·dsimp only at *
    subst f0
    dsimp only
    refine wpS_bind (wpS_lift (wpAny_rule ⟨rfl,?_⟩))
    refine wpS_bind (G6 (fun(j:Nat) (c:GS) st'=>SameG st st'∧c.1=none∧MI lt a b c.2.1 c.2.2.1 c.2.2.2.1∧ja+jb≤c.2.2.1+c.2.2.2.1)
     (fun(c:GS) st'=>SameG st st'∧((∃r,c.1=some r∧j7 lt a.toList b.toList r.toList)∨(c.1=none∧MI lt a b c.2.1 c.2.2.1 c.2.2.2.1∧ja+jb≤c.2.2.1+c.2.2.2.1))) ?_ ?_ ⟨hg2,rfl,m2,Nat.le_refl _⟩ ?_)
    ·rintro j ⟨g0,out2,ka,kb,mg2,ac2,bc2⟩ st3 hj ⟨hg3,f0,m3,hp3⟩
     refine a1Z (fun _=>?_) (fun _=>?_)
     ·refine wpS_bind (smg fun st4 g4=>?_)
      exact wpS_mono (a8i (mg:=mg2-1) (ac:=ac2) (bc:=bc2) C P ((hg3.trans g4).1.trans hk) (hg3.trans g4) m3 hp3) (fun r st' q=>by cases r<;>exact q)
     ·refine wpS_bind (smg fun st4 g4=>?_)
      exact wpS_mono (a8i (mg:=mg2) (ac:=ac2) (bc:=bc2) C P ((hg3.trans g4).1.trans hk) (hg3.trans g4) m3 hp3) (fun r st' q=>by cases r<;>exact q)
    ·rintro⟨g0,out2,ka,kb,mg2,ac2,bc2⟩ st3 ⟨hg3,f0,m3,hp3⟩
     exact⟨hg3,.inr ⟨f0,m3,hp3⟩⟩
    ·rintro⟨g0,out2,ka,kb,mg2,ac2,bc2⟩ st3 ⟨hg3,⟨r,f0,gr⟩ | ⟨f0,m3,hp3⟩⟩
     ·have f0:g0=some r:=f0
      subst f0
      exact wpS_pure ⟨r,rfl,hg3,gr⟩
     ·have f0:g0=none:=f0
      have hp3:ja+jb≤ka+kb:=hp3
      subst f0
      refine wpS_bind (smg fun st4 g4=>?_)
      exact wpS_pure ⟨rfl,hg3.trans g4,m3,by show i+1+1≤ka+kb;omega⟩
 ·rintro⟨c0,out,ia,ib,mg⟩ st1 ⟨e0,hg,m,hp⟩
  exfalso
  have h1:=m.la
  have h2:=m.lb
  dsimp only at *
  omega
 ·rintro⟨c0,out,ia,ib,mg⟩ st1 ⟨r,e0,hg,gr⟩
  dsimp only at *
  subst e0
  exact wpS_pure (h r st1 hg gr)
end
def Y3:Array Keyed→Array Keyed→StateT SortSt Sem (Array Keyed):=sortPriv% PySem.Builtin.mergeHi
abbrev x5(a b out:Array Keyed)(na nb:Nat):Array Keyed:=a.extract 0 na++b.extract 0 nb++out.reverse
abbrev L3(a b out:Array Keyed)(na nb:Nat):Array Keyed:=b.extract 0 nb++a.extract 0 na++out.reverse
theorem a2E(a b:Array Keyed):Y3 a b=(do
 rule "list.sort.merge-hi"
 let total:=a.size+b.size
 let mut na:=a.size-1
 let mut nb:=b.size
 let mut out:Array Keyed := #[← elem' a na]
 if na == 0 then return x5 a b out na nb
 if nb == 1 then return L3 a b out na nb
 let mut minGallop:=gallopOf (← get)
 for _ in [0:total]do
  let mut acount:=0
  let mut bcount:=0
  for _ in [0:total]do
   let some aWins ← lt' (← elem' b (nb-1)) (← elem' a (na-1)) | return x5 a b out na nb
   if aWins then
    na:=na-1;out:=out.push (← elem' a na);acount:=acount+1;bcount:=0
    if na == 0 then return x5 a b out na nb
    if acount≥minGallop then break
   else
    nb:=nb-1;out:=out.push (← elem' b nb);bcount:=bcount+1;acount:=0
    if nb == 1 then return L3 a b out na nb
    if bcount≥minGallop then break
  rule "list.sort.gallop"
  minGallop:=minGallop+1
  for _ in [0:total]do
   if minGallop > 1 then minGallop:=minGallop-1
   t9 minGallop
   let some at_ ← t8 false (← elem' b (nb-1)) a 0 na (na-1) | return x5 a b out na nb
   let k:=na-at_
   acount:=k
   if k > 0 then
    out:=out++(a.extract at_ na).reverse;na:=at_
    if na == 0 then return x5 a b out na nb
   nb:=nb-1;out:=out.push (← elem' b nb)
   if nb == 1 then return L3 a b out na nb
   let some at_ ← t8 true (← elem' a (na-1)) b 0 nb (nb-1) | return x5 a b out na nb
   let k:=nb-at_
   bcount:=k
   if k > 0 then
    out:=out++(b.extract at_ nb).reverse;nb:=at_
    if nb == 1 then return L3 a b out na nb
    if nb == 0 then return x5 a b out na nb
   na:=na-1;out:=out.push (← elem' a na)
   if na == 0 then return x5 a b out na nb
   if acount<7 && bcount<7 then break
  minGallop:=minGallop+1
  t9 minGallop
 unsupported "internal:list.sort.merge-bound"):=rfl
structure MR(lt:Keyed→Keyed→Bool)(aL bL o ra rb:List Keyed):Prop where
 ex:∃pa pb,aL=ra++pa∧bL=rb++pb∧o.Perm (pa++pb)
 so:Srt lt o
 oa:∀x∈o,∀y∈ra,lt x y=false
 ob:∀x∈o,∀y∈rb,lt x y=false
section
variable {lt:Keyed→Keyed→Bool}{aL bL o ra rb u:List Keyed}{x y:Keyed}
theorem Srt.left{l m:List Keyed}(h:Srt lt (l++m)):Srt lt l:=(List.pairwise_append.mp h).1
theorem MR.addA(m:MR lt aL bL o (ra++[x]) rb)(hs:Srt lt (ra++[x]))(h:∀y∈rb,lt x y=false):MR lt aL bL (x::o) ra rb:=by
 obtain⟨pa,pb,e1,e2,p⟩:=m.ex
 have hx:=(List.pairwise_append.mp hs).2.2
 refine⟨⟨x::pa,pb,by rw[e1];simp,e2,p.cons x⟩,List.pairwise_cons.mpr ⟨fun z hz=>m.oa z hz x (by simp),m.so⟩,fun w hw z hz=>?_,fun w hw z hz=>?_⟩
 ·rcases List.mem_cons.mp hw with rfl | hw
  ·exact hx z hz w List.mem_cons_self
  ·exact m.oa w hw z (List.mem_append_left _ hz)
 ·rcases List.mem_cons.mp hw with rfl | hw
  ·exact h z hz
  ·exact m.ob w hw z hz
theorem MR.addB(m:MR lt aL bL o ra (rb++[y]))(hs:Srt lt (rb++[y]))(h:∀x∈ra,lt y x=false):MR lt aL bL (y::o) ra rb:=by
 obtain⟨pa,pb,e1,e2,p⟩:=m.ex
 have hy:=(List.pairwise_append.mp hs).2.2
 refine⟨⟨pa,y::pb,e1,by rw[e2];simp,(p.cons y).trans List.perm_middle.symm⟩,List.pairwise_cons.mpr ⟨fun z hz=>m.ob z hz y (by simp),m.so⟩,fun w hw z hz=>?_,fun w hw z hz=>?_⟩
 ·rcases List.mem_cons.mp hw with rfl | hw
  ·exact h z hz
  ·exact m.oa w hw z hz
 ·rcases List.mem_cons.mp hw with rfl | hw
  ·exact hy z hz w List.mem_cons_self
  ·exact m.ob w hw z (List.mem_append_left _ hz)
theorem MR.addAs:∀{u ra:List Keyed},MR lt aL bL o (ra++u) rb→Srt lt (ra++u)→(∀x∈u,∀y∈rb,lt x y=false)→MR lt aL bL (u++o) ra rb
 | [],ra,m,_,_=>by rw[List.append_nil]at m;exact m
 | x::u,ra,m,hs,h=>by
  have e:ra++x::u=(ra++[x])++u:=by simp
  rw[e]at m hs
  exact MR.addA (MR.addAs m hs fun z hz=>h z (List.mem_cons_of_mem _ hz)) hs.left (h x List.mem_cons_self)
theorem MR.addBs:∀{u rb:List Keyed},MR lt aL bL o ra (rb++u)→Srt lt (rb++u)→(∀y∈u,∀x∈ra,lt y x=false)→MR lt aL bL (u++o) ra rb
 | [],rb,m,_,_=>by rw[List.append_nil]at m;exact m
 | x::u,rb,m,hs,h=>by
  have e:rb++x::u=(rb++[x])++u:=by simp
  rw[e]at m hs
  exact MR.addB (MR.addBs m hs fun z hz=>h z (List.mem_cons_of_mem _ hz)) hs.left (h x List.mem_cons_self)
theorem MR.finB(m:MR lt aL bL o [] rb)(hs:Srt lt rb):j7 lt aL bL (rb++o):=by
 obtain⟨pa,pb,e1,e2,p⟩:=m.ex
 refine⟨?_,hs.app m.so fun x hx y hy=>m.ob y hy x hx⟩
 rw[e1,e2,List.nil_append]
 refine(p.append_left rb).trans ?_
 rw[← List.append_assoc,← List.append_assoc]
 exact List.Perm.append_right pb List.perm_append_comm
theorem MR.finA(m:MR lt aL bL o ra [])(hs:Srt lt ra):j7 lt aL bL (ra++o):=by
 obtain⟨pa,pb,e1,e2,p⟩:=m.ex
 refine⟨?_,hs.app m.so fun x hx y hy=>m.oa y hy x hx⟩
 rw[e1,e2,List.nil_append,List.append_assoc]
 exact p.append_left ra
theorem MR.finF(m:MR lt aL bL o ra [y])(hs:Srt lt ra)(h:∀x∈ra,lt x y=false):j7 lt aL bL ([y]++ra++o):=by
 obtain⟨pa,pb,e1,e2,p⟩:=m.ex
 refine⟨?_,?_⟩
 ·rw[e1,e2]
  refine(p.append_left ([y]++ra)).trans ?_
  refine List.Perm.trans ?_ (List.perm_append_comm (l₁:=ra++pa) (l₂:=[y]++pb)).symm
  simp only[List.append_assoc]
  refine List.Perm.append_left [y] ?_
  rw[← List.append_assoc]
  exact List.perm_append_comm
 ·refine Srt.app (List.pairwise_cons.mpr ⟨fun x hx=>h x hx,hs⟩:Srt lt ([y]++ra)) m.so fun x hx z hz=>?_
  rcases List.mem_append.mp hx with hx | hx
  ·rw[List.mem_singleton.mp hx];exact m.ob z hz y List.mem_cons_self
  ·exact m.oa z hz x hx
end
theorem E1(a:Array Keyed)(i:Nat):(a.extract 0 i).toList=a.toList.take i:=by
 rw[Array.toList_extract,List.extract_eq_take_drop,List.drop_zero,Nat.sub_zero]
theorem Y4(a:Array Keyed)(i j:Nat):(a.extract i j).toList=(a.toList.drop i).take (j-i):=by
 rw[Array.toList_extract,List.extract_eq_take_drop]
structure MH(lt:Keyed→Keyed→Bool)(a b out:Array Keyed)(na nb:Nat):Prop where
 la:0<na∧na≤a.size
 lb:1<nb∧nb≤b.size
 mr:MR lt a.toList b.toList out.toList.reverse (a.toList.take na) (b.toList.take nb)
structure MPh(lt:Keyed→Keyed→Bool)(Dm:Keyed→Prop)(a b:Array Keyed):Prop where
 T:TPK lt Dm
 da:∀x∈a.toList,Dm x
 db:∀x∈b.toList,Dm x
 sa:Srt lt a.toList
 sb:Srt lt b.toList
 fb:∀x∈a.toList,∀y,b.toList[0]? = some y→lt x y=false
section
variable {lt:Keyed→Keyed→Bool}{Dm:Keyed→Prop}{a b out:Array Keyed}{na nb:Nat}{x y:Keyed}
theorem Srt.take{l:List Keyed}(h:Srt lt l)(n:Nat):Srt lt (l.take n):=List.Pairwise.sublist (List.take_sublist n l) h
theorem a22{l:List Keyed}{i:Nat}(h:l[i]? = some x):l.take (i+1)=l.take i++[x]:=by
 rw[List.take_add_one,h]
 rfl
theorem o5{l:List Keyed}{n:Nat}{z:Keyed}(h:z∈l.take n):∃j,j<n∧l[j]? = some z:=by
 obtain⟨j,hj⟩:=List.mem_iff_getElem?.mp h
 by_cases hk:j<n
 ·rw[List.getElem?_take_of_lt hk]at hj
  exact⟨j,hk,hj⟩
 ·rw[List.getElem?_eq_none (by rw[List.length_take];omega)]at hj
  cases hj
theorem MH.good_doneA(P:MPh lt Dm a b)(m:MR lt a.toList b.toList out.toList.reverse (a.toList.take na) (b.toList.take nb))(h:na=0):j7 lt a.toList b.toList (x5 a b out na nb).toList:=by
 subst h
 show j7 _ _ _ (a.extract 0 0++b.extract 0 nb++out.reverse).toList
 rw[Array.toList_append,Array.toList_append,E1,E1,Array.toList_reverse,List.take_zero,List.nil_append]
 rw[List.take_zero]at m
 exact m.finB (P.sb.take nb)
theorem MH.good_doneB(P:MPh lt Dm a b)(m:MR lt a.toList b.toList out.toList.reverse (a.toList.take na) (b.toList.take nb))(h:nb=0):j7 lt a.toList b.toList (x5 a b out na nb).toList:=by
 subst h
 show j7 _ _ _ (a.extract 0 na++b.extract 0 0++out.reverse).toList
 rw[Array.toList_append,Array.toList_append,E1,E1,Array.toList_reverse,List.take_zero,List.append_nil]
 rw[List.take_zero]at m
 exact m.finA (P.sa.take na)
theorem MH.good_first(P:MPh lt Dm a b)(hb:1≤b.size)(m:MR lt a.toList b.toList out.toList.reverse (a.toList.take na) (b.toList.take nb))(h:nb=1):j7 lt a.toList b.toList (L3 a b out na nb).toList:=by
 subst h
 obtain⟨y,_,hy,_⟩:=m9 (a:=b) (i:=0) hb
 have e1:b.toList.take 1=[y]:=by rw[a22 hy,List.take_zero];rfl
 show j7 _ _ _ (b.extract 0 1++a.extract 0 na++out.reverse).toList
 rw[Array.toList_append,Array.toList_append,E1,E1,Array.toList_reverse,e1]
 rw[e1]at m
 exact m.finF (P.sa.take na) fun x hx=>P.fb x (List.mem_of_mem_take hx) y hy
theorem N9{l:List Keyed}{n:Nat}(h0:0<n)(h:l[n-1]? = some x):l.take n=l.take (n-1)++[x]:=by
 have:=a22 h
 rw[show n-1+1=n by omega]at this
 exact this
theorem a43(P:MPh lt Dm a b)(ha:0<na)(hb:nb≤b.size)(h0:0<nb)(m:MR lt a.toList b.toList out.toList.reverse (a.toList.take na) (b.toList.take nb))(hx:a.toList[na-1]? = some x)(h:∀y,b.toList[nb-1]? = some y→lt x y=false):MR lt a.toList b.toList (out.push x).toList.reverse (a.toList.take (na-1)) (b.toList.take nb):=by
 rw[N9 ha hx]at m
 rw[Array.toList_push,List.reverse_append]
 refine m.addA (by rw[← N9 ha hx];exact P.sa.take _) fun z hz=>?_
 obtain⟨j,hj,e⟩:=o5 hz
 obtain⟨v0,_,ei,_⟩:=m9 (a:=b) (i:=nb-1) (by omega)
 exact P.T.tr _ _ _ (P.db z (List.mem_of_getElem? e)) (P.db _ (List.mem_of_getElem? ei)) (P.da x (List.mem_of_getElem? hx)) (l6 P.T P.db P.sb (by omega) e ei) (h _ ei)
theorem a8j(P:MPh lt Dm a b)(hb:0<nb)(ha:na≤a.size)(h0:0<na)(m:MR lt a.toList b.toList out.toList.reverse (a.toList.take na) (b.toList.take nb))(hy:b.toList[nb-1]? = some y)(h:∀x,a.toList[na-1]? = some x→lt y x=false):MR lt a.toList b.toList (out.push y).toList.reverse (a.toList.take na) (b.toList.take (nb-1)):=by
 rw[N9 hb hy]at m
 rw[Array.toList_push,List.reverse_append]
 refine m.addB (by rw[← N9 hb hy];exact P.sb.take _) fun z hz=>?_
 obtain⟨j,hj,e⟩:=o5 hz
 obtain⟨v0,_,ei,_⟩:=m9 (a:=a) (i:=na-1) (by omega)
 exact P.T.tr _ _ _ (P.da z (List.mem_of_getElem? e)) (P.da _ (List.mem_of_getElem? ei)) (P.db y (List.mem_of_getElem? hy)) (l6 P.T P.da P.sa (by omega) e ei) (h _ ei)
theorem J4{l:List Keyed}{i n:Nat}(h:i≤n):l.take n=l.take i++(l.drop i).take (n-i):=by
 have e1:=(List.take_append_drop i (l.take n)).symm
 rw[List.take_take,Nat.min_eq_left h,List.drop_take]at e1
 exact e1
theorem a9n(P:MPh lt Dm a b){i:Nat}(hi:i≤na)(m:MR lt a.toList b.toList out.toList.reverse (a.toList.take na) (b.toList.take nb))(hy:b.toList[nb-1]? = some y)(h0:0<nb)(h:∀j x,i≤j→j<na→a.toList[j]? = some x→lt x y=false):MR lt a.toList b.toList (out++(a.extract i na).reverse).toList.reverse (a.toList.take i) (b.toList.take nb):=by
 rw[J4 hi]at m
 rw[Array.toList_append,Array.toList_reverse,List.reverse_append,List.reverse_reverse,Y4]
 refine MR.addAs m (by rw[← J4 hi];exact P.sa.take _) fun z hz v hv=>?_
 obtain⟨j,hj,e⟩:=R6 hz
 obtain⟨k,hk,e2⟩:=o5 hv
 exact P.T.tr _ _ _ (P.db v (List.mem_of_getElem? e2)) (P.db y (List.mem_of_getElem? hy)) (P.da z (List.mem_of_getElem? e)) (l6 P.T P.db P.sb (by omega) e2 hy) (h (i+j) z (by omega) (by omega) e)
theorem a9o(P:MPh lt Dm a b){i:Nat}(hi:i≤nb)(m:MR lt a.toList b.toList out.toList.reverse (a.toList.take na) (b.toList.take nb))(hx:a.toList[na-1]? = some x)(h0:0<na)(h:∀j y,i≤j→j<nb→b.toList[j]? = some y→lt y x=false):MR lt a.toList b.toList (out++(b.extract i nb).reverse).toList.reverse (a.toList.take na) (b.toList.take i):=by
 rw[J4 (l:=b.toList) hi]at m
 rw[Array.toList_append,Array.toList_reverse,List.reverse_append,List.reverse_reverse,Y4]
 refine MR.addBs m (by rw[← J4 hi];exact P.sb.take _) fun z hz v hv=>?_
 obtain⟨j,hj,e⟩:=R6 hz
 obtain⟨k,hk,e2⟩:=o5 hv
 exact P.T.tr _ _ _ (P.da v (List.mem_of_getElem? e2)) (P.da x (List.mem_of_getElem? hx)) (P.db z (List.mem_of_getElem? e)) (l6 P.T P.da P.sa (by omega) e2 hx) (h (i+j) z (by omega) (by omega) e)
end
abbrev GH:=Option (Array Keyed)×Nat×Nat×Array Keyed×Nat×Nat×Nat
abbrev hiC(a b out:Array Keyed)(na nb mg ac bc:Nat):StateT SortSt Sem (ForInStep GH):=do
 let x ← elem' a (na-1)
 if(na-1 == 0)=true then pure (.done (some (x5 a b (out.push x) (na-1) nb),na-1,nb,out.push x,mg,ac,bc))
 else if(decide (ac<7) && decide (bc<7))=true then pure (.done (none,na-1,nb,out.push x,mg,ac,bc))
 else pure (.yield (none,na-1,nb,out.push x,mg,ac,bc))
abbrev hiB(a b out:Array Keyed)(na nb mg ac bc:Nat):StateT SortSt Sem (ForInStep GH):=do
 let y ← elem' b (nb-1)
 if(nb-1 == 1)=true then pure (.done (some (L3 a b (out.push y) na (nb-1)),na,nb-1,out.push y,mg,ac,bc))
 else do
  let x ← elem' a (na-1)
  let r ← t8 true x b 0 (nb-1) (nb-1-1)
  match r with
  | some i =>
   if nb-1-i > 0 then
    (if(i == 1)=true then pure (.done (some (L3 a b (out.push y++(b.extract i (nb-1)).reverse) na i),na,i,out.push y++(b.extract i (nb-1)).reverse,mg,ac,nb-1-i))
    else if(i == 0)=true then pure (.done (some (x5 a b (out.push y++(b.extract i (nb-1)).reverse) na i),na,i,out.push y++(b.extract i (nb-1)).reverse,mg,ac,nb-1-i))
    else hiC a b (out.push y++(b.extract i (nb-1)).reverse) na i mg ac (nb-1-i))
   else hiC a b (out.push y) na (nb-1) mg ac (nb-1-i)
  | _=>pure (.done (some (x5 a b (out.push y) na (nb-1)),na,nb-1,out.push y,mg,ac,bc))
abbrev hiA(a b out:Array Keyed)(na nb mg ac bc:Nat):StateT SortSt Sem (ForInStep GH):=do
 let y ← elem' b (nb-1)
 let r ← t8 false y a 0 na (na-1)
 match r with
 | some i =>
  if na-i > 0 then
   (if(i == 0)=true then pure (.done (some (x5 a b (out++(a.extract i na).reverse) i nb),i,nb,out++(a.extract i na).reverse,mg,na-i,bc))
   else hiB a b (out++(a.extract i na).reverse) i nb mg (na-i) bc)
  else hiB a b out na nb mg (na-i) bc
 | _=>pure (.done (some (x5 a b out na nb),na,nb,out,mg,ac,bc))
section
variable {prog:Program}{w:World}{A:Around}{E:Value→Shared→Prop}{s:Shared}{κ:SortKind}{lt:Keyed→Keyed→Bool}{Dm:Keyed→Prop}{a b out:Array Keyed}{na nb mg ac bc p0:Nat}{st0 st:SortSt}
def PHi(lt:Keyed→Keyed→Bool)(a b:Array Keyed)(p0:Nat)(st0:SortSt):ForInStep GH→SortSt→Prop
 | .done c,st'=>SameG st0 st'∧((∃r,c.1=some r∧j7 lt a.toList b.toList r.toList)∨(c.1=none∧MH lt a b c.2.2.2.1 c.2.1 c.2.2.1∧c.2.1+c.2.2.1≤p0))
 | .yield c,st'=>SameG st0 st'∧c.1=none∧MH lt a b c.2.2.2.1 c.2.1 c.2.2.1∧c.2.1+c.2.2.1≤p0
theorem a8n(P:MPh lt Dm a b)(hg:SameG st0 st)(m:MH lt a b out na nb)(hp:na+nb≤p0)(hle:∀x y,a.toList[na-1]? = some x→b.toList[nb-1]? = some y→lt x y=false):wpS (model prog w) A E s (hiC a b out na nb mg ac bc) (PHi lt a b p0 st0) st:=by
 have la:=m.la
 have lb:=m.lb
 obtain⟨x,hx,hxl,_⟩:=m9 (a:=a) (i:=na-1) (by omega)
 have mr:=a43 P la.1 lb.2 (by omega) m.mr hxl (fun y hy=>hle x y hxl hy)
 refine wpS_bind (j9 hx ?_)
 by_cases z:(na-1 == 0)=true
 ·rw[if_pos z]
  exact wpS_pure ⟨hg,.inl ⟨_,rfl,MH.good_doneA P mr (by simpa using z)⟩⟩
 ·rw[if_neg z]
  have z':na-1≠0:=by simpa using z
  have m':MH lt a b (out.push x) (na-1) nb:=⟨⟨by omega,by omega⟩,lb,mr⟩
  split
  ·exact wpS_pure ⟨hg,.inr ⟨rfl,m',by show na-1+nb≤p0;omega⟩⟩
  ·exact wpS_pure ⟨hg,rfl,m',by show na-1+nb≤p0;omega⟩
theorem a8o(C:r6 prog w A s κ lt Dm)(P:MPh lt Dm a b)(hk:kindOf st=κ)(hg:SameG st0 st)(m:MH lt a b out na nb)(hp:na+nb≤p0)(hle:∀x y,a.toList[na-1]? = some x→b.toList[nb-1]? = some y→lt y x=false):wpS (model prog w) A E s (hiB a b out na nb mg ac bc) (PHi lt a b p0 st0) st:=by
 have la:=m.la
 have lb:=m.lb
 obtain⟨y,hy,hyl,_⟩:=m9 (a:=b) (i:=nb-1) (by omega)
 obtain⟨x,hx,hxl,mx⟩:=m9 (a:=a) (i:=na-1) (by omega)
 have mr:=a8j P (by omega) la.2 la.1 m.mr hyl (fun x hx=>hle x y hx hyl)
 have dx:=P.da x mx
 refine wpS_bind (j9 hy ?_)
 by_cases z:(nb-1 == 1)=true
 ·rw[if_pos z]
  exact wpS_pure ⟨hg,.inl ⟨_,rfl,MH.good_first P (by omega) mr (by simpa using z)⟩⟩
 ·rw[if_neg z]
  have z':nb-1≠1:=by simpa using z
  refine wpS_bind (j9 hx (wpS_bind ?_))
  have at_:∀i,i<nb-1→∃v,b[0+i]? = some v∧b.toList[i]? = some v∧v∈b.toList:=fun i hi=>by
   rw[Nat.zero_add];exact m9 (by omega)
  refine B7 C hk dx (by omega) (fun i=>lt ((b.toList[i]?).getD x) x) (fun i hi=>?_) (fun i j hij hj hb=>?_) fun k hk1 hk2 hk3=>?_
  ·obtain⟨v,h1,h2,h3⟩:=at_ i hi
   exact⟨v,h1,P.db v h3,by rw[h2];rfl⟩
  ·obtain⟨v,h1,h2,h3⟩:=at_ i (by omega)
   obtain⟨u,u1,u2,u3⟩:=at_ j hj
   rw[u2]at hb
   rw[h2]
   show lt v x=true
   cases q:lt v x with
   | true=>rfl
   | false =>
    have:=P.T.tr x v u dx (P.db v h3) (P.db u u3) q (l6 P.T P.db P.sb (by omega) h2 u2)
    have hb:lt u x=true:=hb
    rw[this]at hb;cases hb
  ·dsimp only
   have low:∀j v,j<k→b.toList[j]? = some v→lt x v=false:=fun j v hj hv=>by
    have:=hk2 j hj
    rw[hv]at this
    exact P.T.asy _ _ (P.db v (List.mem_of_getElem? hv)) dx this
   have high:∀j v,k≤j→j<nb-1→b.toList[j]? = some v→lt v x=false:=fun j v h1 h2 hv=>by
    have:=hk3 j h1 h2
    rw[hv]at this
    exact this
   by_cases k0:nb-1-k > 0
   ·rw[if_pos k0]
    have mr2:=a9o P hk1 mr hxl la.1 high
    by_cases y1:(k == 1)=true
    ·rw[if_pos y1]
     exact wpS_pure ⟨hg,.inl ⟨_,rfl,MH.good_first P (by omega) mr2 (by simpa using y1)⟩⟩
    ·rw[if_neg y1]
     have y1':k≠1:=by simpa using y1
     by_cases y2:(k == 0)=true
     ·rw[if_pos y2]
      exact wpS_pure ⟨hg,.inl ⟨_,rfl,MH.good_doneB P mr2 (by simpa using y2)⟩⟩
     ·rw[if_neg y2]
      have y2':k≠0:=by simpa using y2
      exact a8n P hg ⟨la,⟨by omega,by omega⟩,mr2⟩ (by omega) fun x' y' e1 e2=>by
       rw[hxl]at e1;cases e1
       exact low _ y' (by omega) e2
   ·rw[if_neg k0]
    have e0:k=nb-1:=by omega
    subst e0
    exact a8n P hg ⟨la,⟨by omega,by omega⟩,mr⟩ (by omega) fun x' y' e1 e2=>by
     rw[hxl]at e1;cases e1
     exact low _ y' (by omega) e2
theorem a8p(C:r6 prog w A s κ lt Dm)(P:MPh lt Dm a b)(hk:kindOf st=κ)(hg:SameG st0 st)(m:MH lt a b out na nb)(hp:na+nb≤p0):wpS (model prog w) A E s (hiA a b out na nb mg ac bc) (PHi lt a b p0 st0) st:=by
 have la:=m.la
 have lb:=m.lb
 obtain⟨y,hy,hyl,my⟩:=m9 (a:=b) (i:=nb-1) (by omega)
 have dy:=P.db y my
 refine wpS_bind (j9 hy (wpS_bind ?_))
 have at_:∀i,i<na→∃v,a[0+i]? = some v∧a.toList[i]? = some v∧v∈a.toList:=fun i hi=>by
  rw[Nat.zero_add];exact m9 (by omega)
 refine B7 C hk dy (by omega) (fun i=>!lt y ((a.toList[i]?).getD y)) (fun i hi=>?_) (fun i j hij hj hb=>?_) fun k hk1 hk2 hk3=>?_
 ·obtain⟨v,h1,h2,h3⟩:=at_ i hi
  exact⟨v,h1,P.da v h3,by rw[h2];rfl⟩
 ·obtain⟨v,h1,h2,h3⟩:=at_ i (by omega)
  obtain⟨u,u1,u2,u3⟩:=at_ j hj
  rw[u2]at hb
  rw[h2]
  have hb:(!lt y u)=true:=hb
  have hb':lt y u=false:=by simpa using hb
  show(!lt y v)=true
  rw[P.T.tr v u y (P.da v h3) (P.da u u3) dy (l6 P.T P.da P.sa (by omega) h2 u2) hb']
  rfl
 ·dsimp only
  have low:∀j v,j<k→a.toList[j]? = some v→lt y v=false:=fun j v hj hv=>by
   have:=hk2 j hj
   rw[hv]at this
   have this:(!lt y v)=true:=this
   simpa using this
  have high:∀j v,k≤j→j<na→a.toList[j]? = some v→lt v y=false:=fun j v h1 h2 hv=>by
   have:=hk3 j h1 h2
   rw[hv]at this
   have this:(!lt y v)=false:=this
   exact P.T.asy _ _ dy (P.da v (List.mem_of_getElem? hv)) (by simpa using this)
  by_cases k0:na-k > 0
  ·rw[if_pos k0]
   have mr2:=a9n P hk1 m.mr hyl (by omega) high
   by_cases y2:(k == 0)=true
   ·rw[if_pos y2]
    exact wpS_pure ⟨hg,.inl ⟨_,rfl,MH.good_doneA P mr2 (by simpa using y2)⟩⟩
   ·rw[if_neg y2]
    have y2':k≠0:=by simpa using y2
    exact a8o C P hk hg ⟨⟨by omega,by omega⟩,lb,mr2⟩ (by omega) fun x' y' e1 e2=>by
     rw[hyl]at e2;cases e2
     exact low _ x' (by omega) e1
  ·rw[if_neg k0]
   have e0:k=na:=by omega
   subst e0
   exact a8o C P hk hg m (by omega) fun x' y' e1 e2=>by
    rw[hyl]at e2;cases e2
    exact low _ x' (by omega) e1
abbrev S2:=Option (Array Keyed)×Nat×Nat×Array Keyed×Nat×Nat
theorem a2F{Q:Array Keyed→SortSt→Prop}(C:r6 prog w A s κ lt Dm)(P:MPh lt Dm a b)(hk:kindOf st=κ)(ha:1≤a.size)(hb:1≤b.size)(h0:∀x y,a.toList[a.size-1]? = some x→b.toList[b.size-1]? = some y→lt x y=false)
  (h:∀r st',SameG st st'→j7 lt a.toList b.toList r.toList→Q r st'):wpS (model prog w) A E s (Y3 a b) Q st:=by
 rw[a2E]
 refine wpS_bind (wpS_lift (wpAny_rule ⟨rfl,?_⟩))
 obtain⟨x,hx,hxl,mx⟩:=m9 (a:=a) (i:=a.size-1) (by omega)
 refine wpS_bind (j9 hx ?_)
 dsimp only
 have m0:MR lt a.toList b.toList (#[]:Array Keyed).toList.reverse (a.toList.take a.size) (b.toList.take b.size):=⟨⟨[],[],by rw[List.take_of_length_le (by rw[Array.length_toList];exact Nat.le_refl _),List.append_nil],by rw[List.take_of_length_le (by rw[Array.length_toList];exact Nat.le_refl _),List.append_nil],.refl _⟩,.nil,fun x hx=>absurd hx List.not_mem_nil,fun x hx=>absurd hx List.not_mem_nil⟩
 have m1:MR lt a.toList b.toList (#[x]:Array Keyed).toList.reverse (a.toList.take (a.size-1)) (b.toList.take b.size):=a43 (out := #[]) P (by omega) (Nat.le_refl _) (by omega) m0 hxl fun y hy=>h0 x y hxl hy
 by_cases z:(a.size-1 == 0)=true
 ·rw[if_pos z]
  exact wpS_pure (h _ _ (.refl _) (MH.good_doneA P m1 (by simpa using z)))
 rw[if_neg z]
 have z':a.size-1≠0:=by simpa using z
 by_cases z2:(b.size == 1)=true
 ·rw[if_pos z2]
  exact wpS_pure (h _ _ (.refl _) (MH.good_first P (by omega) m1 (by simpa using z2)))
 rw[if_neg z2]
 have z2':b.size≠1:=by simpa using z2
 refine wpS_bind (wpS_get ?_)
 refine wpS_bind (G6 (fun(i:Nat) (c:Option (Array Keyed)×Nat×Nat×Array Keyed×Nat) st'=>c.1=none∧SameG st st'∧MH lt a b c.2.2.2.1 c.2.1 c.2.2.1∧c.2.1+c.2.2.1+i+1≤a.size+b.size)
  (fun(c:Option (Array Keyed)×Nat×Nat×Array Keyed×Nat) st'=>∃r,c.1=some r∧SameG st st'∧j7 lt a.toList b.toList r.toList) ?_ ?_ ⟨rfl,.refl _,⟨⟨by show 0<a.size-1;omega,by show a.size-1≤a.size;omega⟩,⟨by show 1<b.size;omega,Nat.le_refl _⟩,m1⟩,by show a.size-1+b.size+0+1≤a.size+b.size;omega⟩ ?_)
 ·rintro i ⟨c0,na,nb,out,mg⟩ st1 hi ⟨e0,hg,m,hp⟩
  dsimp only at *
  refine wpS_bind (G6 (fun(j:Nat) (c:S2) st'=>c.1=none∧SameG st st'∧MH lt a b c.2.2.2.1 c.2.1 c.2.2.1∧c.2.1+c.2.2.1+j≤na+nb)
   (fun(c:S2) st'=>SameG st st'∧((∃r,c.1=some r∧j7 lt a.toList b.toList r.toList)∨(c.1=none∧MH lt a b c.2.2.2.1 c.2.1 c.2.2.1∧c.2.1+c.2.2.1+1≤na+nb))) ?_ ?_ ⟨rfl,hg,m,Nat.le_refl _⟩ ?_)
  ·rintro j ⟨d0,ja,jb,out',ac,bc⟩ st2 hj ⟨f0,hg2,m2,hp2⟩
   dsimp only at *
   have hla:=m2.la
   have hlb:=m2.lb
   obtain⟨y2,hy2,hyl2,my2⟩:=m9 (a:=b) (i:=jb-1) (by omega)
   obtain⟨x2,hx2,hxl2,mx2⟩:=m9 (a:=a) (i:=ja-1) (by omega)
   refine wpS_bind (j9 hy2 (wpS_bind (j9 hx2 (wpS_bind (U7 C (hg2.1.trans hk) (P.db _ my2) (P.da _ mx2) ?_)))))
   dsimp only
   cases bw:lt y2 x2 with
   | true =>
    rw[if_pos rfl]
    have mr:=a43 P hla.1 hlb.2 (by omega) m2.mr hxl2 (fun y hy=>by rw[hyl2]at hy;cases hy;exact P.T.asy _ _ (P.db _ my2) (P.da _ mx2) bw)
    refine wpS_bind (j9 hx2 ?_)
    by_cases q:(ja-1 == 0)=true
    ·rw[if_pos q]
     exact wpS_pure ⟨hg2,.inl ⟨_,rfl,MH.good_doneA P mr (by simpa using q)⟩⟩
    ·rw[if_neg q]
     have q':ja-1≠0:=by simpa using q
     have m3:MH lt a b (out'.push x2) (ja-1) jb:=⟨⟨by omega,by omega⟩,hlb,mr⟩
     split
     ·exact wpS_pure ⟨hg2,.inr ⟨rfl,m3,by show ja-1+jb+1≤na+nb;omega⟩⟩
     ·exact wpS_pure ⟨rfl,hg2,m3,by show ja-1+jb+(j+1)≤na+nb;omega⟩
   | false =>
    rw[if_neg (by simp)]
    have mr:=a8j P (by omega) hla.2 hla.1 m2.mr hyl2 (fun x hx=>by rw[hxl2]at hx;cases hx;exact bw)
    refine wpS_bind (j9 hy2 ?_)
    by_cases q:(jb-1 == 1)=true
    ·rw[if_pos q]
     exact wpS_pure ⟨hg2,.inl ⟨_,rfl,MH.good_first P (by omega) mr (by simpa using q)⟩⟩
    ·rw[if_neg q]
     have q':jb-1≠1:=by simpa using q
     have m3:MH lt a b (out'.push y2) ja (jb-1):=⟨hla,⟨by omega,by omega⟩,mr⟩
     split
     ·exact wpS_pure ⟨hg2,.inr ⟨rfl,m3,by show ja+(jb-1)+1≤na+nb;omega⟩⟩
     ·exact wpS_pure ⟨rfl,hg2,m3,by show ja+(jb-1)+(j+1)≤na+nb;omega⟩
  ·rintro⟨d0,ja,jb,out',ac,bc⟩ st2 ⟨f0,hg2,m2,hp2⟩
   dsimp only at *
   exact⟨hg2,.inr ⟨f0,m2,by show ja+jb+1≤na+nb;omega⟩⟩
  ·rintro⟨d0,ja,jb,out',ac,bc⟩ st2 ⟨hg2,⟨r,f0,gr⟩ | ⟨f0,m2,hp2⟩⟩
   ·have f0:d0=some r:=f0
    subst f0
    exact wpS_pure ⟨r,rfl,hg2,gr⟩
   ·have f0:d0=none:=f0
    have hp2:ja+jb+1≤na+nb:=hp2
    subst f0
    refine wpS_bind (wpS_lift (wpAny_rule ⟨rfl,?_⟩))
    refine wpS_bind (G6 (fun(j:Nat) (c:GH) st'=>SameG st st'∧c.1=none∧MH lt a b c.2.2.2.1 c.2.1 c.2.2.1∧c.2.1+c.2.2.1≤ja+jb)
     (fun(c:GH) st'=>SameG st st'∧((∃r,c.1=some r∧j7 lt a.toList b.toList r.toList)∨(c.1=none∧MH lt a b c.2.2.2.1 c.2.1 c.2.2.1∧c.2.1+c.2.2.1≤ja+jb))) ?_ ?_ ⟨hg2,rfl,m2,Nat.le_refl _⟩ ?_)
    ·rintro j ⟨g0,ka,kb,out2,mg2,ac2,bc2⟩ st3 hj ⟨hg3,f0,m3,hp3⟩
     refine a1Z (fun _=>?_) (fun _=>?_)
     ·refine wpS_bind (smg fun st4 g4=>?_)
      exact wpS_mono (a8p (mg:=mg2-1) (ac:=ac2) (bc:=bc2) C P ((hg3.trans g4).1.trans hk) (hg3.trans g4) m3 hp3) (fun r st' q=>by cases r<;>exact q)
     ·refine wpS_bind (smg fun st4 g4=>?_)
      exact wpS_mono (a8p (mg:=mg2) (ac:=ac2) (bc:=bc2) C P ((hg3.trans g4).1.trans hk) (hg3.trans g4) m3 hp3) (fun r st' q=>by cases r<;>exact q)
    ·rintro⟨g0,ka,kb,out2,mg2,ac2,bc2⟩ st3 ⟨hg3,f0,m3,hp3⟩
     exact⟨hg3,.inr ⟨f0,m3,hp3⟩⟩
    ·rintro⟨g0,ka,kb,out2,mg2,ac2,bc2⟩ st3 ⟨hg3,⟨r,f0,gr⟩ | ⟨f0,m3,hp3⟩⟩
     ·have f0:g0=some r:=f0
      subst f0
      exact wpS_pure ⟨r,rfl,hg3,gr⟩
     ·have f0:g0=none:=f0
      have hp3:ka+kb≤ja+jb:=hp3
      subst f0
      refine wpS_bind (smg fun st4 g4=>?_)
      exact wpS_pure ⟨rfl,hg3.trans g4,m3,by show ka+kb+(i+1)+1≤a.size+b.size;omega⟩
 ·rintro⟨c0,na,nb,out,mg⟩ st1 ⟨e0,hg,m,hp⟩
  exfalso
  have h1:=m.la
  have h2:=m.lb
  dsimp only at *
  omega
 ·rintro⟨c0,na,nb,out,mg⟩ st1 ⟨r,e0,hg,gr⟩
  dsimp only at *
  subst e0
  exact wpS_pure (h r st1 hg gr)
end
theorem a2G(i:Nat):mergeAt' i=(do
 let s ← get
 let (some (sa,na,power),some (sb,nb,_)):=((pendingOf s)[i]?,(pendingOf s)[i+1]?) | unsupported "internal:list.sort.pending"
 set (setPending s (((pendingOf s).setIfInBounds i (sa,na+nb,power)).eraseIdxIfInBounds (i+1)))
 let some k ← t8 false (← elem' (arrOf s) sb) (arrOf s) sa na 0 | return false
 let (sa,na):=(sa+k,na-k)
 if na == 0 then return true
 let some nb ← t8 true (← elem' (arrOf s) (sa+na-1)) (arrOf s) sb nb (nb-1) | return false
 if nb == 0 then return true
 let x:=(arrOf s).extract sa sb
 let y:=(arrOf s).extract sb (sb+nb)
 let merged ← if na≤nb then Y2 x y else Y3 x y
 modify fun s=>setArr s (merged.toList.zipIdx.foldl (fun a (p,j)=>a.setIfInBounds (sa+j) p) (arrOf s))
 return (failedOf (← get)).isNone):=rfl
theorem a10(o:Nat):∀(m:List Keyed) (n:Nat) (arr:Array Keyed),o+n+m.length≤arr.size→((m.zipIdx n).foldl (fun a (q:Keyed×Nat)=>a.setIfInBounds (o+q.2) q.1) arr).toList=arr.toList.take (o+n)++m++arr.toList.drop (o+n+m.length)
 | [],n,arr,h=>by simp
 | p::m,n,arr,h=>by
  rw[List.length_cons]at h
  rw[List.zipIdx_cons,List.foldl_cons]
  have ih:=a10 o m (n+1) (arr.setIfInBounds (o+n) p) (by rw[Array.size_setIfInBounds];omega)
  rw[ih,Array.toList_setIfInBounds]
  have hl:o+n<arr.toList.length:=by rw[Array.length_toList];omega
  have e1:(arr.toList.set (o+n) p).take (o+(n+1))=arr.toList.take (o+n)++[p]:=by
   rw[show o+(n+1)=(o+n)+1 by omega]
   exact(List.take_add_one).trans (by rw[List.getElem?_set_self hl,List.take_set_of_le (Nat.le_refl _)];rfl)
  have e2:(arr.toList.set (o+n) p).drop (o+(n+1)+m.length)=arr.toList.drop (o+n+(m.length+1)):=by
   rw[List.drop_set_of_lt (by omega),show o+(n+1)+m.length=o+n+(m.length+1) by omega]
  rw[e1,e2,List.length_cons]
  simp
section
variable {prog:Program}{w:World}{A:Around}{E:Value→Shared→Prop}{s:Shared}{κ:SortKind}{lt:Keyed→Keyed→Bool}{Dm:Keyed→Prop}{st:SortSt}
theorem a11{arr:Array Keyed}{p u q:List Keyed}{i j:Nat}(e:arr.toList=p++u++q)(hi:p.length=i)(hj:i+u.length=j):(arr.extract i j).toList=u:=by
 rw[Y4,e,List.append_assoc,← hi,List.drop_left',← hj]
 ·rw[show i+u.length-p.length=u.length by omega,List.take_left']
  rfl
 ·rfl
theorem Srt.right{l m:List Keyed}(h:Srt lt (l++m)):Srt lt m:=(List.pairwise_append.mp h).2.1
theorem a3Y{arr:Array Keyed}{p u q:List Keyed}{i j:Nat}(e:arr.toList=p++u++q)(hi:p.length=i)(hj:j<u.length):arr[i+j]? = some u[j]:=by
 have h1:arr.toList[i+j]? = some u[j]:=by
  rw[e,List.append_assoc,List.getElem?_append_right (by omega),show i+j-p.length=j by omega,List.getElem?_append_left hj,List.getElem?_eq_getElem hj]
 rw[← Array.getElem?_toList]
 exact h1
theorem a2H{Q:Bool→SortSt→Prop}{i sa na sb nb pw pw':Nat}{pre U V post:List Keyed}(C:r6 prog w A s κ lt Dm)(T:TPK lt Dm)(hk:kindOf st=κ)(hf:failedOf st=none)
  (hp1:(pendingOf st)[i]? = some (sa,na,pw)) (hp2:(pendingOf st)[i+1]? = some (sb,nb,pw')) (e:(arrOf st).toList=pre++U++(V++post)) (l0:pre.length=sa) (l1:U.length=na) (l2:V.length=nb) (hsb:sa+na=sb) (ha:1≤na) (hb:1≤nb)
  (dU:∀x∈U,Dm x) (dV:∀x∈V,Dm x) (sU:Srt lt U) (sV:Srt lt V)
  (h:∀(arr':Array Keyed) (g:Nat) (W:List Keyed),W.Perm (U++V)→Srt lt W→arr'.toList=pre++W++post→Q true (SortSt.mk' κ arr' (((pendingOf st).setIfInBounds i (sa,na+nb,pw)).eraseIdxIfInBounds (i+1)) g none)) :
  wpS (model prog w) A E s (mergeAt' i) Q st:=by
 rw[a2G]
 refine wpS_bind (wpS_get ?_)
 rw[hp1,hp2]
 dsimp only
 refine wpS_bind (wpS_modify (f:=fun _=>setPending st (((pendingOf st).setIfInBounds i (sa,na+nb,pw)).eraseIdxIfInBounds (i+1))) ?_)
 have e':(arrOf st).toList=(pre++U)++V++post:=by rw[e];simp
 have lU:(pre++U).length=sb:=by rw[List.length_append];omega
 have aU:∀j (hj:j<U.length),(arrOf st)[sa+j]? = some U[j]:=fun j hj=>a3Y e l0 hj
 have aV:∀j (hj:j<V.length),(arrOf st)[sb+j]? = some V[j]:=fun j hj=>a3Y e' lU hj
 have hV0:0<V.length:=by omega
 have hUl:U.length-1<U.length:=by omega
 have dy:Dm V[0]:=dV _ (List.getElem_mem hV0)
 have dl:Dm U[U.length-1]:=dU _ (List.getElem_mem hUl)
 have done:∀st',SameG (setPending st (((pendingOf st).setIfInBounds i (sa,na+nb,pw)).eraseIdxIfInBounds (i+1))) st'→Srt lt (U++V)→Q true st':=fun st' g hs=>by
  have:=h (arrOf st) (gallopOf st') (U++V) (.refl _) hs (by rw[e];simp)
  obtain⟨g1,g2,g3,g4⟩:=g
  have e5:st'=SortSt.mk' κ (arrOf st) (((pendingOf st).setIfInBounds i (sa,na+nb,pw)).eraseIdxIfInBounds (i+1)) (gallopOf st') none:=by
   have a1:kindOf st'=κ:=g1.trans hk
   have a2:arrOf st'=arrOf st:=g2
   have a3:pendingOf st'=(((pendingOf st).setIfInBounds i (sa,na+nb,pw)).eraseIdxIfInBounds (i+1)):=g3
   have a4:failedOf st'=none:=g4.trans hf
   rw[← a1,← a2,← a3,← a4]
  rw[e5]
  exact this
 have x0:=aV 0 hV0
 rw[Nat.add_zero]at x0
 refine wpS_bind (j9 x0 (wpS_bind ?_))
 refine B7 C hk dy (by omega) (fun j=>!lt V[0] (U[j]?.getD V[0])) (fun j hj=>?_) (fun j k hjk hkn hb=>?_) fun k hk1 hk2 hk3=>?_
 ·have hj':j<U.length:=by omega
  exact⟨U[j],aU j hj',dU _ (List.getElem_mem hj'),by rw[List.getElem?_eq_getElem hj'];rfl⟩
 ·have hk':k<U.length:=by omega
  have hj':j<U.length:=by omega
  rw[List.getElem?_eq_getElem hk']at hb
  rw[List.getElem?_eq_getElem hj']
  have hb:(!lt V[0] U[k])=true:=hb
  have hb':lt V[0] U[k]=false:=by simpa using hb
  show(!lt V[0] U[j])=true
  rw[T.tr U[j] U[k] V[0] (dU _ (List.getElem_mem hj')) (dU _ (List.getElem_mem hk')) dy (l6 T dU sU hjk (List.getElem?_eq_getElem hj') (List.getElem?_eq_getElem hk')) hb']
  rfl
 dsimp only
 have low:∀j x,j<k→U[j]? = some x→lt V[0] x=false:=fun j x hj hx=>by
  have:=hk2 j hj
  rw[hx]at this
  have this:(!lt V[0] x)=true:=this
  simpa using this
 have high:∀j x,k≤j→U[j]? = some x→lt V[0] x=true:=fun j x hj hx=>by
  have hjl:=(List.getElem?_eq_some_iff.mp hx).1
  have:=hk3 j hj (by omega)
  rw[hx]at this
  have this:(!lt V[0] x)=false:=this
  simpa using this
 have v0:V[0]? = some V[0]:=List.getElem?_eq_getElem hV0
 by_cases z1:(na-k == 0)=true
 ·rw[if_pos z1]
  have z1':na-k=0:=by simpa using z1
  refine wpS_pure (done _ (.refl _) (sU.app sV fun x hx y hy=>?_))
  obtain⟨j,hj⟩:=List.mem_iff_getElem?.mp hx
  obtain⟨j2,hj2⟩:=List.mem_iff_getElem?.mp hy
  have hjl:=(List.getElem?_eq_some_iff.mp hj).1
  exact T.tr _ _ _ (dU x hx) dy (dV y hy) (low j x (by omega) hj) (l6 T dV sV (Nat.zero_le _) v0 hj2)
 rw[if_neg z1]
 have z1':na-k≠0:=by simpa using z1
 have ul:U[U.length-1]? = some U[U.length-1]:=List.getElem?_eq_getElem hUl
 have xl:=aU (U.length-1) hUl
 rw[show sa+(U.length-1)=sa+k+(na-k)-1 by omega]at xl
 refine wpS_bind (j9 xl (wpS_bind ?_))
 refine B7 C hk dl (by omega) (fun j=>lt (V[j]?.getD U[U.length-1]) U[U.length-1]) (fun j hj=>?_) (fun j k hjk hkn hb=>?_) fun n hn1 hn2 hn3=>?_
 ·have hj':j<V.length:=by omega
  exact⟨V[j],aV j hj',dV _ (List.getElem_mem hj'),by rw[List.getElem?_eq_getElem hj'];rfl⟩
 ·have hk':k<V.length:=by omega
  have hj':j<V.length:=by omega
  rw[List.getElem?_eq_getElem hk']at hb
  rw[List.getElem?_eq_getElem hj']
  have hb:lt V[k] U[U.length-1]=true:=hb
  show lt V[j] U[U.length-1]=true
  cases q:lt V[j] U[U.length-1]with
  | true=>rfl
  | false =>
   have:=T.tr _ V[j] V[k] dl (dV _ (List.getElem_mem hj')) (dV _ (List.getElem_mem hk')) q (l6 T dV sV hjk (List.getElem?_eq_getElem hj') (List.getElem?_eq_getElem hk'))
   rw[this]at hb;cases hb
 dsimp only
 have vlow:∀j y,j<n→V[j]? = some y→lt y U[U.length-1]=true:=fun j y hj hy=>by
  have:=hn2 j hj
  rw[hy]at this
  exact this
 have vhigh:∀j y,n≤j→V[j]? = some y→lt y U[U.length-1]=false:=fun j y hj hy=>by
  have hjl:=(List.getElem?_eq_some_iff.mp hy).1
  have:=hn3 j hj (by omega)
  rw[hy]at this
  exact this
 have ulast:∀x∈U,lt U[U.length-1] x=false:=fun x hx=>by
  obtain⟨j,hj⟩:=List.mem_iff_getElem?.mp hx
  have hjl:=(List.getElem?_eq_some_iff.mp hj).1
  exact l6 T dU sU (by omega) hj ul
 by_cases z2:(n == 0)=true
 ·rw[if_pos z2]
  have z2':n=0:=by simpa using z2
  refine wpS_pure (done _ (.refl _) (sU.app sV fun x hx y hy=>?_))
  obtain⟨j2,hj2⟩:=List.mem_iff_getElem?.mp hy
  exact T.tr _ _ _ (dU x hx) dl (dV y hy) (ulast x hx) (vhigh j2 y (by omega) hj2)
 rw[if_neg z2]
 have z2':n≠0:=by simpa using z2
 -- the parts
 have eU:U=U.take k++U.drop k:=(List.take_append_drop k U).symm
 have eV:V=V.take n++V.drop n:=(List.take_append_drop n V).symm
 have lk:(U.take k).length=k:=by rw[List.length_take];omega
 have ld:(U.drop k).length=na-k:=by rw[List.length_drop];omega
 have ln:(V.take n).length=n:=by rw[List.length_take];omega
 have exl:(arrOf st).toList=(pre++U.take k)++U.drop k++(V++post):=by
  rw[List.append_assoc pre (U.take k) (U.drop k),List.take_append_drop]
  exact e
 have eyl:(arrOf st).toList=(pre++U)++V.take n++(V.drop n++post):=by
  rw[List.append_assoc (pre++U) (V.take n),← List.append_assoc (V.take n),List.take_append_drop]
  exact e
 have ex:((arrOf st).extract (sa+k) sb).toList=U.drop k:=a11 exl (by rw[List.length_append,l0,lk]) (by rw[ld];omega)
 have ey:((arrOf st).extract sb (sb+n)).toList=V.take n:=a11 eyl lU (by rw[ln])
 have d2U:∀x∈U.drop k,Dm x:=fun x hx=>dU x (List.mem_of_mem_drop hx)
 have d2V:∀x∈V.take n,Dm x:=fun x hx=>dV x (List.mem_of_mem_take hx)
 have gtU:∀x∈U.drop k,lt V[0] x=true:=fun x hx=>by
  obtain⟨j,hj,e⟩:=t5 hx
  exact high j x hj e
 have ltV:∀y∈V.take n,lt y U[U.length-1]=true:=fun y hy=>by
  obtain⟨j,hj,e⟩:=o5 hy
  exact vlow j y hj e
 have xlast:(U.drop k)[(U.drop k).length-1]? = some U[U.length-1]:=by
  rw[List.getElem?_drop,ld,show k+(na-k-1)=U.length-1 by omega];exact ul
 have yfst:(V.take n)[0]? = some V[0]:=by rw[List.getElem?_take_of_lt (by omega)];exact v0
 have sx:((arrOf st).extract (sa+k) sb).size=(U.drop k).length:=by rw[← Array.length_toList,ex]
 have sy:((arrOf st).extract sb (sb+n)).size=(V.take n).length:=by rw[← Array.length_toList,ey]
 have fin:∀(r:Array Keyed) (st':SortSt),SameG (setPending st (((pendingOf st).setIfInBounds i (sa,na+nb,pw)).eraseIdxIfInBounds (i+1))) st'→j7 lt ((arrOf st).extract (sa+k) sb).toList ((arrOf st).extract sb (sb+n)).toList r.toList →
   wpS (model prog w) A E s (do
    modify fun s=>setArr s (r.toList.zipIdx.foldl (fun a (p,j)=>a.setIfInBounds (sa+k+j) p) (arrOf s))
    let __do_lift ← get
    pure (failedOf __do_lift).isNone) Q st':=fun r st' g ⟨gp,gs⟩=>by
  rw[ex,ey]at gp
  obtain⟨g1,g2,g3,g4⟩:=g
  refine wpS_bind (wpS_modify ?_)
  refine wpS_bind (wpS_get (wpS_pure ?_))
  have hrl:r.toList.length=(na-k)+n:=by rw[gp.length_eq,List.length_append,ld,ln]
  have hsz:(arrOf st).size=sa+na+(nb+post.length):=by
   rw[← Array.length_toList,e];simp only[List.length_append];omega
  have fs:=a10 (sa+k) r.toList 0 (arrOf st) (by rw[hrl];omega)
  have e1:(arrOf st).toList.take (sa+k+0)=pre++U.take k:=by
   rw[Nat.add_zero,e,List.append_assoc,List.take_append,l0,show sa+k-sa=k by omega,List.take_of_length_le (by omega),List.take_append,show k-U.length=0 by omega,List.take_zero,List.append_nil]
  have e2:(arrOf st).toList.drop (sa+k+0+r.toList.length)=V.drop n++post:=by
   rw[hrl,show sa+k+0+(na-k+n)=sb+n by omega,e',List.append_assoc,List.drop_append,lU,show sb+n-sb=n by omega,List.drop_eq_nil_of_le (by omega),List.nil_append,List.drop_append,show n-V.length=0 by omega,List.drop_zero]
  rw[e1,e2]at fs
  have hW:=h ((r.toList.zipIdx.foldl (fun a (q:Keyed×Nat)=>a.setIfInBounds (sa+k+q.2) q.1) (arrOf st))) (gallopOf st') (U.take k++r.toList++V.drop n) ?_ ?_ ?_
  ·have e5:setArr st' (r.toList.zipIdx.foldl (fun a (q:Keyed×Nat)=>a.setIfInBounds (sa+k+q.2) q.1) (arrOf st'))=SortSt.mk' κ (r.toList.zipIdx.foldl (fun a (q:Keyed×Nat)=>a.setIfInBounds (sa+k+q.2) q.1) (arrOf st)) (((pendingOf st).setIfInBounds i (sa,na+nb,pw)).eraseIdxIfInBounds (i+1)) (gallopOf st') none:=by
    have a1:kindOf st'=κ:=g1.trans hk
    have a2:arrOf st'=arrOf st:=g2
    have a3:pendingOf st'=_:=g3
    have a4:failedOf st'=none:=g4.trans hf
    show SortSt.mk' (kindOf st') _ (pendingOf st') (gallopOf st') (failedOf st')=_
    rw[a1,a2,a3,a4]
   have e6:(failedOf (setArr st' (r.toList.zipIdx.foldl (fun a (q:Keyed×Nat)=>a.setIfInBounds (sa+k+q.2) q.1) (arrOf st')))).isNone=true:=by
    show(failedOf st').isNone=true
    rw[show failedOf st'=none from g4.trans hf];rfl
   show Q (failedOf (setArr st' (r.toList.zipIdx.foldl (fun a (q:Keyed×Nat)=>a.setIfInBounds (sa+k+q.2) q.1) (arrOf st')))).isNone (setArr st' (r.toList.zipIdx.foldl (fun a (q:Keyed×Nat)=>a.setIfInBounds (sa+k+q.2) q.1) (arrOf st')))
   rw[e6,e5]
   exact hW
  ·refine((gp.append_left (U.take k)).append_right (V.drop n)).trans ?_
   have e7:U.take k++(U.drop k++V.take n)++V.drop n=U++V:=by
    rw[← List.append_assoc (U.take k),List.take_append_drop,List.append_assoc,List.take_append_drop]
   rw[e7]
  ·have inR:∀x∈r.toList,x∈U.drop k∨x∈V.take n:=fun x hx=>List.mem_append.mp (gp.mem_iff.mp hx)
   refine Srt.app (Srt.app (sU.take k) gs fun x hx y hy=>?_) (sV.drop n) fun x hx y hy=>?_
   ·obtain⟨j,hj,ej⟩:=o5 hx
    have dx:=dU x (List.mem_of_mem_take hx)
    rcases inR y hy with q | q
    ·obtain⟨j2,hj2,ej2⟩:=t5 q
     exact l6 T dU sU (by omega) ej ej2
    ·obtain⟨j2,hj2,ej2⟩:=o5 q
     exact T.tr _ _ _ dx dy (d2V y q) (low j x hj ej) (l6 T dV sV (Nat.zero_le _) v0 ej2)
   ·obtain⟨j2,hj2,ej2⟩:=t5 hy
    have dY:=dV y (List.mem_of_mem_drop hy)
    rcases List.mem_append.mp hx with hx | hx
    ·have dx:=dU x (List.mem_of_mem_take hx)
     exact T.tr _ _ _ dx dl dY (ulast x (List.mem_of_mem_take hx)) (vhigh j2 y hj2 ej2)
    ·rcases inR x hx with q | q
     ·exact T.tr _ _ _ (d2U x q) dl dY (ulast x (List.mem_of_mem_drop q)) (vhigh j2 y hj2 ej2)
     ·obtain⟨j3,hj3,ej3⟩:=o5 q
      exact l6 T dV sV (by omega) ej3 ej2
  ·show(List.foldl _ (arrOf st) r.toList.zipIdx).toList=_
   refine Eq.trans fs ?_
   simp
 by_cases z3:na-k≤n
 ·rw[if_pos z3]
  refine wpS_bind (a2D C ⟨T,by rw[ex];exact d2U,by rw[ey];exact d2V,by rw[ex];exact sU.drop k,by rw[ey];exact sV.take n,fun y hy x hx=>?_⟩ hk (by rw[sx,ld];omega) (by rw[sy,ln];omega) (fun x y hx hy=>?_) fin)
  ·rw[ey]at hy
   rw[ex,sx,xlast]at hx
   cases hx
   exact T.asy _ _ (d2V y hy) dl (ltV y hy)
  ·rw[ex]at hx
   rw[ey,yfst]at hy
   cases hy
   exact T.asy _ _ dy (d2U x (List.mem_of_getElem? hx)) (gtU x (List.mem_of_getElem? hx))
 ·rw[if_neg z3]
  refine wpS_bind (a2F C ⟨T,by rw[ex];exact d2U,by rw[ey];exact d2V,by rw[ex];exact sU.drop k,by rw[ey];exact sV.take n,fun x hx y hy=>?_⟩ hk (by rw[sx,ld];omega) (by rw[sy,ln];omega) (fun x y hx hy=>?_) fin)
  ·rw[ex]at hx
   rw[ey,yfst]at hy
   cases hy
   exact T.asy _ _ dy (d2U x hx) (gtU x hx)
  ·rw[ex,sx,xlast]at hx
   cases hx
   rw[ey]at hy
   exact T.asy _ _ (d2V y (List.mem_of_getElem? hy)) dl (ltV y (List.mem_of_getElem? hy))
end
theorem a1v(lo nrem:Nat):countRun' lo nrem=(do
 let mut n:=1
 for _ in [1:nrem]do
  let some smaller ← ltAt' (lo+n) (lo+n-1) | return none
  if smaller then break
  n:=n+1
 if n == nrem then return some n
 if n > 1 then
  let some rose ← ltAt' lo (lo+n-1) | return none
  if rose then return some n
  reverseSlice' lo (lo+n)
 rule "list.sort.descending-run"
 n:=n+1
 let mut neq:=0
 for _ in [n:nrem]do
  let some smaller ← ltAt' (lo+n) (lo+n-1) | return none
  if smaller then
   if neq > 0 then reverseSlice' (lo+n-(neq+1)) (lo+n)
   neq:=0
  else
   let some larger ← ltAt' (lo+n-1) (lo+n) | return none
   if larger then break
   neq:=neq+1
  n:=n+1
 if neq > 0 then reverseSlice' (lo+n-(neq+1)) (lo+n)
 reverseSlice' lo (lo+n)
 for _ in [n:nrem]do
  let some smaller ← ltAt' (lo+n) (lo+n-1) | return none
  if smaller then break
  n:=n+1
 return some n):=rfl
theorem a0i(lo n ok:Nat):binarySort' lo n ok=(do
 for k in [max ok 1:n]do
  let mut l:=0
  let mut r:=k
  for _ in [0:k]do
   if l≥r then break
   let m:=(l+r)/2
   let some less ← ltAt' (lo+k) (lo+m) | return false
   if less then r:=m else l:=m+1
  moveDown' (lo+k) (lo+l)
 return true):=rfl
def gk(p:Array Keyed)(k:Nat):Keyed:=p.getD k (Value.none,Value.none)
theorem W5{p:Array Keyed}{k:Nat}(h:k<p.size):p[k]? = some (gk p k):=by unfold gk;simp[Array.getD,h]
theorem a0j(p:Array Keyed)(k:Nat):gk p k=(p[k]?).getD (Value.none,Value.none):=by unfold gk;simp[Array.getD_eq_getD_getElem?]
abbrev x6(p:Array Keyed)(i j:Nat):Array Keyed:=mirror p i j ((j-i)/2)
theorem U8{p:Array Keyed}{i j:Nat}(hj:j≤p.size)(k:Nat):gk (x6 p i j) k=if i≤k∧k<j then gk p (i+j-1-k)else gk p k:=by
 rw[a0j,x6,getElem?_mirror_all hj]
 split<;>rw[a0j]
theorem a3Z{p:Array Keyed}{src d:Nat}(hs:src<p.size)(hd:d≤src)(k:Nat):gk (bubble p src d) k=if k=src-d then gk p src else if src-d<k∧k≤src then gk p (k-1)else gk p k:=by
 rw[a0j,getElem?_bubble hs d hd]
 split
 ·rw[a0j]
 ·split<;>rw[a0j]
structure Rst(a0:Array Keyed)(lo hi:Nat)(a:Array Keyed):Prop where
 pm:a.Perm a0
 out:∀x,(x<lo∨hi≤x)→gk a x=gk a0 x
theorem Rst.refl(a:Array Keyed)(lo hi:Nat):Rst a lo hi a:=⟨.refl _,fun _ _=>rfl⟩
theorem Rst.size{a0 a:Array Keyed}{lo hi:Nat}(h:Rst a0 lo hi a):a.size=a0.size:=h.pm.size_eq
theorem Rst.rev{a0 a:Array Keyed}{lo hi i j:Nat}(h:Rst a0 lo hi a)(hi':lo≤i)(hj:j≤hi)(hs:hi≤a0.size):Rst a0 lo hi (x6 a i j) :=
 ⟨(mirror_perm _ _ _ _).trans h.pm,fun x hx=>by rw[U8 (by rw[h.size];omega),if_neg (by omega)];exact h.out x hx⟩
theorem Rst.bub{a0 a:Array Keyed}{lo hi src d:Nat}(h:Rst a0 lo hi a)(h1:lo≤src-d)(hd:d≤src)(h2:src<hi)(hs:hi≤a0.size):Rst a0 lo hi (bubble a src d) :=
 ⟨(bubble_perm _ _ _).trans h.pm,fun x hx=>by rw[a3Z (by rw[h.size];omega) hd,if_neg (by omega),if_neg (by omega)];exact h.out x hx⟩
structure StR(st0:SortSt)(lo hi:Nat)(st:SortSt):Prop where
 k:kindOf st=kindOf st0
 p:pendingOf st=pendingOf st0
 f:failedOf st=failedOf st0
 r:Rst (arrOf st0) lo hi (arrOf st)
def T7(lt:Keyed→Keyed→Bool)(p:Array Keyed)(lo m:Nat):Prop:=∀i j,i≤j→j<m→lt (gk p (lo+j)) (gk p (lo+i))=false
def X7(lt:Keyed→Keyed→Bool)(p:Array Keyed)(lo m:Nat):Prop:=∀i j,i≤j→j<m→lt (gk p (lo+i)) (gk p (lo+j))=false
abbrev a9L(lo:Nat):Nat→(Option (Option Nat)×Nat)→StateT SortSt Sem (ForInStep (Option (Option Nat)×Nat)):=fun x __s=>do
 let __x ← ltAt' (lo+__s.snd) (lo+__s.snd-1)
 match __x with
  | some smaller =>
   if smaller=true then pure (ForInStep.done (none,__s.snd))
   else pure (ForInStep.yield (none,__s.snd+1))
  | x=>pure (ForInStep.done (some none,__s.snd))
abbrev a9M(lo:Nat):Nat→(Option (Option Nat)×Nat×Nat)→StateT SortSt Sem (ForInStep (Option (Option Nat)×Nat×Nat)):=fun x __s=>do
 let __x ← ltAt' (lo+__s.snd.fst) (lo+__s.snd.fst-1)
 match __x with
  | some smaller =>
   if smaller=true then
    if __s.snd.snd > 0 then do
     reverseSlice' (lo+__s.snd.fst-(__s.snd.snd+1)) (lo+__s.snd.fst)
     pure (ForInStep.yield (none,__s.snd.fst+1,0))
    else pure (ForInStep.yield (none,__s.snd.fst+1,0))
   else do
    let __x ← ltAt' (lo+__s.snd.fst-1) (lo+__s.snd.fst)
    match __x with
     | some larger =>
      if larger=true then pure (ForInStep.done (none,__s.snd.fst,__s.snd.snd))
      else pure (ForInStep.yield (none,__s.snd.fst+1,__s.snd.snd+1))
     | x=>pure (ForInStep.done (some none,__s.snd.fst,__s.snd.snd))
  | x=>pure (ForInStep.done (some none,__s.snd.fst,__s.snd.snd))
section
variable {prog:Program}{w:World}{A:Around}{E:Value→Shared→Prop}{s:Shared}{κ:SortKind}{lt:Keyed→Keyed→Bool}{Dm:Keyed→Prop}{st0 st:SortSt}{lo n m:Nat}
theorem StR.dmk(R:StR st0 lo m st)(hD:∀x∈(arrOf st0).toList,Dm x){i:Nat}(hi:i<(arrOf st0).size):Dm (gk (arrOf st) i):=by
 refine hD _ (R.r.pm.mem_iff.mp ?_ |> Array.mem_toList_iff.mpr)
 have hs:i<(arrOf st).size:=by rw[R.r.size];exact hi
 have:=W5 hs
 rw[Array.getElem?_eq_getElem hs]at this
 rw[← Option.some.inj this]
 exact Array.getElem_mem hs
theorem U9{i j:Nat}{Q:Option Bool→SortSt→Prop}(C:r6 prog w A s κ lt Dm)(hk:kindOf st=κ)(hi:i<(arrOf st).size)(hj:j<(arrOf st).size)(di:Dm (gk (arrOf st) i))(dj:Dm (gk (arrOf st) j))(h:Q (some (lt (gk (arrOf st) i) (gk (arrOf st) j))) st):wpS (model prog w) A E s (ltAt' i j) Q st:=by
 rw[ltAt'_eq]
 refine wpS_bind (wpS_get ?_)
 exact wpS_bind (j9 (W5 hi) (wpS_bind (j9 (W5 hj) (U7 C hk di dj h))))
theorem F9{i j:Nat}{Q:Unit→SortSt→Prop}(h:Q () (setArr st (x6 (arrOf st) i j))):wpS (model prog w) A E s (reverseSlice' i j) Q st:=by
 rw[reverseSlice'_eq]
 exact wpS_modify h
theorem StR.rev{hi i j:Nat}(R:StR st0 lo hi st)(h1:lo≤i)(h2:j≤hi)(hs:hi≤(arrOf st0).size):StR st0 lo hi (setArr st (x6 (arrOf st) i j)):=⟨R.k,R.p,R.f,R.r.rev h1 h2 hs⟩
theorem V0{a:Nat}{Q:Option (Option Nat)×Nat→SortSt→Prop}(C:r6 prog w A s κ lt Dm)(T:TPK lt Dm)(hk:kindOf st0=κ)(hD:∀x∈(arrOf st0).toList,Dm x)(R:StR st0 lo (lo+n) st)(hs:lo+n≤(arrOf st0).size)(h1:1≤a)(h2:a≤n)(u:T7 lt (arrOf st) lo a)
  (h:∀m,a≤m→m≤n→T7 lt (arrOf st) lo m→(m<n→lt (gk (arrOf st) (lo+m)) (gk (arrOf st) (lo+m-1))=true)→Q (none,m) st):wpS (model prog w) A E s (forIn [a:n] (none,a) (a9L lo)) Q st:=by
 have dm:∀i,i<lo+n→Dm (gk (arrOf st) i):=fun i hi=>R.dmk hD (by omega)
 have sz:=R.r.size
 refine wpS_forRange (fun i (c:Option (Option Nat)×Nat) st'=>c.1=none∧c.2=i∧st'=st∧T7 lt (arrOf st) lo i) ?_ ?_ ⟨rfl,rfl,rfl,u⟩
 ·rintro i ⟨c0,c1⟩ st' hi1 hi2 ⟨e0,e1,rfl,u⟩
  dsimp only at e0 e1
  subst e0 e1
  refine wpS_bind (U9 C (R.k.trans hk) (by show lo+c1<_;omega) (by show lo+c1-1<_;omega) (dm _ (by show lo+c1<_;omega)) (dm _ (by show lo+c1-1<_;omega)) ?_)
  dsimp only
  cases c:lt (gk (arrOf st') (lo+c1)) (gk (arrOf st') (lo+c1-1))with
  | true =>
   rw[if_pos rfl]
   exact wpS_pure (h c1 hi1 (by omega) u fun _=>c)
  | false =>
   rw[if_neg (by simp)]
   refine wpS_pure ⟨rfl,rfl,rfl,fun i j hij hj=>?_⟩
   by_cases hjk:j<c1
   ·exact u i j hij hjk
   ·have e:j=c1:=by omega
    subst e
    by_cases hik:i=j
    ·subst hik;exact T.irr _ (dm _ (by omega))
    ·have:=u i (j-1) (by omega) (by omega)
     rw[show lo+(j-1)=lo+j-1 by omega]at this
     exact T.tr _ _ _ (dm _ (by omega)) (dm _ (by omega)) (dm _ (by omega)) this c
 ·rintro⟨c0,c1⟩ st' ⟨e0,e1,rfl,u⟩
  dsimp only at e0 e1
  have e2:max a n=n:=by omega
  rw[e2]at e1 u
  subst e0 e1
  exact h c1 h2 (Nat.le_refl _) u fun z=>absurd z (by omega)
theorem R7(hs:lo+m≤(arrOf st).size)(d:X7 lt (arrOf st) lo m):T7 lt (arrOf (setArr st (x6 (arrOf st) lo (lo+m)))) lo m:=fun i j hij hj=>by
 have gr:=U8 (p:=arrOf st) (i:=lo) (j:=lo+m) hs
 show lt (gk (x6 (arrOf st) lo (lo+m)) (lo+j)) (gk (x6 (arrOf st) lo (lo+m)) (lo+i))=false
 rw[gr,gr,if_pos (by omega),if_pos (by omega),show lo+(lo+m)-1-(lo+j)=lo+(m-1-j) by omega,show lo+(lo+m)-1-(lo+i)=lo+(m-1-i) by omega]
 exact d _ _ (by omega) (by omega)
def Alk(lt:Keyed→Keyed→Bool)(p:Array Keyed)(lo k q:Nat):Prop:=∀i,k-(q+1)≤i→i<k→lt (gk p (lo+(k-1))) (gk p (lo+i))=false∧lt (gk p (lo+i)) (gk p (lo+(k-1)))=false
theorem a12{hi k q:Nat}(T:TPK lt Dm)(hD:∀x∈(arrOf st0).toList,Dm x)(R:StR st0 lo hi st)(hs:hi≤(arrOf st0).size)(hk:lo+k≤hi)(hq:q+1≤k)(d:X7 lt (arrOf st) lo k)(al:Alk lt (arrOf st) lo k q) :
  X7 lt (x6 (arrOf st) (lo+k-(q+1)) (lo+k)) lo k∧∀i,i<k→lt (gk (x6 (arrOf st) (lo+k-(q+1)) (lo+k)) (lo+i)) (gk (arrOf st) (lo+(k-1)))=false:=by
 have sz:=R.r.size
 have dm:∀i,i<k→Dm (gk (arrOf st) (lo+i)):=fun i hi=>R.dmk hD (by omega)
 have gr:=U8 (p:=arrOf st) (i:=lo+k-(q+1)) (j:=lo+k) (by omega)
 have at_:∀i,i<k→∃j,j<k∧gk (x6 (arrOf st) (lo+k-(q+1)) (lo+k)) (lo+i)=gk (arrOf st) (lo+j)∧(j=i∨(k-(q+1)≤i∧k-(q+1)≤j)):=fun i hi=>by
  rw[gr]
  split
  ·exact⟨k-(q+1)+k-1-i,by omega,by congr 1;omega,.inr ⟨by omega,by omega⟩⟩
  ·exact⟨i,hi,rfl,.inl rfl⟩
 have eqv:∀i,i<k→lt (gk (x6 (arrOf st) (lo+k-(q+1)) (lo+k)) (lo+i)) (gk (arrOf st) (lo+i))=false∧lt (gk (arrOf st) (lo+i)) (gk (x6 (arrOf st) (lo+k-(q+1)) (lo+k)) (lo+i))=false:=fun i hi=>by
  obtain⟨j,hj,e,z⟩:=at_ i hi
  rw[e]
  rcases z with rfl | ⟨z1,z2⟩
  ·exact⟨T.irr _ (dm _ hi),T.irr _ (dm _ hi)⟩
  ·have a:=al i z1 hi
   have b:=al j z2 hj
   exact⟨T.tr _ _ _ (dm _ hi) (dm _ (by omega)) (dm _ hj) a.1 b.2,T.tr _ _ _ (dm _ hj) (dm _ (by omega)) (dm _ hi) b.1 a.2⟩
 have dr:∀i,i<k→Dm (gk (x6 (arrOf st) (lo+k-(q+1)) (lo+k)) (lo+i)):=fun i hi=>by
  obtain⟨j,hj,e,_⟩:=at_ i hi
  rw[e];exact dm j hj
 refine⟨fun i j hij hj=>?_,fun i hi=>?_⟩
 ·exact T.tr _ _ _ (dr j hj) (dm i (by omega)) (dr i (by omega)) (T.tr _ _ _ (dr j hj) (dm j hj) (dm i (by omega)) (eqv j hj).2 (d i j hij hj)) (eqv i (by omega)).1
 ·exact T.tr _ _ _ (dm _ (by omega)) (dm i hi) (dr i hi) (d i (k-1) (by omega) (by omega)) (eqv i hi).1
theorem a30{a:Nat}{Q:Option (Option Nat)×Nat×Nat→SortSt→Prop}(C:r6 prog w A s κ lt Dm)(T:TPK lt Dm)(hk:kindOf st0=κ)(hD:∀x∈(arrOf st0).toList,Dm x)(R:StR st0 lo (lo+n) st)(hs:lo+n≤(arrOf st0).size)(h1:1≤a)(h2:a≤n)(d:X7 lt (arrOf st) lo a)
  (h:∀k q st',a≤k→k≤n→q+1≤k→StR st0 lo (lo+n) st'→X7 lt (arrOf st') lo k→Alk lt (arrOf st') lo k q→Q (none,k,q) st'):wpS (model prog w) A E s (forIn [a:n] (none,a,0) (a9M lo)) Q st:=by
 refine wpS_forRange (fun i (c:Option (Option Nat)×Nat×Nat) st'=>c.1=none∧c.2.1=i∧c.2.2+1≤i∧StR st0 lo (lo+n) st'∧X7 lt (arrOf st') lo i∧Alk lt (arrOf st') lo i c.2.2) ?_ ?_ ⟨rfl,rfl,h1,R,d,fun i h1 h2=>?_⟩
 ·rintro i ⟨c0,k,q⟩ st1 hi1 hi2 ⟨e0,e1,hq,R1,d1,al⟩
  dsimp only at e0 e1 hq al
  subst e0 e1
  have sz:=R1.r.size
  have dm:∀i,i<lo+n→Dm (gk (arrOf st1) i):=fun i hi=>R1.dmk hD (by omega)
  refine wpS_bind (U9 C (R1.k.trans hk) (by show lo+k<_;omega) (by show lo+k-1<_;omega) (dm _ (by show lo+k<_;omega)) (dm _ (by show lo+k-1<_;omega)) ?_)
  dsimp only
  have ek:lo+k-1=lo+(k-1):=by omega
  rw[ek]
  have ext:∀p':Array Keyed,(∀i,i<k+1→Dm (gk p' (lo+i)))→X7 lt p' lo k→(∀i,i<k→lt (gk p' (lo+i)) (gk p' (lo+k))=false)→X7 lt p' lo (k+1):=fun p' dp d' c i j hij hj=>by
   by_cases hjk:j<k
   ·exact d' i j hij hjk
   ·have e:j=k:=by omega
    subst e
    by_cases hik:i=j
    ·subst hik;exact T.irr _ (dp _ (by omega))
    ·exact c i (by omega)
  have one:∀p':Array Keyed,(∀i,i<k+1→Dm (gk p' (lo+i)))→Alk lt p' lo (k+1) 0:=fun p' dp i h1 h2=>by
   have e:i=k+1-1:=by omega
   rw[e];exact⟨T.irr _ (dp _ (by omega)),T.irr _ (dp _ (by omega))⟩
  cases c:lt (gk (arrOf st1) (lo+k)) (gk (arrOf st1) (lo+(k-1)))with
  | true =>
   rw[if_pos rfl]
   have c':=T.asy _ _ (dm _ (by omega)) (dm _ (by omega)) c
   by_cases hq0:q > 0
   ·rw[if_pos hq0]
    obtain⟨dr,low⟩:=a12 T hD R1 hs (by omega) hq d1 al
    have R2:=R1.rev (i:=lo+k-(q+1)) (j:=lo+k) (by omega) (by omega) hs
    have gr:=U8 (p:=arrOf st1) (i:=lo+k-(q+1)) (j:=lo+k) (by omega)
    have gkk:gk (x6 (arrOf st1) (lo+k-(q+1)) (lo+k)) (lo+k)=gk (arrOf st1) (lo+k):=by rw[gr,if_neg (by omega)]
    have dp:∀i,i<k+1→Dm (gk (x6 (arrOf st1) (lo+k-(q+1)) (lo+k)) (lo+i)):=fun i hi=>R2.dmk hD (by omega)
    refine wpS_bind (F9 (wpS_pure ⟨rfl,rfl,by show 0+1≤k+1;omega,R2,?_,one _ dp⟩))
    exact ext _ dp dr fun i hi=>by
     rw[gkk]
     exact T.tr _ _ _ (dm _ (by omega)) (dm _ (by omega)) (dp i (by omega)) c' (low i hi)
   ·rw[if_neg hq0]
    have dp:∀i,i<k+1→Dm (gk (arrOf st1) (lo+i)):=fun i hi=>dm _ (by omega)
    exact wpS_pure ⟨rfl,rfl,by show 0+1≤k+1;omega,R1,ext _ dp d1 fun i hi=>T.tr _ _ _ (dm _ (by omega)) (dm _ (by omega)) (dm _ (by omega)) c' (d1 i (k-1) (by omega) (by omega)),one _ dp⟩
  | false =>
   rw[if_neg (by simp)]
   refine wpS_bind (U9 C (R1.k.trans hk) (by omega) (by omega) (dm _ (by omega)) (dm _ (by omega)) ?_)
   dsimp only
   cases e:lt (gk (arrOf st1) (lo+(k-1))) (gk (arrOf st1) (lo+k))with
   | true =>
    rw[if_pos rfl]
    exact wpS_pure (h k q st1 hi1 (by omega) hq R1 d1 al)
   | false =>
    rw[if_neg (by simp)]
    refine wpS_pure ⟨rfl,rfl,by show q+1+1≤k+1;omega,R1,ext _ (fun i hi=>dm _ (by omega)) d1 (fun i hi=>T.tr _ _ _ (dm _ (by omega)) (dm _ (by omega)) (dm _ (by omega)) e (d1 i (k-1) (by omega) (by omega))),fun i h1 h2=>?_⟩
    have h1:k+1-(q+1+1)≤i:=h1
    rw[Nat.add_sub_cancel]
    by_cases hik:i=k
    ·subst hik;exact⟨T.irr _ (dm _ (by omega)),T.irr _ (dm _ (by omega))⟩
    ·have a:=al i (by omega) (by omega)
     exact⟨T.tr _ _ _ (dm _ (by omega)) (dm _ (by omega)) (dm _ (by omega)) a.1 c,T.tr _ _ _ (dm _ (by omega)) (dm _ (by omega)) (dm _ (by omega)) e a.2⟩
 ·rintro⟨c0,k,q⟩ st1 ⟨e0,e1,hq,R1,d1,al⟩
  dsimp only at e0 e1 hq al
  have e2:max a n=n:=by omega
  rw[e2]at e1 hq d1 al
  subst e0 e1
  exact h k q st1 h2 (Nat.le_refl _) hq R1 d1 al
 ·have h1':a-(0+1)≤i:=h1
  have e:i=a-1:=by omega
  subst e
  exact⟨T.irr _ (R.dmk hD (by omega)),T.irr _ (R.dmk hD (by omega))⟩
theorem a31{Q:Option Nat→SortSt→Prop}(C:r6 prog w A s κ lt Dm)(T:TPK lt Dm)(hk:kindOf st=κ)(hD:∀x∈(arrOf st).toList,Dm x)(hs:lo+n≤(arrOf st).size)(hn:1≤n)
  (h:∀k st',1≤k→k≤n→StR st lo (lo+n) st'→T7 lt (arrOf st') lo k→Q (some k) st'):wpS (model prog w) A E s (countRun' lo n) Q st:=by
 have R:StR st lo (lo+n) st:=⟨rfl,rfl,rfl,.refl _ _ _⟩
 have dm:∀i,i<lo+n→Dm (gk (arrOf st) i):=fun i hi=>R.dmk hD (by omega)
 rw[a1v]
 refine wpS_bind (V0 C T hk hD R hs (Nat.le_refl _) hn (fun i j hij hj=>?_) fun m m1 m2 u z=>?_)
 ·have e:i=j:=by omega
  rw[e];exact T.irr _ (dm _ (by omega))
 dsimp only
 by_cases y:(m == n)=true
 ·rw[if_pos y]
  exact wpS_pure (h m st m1 m2 R u)
 rw[if_neg y]
 have y':m≠n:=by simpa using y
 have zl:=z (by omega)
 rw[show lo+m-1=lo+(m-1) by omega]at zl
 by_cases m0:m > 1
 ·rw[if_pos m0]
  refine wpS_bind (U9 C hk (by omega) (by omega) (dm _ (by omega)) (dm _ (by omega)) ?_)
  dsimp only
  rw[show lo+m-1=lo+(m-1) by omega]
  cases c:lt (gk (arrOf st) lo) (gk (arrOf st) (lo+(m-1)))with
  | true =>
   rw[if_pos rfl]
   exact wpS_pure (h m st m1 m2 R u)
  | false =>
   rw[if_neg (by simp)]
   refine wpS_bind (F9 ?_)
   have R2:=R.rev (i:=lo) (j:=lo+m) (Nat.le_refl _) (by omega) hs
   have gr:=U8 (p:=arrOf st) (i:=lo) (j:=lo+m) (by omega)
   have c0:lt (gk (arrOf st) (lo+0)) (gk (arrOf st) (lo+(m-1)))=false:=c
   have all:∀a b,a<m→b<m→lt (gk (arrOf st) (lo+a)) (gk (arrOf st) (lo+b))=false:=fun a b ha hb =>
    T.tr _ _ _ (dm _ (by omega)) (dm _ (by omega)) (dm _ (by omega)) (u b (m-1) (by omega) (by omega)) (T.tr _ _ _ (dm _ (by omega)) (dm _ (by omega)) (dm _ (by omega)) c0 (u 0 a (by omega) ha))
   have dn:X7 lt (arrOf (setArr st (x6 (arrOf st) lo (lo+m)))) lo (m+1):=fun i j hij hj=>by
    show lt (gk (x6 (arrOf st) lo (lo+m)) (lo+i)) (gk (x6 (arrOf st) lo (lo+m)) (lo+j))=false
    rw[gr,gr]
    by_cases hjm:j<m
    ·rw[if_pos (by omega),if_pos (by omega),show lo+(lo+m)-1-(lo+i)=lo+(m-1-i) by omega,show lo+(lo+m)-1-(lo+j)=lo+(m-1-j) by omega]
     exact all _ _ (by omega) (by omega)
    ·have e:j=m:=by omega
     subst e
     rw[if_neg (show ¬(lo≤lo+j∧lo+j<lo+j) by omega)]
     by_cases hij':i=j
     ·subst hij';rw[if_neg (by omega)];exact T.irr _ (dm _ (by omega))
     ·rw[if_pos (by omega),show lo+(lo+j)-1-(lo+i)=lo+(j-1-i) by omega]
      exact T.tr _ _ _ (dm _ (by omega)) (dm _ (by omega)) (dm _ (by omega)) (T.asy _ _ (dm _ (by omega)) (dm _ (by omega)) zl) (all _ _ (by omega) (by omega))
   refine wpS_bind (wpS_lift (wpAny_rule ⟨rfl,?_⟩))
   refine wpS_bind (a30 C T hk hD R2 hs (by omega) (by omega) dn fun k q st1 k1 k2 hq R1 d1 al=>?_)
   have sz:=R1.r.size
   dsimp only
   by_cases q0:q > 0
   ·rw[if_pos q0]
    obtain⟨dr,_⟩:=a12 T hD R1 hs (by omega) hq d1 al
    have R3:=R1.rev (i:=lo+k-(q+1)) (j:=lo+k) (by omega) (by omega) hs
    have sz3:=R3.r.size
    have R4:=R3.rev (i:=lo) (j:=lo+k) (Nat.le_refl _) (by omega) hs
    refine wpS_bind (F9 (wpS_bind (F9 (wpS_bind (V0 C T hk hD R4 hs (by omega) k2 (R7 (by omega) dr) fun k4 a1 a2 u _=>wpS_pure (h k4 _ (by omega) a2 R4 u))))))
   ·rw[if_neg q0]
    have R4:=R1.rev (i:=lo) (j:=lo+k) (Nat.le_refl _) (by omega) hs
    refine wpS_bind (F9 (wpS_bind (V0 C T hk hD R4 hs (by omega) k2 (R7 (by omega) d1) fun k4 a1 a2 u _=>wpS_pure (h k4 _ (by omega) a2 R4 u))))
 ·rw[if_neg m0]
  have e:m=1:=by omega
  subst e
  have dn:X7 lt (arrOf st) lo (1+1):=fun i j hij hj=>by
   by_cases hij':i=j
   ·subst hij';exact T.irr _ (dm _ (by omega))
   ·have e1:i=0:=by omega
    have e2:j=1:=by omega
    subst e1 e2
    exact T.asy _ _ (dm _ (by omega)) (dm _ (by omega)) zl
  refine wpS_bind (wpS_lift (wpAny_rule ⟨rfl,?_⟩))
  refine wpS_bind (a30 C T hk hD R hs (by omega) (by omega) dn fun k q st1 k1 k2 hq R1 d1 al=>?_)
  have sz:=R1.r.size
  dsimp only
  by_cases q0:q > 0
  ·rw[if_pos q0]
   obtain⟨dr,_⟩:=a12 T hD R1 hs (by omega) hq d1 al
   have R3:=R1.rev (i:=lo+k-(q+1)) (j:=lo+k) (by omega) (by omega) hs
   have sz3:=R3.r.size
   have R4:=R3.rev (i:=lo) (j:=lo+k) (Nat.le_refl _) (by omega) hs
   refine wpS_bind (F9 (wpS_bind (F9 (wpS_bind (V0 C T hk hD R4 hs (by omega) k2 (R7 (by omega) dr) fun k4 a1 a2 u _=>wpS_pure (h k4 _ (by omega) a2 R4 u))))))
  ·rw[if_neg q0]
   have R4:=R1.rev (i:=lo) (j:=lo+k) (Nat.le_refl _) (by omega) hs
   refine wpS_bind (F9 (wpS_bind (V0 C T hk hD R4 hs (by omega) k2 (R7 (by omega) d1) fun k4 a1 a2 u _=>wpS_pure (h k4 _ (by omega) a2 R4 u))))
end
section
variable {prog:Program}{w:World}{A:Around}{E:Value→Shared→Prop}{s:Shared}{κ:SortKind}{lt:Keyed→Keyed→Bool}{Dm:Keyed→Prop}{st0 st:SortSt}{lo n ok hi:Nat}
theorem a44{Q:Bool→SortSt→Prop}(C:r6 prog w A s κ lt Dm)(T:TPK lt Dm)(hk:kindOf st0=κ)(hD:∀x∈(arrOf st0).toList,Dm x)(R:StR st0 lo hi st)(hs:hi≤(arrOf st0).size)(hn:lo+n≤hi)(h1:1≤ok)(h2:ok≤n)(u:T7 lt (arrOf st) lo ok)
  (h:∀st',StR st0 lo hi st'→T7 lt (arrOf st') lo n→Q true st'):wpS (model prog w) A E s (binarySort' lo n ok) Q st:=by
 rw[a0i]
 rw[show max ok 1=ok by omega]
 refine wpS_bind (wpS_mono (wpS_forRange (fun k (c:Option Bool×Unit) st'=>c.1=none∧StR st0 lo hi st'∧T7 lt (arrOf st') lo k) (Q:=fun(c:Option Bool×Unit) st'=>c.1=none∧StR st0 lo hi st'∧T7 lt (arrOf st') lo n) ?_ ?_ ⟨rfl,R,u⟩) ?_)
 ·rintro k ⟨c0,c1⟩ st1 hk1 hk2 ⟨e0,R1,u1⟩
  have sz:=R1.r.size
  have dm:∀i,i<n→Dm (gk (arrOf st1) (lo+i)):=fun i hi=>R1.dmk hD (by omega)
  refine wpS_bind (G6 (fun(i:Nat) (c:Option Bool×Nat×Nat) st'=>c.1=none∧st'=st1∧c.2.1≤c.2.2∧c.2.2≤k∧(∀i,i<c.2.1→lt (gk (arrOf st1) (lo+k)) (gk (arrOf st1) (lo+i))=false)∧(∀i,c.2.2≤i→i<k→lt (gk (arrOf st1) (lo+i)) (gk (arrOf st1) (lo+k))=false)∧c.2.2-c.2.1≤k-i)
   (fun(c:Option Bool×Nat×Nat) st'=>c.1=none∧st'=st1∧c.2.1≤k∧(∀i,i<c.2.1→lt (gk (arrOf st1) (lo+k)) (gk (arrOf st1) (lo+i))=false)∧(∀i,c.2.1≤i→i<k→lt (gk (arrOf st1) (lo+i)) (gk (arrOf st1) (lo+k))=false)) ?_ ?_ ⟨rfl,rfl,Nat.zero_le _,Nat.le_refl _,fun i hi=>absurd hi (Nat.not_lt_zero _),fun i h1 h2=>by have h1:k≤i:=h1;omega,by show k-0≤k-0;omega⟩ ?_)
  ·rintro i ⟨d0,l,r⟩ st2 hi ⟨f0,rfl,a1,a2,a3,a4,a5⟩
   dsimp only at *
   by_cases z:l≥r
   ·rw[if_pos z]
    exact wpS_pure ⟨rfl,rfl,by show l≤k;omega,a3,fun i h1 h2=>a4 i (by have h1:l≤i:=h1;omega) h2⟩
   ·rw[if_neg z]
    refine wpS_bind (U9 C (R1.k.trans hk) (by omega) (by omega) (dm _ (by omega)) (dm _ (by omega)) ?_)
    dsimp only
    cases c:lt (gk (arrOf st2) (lo+k)) (gk (arrOf st2) (lo+(l+r)/2))with
    | true =>
     rw[if_pos rfl]
     refine wpS_pure ⟨rfl,rfl,by show l≤(l+r)/2;omega,by show(l+r)/2≤k;omega,a3,fun i h1 h2=>?_,by show(l+r)/2-l≤k-(i+1);omega⟩
     have h1:(l+r)/2≤i:=h1
     exact T.tr _ _ _ (dm _ (by omega)) (dm _ (by omega)) (dm _ (by omega)) (T.asy _ _ (dm _ (by omega)) (dm _ (by omega)) c) (u1 ((l+r)/2) i h1 h2)
    | false =>
     rw[if_neg (by simp)]
     refine wpS_pure ⟨rfl,rfl,by show(l+r)/2+1≤r;omega,a2,fun i h1=>?_,a4,by show r-((l+r)/2+1)≤k-(i+1);omega⟩
     have h1:i<(l+r)/2+1:=h1
     exact T.tr _ _ _ (dm _ (by omega)) (dm _ (by omega)) (dm _ (by omega)) (u1 i ((l+r)/2) (by omega) (by omega)) c
  ·rintro⟨d0,l,r⟩ st2 ⟨f0,rfl,a1,a2,a3,a4,a5⟩
   dsimp only at *
   exact⟨f0,rfl,by show l≤k;omega,a3,fun i h1 h2=>a4 i (by have h1:l≤i:=h1;omega) h2⟩
  ·rintro⟨d0,l,r⟩ st2 ⟨f0,rfl,a1,a3,a4⟩
   dsimp only at *
   subst f0
   dsimp only
   rw[moveDown'_eq]
   refine wpS_bind (wpS_modify (wpS_pure ?_))
   have R2:StR st0 lo hi (setArr st2 (bubble (arrOf st2) (lo+k) (lo+k-(lo+l)))):=⟨R1.k,R1.p,R1.f,R1.r.bub (by omega) (by omega) (by omega) hs⟩
   refine⟨rfl,R2,fun i j hij hj=>?_⟩
   have gb:=a3Z (p:=arrOf st2) (src:=lo+k) (d:=lo+k-(lo+l)) (by omega) (by omega)
   show lt (gk (bubble (arrOf st2) (lo+k) (lo+k-(lo+l))) (lo+j)) (gk (bubble (arrOf st2) (lo+k) (lo+k-(lo+l))) (lo+i))=false
   rw[gb,gb,show lo+k-(lo+k-(lo+l))=lo+l by omega]
   by_cases e:i=j
   ·subst e
    split
    ·exact T.irr _ (dm _ (by omega))
    ·split
     ·rw[show lo+i-1=lo+(i-1) by omega];exact T.irr _ (dm _ (by omega))
     ·exact T.irr _ (dm _ (by omega))
   by_cases hjl:j=l
   ·rw[if_pos (by omega),if_neg (by omega),if_neg (by omega)];exact a3 i (by omega)
   ·rw[if_neg (show ¬lo+j=lo+l by omega)]
    by_cases hil:i=l
    ·rw[if_pos (by omega),if_pos (by omega),show lo+j-1=lo+(j-1) by omega];exact a4 (j-1) (by omega) (by omega)
    ·rw[if_neg (show ¬lo+i=lo+l by omega)]
     by_cases h1:l<j∧j≤k
     ·rw[if_pos (show lo+l<lo+j∧lo+j≤lo+k by omega),show lo+j-1=lo+(j-1) by omega]
      by_cases h2:l<i∧i≤k
      ·rw[if_pos (show lo+l<lo+i∧lo+i≤lo+k by omega),show lo+i-1=lo+(i-1) by omega];exact u1 _ _ (by omega) (by omega)
      ·rw[if_neg (show ¬(lo+l<lo+i∧lo+i≤lo+k) by omega)];exact u1 _ _ (by omega) (by omega)
     ·rw[if_neg (show ¬(lo+l<lo+j∧lo+j≤lo+k) by omega),if_neg (show ¬(lo+l<lo+i∧lo+i≤lo+k) by omega)];exact u1 _ _ hij (by omega)
 ·rintro⟨c0,c1⟩ st1 ⟨e0,R1,u1⟩
  have e2:max ok n=n:=by omega
  rw[e2]at u1
  exact⟨e0,R1,u1⟩
 ·rintro⟨c0,c1⟩ st1 ⟨e0,R1,u1⟩
  dsimp only at e0
  subst e0
  exact wpS_pure (h st1 R1 u1)
end
def PRun(lt:Keyed→Keyed→Bool):List (Nat×Nat×Nat)→List (List Keyed)→Nat→Prop
 | [],[],_=>True
 | p::ps,S::ss,o=>p.1=o∧p.2.1=S.length∧1≤S.length∧Srt lt S∧PRun lt ps ss (o+S.length)
 | _,_,_=>False
section
variable {lt:Keyed→Keyed→Bool}
theorem PRun.len:∀{pl:List (Nat×Nat×Nat)} {segs:List (List Keyed)} {o:Nat},PRun lt pl segs o→pl.length=segs.length∧pl.length≤segs.flatten.length
 | [],[],_,_=>⟨rfl,Nat.le_refl _⟩
 | p::ps,S::ss,o,h=>by
  obtain⟨_,_,h1,_,h2⟩:=h
  have:=PRun.len h2
  simp only[List.length_cons,List.flatten_cons,List.length_append]
  omega
 | [],_::_,_,h=>h.elim
 | _::_,[],_,h=>h.elim
theorem PRun.snoc:∀{pl:List (Nat×Nat×Nat)} {segs:List (List Keyed)} {o:Nat} {c:Nat×Nat×Nat} {S:List Keyed},PRun lt pl segs o→c.1=o+segs.flatten.length→c.2.1=S.length→1≤S.length→Srt lt S→PRun lt (pl++[c]) (segs++[S]) o
 | [],[],o,c,S,_,h1,h2,h3,h4=>⟨by simpa using h1,h2,h3,h4,trivial⟩
 | p::ps,U::ss,o,c,S,h,h1,h2,h3,h4=>by
  obtain⟨a1,a2,a3,a4,a5⟩:=h
  refine⟨a1,a2,a3,a4,PRun.snoc a5 ?_ h2 h3 h4⟩
  rw[h1];simp only[List.flatten_cons,List.length_append];omega
 | [],_::_,_,_,_,h,_,_,_,_=>h.elim
 | _::_,[],_,_,_,h,_,_,_,_=>h.elim
theorem PRun.pow:∀{pl ql:List (Nat×Nat×Nat)} {segs:List (List Keyed)} {o:Nat},PRun lt pl segs o→pl.map (fun p=>(p.1,p.2.1))=ql.map (fun p=>(p.1,p.2.1))→PRun lt ql segs o
 | [],[],[],_,_,_=>trivial
 | p::ps,q::qs,S::ss,o,h,e=>by
  obtain⟨a1,a2,a3,a4,a5⟩:=h
  simp only[List.map_cons]at e
  injection e with e1 e2
  injection e1 with e1 e3
  exact⟨e1▸a1,e3▸a2,a3,a4,PRun.pow a5 e2⟩
 | [],_::_,_,_,_,e=>by cases e
 | _::_,[],_,_,_,e=>by cases e
 | [],[],_::_,_,h,_=>h.elim
 | _::_,_::_,[],_,h,_=>h.elim
theorem PRun.split:∀{pl:List (Nat×Nat×Nat)} {segs:List (List Keyed)} {o i:Nat},PRun lt pl segs o→i+1<pl.length→∃p1 a b p2 s1 U V s2,pl=p1++a::b::p2∧p1.length=i∧segs=s1++U::V::s2∧a.1=o+s1.flatten.length∧a.2.1=U.length∧b.1=a.1+U.length∧b.2.1=V.length∧1≤U.length∧1≤V.length∧Srt lt U∧Srt lt V ∧
  ∀(W:List Keyed) (c:Nat×Nat×Nat),W.length=U.length+V.length→Srt lt W→c.1=a.1→c.2.1=W.length→PRun lt (p1++c::p2) (s1++W::s2) o
 | p::q::ps,S::S'::ss,o,0,h,_=>by
  obtain⟨a1,a2,a3,a4,b1,b2,b3,b4,b5⟩:=h
  refine⟨[],p,q,ps,[],S,S',ss,rfl,rfl,rfl,by simpa using a1,a2,by omega,b2,a3,b3,a4,b4,fun W c hW hs h1 h2=>⟨by rw[h1];exact a1,h2,by omega,hs,?_⟩⟩
  rw[hW,← Nat.add_assoc]
  exact b5
 | p::ps,S::ss,o,i+1,h,hi=>by
  obtain⟨a1,a2,a3,a4,a5⟩:=h
  obtain⟨p1,a,b,p2,s1,U,V,s2,e1,e2,e3,e4,e5,e6,e7,e8,e9,e10,e11,e12⟩:=PRun.split a5 (i:=i) (by rw[List.length_cons]at hi;omega)
  refine⟨p::p1,a,b,p2,S::s1,U,V,s2,by rw[e1];rfl,by rw[List.length_cons,e2],by rw[e3];rfl,by rw[e4];simp only[List.flatten_cons,List.length_append];omega,e5,e6,e7,e8,e9,e10,e11,fun W c hW hs h1 h2=>⟨a1,a2,a3,a4,e12 W c hW hs h1 h2⟩⟩
 | [p],[S],o,0,h,hi=>by simp at hi
 | [p],S::S'::ss,o,0,h,hi=>by simp at hi
 | p::q::ps,[S],o,0,h,_=>by obtain⟨_,_,_,_,h⟩:=h;exact h.elim
 | [],[],_,_,_,hi=>by simp at hi
 | [],_::_,_,_,h,_=>h.elim
 | _::_,[],_,_,h,_=>h.elim
end
structure SI(lt:Keyed→Keyed→Bool)(st0 st:SortSt)(lo:Nat)(i4:List Keyed):Prop where
 k:kindOf st=kindOf st0
 f:failedOf st=none
 pm:(arrOf st).Perm (arrOf st0)
 run:∃segs,(arrOf st).toList=segs.flatten++i4∧segs.flatten.length=lo∧PRun lt (pendingOf st).toList segs 0
section
variable {prog:Program}{w:World}{A:Around}{E:Value→Shared→Prop}{s:Shared}{κ:SortKind}{lt:Keyed→Keyed→Bool}{Dm:Keyed→Prop}{st0 st:SortSt}{lo:Nat}{i4:List Keyed}
theorem SI.psz(I:SI lt st0 st lo i4):(pendingOf st).size≤lo:=by
 obtain⟨segs,_,e2,pr⟩:=I.run
 have:=pr.len.2
 rw[Array.length_toList]at this
 omega
theorem a52{i:Nat}{Q:Bool→SortSt→Prop}(C:r6 prog w A s κ lt Dm)(T:TPK lt Dm)(hk:kindOf st0=κ)(hD:∀x∈(arrOf st0).toList,Dm x)(I:SI lt st0 st lo i4)(hi:i+1<(pendingOf st).size)(h:∀st',SI lt st0 st' lo i4→(pendingOf st').size+1=(pendingOf st).size→Q true st'):wpS (model prog w) A E s (mergeAt' i) Q st:=by
 obtain⟨segs,e1,e2,pr⟩:=I.run
 obtain⟨p1,a,b,p2,s1,U,V,s2,f1,f2,f3,f4,f5,f6,f7,f8,f9,f10,f11,f12⟩:=pr.split (i:=i) (by rw[Array.length_toList];exact hi)
 obtain⟨sa,na,pw⟩:=a
 obtain⟨sb,nb,pw'⟩:=b
 dsimp only at f4 f5 f6 f7 f12
 have dmA:∀x∈(arrOf st).toList,Dm x:=fun x hx=>hD x (Array.mem_toList_iff.mpr (I.pm.mem_iff.mp (Array.mem_toList_iff.mp hx)))
 have g1:(pendingOf st)[i]? = some (sa,na,pw):=by
  rw[← Array.getElem?_toList,f1,List.getElem?_append_right (by omega),f2,Nat.sub_self];rfl
 have g2:(pendingOf st)[i+1]? = some (sb,nb,pw'):=by
  rw[← Array.getElem?_toList,f1,List.getElem?_append_right (by omega),f2,show i+1-i=1 by omega];rfl
 have e:(arrOf st).toList=s1.flatten++U++(V++(s2.flatten++i4)):=by
  rw[e1,f3];simp
 refine a2H (pre:=s1.flatten) (U:=U) (V:=V) (post:=s2.flatten++i4) C T (I.k.trans hk) I.f g1 g2 e (by omega) f5.symm f7.symm (by omega) (by omega) (by omega) (fun x hx=>dmA x (by rw[e];simp[hx])) (fun x hx=>dmA x (by rw[e];simp[hx])) f10 f11 fun arr' g W hW hs ea=>?_
 have lW:W.length=U.length+V.length:=by rw[hW.length_eq,List.length_append]
 have ep:(((pendingOf st).setIfInBounds i (sa,na+nb,pw)).eraseIdxIfInBounds (i+1)).toList=p1++(sa,na+nb,pw)::p2:=by
  rw[Array.toList_eraseIdxIfInBounds,Array.toList_setIfInBounds,f1,List.set_append_right _ _ (by omega),f2,Nat.sub_self,List.set_cons_zero,List.eraseIdx_append_of_length_le (by omega),f2,show i+1-i=1 by omega]
  rfl
 refine h _ ⟨I.k.symm▸(by rw[I.k];exact hk.symm),rfl,?_,s1++W::s2,?_,?_,?_⟩ ?_
 ·refine Array.Perm.trans ?_ I.pm
  refine Array.perm_iff_toList_perm.mpr ?_
  show arr'.toList.Perm _
  rw[ea,e]
  refine List.Perm.trans ?_ (List.Perm.of_eq (by simp:s1.flatten++(U++V)++(s2.flatten++i4)=_))
  exact(hW.append_left _).append_right _
 ·show arr'.toList=_
  rw[ea];simp
 ·rw[← e2,f3]
  simp only[List.flatten_append,List.flatten_cons,List.length_append,lW]
  omega
 ·show PRun lt (((pendingOf st).setIfInBounds i (sa,na+nb,pw)).eraseIdxIfInBounds (i+1)).toList _ 0
  rw[ep]
  exact f12 W _ lW hs rfl (by show na+nb=_;omega)
 ·show(((pendingOf st).setIfInBounds i (sa,na+nb,pw)).eraseIdxIfInBounds (i+1)).size+1=_
  rw[← Array.length_toList,ep,← Array.length_toList (xs:=pendingOf st),f1]
  simp
  omega
end
abbrev a9N(pw:Nat):Nat→(Option Unit×Unit)→StateT SortSt Sem (ForInStep (Option Unit×Unit)):=fun x __s_1=>do
 let __do_lift_3 ← get
 match if(pendingOf __do_lift_3).size > 1 then(pendingOf __do_lift_3)[(pendingOf __do_lift_3).size-2]? else none with
  | some (fst,fst_1,older) =>
   if older≤pw then pure (ForInStep.done (none,()))
   else do
    let __do_lift ← mergeAt' ((pendingOf __do_lift_3).size-2)
    if(!__do_lift)=true then pure (ForInStep.done (some (),()))else pure (ForInStep.yield (none,()))
  | x=>pure (ForInStep.done (none,()))
section
variable {prog:Program}{w:World}{A:Around}{E:Value→Shared→Prop}{s:Shared}{κ:SortKind}{lt:Keyed→Keyed→Bool}{Dm:Keyed→Prop}{st0 st:SortSt}{lo n:Nat}{i4:List Keyed}
theorem a32{N pw:Nat}{Q:Option Unit×Unit→SortSt→Prop}(C:r6 prog w A s κ lt Dm)(T:TPK lt Dm)(hk:kindOf st0=κ)(hD:∀x∈(arrOf st0).toList,Dm x)(I:SI lt st0 st lo i4)(h0:1≤(pendingOf st).size)(h:∀st',SI lt st0 st' lo i4→1≤(pendingOf st').size→Q (none,()) st'):wpS (model prog w) A E s (forIn [:N] (none,()) (a9N pw)) Q st:=by
 refine G6 (fun i (c:Option Unit×Unit) st'=>c.1=none∧SI lt st0 st' lo i4∧1≤(pendingOf st').size) (fun(c:Option Unit×Unit) st'=>c.1=none∧SI lt st0 st' lo i4∧1≤(pendingOf st').size) ?_ (fun c st h=>h) ⟨rfl,I,h0⟩ ?_
 ·rintro i ⟨c0,c1⟩ st1 hi ⟨e0,I1,h1⟩
  refine wpS_bind (wpS_get ?_)
  by_cases z:(pendingOf st1).size > 1
  ·rw[if_pos z]
   have hz:(pendingOf st1).size-2<(pendingOf st1).size:=by omega
   rw[Array.getElem?_eq_getElem hz]
   obtain⟨q1,q2,q3⟩:=(pendingOf st1)[(pendingOf st1).size-2]
   dsimp only
   refine a1Z (fun _=>wpS_pure ⟨rfl,I1,h1⟩) (fun _=>?_)
   refine wpS_bind (a52 C T hk hD I1 (by omega) fun st2 I2 h2=>?_)
   exact wpS_pure ⟨rfl,I2,by omega⟩
  ·rw[if_neg z]
   exact wpS_pure ⟨rfl,I1,h1⟩
 ·rintro⟨c0,c1⟩ st1 ⟨e0,I1,h1⟩
  dsimp only at e0
  subst e0
  exact h st1 I1 h1
theorem a6z{a b:Array Keyed}{m:Nat}(hs:a.size=b.size)(h:∀x,x<m→gk a x=gk b x):a.toList.take m=b.toList.take m:=by
 apply List.ext_getElem?
 intro i
 by_cases hi:i<m
 ·rw[List.getElem?_take_of_lt hi,List.getElem?_take_of_lt hi,Array.getElem?_toList,Array.getElem?_toList]
  by_cases hz:i<a.size
  ·rw[W5 hz,W5 (by omega),h i hi]
  ·rw[Array.getElem?_eq_none (by omega),Array.getElem?_eq_none (by omega)]
 ·rw[List.getElem?_eq_none (by rw[List.length_take];omega),List.getElem?_eq_none (by rw[List.length_take];omega)]
theorem SI.add(I:SI lt st0 st lo i4){st1:SortSt}(R:StR st lo (arrOf st).size st1)(hn:1≤n)(hl:lo+n≤(arrOf st).size)(u:T7 lt (arrOf st1) lo n):∃S rest',SI lt st0 st1 lo (S++rest')∧S.length=n∧Srt lt S:=by
 obtain⟨segs,e1,e2,pr⟩:=I.run
 have sz:=R.r.size
 have et:(arrOf st1).toList.take lo=segs.flatten:=by
  rw[a6z sz (fun x hx=>R.r.out x (.inl hx)),e1,← e2,List.take_left]
 have e3:(arrOf st1).toList=segs.flatten++(arrOf st1).toList.drop lo:=by rw[← et,List.take_append_drop]
 refine⟨((arrOf st1).toList.drop lo).take n,((arrOf st1).toList.drop lo).drop n,⟨R.k.trans I.k,R.f.trans I.f,R.r.pm.trans I.pm,segs,by rw[List.take_append_drop];exact e3,e2,by rw[R.p];exact pr⟩,by rw[List.length_take,List.length_drop,Array.length_toList];omega,?_⟩
 refine List.pairwise_iff_getElem.mpr fun i j hi hj hij=>?_
 have hi':=hi
 have hj':=hj
 rw[List.length_take,List.length_drop,Array.length_toList]at hi' hj'
 have at_:∀k,k<n→∀(h:k<(((arrOf st1).toList.drop lo).take n).length),(((arrOf st1).toList.drop lo).take n)[k]=gk (arrOf st1) (lo+k):=fun k hk h=>by
  have e4:(((arrOf st1).toList.drop lo).take n)[k]? = some (gk (arrOf st1) (lo+k)):=by
   rw[List.getElem?_take_of_lt hk,List.getElem?_drop,Array.getElem?_toList,W5 (by omega)]
  rw[List.getElem?_eq_getElem h]at e4
  exact Option.some.inj e4
 rw[at_ i (by omega) hi,at_ j (by omega) hj]
 exact u i j (by omega) (by omega)
theorem SI.push{S:List Keyed}{pw:Nat}(I:SI lt st0 st lo (S++i4))(hn:S.length=n)(h1:1≤n)(hs:Srt lt S):SI lt st0 (setPending st ((pendingOf st).push (lo,n,pw))) (lo+n) i4:=by
 obtain⟨segs,e1,e2,pr⟩:=I.run
 refine⟨I.k,I.f,I.pm,segs++[S],by show(arrOf st).toList=_;rw[e1];simp,by simp only[List.flatten_append,List.flatten_cons,List.flatten_nil,List.length_append,List.length_nil];omega,?_⟩
 show PRun lt ((pendingOf st).push (lo,n,pw)).toList _ 0
 rw[Array.toList_push]
 exact pr.snoc (by show lo=_;omega) (by show n=_;omega) (by omega) hs
theorem SI.pow{f:Nat×Nat×Nat→Nat×Nat×Nat}{i:Nat}(hf:∀p,((f p).1,(f p).2.1)=(p.1,p.2.1))(I:SI lt st0 st lo i4):SI lt st0 (setPending st ((pendingOf st).modify i f)) lo i4:=by
 obtain⟨segs,e1,e2,pr⟩:=I.run
 refine⟨I.k,I.f,I.pm,segs,e1,e2,?_⟩
 show PRun lt ((pendingOf st).modify i f).toList _ 0
 refine pr.pow ?_
 apply List.ext_getElem?
 intro j
 rw[List.getElem?_map,List.getElem?_map,Array.getElem?_toList,Array.getElem?_toList,Array.getElem?_modify]
 split
 ·rename_i z
  cases q:(pendingOf st)[j]? with
  | none=>rfl
  | some p=>simp[hf p]
 ·rfl
end
section
variable {prog:Program}{w:World}{A:Around}{E:Value→Shared→Prop}{s:Shared}{κ:SortKind}{lt:Keyed→Keyed→Bool}{Dm:Keyed→Prop}{st:SortSt}
theorem a45{p:Prop} [Decidable p] (a:Nat):(if p then a-1 else a)≤a:=by
 split<;>omega
theorem a2I{Q:Unit→SortSt→Prop}(C:r6 prog w A s κ lt Dm)(T:TPK lt Dm)(hk:kindOf st=κ)(hf:failedOf st=none)(hp:pendingOf st = #[])(hD:∀x∈(arrOf st).toList,Dm x)
  (h:∀st',(arrOf st').Perm (arrOf st)→failedOf st'=none→Srt lt (arrOf st').toList→Q () st'):wpS (model prog w) A E s sortRuns' Q st:=by
 rw[sortRuns'_eq]
 refine wpS_bind (wpS_get ?_)
 dsimp only
 have I0:SI lt st st 0 (arrOf st).toList:=⟨rfl,hf,.refl _,[],rfl,rfl,by rw[hp];trivial⟩
 refine wpS_bind (G6 (fun(i:Nat) (c:Option Unit×Nat) st'=>c.1=none∧i≤c.2∧c.2≤(arrOf st).size∧∃i4,SI lt st st' c.2 i4) (fun(c:Option Unit×Nat) st'=>c.1=none∧∃i4,SI lt st st' (arrOf st).size i4) ?_ ?_ ⟨rfl,Nat.le_refl _,Nat.zero_le _,_,I0⟩ ?_)
 ·rintro i ⟨c0,lo⟩ st1 hi ⟨e0,h1,h2,i4,I⟩
  dsimp only at e0 h1 h2 I
  by_cases z:lo≥(arrOf st).size
  ·rw[if_pos z]
   have e:lo=(arrOf st).size:=by omega
   subst e
   exact wpS_pure ⟨rfl,i4,I⟩
  ·rw[if_neg z]
   have sz:(arrOf st1).size=(arrOf st).size:=I.pm.size_eq
   have hD1:∀x∈(arrOf st1).toList,Dm x:=fun x hx=>hD x (Array.mem_toList_iff.mpr (I.pm.mem_iff.mp (Array.mem_toList_iff.mp hx)))
   refine wpS_bind (a31 C T (I.k.trans hk) hD1 (by omega) (by omega) fun k st2 k1 k2 R u=>?_)
   dsimp only
   have k2:k≤(arrOf st).size-lo:=k2
   have R:StR st1 lo (lo+((arrOf st).size-lo)) st2:=R
   have u:T7 lt (arrOf st2) lo k:=u
   rw[show lo+((arrOf st).size-lo)=(arrOf st1).size by omega]at R
   -- what follows a run of n
   have go:∀(n:Nat) (st3:SortSt),1≤n→lo+n≤(arrOf st).size→StR st1 lo (arrOf st1).size st3→T7 lt (arrOf st3) lo n →
     ∃S rest',SI lt st st3 lo (S++rest')∧S.length=n∧Srt lt S:=fun n st3 n1 n2 R3 u3=>I.add R3 n1 (by omega) u3
   by_cases zr:k<minRun' (arrOf st).size (arrOf st).size 0
   ·rw[if_pos zr]
    refine wpS_bind (wpS_lift (wpAny_rule ⟨rfl,?_⟩))
    refine wpS_bind (a44 C T (I.k.trans hk) hD1 R (Nat.le_refl _) (by omega) k1 (by omega) u fun st3 R3 u3=>?_)
    rw[if_neg (by simp)]
    obtain⟨S,rest',I3,hS,sS⟩:=go _ st3 (by omega) (by omega) R3 u3
    refine wpS_bind (wpS_get ?_)
    have n1':1≤min ((arrOf st).size-lo) (minRun' (arrOf st).size (arrOf st).size 0):=by omega
    have n2':lo+min ((arrOf st).size-lo) (minRun' (arrOf st).size (arrOf st).size 0)≤(arrOf st).size:=by omega
    generalize min ((arrOf st).size-lo) (minRun' (arrOf st).size (arrOf st).size 0)=n at *
    cases hb:(pendingOf st3).back? with
    | none =>
     dsimp only
     refine wpS_bind (wpS_modify (wpS_pure ⟨rfl,by show i+1≤lo+n;omega,by show lo+n≤_;omega,rest',I3.push hS (by omega) sS⟩))
    | some q =>
     obtain⟨s1,n1,pw0⟩:=q
     dsimp only
     have hps:1≤(pendingOf st3).size:=by
      by_cases y:(pendingOf st3).size=0
      ·rw[Array.back?_eq_getElem?,y]at hb
       rw[Array.getElem?_eq_none (by omega)]at hb
       cases hb
      ·omega
     refine wpS_bind (a32 C T hk hD I3 hps fun st4 I4 h4=>?_)
     dsimp only
     refine wpS_bind (wpS_modify (wpS_bind (wpS_modify (wpS_pure ⟨rfl,by show i+1≤lo+n;omega,by show lo+n≤_;omega,rest',SI.push (SI.pow (f:=fun x=>(x.1,x.2.1,power' (arrOf st).size (2*s1+n1) (2*s1+n1+n1+n) (arrOf st).size)) (fun p=>rfl) I4) hS (by omega) sS⟩))))
   ·rw[if_neg zr]
    obtain⟨S,rest',I3,hS,sS⟩:=go _ st2 k1 (by omega) R u
    refine wpS_bind (wpS_get ?_)
    cases hb:(pendingOf st2).back? with
    | none =>
     dsimp only
     refine wpS_bind (wpS_modify (wpS_pure ⟨rfl,by show i+1≤lo+k;omega,by show lo+k≤_;omega,rest',I3.push hS (by omega) sS⟩))
    | some q =>
     obtain⟨s1,n1,pw0⟩:=q
     dsimp only
     have hps:1≤(pendingOf st2).size:=by
      by_cases y:(pendingOf st2).size=0
      ·rw[Array.back?_eq_getElem?,y]at hb
       rw[Array.getElem?_eq_none (by omega)]at hb
       cases hb
      ·omega
     refine wpS_bind (a32 C T hk hD I3 hps fun st4 I4 h4=>?_)
     dsimp only
     refine wpS_bind (wpS_modify (wpS_bind (wpS_modify (wpS_pure ⟨rfl,by show i+1≤lo+k;omega,by show lo+k≤_;omega,rest',SI.push (SI.pow (f:=fun x=>(x.1,x.2.1,power' (arrOf st).size (2*s1+n1) (2*s1+n1+n1+k) (arrOf st).size)) (fun p=>rfl) I4) hS (by omega) sS⟩))))
 ·rintro⟨c0,lo⟩ st1 ⟨e0,h1,h2,i4,I⟩
  dsimp only at e0 h1 h2 I
  have e:lo=(arrOf st).size:=by omega
  subst e
  exact⟨e0,i4,I⟩
 ·rintro⟨c0,lo⟩ st1 ⟨e0,i4,I⟩
  dsimp only at e0
  subst e0
  dsimp only
  refine wpS_bind (G6 (fun(i:Nat) (c:Option Unit×Unit) st'=>c.1=none∧SI lt st st' (arrOf st).size i4∧(pendingOf st').size+i≤(arrOf st).size+1) (fun(c:Option Unit×Unit) st'=>c.1=none∧SI lt st st' (arrOf st).size i4∧(pendingOf st').size≤1) ?_ ?_ ⟨rfl,I,by have:=I.psz;show(pendingOf st1).size+0≤_;omega⟩ ?_)
  ·rintro i ⟨d0,d1⟩ st2 hi ⟨f0,I2,h2⟩
   dsimp only at f0 h2
   refine wpS_bind (wpS_get ?_)
   by_cases z:(pendingOf st2).size≤1
   ·rw[if_pos z]
    exact wpS_pure ⟨rfl,I2,z⟩
   ·rw[if_neg z]
    have key:∀j,j+1<(pendingOf st2).size→wpS (model prog w) A E s (do
      let __do_lift ← mergeAt' j
      if(!__do_lift)=true then pure (ForInStep.done (some (),()))else pure (ForInStep.yield (none,()))) (fun(r:ForInStep (Option Unit×Unit)) st'=>match r with
       | .done c'=>c'.1=none∧SI lt st st' (arrOf st).size i4∧(pendingOf st').size≤1
       | .yield c'=>c'.1=none∧SI lt st st' (arrOf st).size i4∧(pendingOf st').size+(i+1)≤(arrOf st).size+1) st2:=fun j hj =>
     wpS_bind (a52 C T hk hD I2 hj fun st3 I3 h3=>wpS_pure ⟨rfl,I3,by show(pendingOf st3).size+(i+1)≤_;omega⟩)
    refine wpS_mono (key _ ?_) fun r st' q=>by cases r<;>exact q
    exact Nat.lt_of_le_of_lt (Nat.add_le_add_right (a45 _) 1) (by omega)
  ·rintro⟨d0,d1⟩ st2 ⟨f0,I2,h2⟩
   dsimp only at f0 h2
   exact⟨f0,I2,by show(pendingOf st2).size≤1;omega⟩
  ·rintro⟨d0,d1⟩ st2 ⟨f0,I2,h2⟩
   dsimp only at f0
   subst f0
   refine wpS_pure (h st2 I2.pm I2.f ?_)
   obtain⟨segs,e1,e2,pr⟩:=I2.run
   have sz:(arrOf st2).toList.length=(arrOf st).size:=by rw[Array.length_toList];exact I2.pm.size_eq
   have er:i4=[]:=by
    have:=congrArg List.length e1
    rw[List.length_append,sz,e2]at this
    exact List.eq_nil_of_length_eq_zero (by omega)
   have hl:=pr.len.1
   rw[Array.length_toList]at hl
   rw[e1,er,List.append_nil]
   match segs,pr,hl with
   | [],_,_=>exact List.Pairwise.nil
   | [S],pr,_ =>
    match hq:(pendingOf st2).toList,pr with
    | p::ps,pr =>
     obtain⟨_,_,_,hs,_⟩:=pr
     simpa using hs
   | _::_::_,_,hl=>simp at hl;omega
end
theorem TupPre.uniq{h:Heap}{v:Value}{k l:List Int}(t:TupPre h v k)(t':TupPre h v l)(hl:k.length=l.length):k=l:=by
 obtain⟨a,o,xs,m,vs,rs,e1,ho,_,hd,hx,hi,_⟩:=t
 obtain⟨a',o',xs',m',vs',rs',e2,ho',_,hd',hx',hi',_⟩:=t'
 rw[e1]at e2;cases e2
 rw[ho]at ho';cases ho'
 rw[hd]at hd';cases hd'
 rw[hx]at hx'
 have hv:vs=vs':=(List.append_inj hx' (by rw[hi.length,hi'.length,hl])).1
 rw[← IntsAre.numsOf hi,← IntsAre.numsOf hi',hv]
theorem a33{α β:Type}(f:α→β){a:List β}{b:List β}(h:a.Perm b):∀l:List α,b=l.map f→∃m:List α,m.Perm l∧a=m.map f:=by
 induction h with
 | nil=>intro l e;exact⟨l,.refl _,e⟩
 | cons x p ih =>
  intro l e
  cases l with
  | nil=>cases e
  | cons y l =>
   rw[List.map_cons]at e
   injection e with e1 e2
   obtain⟨m,p1,q1⟩:=ih l e2
   exact⟨y::m,p1.cons y,by rw[List.map_cons,e1,q1]⟩
 | swap x y r =>
  intro l e
  match l,e with
  | a::b::l,e =>
   rw[List.map_cons,List.map_cons]at e
   injection e with e1 e2
   injection e2 with e2 e3
   exact⟨b::a::l,.swap _ _ _,by rw[List.map_cons,List.map_cons,e1,e2,e3]⟩
 | trans p q ih1 ih2 =>
  intro l e
  obtain⟨m1,p1,q1⟩:=ih2 l e
  obtain⟨m2,p2,q2⟩:=ih1 m1 q1
  exact⟨m2,p2.trans p1,q2⟩
section
variable {X:Cx}{pins:List (Addr×Obj)}{σ:St}{H:Hp}{s:Shared}{A':Around}{E:Value→Shared→Prop}
theorem a0k{D kS:Addr}{vs:List Value}{xs:List V}{e1 e2:Nat}{kA:Array Value}{st:SortSt}{p:List Nat}{P:PySem.Fin→Shared→Prop}(I:Inv X pins σ H s)(fD:FpOk X pins H D)(fk:FpOk X pins H kS)(ne:kS≠D)(hD:s.heap.get? D=some (seqObj "list" #[] e1))(hk:s.heap.get? kS=some (seqObj "list" kA e2))(rv:Vals xs vs)(h64:vs.length<1000)(hkA:kA.size≤vs.length)
  (hout:(arrOf st).map (·.2)=(p.map fun i=>vs.getD i Value.none).toArray) (hf:failedOf st=none) (hp:p.Perm (List.range xs.length))
  (h:∀s',Inv X pins σ (upd H D (.lst (p.map fun i=>xs.getD i .non))) s'→P (.done (.ret .none)) s'):wpAny (model X.prog X.w) A' (ksk_tail D false e1 (.ref kS) st) P E s:=by
 have hlen:=rv.length
 have hsz3:((p.map fun i=>vs.getD i Value.none).toArray).size=vs.length:=by rw[List.size_toArray,List.length_map,hp.length_eq,List.length_range,hlen]
 have s1:=Heap.SameBut.update s.heap kS (Obj.mapSeq fun _=>(#[]:Array Value))
 have na1:(s.heap.update kS (Obj.mapSeq fun _=>(#[]:Array Value))).get? D=some (seqObj "list" #[] e1):=(s1.2 D (Ne.symm ne)).trans hD
 have s2:=Heap.SameBut.update (s.heap.update kS (Obj.mapSeq fun _=>(#[]:Array Value))) D (Obj.mapSeq fun _=>(p.map fun i=>vs.getD i Value.none).toArray)
 obtain⟨c2,hc2⟩:∃c2,((s.heap.update kS (Obj.mapSeq fun _=>(#[]:Array Value))).update D (Obj.mapSeq fun _=>(p.map fun i=>vs.getD i Value.none).toArray)).get? D=some (seqObj "list" (p.map fun i=>vs.getD i Value.none).toArray c2):=⟨_,get?_update_seq na1 fun _=>_⟩
 unfold ksk_tail
 rw[hout,hf]
 dsimp only
 refine wpAny_bind (listUpdate_at hk rfl ?_ (by rw[sizeLine_eq];omega) (Nat.zero_le _))
 refine wpAny_bind (wpAny_letGo ?_)
 refine wpAny_bind (seqEpoch_at na1 rfl ?_)
 refine wpAny_bind (listUpdate_at na1 rfl ?_ (Nat.zero_le _) (Nat.le_trans (Nat.le_of_eq hsz3) (by rw[sizeLine_eq];omega)))
 simp only[bne_self_eq_false,Bool.false_eq_true,if_false]
 refine wpAny_pure (h _ ?_)
 have I2:=I.turnedN (t':=s.toks) (ch:=[kS,D]) (h':=((s.heap.update kS (Obj.mapSeq fun _=>(#[]:Array Value))).update D (Obj.mapSeq fun _=>(p.map fun i=>vs.getD i Value.none).toArray))) (fun b u hb e=>by
  simp only[List.mem_cons,List.not_mem_nil,or_false,not_or]at hb
  exact(s2.2 b hb.2).trans ((s1.2 b hb.1).trans e)) (fun b hb=>by
  simp only[List.mem_cons,List.not_mem_nil,or_false]at hb
  rcases hb with rfl | rfl
  ·exact fk
  ·exact fD)
 refine I2.trackO ?_ hc2 rfl ?_
 ·rintro(z | ⟨z,o,e⟩ | ⟨q,hq,e⟩)
  ·exact z fD.1
  ·rcases fD.2.2.2.1 with y | y
   ·exact z y
   ·exact absurd (Heap.lt_size e) (Nat.not_lt.mpr y)
  ·exact fD.2.2.2.2.2 q hq e
 ·refine⟨?_,p.map fun i=>vs.getD i Value.none,c2,a1g p rv fun i hi=>List.mem_range.mp (hp.mem_iff.mp hi),hc2⟩
  rw[List.length_map,hp.length_eq,List.length_range,hlen,sizeLine_eq]
  omega
theorem a34{D kS:Addr}{vs keys:List Value}{xs ys:List V}{ks:List (List Int)}{e1 e2:Nat}{P:PySem.Fin→Shared→Prop}(I:Inv X pins σ H s)(fD:FpOk X pins H D)(fk:FpOk X pins H kS)(ne:kS≠D)(hD:s.heap.get? D=some (seqObj "list" #[] e1))(hk:s.heap.get? kS=some (seqObj "list" keys.toArray e2))(rv:Vals xs vs)(rk:Vals ys keys)(hl:keys.length=vs.length)(h64:vs.length<1000)
  (vp:VPs X.K H ys ks) (hd:∀i j,i<ys.length→j<ys.length→i≠j→(ks.getD i []).length=(ks.getD j []).length∧ks.getD i []≠ks.getD j [])
  (h:∀(p:List Nat) s',p.Perm (List.range xs.length)→p.Pairwise (fun i j=>HT.lexLt (ks.getD j []) (ks.getD i [])=false)→Inv X pins σ (upd H D (.lst (p.map fun i=>xs.getD i .non))) s'→P (.done (.ret .none)) s') :
  wpAny (model X.prog X.w) A' (ksk_end D false vs.toArray e1 (.ref kS) keys.toArray) P E s:=by
 have hxl:=rv.length
 have hyl:=rk.length
 have tp:TPs s.heap keys ks:=a2Y I rk vp
 unfold ksk_end
 simp only[Bool.false_eq_true,if_false]
 by_cases h2':vs.toArray.size<2
 ·rw[if_pos h2',if_pos h2']
  refine wpAny_bind (wpAny_pure ?_)
  rw[StateT.run_pure]
  refine wpAny_bind (wpAny_pure ?_)
  have hlen:vs.length<2:=by simpa using h2'
  refine a0k (st:=SortSt.mk' general' (keys.toArray.zip vs.toArray) #[] 7 none) (p:=List.range xs.length) I fD fk ne hD hk rv h64 (by simp;omega) ?_ rfl (List.Perm.refl _) fun s' J=>h _ s' (List.Perm.refl _) ?_ J
  ·show(keys.toArray.zip vs.toArray).map (·.2)=_
   rw[hxl]
   match vs,keys,hl,hlen with
   | [],[],_,_=>simp
   | [_],[_],_,_=>simp
  ·match hn:xs.length,(show xs.length<2 by omega)with
   | 0,_=>exact .nil
   | 1,_=>exact List.pairwise_singleton _ _
 ·rw[if_neg h2',if_neg h2']
  have hlen:2≤vs.length:=by simp at h2';omega
  obtain⟨fs,t1,t2,t3⟩:=a2W tp
  refine wpAny_bind (kat_kind (T:=.type "int") t1 (by omega) (fun v hv=>by obtain⟨i,t,rfl⟩:=t3 v hv;exact .of_pure rfl) (by decide) ?_)
  have eb:(Value.type "int" != Value.type "tuple")=true:=by decide +kernel
  rw[eb]
  have hz:(keys.toArray.zip vs.toArray).toList=(List.range vs.length).map fun i=>(keys.getD i Value.none,vs.getD i Value.none):=by
   apply List.ext_getElem?
   intro i
   rw[List.getElem?_map,ksk_zip,List.toList_toArray]
   by_cases hi:i<vs.length
   ·have h1:keys[i]? = some (keys.getD i Value.none):=by rw[List.getD_eq_getElem?_getD,List.getElem?_eq_getElem (by omega)];rfl
    have h2:vs[i]? = some (vs.getD i Value.none):=by rw[List.getD_eq_getElem?_getD,List.getElem?_eq_getElem hi];rfl
    rw[List.getElem?_range hi]
    exact List.getElem?_zip_eq_some.mpr ⟨h1,h2⟩
   ·rw[List.getElem?_eq_none (by simp;omega),List.getElem?_eq_none (by simp;omega)]
    rfl
  let kf:Keyed→List Int:=fun x=>if hx:∃i,i<vs.length∧(keys.getD i Value.none,vs.getD i Value.none)=x then ks.getD (Classical.choose hx) []else[]
  have kfe:∀x,(∃i,i<vs.length∧(keys.getD i Value.none,vs.getD i Value.none)=x)→∃i,i<vs.length∧(keys.getD i Value.none,vs.getD i Value.none)=x∧kf x=ks.getD i []:=fun x hx=>by
   refine⟨Classical.choose hx,(Classical.choose_spec hx).1,(Classical.choose_spec hx).2,?_⟩
   show dite _ _ _=_
   rw[dif_pos hx]
  have kfi:∀i,i<vs.length→kf (keys.getD i Value.none,vs.getD i Value.none)=ks.getD i []:=fun i hi=>by
   obtain⟨j,hj,e,ek⟩:=kfe _ ⟨i,hi,rfl⟩
   rw[ek]
   by_cases z:j=i
   ·rw[z]
   ·have e1:keys.getD j Value.none=keys.getD i Value.none:=(Prod.mk.inj e).1
    obtain⟨hln,_⟩:=hd j i (by omega) (by omega) z
    exact TupPre.uniq (tp.at j (by omega)) (e1▸tp.at i (by omega)) hln
  have T:TPK (fun x y=>HT.lexLt (kf x) (kf y)) (fun x=>∃i,i<vs.length∧(keys.getD i Value.none,vs.getD i Value.none)=x):=⟨fun x _=>a0K _,fun x y z _ _ _ h1 h2=>a1X _ _ _ h1 h2,fun x y _ _ h=>a0L _ _ h⟩
  have CO:r6 X.prog X.w A' s (tuples' true) (fun x y=>HT.lexLt (kf x) (kf y)) (fun x=>∃i,i<vs.length∧(keys.getD i Value.none,vs.getD i Value.none)=x):=fun x y hx hy Q hQ=>by
   obtain⟨i,hi,e1,k1⟩:=kfe x hx
   obtain⟨j,hj,e2,k2⟩:=kfe y hy
   have hQ:Q (HT.lexLt (kf x) (kf y)) s:=hQ
   rw[k1,k2]at hQ
   have ex:x.1=keys.getD i Value.none:=by rw[← e1]
   have ey:y.1=keys.getD j Value.none:=by rw[← e2]
   rw[ex,ey]
   by_cases z:i=j
   ·subst z
    refine TupPre.lt_self (tp.at i (by omega)) ?_
    rw[a0K]at hQ
    exact hQ
   ·obtain⟨e,n⟩:=hd i j (by omega) (by omega) z
    exact TupPre.lt (tp.at i (by omega)) (tp.at j (by omega)) e n hQ
  refine wpAny_bind (wpAny_mono (a2I (E:=E) (st:=SortSt.mk' (tuples' true) (keys.toArray.zip vs.toArray) #[] 7 none) (Q:=fun _ st'=>(arrOf st').Perm (keys.toArray.zip vs.toArray)∧failedOf st'=none∧Srt (fun x y=>HT.lexLt (kf x) (kf y)) (arrOf st').toList) CO T rfl rfl rfl (fun x hx=>?_) fun st' a1 a2 a3=>⟨a1,a2,a3⟩) ?_ fun _ _ x=>x)
  ·have hx:x∈(keys.toArray.zip vs.toArray).toList:=hx
   rw[hz]at hx
   obtain⟨i,hi,e⟩:=List.mem_map.mp hx
   exact⟨i,List.mem_range.mp hi,e⟩
  ·rintro⟨⟨⟩,st'⟩ s' ⟨rfl,hP,hf,hS⟩
   have hP':=Array.perm_iff_toList_perm.mp hP
   rw[hz]at hP'
   obtain⟨p,hp,ep⟩:=a33 (fun i=>(keys.getD i Value.none,vs.getD i Value.none)) hP' (List.range vs.length) rfl
   have hPx:p.Perm (List.range xs.length):=by rw[hxl];exact hp
   have hlt:∀i∈p,i<vs.length:=fun i hi=>List.mem_range.mp (hp.mem_iff.mp hi)
   refine a0k (p:=p) I fD fk ne hD hk rv h64 (by simp;omega) ?_ hf hPx fun s' J=>h _ s' hPx ?_ J
   ·apply Array.toList_inj.mp
    rw[Array.toList_map,show(arrOf st').toList=_ from ep,List.map_map]
    rfl
   ·rw[show(arrOf st').toList=_ from ep]at hS
    have hS:=List.pairwise_map.mp hS
    exact List.Pairwise.imp_of_mem (fun{a b} ha hb hab=>by
     have hab:HT.lexLt (kf (keys.getD b Value.none,vs.getD b Value.none)) (kf (keys.getD a Value.none,vs.getD a Value.none))=false:=hab
     rw[kfi a (hlt a ha),kfi b (hlt b hb)]at hab
     exact hab) hS
theorem a35{D f:Addr}{vs:List Value}{xs:List V}{n0:Nat}{W:Nat→List V→Hp→Prop}{P:PySem.Fin→Shared→Prop}(I:Inv X pins σ H s)(hD:s.heap.get? D=some (seqObj "list" vs.toArray n0))(fD:FpOk X pins H D)(rv:Vals xs vs)(h64:vs.length<1000)(w0:W 0 [] H)
  (turn:∀i x v ys H' s',xs[i]? = some x→RelV x v→W i ys H'→Inv X pins σ H' s'→(∀b o u,H b=some (.frz o u)→H' b=some (.frz o u))→wpAny (model X.prog X.w) A' (call (.ref f) [v]) (fun w s''=>∃y H2,Inv X pins σ H2 s''∧RelV y w∧W (i+1) (ys++[y]) H2∧Un (v8 X.stack) [] H' H2 s'.heap s''.heap) (fun _ _=>False) s')
  (fin:∀ys H',ys.length=xs.length→W xs.length ys H'→H' D=none→∃ks,VPs X.K H' ys ks∧(∀i j,i<ys.length→j<ys.length→i≠j→(ks.getD i []).length=(ks.getD j []).length∧ks.getD i []≠ks.getD j []) ∧
   ∀(p:List Nat) s',p.Perm (List.range xs.length)→p.Pairwise (fun i j=>HT.lexLt (ks.getD j []) (ks.getD i [])=false)→Inv X pins σ (upd H' D (.lst (p.map fun i=>xs.getD i .non))) s'→P (.done (.ret .none)) s') :
  wpAny (model X.prog X.w) A' (ksk_tree D (.ref f) false) P E s:=by
 have ha:D<s.heap.objs.size:=Heap.lt_size hD
 have s1:=Heap.SameBut.update s.heap D (Obj.mapSeq fun _=>(#[]:Array Value))
 obtain⟨e1,ho1⟩:∃e1,(s.heap.update D (Obj.mapSeq fun _=>(#[]:Array Value))).get? D=some (seqObj "list" #[] e1):=⟨_,get?_update_seq hD fun _ => #[]⟩
 have hkS:((s.heap.update D (Obj.mapSeq fun _=>(#[]:Array Value))).push (seqObj "tuple" vs.toArray 0)).objs.size=s.heap.objs.size+1:=by rw[size_push',Heap.size_update]
 have hxl:=rv.length
 unfold ksk_tree
 refine wpAny_bind (listItems_at hD rfl ?_)
 refine wpAny_bind (listUpdate_at hD rfl ?_ (by rw[List.size_toArray,sizeLine_eq];omega) (Nat.zero_le _))
 refine wpAny_bind (seqEpoch_at ho1 rfl ?_)
 refine wpAny_bind (wpAny_newTuple ?_ (by show vs.length≤_;rw[sizeLine_eq];omega))
 refine wpAny_bind (wpAny_newList ?_ (Nat.zero_le _))
 refine wpAny_holding ?_
 show wpAny (model X.prog X.w) A' (ksk_rest D (.ref f) false vs.toArray e1 (.ref ((s.heap.update D (Obj.mapSeq fun _=>(#[]:Array Value))).push (seqObj "tuple" vs.toArray 0)).objs.size)) P E { s with heap:=((s.heap.update D (Obj.mapSeq fun _=>(#[]:Array Value))).push (seqObj "tuple" vs.toArray 0)).push (seqObj "list" #[] 0) }
 have hkO:(((s.heap.update D (Obj.mapSeq fun _=>(#[]:Array Value))).push (seqObj "tuple" vs.toArray 0)).push (seqObj "list" #[] 0)).get? ((s.heap.update D (Obj.mapSeq fun _=>(#[]:Array Value))).push (seqObj "tuple" vs.toArray 0)).objs.size=some (seqObj "list" #[] 0):=Heap.get?_push_size _ rfl
 have hDO:(((s.heap.update D (Obj.mapSeq fun _=>(#[]:Array Value))).push (seqObj "tuple" vs.toArray 0)).push (seqObj "list" #[] 0)).get? D=some (seqObj "list" #[] e1):=Heap.get?_push_of_some _ (Heap.get?_push_of_some _ ho1)
 have I2:=I.turnedN (t':=s.toks) (ch:=[D]) (h':=((s.heap.update D (Obj.mapSeq fun _=>(#[]:Array Value))).push (seqObj "tuple" vs.toArray 0)).push (seqObj "list" #[] 0)) (fun b u hb e=>Heap.get?_push_of_some _ (Heap.get?_push_of_some _ ((s1.2 b (fun z=>hb (by simp[z]))).trans e))) (fun b hb=>by
  simp only[List.mem_singleton]at hb;rw[hb];exact fD)
 rw[hkS]at hkO ⊢
 have fk:FpOk X pins H (s.heap.objs.size+1):=I.fpOk (Nat.le_succ _) (I.hok.fresh (Nat.le_succ _))
 have ne:s.heap.objs.size+1≠D:=Nat.ne_of_gt (Nat.lt_succ_of_lt ha)
 generalize ((s.heap.update D (Obj.mapSeq fun _=>(#[]:Array Value))).push (seqObj "tuple" vs.toArray 0)).push (seqObj "list" #[] 0)=h2 at *
 generalize s.heap.objs.size+1=kS at *
 have nD:=fD.nstk I
 have nk:=fk.nstk I
 unfold ksk_rest
 refine wpAny_bind (wpAny_rule ?_)
 first
  | rw[List.forIn_toArray]
  | (rw[← Array.forIn_toList];simp only[List.toList_toArray])
  | rw[← Array.forIn_toList]
 refine wpAny_bind (ksk_fold (fun i s'=>∃H' ys kA e,Inv X pins σ H' s'∧W i ys H'∧Vals ys kA∧ys.length=i∧s'.heap.get? kS=some (seqObj "list" kA.toArray e)∧s'.heap.get? D=some (seqObj "list" #[] e1)∧H' kS=none∧H' D=none∧∀b o u,H b=some (.frz o u)→H' b=some (.frz o u)) vs 0 { s with heap:=h2 }
  ⟨H,[],[],0,I2,w0,.nil,rfl,hkO,hDO,fk.1,fD.1,fun _ _ _ e=>e⟩ ?step ?done)
 case step =>
  rintro j v s' hv ⟨H',ys,kA,e,I',wj,rk,ly,ok,od,nk',nd',fz⟩
  simp only[Nat.zero_add]at wj ly ⊢
  obtain⟨x,hx,rx⟩:=a6w rv hv
  have hj:j<vs.length:=(List.getElem?_eq_some_iff.mp hv).1
  have hz:=rk.length
  refine wpAny_bind (wpAny_attempt (wpAny_mono (turn j x v ys H' s' hx rx wj I' fz) (fun u s'' hu=>?_) fun _ _ z=>z.elim))
  obtain⟨y,H3,I3,ry,w3,un⟩:=hu
  have ok3:=un.keep kS _ ok nk' nk (by simp)
  have od3:=un.keep D _ od nd' nD (by simp)
  have s3:=Heap.SameBut.update s''.heap kS (Obj.mapSeq (·.push u))
  obtain⟨c2,hc2⟩:∃c2,(s''.heap.update kS (Obj.mapSeq (·.push u))).get? kS=some (seqObj "list" (kA.toArray.push u) c2):=⟨_,get?_update_seq ok3 (·.push u)⟩
  have nk3:=un.free kS _ ok nk' (by simp)
  have nd3:=un.free D _ od nd' (by simp)
  refine wpAny_bind (listUpdate_at ok3 rfl ?_ (by rw[List.size_toArray,sizeLine_eq];omega) (Nat.le_trans (Nat.le_of_eq (Array.size_push ..)) (by rw[List.size_toArray,sizeLine_eq];omega)))
  refine wpAny_pure ⟨rfl,H3,ys++[y],kA++[u],c2,I3.turnedN (ch:=[kS]) (fun b o hb e=>(s3.2 b (fun z=>hb (by simp[z]))).trans e) (fun b hb=>by
   simp only[List.mem_singleton]at hb;rw[hb];exact fk.to nk3),w3,?_,by rw[List.length_append,ly];rfl,?_,(s3.2 D (Ne.symm ne)).trans od3,nk3,nd3,fun b o u e=>un.frzs _ _ _ (fz b o u e)⟩
  ·exact rk.append (.cons ry .nil)
  ·rw[show(kA++[u]).toArray=kA.toArray.push u by simp];exact hc2
 case done =>
  rintro s' ⟨H',ys,kA,e,I',wj,rk,ly,ok,od,nk',nd',fz⟩
  rw[Nat.zero_add]at wj ly
  rw[← hxl]at wj ly
  obtain⟨ks,vp,hd,q⟩:=fin ys H' ly wj nd'
  refine wpAny_bind (listItems_at ok rfl ?_)
  have:=rk.length
  exact a34 I' (fD.to nd') (fk.to nk') ne od ok rv rk (by omega) h64 vp hd q
end
def a36(K:PySem.W.Frag)(te:TE)(js:List Nat)(σ:St)(Q:VK)(vs:List V)(H1:Hp):Prop:=∃(n:Nat) (r:Addr),vs=[.ref r]∧H1 r=some (.rng 0 (n:Int))∧n<1000 ∧
 ∀H2:Hp,(∀a o,H1 a=some o→H2 a=some o)→∃W:Nat→List V→Hp→Prop,W 0 [] H2∧(∀i ys H',i<n→W i ys H'→te (a1z js σ (.int (i:Int))) H' fun y H''=>W (i+1) (ys++[y]) H'') ∧
  ∀ys H',ys.length=n→W n ys H'→∃ks,VPs K H' ys ks∧(∀i j,i<ys.length→j<ys.length→i≠j→(ks.getD i []).length=(ks.getD j []).length∧ks.getD i []≠ks.getD j []) ∧
   ∀l (p:List Nat),H' l=none→p.Perm (List.range n)→p.Pairwise (fun i j=>HT.lexLt (ks.getD j []) (ks.getD i [])=false)→Q (.ref l) (upd H' l (.lst (p.map fun(i:Nat)=>V.int (i:Int))))
def a37(K:W.Frag)(ta:TA)(te:TE)(js:List Nat):TE:=fun σ H Q=>ta σ H fun xs H1=>a1A xs H1 fun x H2=>a36 K te js σ Q [x] H2
section
variable {X:Cx}
theorem a13{k:Nat}{e body:Expr}{params:Arguments}{scope:Scope}{p p2 pos pos2 lpos kpos:Pos}{ta:TA}{te:TE}{c P:Addr}{q kn:Str}{Nc:List Str}{js:List Nat}(hr:Room k X.A)(hcalm:X.calm=true)(hg:Gl X "sorted")(hm:X.mg "sorted" = none)(hg2:Gl X "range")(hm2:X.mg "range" = none)(ha:PA X [e] ta)
  (hd:defaultsOf params X.env=([],[])) (hcode:X.env.code=.ref c) (C:CodeHd X.base c P) (hbl:X.base.BuiltinsAt X.mg P) (hq:q=X.env.qual ++ "<lambda>") (hT0:TbAt P q X.H₀) (S:CompSc X.env.scope scope X.N Nc 1 js) (hk0:Nc[0]? = some kn) (hloc:scope.names.lookup kn=some .local)
  (hbd:∀cl pm cv ctv v,bindArgs (kla_fn "<lambda>" q params body scope cl pm cv ctv) ⟨[v],[]⟩=pure [(kn,v)]) (hco:scope.isCoroutine=false) (hgen:scope.isGenerator=false)
  (hbody:∀f c' s' H',PE (a3e X X.A.in1.in1 scope q Nc f c' s' H') body te)
  (he:backTo pos (starEach [Expr.Call (.Name "range" p2) [e] [] pos2] X.env)=(false,eval (.Call (.Name "range" p2) [e] [] pos2) X.env)::backTo pos (starEach [] X.env):=by rfl) (hplain:(backTo pos (starEach [Expr.Call (.Name "range" p2) [e] [] pos2] X.env)).any (·.1)=false:=by rfl)
  (he2:starEach [e] X.env=(false,eval e X.env)::starEach [] X.env:=by rfl) (hpl2:(backTo pos2 (starEach [] X.env)).any (·.1)=false:=by rfl) :
  PE X (.Call (.Name "sorted" p) [.Call (.Name "range" p2) [e] [] pos2] [⟨some "key",.Lambda params body scope lpos,kpos⟩] pos) (a37 X.K ta te js):=by
 intro pins s σ H Q I h
 have hrng:PE X (.Call (.Name "range" p2) [e] [] pos2) (tCB a1A ta):=a1e a2y hg2 hm2 a2B ha (by decide) (by decide) he2 hpl2
 have hlam:PE X (.Lambda params body scope lpos) (fun σ H Q=>∀f c' oc u pm ctv H',(∀a o,H a=some o→H' a=some o)→H' f=some (.frz (O9 X params body scope q c' pm ctv) (.own f))→H' c'=some (.frz oc u)→W4 oc q→Q (.ref f) H'):=by
  intro pins s σ H Q I h
  obtain⟨qs,tq,hT,hqs⟩:=hT0.now I.base
  exact a40 I hd hcode C hbl hT hqs hq S.free fun f c' oc u pm ctv H' s' I' ex h1 h2 h3=>⟨.ref f,H',I',rfl,h f c' oc u pm ctv H' ex h1 h2 h3⟩
 have hk:=a6m (nm:=some "key") (kpos:=kpos) hlam (a7W (X:=X))
 have har:PA X [.Call (.Name "range" p2) [e] [] pos2] (E7 (tCB a1A ta) Q8):=a6 hrng c6
 refine wpAny_Call_Name_kw (K2 I hg hm a2A ?_)
 refine callWith_kw (h9 (har pos pins s σ H (a36 X.K te js σ Q) I h) fun us s1 ⟨vs,H1,I1,r1,q1⟩=>?_) he hplain
 obtain⟨n,r,rfl,hrr,h64,q2⟩:=q1
 refine h9 (hk pos pins s1 σ H1 (fun zs H2=>∃f c' oc u pm ctv,zs=[.ref f]∧(∀a o,H1 a=some o→H2 a=some o)∧H2 f=some (.frz (O9 X params body scope q c' pm ctv) (.own f))∧H2 c'=some (.frz oc u)∧W4 oc q) I1 fun f c' oc u pm ctv H' ex h1 h2 h3=>⟨f,c',oc,u,pm,ctv,rfl,ex,h1,h2,h3⟩) fun ws s2 ⟨zs,H2,I2,r2,q3⟩=>?_
 obtain⟨f,c',oc,u,pm,ctv,rfl,ex,hf,hc',hcq⟩:=q3
 obtain⟨W,w0,step,fin⟩:=q2 H2 ex
 obtain⟨u1,rfl,ru⟩:=r1.one
 obtain⟨u2,rfl,ru2⟩:=r2.one
 cases (show u1=Value.ref r from ru)
 cases (show u2=Value.ref f from ru2)
 obtain⟨t0,t1,t2,hro⟩:=I2.hok r _ (ex r _ hrr)
 have hh:X.A.handled=none:=I.ok.hd hcalm
 refine call_function_entry_kw kind_sorted plain_sorted entry_sorted (ksk_s1 _ _) ?_
 unfold Builtin.«sorted»
 refine wpAny_bind (m:=checkCount "sorted" 1 1 _) (wpAny_pure ?_)
 have hn:Builtin.Range.rangeSize 0 (n:Int) 1=(n:Int):=by
  unfold Builtin.Range.rangeSize
  rw[if_pos (by omega)]
  by_cases z:(0:Int)<n
  ·rw[if_pos z];omega
  ·rw[if_neg z];omega
 refine wpAny_bind (a2x (A:=X.A.in1) hh hro (small_one (by omega) (by omega) (by omega) (by omega)) hn (by omega) fun h' tk acc kp hi=>?_)
 have rv:Vals ((List.range n).map fun(i:Nat)=>V.int (i:Int)) acc.toList:=a2z hi
 have hal:acc.toList.length=n:=by rw[← rv.length,List.length_map,List.length_range]
 refine wpAny_bind (wpAny_newList ?_ (by rw[sizeLine_eq];omega))
 have I3:Inv X pins σ H2 { s2 with heap:=h',toks:=tk }:=I2.kept kp
 have hD:(h'.push (seqObj "list" acc.toList.toArray 0)).get? h'.objs.size=some (seqObj "list" acc.toList.toArray 0):=Heap.get?_push_size _ rfl
 have fD:FpOk X pins H2 h'.objs.size:=I3.fpOk (Nat.le_refl _) (I3.hok.fresh (Nat.le_refl _))
 have I4:Inv X pins σ H2 { s2 with heap:=h'.push (seqObj "list" acc.toList.toArray 0),toks:=tk }:=I3.kept (t':=tk) fun b o e=>Heap.get?_push_of_some (seqObj "list" acc.toList.toArray 0) e
 show wpAny _ _ _ _ _ { s2 with heap:=h'.push (seqObj "list" acc.toList.toArray 0),toks:=tk }
 refine wpAny_bind (wpAny_holding (wpAny_call_entry_kw slot_list_sort ⟨_,hD,rfl⟩ entry_list_sort ?body (ksk_l1 _ _)))
 case body =>
  show wpAny (model X.prog X.w) X.A.in1.in1 (Builtin.«list.sort» ⟨[.ref h'.objs.size],[(Str.ofString "key",.ref f)]⟩) _ _ _
  rw[ksk_t1]
  have hfr:X.A.in1.in1.frames=some X.stack:=I.ok.frames
  have hdp:X.A.in1.in1.depth<recursionLimit:=by have:=hr.dp;show X.A.depth<_;omega
  refine a35 (W:=W) (xs:=(List.range n).map fun(i:Nat)=>V.int (i:Int)) I4 hD fD rv (by omega) w0 (fun i x v ys H' s' hx rx wi I' fz=>?_) (fun ys H' hl wn hnD=>?_)
  ·rw[List.getElem?_map]at hx
   cases e:(List.range n)[i]? with
   | none=>rw[e]at hx;cases hx
   | some j =>
    rw[e]at hx
    cases hx
    obtain⟨e1,e2⟩:=List.getElem?_eq_some_iff.mp e
    rw[List.getElem_range]at e2
    subst e2
    rw[List.length_range]at e1
    exact a41 I' hfr hh hdp S hk0 hloc (fz _ _ _ hf) (fz _ _ _ hc') hcq (hbd _ _ _ _ _) hco hgen (hbody f c' s' H') rx (step i ys H' e1 wi)
  ·rw[List.length_map,List.length_range]at hl wn
   obtain⟨ks,vp,hd,q⟩:=fin ys H' hl wn
   refine⟨ks,vp,hd,fun p s' hp hs J=>⟨_,rfl,wpAny_pure ⟨_,rfl,.ref h'.objs.size,_,J,rfl,?_⟩⟩⟩
   rw[List.length_map,List.length_range]at hp
   have e:(p.map fun i=>((List.range n).map fun(i:Nat)=>V.int (i:Int)).getD i .non)=p.map fun(i:Nat)=>V.int (i:Int):=by
    refine List.map_congr_left fun i hi=>?_
    have hi:=List.mem_range.mp (hp.mem_iff.mp hi)
    simp[List.getD,hi]
   rw[e]
   exact q _ p hnD hp hs
end
inductive D where
 | non | bl (b:Bool) | int (i:Int) | str (x:Str) | ty (n:String) | cls (n:Str) | tup (ds:List D) | lst (ds:List D) | scr (ns:List Int) | exc (c:Str) | obj (c:Str) (ns:List Str) (ds:List D)
mutual
def Rp(K:W.Frag)(cl:Str→Addr)(F:Hp):D→V→Prop
 | .non,v=>v=.non
 | .bl b,v=>v=.bl b
 | .int i,v=>v=.int i
 | .str x,v=>v=.str x
 | .ty n,v=>v=.ty n
 | .cls n,v=>v=.ref (cl n)
 | .tup ds,v=>∃a xs,v=.ref a∧F a=some (.tup xs)∧Rps K cl F ds xs
 | .lst ds,v=>∃a xs,v=.ref a∧F a=some (.lst xs)∧Rps K cl F ds xs
 | .scr ns,v=>∃a,v=.ref a∧Scr K F a (ns.map V.int)
 | .exc c,v=>∃a cx,v=.ref a∧F a=some (a3d a (.ref (cl c)) cx)
 | .obj c ns ds,v=>∃a dx xs,v=.ref a∧F a=some (.ins (cl c) dx (ns.zip xs))∧ns.length=xs.length∧Rps K cl F ds xs
def Rps(K:W.Frag)(cl:Str→Addr)(F:Hp):List D→List V→Prop
 | [],vs=>vs=[]
 | d::ds,vs=>∃v r,vs=v::r∧Rp K cl F d v∧Rps K cl F ds r
end
section
variable {K:W.Frag}{cl:Str→Addr}{F F' H H':Hp}
mutual
theorem Rp.mono(g:Same F F'):∀(d:D) (v:V),Rp K cl F d v→Rp K cl F' d v
 | .non,_,h=>by simpa only[Rp]using h
 | .bl _,_,h=>by simpa only[Rp]using h
 | .int _,_,h=>by simpa only[Rp]using h
 | .str _,_,h=>by simpa only[Rp]using h
 | .ty _,_,h=>by simpa only[Rp]using h
 | .cls _,_,h=>by simpa only[Rp]using h
 | .tup ds,v,h=>by
  simp only[Rp]at h ⊢
  obtain⟨a,xs,e,h1,h2⟩:=h
  exact⟨a,xs,e,g _ _ h1,Rps.mono g ds xs h2⟩
 | .lst ds,v,h=>by
  simp only[Rp]at h ⊢
  obtain⟨a,xs,e,h1,h2⟩:=h
  exact⟨a,xs,e,g _ _ h1,Rps.mono g ds xs h2⟩
 | .scr ns,v,h=>by
  simp only[Rp]at h ⊢
  obtain⟨a,e,h1⟩:=h
  exact⟨a,e,h1.same g⟩
 | .exc c,v,h=>by
  simp only[Rp]at h ⊢
  obtain⟨a,cx,e,h1⟩:=h
  exact⟨a,cx,e,g _ _ h1⟩
 | .obj c ns ds,v,h=>by
  simp only[Rp]at h ⊢
  obtain⟨a,dx,xs,e,h1,hl,h2⟩:=h
  exact⟨a,dx,xs,e,g _ _ h1,hl,Rps.mono g ds xs h2⟩
theorem Rps.mono(g:Same F F'):∀(ds:List D) (vs:List V),Rps K cl F ds vs→Rps K cl F' ds vs
 | [],_,h=>by simpa only[Rps]using h
 | d::ds,vs,h=>by
  simp only[Rps]at h ⊢
  obtain⟨v,r,e,h1,h2⟩:=h
  exact⟨v,r,e,Rp.mono g d v h1,Rps.mono g ds r h2⟩
end
theorem Rps.nil:Rps K cl F [] []:=by simp only[Rps]
theorem Rps.cons{d:D}{v:V}{ds:List D}{vs:List V}(h:Rp K cl F d v)(t:Rps K cl F ds vs):Rps K cl F (d::ds) (v::vs):=by simp only[Rps];exact⟨v,vs,rfl,h,t⟩
theorem Rps.inv{d:D}{ds:List D}{vs:List V}(h:Rps K cl F (d::ds) vs):∃v r,vs=v::r∧Rp K cl F d v∧Rps K cl F ds r:=by simpa only[Rps]using h
theorem Rps.inv0{vs:List V}(h:Rps K cl F [] vs):vs=[]:=by simpa only[Rps]using h
theorem Rps.length:∀{ds:List D} {vs:List V},Rps K cl F ds vs→ds.length=vs.length
 | [],vs,h=>by rw[h.inv0];rfl
 | d::ds,vs,h=>by obtain⟨v,r,rfl,_,t⟩:=h.inv;simp[t.length]
theorem Rps.get:∀{ds:List D} {vs:List V} {i:Nat} {d:D},Rps K cl F ds vs→ds[i]? = some d→∃v,vs[i]? = some v∧Rp K cl F d v
 | [],_,_,_,_,e=>by simp at e
 | d::ds,vs,0,x,h,e=>by
  obtain⟨v,r,rfl,h1,_⟩:=h.inv
  simp at e;subst e
  exact⟨v,rfl,h1⟩
 | d::ds,vs,i+1,x,h,e=>by
  obtain⟨v,r,rfl,_,t⟩:=h.inv
  obtain⟨u,h1,h2⟩:=t.get (i:=i) (d:=x) (by simpa using e)
  exact⟨u,by simpa using h1,h2⟩
theorem Rps.get'{ds:List D}{vs:List V}{i:Nat}{v:V}(h:Rps K cl F ds vs)(e:vs[i]? = some v):∃d,ds[i]? = some d∧Rp K cl F d v:=by
 have hi:i<ds.length:=by
  have:=(List.getElem?_eq_some_iff.mp e).1
  rw[h.length];exact this
 obtain⟨u,h1,h2⟩:=h.get (List.getElem?_eq_getElem hi)
 rw[e]at h1;cases h1
 exact⟨_,List.getElem?_eq_getElem hi,h2⟩
theorem Rps.append:∀{ds es:List D} {vs us:List V},Rps K cl F ds vs→Rps K cl F es us→Rps K cl F (ds++es) (vs++us)
 | [],_,_,_,h,t=>by rw[h.inv0];exact t
 | d::ds,_,_,_,h,t=>by obtain⟨v,r,rfl,h1,h2⟩:=h.inv;exact .cons h1 (h2.append t)
theorem Rps.one{d:D}{v:V}(h:Rp K cl F d v):Rps K cl F [d] [v]:=.cons h .nil
theorem Rps.set{d:D}{v:V}(r:Rp K cl F d v):∀{ds:List D} {vs:List V} (i:Nat),Rps K cl F ds vs→Rps K cl F (ds.set i d) (vs.set i v)
 | [],_,_,h=>by rw[h.inv0];exact .nil
 | _::_,_,0,h=>by obtain⟨_,_,rfl,_,h2⟩:=h.inv;exact .cons r h2
 | _::_,_,i+1,h=>by obtain⟨_,_,rfl,h1,h2⟩:=h.inv;exact .cons h1 (h2.set r i)
theorem Rps.drop:∀{ds:List D} {vs:List V} (n:Nat),Rps K cl F ds vs→Rps K cl F (ds.drop n) (vs.drop n)
 | _,_,0,h=>h
 | [],_,_+1,h=>by rw[h.inv0];exact .nil
 | _::_,_,n+1,h=>by obtain⟨_,_,rfl,_,h2⟩:=h.inv;exact h2.drop n
theorem Rps.take:∀{ds:List D} {vs:List V} (n:Nat),Rps K cl F ds vs→Rps K cl F (ds.take n) (vs.take n)
 | _,_,0,h=>.nil
 | [],_,_+1,h=>by rw[h.inv0];exact .nil
 | _::_,_,n+1,h=>by obtain⟨_,_,rfl,h1,h2⟩:=h.inv;exact .cons h1 (h2.take n)
theorem Rps.ints:∀{ns:List Int} {vs:List V},Rps K cl F (ns.map D.int) vs→vs=ns.map V.int
 | [],_,h=>h.inv0
 | n::ns,_,h=>by
  obtain⟨v,r,rfl,h1,h2⟩:=h.inv
  rw[h2.ints]
  simp only[Rp]at h1
  rw[h1];rfl
theorem Rps.ofInts:∀{ns:List Int},Rps K cl F (ns.map D.int) (ns.map V.int)
 | []=>.nil
 | _::_=>.cons (by simp only[Rp]) Rps.ofInts
theorem Rps.strs:∀{bs:List Str} {vs:List V},Rps K cl F (bs.map D.str) vs→vs=bs.map V.str
 | [],_,h=>h.inv0
 | n::ns,_,h=>by
  obtain⟨v,r,rfl,h1,h2⟩:=h.inv
  rw[h2.strs]
  simp only[Rp]at h1
  rw[h1];rfl
end
inductive Sl where | no | fz (d:D) | ow (ds:List D) | hd (ds:List D)
abbrev DE:=List Sl
def Mu(env:DE)(i:Nat):Prop:=∃ds:List D,env[i]? = some (.ow ds)∨env[i]? = some (.hd ds)
def Ow(σ:St)(env:DE)(a:Addr):Prop:=∃(i:Nat) (ds:List D),env[i]? = some (Sl.ow ds)∧σ[i]? = some (some (V.ref a))
structure Rel(K:W.Frag)(cl:Str→Addr)(σ:St)(H F:Hp)(env:DE):Prop where
 sub:Same F H
 len:σ.length=env.length
 fz:∀(i:Nat) (d:D),env[i]? = some (.fz d)→∃v,σ[i]? = some (some v)∧Rp K cl F d v
 mu:∀(i:Nat) (ds:List D),(env[i]? = some (.ow ds)∨env[i]? = some (.hd ds))→∃a xs,σ[i]? = some (some (.ref a))∧H a=some (.lst xs)∧F a=none∧Rps K cl F ds xs
 inj:∀(i j:Nat) (a:Addr),Mu env i→Mu env j→σ[i]? = some (some (.ref a))→σ[j]? = some (some (.ref a))→i=j
structure Frm(σ:St)(H F:Hp)(env:DE)(σ':St)(H' F':Hp)(env':DE):Prop where
 fz:Same F F'
 hid:∀a o,H a=some o→F a=none→¬Ow σ env a→H' a=some o∧F' a=none∧¬Ow σ' env' a
 keep:∀(i:Nat) (ds:List D),env[i]? = some (.hd ds)→env'[i]? = some (.hd ds)∧σ'[i]? = σ[i]?
 dom:∀a,H' a=none→H a=none
structure Gr(H F H' F':Hp):Prop where
 fz:Same F F'
 sub:Same F' H'
 hid:∀a o,H a=some o→F a=none→H' a=some o∧F' a=none
section
variable {K:W.Frag}{cl:Str→Addr}{σ σ' σ'':St}{H H' H'' F F' F'':Hp}{env env' env'':DE}
theorem Frm.refl:Frm σ H F env σ H F env:=⟨Same.refl _,fun _ _ h f o=>⟨h,f,o⟩,fun _ _ h=>⟨h,rfl⟩,fun _ h=>h⟩
theorem Frm.trans(a:Frm σ H F env σ' H' F' env')(b:Frm σ' H' F' env' σ'' H'' F'' env''):Frm σ H F env σ'' H'' F'' env'' :=
 ⟨a.fz.trans b.fz,fun x o h f w=>by obtain⟨h1,f1,w1⟩:=a.hid x o h f w;exact b.hid x o h1 f1 w1,
  fun i ds h=>by obtain⟨h1,e1⟩:=a.keep i ds h;obtain⟨h2,e2⟩:=b.keep i ds h1;exact⟨h2,e2.trans e1⟩,fun x h=>a.dom x (b.dom x h)⟩
theorem Gr.dom(g:Gr H F H' F')(a:Addr)(h:H' a=none):H a=none:=by
 cases e:H a with
 | none=>rfl
 | some o =>
  cases f:F a with
  | none=>rw[(g.hid a o e f).1]at h;cases h
  | some u=>rw[g.sub _ _ (g.fz _ _ f)]at h;cases h
theorem Rel.gr(R:Rel K cl σ H F env)(g:Gr H F H' F'):Rel K cl σ H' F' env :=
 ⟨g.sub,R.len,fun i d h=>by obtain⟨v,e,r⟩:=R.fz i d h;exact⟨v,e,r.mono g.fz⟩,
  fun i ds h=>by obtain⟨a,xs,e,hH,hF,r⟩:=R.mu i ds h;obtain⟨h1,f1⟩:=g.hid a _ hH hF;exact⟨a,xs,e,h1,f1,r.mono g.fz⟩,R.inj⟩
theorem Rel.frm(R:Rel K cl σ H F env)(g:Gr H F H' F'):Frm σ H F env σ H' F' env :=
 ⟨g.fz,fun a o h f w=>by obtain⟨h1,f1⟩:=g.hid a o h f;exact⟨h1,f1,w⟩,fun _ _ h=>⟨h,rfl⟩,g.dom⟩
theorem Gr.refl(s:Same F H):Gr H F H F:=⟨Same.refl _,s,fun _ _ h f=>⟨h,f⟩⟩
theorem Gr.trans(a:Gr H F H' F')(b:Gr H' F' H'' F''):Gr H F H'' F'':=⟨a.fz.trans b.fz,b.sub,fun x o h f=>by obtain⟨h1,f1⟩:=a.hid x o h f;exact b.hid x o h1 f1⟩
theorem Gr.new{p:Addr}{o:HO}(s:Same F H)(hp:H p=none):Gr H F (upd H p o) (upd F p o):=by
 have fp:F p=none:=s.free hp
 refine⟨K7 fp o,fun b u e=>?_,fun a u e f=>?_⟩
 ·by_cases z:b=p
  ·subst z;rw[g7]at e ⊢;exact e
  ·rw[a8 z]at e ⊢;exact s _ _ e
 ·have z:a≠p:=fun z=>by rw[z,hp]at e;cases e
  rw[a8 z,a8 z];exact⟨e,f⟩
theorem Rel.freeze{i:Nat}{ds:List D}(R:Rel K cl σ H F env)(h:env[i]? = some (.ow ds)):∃a F',σ[i]? = some (some (.ref a))∧Frm σ H F env σ H F' (env.set i (.fz (.lst ds)))∧Rel K cl σ H F' (env.set i (.fz (.lst ds)))∧Rp K cl F' (.lst ds) (.ref a):=by
 obtain⟨a,xs,e,hH,hF,r⟩:=R.mu i ds (.inl h)
 have hi:i<env.length:=(List.getElem?_eq_some_iff.mp h).1
 have sF:Same F (upd F a (.lst xs)):=K7 hF _
 have oth:∀j,j≠i→(env.set i (.fz (.lst ds)))[j]? = env[j]?:=fun j hj=>List.getElem?_set_ne (Ne.symm hj)
 have self:(env.set i (.fz (.lst ds)))[i]? = some (.fz (.lst ds)):=List.getElem?_set_self hi
 have mui:∀j,Mu (env.set i (.fz (.lst ds))) j→j≠i∧Mu env j:=fun j ⟨es,q⟩=>by
  by_cases z:j=i
  ·subst z;rw[self]at q;rcases q with q | q<;>cases q
  ·rw[oth j z]at q;exact⟨z,es,q⟩
 have rl:Rp K cl (upd F a (.lst xs)) (.lst ds) (.ref a):=by simp only[Rp];exact⟨a,xs,rfl,g7,r.mono sF⟩
 refine⟨a,upd F a (.lst xs),e,⟨sF,fun b o hb fb w=>?_,fun j es q=>?_,fun _ h=>h⟩,⟨fun b o q=>?_,by rw[List.length_set];exact R.len,fun j d q=>?_,fun j es q=>?_,fun j k b hj hk e1 e2=>R.inj j k b (mui j hj).2 (mui k hk).2 e1 e2⟩,rl⟩
 ·have z:b≠a:=fun z=>w ⟨i,ds,h,by rw[z];exact e⟩
  refine⟨hb,by rw[a8 z];exact fb,fun⟨j,es,q,e1⟩=>?_⟩
  by_cases y:j=i
  ·subst y;rw[self]at q;cases q
  ·rw[oth j y]at q;exact w ⟨j,es,q,e1⟩
 ·have z:j≠i:=fun z=>by subst z;rw[h]at q;cases q
  exact⟨by rw[oth j z];exact q,rfl⟩
 ·by_cases z:b=a
  ·subst z;rw[g7]at q;cases q;exact hH
  ·rw[a8 z]at q;exact R.sub _ _ q
 ·by_cases z:j=i
  ·subst z;rw[self]at q;cases q;exact⟨_,e,rl⟩
  ·rw[oth j z]at q;obtain⟨v,e1,r1⟩:=R.fz j d q;exact⟨v,e1,r1.mono sF⟩
 ·have z:j≠i:=(mui j ⟨es,q⟩).1
  rw[oth j z]at q
  obtain⟨b,ys,e1,h1,f1,r1⟩:=R.mu j es q
  have nb:b≠a:=fun y=>z (R.inj j i b ⟨es,q⟩ ⟨ds,.inl h⟩ e1 (by rw[y];exact e))
  exact⟨b,ys,e1,h1,by rw[a8 nb];exact f1,r1.mono sF⟩
theorem Rel.put{i:Nat}{d:D}{v:V}(R:Rel K cl σ H F env)(hi:i<env.length)(nh:∀ds,env[i]?≠some (.hd ds))(r:Rp K cl F d v):Rel K cl (σ.set i (some v)) H F (env.set i (.fz d)):=by
 refine⟨R.sub,by rw[List.length_set,List.length_set];exact R.len,fun j e q=>?_,fun j es q=>?_,fun j k b hj hk e1 e2=>?_⟩
 ·by_cases z:j=i
  ·subst z
   rw[List.getElem?_set_self hi]at q;cases q
   exact⟨v,List.getElem?_set_self (by rw[R.len];exact hi),r⟩
  ·rw[List.getElem?_set_ne (Ne.symm z)]at q
   obtain⟨u,e1,r1⟩:=R.fz j e q
   exact⟨u,by rw[List.getElem?_set_ne (Ne.symm z)];exact e1,r1⟩
 ·have z:j≠i:=fun z=>by
   subst z
   rw[List.getElem?_set_self hi]at q
   rcases q with q | q<;>cases q
  rw[List.getElem?_set_ne (Ne.symm z)]at q
  obtain⟨a,xs,e1,h1,f1,r1⟩:=R.mu j es q
  exact⟨a,xs,by rw[List.getElem?_set_ne (Ne.symm z)];exact e1,h1,f1,r1⟩
 ·have nz:∀j,Mu (env.set i (.fz d)) j→j≠i∧Mu env j:=fun j ⟨es,q⟩=>by
   by_cases z:j=i
   ·subst z
    rw[List.getElem?_set_self hi]at q
    rcases q with q | q<;>cases q
   ·rw[List.getElem?_set_ne (Ne.symm z)]at q;exact⟨z,es,q⟩
  obtain⟨zj,mj⟩:=nz j hj
  obtain⟨zk,mk⟩:=nz k hk
  rw[List.getElem?_set_ne (Ne.symm zj)]at e1
  rw[List.getElem?_set_ne (Ne.symm zk)]at e2
  exact R.inj j k b mj mk e1 e2
theorem Rel.putO{i:Nat}{ds:List D}{a:Addr}{xs:List V}(R:Rel K cl σ H F env)(hi:i<env.length)(hH:H a=some (.lst xs))(hF:F a=none)(na:∀j,Mu env j→σ[j]?≠some (some (.ref a)))(r:Rps K cl F ds xs):Rel K cl (σ.set i (some (.ref a))) H F (env.set i (.ow ds)):=by
 have his:i<σ.length:=by rw[R.len];exact hi
 have nz:∀j,j≠i→Mu (env.set i (.ow ds)) j→Mu env j:=fun j z ⟨es,q⟩=>by
  rw[List.getElem?_set_ne (Ne.symm z)]at q;exact⟨es,q⟩
 refine⟨R.sub,by rw[List.length_set,List.length_set];exact R.len,fun j e q=>?_,fun j es q=>?_,fun j k b hj hk e1 e2=>?_⟩
 ·have z:j≠i:=fun z=>by subst z;rw[List.getElem?_set_self hi]at q;cases q
  rw[List.getElem?_set_ne (Ne.symm z)]at q
  obtain⟨u,e1,r1⟩:=R.fz j e q
  exact⟨u,by rw[List.getElem?_set_ne (Ne.symm z)];exact e1,r1⟩
 ·by_cases z:j=i
  ·subst z
   rw[List.getElem?_set_self hi]at q
   rcases q with q | q
   ·cases q;exact⟨a,xs,List.getElem?_set_self his,hH,hF,r⟩
   ·cases q
  ·rw[List.getElem?_set_ne (Ne.symm z)]at q
   obtain⟨b,ys,e1,h1,f1,r1⟩:=R.mu j es q
   exact⟨b,ys,by rw[List.getElem?_set_ne (Ne.symm z)];exact e1,h1,f1,r1⟩
 ·by_cases zj:j=i
  ·by_cases zk:k=i
   ·rw[zj,zk]
   ·subst zj
    rw[List.getElem?_set_self his]at e1
    rw[List.getElem?_set_ne (Ne.symm zk)]at e2
    cases e1
    exact absurd e2 (na k (nz k zk hk))
  ·rw[List.getElem?_set_ne (Ne.symm zj)]at e1
   by_cases zk:k=i
   ·subst zk
    rw[List.getElem?_set_self his]at e2
    cases e2
    exact absurd e1 (na j (nz j zj hj))
   ·rw[List.getElem?_set_ne (Ne.symm zk)]at e2
    exact R.inj j k b (nz j zj hj) (nz k zk hk) e1 e2
theorem Frm.put{i:Nat}{d:D}{x:Option V}(nh:∀ds,env[i]?≠some (.hd ds)):Frm σ H F env (σ.set i x) H F (env.set i (.fz d)):=by
 refine⟨Same.refl _,fun a o h f w=>⟨h,f,fun⟨j,ds,q,e⟩=>?_⟩,fun j ds q=>?_,fun _ h=>h⟩
 ·by_cases z:j=i
  ·subst z
   have hj:j<env.length:=by have:=(List.getElem?_eq_some_iff.mp q).1;rwa [List.length_set]at this
   rw[List.getElem?_set_self hj]at q
   cases q
  ·rw[List.getElem?_set_ne (Ne.symm z)]at q e
   exact w ⟨j,ds,q,e⟩
 ·have z:j≠i:=fun z=>by subst z;exact nh ds q
  rw[List.getElem?_set_ne (Ne.symm z),List.getElem?_set_ne (Ne.symm z)]
  exact⟨q,rfl⟩
theorem Frm.putO{i:Nat}{es:List D}{a:Addr}(f:Frm σ H F env σ' H' F' env')(ha:H a=none)(nh:∀ds,env'[i]?≠some (.hd ds)):Frm σ H F env (σ'.set i (some (.ref a))) H' F' (env'.set i (.ow es)):=by
 refine⟨f.fz,fun b o h g w=>?_,fun j ds q=>?_,f.dom⟩
 ·obtain⟨h1,f1,w1⟩:=f.hid b o h g w
  refine⟨h1,f1,fun⟨j,ds,q,e⟩=>?_⟩
  by_cases z:j=i
  ·subst z
   have hj:j<σ'.length:=by have:=(List.getElem?_eq_some_iff.mp e).1;rwa [List.length_set]at this
   rw[List.getElem?_set_self hj]at e
   cases e
   rw[ha]at h;cases h
  ·rw[List.getElem?_set_ne (Ne.symm z)]at q e
   exact w1 ⟨j,ds,q,e⟩
 ·obtain⟨q1,e1⟩:=f.keep j ds q
  have z:j≠i:=fun z=>by subst z;exact nh ds q1
  rw[List.getElem?_set_ne (Ne.symm z),List.getElem?_set_ne (Ne.symm z)]
  exact⟨q1,e1⟩
end
inductive R(α:Type) where | ok (a:α) (e:DE) | ex (c:Str)
inductive RS where | nx (e:DE) | rt (d:D) | ro (ds:List D) | rz (dss:List (List D)) | bk (e:DE) | ct (e:DE) | ex (c:Str)
def bnd{α β:Type}(x:Option (R α))(k:α→DE→Option (R β)):Option (R β):=match x with
 | none=>none
 | some (.ok a e)=>k a e
 | some (.ex c)=>some (.ex c)
def O0{α:Type}(x:Option (R α))(k:α→DE→Option RS):Option RS:=match x with
 | none=>none
 | some (.ok a e)=>k a e
 | some (.ex c)=>some (.ex c)
def T8{α:Type}(x:Option α)(e:DE):Option (R α):=match x with
 | none=>none
 | some a=>some (.ok a e)
@[simp] theorem V1{α β:Type}(a:α)(e:DE)(k:α→DE→Option (R β)):bnd (some (.ok a e)) k=k a e:=rfl
@[simp] theorem a8q{α β:Type}(c:Str)(k:α→DE→Option (R β)):bnd (some (.ex c)) k=some (.ex c):=rfl
@[simp] theorem a8r{α β:Type}(k:α→DE→Option (R β)):bnd (none:Option (R α)) k=none:=rfl
@[simp] theorem a38{α:Type}(a:α)(e:DE)(k:α→DE→Option RS):O0 (some (.ok a e)) k=k a e:=rfl
@[simp] theorem a8s{α:Type}(c:Str)(k:α→DE→Option RS):O0 (some (.ex c)) k=some (.ex c):=rfl
@[simp] theorem a8t{α:Type}(k:α→DE→Option RS):O0 (none:Option (R α)) k=none:=rfl
@[simp] theorem R8{α:Type}(a:α)(e:DE):T8 (some a) e=some (.ok a e):=rfl
@[simp] theorem R9{α:Type}(e:DE):T8 (none:Option α) e=none:=rfl
structure FX(σ:St)(H F:Hp)(env:DE)(H' F':Hp):Prop where
 fz:Same F F'
 sub:Same F' H'
 hid:∀a o,H a=some o→F a=none→¬Ow σ env a→H' a=some o∧F' a=none
 dom:∀a,H' a=none→H a=none
section
variable {K:W.Frag}{cl:Str→Addr}{E:XK}{σ σ':St}{H H' H1 F F' F1:Hp}{env env' env1:DE}{α β γ δ:Type}
theorem Frm.fx{H2 F2:Hp}(a:Frm σ H F env σ' H1 F1 env1)(b:FX σ' H1 F1 env1 H2 F2):FX σ H F env H2 F2 :=
 ⟨a.fz.trans b.fz,b.sub,fun x o h f w=>by obtain⟨h1,f1,w1⟩:=a.hid x o h f w;exact b.hid x o h1 f1 w1,fun x h=>a.dom x (b.dom x h)⟩
theorem Frm.toFX(a:Frm σ H F env σ' H1 F1 env1)(s:Same F1 H1):FX σ H F env H1 F1:=⟨a.fz,s,fun x o h f w=>by obtain⟨h1,f1,_⟩:=a.hid x o h f w;exact⟨h1,f1⟩,a.dom⟩
abbrev Py(α β:Type):=α→St→Hp→Hp→Hp→DE→β→Prop
def PM(P:Py α β):Prop:=∀a σ H0 H1 H' F' e b,(∀x:Addr,H1 x=none→H0 x=none)→P a σ H1 H' F' e b→P a σ H0 H' F' e b
def Ct(K:W.Frag)(cl:Str→Addr)(E:XK)(P:Py α β)(r:Option (R α))(σ:St)(H F:Hp)(env:DE)(Q:β→Hp→Prop):Prop:=match r with
 | none=>False
 | some (.ok a e)=>∀b H' F',Frm σ H F env σ H' F' e→Rel K cl σ H' F' e→P a σ H H' F' e b→Q b H'
 | some (.ex c)=>∀H' F',FX σ H F env H' F'→E (.ref (cl c)) none H'
def Rz(K:W.Frag)(cl:Str→Addr)(F' H':Hp)(nw:Addr→Prop)(dss:List (List D))(as:List Addr):Prop:=as.Nodup∧as.length=dss.length∧∀(k:Nat) (a:Addr) (ds:List D),as[k]? = some a→dss[k]? = some ds→∃xs,H' a=some (.lst xs)∧F' a=none∧nw a∧Rps K cl F' ds xs
theorem Rz.imp{nw nw':Addr→Prop}{dss:List (List D)}{as:List Addr}(h:Rz K cl F' H' nw dss as)(i:∀a xs,H' a=some (.lst xs)→F' a=none→nw a→nw' a):Rz K cl F' H' nw' dss as :=
 ⟨h.1,h.2.1,fun k a ds e1 e2=>by obtain⟨xs,h1,h2,h3,h4⟩:=h.2.2 k a ds e1 e2;exact⟨xs,h1,h2,i a xs h1 h2 h3,h4⟩⟩
def Cs(K:W.Frag)(cl:Str→Addr)(E:XK)(r:Option RS)(σ:St)(H F:Hp)(env:DE)(N:Ends):Prop:=match r with
 | none=>False
 | some (.nx e)=>∀σ' H' F',Frm σ H F env σ' H' F' e→Rel K cl σ' H' F' e→N.nx σ' H'
 | some (.bk e)=>∀σ' H' F',Frm σ H F env σ' H' F' e→Rel K cl σ' H' F' e→N.bk σ' H'
 | some (.ct e)=>∀σ' H' F',Frm σ H F env σ' H' F' e→Rel K cl σ' H' F' e→N.ct σ' H'
 | some (.rt d)=>∀v H' F',FX σ H F env H' F'→Rp K cl F' d v→N.rt v H'
 | some (.ro ds)=>∀a xs H' F',FX σ H F env H' F'→H' a=some (.lst xs)→F' a=none→(∀o,H a=some o→Ow σ env a)→Rps K cl F' ds xs→N.rt (.ref a) H'
 | some (.rz dss)=>∀p as H' F',FX σ H F env H' F'→H p=none→H' p=some (.tup (as.map V.ref))→F' p=none→Rz K cl F' H' (fun a=>∀o,H a=some o→Ow σ env a) dss as→N.rt (.ref p) H'
 | some (.ex c)=>∀H' F',FX σ H F env H' F'→E (.ref (cl c)) none H'
theorem Ct.mono{P:Py α β}{r:Option (R α)}{Q Q':β→Hp→Prop}(h:Ct K cl E P r σ H F env Q)(q:∀b H',Q b H'→Q' b H'):Ct K cl E P r σ H F env Q':=by
 unfold Ct at h ⊢
 split at h
 ·exact h
 ·exact fun b H' F' f R p=>q _ _ (h b H' F' f R p)
 ·exact h
theorem Ct.from{P2:Py γ δ}{r:Option (R γ)}{Q:δ→Hp→Prop}(f:Frm σ H F env σ H1 F1 env1)(pm:PM P2)(h:Ct K cl E P2 r σ H F env Q):Ct K cl E P2 r σ H1 F1 env1 Q:=by
 unfold Ct at h ⊢
 split at h
 ·exact h
 ·exact fun b H' F' f2 R2 p2=>h b H' F' (f.trans f2) R2 (pm _ _ _ _ _ _ _ _ f.dom p2)
 ·exact fun H' F' x=>h H' F' (f.fx x)
theorem Ct.bnd{P1:Py α β}{P2:Py γ δ}{r:Option (R α)}{k:α→DE→Option (R γ)}{Q:δ→Hp→Prop}(h:Ct K cl E P2 (bnd r k) σ H F env Q)(pm:PM P2) :
  Ct K cl E P1 r σ H F env fun b H1=>∃F1 env1 a,Same F F1∧Rel K cl σ H1 F1 env1∧P1 a σ H H1 F1 env1 b∧Ct K cl E P2 (k a env1) σ H1 F1 env1 Q:=by
 unfold Ct
 rcases r with _ | ⟨a,e⟩ | c
 ·exact h
 ·intro b H1 F1 f R p
  refine⟨F1,e,a,f.fz,R,p,?_⟩
  have h:Ct K cl E P2 (k a e) σ H F env Q:=h
  exact Ct.from f pm h
 ·exact h
theorem Cs.from{r:Option RS}{N:Ends}(f:Frm σ H F env σ' H1 F1 env1)(h:Cs K cl E r σ H F env N):Cs K cl E r σ' H1 F1 env1 N:=by
 unfold Cs at h ⊢
 split at h
 ·exact h
 ·exact fun σ' H' F' f2 R2=>h σ' H' F' (f.trans f2) R2
 ·exact fun σ' H' F' f2 R2=>h σ' H' F' (f.trans f2) R2
 ·exact fun σ' H' F' f2 R2=>h σ' H' F' (f.trans f2) R2
 ·exact fun v H' F' x p=>h v H' F' (f.fx x) p
 ·refine fun a xs H' F' x ha fa nw p=>h a xs H' F' (f.fx x) ha fa (fun o e=>?_) p
  refine Classical.byContradiction fun w=>?_
  cases q:F a with
  | none =>
   obtain⟨h1,f1,w1⟩:=f.hid a o e q w
   exact w1 (nw o h1)
  | some u=>rw[x.fz _ _ (f.fz _ _ q)]at fa;cases fa
 ·refine fun p as H' F' x hp ht fp rz=>h p as H' F' (f.fx x) (f.dom p hp) ht fp (rz.imp fun a xs ha fa nw o e=>?_)
  refine Classical.byContradiction fun w=>?_
  cases q:F a with
  | none =>
   obtain⟨h1,f1,w1⟩:=f.hid a o e q w
   exact w1 (nw o h1)
  | some u=>rw[x.fz _ _ (f.fz _ _ q)]at fa;cases fa
 ·exact fun H' F' x=>h H' F' (f.fx x)
theorem Cs.bnd{P1:Py α β}{r:Option (R α)}{k:α→DE→Option RS}{N:Ends}(h:Cs K cl E (O0 r k) σ H F env N) :
  Ct K cl E P1 r σ H F env fun b H1=>∃F1 env1 a,Frm σ H F env σ H1 F1 env1∧Rel K cl σ H1 F1 env1∧P1 a σ H H1 F1 env1 b∧Cs K cl E (k a env1) σ H F env N:=by
 unfold Ct
 rcases r with _ | ⟨a,e⟩ | c
 ·exact h
 ·intro b H1 F1 f R p
  exact⟨F1,e,a,f,R,p,h⟩
 ·exact h
end
def PZ(K:W.Frag)(cl:Str→Addr):Py D V:=fun d _ _ _ F' _ v=>Rp K cl F' d v
def PAs(K:W.Frag)(cl:Str→Addr):Py (List D) (List V):=fun ds _ _ _ F' _ vs=>Rps K cl F' ds vs
def PB:Py Bool Bool:=fun b _ _ _ _ _ c=>c=b
def PI':Py (Option Int) (Option Int):=fun b _ _ _ _ _ c=>c=b
def PN(K:W.Frag)(cl:Str→Addr):Py (List D) V:=fun ds σ H H' F' e v=>∃a xs,v=.ref a∧H a=none∧H' a=some (.lst xs)∧F' a=none∧(∀j,Mu e j→σ[j]?≠some (some (.ref a)))∧Rps K cl F' ds xs
theorem S0{K cl}:PM (PZ K cl):=fun _ _ _ _ _ _ _ _ _ h=>h
theorem a8u{K cl}:PM (PAs K cl):=fun _ _ _ _ _ _ _ _ _ h=>h
theorem a46:PM PB:=fun _ _ _ _ _ _ _ _ _ h=>h
theorem a9O:PM PI':=fun _ _ _ _ _ _ _ _ _ h=>h
theorem a0M{K cl}:PM (PN K cl):=fun _ _ _ _ _ _ _ _ g ⟨a,xs,e,h,r⟩=>⟨a,xs,e,g a h,r⟩
abbrev ZF:=DE→Option (R D)
abbrev NF:=DE→Option (R (List D))
abbrev AF:=DE→Option (R (List D))
abbrev BF:=DE→Option (R Bool)
abbrev OF:=DE→Option (R (Option Int))
abbrev SF:=DE→Option RS
section
variable (K:W.Frag)(cl:Str→Addr)(E:XK)
def m4(t:TE)(f:ZF):Prop:=∀σ H Q env F,Rel K cl σ H F env→Ct K cl E (PZ K cl) (f env) σ H F env Q→t σ H Q
def O1(t:TE)(f:NF):Prop:=∀σ H Q env F,Rel K cl σ H F env→Ct K cl E (PN K cl) (f env) σ H F env Q→t σ H Q
def T9(t:TA)(f:AF):Prop:=∀σ H Q env F,Rel K cl σ H F env→Ct K cl E (PAs K cl) (f env) σ H F env Q→t σ H Q
def G0(t:TT)(f:BF):Prop:=∀σ H Q env F,Rel K cl σ H F env→Ct K cl E PB (f env) σ H F env Q→t σ H Q
def RfO(t:TO)(f:OF):Prop:=∀σ H Q env F,Rel K cl σ H F env→Ct K cl E PI' (f env) σ H F env Q→t σ H Q
def RfS(t:TS)(f:SF):Prop:=∀(N:Ends) σ H env F,Rel K cl σ H F env→Cs K cl E (f env) σ H F env N→t N σ H
end
def eC(d:D):ZF:=fun e=>some (.ok d e)
def eV(i:Nat):ZF:=fun e=>match e[i]? with
 | some (.fz d)=>some (.ok d e)
 | some (.ow ds)=>some (.ok (.lst ds) (e.set i (.fz (.lst ds))))
 | _=>none
def look(e:DE)(i:Nat):Option D:=match e[i]? with
 | some (.fz d)=>some d
 | some (.ow ds)=>some (.lst ds)
 | some (.hd ds)=>some (.lst ds)
 | _=>none
def Rb(K:W.Frag)(cl:Str→Addr)(F H:Hp)(d:D)(v:V):Prop:=Rp K cl F d v∨∃a xs ds,v=.ref a∧d=.lst ds∧H a=some (.lst xs)∧Rps K cl F ds xs
section
variable {K:W.Frag}{cl:Str→Addr}{E:XK}{σ:St}{H F:Hp}{env:DE}
theorem Rel.look{i:Nat}{d:D}(R:Rel K cl σ H F env)(h:look env i=some d):∃v,σ[i]? = some (some v)∧Rb K cl F H d v:=by
 unfold L2.look at h
 split at h
 ·rename_i q;cases h;obtain⟨v,e,r⟩:=R.fz i d q;exact⟨v,e,.inl r⟩
 ·rename_i ds q;cases h;obtain⟨a,xs,e,hH,_,r⟩:=R.mu i ds (.inl q);exact⟨_,e,.inr ⟨a,xs,ds,rfl,rfl,hH,r⟩⟩
 ·rename_i ds q;cases h;obtain⟨a,xs,e,hH,_,r⟩:=R.mu i ds (.inr q);exact⟨_,e,.inr ⟨a,xs,ds,rfl,rfl,hH,r⟩⟩
 ·cases h
theorem b9{v:V}{d:D}(h:∀F,Rp K cl F d v:=by intro F;simp only[Rp]):m4 K cl E (tC v) (eC d):=fun σ H Q env F R h'=>h' v H F Frm.refl R (h F)
theorem c8{i:Nat}:m4 K cl E (A3 i) (eV i):=by
 intro σ H Q env F R h
 unfold eV at h
 split at h
 ·rename_i d q
  obtain⟨v,e,r⟩:=R.fz i d q
  exact⟨v,e,h v H F Frm.refl R r⟩
 ·rename_i ds q
  obtain⟨a,F',e,fr,R',r⟩:=R.freeze q
  exact⟨_,e,h _ H F' fr R' r⟩
 ·exact h.elim
end
def OpOk(K:W.Frag)(cl:Str→Addr)(r:R2)(g:D→D→Option D):Prop:=∀x y d e z H F Q,Same F H→Rb K cl F H d x→Rb K cl F H e y→g d e=some z→(∀v H' F',Gr H F H' F'→Rp K cl F' z v→Q v H')→r x y H Q
def eB(g:D→D→Option D)(f k:ZF):ZF:=fun e=>bnd (f e) fun d e1=>bnd (k e1) fun d' e2=>T8 (g d d') e2
def D5(g:D→D→Option D)(i:Nat)(k:ZF):ZF:=fun e=>match look e i with
 | none=>none
 | some _=>bnd (k e) fun d' e2=>match look e2 i with
  | some d=>T8 (g d d') e2
  | none=>none
def a14(g:D→D→Option D)(i j:Nat):ZF:=fun e=>match look e i,look e j with
 | some d,some d'=>T8 (g d d') e
 | _,_=>none
section
variable {K:W.Frag}{cl:Str→Addr}{E:XK}{r:R2}{g:D→D→Option D}{ta tb:TE}{f k:ZF}{i j:Nat}
theorem OpOk.fin{σ:St}{H F:Hp}{env:DE}{x y:V}{d e:D}{Q:VK}(ok:OpOk K cl r g)(R:Rel K cl σ H F env)(hx:Rb K cl F H d x)(hy:Rb K cl F H e y)(h:Ct K cl E (PZ K cl) (T8 (g d e) env) σ H F env Q):r x y H Q:=by
 cases hz:g d e with
 | none=>rw[hz]at h;exact h.elim
 | some z =>
  rw[hz]at h
  exact ok x y d e z H F Q R.sub hx hy hz fun v H' F' gr p=>h v H' F' (R.frm gr) (R.gr gr) p
theorem b0(ok:OpOk K cl r g)(ha:m4 K cl E ta f)(hb:m4 K cl E tb k):m4 K cl E (tOp r ta tb) (eB g f k):=by
 intro σ H Q env F R h
 refine ha σ H _ env F R ((Ct.bnd h S0).mono fun x H1 ⟨F1,e1,d,s1,R1,p1,h1⟩=>?_)
 refine hb σ H1 _ e1 F1 R1 ((Ct.bnd h1 S0).mono fun y H2 ⟨F2,e2,e,s2,R2,p2,h2⟩=>?_)
 exact ok.fin R2 (.inl (Rp.mono s2 _ _ p1)) (.inl p2) h2
theorem G1(ok:OpOk K cl r g)(hb:m4 K cl E tb k):m4 K cl E (tOp r (A3 i) tb) (D5 g i k):=by
 intro σ H Q env F R h
 unfold D5 at h
 cases q:look env i with
 | none=>rw[q]at h;exact h.elim
 | some d0 =>
  rw[q]at h
  obtain⟨x,e0,_⟩:=R.look q
  refine⟨x,e0,hb σ H _ env F R ((Ct.bnd h S0).mono fun y H2 ⟨F2,e2,e,s2,R2,p2,h2⟩=>?_)⟩
  cases q2:look e2 i with
  | none=>rw[q2]at h2;exact h2.elim
  | some d =>
   rw[q2]at h2
   obtain⟨x',e',rb⟩:=R2.look q2
   rw[e0]at e';cases e'
   exact ok.fin R2 rb (.inl p2) h2
theorem a6A(ok:OpOk K cl r g):m4 K cl E (tOp r (A3 i) (A3 j)) (a14 g i j):=by
 intro σ H Q env F R h
 unfold a14 at h
 cases q:look env i with
 | none=>rw[q]at h;exact h.elim
 | some d =>
  cases q2:look env j with
  | none=>rw[q,q2]at h;exact h.elim
  | some d' =>
   rw[q,q2]at h
   obtain⟨x,e,rb⟩:=R.look q
   obtain⟨y,e',rb'⟩:=R.look q2
   exact⟨x,e,y,e',ok.fin R rb rb' h⟩
end
section
variable {K:W.Frag}{cl:Str→Addr}{E:XK}
theorem Rb.int{F H:Hp}{i:Int}{v:V}(h:Rb K cl F H (.int i) v):v=.int i:=by
 rcases h with h | ⟨_,_,_,_,z,_⟩
 ·simpa only[Rp]using h
 ·cases z
theorem Rb.bl{F H:Hp}{i:Bool}{v:V}(h:Rb K cl F H (.bl i) v):v=.bl i:=by
 rcases h with h | ⟨_,_,_,_,z,_⟩
 ·simpa only[Rp]using h
 ·cases z
theorem Rb.str{F H:Hp}{i:Str}{v:V}(h:Rb K cl F H (.str i) v):v=.str i:=by
 rcases h with h | ⟨_,_,_,_,z,_⟩
 ·simpa only[Rp]using h
 ·cases z
theorem Rb.non{F H:Hp}{v:V}(h:Rb K cl F H .non v):v=.non:=by
 rcases h with h | ⟨_,_,_,_,z,_⟩
 ·simpa only[Rp]using h
 ·cases z
theorem Rb.lst{F H:Hp}{ds:List D}{v:V}(s:Same F H)(h:Rb K cl F H (.lst ds) v):∃a xs,v=.ref a∧H a=some (.lst xs)∧Rps K cl F ds xs:=by
 rcases h with h | ⟨a,xs,ds',e,z,h,r⟩
 ·simp only[Rp]at h
  obtain⟨a,xs,e,h,r⟩:=h
  exact⟨a,xs,e,s _ _ h,r⟩
 ·cases z;exact⟨a,xs,e,h,r⟩
theorem Rb.tup{F H:Hp}{ds:List D}{v:V}(s:Same F H)(h:Rb K cl F H (.tup ds) v):∃a xs,v=.ref a∧H a=some (.tup xs)∧Rps K cl F ds xs:=by
 rcases h with h | ⟨_,_,_,_,z,_⟩
 ·simp only[Rp]at h
  obtain⟨a,xs,e,h,r⟩:=h
  exact⟨a,xs,e,s _ _ h,r⟩
 ·cases z
theorem Rb.scr{F H:Hp}{ns:List Int}{v:V}(s:Same F H)(h:Rb K cl F H (.scr ns) v):∃a,v=.ref a∧Scr K H a (ns.map V.int):=by
 rcases h with h | ⟨_,_,_,_,z,_⟩
 ·simp only[Rp]at h
  obtain⟨a,e,h⟩:=h
  exact⟨a,e,h.same s⟩
 ·cases z
def gI(C:Int→Int→Prop) [∀i j,Decidable (C i j)] (g:Int→Int→D):D→D→Option D
 | .int i,.int j=>if C i j then some (g i j)else none
 | _,_=>none
def gI0(g:Int→Int→D):D→D→Option D
 | .int i,.int j=>some (g i j)
 | _,_=>none
theorem a3g{C:Int→Int→Prop} [∀i j,Decidable (C i j)] {g:Int→Int→V} {g':Int→Int→D} (hg:∀F i j,Rp K cl F (g' i j) (g i j)):OpOk K cl (rI C g) (gI C g'):=by
 intro x y d e z H F Q s hx hy h q
 unfold gI at h
 split at h
 ·rename_i i j
  split at h
  ·rename_i c;cases h
   exact⟨i,j,hx.int,hy.int,c,q _ H F (.refl s) (hg F i j)⟩
  ·cases h
 ·cases h
theorem a0l{g:Int→Int→V}{g':Int→Int→D}(hg:∀F i j,Rp K cl F (g' i j) (g i j)):OpOk K cl (P6 g) (gI0 g'):=by
 intro x y d e z H F Q s hx hy h q
 unfold gI0 at h
 split at h
 ·rename_i i j
  cases h
  exact⟨i,j,hx.int,hy.int,q _ H F (.refl s) (hg F i j)⟩
 ·cases h
end
section
variable {K:W.Frag}{cl:Str→Addr}{E:XK}{σ:St}{H F:Hp}{env:DE}
theorem Rel.newN{p:Addr}{o:HO}(R:Rel K cl σ H F env)(hp:H p=none):Rel K cl σ (upd H p o) F env∧Frm σ H F env σ (upd H p o) F env:=by
 have fp:F p=none:=R.sub.free hp
 have ne:∀a u,H a=some u→a≠p:=fun a u h z=>by rw[z,hp]at h;cases h
 refine⟨⟨R.sub.trans (K7 hp _),R.len,R.fz,fun i ds h=>?_,R.inj⟩,⟨Same.refl _,fun a u h f w=>?_,fun _ _ h=>⟨h,rfl⟩,fun a h=>?_⟩⟩
 ·obtain⟨a,xs,e,hH,hF,r⟩:=R.mu i ds h
  exact⟨a,xs,e,by rw[a8 (ne _ _ hH)];exact hH,hF,r⟩
 ·exact⟨by rw[a8 (ne _ _ h)];exact h,f,w⟩
 ·by_cases z:a=p
  ·rw[z];exact hp
  ·rw[a8 z]at h;exact h
theorem Ct.newN{p:Addr}{xs:List V}{ds:List D}{Q:VK}(R:Rel K cl σ H F env)(hp:H p=none)(r:Rps K cl F ds xs)(h:Ct K cl E (PN K cl) (some (.ok ds env)) σ H F env Q):Q (.ref p) (upd H p (.lst xs)):=by
 obtain⟨R',f⟩:=R.newN (o:=.lst xs) hp
 refine h _ _ F f R' ⟨p,xs,rfl,hp,g7,R.sub.free hp,fun j mj e=>?_,r⟩
 obtain⟨ds',q⟩:=mj
 obtain⟨a,ys,e1,hH,_⟩:=R.mu j ds' q
 rw[e]at e1;cases e1
 rw[hp]at hH;cases hH
def zN(f:NF):ZF:=fun e=>bnd (f e) fun ds e1=>some (.ok (.lst ds) e1)
theorem a1B{t:TE}{f:NF}(h:O1 K cl E t f):m4 K cl E t (zN f):=by
 intro σ H Q env F R q
 refine h σ H Q env F R ?_
 unfold zN at q
 rcases hf:f env with _ | ⟨ds,e1⟩ | c
 ·rw[hf]at q;exact q
 ·rw[hf]at q
  rintro b H' F' fr R' ⟨a,xs,rfl,hn,hH,hF,nm,r⟩
  have sF:Same F' (upd F' a (.lst xs)):=K7 hF _
  refine q _ H' (upd F' a (.lst xs)) ⟨fr.fz.trans sF,fun b o hb fb w=>?_,fr.keep,fr.dom⟩ ⟨fun b o z=>?_,R'.len,fun i d z=>?_,fun i es z=>?_,R'.inj⟩ (by show Rp K cl _ (.lst ds) _;simp only[Rp];exact⟨a,xs,rfl,g7,r.mono sF⟩)
  ·obtain⟨h1,f1,w1⟩:=fr.hid b o hb fb w
   have nb:b≠a:=fun z=>by rw[z,hn]at hb;cases hb
   exact⟨h1,by rw[a8 nb];exact f1,w1⟩
  ·by_cases y:b=a
   ·subst y;rw[g7]at z;cases z;exact hH
   ·rw[a8 y]at z;exact R'.sub _ _ z
  ·obtain⟨v,e,r1⟩:=R'.fz i d z
   exact⟨v,e,r1.mono sF⟩
  ·obtain⟨b,ys,e,h1,f1,r1⟩:=R'.mu i es z
   have nb:b≠a:=fun y=>nm i ⟨es,z⟩ (by rw[e,y])
   exact⟨b,ys,e,h1,by rw[a8 nb];exact f1,r1.mono sF⟩
 ·rw[hf]at q;exact q
def aN:AF:=fun e=>some (.ok [] e)
def aC(f:ZF)(k:AF):AF:=fun e=>bnd (f e) fun d e1=>bnd (k e1) fun ds e2=>some (.ok (d::ds) e2)
theorem g9:T9 K cl E Q8 aN:=fun σ H Q env F R h=>h [] H F Frm.refl R .nil
theorem c9{te:TE}{ta:TA}{f:ZF}{k:AF}(hf:m4 K cl E te f)(hk:T9 K cl E ta k):T9 K cl E (E7 te ta) (aC f k):=by
 intro σ H Q env F R h
 refine hf σ H _ env F R ((Ct.bnd h a8u).mono fun x H1 ⟨F1,e1,d,s1,R1,p1,h1⟩=>?_)
 refine hk σ H1 _ e1 F1 R1 ((Ct.bnd h1 a8u).mono fun xs H2 ⟨F2,e2,ds,s2,R2,p2,h2⟩=>?_)
 exact h2 (x::xs) H2 F2 Frm.refl R2 (.cons (Rp.mono s2 _ _ p1) p2)
def eT(f:AF):ZF:=fun e=>bnd (f e) fun ds e1=>if ds.length≤sizeLine then some (.ok (.tup ds) e1)else none
def eL(f:AF):NF:=fun e=>bnd (f e) fun ds e1=>if ds.length≤sizeLine then some (.ok ds e1)else none
theorem Y5{ta:TA}{f:AF}(hf:T9 K cl E ta f):m4 K cl E (a7T ta) (eT f):=by
 intro σ H Q env F R h
 refine hf σ H _ env F R ((Ct.bnd h S0).mono fun xs H1 ⟨F1,e1,ds,s1,R1,p1,h1⟩=>?_)
 have hl:ds.length=xs.length:=Rps.length p1
 split at h1
 ·rename_i z
  refine⟨by rw[← hl];exact z,fun p hp=>?_⟩
  have g:Gr H1 F1 (upd H1 p (.tup xs)) (upd F1 p (.tup xs)):=.new R1.sub hp
  exact h1 _ _ _ (R1.frm g) (R1.gr g) (by show Rp K cl _ (.tup ds) _;simp only[Rp];exact⟨p,xs,rfl,g7,Rps.mono g.fz _ _ p1⟩)
 ·exact h1.elim
theorem a8w{ta:TA}{f:AF}(hf:T9 K cl E ta f):O1 K cl E (a7U ta) (eL f):=by
 intro σ H Q env F R h
 refine hf σ H _ env F R ((Ct.bnd h a0M).mono fun xs H1 ⟨F1,e1,ds,s1,R1,p1,h1⟩=>?_)
 have hl:ds.length=xs.length:=Rps.length p1
 split at h1
 ·rename_i z
  exact⟨by rw[← hl];exact z,fun p hp=>Ct.newN R1 hp p1 h1⟩
 ·exact h1.elim
def bZ(f:ZF):BF:=fun e=>bnd (f e) fun d e1=>match d with
 | .bl b=>some (.ok b e1)
 | _=>none
theorem J5{t:TE}{f:ZF}(hf:m4 K cl E t f):G0 K cl E (tB t) (bZ f):=by
 intro σ H Q env F R h
 refine hf σ H _ env F R ((Ct.bnd h a46).mono fun x H1 ⟨F1,e1,d,s1,R1,p1,h1⟩=>?_)
 split at h1
 ·rename_i b
  have:x=.bl b:=by have:=(show Rp K cl F1 (.bl b) x from p1);simpa only[Rp]using this
  exact⟨b,this,h1 b H1 F1 Frm.refl R1 rfl⟩
 ·exact h1.elim
theorem A1{t:TE}{f:ZF}(hf:m4 K cl E t f):G0 K cl E (a5T t) (bZ f):=J5 hf
def v5(f:BF):BF:=fun e=>bnd (f e) fun b e1=>some (.ok (!b) e1)
def J0(f k:BF):BF:=fun e=>bnd (f e) fun b e1=>if b=true then some (.ok true e1)else k e1
theorem B8{t:TT}{f:BF}(hf:G0 K cl E t f):G0 K cl E (a7J t) (v5 f):=by
 intro σ H Q env F R h
 refine hf σ H _ env F R ((Ct.bnd h a46).mono fun x H1 ⟨F1,e1,d,s1,R1,p1,h1⟩=>?_)
 cases (show x=d from p1)
 exact h1 _ H1 F1 Frm.refl R1 rfl
theorem L4{t u:TT}{f k:BF}(hf:G0 K cl E t f)(hk:G0 K cl E u k):G0 K cl E (tOr t u) (J0 f k):=by
 intro σ H Q env F R h
 refine hf σ H _ env F R ((Ct.bnd h a46).mono fun x H1 ⟨F1,e1,d,s1,R1,p1,h1⟩=>?_)
 cases (show x=d from p1)
 by_cases z:x=true
 ·rw[if_pos z]at h1 ⊢;exact h1 _ H1 F1 Frm.refl R1 rfl
 ·rw[if_neg z]at h1 ⊢;exact hk σ H1 Q e1 F1 R1 h1
def a47(f:ZF):ZF:=fun e=>bnd (f e) fun d e1=>match d with
 | .bl b=>some (.ok (.bl (!b)) e1)
 | _=>none
def a48(f k:ZF):ZF:=fun e=>bnd (f e) fun d e1=>match d with
 | .bl b=>if b=true then k e1 else some (.ok (.bl false) e1)
 | _=>none
theorem a8x{t:TE}{f:ZF}(hf:m4 K cl E t f):m4 K cl E (a5L t) (a47 f):=by
 intro σ H Q env F R h
 refine hf σ H _ env F R ((Ct.bnd h S0).mono fun x H1 ⟨F1,e1,d,s1,R1,p1,h1⟩=>?_)
 split at h1
 ·rename_i b
  have:x=.bl b:=by have:=(show Rp K cl F1 (.bl b) x from p1);simpa only[Rp]using this
  exact⟨b,this,h1 _ H1 F1 Frm.refl R1 (by show Rp K cl F1 (.bl _) _;simp only[Rp])⟩
 ·exact h1.elim
theorem a8y{t u:TE}{f k:ZF}(hf:m4 K cl E t f)(hk:m4 K cl E u k):m4 K cl E (a5K t u) (a48 f k):=by
 intro σ H Q env F R h
 refine hf σ H _ env F R ((Ct.bnd h S0).mono fun x H1 ⟨F1,e1,d,s1,R1,p1,h1⟩=>?_)
 split at h1
 ·rename_i b
  have:x=.bl b:=by have:=(show Rp K cl F1 (.bl b) x from p1);simpa only[Rp]using this
  refine⟨b,this,?_⟩
  by_cases z:b=true
  ·rw[if_pos z]at h1 ⊢;exact hk σ H1 Q e1 F1 R1 h1
  ·rw[if_neg z]at h1 ⊢;exact h1 _ H1 F1 Frm.refl R1 (by show Rp K cl F1 (.bl _) _;simp only[Rp])
 ·exact h1.elim
def a8z(K:W.Frag)(cl:Str→Addr)(r:V→Hp→VK→Prop)(g:D→Option D):Prop:=∀x d z H F Q,Same F H→Rb K cl F H d x→g d=some z→(∀v H' F',Gr H F H' F'→Rp K cl F' z v→Q v H')→r x H Q
def eU(g:D→Option D)(f:ZF):ZF:=fun e=>bnd (f e) fun d e1=>T8 (g d) e1
theorem V2{r:V→Hp→VK→Prop}{g:D→Option D}{t:TE}{f:ZF}(ok:a8z K cl r g)(hf:m4 K cl E t f):m4 K cl E (tUn r t) (eU g f):=by
 intro σ H Q env F R h
 refine hf σ H _ env F R ((Ct.bnd h S0).mono fun x H1 ⟨F1,e1,d,s1,R1,p1,h1⟩=>?_)
 cases hz:g d with
 | none=>rw[hz]at h1;exact h1.elim
 | some z =>
  rw[hz]at h1
  exact ok x d z H1 F1 Q R1.sub (.inl p1) hz fun v H' F' gr p=>h1 v H' F' (R1.frm gr) (R1.gr gr) p
def A7:D→Option D
 | .int i=>some (.int (-i))
 | _=>none
theorem G2:a8z K cl (rU fun i=>.int (-i)) A7:=by
 intro x d z H F Q s hx h q
 unfold A7 at h
 split at h
 ·rename_i i;cases h
  exact⟨i,hx.int,q _ H F (.refl s) (by simp only[Rp])⟩
 ·cases h
def a8A(K:W.Frag)(cl:Str→Addr)(r:List V→Hp→VK→Prop)(g:List D→Option D):Prop:=∀xs ds z H F Q,Same F H→Rps K cl F ds xs→g ds=some z→(∀v H' F',Gr H F H' F'→Rp K cl F' z v→Q v H')→r xs H Q
def CbOk1(K:W.Frag)(cl:Str→Addr)(r:List V→Hp→VK→Prop)(g:D→Option D):Prop:=∀x d z H F Q,Same F H→Rb K cl F H d x→g d=some z→(∀v H' F',Gr H F H' F'→Rp K cl F' z v→Q v H')→r [x] H Q
def eCB(g:List D→Option D)(f:AF):ZF:=fun e=>bnd (f e) fun ds e1=>T8 (g ds) e1
def D6(g:D→Option D)(i:Nat):ZF:=fun e=>match look e i with
 | some d=>T8 (g d) e
 | none=>none
theorem a9p{r:List V→Hp→VK→Prop}{g:List D→Option D}{t:TA}{f:AF}(ok:a8A K cl r g)(hf:T9 K cl E t f):m4 K cl E (tCB r t) (eCB g f):=by
 intro σ H Q env F R h
 refine hf σ H _ env F R ((Ct.bnd h S0).mono fun x H1 ⟨F1,e1,d,s1,R1,p1,h1⟩=>?_)
 cases hz:g d with
 | none=>rw[hz]at h1;exact h1.elim
 | some z =>
  rw[hz]at h1
  exact ok x d z H1 F1 Q R1.sub p1 hz fun v H' F' gr p=>h1 v H' F' (R1.frm gr) (R1.gr gr) p
theorem S4{r:List V→Hp→VK→Prop}{g:D→Option D}{i:Nat}(ok:CbOk1 K cl r g):m4 K cl E (tCB r (E7 (A3 i) Q8)) (D6 g i):=by
 intro σ H Q env F R h
 unfold D6 at h
 cases q:look env i with
 | none=>rw[q]at h;exact h.elim
 | some d =>
  rw[q]at h
  obtain⟨x,e,rb⟩:=R.look q
  refine⟨x,e,?_⟩
  cases hz:g d with
  | none=>simp only[hz,R9]at h;exact h.elim
  | some z =>
   simp only[hz,R8]at h
   exact ok x d z H F Q R.sub rb hz fun v H' F' gr p=>h v H' F' (R.frm gr) (R.gr gr) p
def g1(g:D→Option D):List D→Option D
 | [d]=>g d
 | _=>none
theorem CbOk1.cb{r:List V→Hp→VK→Prop}{g:D→Option D}(ok:CbOk1 K cl r g):a8A K cl r (g1 g):=by
 intro xs ds z H F Q s hx h q
 unfold g1 at h
 split at h
 ·obtain⟨v,r,rfl,h1,h2⟩:=hx.inv
  rw[h2.inv0]
  exact ok v _ z H F Q s (.inl h1) h q
 ·cases h
def a8B(K:W.Frag)(cl:Str→Addr)(r:List V→Hp→VK→Prop)(g:D→Option (List D)):Prop:=∀x d zs H F Q,Same F H→Rb K cl F H d x→g d=some zs→(∀p xs,H p=none→Rps K cl F zs xs→Q (.ref p) (upd H p (.lst xs)))→r [x] H Q
def nCV(g:D→Option (List D))(i:Nat):NF:=fun e=>match look e i with
 | some d=>T8 (g d) e
 | none=>none
theorem a8C{r:List V→Hp→VK→Prop}{g:D→Option (List D)}{i:Nat}(ok:a8B K cl r g):O1 K cl E (tCB r (E7 (A3 i) Q8)) (nCV g i):=by
 intro σ H Q env F R h
 unfold nCV at h
 cases q:look env i with
 | none=>rw[q]at h;exact h.elim
 | some d =>
  rw[q]at h
  obtain⟨x,e,rb⟩:=R.look q
  refine⟨x,e,?_⟩
  cases hz:g d with
  | none=>simp only[hz,R9]at h;exact h.elim
  | some z =>
   simp only[hz,R8]at h
   exact ok x d z H F Q R.sub rb hz fun p xs hp r=>Ct.newN R hp r h
end
section
variable {K:W.Frag}{cl:Str→Addr}{E:XK}{σ:St}{H F:Hp}{env:DE}
instance decMul(i j:Int):Decidable (IntMulOk i j):=by unfold IntMulOk;infer_instance
instance decPow(i j:Int):Decidable (a0A i j):=by unfold a0A;infer_instance
abbrev A8:=gI0 fun i j=>.int (i+j)
abbrev a0m:=gI0 fun i j=>.int (i-j)
abbrev r8:=gI IntMulOk fun i j=>.int (i*j)
abbrev L5:=gI (fun _ j=>0<j∧j.natAbs.log2<9000) fun i j=>.int (i/j)
abbrev m8:=gI (fun _ j=>0<j) fun i j=>.int (i%j)
abbrev a0N:=gI a0A fun i j=>.int (i ^ j.toNat)
abbrev gLt:=gI0 fun i j=>.bl (decide (i<j))
abbrev gGt:=gI0 fun i j=>.bl (decide (j<i))
abbrev gGe:=gI0 fun i j=>.bl (decide (j≤i))
theorem C2:OpOk K cl (P6 fun i j=>.int (i+j)) A8:=a0l fun F i j=>by simp only[Rp]
theorem a4a:OpOk K cl (P6 fun i j=>.int (i-j)) a0m:=a0l fun F i j=>by simp only[Rp]
theorem C9:OpOk K cl (rI IntMulOk fun i j=>.int (i*j)) r8:=a3g fun F i j=>by simp only[Rp]
theorem P8:OpOk K cl (rI (fun _ j=>0<j∧j.natAbs.log2<9000) fun i j=>.int (i/j)) L5:=a3g fun F i j=>by simp only[Rp]
theorem l7:OpOk K cl (rI (fun _ j=>0<j) fun i j=>.int (i%j)) m8:=a3g fun F i j=>by simp only[Rp]
theorem a0n:OpOk K cl (rI a0A fun i j=>.int (i ^ j.toNat)) a0N:=a3g fun F i j=>by simp only[Rp]
theorem a55:OpOk K cl (P6 fun i j=>.bl (decide (i<j))) gLt:=a0l fun F i j=>by simp only[Rp]
theorem a9q:OpOk K cl (P6 fun i j=>.bl (decide (j<i))) gGt:=a0l fun F i j=>by simp only[Rp]
theorem a9r:OpOk K cl (P6 fun i j=>.bl (decide (j≤i))) gGe:=a0l fun F i j=>by simp only[Rp]
def toV:D→Option V
 | .non=>some .non
 | .bl b=>some (.bl b)
 | .int i=>some (.int i)
 | .str x=>some (.str x)
 | _=>none
theorem Rb.toV{d:D}{v u:V}(h:Rb K cl F H d v)(e:toV d=some u):v=u:=by
 cases d with
 | non=>cases e;exact h.non
 | bl b=>cases e;exact h.bl
 | int i=>cases e;exact h.int
 | str x=>cases e;exact h.str
 | _=>cases e
def A9(neg:Bool)(d e:D):Option D:=match toV d,toV e with
 | some x,some y=>if a3a x y=true then some (.bl (if neg then !decide (x=y)else decide (x=y)))else none
 | _,_=>none
theorem O2:OpOk K cl rEq (A9 false):=by
 intro x y d e z H F Q s hx hy h q
 unfold A9 at h
 split at h
 ·rename_i u w hu hw
  split at h
  ·rename_i c;cases h
   rw[hx.toV hu,hy.toV hw]
   exact⟨c,q _ H F (.refl s) (by simp only[Rp];rfl)⟩
  ·cases h
 ·cases h
theorem a3h:OpOk K cl rNe (A9 true):=by
 intro x y d e z H F Q s hx hy h q
 unfold A9 at h
 split at h
 ·rename_i u w hu hw
  split at h
  ·rename_i c;cases h
   rw[hx.toV hu,hy.toV hw]
   exact⟨c,q _ H F (.refl s) (by simp only[Rp];rfl)⟩
  ·cases h
 ·cases h
@[simp] theorem a6B(neg:Bool)(a b:Int):A9 neg (.int a) (.int b)=some (.bl (if neg then !decide (a=b)else decide (a=b))):=by
 unfold A9 toV
 simp only[a3a,if_true,V.int.injEq]
theorem Rps.atI{ds:List D}{xs:List V}{i:Int}{d:D}(h:Rps K cl F ds xs)(e:atI ds i=some d):∃v,L2.atI xs i=some v∧Rp K cl F d v:=by
 unfold L2.atI at e ⊢
 rw[← h.length]
 cases q:U4 ds.length i with
 | none=>rw[q]at e;cases e
 | some j=>rw[q]at e;exact h.get e
def z8(d e:D):Option D:=match d,e with
 | .lst ds,.int i=>atI ds i
 | .scr ns,.int i=>(atI ns i).map .int
 | _,_=>none
def p8(d e:D):Option D:=match d,e with
 | .tup ds,.int i=>atI ds i
 | _,_=>none
theorem a6C{α β:Type}(f:α→β)(xs:List α)(i:Int):atI (xs.map f) i=(atI xs i).map f:=by
 unfold L2.atI
 rw[List.length_map]
 cases U4 xs.length i with
 | none=>rfl
 | some j=>simp
theorem G3:OpOk K cl (a4Q K) z8:=by
 intro x y d e z H F Q s hx hy h q
 unfold z8 at h
 split at h
 ·obtain⟨a,xs,rfl,hH,r⟩:=hx.lst s
  obtain⟨v,e,p⟩:=r.atI h
  exact⟨a,xs,_,v,rfl,hy.int,.of hH,e,q v H F (.refl s) p⟩
 ·rename_i ns i
  obtain⟨a,rfl,hS⟩:=hx.scr s
  cases hz:atI ns i with
  | none=>rw[hz]at h;cases h
  | some n =>
   rw[hz]at h;cases h
   exact⟨a,_,_,.int n,rfl,hy.int,hS.seq,by rw[a6C,hz];rfl,q _ H F (.refl s) (by simp only[Rp])⟩
 ·cases h
theorem y6:OpOk K cl (a4R K) p8:=by
 intro x y d e z H F Q s hx hy h q
 unfold p8 at h
 split at h
 ·obtain⟨a,xs,rfl,hH,r⟩:=hx.tup s
  obtain⟨v,e,p⟩:=r.atI h
  exact⟨a,xs,_,v,rfl,hy.int,.of hH,e,q v H F (.refl s) p⟩
 ·cases h
def L6:D→D→Bool
 | .non,.non=>true
 | .bl a,.bl b=>a == b
 | .bl a,.int b=>(if a then 1 else 0) == b
 | .int a,.bl b=>a == (if b then 1 else 0)
 | .int a,.int b=>a == b
 | .str a,.str b=>a == b
 | _,_=>false
def a3i:List D→List D→Bool
 | [],[]=>true
 | x::xs,y::ys=>L6 x y && a3i xs ys
 | _,_=>false
def i6:D→Bool
 | .non=>true
 | .bl _=>true
 | .int _=>true
 | .str _=>true
 | _=>false
theorem Rp.flat{d:D}{v:V}(h:Rp K cl F d v)(f:i6 d=true):toV d=some v∧a1y v=true:=by
 cases d<;>simp only[Rp]at h<;>first | (subst h;exact⟨rfl,rfl⟩) | cases f
theorem Rps.flat:∀{ds:List D} {vs:List V},Rps K cl F ds vs→ds.all i6=true→vs.all a1y=true
 | [],_,h,_=>by rw[h.inv0];rfl
 | d::ds,_,h,f=>by
  obtain⟨v,r,rfl,h1,h2⟩:=h.inv
  rw[List.all_cons,Bool.and_eq_true]at f
  rw[List.all_cons,(h1.flat f.1).2,h2.flat f.2];rfl
theorem Rp.eq{d e:D}{v u:V}(h:Rp K cl F d v)(g:Rp K cl F e u)(fd:i6 d=true)(fe:i6 e=true):eqV v u=L6 d e:=by
 have h1:=(h.flat fd).1
 have h2:=(g.flat fe).1
 cases d<;>cases e<;>first | (cases h1;cases h2;rfl) | (cases fd;done) | (cases fe;done)
theorem Rps.eq:∀{ds es:List D} {vs us:List V},Rps K cl F ds vs→Rps K cl F es us→ds.all i6=true→es.all i6=true→a4W vs us=a3i ds es
 | [],[],_,_,h,g,_,_=>by rw[h.inv0,g.inv0];rfl
 | [],_::_,_,_,h,g,_,_=>by rw[h.inv0];obtain⟨_,_,rfl,_,_⟩:=g.inv;rfl
 | _::_,[],_,_,h,g,_,_=>by rw[g.inv0];obtain⟨_,_,rfl,_,_⟩:=h.inv;rfl
 | d::ds,e::es,_,_,h,g,fd,fe=>by
  obtain⟨v,r,rfl,h1,h2⟩:=h.inv
  obtain⟨u,r',rfl,g1,g2⟩:=g.inv
  rw[List.all_cons,Bool.and_eq_true]at fd fe
  unfold a4W a3i
  rw[h1.eq g1 fd.1 fe.1,h2.eq g2 fd.2 fe.2]
def z9:D→Option D
 | .lst ds=>some (.int ds.length)
 | .tup ds=>some (.int ds.length)
 | .scr ns=>some (.int ns.length)
 | _=>none
theorem L7:CbOk1 K cl (a2U K) z9:=by
 intro x d z H F Q s hx h q
 unfold z9 at h
 split at h
 ·cases h
  obtain⟨a,xs,rfl,hH,r⟩:=hx.lst s
  exact⟨a,xs,rfl,.inl (.of hH),q _ H F (.refl s) (by simp only[Rp];rw[r.length])⟩
 ·cases h
  obtain⟨a,xs,rfl,hH,r⟩:=hx.tup s
  exact⟨a,xs,rfl,.inr (.of hH),q _ H F (.refl s) (by simp only[Rp];rw[r.length])⟩
 ·cases h
  obtain⟨a,rfl,hS⟩:=hx.scr s
  exact⟨a,_,rfl,.inl hS.seq,q _ H F (.refl s) (by simp only[Rp];rw[List.length_map])⟩
 ·cases h
def a0o:D→Option (List D)
 | .lst ds=>some ds
 | .tup ds=>some ds
 | .scr ns=>some (ns.map .int)
 | _=>none
theorem a6D:a8B K cl (a2V K) a0o:=by
 intro x d zs H F Q s hx h q
 unfold a0o at h
 split at h
 ·cases h
  obtain⟨a,xs,rfl,hH,r⟩:=hx.lst s
  exact⟨a,xs,rfl,.inl (.of hH),fun p hp=>q p _ hp r⟩
 ·cases h
  obtain⟨a,xs,rfl,hH,r⟩:=hx.tup s
  exact⟨a,xs,rfl,.inr (.of hH),fun p hp=>q p _ hp r⟩
 ·cases h
  obtain⟨a,rfl,hS⟩:=hx.scr s
  exact⟨a,_,rfl,.inl hS.seq,fun p hp=>q p _ hp Rps.ofInts⟩
 ·cases h
end
inductive R1 where | ret (d:D) | own (ds:List D) | owz (dss:List (List D)) | ex (c:Str)
def j1(K:W.Frag)(cl:Str→Addr)(g:List D→Option R1):Sp:=fun vs H Q E=>∃ds F,Same F H∧Rps K cl F ds vs∧match g ds with
 | none=>False
 | some (.ret d)=>∀v H' F',Gr H F H' F'→Rp K cl F' d v→Q v H'
 | some (.own es)=>∀a xs H' F',Gr H F H' F'→H a=none→H' a=some (.lst xs)→F' a=none→Rps K cl F' es xs→Q (.ref a) H'
 | some (.owz dss)=>∀p as H' F',Gr H F H' F'→H p=none→H' p=some (.tup (as.map V.ref))→F' p=none→Rz K cl F' H' (fun a=>H a=none) dss as→Q (.ref p) H'
 | some (.ex c)=>∀H' F',Gr H F H' F'→E (.ref (cl c)) none H'
def toZ(r:Option R1)(e:DE):Option (R D):=match r with
 | none=>none
 | some (.ret d)=>some (.ok d e)
 | some (.own ds)=>some (.ok (.lst ds) e)
 | some (.owz _)=>none
 | some (.ex c)=>some (.ex c)
def Y6(r:Option R1)(e:DE):Option (R D):=match r with
 | some (.ret d)=>some (.ok d e)
 | some (.own ds)=>some (.ok (.lst ds) e)
 | _=>none
def g6(g:List D→Option R1)(f:AF):ZF:=fun e=>bnd (f e) fun ds e1=>Y6 (g ds) e1
def put(i:Nat)(s:Sl)(e:DE):Option RS:=match e[i]? with
 | none=>none
 | some (.hd _)=>none
 | some _=>some (.nx (e.set i s))
def a3j(i:Nat)(r:Option R1)(e:DE):Option RS:=match r with
 | none=>none
 | some (.ret d)=>put i (.fz d) e
 | some (.own ds)=>put i (.ow ds) e
 | some (.owz _)=>none
 | some (.ex c)=>some (.ex c)
def a0p(i:Nat)(r:Option R1)(e:DE):Option RS:=match r with
 | some (.ret d)=>put i (.fz d) e
 | some (.own ds)=>put i (.ow ds) e
 | _=>none
def a1C(r:Option R1):Option RS:=match r with
 | none=>none
 | some (.ret d)=>some (.rt d)
 | some (.own ds)=>some (.ro ds)
 | some (.owz dss)=>some (.rz dss)
 | some (.ex c)=>some (.ex c)
def a4b(r:Option R1):Option RS:=match r with
 | some (.ret d)=>some (.rt d)
 | some (.own ds)=>some (.ro ds)
 | _=>none
def w4:SF:=fun e=>some (.nx e)
def d6(f k:SF):SF:=fun e=>match f e with
 | some (.nx e1)=>k e1
 | r=>r
def v7(i:Nat)(f:ZF):SF:=fun e=>O0 (f e) fun d e1=>put i (.fz d) e1
def u0(i:Nat)(f:NF):SF:=fun e=>O0 (f e) fun ds e1=>put i (.ow ds) e1
def L8(i:Nat)(g:List D→Option R1)(f:AF):SF:=fun e=>O0 (f e) fun ds e1=>a0p i (g ds) e1
def k9(f:ZF):SF:=fun e=>O0 (f e) fun d _=>some (.rt d)
def E9(f:NF):SF:=fun e=>O0 (f e) fun ds _=>some (.ro ds)
def a0q(i:Nat):SF:=fun e=>match e[i]? with
 | some (.fz d)=>some (.rt d)
 | some (.ow ds)=>some (.ro ds)
 | _=>none
def w6(c:BF)(f k:SF):SF:=fun e=>O0 (c e) fun b e1=>if b=true then f e1 else k e1
def Y7(i:Nat)(f:ZF):SF:=fun e=>match look e i with
 | some (.lst _)=>O0 (f e) fun d e1=>match e1[i]? with
  | some (.ow ds)=>if ds.length<sizeLine then some (.nx (e1.set i (.ow (ds++[d]))))else none
  | _=>none
 | _=>none
section
variable {K:W.Frag}{cl:Str→Addr}{E:XK}{σ:St}{H F:Hp}{env:DE}
theorem Gr.fx{H' F':Hp}(g:Gr H F H' F'):FX σ H F env H' F':=⟨g.fz,g.sub,fun a o h f _=>g.hid a o h f,g.dom⟩
theorem a8E{g:List D→Option R1}{ds:List D}{vs:List V}{Q:VK}(R:Rel K cl σ H F env)(p:Rps K cl F ds vs)(h:Ct K cl E (PZ K cl) (toZ (g ds) env) σ H F env Q):j1 K cl g (vs++[]) H Q E:=by
 rw[List.append_nil]
 refine⟨ds,F,R.sub,p,?_⟩
 unfold toZ at h
 split at h
 ·exact h.elim
 ·exact fun v H' F' gr r=>h v H' F' (R.frm gr) (R.gr gr) r
 ·rename_i es _
  intro a xs H' F' gr ha hH hF r
  have sF:Same F' (upd F' a (.lst xs)):=K7 hF _
  have gr':Gr H F H' (upd F' a (.lst xs)):=by
   refine⟨gr.fz.trans sF,fun b o z=>?_,fun b o hb fb=>?_⟩
   ·by_cases y:b=a
    ·subst y;rw[g7]at z;cases z;exact hH
    ·rw[a8 y]at z;exact gr.sub _ _ z
   ·obtain⟨h1,f1⟩:=gr.hid b o hb fb
    have nb:b≠a:=fun z=>by rw[z,ha]at hb;cases hb
    exact⟨h1,by rw[a8 nb];exact f1⟩
  exact h _ H' _ (R.frm gr') (R.gr gr') (by show Rp K cl _ (.lst es) _;simp only[Rp];exact⟨a,xs,rfl,g7,r.mono sF⟩)
 ·exact h.elim
 ·exact fun H' F' gr=>h H' F' gr.fx
theorem a6E{r:Option R1}{e:DE}{P:Py D V}{Q:VK}(h:Ct K cl E P (Y6 r e) σ H F env Q):toZ r e=Y6 r e∧∀c,r≠some (.ex c):=by
 unfold Y6 at h
 split at h
 ·exact⟨rfl,fun c z=>by cases z⟩
 ·exact⟨rfl,fun c z=>by cases z⟩
 ·exact h.elim
theorem i9{g:List D→Option R1}{t:TA}{f:AF}(hf:T9 K cl E t f):m4 K cl E (W1 (j1 K cl g) [] E0 t) (g6 g f):=by
 intro σ H Q env F R h
 refine hf σ H _ env F R ((Ct.bnd h S0).mono fun vs H1 ⟨F1,e1,ds,s1,R1,p1,h1⟩=>?_)
 refine a8E R1 p1 ?_
 obtain⟨z,n⟩:=a6E h1
 rw[z]
 unfold Ct at h1 ⊢
 split at h1
 ·exact h1
 ·exact h1
 ·rename_i c q
  exact absurd q (by unfold Y6;split<;>intro y<;>cases y)
theorem x8:RfS K cl E a5M w4:=fun N σ H env F R h=>h σ H F Frm.refl R
theorem g5{t u:TS}{f k:SF}(hf:RfS K cl E t f)(hk:RfS K cl E u k):RfS K cl E (a7N t u) (d6 f k):=by
 intro N σ H env F R h
 refine hf _ σ H env F R ?_
 unfold d6 at h
 split at h
 ·rename_i e1 q
  rw[q]
  intro σ' H' F' fr R'
  exact hk N σ' H' e1 F' R' (h.from fr)
 ·rename_i n
  unfold Cs at h ⊢
  split at h
  ·exact h
  ·rename_i e q;exact absurd q (n e)
  all_goals exact h
theorem a3k{i:Nat}{s:Sl}{e:DE}{N:Ends}{σ0:St}{H0 F0:Hp}{env0:DE}(h:Cs K cl E (put i s e) σ0 H0 F0 env0 N):i<e.length∧(∀ds,e[i]?≠some (.hd ds))∧Cs K cl E (some (.nx (e.set i s))) σ0 H0 F0 env0 N:=by
 unfold put at h
 split at h
 ·exact h.elim
 ·exact h.elim
 ·rename_i z n q
  exact⟨(List.getElem?_eq_some_iff.mp q).1,fun ds y=>by rw[q]at y;cases y;exact n ds rfl,h⟩
theorem B0{i:Nat}{t:TE}{f:ZF}(hf:m4 K cl E t f):RfS K cl E (a28 t (W0 i)) (v7 i f):=by
 intro N σ H env F R h
 refine hf σ H _ env F R ((Cs.bnd h).mono fun x H1 ⟨F1,e1,d,fr,R1,p1,h1⟩=>?_)
 obtain⟨hi,nh,h2⟩:=a3k h1
 exact h2 _ H1 F1 (fr.trans (Frm.put nh)) (R1.put hi nh p1)
theorem P9{i:Nat}{t:TE}{f:NF}(hf:O1 K cl E t f):RfS K cl E (a28 t (W0 i)) (u0 i f):=by
 intro N σ H env F R h
 refine hf σ H _ env F R ((Cs.bnd h).mono fun x H1 ⟨F1,e1,ds,fr,R1,p1,h1⟩=>?_)
 obtain⟨a,xs,rfl,hn,hH,hF,nm,r⟩:=p1
 obtain⟨hi,nh,h2⟩:=a3k h1
 exact h2 _ H1 F1 (fr.putO hn nh) (R1.putO hi hH hF nm r)
theorem n5{t:TE}{f:ZF}(hf:m4 K cl E t f):RfS K cl E (a27 t) (k9 f):=by
 intro N σ H env F R h
 exact hf σ H _ env F R ((Cs.bnd h).mono fun x H1 ⟨F1,e1,d,fr,R1,p1,h1⟩=>h1 x H1 F1 (fr.toFX R1.sub) p1)
theorem Q0{t:TE}{f:NF}(hf:O1 K cl E t f):RfS K cl E (a27 t) (E9 f):=by
 intro N σ H env F R h
 refine hf σ H _ env F R ((Cs.bnd h).mono fun x H1 ⟨F1,e1,ds,fr,R1,p1,h1⟩=>?_)
 obtain⟨a,xs,rfl,hn,hH,hF,nm,r⟩:=p1
 exact h1 a xs H1 F1 (fr.toFX R1.sub) hH hF (fun o e=>by rw[hn]at e;cases e) r
theorem a6F{i:Nat}:RfS K cl E (a27 (A3 i)) (a0q i):=by
 intro N σ H env F R h
 unfold a0q at h
 split at h
 ·rename_i d q
  obtain⟨v,e,r⟩:=R.fz i d q
  exact⟨v,e,h v H F (Frm.refl.toFX R.sub) r⟩
 ·rename_i ds q
  obtain⟨a,xs,e,hH,hF,r⟩:=R.mu i ds (.inl q)
  exact⟨_,e,h a xs H F (Frm.refl.toFX R.sub) hH hF (fun o _=>⟨i,ds,q,e⟩) r⟩
 ·exact h.elim
theorem t6{c:TT}{t u:TS}{b:BF}{f k:SF}(hc:G0 K cl E c b)(hf:RfS K cl E t f)(hk:RfS K cl E u k):RfS K cl E (a7O c t u) (w6 b f k):=by
 intro N σ H env F R h
 refine hc σ H _ env F R ((Cs.bnd h).mono fun x H1 ⟨F1,e1,d,fr,R1,p1,h1⟩=>?_)
 cases (show x=d from p1)
 by_cases z:x=true
 ·rw[if_pos z]at h1 ⊢;exact hf N σ H1 e1 F1 R1 (h1.from fr)
 ·rw[if_neg z]at h1 ⊢;exact hk N σ H1 e1 F1 R1 (h1.from fr)
theorem S5{i:Nat}{g:List D→Option R1}{t:TA}{f:AF}(hf:T9 K cl E t f):RfS K cl E (a28 (W1 (j1 K cl g) [] E0 t) (W0 i)) (L8 i g f):=by
 intro N σ H env F R h
 refine hf σ H _ env F R ((Cs.bnd h).mono fun vs H1 ⟨F1,e1,ds,fr,R1,p1,h1⟩=>?_)
 show j1 K cl g (vs++[]) H1 _ E0
 rw[List.append_nil]
 refine⟨ds,F1,R1.sub,p1,?_⟩
 unfold a0p at h1
 split at h1
 ·rename_i q;rw[q]
  obtain⟨hi,nh,h2⟩:=a3k h1
  exact fun v H' F' gr r=>h2 _ H' F' ((fr.trans (R1.frm gr)).trans (Frm.put nh)) ((R1.gr gr).put hi nh r)
 ·rename_i q;rw[q]
  obtain⟨hi,nh,h2⟩:=a3k h1
  intro a xs H' F' gr ha hH hF r
  refine h2 _ H' F' ((fr.trans (R1.frm gr)).putO (fr.dom a ha) nh) ((R1.gr gr).putO hi hH hF (fun j mj e=>?_) r)
  obtain⟨es,q⟩:=mj
  obtain⟨b,ys,e',hb,_⟩:=R1.mu j es q
  rw[e]at e';cases e'
  rw[ha]at hb;cases hb
 ·exact h1.elim
theorem Rel.change{i:Nat}{ds es:List D}{a:Addr}{ys:List V}(R:Rel K cl σ H F env)(h:env[i]? = some (.ow ds))(e:σ[i]? = some (some (.ref a)))(r:Rps K cl F es ys) :
  Rel K cl σ (upd H a (.lst ys)) F (env.set i (.ow es))∧Frm σ H F env σ (upd H a (.lst ys)) F (env.set i (.ow es)):=by
 obtain⟨a',xs,e',hH,hF,_⟩:=R.mu i ds (.inl h)
 rw[e]at e';cases e'
 have hi:i<env.length:=(List.getElem?_eq_some_iff.mp h).1
 have self:(env.set i (.ow es))[i]? = some (.ow es):=List.getElem?_set_self hi
 have oth:∀j,j≠i→(env.set i (.ow es))[j]? = env[j]?:=fun j hj=>List.getElem?_set_ne (Ne.symm hj)
 have mui:∀j,Mu (env.set i (.ow es)) j→Mu env j:=fun j ⟨fs,q⟩=>by
  by_cases z:j=i
  ·subst z;exact⟨ds,.inl h⟩
  ·rw[oth j z]at q;exact⟨fs,q⟩
 refine⟨⟨fun b o q=>?_,by rw[List.length_set];exact R.len,fun j d q=>?_,fun j fs q=>?_,fun j k b hj hk=>R.inj j k b (mui j hj) (mui k hk)⟩,⟨Same.refl _,fun b o hb fb w=>?_,fun j fs q=>?_,fun b q=>?_⟩⟩
 ·have z:b≠a:=fun z=>by rw[z,hF]at q;cases q
  rw[a8 z];exact R.sub _ _ q
 ·have z:j≠i:=fun z=>by subst z;rw[self]at q;cases q
  rw[oth j z]at q;exact R.fz j d q
 ·by_cases z:j=i
  ·subst z
   rw[self]at q
   rcases q with q | q
   ·cases q;exact⟨a,ys,e,g7,hF,r⟩
   ·cases q
  ·rw[oth j z]at q
   obtain⟨b,zs,e1,h1,f1,r1⟩:=R.mu j fs q
   have nb:b≠a:=fun y=>z (R.inj j i b ⟨fs,q⟩ ⟨ds,.inl h⟩ e1 (by rw[y];exact e))
   exact⟨b,zs,e1,by rw[a8 nb];exact h1,f1,r1⟩
 ·have z:b≠a:=fun z=>w ⟨i,ds,h,by rw[z];exact e⟩
  refine⟨by rw[a8 z];exact hb,fb,fun⟨j,fs,q,e1⟩=>?_⟩
  by_cases y:j=i
  ·subst y;rw[e]at e1;cases e1;exact z rfl
  ·rw[oth j y]at q;exact w ⟨j,fs,q,e1⟩
 ·have z:j≠i:=fun z=>by subst z;rw[h]at q;cases q
  exact⟨by rw[oth j z];exact q,rfl⟩
 ·by_cases z:b=a
  ·rw[z,g7]at q;cases q
  ·rw[a8 z]at q;exact q
theorem a4c{i:Nat}{t:TE}{f:ZF}(hf:m4 K cl E t f):RfS K cl E (a1w (tBM K "list" a2S (A3 i) (E7 t Q8))) (Y7 i f):=by
 intro N σ H env F R h
 unfold Y7 at h
 split at h
 ·rename_i ds0 q
  obtain⟨x,e0,rb⟩:=R.look q
  obtain⟨a0,xs0,rfl,hH0,_⟩:=rb.lst R.sub
  refine⟨_,e0,.inl ⟨rfl,xs0,.of hH0⟩,?_⟩
  ·refine hf σ H _ env F R ((Cs.bnd h).mono fun y H1 ⟨F1,e1,d,fr,R1,p1,h1⟩=>?_)
   split at h1
   ·rename_i ds q1
    split at h1
    ·rename_i c
     obtain⟨a,xs,e,hH,hF,r⟩:=R1.mu i ds (.inl q1)
     rw[e0]at e;cases e
     obtain⟨R2,f2⟩:=R1.change q1 e0 (r.append (.one p1))
     exact⟨_,xs,y,rfl,rfl,hH,by rw[← r.length];exact c,h1 σ _ F1 (fr.trans f2) R2⟩
    ·exact h1.elim
   ·exact h1.elim
 ·exact h.elim
end
abbrev GF:=D→DE→Option DE
def i7(i:Nat):GF:=fun d e=>match e[i]? with
 | none=>none
 | some (.hd _)=>none
 | some _=>some (e.set i (.fz d))
def S6:List GF→List D→DE→Option DE
 | [],[],e=>some e
 | b::bs,d::ds,e=>match b d e with
  | none=>none
  | some e1=>S6 bs ds e1
 | _,_,_=>none
def Y8(bs:List GF):GF:=fun d e=>match d with
 | .tup ds=>S6 bs ds e
 | _=>none
section
variable (K:W.Frag)(cl:Str→Addr)
def L9(k:Nat)(g:TG)(b:GF):Prop:=∀v σ H Q d env env' F,Rel K cl σ H F env→Rp K cl F d v→b d env=some env'→(∀σ',σ'.drop k=σ.drop k→σ'.length=σ.length→Frm σ H F env σ' H F env'→Rel K cl σ' H F env'→Q σ' H)→g v σ H Q
def a3l(k:Nat)(t:U1)(bs:List GF):Prop:=∀vs σ H Q ds env env' F,Rel K cl σ H F env→Rps K cl F ds vs→S6 bs ds env=some env'→(∀σ',σ'.drop k=σ.drop k→σ'.length=σ.length→Frm σ H F env σ' H F env'→Rel K cl σ' H F env'→Q σ' H)→t vs σ H Q
end
section
variable {K:W.Frag}{cl:Str→Addr}{E:XK}{σ:St}{H F:Hp}{env:DE}{k:Nat}
theorem a49{α:Type}{l:List α}{i k:Nat}{x:α}(h:i<k):(l.set i x).drop k=l.drop k:=by
 apply List.ext_getElem?
 intro j
 rw[List.getElem?_drop,List.getElem?_drop,List.getElem?_set_ne (by omega)]
theorem l9{i:Nat}(hi:i<k):L9 K cl k (W0 i) (i7 i):=by
 intro v σ H Q d env env' F R p h q
 unfold i7 at h
 split at h
 ·cases h
 ·cases h
 ·rename_i z n e
  cases h
  have nh:∀ds,env[i]?≠some (.hd ds):=fun ds y=>by rw[e]at y;cases y;exact n ds rfl
  exact q _ (a49 hi) List.length_set (Frm.put nh) (R.put (List.getElem?_eq_some_iff.mp e).1 nh p)
theorem a0O:a3l K cl k a7P []:=by
 intro vs σ H Q ds env env' F R p h q
 cases ds with
 | nil=>cases h;exact⟨p.inv0,q σ rfl rfl Frm.refl R⟩
 | cons _ _=>cases h
theorem E2{t:TG}{u:U1}{b:GF}{bs:List GF}(h1:L9 K cl k t b)(h2:a3l K cl k u bs):a3l K cl k (a5N t u) (b::bs):=by
 intro vs σ H Q ds env env' F R p h q
 cases ds with
 | nil=>cases h
 | cons d ds =>
  obtain⟨v,r,rfl,p1,p2⟩:=p.inv
  unfold S6 at h
  split at h
  ·cases h
  ·rename_i e1 hb
   refine⟨v,r,rfl,h1 v σ H _ d env e1 F R p1 hb fun σ1 d1 l1 f1 R1=>?_⟩
   exact h2 r σ1 H _ ds e1 env' F R1 p2 h fun σ2 d2 l2 f2 R2=>q σ2 (d2.trans d1) (l2.trans l1) (f1.trans f2) R2
theorem a1h:∀{bs:List GF} {ds:List D} {e e':DE},S6 bs ds e=some e'→ds.length=bs.length
 | [],[],_,_,_=>rfl
 | [],_::_,_,_,h=>by cases h
 | _::_,[],_,_,h=>by cases h
 | b::bs,d::ds,e,e',h=>by
  unfold S6 at h
  split at h
  ·cases h
  ·simp[a1h h]
theorem a0P{t:U1}{bs:List GF}{n:Nat}(h:a3l K cl k t bs)(hn:bs.length=n):L9 K cl k (a4J K n t) (Y8 bs):=by
 intro v σ H Q d env env' F R p e q
 unfold Y8 at e
 split at e
 ·rename_i ds
  simp only[Rp]at p
  obtain⟨a,xs,rfl,hF,r⟩:=p
  exact⟨a,xs,rfl,.of (R.sub _ _ hF),by rw[← r.length,a1h e,hn],h xs σ H Q ds env env' F R r e q⟩
 ·cases e
def u6(b:GF)(body:SF):List D→DE→Option RS
 | [],e=>some (.nx e)
 | d::ds,e=>match b d e with
  | none=>none
  | some e1=>match body e1 with
   | some (.nx e2)=>u6 b body ds e2
   | some (.ct e2)=>u6 b body ds e2
   | some (.bk e2)=>some (.nx e2)
   | r=>r
theorem a16{b:GF}{body:SF}{g:TG}{tb:TS}{d:D}{x:V}{ds:List D}{e1:DE}{N:Ends}{σ1:St}{H1 F1:Hp}{Pv:St→Hp→Prop}(hb:RfS K cl E tb body)(hg:L9 K cl k g b)
  (f1:Frm σ H F env σ1 H1 F1 e1) (R1:Rel K cl σ1 H1 F1 e1) (p:Rp K cl F1 d x) (h:Cs K cl E (u6 b body (d::ds) e1) σ H F env N)
  (hP:∀σ' H' F' e',Frm σ H F env σ' H' F' e'→Rel K cl σ' H' F' e'→Cs K cl E (u6 b body ds e') σ H F env N→Pv σ' H') :
  g x σ1 H1 fun σ2 H2=>tb { N with nx:=Pv,ct:=Pv,bk:=N.nx } σ2 H2:=by
 unfold u6 at h
 split at h
 ·exact h.elim
 ·rename_i e2 hbd
  refine hg x σ1 H1 _ d e1 e2 F1 R1 p hbd fun σ2 _ _ f2 R2=>?_
  refine hb _ σ2 H1 e2 F1 R2 ?_
  split at h
  ·rename_i e3 q;rw[q]
   exact fun σ' H' F' f3 R3=>hP σ' H' F' e3 ((f1.trans f2).trans f3) R3 h
  ·rename_i e3 q;rw[q]
   exact fun σ' H' F' f3 R3=>hP σ' H' F' e3 ((f1.trans f2).trans f3) R3 h
  ·rename_i e3 q;rw[q]
   exact fun σ' H' F' f3 R3=>h σ' H' F' ((f1.trans f2).trans f3) R3
  ·rename_i n1 n2 n3
   have h2:=h.from (f1.trans f2)
   unfold Cs at h2 ⊢
   split at h2
   ·exact h2
   ·rename_i e q;exact absurd q (n1 e)
   ·rename_i e q;exact absurd q (n3 e)
   ·rename_i e q;exact absurd q (n2 e)
   ·exact h2
   ·exact h2
   ·exact h2
   ·exact h2
theorem O3{α:Type}{l:List α}{i:Nat}{x:α}(h:l[i]? = some x):l.drop i=x::l.drop (i+1):=by
 obtain⟨hi,e⟩:=List.getElem?_eq_some_iff.mp h
 rw[← e];exact List.drop_eq_getElem_cons hi
theorem a4_{b:GF}{body:SF}{g:TG}{tb:TS}{ds:List D}{xs:List V}{a:Addr}{N:Ends}(hb:RfS K cl E tb body)(hg:L9 K cl k g b)(R:Rel K cl σ H F env)
  (hl:∀σ' H' F' e',Frm σ H F env σ' H' F' e'→Rel K cl σ' H' F' e'→SqL K H' a xs) (r:Rps K cl F ds xs) (h:Cs K cl E (u6 b body ds env) σ H F env N) :
  ∃W:Nat→Nat→St→Hp→Prop,(∃m,W 0 m σ H)∧∀i m σ H,W i m σ H →
   ((X2 K a).stop i H∧N.nx σ H)∨((X2 K a).go i H∧∃M:St→Hp→Prop,(∀σ' H',M σ' H'→∃m',m'<m∧W (i+1) m' σ' H')∧∀x H',(X2 K a).yld i H x H'→g x σ H' fun σ2 H2=>tb { N with nx:=M,ct:=M,bk:=N.nx } σ2 H2):=by
 refine a4K (xs:=xs) (fun i σ' H'=>∃F' e',Frm σ H F env σ' H' F' e'∧Rel K cl σ' H' F' e'∧Cs K cl E (u6 b body (ds.drop i) e') σ H F env N) ⟨F,env,Frm.refl,R,h⟩ (fun i σ' H' _ ⟨F',e',f,R',_⟩=>hl σ' H' F' e' f R') (fun i x σ' H' hx ⟨F',e',f,R',h'⟩=>?_) (fun σ' H' ⟨F',e',f,R',h'⟩=>?_)
 ·obtain⟨d,hd,p⟩:=r.get' hx
  rw[O3 hd]at h'
  exact a16 hb hg f R' (Rp.mono f.fz _ _ p) h' fun σ2 H2 F2 e2 f2 R2 h2=>⟨F2,e2,f2,R2,h2⟩
 ·rw[← r.length,List.drop_length]at h'
  exact h' σ' H' F' f R'
def seqL:D→Option (List D)
 | .lst ds=>some ds
 | .scr ns=>some (ns.map .int)
 | _=>none
theorem Rp.seqL{d:D}{ds:List D}{v:V}(p:Rp K cl F d v)(s:L2.seqL d=some ds):∃a xs,v=.ref a∧Rps K cl F ds xs∧∀H',Same F H'→SqL K H' a xs:=by
 unfold L2.seqL at s
 split at s
 ·cases s;simp only[Rp]at p
  obtain⟨a,xs,e,h,r⟩:=p
  exact⟨a,xs,e,r,fun H' g=>.of (g _ _ h)⟩
 ·cases s;simp only[Rp]at p
  obtain⟨a,e,h⟩:=p
  exact⟨a,_,e,Rps.ofInts,fun H' g=>(h.same g).seq⟩
 ·cases s
def G7(lo:Int)(n:Nat):List D:=(List.range n).map fun(i:Nat)=>.int (lo+(i:Int))
theorem a4d{lo:Int}{n i:Nat}(h:i<n):(G7 lo n).drop i=.int (lo+i)::(G7 lo n).drop (i+1):=O3 (by unfold G7;rw[List.getElem?_map,List.getElem?_range h];rfl)
theorem a5a{lo:Int}{n:Nat}:(G7 lo n).length=n:=by unfold G7;rw[List.length_map,List.length_range]
theorem a8F{b:GF}{body:SF}{g:TG}{tb:TS}{lo:Int}{n:Nat}{N:Ends}(hb:RfS K cl E tb body)(hg:L9 K cl k g b)(R:Rel K cl σ H F env)(h:Cs K cl E (u6 b body (G7 lo n) env) σ H F env N) :
  ∃W:Nat→Nat→St→Hp→Prop,(∃m,W 0 m σ H)∧∀i m σ H,W i m σ H →
   ((X3 lo n).stop i H∧N.nx σ H)∨((X3 lo n).go i H∧∃M:St→Hp→Prop,(∀σ' H',M σ' H'→∃m',m'<m∧W (i+1) m' σ' H')∧∀x H',(X3 lo n).yld i H x H'→g x σ H' fun σ2 H2=>tb { N with nx:=M,ct:=M,bk:=N.nx } σ2 H2):=by
 refine a3H (fun i σ' H'=>∃F' e',Frm σ H F env σ' H' F' e'∧Rel K cl σ' H' F' e'∧Cs K cl E (u6 b body ((G7 lo n).drop i) e') σ H F env N) ⟨F,env,Frm.refl,R,h⟩ (fun i σ' H' hx ⟨F',e',f,R',h'⟩=>?_) (fun σ' H' ⟨F',e',f,R',h'⟩=>?_)
 ·rw[a4d hx]at h'
  exact a16 hb hg f R' (by simp only[Rp]) h' fun σ2 H2 F2 e2 f2 R2 h2=>⟨F2,e2,f2,R2,h2⟩
 ·rw[show(G7 lo n).drop n=[]from List.drop_eq_nil_of_le (by rw[a5a];exact Nat.le_refl _)]at h'
  exact h' σ' H' F' f R'
def a0Q(ds:List D):Option (Int×Nat):=match ds with
 | [.int j]=>if -(2 ^ 62)≤j∧j<2 ^ 62 then some (0,j.toNat)else none
 | _=>none
def a0R(ds:List D):Option (Int×Nat):=match ds with
 | [.int i,.int j]=>if -(2 ^ 62)≤i∧i<2 ^ 62∧-(2 ^ 62)≤j∧j<2 ^ 62 then some (i,(j-i).toNat)else none
 | _=>none
theorem a6G{ds:List D}{vs:List V}{lo:Int}{n:Nat}(h:a0Q ds=some (lo,n))(p:Rps K cl F ds vs):∃j:Int,vs=[.int j]∧-(2 ^ 62)≤j∧j<2 ^ 62∧lo=0∧n=j.toNat:=by
 unfold a0Q at h
 split at h
 ·rename_i j
  split at h
  ·rename_i c;cases h
   exact⟨j,(Rps.ints (ns:=[j]) p),c.1,c.2,rfl,rfl⟩
  ·cases h
 ·cases h
theorem a6H{ds:List D}{vs:List V}{lo:Int}{n:Nat}(h:a0R ds=some (lo,n))(p:Rps K cl F ds vs):∃i j:Int,vs=[.int i,.int j]∧(-(2 ^ 62)≤i∧i<2 ^ 62∧-(2 ^ 62)≤j∧j<2 ^ 62)∧lo=i∧n=(j-i).toNat:=by
 unfold a0R at h
 split at h
 ·rename_i i j
  split at h
  ·rename_i c;cases h
   exact⟨_,j,(Rps.ints (ns:=[_,j]) p),c,rfl,rfl⟩
  ·cases h
 ·cases h
def S7(rg:List D→Option (Int×Nat))(f:AF)(b:GF)(body:SF):SF:=fun e=>O0 (f e) fun ds e1=>match rg ds with
 | none=>none
 | some (lo,n)=>u6 b body (G7 lo n) e1
theorem a5b{t:TA}{g:TG}{tb:TS}{f:AF}{b:GF}{body:SF}(hf:T9 K cl E t f)(hg:L9 K cl k g b)(hb:RfS K cl E tb body):RfS K cl E (a2_ (a5P t) g tb) (S7 a0Q f b body):=by
 intro N σ H env F R h
 refine hf σ H _ env F R ((Cs.bnd h).mono fun x H1 ⟨F1,e1,ds,fr,R1,p1,h1⟩=>?_)
 split at h1
 ·exact h1.elim
 ·rename_i lo n hs
  obtain⟨j,e,c1,c2,rfl,rfl⟩:=a6G hs p1
  exact⟨j,e,c1,c2,a8F hb hg R1 (h1.from fr)⟩
theorem a5c{t:TA}{g:TG}{tb:TS}{f:AF}{b:GF}{body:SF}(hf:T9 K cl E t f)(hg:L9 K cl k g b)(hb:RfS K cl E tb body):RfS K cl E (a2_ (a5Q t) g tb) (S7 a0R f b body):=by
 intro N σ H env F R h
 refine hf σ H _ env F R ((Cs.bnd h).mono fun x H1 ⟨F1,e1,ds,fr,R1,p1,h1⟩=>?_)
 split at h1
 ·exact h1.elim
 ·rename_i lo n hs
  obtain⟨i,j,e,c,rfl,rfl⟩:=a6H hs p1
  exact⟨_,j,e,c,a8F hb hg R1 (h1.from fr)⟩
end
section
variable {K:W.Frag}{cl:Str→Addr}{E:XK}{σ:St}{H F:Hp}{env:DE}{k:Nat}
def unhide(i:Nat)(ds:List D)(r:Option RS):Option RS:=match r with
 | some (.nx e)=>some (.nx (e.set i (.ow ds)))
 | some (.bk _)=>none
 | some (.ct _)=>none
 | r=>r
theorem Rel.hide{i:Nat}{ds:List D}(R:Rel K cl σ H F env)(h:env[i]? = some (.ow ds)):Rel K cl σ H F (env.set i (.hd ds)):=by
 have hi:i<env.length:=(List.getElem?_eq_some_iff.mp h).1
 have self:(env.set i (.hd ds))[i]? = some (.hd ds):=List.getElem?_set_self hi
 have oth:∀j,j≠i→(env.set i (.hd ds))[j]? = env[j]?:=fun j hj=>List.getElem?_set_ne (Ne.symm hj)
 have mui:∀(j:Nat) (fs:List D),(env.set i (.hd ds))[j]? = some (.ow fs)∨(env.set i (.hd ds))[j]? = some (.hd fs)→env[j]? = some (.ow fs)∨env[j]? = some (.hd fs):=fun j fs q=>by
  by_cases z:j=i
  ·subst z;rw[self]at q;rcases q with q | q<;>cases q;exact .inl h
  ·rw[oth j z]at q;exact q
 refine⟨R.sub,by rw[List.length_set];exact R.len,fun j d q=>?_,fun j fs q=>R.mu j fs (mui j fs q),fun j l b ⟨fs,q⟩ ⟨gs,q'⟩=>R.inj j l b ⟨fs,mui j fs q⟩ ⟨gs,mui l gs q'⟩⟩
 have z:j≠i:=fun z=>by subst z;rw[self]at q;cases q
 rw[oth j z]at q;exact R.fz j d q
theorem Ow.hide{i:Nat}{ds:List D}{a:Addr}(w:Ow σ (env.set i (.hd ds)) a):Ow σ env a:=by
 obtain⟨j,fs,q,e⟩:=w
 by_cases z:j=i
 ·subst z
  have hj:j<env.length:=by have:=(List.getElem?_eq_some_iff.mp q).1;rwa [List.length_set]at this
  rw[List.getElem?_set_self hj]at q;cases q
 ·rw[List.getElem?_set_ne (Ne.symm z)]at q;exact⟨j,fs,q,e⟩
theorem Rel.unhide{i:Nat}{ds:List D}(R:Rel K cl σ H F env)(h:env[i]? = some (.hd ds)):Rel K cl σ H F (env.set i (.ow ds)):=by
 have hi:i<env.length:=(List.getElem?_eq_some_iff.mp h).1
 have self:(env.set i (.ow ds))[i]? = some (.ow ds):=List.getElem?_set_self hi
 have oth:∀j,j≠i→(env.set i (.ow ds))[j]? = env[j]?:=fun j hj=>List.getElem?_set_ne (Ne.symm hj)
 have mui:∀(j:Nat) (fs:List D),(env.set i (.ow ds))[j]? = some (.ow fs)∨(env.set i (.ow ds))[j]? = some (.hd fs)→env[j]? = some (.ow fs)∨env[j]? = some (.hd fs):=fun j fs q=>by
  by_cases z:j=i
  ·subst z;rw[self]at q;rcases q with q | q<;>cases q;exact .inr h
  ·rw[oth j z]at q;exact q
 refine⟨R.sub,by rw[List.length_set];exact R.len,fun j d q=>?_,fun j fs q=>R.mu j fs (mui j fs q),fun j l b ⟨fs,q⟩ ⟨gs,q'⟩=>R.inj j l b ⟨fs,mui j fs q⟩ ⟨gs,mui l gs q'⟩⟩
 have z:j≠i:=fun z=>by subst z;rw[self]at q;cases q
 rw[oth j z]at q;exact R.fz j d q
theorem Cs.hide{i:Nat}{ds:List D}{r:Option RS}{N:Ends}(R:Rel K cl σ H F env)(h:env[i]? = some (.ow ds))(c:Cs K cl E (unhide i ds r) σ H F env N):Cs K cl E r σ H F (env.set i (.hd ds)) N:=by
 have hi:i<env.length:=(List.getElem?_eq_some_iff.mp h).1
 have self:(env.set i (.hd ds))[i]? = some (.hd ds):=List.getElem?_set_self hi
 have fx:∀{H' F'},FX σ H F (env.set i (.hd ds)) H' F'→FX σ H F env H' F':=fun x=>⟨x.fz,x.sub,fun a o h f w=>x.hid a o h f fun y=>w y.hide,x.dom⟩
 rcases r with _ | r
 ·exact c
 cases r with
 | nx e =>
  intro σ' H' F' f R'
  obtain⟨q,eσ⟩:=f.keep i ds self
  refine c σ' H' F' ⟨f.fz,fun a o ha fa w=>?_,fun j fs q'=>?_,f.dom⟩ (R'.unhide q)
  ·obtain⟨h1,f1,w1⟩:=f.hid a o ha fa fun y=>w y.hide
   refine⟨h1,f1,fun⟨j,fs,q2,e2⟩=>?_⟩
   by_cases z:j=i
   ·subst z
    rw[eσ]at e2
    exact w ⟨j,ds,h,e2⟩
   ·rw[List.getElem?_set_ne (Ne.symm z)]at q2
    exact w1 ⟨j,fs,q2,e2⟩
  ·have z:j≠i:=fun z=>by subst z;rw[h]at q';cases q'
   obtain⟨q2,e2⟩:=f.keep j fs (by rw[List.getElem?_set_ne (Ne.symm z)];exact q')
   exact⟨by rw[List.getElem?_set_ne (Ne.symm z)];exact q2,e2⟩
 | bk e=>exact c.elim
 | ct e=>exact c.elim
 | rt d=>exact fun v H' F' x p=>c v H' F' (fx x) p
 | ro es=>exact fun a xs H' F' x ha fa nw p=>c a xs H' F' (fx x) ha fa (fun o e=>(nw o e).hide) p
 | rz dss=>exact fun p as H' F' x hp ht fp rz=>c p as H' F' (fx x) hp ht fp (rz.imp fun a xs ha fa nw o e=>(nw o e).hide)
 | ex n=>exact fun H' F' x=>c H' F' (fx x)
def W6(i:Nat)(b:GF)(body:SF):SF:=fun e=>match e[i]? with
 | some (.fz d)=>(match seqL d with
  | none=>none
  | some ds=>u6 b body ds e)
 | some (.ow ds)=>unhide i ds (u6 b body ds (e.set i (.hd ds)))
 | some (.hd ds)=>u6 b body ds e
 | _=>none
theorem Rel.hid_stays{i:Nat}{ds:List D}(R:Rel K cl σ H F env)(h:env[i]? = some (.hd ds)):∃a xs,σ[i]? = some (some (.ref a))∧Rps K cl F ds xs∧H a=some (.lst xs)∧∀σ' H' F' e',Frm σ H F env σ' H' F' e'→H' a=some (.lst xs):=by
 obtain⟨a,xs,e,hH,hF,r⟩:=R.mu i ds (.inr h)
 refine⟨a,xs,e,r,hH,fun σ' H' F' e' f=>(f.hid a _ hH hF fun⟨j,fs,q,e'⟩=>?_).1⟩
 have z:i=j:=R.inj i j a ⟨ds,.inr h⟩ ⟨fs,.inl q⟩ e e'
 subst z;rw[h]at q;cases q
theorem a24{i:Nat}{g:TG}{tb:TS}{b:GF}{body:SF}(hg:L9 K cl k g b)(hb:RfS K cl E tb body):RfS K cl E (a2_ (a1x K (A3 i)) g tb) (W6 i b body):=by
 intro N σ H env F R h
 unfold W6 at h
 split at h
 ·rename_i d q
  split at h
  ·exact h.elim
  ·rename_i ds hs
   obtain⟨v,e,p⟩:=R.fz i d q
   obtain⟨a,xs,rfl,r,hl⟩:=Rp.seqL p hs
   exact⟨_,e,a,rfl,⟨xs,hl H R.sub⟩,a4_ hb hg R (fun σ' H' F' e' f2 R2=>hl H' (f2.fz.trans R2.sub)) r h⟩
 ·rename_i ds q
  have hi:i<env.length:=(List.getElem?_eq_some_iff.mp q).1
  have R':=R.hide q
  obtain⟨a,xs,e,r,hH,st⟩:=R'.hid_stays (i:=i) (ds:=ds) (List.getElem?_set_self hi)
  exact⟨_,e,a,rfl,⟨xs,.of hH⟩,a4_ hb hg R' (fun σ' H' F' e' f2 R2=>.of (st σ' H' F' e' f2)) r (h.hide R q)⟩
 ·rename_i ds q
  obtain⟨a,xs,e,r,hH,st⟩:=R.hid_stays q
  exact⟨_,e,a,rfl,⟨xs,.of hH⟩,a4_ hb hg R (fun σ' H' F' e' f2 R2=>.of (st σ' H' F' e' f2)) r h⟩
 ·exact h.elim
def V3(n:Nat):List D→List D
 | []=>[]
 | d::ds=>.tup [.int n,d]::V3 (n+1) ds
theorem a0S:∀{ds:List D} {n i:Nat} {d:D},ds[i]? = some d→(V3 n ds)[i]? = some (.tup [.int (n+i:Nat),d])
 | [],_,_,_,h=>by simp at h
 | _::_,n,0,_,h=>by simp at h;subst h;rfl
 | _::ds,n,i+1,d,h=>by
  have:=a0S (ds:=ds) (n:=n+1) (i:=i) (d:=d) (by simpa using h)
  show(V3 (n+1) ds)[i]? = _
  rw[this,show n+1+i=n+(i+1) by omega]
theorem a0T:∀{ds:List D} {n:Nat},(V3 n ds).length=ds.length
 | [],_=>rfl
 | _::ds,n=>by show(V3 (n+1) ds).length+1=ds.length+1;rw[a0T]
def a0U(e:DE):Bool:=e.all fun s=>match s with
 | .hd _=>false
 | _=>true
def a8G(n i:Nat)(exm:Str→Bool)(body suite:SF):SF:=fun e=>match body e with
 | some (.ex c)=>if(exm c && a0U e)=true then(match suite ((List.replicate n Sl.no).set i (.fz (.exc c)))with
   | some (.nx e2)=>put i .no e2
   | some (.rt d)=>some (.rt d)
   | some (.ro ds)=>some (.ro ds)
   | _=>none)else none
 | r=>r
theorem Rel.drop{i:Nat}(R:Rel K cl σ H F env)(nh:∀ds,env[i]?≠some (.hd ds)):Rel K cl (σ.set i none) H F (env.set i .no)∧Frm σ H F env (σ.set i none) H F (env.set i .no):=by
 have key:∀(j:Nat) (s:Sl),(env.set i .no)[j]? = some s→s≠.no→j≠i∧env[j]? = some s:=fun j s q ns=>by
  by_cases z:j=i
  ·subst z
   have hj:j<env.length:=by have:=(List.getElem?_eq_some_iff.mp q).1;rwa [List.length_set]at this
   rw[List.getElem?_set_self hj]at q;cases q;exact absurd rfl ns
  ·rw[List.getElem?_set_ne (Ne.symm z)]at q;exact⟨z,q⟩
 have muk:∀j,Mu (env.set i .no) j→j≠i∧Mu env j:=fun j ⟨ds,q⟩=>by
  rcases q with q | q
  ·obtain⟨z,q⟩:=key j _ q (fun z=>by cases z);exact⟨z,ds,.inl q⟩
  ·obtain⟨z,q⟩:=key j _ q (fun z=>by cases z);exact⟨z,ds,.inr q⟩
 refine⟨⟨R.sub,by rw[List.length_set,List.length_set];exact R.len,fun j d q=>?_,fun j ds q=>?_,fun j l b hj hl e1 e2=>?_⟩,⟨Same.refl _,fun a o h f w=>⟨h,f,fun⟨j,ds,q,e⟩=>?_⟩,fun j ds q=>?_,fun _ h=>h⟩⟩
 ·obtain⟨z,q⟩:=key j _ q (fun z=>by cases z)
  obtain⟨v,e,p⟩:=R.fz j d q
  exact⟨v,by rw[List.getElem?_set_ne (Ne.symm z)];exact e,p⟩
 ·have:j≠i∧(env[j]? = some (.ow ds)∨env[j]? = some (.hd ds)):=by
   rcases q with q | q
   ·obtain⟨z,q⟩:=key j _ q (fun z=>by cases z);exact⟨z,.inl q⟩
   ·obtain⟨z,q⟩:=key j _ q (fun z=>by cases z);exact⟨z,.inr q⟩
  obtain⟨z,q⟩:=this
  obtain⟨a,xs,e,r⟩:=R.mu j ds q
  exact⟨a,xs,by rw[List.getElem?_set_ne (Ne.symm z)];exact e,r⟩
 ·obtain⟨zj,mj⟩:=muk j hj
  obtain⟨zl,ml⟩:=muk l hl
  rw[List.getElem?_set_ne (Ne.symm zj)]at e1
  rw[List.getElem?_set_ne (Ne.symm zl)]at e2
  exact R.inj j l b mj ml e1 e2
 ·obtain⟨z,q⟩:=key j _ q (fun z=>by cases z)
  rw[List.getElem?_set_ne (Ne.symm z)]at e
  exact w ⟨j,ds,q,e⟩
 ·have z:j≠i:=fun z=>by subst z;exact nh ds q
  rw[List.getElem?_set_ne (Ne.symm z),List.getElem?_set_ne (Ne.symm z)]
  exact⟨q,rfl⟩
end
section
variable {K:W.Frag}{cl:Str→Addr}{E:XK}{σ:St}{H F:Hp}{env:DE}{k:Nat}
def S8:Option Sl→Sl
 | some (.fz d)=>.fz d
 | some (.ow ds)=>.hd ds
 | some (.hd ds)=>.hd ds
 | _=>.no
def i3(k:Nat)(js:List Nat)(e:DE):DE:=List.replicate k .no++js.map fun j=>S8 e[j]?
def j0(b:GF)(c:BF)(el:ZF)(ec:DE)(eo:DE):List D→List D→Option (R (List D))
 | [],acc=>some (.ok acc eo)
 | d::ds,acc=>match b d ec with
  | none=>none
  | some e1=>bnd (c e1) fun t e2=>if t=true then bnd (el e2) fun y _=>if acc.length<sizeLine then j0 b c el ec eo ds (acc++[y])else none
   else j0 b c el ec eo ds acc
theorem O4{js:List Nat}{e:DE}{i:Nat}{s:Sl}(h:(i3 k js e)[i]? = some s)(n:s≠.no):k≤i∧∃j,js[i-k]? = some j∧S8 e[j]? = s:=by
 unfold i3 at h
 by_cases z:i<k
 ·rw[List.getElem?_append_left (by rw[List.length_replicate];exact z),List.getElem?_replicate,if_pos z]at h
  cases h;exact absurd rfl n
 ·rw[List.getElem?_append_right (by rw[List.length_replicate];omega),List.length_replicate,List.getElem?_map]at h
  cases q:js[i-k]? with
  | none=>rw[q]at h;cases h
  | some j=>rw[q]at h;cases h;exact⟨by omega,j,rfl,rfl⟩
theorem J6{js:List Nat}{i j:Nat}{v:V}(hk:k≤i)(hj:js[i-k]? = some j)(h:σ[j]? = some (some v)):(i8 k js σ)[i]? = some (some v):=by
 unfold i8
 rw[List.getElem?_append_right (by rw[List.length_replicate];exact hk),List.length_replicate,List.getElem?_map,hj]
 simp[h]
theorem Rel.comp{js:List Nat}(R:Rel K cl σ H F env)(nd:js.Nodup):Rel K cl (i8 k js σ) H F (i3 k js env):=by
 have cap:∀{j:Nat} {ds:List D},S8 env[j]? = .hd ds→env[j]? = some (.ow ds)∨env[j]? = some (.hd ds):=fun{j ds} h=>by
  unfold S8 at h
  split at h
  ·cases h
  ·rename_i q;cases h;exact .inl q
  ·rename_i q;cases h;exact .inr q
  ·cases h
 have noow:∀{j:Nat} {ds:List D},S8 env[j]?≠.ow ds:=fun{j ds} h=>by
  unfold S8 at h
  split at h<;>cases h
 have mu':∀(i:Nat) (ds:List D),((i3 k js env)[i]? = some (.ow ds)∨(i3 k js env)[i]? = some (.hd ds))→k≤i∧∃j,js[i-k]? = some j∧(env[j]? = some (.ow ds)∨env[j]? = some (.hd ds)):=fun i ds q=>by
  rcases q with q | q
  ·obtain⟨hk,j,hj,c⟩:=O4 q (fun z=>by cases z);exact absurd c noow
  ·obtain⟨hk,j,hj,c⟩:=O4 q (fun z=>by cases z);exact⟨hk,j,hj,cap c⟩
 refine⟨R.sub,?_,fun i d q=>?_,fun i ds q=>?_,fun i l b ⟨ds,q⟩ ⟨es,q'⟩ e1 e2=>?_⟩
 ·unfold i8 i3
  rw[List.length_append,List.length_append,List.length_replicate,List.length_replicate,List.length_map,List.length_map]
 ·obtain⟨hk,j,hj,c⟩:=O4 q (fun z=>by cases z)
  have:env[j]? = some (.fz d):=by
   unfold S8 at c
   split at c
   ·rename_i q;cases c;exact q
   all_goals cases c
  obtain⟨v,e,p⟩:=R.fz j d this
  exact⟨v,J6 hk hj e,p⟩
 ·obtain⟨hk,j,hj,c⟩:=mu' i ds q
  obtain⟨a,xs,e,r⟩:=R.mu j ds c
  exact⟨a,xs,J6 hk hj e,r⟩
 ·obtain⟨hk,j,hj,c⟩:=mu' i ds q
  obtain⟨hl,m,hm,c'⟩:=mu' l es q'
  obtain⟨a,xs,e,_⟩:=R.mu j ds c
  obtain⟨a',xs',e',_⟩:=R.mu m es c'
  have h1:=J6 (k:=k) hk hj e
  have h2:=J6 (k:=k) hl hm e'
  rw[e1]at h1;cases h1
  rw[e2]at h2;cases h2
  have jm:j=m:=R.inj j m b ⟨ds,c⟩ ⟨es,c'⟩ e e'
  subst jm
  obtain⟨hi',ei⟩:=List.getElem?_eq_some_iff.mp hj
  obtain⟨hl',el⟩:=List.getElem?_eq_some_iff.mp hm
  have:i-k=l-k:=(List.getElem_inj nd).mp (ei.trans el.symm)
  omega
def NoOw(e:DE):Prop:=∀(i:Nat) (ds:List D),e[i]?≠some (.ow ds)
theorem a1i{js:List Nat}{e:DE}:NoOw (i3 k js e):=fun i ds q=>by
 obtain⟨hk,j,hj,c⟩:=O4 q (fun z=>by cases z)
 unfold S8 at c
 split at c<;>cases c
theorem NoOw.not{e:DE}(n:NoOw e){σ:St}{a:Addr}:¬Ow σ e a:=fun⟨i,ds,q,_⟩=>n i ds q
theorem Frm.gr{σ':St}{H' F':Hp}{env':DE}(f:Frm σ H F env σ' H' F' env')(n:NoOw env)(s:Same F' H'):Gr H F H' F':=⟨f.fz,s,fun a o h g=>by obtain⟨h1,f1,_⟩:=f.hid a o h g n.not;exact⟨h1,f1⟩⟩
theorem FX.gr{H' F':Hp}(f:FX σ H F env H' F')(n:NoOw env):Gr H F H' F':=⟨f.fz,f.sub,fun a o h g=>f.hid a o h g n.not⟩
structure Grow(K:W.Frag)(cl:Str→Addr)(σ:St)(H0 F0:Hp)(env:DE)(B:Addr)(acc:List D)(ys:List V)(H F:Hp):Prop where
 rel:Rel K cl σ H F env
 frm:Frm σ H0 F0 env σ H F env
 new:H0 B=none
 at_:H B=some (.lst ys)
 un:F B=none
 far:∀j,Mu env j→σ[j]?≠some (some (.ref B))
 rps:Rps K cl F acc ys
 stay:∀a o,H0 a=some o→F0 a=none→H a=some o∧F a=none
theorem Grow.start{B:Addr}(R:Rel K cl σ H F env)(hB:H B=none):Grow K cl σ H F env B [] [] (upd H B (.lst [])) F:=by
 obtain⟨R',f⟩:=R.newN (o:=.lst []) hB
 refine⟨R',f,hB,g7,R.sub.free hB,fun j ⟨ds,q⟩ e=>?_,.nil,fun a o h f=>⟨by rw[a8 (fun z=>by rw[z,hB]at h;cases h)];exact h,f⟩⟩
 obtain⟨a,ys,e1,hH,_⟩:=R.mu j ds q
 rw[e]at e1;cases e1
 rw[hB]at hH;cases hH
theorem Grow.gr{B:Addr}{acc:List D}{ys:List V}{H0 F0 H' F':Hp}(g:Grow K cl σ H0 F0 env B acc ys H F)(r:Gr H F H' F'):Grow K cl σ H0 F0 env B acc ys H' F' :=
 ⟨g.rel.gr r,g.frm.trans (g.rel.frm r),g.new,(r.hid B _ g.at_ g.un).1,(r.hid B _ g.at_ g.un).2,g.far,g.rps.mono r.fz,fun a o h f=>by obtain⟨h1,f1⟩:=g.stay a o h f;exact r.hid a o h1 f1⟩
theorem Grow.push{B:Addr}{acc:List D}{ys:List V}{H0 F0:Hp}{d:D}{y:V}(g:Grow K cl σ H0 F0 env B acc ys H F)(p:Rp K cl F d y):Grow K cl σ H0 F0 env B (acc++[d]) (ys++[y]) (upd H B (.lst (ys++[y]))) F:=by
 have ne:∀a o,F a=some o→a≠B:=fun a o h z=>by rw[z,g.un]at h;cases h
 refine⟨⟨fun a o h=>by rw[a8 (ne a o h)];exact g.rel.sub _ _ h,g.rel.len,g.rel.fz,fun j ds q=>?_,g.rel.inj⟩,⟨g.frm.fz,fun a o h f w=>?_,g.frm.keep,fun a h=>?_⟩,g.new,g7,g.un,g.far,g.rps.append (.one p),fun a o h f=>by rw[a8 (fun z=>by rw[z,g.new]at h;cases h)];exact g.stay a o h f⟩
 ·obtain⟨a,xs,e,hH,r⟩:=g.rel.mu j ds q
  have z:a≠B:=fun z=>g.far j ⟨ds,q⟩ (by rw[e,z])
  exact⟨a,xs,e,by rw[a8 z];exact hH,r⟩
 ·have z:a≠B:=fun z=>by rw[z,g.new]at h;cases h
  rw[a8 z];exact g.frm.hid a o h f w
 ·by_cases z:a=B
  ·rw[z,g7]at h;cases h
  ·rw[a8 z]at h;exact g.frm.dom a h
theorem a1j{b:GF}{c:BF}{el:ZF}{g:TG}{tf:TT}{te:TE}{js:List Nat}{B:Addr}{d:D}{x:V}{ds acc:List D}{ys:List V}{H0 F0:Hp}{Q:VK}{Pv:List V→Hp→Prop}(nd:js.Nodup)
  (hg:L9 K cl k g b) (hc:G0 K cl E tf c) (he:m4 K cl E te el) (gw:Grow K cl σ H0 F0 env B acc ys H F) (p:Rp K cl F d x)
  (h:Ct K cl E (PN K cl) (j0 b c el (i3 k js env) env (d::ds) acc) σ H0 F0 env Q)
  (hP:∀acc' ys' H' F',Grow K cl σ H0 F0 env B acc' ys' H' F'→Ct K cl E (PN K cl) (j0 b c el (i3 k js env) env ds acc') σ H0 F0 env Q→Pv ys' H') :
  g x (i8 k js σ) H fun σ2 H2=>(σ2.drop k=(i8 k js σ).drop k∧σ2.length=(i8 k js σ).length)∧tf σ2 H2 fun t H3 =>
   if t=true then te σ2 H3 fun y H4=>H4 B=some (.lst ys)∧ys.length<sizeLine∧Pv (ys++[y]) (upd H4 B (.lst (ys++[y])))else Pv ys H3:=by
 unfold j0 at h
 have Rc:Rel K cl (i8 k js σ) H F (i3 k js env):=gw.rel.comp nd
 split at h
 ·exact h.elim
 ·rename_i e1 hb
  refine hg x _ H _ d _ e1 F Rc p hb fun σ2 d2 l2 f2 R2=>⟨⟨d2,l2⟩,?_⟩
  have n1:NoOw (i3 k js env):=a1i
  -- ways out by an exception
  have exc:∀{H' F':Hp} {σ':St} {e':DE} {H'' F'':Hp} {n:Str},Frm (i8 k js σ) H F (i3 k js env) σ' H' F' e'→FX σ' H' F' e' H'' F''→(∀H' F',FX σ H0 F0 env H' F'→E (.ref (cl n)) none H')→E (.ref (cl n)) none H'':=fun{H' F' σ' e' H'' F'' n} f fx q=>by
   have gr:Gr H F H'' F'':=(f.fx fx).gr n1
   exact q _ _ (gw.frm.fx gr.fx)
  refine hc σ2 H _ e1 F R2 ?_
  cases hce:c e1 with
  | none=>rw[hce]at h;exact h.elim
  | some rc =>
   rw[hce]at h
   cases rc with
   | ex n=>exact fun H' F' fx=>exc f2 fx h
   | ok t e2 =>
    intro t' H3 F3 f3 R3 ht
    have ht:t'=t:=ht
    subst ht
    have h:Ct K cl E (PN K cl) (if t'=true then bnd (el e2) fun y _=>if acc.length<sizeLine then j0 b c el (i3 k js env) env ds (acc++[y])else none else j0 b c el (i3 k js env) env ds acc) σ H0 F0 env Q:=h
    have gr3:Gr H F H3 F3:=(f2.trans f3).gr n1 R3.sub
    by_cases z:t'=true
    ·rw[if_pos z]at h ⊢
     refine he σ2 H3 _ e2 F3 R3 ?_
     cases hel:el e2 with
     | none=>rw[hel]at h;exact h.elim
     | some re =>
      rw[hel]at h
      cases re with
      | ex n=>exact fun H' F' fx=>exc (f2.trans f3) fx h
      | ok y e3 =>
       intro v H4 F4 f4 R4 hv
       have h:Ct K cl E (PN K cl) (if acc.length<sizeLine then j0 b c el (i3 k js env) env ds (acc++[y])else none) σ H0 F0 env Q:=h
       split at h
       ·rename_i hlen
        have gr4:Gr H F H4 F4:=((f2.trans f3).trans f4).gr n1 R4.sub
        have gw4:=gw.gr gr4
        exact⟨gw4.at_,by rw[← gw4.rps.length];exact hlen,hP _ _ _ _ (gw4.push hv) h⟩
       ·exact h.elim
    ·rw[if_neg z]at h ⊢
     exact hP _ _ _ _ (gw.gr gr3) h
theorem a17{b:GF}{c:BF}{el:ZF}{js:List Nat}{B:Addr}{acc:List D}{ys:List V}{H0 F0:Hp}{Q:VK}(gw:Grow K cl σ H0 F0 env B acc ys H F)(h:Ct K cl E (PN K cl) (j0 b c el (i3 k js env) env [] acc) σ H0 F0 env Q):Q (.ref B) H :=
 h _ H F gw.frm gw.rel ⟨B,ys,rfl,gw.new,gw.at_,gw.un,gw.far,gw.rps⟩
theorem a1D{b:GF}{c:BF}{el:ZF}{g:TG}{tf:TT}{te:TE}{js:List Nat}{ds:List D}{xs:List V}{a B:Addr}{Q:VK}(nd:js.Nodup)(hg:L9 K cl k g b)(hc:G0 K cl E tf c)(he:m4 K cl E te el)(R:Rel K cl σ H F env)(hB:H B=none)
  (hl:∀H' F',Same F F'→Same F' H'→(∀a o,H a=some o→F a=none→H' a=some o∧F' a=none)→SqL K H' a xs) (r:Rps K cl F ds xs) (h:Ct K cl E (PN K cl) (j0 b c el (i3 k js env) env ds []) σ H F env Q) :
  K9 (X2 K a) g tf te k (i8 k js σ) B (fun H'=>Q (.ref B) H') H:=by
 refine a3R (xs:=xs) (fun i ys H'=>∃F' acc,Grow K cl σ H F env B acc ys H' F'∧Ct K cl E (PN K cl) (j0 b c el (i3 k js env) env (ds.drop i) acc) σ H F env Q) ⟨F,[],.start R hB,h⟩ (fun i ys H' _ ⟨F',acc,gw,_⟩=>hl H' F' gw.frm.fz gw.rel.sub gw.stay) (fun i x ys H' hx ⟨F',acc,gw,h'⟩=>?_) (fun ys H' ⟨F',acc,gw,h'⟩=>?_)
 ·obtain⟨d,hd,p⟩:=r.get' hx
  rw[O3 hd]at h'
  exact a1j (Pv:=fun ys' H2=>∃F' acc,Grow K cl σ H F env B acc ys' H2 F'∧Ct K cl E (PN K cl) (j0 b c el (i3 k js env) env (ds.drop (i+1)) acc) σ H F env Q) nd hg hc he gw (Rp.mono gw.frm.fz _ _ p) h' fun acc' ys' H2 F2 gw2 h2=>⟨F2,acc',gw2,h2⟩
 ·rw[← r.length,List.drop_length]at h'
  exact a17 gw h'
def x9:BF:=fun e=>some (.ok true e)
theorem C4:G0 K cl E a5X x9:=fun σ H Q env F R h=>h true H F Frm.refl R rfl
def S9(k:Nat)(js:List Nat)(f:ZF)(b:GF)(c:BF)(el:ZF):NF:=fun e=>bnd (f e) fun d e1=>match seqL d with
 | none=>none
 | some ds=>j0 b c el (i3 k js e1) e1 ds []
def V4(i:Nat)(k:Nat)(js:List Nat)(b:GF)(c:BF)(el:ZF):NF:=fun e=>match look e i with
 | some d=>(match seqL d with
  | none=>none
  | some ds=>j0 b c el (i3 k js e) e ds [])
 | none=>none
theorem a0V{t:TE}{g:TG}{tf:TT}{te:TE}{js:List Nat}{f:ZF}{b:GF}{c:BF}{el:ZF}(nd:js.Nodup)(hf:m4 K cl E t f)(hg:L9 K cl k g b)(hc:G0 K cl E tf c)(he:m4 K cl E te el):O1 K cl E (a0e (a1x K t) g tf te k js) (S9 k js f b c el):=by
 intro σ H Q env F R h
 refine hf σ H _ env F R ((Ct.bnd h a0M).mono fun x H1 ⟨F1,e1,d,s1,R1,p1,h1⟩=>?_)
 split at h1
 ·exact h1.elim
 ·rename_i ds hs
  obtain⟨a,xs,rfl,r,hl⟩:=Rp.seqL p1 hs
  exact⟨a,rfl,⟨xs,hl H1 R1.sub⟩,fun B hB=>a1D nd hg hc he R1 hB (fun H' F' f2 s2 _=>hl H' (f2.trans s2)) r h1⟩
theorem a5d{i:Nat}{g:TG}{tf:TT}{te:TE}{js:List Nat}{b:GF}{c:BF}{el:ZF}(nd:js.Nodup)(hg:L9 K cl k g b)(hc:G0 K cl E tf c)(he:m4 K cl E te el):O1 K cl E (a0e (a1x K (A3 i)) g tf te k js) (V4 i k js b c el):=by
 intro σ H Q env F R h
 unfold V4 look at h
 cases q:env[i]? with
 | none=>rw[q]at h;exact h.elim
 | some s =>
  rw[q]at h
  cases s with
  | no=>exact h.elim
  | fz d =>
   have h:Ct K cl E (PN K cl) (match seqL d with
    | none=>none
    | some ds=>j0 b c el (i3 k js env) env ds []) σ H F env Q:=h
   split at h
   ·exact h.elim
   ·rename_i ds hs
    obtain⟨v,e,p⟩:=R.fz i d q
    obtain⟨a,xs,rfl,r,hl⟩:=Rp.seqL p hs
    exact⟨_,e,a,rfl,⟨xs,hl H R.sub⟩,fun B hB=>a1D nd hg hc he R hB (fun H' F' f2 s2 _=>hl H' (f2.trans s2)) r h⟩
  | ow ds =>
   have h:Ct K cl E (PN K cl) (j0 b c el (i3 k js env) env ds []) σ H F env Q:=h
   obtain⟨a,xs,e,hH,hF,r⟩:=R.mu i ds (.inl q)
   exact⟨_,e,a,rfl,⟨xs,.of hH⟩,fun B hB=>a1D nd hg hc he R hB (fun H' F' _ _ st=>.of (st a _ hH hF).1) r h⟩
  | hd ds =>
   have h:Ct K cl E (PN K cl) (j0 b c el (i3 k js env) env ds []) σ H F env Q:=h
   obtain⟨a,xs,e,hH,hF,r⟩:=R.mu i ds (.inr q)
   exact⟨_,e,a,rfl,⟨xs,.of hH⟩,fun B hB=>a1D nd hg hc he R hB (fun H' F' _ _ st=>.of (st a _ hH hF).1) r h⟩
theorem T1{i:Nat}{wi:TI}{g:TG}{tf:TT}{te:TE}{js:List Nat}{f:NF}(h:O1 K cl E (a0e wi g tf te k js) f):RfS K cl E (a1U i wi g tf te k js) (u0 i f):=fun N σ H env F R q=>P9 h N σ H env F R q
end
def fD(n m:Nat)(body:SF)(ds:List D):Option R1:=if ds.length=m then(match body (ds.map .fz++List.replicate (n-ds.length) .no)with
 | some (.nx _)=>some (.ret .non)
 | some (.rt d)=>some (.ret d)
 | some (.ro es)=>some (.own es)
 | some (.rz dss)=>some (.owz dss)
 | some (.ex c)=>some (.ex c)
 | _=>none)else none
section
variable {P:Program}{w:World}{K:W.Frag}{mg:Str→Option Value}{base:Heap}{cl:Str→Addr}
theorem a4e{N:List Str}{vs:List V}{ds:List D}{H F:Hp}(s:Same F H)(p:Rps K cl F ds vs):Rel K cl (start N vs) H F (ds.map .fz++List.replicate (N.length-ds.length) .no)∧NoOw (ds.map .fz++List.replicate (N.length-ds.length) .no):=by
 have key:∀(i:Nat) (t:Sl),(ds.map Sl.fz++List.replicate (N.length-ds.length) .no)[i]? = some t→t≠.no→∃d,ds[i]? = some d∧t=.fz d:=fun i t q n=>by
  by_cases z:i<ds.length
  ·rw[List.getElem?_append_left (by rw[List.length_map];exact z),List.getElem?_map]at q
   cases hd:ds[i]? with
   | none=>rw[hd]at q;cases q
   | some d=>rw[hd]at q;cases q;exact⟨d,rfl,rfl⟩
  ·rw[List.getElem?_append_right (by rw[List.length_map];omega),List.getElem?_replicate]at q
   split at q
   ·cases q;exact absurd rfl n
   ·cases q
 have no:NoOw (ds.map .fz++List.replicate (N.length-ds.length) .no):=fun i es q=>by
  obtain⟨d,_,z⟩:=key i _ q (fun z=>by cases z);cases z
 refine⟨⟨s,?_,fun i d q=>?_,fun i es q=>?_,fun i j b ⟨es,q⟩ _ _ _=>?_⟩,no⟩
 ·unfold start
  rw[List.length_append,List.length_append,List.length_map,List.length_map,List.length_replicate,List.length_replicate,p.length]
 ·obtain⟨d',hd,z⟩:=key i _ q (fun z=>by cases z)
  cases z
  obtain⟨v,hv,r⟩:=p.get hd
  refine⟨v,?_,r⟩
  unfold start
  rw[List.getElem?_append_left (by rw[List.length_map];exact(List.getElem?_eq_some_iff.mp hv).1),List.getElem?_map,hv];rfl
 ·rcases q with q | q
  ·obtain⟨d,_,z⟩:=key i _ q (fun z=>by cases z);cases z
  ·obtain⟨d,_,z⟩:=key i _ q (fun z=>by cases z);cases z
 ·rcases q with q | q
  ·obtain⟨d,_,z⟩:=key i _ q (fun z=>by cases z);cases z
  ·obtain⟨d,_,z⟩:=key i _ q (fun z=>by cases z);cases z
theorem W7{n m:Nat}{body:SF}{vs:List V}{H:Hp}{Q:VK}{E:XK}(h:j1 K cl (fD n m body) vs H Q E):vs.length=m:=by
 obtain⟨ds,F,s,p,h⟩:=h
 unfold fD at h
 by_cases z:ds.length=m
 ·rw[← p.length];exact z
 ·rw[if_neg z]at h;exact h.elim
theorem J7{N:List Str}{m:Nat}{body:SF}{t:TS}{vs:List V}{H:Hp}{Q:VK}{E:XK}(hb:RfS K cl E t body)(h:j1 K cl (fD N.length m body) vs H Q E):t { nx:=fun _ H'=>Q .non H',rt:=Q } (start N vs) H:=by
 obtain⟨ds,F,s,p,h⟩:=h
 obtain⟨R,no⟩:=a4e (N:=N) s p
 refine hb _ _ H _ F R ?_
 unfold fD at h
 by_cases z:ds.length=m
 ·rw[if_pos z]at h
  cases r:body (ds.map .fz++List.replicate (N.length-ds.length) .no)with
  | none=>rw[r]at h;exact h.elim
  | some rs =>
   rw[r]at h
   cases rs with
   | nx e=>exact fun σ' H' F' f R'=>h .non H' F' (f.gr no R'.sub) (by simp only[Rp])
   | rt d=>exact fun v H' F' x q=>h v H' F' (x.gr no) q
   | ro es =>
    refine fun a xs H' F' x ha fa nw q=>h a xs H' F' (x.gr no) ?_ ha fa q
    cases e:H a with
    | none=>rfl
    | some o=>exact absurd (nw o e) no.not
   | rz dss =>
    refine fun p as H' F' x hp ht fp rz=>h p as H' F' (x.gr no) hp ht fp (rz.imp fun a xs ha fa nw=>?_)
    cases e:H a with
    | none=>rfl
    | some o=>exact absurd (nw o e) no.not
   | bk e=>exact h.elim
   | ct e=>exact h.elim
   | ex c=>exact fun H' F' x=>h H' F' (x.gr no)
 ·rw[if_neg z]at h;exact h.elim
theorem Fun.okD{x qual:Str}{st:Stmt}{f:Addr}{fd:FuncData}{N ps:List Str}{k:Nat}{body:SF}(F:Fun K x qual st f fd)(S:FnScope N ps (a7 st))
  (hbody:∀(cdv:Value) (A:Around) (outer:List Env) (s:Shared) (H:Hp) (E:XK),Room k (A.deeper (envOfC qual (a7 st) s.heap.objs.size f cdv)) →
   ∃t,PSs (G4 (r0 P w) P w K mg base N qual (a7 st) f cdv A outer s H E) (i5 st) t∧RfS K cl E t body):FnOk P w K mg base (r0 P w) (k+1) f fd ps (j1 K cl (fD N.length ps.length body)) :=
 F.okE S (fun vs H Q E h=>W7 h) fun cdv A outer s H vs Q E hr h=>by
  obtain⟨t,h1,h2⟩:=hbody cdv A outer s H E hr
  exact⟨t,h1,J7 h2 h⟩
theorem FunD.okD{x qual:Str}{st:Stmt}{dT f:Addr}{fd:FuncData}{N ps:List Str}{k:Nat}{body:SF}(F:FunD K x qual st dT f fd)(S:FnScope N ps (a7 st))
  (hbody:∀(cdv:Value) (A:Around) (outer:List Env) (s:Shared) (H:Hp) (E:XK),Room k (A.deeper (envOfC qual (a7 st) s.heap.objs.size f cdv)) →
   ∃t,PSs (G4 (r0 P w) P w K mg base N qual (a7 st) f cdv A outer s H E) (i5 st) t∧RfS K cl E t body):FnOk P w K mg base (r0 P w) (k+1) f fd ps (j1 K cl (fD N.length ps.length body)) :=
 F.okE S (fun vs H Q E h=>W7 h) fun cdv A outer s H vs Q E hr h=>by
  obtain⟨t,h1,h2⟩:=hbody cdv A outer s H E hr
  exact⟨t,h1,J7 h2 h⟩
theorem a6I{g:List D→Option R1}{vs:List V}{H:Hp}{Q:VK}{E:XK}{a:Addr}{ns:List Int}(e:vs=[.ref a])(h:Scr K H a (ns.map V.int))(q:∀H',Q (.bl true) H')(m:g [.scr ns]=some (.ret (.bl true))):j1 K cl g vs H Q E:=by
 refine⟨[.scr ns],H,Same.refl _,?_,?_⟩
 ·rw[e];exact .one (by simp only[Rp];exact⟨a,rfl,h⟩)
 ·rw[m]
  intro v H' F' _ p
  have p:Rp K cl F' (.bl true) v:=p
  simp only[Rp]at p
  rw[p];exact q H'
def tyN:D→Option String
 | .non=>some "NoneType"
 | .bl _=>some "bool"
 | .int _=>some "int"
 | .str _=>some "str"
 | .lst _=>some "list"
 | .tup _=>some "tuple"
 | _=>none
theorem a6J{K:W.Frag}(t n:String)(ht:t∈["NoneType","bool","int","str","list","tuple"])(hn:n∈["bool","int","str","list","tuple"]):W.kitOne K (.type t) (.type n)=some (t == n || (t == "bool" && n == "int")):=by
 simp only[List.mem_cons,List.not_mem_nil,or_false]at ht hn
 rcases ht with rfl | rfl | rfl | rfl | rfl | rfl<;>rcases hn with rfl | rfl | rfl | rfl | rfl<;>first | rfl | with_unfolding_all rfl
def a94:List D→Option D
 | [d,.ty n]=>match tyN d with
  | some t=>if n∈["bool","int","str","list","tuple"]then some (.bl (t == n || (t == "bool" && n == "int")))else none
  | none=>none
 | _=>none
theorem a6K{d:D}{t:String}(h:tyN d=some t):t∈["NoneType","bool","int","str","list","tuple"]:=by
 cases d<;>cases h<;>decide
theorem a8H{F H:Hp}{d:D}{t:String}{v:V}(s:Same F H)(p:Rp K cl F d v)(h:tyN d=some t):TyX K H v (.type t):=by
 cases d<;>cases h<;>simp only[Rp]at p
 ·subst p;exact .of .non
 ·subst p;exact .of (.bl _)
 ·subst p;exact .of (.int _)
 ·subst p;exact .of (.str _)
 ·obtain⟨a,xs,rfl,h,_⟩:=p;exact .of (.tup (s _ _ h))
 ·obtain⟨a,xs,rfl,h,_⟩:=p;exact .of (.lst (s _ _ h))
def a1E(n:String)(d:D):Option D:=match tyN d with
 | some t=>if n∈["bool","int","str","list","tuple"]then some (.bl (t == n || (t == "bool" && n == "int")))else none
 | none=>none
def T2(i:Nat)(n:String):ZF:=fun e=>match look e i with
 | some d=>T8 (a1E n d) e
 | none=>none
theorem a0W{E:XK}{i:Nat}{n:String}{t:TE}(ht:t=tC (.ty n):=by rfl):m4 K cl E (tCB (a4U K) (E7 (A3 i) (E7 t Q8))) (T2 i n):=by
 subst ht
 intro σ H Q env F R h
 unfold T2 at h
 cases q:look env i with
 | none=>rw[q]at h;exact h.elim
 | some d =>
  rw[q]at h
  obtain⟨x,e,rb⟩:=R.look q
  refine⟨x,e,?_⟩
  cases hz:a1E n d with
  | none=>simp only[hz,R9]at h;exact h.elim
  | some z =>
   simp only[hz,R8]at h
   unfold a1E at hz
   split at hz
   ·rename_i t ht
    split at hz
    ·rename_i hn;cases hz
     refine⟨x,_,_,_,_,rfl,rfl,?_,a6J t n (a6K ht) hn,h _ H F Frm.refl R (by show Rp K cl F (.bl _) _;simp only[Rp])⟩
     rcases rb with p | ⟨a,xs,ds,rfl,rfl,hH,_⟩
     ·exact a8H R.sub p ht
     ·cases ht;exact .of (.lst hH)
    ·cases hz
   ·cases hz
end
section
variable {α β:Type}
def G8(r:Option RS)(k:SF):Option RS:=match r with
 | some (.nx e)=>k e
 | r=>r
theorem a6L{f k:SF}{e:DE}:d6 f k e=G8 (f e) k:=rfl
theorem a6M{e:DE}{k:SF}:G8 (some (.nx e)) k=k e:=rfl
theorem a6N{d:D}{k:SF}:G8 (some (.rt d)) k=some (.rt d):=rfl
theorem a6O{d:List D}{k:SF}:G8 (some (.ro d)) k=some (.ro d):=rfl
theorem a6P{d:Str}{k:SF}:G8 (some (.ex d)) k=some (.ex d):=rfl
theorem a6Q{e:DE}{k:SF}:G8 (some (.bk e)) k=some (.bk e):=rfl
theorem a6R{e:DE}{k:SF}:G8 (some (.ct e)) k=some (.ct e):=rfl
theorem a6S{k:SF}:G8 none k=none:=rfl
theorem a5e{c:Prop} [Decidable c] {a b:Option RS} {k:SF}:G8 (if c then a else b) k=if c then G8 a k else G8 b k:=by split<;>rfl
theorem a6T{d:D}{e:DE}:toZ (some (.ret d)) e=some (.ok d e):=rfl
theorem a6U{d:List D}{e:DE}:toZ (some (.own d)) e=some (.ok (.lst d) e):=rfl
theorem a8I{d:Str}{e:DE}:toZ (some (.ex d)) e=some (.ex d):=rfl
theorem a5f{d:D}{e:DE}:Y6 (some (.ret d)) e=some (.ok d e):=rfl
theorem a5g{d:List D}{e:DE}:Y6 (some (.own d)) e=some (.ok (.lst d) e):=rfl
theorem a4g{i:Nat}{d:D}{e:DE}:a3j i (some (.ret d)) e=put i (.fz d) e:=rfl
theorem a4h{i:Nat}{d:List D}{e:DE}:a3j i (some (.own d)) e=put i (.ow d) e:=rfl
theorem a5h{i:Nat}{d:Str}{e:DE}:a3j i (some (.ex d)) e=some (.ex d):=rfl
theorem a3m{i:Nat}{d:D}{e:DE}:a0p i (some (.ret d)) e=put i (.fz d) e:=rfl
theorem a3n{i:Nat}{d:List D}{e:DE}:a0p i (some (.own d)) e=put i (.ow d) e:=rfl
theorem a4i{d:D}:a1C (some (.ret d))=some (.rt d):=rfl
theorem a4j{d:List D}:a1C (some (.own d))=some (.ro d):=rfl
theorem a5i{d:Str}:a1C (some (.ex d))=some (.ex d):=rfl
theorem a3o{d:D}:a4b (some (.ret d))=some (.rt d):=rfl
theorem a3p{d:List D}:a4b (some (.own d))=some (.ro d):=rfl
def M0(r:Option RS):Option R1:=match r with
 | some (.nx _)=>some (.ret .non)
 | some (.rt d)=>some (.ret d)
 | some (.ro es)=>some (.own es)
 | some (.rz dss)=>some (.owz dss)
 | some (.ex c)=>some (.ex c)
 | _=>none
theorem a9s{n m:Nat}{body:SF}{ds:List D}(h:ds.length=m):fD n m body ds=M0 (body (ds.map .fz++List.replicate (n-m) .no)):=by
 unfold fD;rw[if_pos h,h];rfl
theorem a6V{e:DE}:M0 (some (.nx e))=some (.ret .non):=rfl
theorem a6W{d:D}:M0 (some (.rt d))=some (.ret d):=rfl
theorem a6X{d:List (List D)}:M0 (some (.rz d))=some (.owz d):=rfl
theorem a6Y{d:List (List D)}{k:SF}:G8 (some (.rz d)) k=some (.rz d):=rfl
theorem a4k{d:List (List D)}:a1C (some (.owz d))=some (.rz d):=rfl
theorem a6Z{d:List D}:M0 (some (.ro d))=some (.own d):=rfl
theorem a60{d:Str}:M0 (some (.ex d))=some (.ex d):=rfl
theorem a5j{c:Prop} [Decidable c] {a b:Option RS}:M0 (if c then a else b)=if c then M0 a else M0 b:=by split<;>rfl
def P0(r:Option RS)(k:SF):Option RS:=match r with
 | some (.nx e)=>k e
 | some (.ct e)=>k e
 | some (.bk e)=>some (.nx e)
 | r=>r
theorem a61{e:DE}{k:SF}:P0 (some (.nx e)) k=k e:=rfl
theorem a62{e:DE}{k:SF}:P0 (some (.ct e)) k=k e:=rfl
theorem a63{e:DE}{k:SF}:P0 (some (.bk e)) k=some (.nx e):=rfl
theorem a64{d:D}{k:SF}:P0 (some (.rt d)) k=some (.rt d):=rfl
theorem a65{d:List (List D)}{k:SF}:P0 (some (.rz d)) k=some (.rz d):=rfl
theorem a66{d:List D}{k:SF}:P0 (some (.ro d)) k=some (.ro d):=rfl
theorem a67{d:Str}{k:SF}:P0 (some (.ex d)) k=some (.ex d):=rfl
theorem a5k{b:GF}{body:SF}{e:DE}:u6 b body [] e=some (.nx e):=rfl
def a3q(x:Option DE)(k:SF):Option RS:=match x with
 | none=>none
 | some e=>k e
theorem a1k{b:GF}{body:SF}{d:D}{ds:List D}{e:DE}:u6 b body (d::ds) e=a3q (b d e) fun e1=>P0 (body e1) (u6 b body ds):=by
 rw[u6];cases b d e<;>rfl
theorem C6{e:DE}{k:SF}:a3q (some e) k=k e:=rfl
def a18(n i:Nat)(exm:Str→Bool)(suite:SF)(e:DE)(r:Option RS):Option RS:=match r with
 | some (.ex c)=>if(exm c && a0U e)=true then(match suite ((List.replicate n Sl.no).set i (.fz (.exc c)))with
   | some (.nx e2)=>put i .no e2
   | some (.rt d)=>some (.rt d)
   | some (.ro ds)=>some (.ro ds)
   | _=>none)else none
 | r=>r
theorem a4l{n i:Nat}{exm:Str→Bool}{body suite:SF}{e:DE}:a8G n i exm body suite e=a18 n i exm suite e (body e):=rfl
def a3r(i:Nat)(r:Option RS):Option RS:=match r with
 | some (.nx e2)=>put i .no e2
 | some (.rt d)=>some (.rt d)
 | some (.ro ds)=>some (.ro ds)
 | _=>none
theorem a68{i:Nat}{e:DE}:a3r i (some (.nx e))=put i .no e:=rfl
theorem a69{i:Nat}{d:D}:a3r i (some (.rt d))=some (.rt d):=rfl
theorem a6_{i:Nat}{d:List D}:a3r i (some (.ro d))=some (.ro d):=rfl
theorem a7a{n i:Nat}{exm:Str→Bool}{suite:SF}{e:DE}{c:Str}:a18 n i exm suite e (some (.ex c))=if(exm c && a0U e)=true then a3r i (suite ((List.replicate n Sl.no).set i (.fz (.exc c))))else none:=rfl
theorem a7b{n i:Nat}{exm:Str→Bool}{suite:SF}{e:DE}{d:D}:a18 n i exm suite e (some (.rt d))=some (.rt d):=rfl
theorem a7c{n i:Nat}{exm:Str→Bool}{suite:SF}{e:DE}{d:List D}:a18 n i exm suite e (some (.ro d))=some (.ro d):=rfl
theorem a7d{n i:Nat}{exm:Str→Bool}{suite:SF}{e e1:DE}:a18 n i exm suite e (some (.nx e1))=some (.nx e1):=rfl
theorem a7e(a b:Int):A8 (.int a) (.int b)=some (.int (a+b)):=rfl
theorem a7f(a b:Int):a0m (.int a) (.int b)=some (.int (a-b)):=rfl
theorem a8J(a b:Int):gLt (.int a) (.int b)=some (.bl (decide (a<b))):=rfl
theorem a8K(a b:Int):gGt (.int a) (.int b)=some (.bl (decide (b<a))):=rfl
theorem a8L(a b:Int):gGe (.int a) (.int b)=some (.bl (decide (b≤a))):=rfl
theorem Q1{a b:Int}(h:IntMulOk a b):r8 (.int a) (.int b)=some (.int (a*b)):=by show(if _ then _ else _)=_;rw[if_pos h]
theorem a7g{a b:Int}(h:0<b∧b.natAbs.log2<9000):L5 (.int a) (.int b)=some (.int (a/b)):=by show(if _ then _ else _)=_;rw[if_pos h]
theorem a7h{a b:Int}(h:0<b):m8 (.int a) (.int b)=some (.int (a%b)):=by show(if _ then _ else _)=_;rw[if_pos h]
theorem a7i{a b:Int}(h:a0A a b):a0N (.int a) (.int b)=some (.int (a ^ b.toNat)):=by show(if _ then _ else _)=_;rw[if_pos h]
end
def Fits(i:Int):Prop:=Builtin.Int.intBits i≤2 ^ 20
theorem a7j{a b:Int}(h:a.natAbs≤b.natAbs):Builtin.Int.intBits a≤Builtin.Int.intBits b:=by
 unfold Builtin.Int.intBits
 split
 ·exact Nat.zero_le _
 ·rename_i ha
  have ha':a.natAbs≠0:=by
   intro z;apply ha;first | exact Int.natAbs_eq_zero.mp z | (simpa using z)
  have hb':b.natAbs≠0:=by omega
  split
  ·rename_i hb
   exact absurd (by first | exact Int.natAbs_eq_zero.mpr hb | (simpa using hb)) hb'
  ·have h1:b.natAbs<2 ^ (b.natAbs.log2+1):=Nat.lt_log2_self
   have h2:a.natAbs.log2<b.natAbs.log2+1:=(Nat.log2_lt ha').mpr (by omega)
   omega
theorem Fits.le{a b:Int}(h:Fits b)(l:a.natAbs≤b.natAbs):Fits a:=Nat.le_trans (a7j l) h
theorem Fits.div{i:Int}{n:Int}(h:Fits i)(hn:0<n:=by decide):Fits (i/n):=by
 refine h.le ?_
 rcases Int.lt_or_le i 0 with z | z
 ·have h1:i/n<0:=Int.ediv_neg_of_neg_of_pos z hn
  have h2:i≤i/n:=by
   have h3:n*(i/n)≤i:=Int.mul_ediv_self_le (by omega)
   have h4:i<n*(i/n)+n:=Int.lt_mul_ediv_self_add hn
   have:i/n*1≥i/n*n:=Int.mul_le_mul_of_nonpos_left (by omega) (by omega)
   have e:n*(i/n)=i/n*n:=Int.mul_comm _ _
   have h5:i≤(i/n)*1+(n-1):=by omega
   apply Classical.byContradiction
   intro hc
   have hc:i/n<i:=by omega
   have:i/n*n≤(i-1)*n:=Int.mul_le_mul_of_nonneg_right (by omega) (by omega)
   have h6:i<(i-1)*n+n:=by omega
   have h7:(i-1)*n+n=i*n:=by rw[Int.sub_mul];omega
   have h8:i*n≤i*1:=Int.mul_le_mul_of_nonpos_left (by omega) (by omega)
   omega
  omega
 ·have h1:0≤i/n:=Int.ediv_nonneg z (by omega)
  have h2:i/n≤i:=Int.ediv_le_self n z
  omega
theorem Fits.mod{i n:Int}(hn:0<n)(h:Fits n):Fits (i%n):=by
 refine h.le ?_
 have h1:=Int.emod_nonneg i (show n≠0 by omega)
 have h2:=Int.emod_lt_of_pos i hn
 omega
theorem Fits.mul{i j:Int}(a:Fits i)(b:Fits j):IntMulOk i j:=IntMulOk.of_bits a b
theorem u7{i:Int}(h:i.natAbs<2 ^ 400:=by decide):Fits i:=by
 have e:Builtin.Int.intBits (2 ^ 400:Int)≤2 ^ 20:=by decide +kernel
 have e2:(2 ^ 400:Int).natAbs=2 ^ 400:=by decide +kernel
 exact(show Fits (2 ^ 400)from e).le (by omega)
theorem a9F{a b:Int}(h:a.natAbs<2 ^ 64):IntMulOk a b:=IntMulOk.of_left (intBits_le_64 (by omega) (by omega))
theorem a3s{a b:Int}(h:b.natAbs<2 ^ 64):IntMulOk a b:=IntMulOk.of_right (intBits_le_64 (by omega) (by omega))
theorem a0r{a b:Int}(h:b.natAbs<2 ^ 64):r8 (.int a) (.int b)=some (.int (a*b)):=Q1 (a3s h)
section
variable {α:Type}
theorem a56{a:α}{l:List α}:atI (a::l) 0=some a:=by unfold atI U4;simp
theorem a57{a:α}{l:List α}{n:Nat}:atI (a::l) ((n:Int)+1)=atI l n:=by
 unfold atI U4
 have h1:(0:Int)≤(n:Int)+1:=by omega
 have h2:(0:Int)≤(n:Int):=by omega
 rw[if_pos h1,if_pos h2]
 by_cases z:(n:Int)<(l.length:Int)
 ·rw[if_pos z,if_pos (by rw[List.length_cons];push_cast;omega)]
  show(a::l)[((n:Int)+1).toNat]? = l[((n:Int)).toNat]?
  rw[show((n:Int)+1).toNat=n+1 by omega,show((n:Int)).toNat=n by omega]
  rfl
 ·rw[if_neg z,if_neg (by rw[List.length_cons];push_cast;omega)]
  rfl
theorem a58{a b:α}{l:List α}:atI (a::b::l) 1=some b:=(a57 (n:=0)).trans a56
theorem a93{a b c:α}{l:List α}:atI (a::b::c::l) 2=some c:=(a57 (n:=1)).trans a58
end
def D0(ns:List Int)(k:Int):Int:=ns.getD k.toNat 0
theorem a7k{ns:List Int}{k:Int}(hk:0≤k):(if k<(ns.length:Int)then(match atI ns k with
  | none=>none
  | some n=>some (R1.ret (D.int n)))else some (R1.ret (D.int 0)))=some (R1.ret (D.int (D0 ns k))):=by
 unfold D0
 by_cases z:k<(ns.length:Int)
 ·rw[if_pos z]
  have h:k.toNat<ns.length:=by omega
  have e:atI ns k=some ns[k.toNat]:=by
   unfold atI U4
   rw[if_pos hk,if_pos z]
   exact List.getElem?_eq_getElem h
  rw[e,List.getD_eq_getElem?_getD,List.getElem?_eq_getElem h];rfl
 ·rw[if_neg z,List.getD_eq_getElem?_getD,List.getElem?_eq_none (by omega)];rfl
theorem a7l{i j:Int}(h : -(2 ^ 62)≤i∧i<2 ^ 62∧-(2 ^ 62)≤j∧j<2 ^ 62):a0R [.int i,.int j]=some (i,(j-i).toNat):=by
 show(if _ then _ else _)=_
 rw[if_pos h]
section
variable {K:W.Frag}{cl:Str→Addr}{E:XK}{σ:St}{H F:Hp}{env:DE}{k:Nat}
def oS(f:ZF):OF:=fun e=>bnd (f e) fun d e1=>match d with
 | .int i=>some (.ok (some i) e1)
 | _=>none
theorem a1F{t:TE}{f:ZF}(hf:m4 K cl E t f):RfO K cl E (a5V t) (oS f):=by
 intro σ H Q env F R h
 refine hf σ H _ env F R ((Ct.bnd h a9O).mono fun x H1 ⟨F1,e1,d,s1,R1,p1,h1⟩=>?_)
 split at h1
 ·rename_i i
  have:x=.int i:=by have:=(show Rp K cl F1 (.int i) x from p1);simpa only[Rp]using this
  exact⟨i,this,h1 _ H1 F1 Frm.refl R1 rfl⟩
 ·exact h1.elim
def Y9(xs:List D)(lo hi:Option Int):List D:=(xs.drop (HT.sIx xs.length 0 lo)).take (HT.sIx xs.length xs.length hi-HT.sIx xs.length 0 lo)
theorem Rps.cut{ds:List D}{xs:List V}(h:Rps K cl F ds xs)(lo hi:Option Int):Rps K cl F (Y9 ds lo hi) (a0E xs lo hi):=by
 unfold Y9 a0E
 rw[h.length]
 exact(h.drop _).take _
def a0X(i:Nat)(l u:OF):NF:=fun e=>match look e i with
 | none=>none
 | some _=>bnd (l e) fun lo e2=>bnd (u e2) fun hi e3=>match look e3 i with
  | some d=>(match seqL d with
   | some ds=>some (.ok (Y9 ds lo hi) e3)
   | none=>none)
  | none=>none
theorem Rb.seqL{d:D}{ds:List D}{v:V}(s:Same F H)(p:Rb K cl F H d v)(q:L2.seqL d=some ds):∃a xs,v=.ref a∧Rps K cl F ds xs∧SqL K H a xs:=by
 rcases p with p | ⟨a,xs,es,e,rfl,h,r⟩
 ·obtain⟨a,xs,e,r,l⟩:=Rp.seqL p q;exact⟨a,xs,e,r,l H s⟩
 ·cases q;exact⟨a,xs,e,r,.of h⟩
theorem a4m{i:Nat}{tl tu:TO}{l u:OF}(hl:RfO K cl E tl l)(hu:RfO K cl E tu u):O1 K cl E (tSl (a4S K) (A3 i) tl tu) (a0X i l u):=by
 intro σ H Q env F R h
 unfold a0X at h
 cases q:look env i with
 | none=>rw[q]at h;exact h.elim
 | some d0 =>
  rw[q]at h
  obtain⟨x,e0,_⟩:=R.look q
  refine⟨x,e0,?_⟩
  refine hl σ H _ env F R ((Ct.bnd h a0M).mono fun lo H2 ⟨F2,e2,lo',s2,R2,p2,h2⟩=>?_)
  refine hu σ H2 _ e2 F2 R2 ((Ct.bnd h2 a0M).mono fun hi H3 ⟨F3,e3,hi',s3,R3,p3,h3⟩=>?_)
  cases (show lo=lo' from p2)
  cases (show hi=hi' from p3)
  cases q2:look e3 i with
  | none=>simp only[q2]at h3;exact h3.elim
  | some d =>
   simp only[q2]at h3
   obtain⟨x',e',rb⟩:=R3.look q2
   rw[e0]at e';cases e'
   split at h3
   ·rename_i ds hs
    obtain⟨a,xs,rfl,r,hq⟩:=rb.seqL R3.sub hs
    exact⟨a,xs,rfl,hq,fun p hp=>Ct.newN R3 hp (r.cut _ _) h3⟩
   ·exact h3.elim
end
section
variable {P:Program}{w:World}{mg:Str→Option Value}{base:Heap}{K:W.Frag}{cl:Str→Addr}{E:XK}{σ:St}{H F:Hp}{env:DE}{k:Nat}
def y0:List D→Option (List Int)
 | []=>some []
 | .int b::ds=>(y0 ds).map (b :: ·)
 | _=>none
theorem Q2:∀{ds:List D} {bs:List Int},y0 ds=some bs→ds=bs.map .int
 | [],_,h=>by cases h;rfl
 | .int b::ds,_,h=>by
  unfold y0 at h
  cases q:y0 ds with
  | none=>rw[q]at h;cases h
  | some bs=>rw[q]at h;cases h;rw[Q2 q];rfl
 | .non::_,_,h=>by cases h
 | .bl _::_,_,h=>by cases h
 | .str _::_,_,h=>by cases h
 | .ty _::_,_,h=>by cases h
 | .cls _::_,_,h=>by cases h
 | .tup _::_,_,h=>by cases h
 | .lst _::_,_,h=>by cases h
 | .scr _::_,_,h=>by cases h
 | .exc _::_,_,h=>by cases h
 | .obj _ _ _::_,_,h=>by cases h
theorem ints_map:∀(ns:List Int),y0 (ns.map .int)=some ns
 | []=>rfl
 | n::ns=>by show(y0 (ns.map .int)).map (n :: ·)=_;rw[ints_map ns];rfl
def a19:D→Option D
 | .lst ds=>(y0 ds).map fun ns=>.int ns.sum
 | _=>none
theorem a8M:CbOk1 K cl (a7_ K) a19:=by
 intro x d z H F Q s hx h q
 unfold a19 at h
 split at h
 ·rename_i ds
  cases hb:y0 ds with
  | none=>rw[hb]at h;cases h
  | some ns =>
   rw[hb]at h;cases h
   obtain⟨a,xs,rfl,hH,r⟩:=hx.lst s
   rw[Q2 hb]at r
   rw[r.ints]at hH
   exact⟨a,ns,rfl,.of hH,q _ H F (.refl s) (by simp only[Rp])⟩
 ·cases h
end
def a8N(x:Option DE)(k:DE→Option (R (List D))):Option (R (List D)):=match x with
 | none=>none
 | some e=>k e
theorem a1l{e:DE}{k:DE→Option (R (List D))}:a8N (some e) k=k e:=rfl
theorem a4n{b:GF}{c:BF}{el:ZF}{ec eo:DE}{acc:List D}:j0 b c el ec eo [] acc=some (.ok acc eo):=rfl
theorem a0s{b:GF}{c:BF}{el:ZF}{ec eo:DE}{d:D}{ds acc:List D}:j0 b c el ec eo (d::ds) acc=a8N (b d ec) fun e1=>bnd (c e1) fun t e2=>if t=true then bnd (el e2) fun y _=>if acc.length<sizeLine then j0 b c el ec eo ds (acc++[y])else none else j0 b c el ec eo ds acc:=by
 rw[j0];cases b d ec<;>rfl
section
variable {K:W.Frag}{cl:Str→Addr}{E:XK}{σ:St}{H F:Hp}{env:DE}{k:Nat}
theorem Rb.flat{d:D}{v:V}(h:Rb K cl F H d v)(f:i6 d=true):Rp K cl F d v:=by
 rcases h with h | ⟨_,_,_,_,rfl,_⟩
 ·exact h
 ·cases f
def B1(i:Nat)(g:List D→List D):SF:=fun e=>match e[i]? with
 | some (.ow ds)=>some (.nx (e.set i (.ow (g ds))))
 | _=>none
theorem a5l{i:Nat}:RfS K cl E (a1w (a3c K "list" a3P (A3 i))) (B1 i fun _=>[]):=by
 intro N σ H env F R h
 unfold B1 at h
 split at h
 ·rename_i ds q
  obtain⟨a,xs,e,hH,hF,r⟩:=R.mu i ds (.inl q)
  obtain⟨R2,f2⟩:=R.change q e (es:=[]) (ys:=[]) .nil
  exact⟨_,e,.inl ⟨rfl,xs,.of hH⟩,a,xs,rfl,rfl,hH,h σ _ F f2 R2⟩
 ·exact h.elim
end
mutual
def j8:D→D→Bool
 | .tup ds,e=>(match e with
  | .tup es=>A0 ds es
  | _=>false)
 | .lst ds,e=>(match e with
  | .lst es=>A0 ds es
  | _=>false)
 | d,e=>L6 d e
def A0:List D→List D→Bool
 | [],es=>es.isEmpty
 | d::ds,es=>(match es with
  | []=>false
  | e::es=>j8 d e && A0 ds es)
end
mutual
def d7:D→Bool
 | .tup ds=>p5 ds
 | .lst ds=>p5 ds
 | d=>i6 d
def p5:List D→Bool
 | []=>true
 | d::ds=>d7 d && p5 ds
end
mutual
def D1:D→Nat
 | .tup ds=>A2 ds+1
 | .lst ds=>A2 ds+1
 | _=>0
def A2:List D→Nat
 | []=>0
 | d::ds=>max (D1 d) (A2 ds)
end
def a1_(ds es:List D)(j:Nat):Bool:=match ds[j]?,es[j]? with
 | some d,some e=>j8 d e
 | _,_=>true
theorem D2:∀{ds es:List D},ds.length=es.length→(List.range ds.length).all (a1_ ds es)=A0 ds es
 | [],[],_=>by simp[A0]
 | d::ds,e::es,h=>by
  have h':ds.length=es.length:=by simpa using h
  simp only[A0]
  show(List.range (ds.length+1)).all _=(j8 d e && A0 ds es)
  rw[List.range_succ_eq_map,List.all_cons,List.all_map,← D2 h']
  rfl
theorem M1:∀{ds es:List D},ds.length≠es.length→A0 ds es=false
 | [],[],h=>absurd rfl h
 | _::_,[],_=>by simp[A0]
 | [],_::_,_=>by simp[A0]
 | d::ds,e::es,h=>by
  simp only[A0]
  rw[M1 (fun q=>h (by simp[q])),Bool.and_false]
section
variable {K:W.Frag}{cl:Str→Addr}{F:Hp}
theorem T3{d e:D}{v:V}(fd:i6 d=true)(p:Rp K cl F d v)(q:Rp K cl F e v)(pe:d7 e=true):L6 d e=true:=by
 cases d<;>first | (cases fd;done) | skip
 all_goals simp only[Rp]at p;subst p
 all_goals cases e<;>simp only[Rp]at q<;>first | (cases q;done) | (cases q;simp[L6];done) | (obtain⟨_,_,z,_⟩:=q;cases z;done) | (obtain⟨_,z,_⟩:=q;cases z;done) | (simp[d7,i6]at pe;done)
mutual
theorem a0Y:∀(d e:D) (v:V),Rp K cl F d v→Rp K cl F e v→d7 d=true→d7 e=true→j8 d e=true
 | .tup ds,e,v,p,q,pd,pe=>by
  simp only[Rp]at p
  obtain⟨a,xs,rfl,ha,r⟩:=p
  cases e<;>simp only[Rp]at q
  case tup es =>
   obtain⟨a',ys,z,ha',r'⟩:=q
   cases z;rw[ha]at ha';cases ha'
   simp only[d7]at pd pe
   simp only[j8]
   exact Z0 ds es xs r r' pd pe
  case lst es =>
   obtain⟨a',ys,z,ha',r'⟩:=q
   cases z;rw[ha]at ha';cases ha'
  all_goals first | (cases q;done) | (simp[d7,i6]at pe;done)
 | .lst ds,e,v,p,q,pd,pe=>by
  simp only[Rp]at p
  obtain⟨a,xs,rfl,ha,r⟩:=p
  cases e<;>simp only[Rp]at q
  case lst es =>
   obtain⟨a',ys,z,ha',r'⟩:=q
   cases z;rw[ha]at ha';cases ha'
   simp only[d7]at pd pe
   simp only[j8]
   exact Z0 ds es xs r r' pd pe
  case tup es =>
   obtain⟨a',ys,z,ha',r'⟩:=q
   cases z;rw[ha]at ha';cases ha'
  all_goals first | (cases q;done) | (simp[d7,i6]at pe;done)
 | .non,e,v,p,q,pd,pe=>by simp only[j8];exact T3 rfl p q pe
 | .bl _,e,v,p,q,pd,pe=>by simp only[j8];exact T3 rfl p q pe
 | .int _,e,v,p,q,pd,pe=>by simp only[j8];exact T3 rfl p q pe
 | .str _,e,v,p,q,pd,pe=>by simp only[j8];exact T3 rfl p q pe
 | .ty _,e,v,p,q,pd,pe=>by simp[d7,i6]at pd
 | .cls _,e,v,p,q,pd,pe=>by simp[d7,i6]at pd
 | .scr _,e,v,p,q,pd,pe=>by simp[d7,i6]at pd
 | .exc _,e,v,p,q,pd,pe=>by simp[d7,i6]at pd
 | .obj _ _ _,e,v,p,q,pd,pe=>by simp[d7,i6]at pd
theorem Z0:∀(ds es:List D) (vs:List V),Rps K cl F ds vs→Rps K cl F es vs→p5 ds=true→p5 es=true→A0 ds es=true
 | [],es,vs,p,q,_,_=>by
  rw[p.inv0]at q
  cases es with
  | nil=>simp[A0]
  | cons e es=>obtain⟨_,_,z,_⟩:=q.inv;cases z
 | d::ds,es,vs,p,q,pd,pe=>by
  obtain⟨v,r,rfl,p1,p2⟩:=p.inv
  cases es with
  | nil=>have:=q.inv0;cases this
  | cons e es =>
   obtain⟨v',r',z,q1,q2⟩:=q.inv
   cases z
   simp only[p5,Bool.and_eq_true]at pd pe
   simp only[A0]
   rw[a0Y d e v p1 q1 pd.1 pe.1,Z0 ds es r p2 q2 pd.2 pe.2];rfl
end
end
section
variable {X:Cx}{cl:Str→Addr}{F:Hp}{pins:List (Addr×Obj)}{σ:St}{H:Hp}{s:Shared}
theorem T4{a:Addr}{d:D}{v:V}{u:Value}{A:Around}(hu:A.units<cLine)(hl:(∃xs,SqL X.K H a xs)∨∃xs,SqT X.K H a xs)(I:Inv X pins σ H s)(f:i6 d=true)(p:Rp X.K cl F d v)(r:RelV v u):SeqAt.EqAt A s (.ref a) u false∧SeqAt.EqAt A s u (.ref a) false:=by
 rcases hl with⟨xs,h⟩ | ⟨xs,h⟩
 ·obtain⟨us,r1,p1,z1⟩:=I.list h
  have q:=p1.isList
  cases d<;>first | (cases f;done) | skip
  all_goals simp only[Rp]at p;subst p
  ·cases r;exact⟨.list_none q hu,.none_list q hu⟩
  ·cases r;exact⟨.list_bool _ q hu,.bool_list _ q hu⟩
  ·obtain⟨t,rfl⟩:=r;exact⟨.list_int _ _ q hu,.int_list _ _ q hu⟩
  ·obtain⟨t,rfl⟩:=r;exact⟨.list_str _ _ q hu,.str_list _ _ q hu⟩
 ·obtain⟨us,r1,q,z1⟩:=I.tuple h
  cases d<;>first | (cases f;done) | skip
  all_goals simp only[Rp]at p;subst p
  ·cases r;exact⟨.tuple_none q hu,.none_tuple q hu⟩
  ·cases r;exact⟨.tuple_bool _ q hu,.bool_tuple _ q hu⟩
  ·obtain⟨t,rfl⟩:=r;exact⟨.tuple_int _ _ q hu,.int_tuple _ _ q hu⟩
  ·obtain⟨t,rfl⟩:=r;exact⟨.tuple_str _ _ q hu,.str_tuple _ _ q hu⟩
theorem y3{d:D}(p:d7 d=true):i6 d=true∨(∃ds,d=.tup ds)∨∃ds,d=.lst ds:=by
 cases d<;>first | exact .inl rfl | exact .inr (.inl ⟨_,rfl⟩) | exact .inr (.inr ⟨_,rfl⟩) | (simp[d7,i6]at p;done)
theorem a5m{d e:D}(f:i6 d=true):j8 d e=L6 d e:=by cases d<;>first | (cases f;done) | simp only[j8]
theorem O5{d e:D}{v u:V}{a b:Value}{A:Around}(I:Inv X pins σ H s)(sF:Same F H)(hu:A.units<cLine)(f:i6 d=true)(p:Rp X.K cl F d v)(q:Rp X.K cl F e u)(rv:RelV v a)(ru:RelV u b)(pe:d7 e=true):SeqAt.EqAt A s a b (j8 d e):=by
 rw[a5m f]
 rcases y3 pe with fe | ⟨es,rfl⟩ | ⟨es,rfl⟩
 ·rw[← p.eq q f fe]
  exact a71 rv ru (p.flat f).2 (q.flat fe).2
 ·simp only[Rp]at q
  obtain⟨c,ys,rfl,hb,r'⟩:=q
  cases ru
  have:=(T4 (A:=A) hu (.inr ⟨ys,.of (sF _ _ hb)⟩) I f p rv).2
  have z:L6 d (.tup es)=false:=by cases d<;>first | (cases f;done) | rfl
  rw[z];exact this
 ·simp only[Rp]at q
  obtain⟨c,ys,rfl,hb,r'⟩:=q
  cases ru
  have:=(T4 (A:=A) hu (.inl ⟨ys,.of (sF _ _ hb)⟩) I f p rv).2
  have z:L6 d (.lst es)=false:=by cases d<;>first | (cases f;done) | rfl
  rw[z];exact this
mutual
theorem a7m(I:Inv X pins σ H s)(sF:Same F H):∀(d e:D) (v u:V) (a b:Value) (A:Around),A.units+D1 d<cLine→Rp X.K cl F d v→Rp X.K cl F e u→RelV v a→RelV u b→d7 d=true→d7 e=true→SeqAt.EqAt A s a b (j8 d e)
 | .tup ds,e,v,u,va,ua,A,hu,p,q,rv,ru,pd,pe=>by
  have p0:=p
  have hu':A.units<cLine:=by omega
  simp only[D1]at hu
  simp only[Rp]at p
  obtain⟨a,xs,rfl,ha,r⟩:=p
  cases rv
  have ha':=sF _ _ ha
  rcases y3 pe with f | ⟨es,rfl⟩ | ⟨es,rfl⟩
  ·have:=(T4 (A:=A) hu' (.inr ⟨xs,.of ha'⟩) I f q ru).1
   have z:j8 (.tup ds) e=false:=by cases e<;>first | (cases f;done) | simp only[j8]
   rw[z];exact this
  ·have q0:=q
   simp only[Rp]at q
   obtain⟨b,ys,rfl,hb,r'⟩:=q
   cases ru
   have hb':=sF _ _ hb
   by_cases z:a=b
   ·subst z
    rw[a0Y _ _ _ p0 q0 pd pe]
    exact .same _
   ·obtain⟨us,r1,p1,_⟩:=I.tuple (.of ha')
    obtain⟨ws,r2,p2,_⟩:=I.tuple (.of hb')
    simp only[d7]at pd pe
    have he:∀j (h1:j<us.toArray.size) (h2:j<ws.toArray.size),SeqAt.EqAt A.in1 s us.toArray[j] ws.toArray[j] (a1_ ds es j):=M3 I sF ds es xs ys us ws A.in1 (by show A.units+1+A2 ds<cLine;omega) r r' r1 r2 pd pe
    have:=SeqAt.EqAt.of_refs z (SeqAt.RcAt.tuples p1 p2 hu' he)
    have e1:us.toArray.size=ds.length:=by simp[← r1.length,r.length]
    have e2:ws.toArray.size=es.length:=by simp[← r2.length,r'.length]
    rw[e1,e2]at this
    simp only[j8]
    by_cases hl:ds.length=es.length
    ·rw[← hl,Nat.min_self,D2 hl,beq_self_eq_true,Bool.and_true]at this
     exact this
    ·rw[M1 hl]
     rw[beq_eq_false_iff_ne.mpr hl,Bool.and_false]at this
     exact this
  ·simp only[Rp]at q
   obtain⟨b,ys,rfl,hb,r'⟩:=q
   cases ru
   obtain⟨us,r1,p1,_⟩:=I.tuple (.of ha')
   obtain⟨ws,r2,p2,_⟩:=I.list (.of (sF _ _ hb))
   simp only[j8]
   exact .tuple_list p1 p2.isList hu'
 | .lst ds,e,v,u,va,ua,A,hu,p,q,rv,ru,pd,pe=>by
  have p0:=p
  have hu':A.units<cLine:=by omega
  simp only[D1]at hu
  simp only[Rp]at p
  obtain⟨a,xs,rfl,ha,r⟩:=p
  cases rv
  have ha':=sF _ _ ha
  rcases y3 pe with f | ⟨es,rfl⟩ | ⟨es,rfl⟩
  ·have:=(T4 (A:=A) hu' (.inl ⟨xs,.of ha'⟩) I f q ru).1
   have z:j8 (.lst ds) e=false:=by cases e<;>first | (cases f;done) | simp only[j8]
   rw[z];exact this
  ·simp only[Rp]at q
   obtain⟨b,ys,rfl,hb,r'⟩:=q
   cases ru
   obtain⟨us,r1,p1,_⟩:=I.list (.of ha')
   obtain⟨ws,r2,p2,_⟩:=I.tuple (.of (sF _ _ hb))
   simp only[j8]
   exact .list_tuple p1.isList p2 hu'
  ·have q0:=q
   simp only[Rp]at q
   obtain⟨b,ys,rfl,hb,r'⟩:=q
   cases ru
   have hb':=sF _ _ hb
   by_cases z:a=b
   ·subst z
    rw[a0Y _ _ _ p0 q0 pd pe]
    exact .same _
   ·obtain⟨us,r1,p1,_⟩:=I.list (.of ha')
    obtain⟨ws,r2,p2,_⟩:=I.list (.of hb')
    simp only[d7]at pd pe
    have he:∀j (h1:j<us.toArray.size) (h2:j<ws.toArray.size),SeqAt.EqAt A.in1 s us.toArray[j] ws.toArray[j] (a1_ ds es j):=M3 I sF ds es xs ys us ws A.in1 (by show A.units+1+A2 ds<cLine;omega) r r' r1 r2 pd pe
    have e1:us.toArray.size=ds.length:=by simp[← r1.length,r.length]
    have e2:ws.toArray.size=es.length:=by simp[← r2.length,r'.length]
    simp only[j8]
    by_cases hl:ds.length=es.length
    ·have:=SeqAt.EqAt.of_refs z (SeqAt.RcAt.lists p1.isList p2.isList (by rw[e1,e2,hl]) hu' he)
     rw[e1,D2 hl]at this
     exact this
    ·rw[M1 hl]
     exact SeqAt.EqAt.of_refs z (SeqAt.RcAt.lists_lengths p1.isList p2.isList (by rw[e1,e2];simp[hl]) hu')
 | .non,e,v,u,va,ua,A,hu,p,q,rv,ru,pd,pe=>O5 I sF (by omega) rfl p q rv ru pe
 | .bl _,e,v,u,va,ua,A,hu,p,q,rv,ru,pd,pe=>O5 I sF (by omega) rfl p q rv ru pe
 | .int _,e,v,u,va,ua,A,hu,p,q,rv,ru,pd,pe=>O5 I sF (by omega) rfl p q rv ru pe
 | .str _,e,v,u,va,ua,A,hu,p,q,rv,ru,pd,pe=>O5 I sF (by omega) rfl p q rv ru pe
 | .ty _,e,v,u,va,ua,A,hu,p,q,rv,ru,pd,pe=>by simp[d7,i6]at pd
 | .cls _,e,v,u,va,ua,A,hu,p,q,rv,ru,pd,pe=>by simp[d7,i6]at pd
 | .scr _,e,v,u,va,ua,A,hu,p,q,rv,ru,pd,pe=>by simp[d7,i6]at pd
 | .exc _,e,v,u,va,ua,A,hu,p,q,rv,ru,pd,pe=>by simp[d7,i6]at pd
 | .obj _ _ _,e,v,u,va,ua,A,hu,p,q,rv,ru,pd,pe=>by simp[d7,i6]at pd
theorem M3(I:Inv X pins σ H s)(sF:Same F H):∀(ds es:List D) (xs ys:List V) (us ws:List Value) (A:Around),A.units+A2 ds<cLine→Rps X.K cl F ds xs→Rps X.K cl F es ys→Vals xs us→Vals ys ws→p5 ds=true→p5 es=true→∀j (h1:j<us.toArray.size) (h2:j<ws.toArray.size),SeqAt.EqAt A s us.toArray[j] ws.toArray[j] (a1_ ds es j)
 | [],es,xs,ys,us,ws,A,hu,p,q,rv,rw',pd,pe=>fun j h1 h2=>by
  rw[p.inv0]at rv;cases rv;simp at h1
 | d::ds,es,xs,ys,us,ws,A,hu,p,q,rv,rw',pd,pe=>fun j h1 h2=>by
  obtain⟨x,xs',rfl,p1,p2⟩:=p.inv
  cases rv with
  | cons r1 t1 =>
   cases es with
   | nil=>rw[q.inv0]at rw';cases rw';simp at h2
   | cons e es =>
    obtain⟨y,ys',rfl,q1,q2⟩:=q.inv
    cases rw' with
    | cons r2 t2 =>
     simp only[p5,Bool.and_eq_true]at pd pe
     simp only[A2]at hu
     cases j with
     | zero=>exact a7m I sF d e x y _ _ A (by omega) p1 q1 r1 r2 pd.1 pe.1
     | succ j =>
      have:=M3 I sF ds es xs' ys' _ _ A (by omega) p2 q2 t1 t2 pd.2 pe.2 j (by simpa using h1) (by simpa using h2)
      simpa [a1_]using this
end
end
theorem a8O{A:Around}{k:Nat}(hr:Room k A):A.units+41<cLine:=Nat.lt_of_le_of_lt (Nat.add_le_add_left (by decide:41≤64) _) hr.units
def F5 : D→Bool
 | .tup _=>true
 | .lst _=>true
 | _=>false
theorem Rb.toRp{K:W.Frag}{cl:Str→Addr}{F H:Hp}{d:D}{v:V}(s:Same F H)(h:Rb K cl F H d v):∃F',Same F F'∧Same F' H∧Rp K cl F' d v:=by
 rcases h with h | ⟨a,xs,ds,rfl,rfl,ha,r⟩
 ·exact⟨F,Same.refl _,s,h⟩
 ·have g:Same F (upd F a (.lst xs)):=fun b o q=>by
   by_cases z:b=a
   ·subst z;have:=s _ _ q;rw[ha]at this;cases this;exact g7
   ·rw[a8 z];exact q
  refine⟨upd F a (.lst xs),g,fun b o q=>?_,?_⟩
  ·by_cases z:b=a
   ·subst z;rw[g7]at q;cases q;exact ha
   ·rw[a8 z]at q;exact s _ _ q
  ·simp only[Rp];exact⟨a,xs,rfl,g7,r.mono g⟩
section
variable {X:Cx}{cl:Str→Addr}{F:Hp}{pins:List (Addr×Obj)}{σ:St}{H:Hp}{s:Shared}
theorem W8{a:Addr}{d:D}{v:V}{u:Value}{A:Around}(hu:A.units<cLine)(hl:(∃xs,SqL X.K H a xs)∨∃xs,SqT X.K H a xs)(I:Inv X pins σ H s)(f:i6 d=true)(p:Rp X.K cl F d v)(r:RelV v u) :
  (SeqAt.RcAt A s (.ref a) u false∧SeqAt.RcAt A s u (.ref a) false)∧SeqAt.RcNeAt A s (.ref a) u true∧SeqAt.RcNeAt A s u (.ref a) true:=by
 rcases hl with⟨xs,h⟩ | ⟨xs,h⟩
 ·obtain⟨us,r1,p1,z1⟩:=I.list h
  have q:=p1.isList
  cases d<;>first | (cases f;done) | skip
  all_goals simp only[Rp]at p;subst p
  ·cases r;exact⟨⟨.list_none q hu,.none_list q hu⟩,.list_none q hu,.none_list q hu⟩
  ·cases r;exact⟨⟨.list_bool _ q hu,.bool_list _ q hu⟩,.list_bool _ q hu,.bool_list _ q hu⟩
  ·obtain⟨t,rfl⟩:=r;exact⟨⟨.list_int _ _ q hu,.int_list _ _ q hu⟩,.list_int _ _ q hu,.int_list _ _ q hu⟩
  ·obtain⟨t,rfl⟩:=r;exact⟨⟨.list_str _ _ q hu,.str_list _ _ q hu⟩,.list_str _ _ q hu,.str_list _ _ q hu⟩
 ·obtain⟨us,r1,q,z1⟩:=I.tuple h
  cases d<;>first | (cases f;done) | skip
  all_goals simp only[Rp]at p;subst p
  ·cases r;exact⟨⟨.tuple_none q hu,.none_tuple q hu⟩,.tuple_none q hu,.none_tuple q hu⟩
  ·cases r;exact⟨⟨.tuple_bool _ q hu,.bool_tuple _ q hu⟩,.tuple_bool _ q hu,.bool_tuple _ q hu⟩
  ·obtain⟨t,rfl⟩:=r;exact⟨⟨.tuple_int _ _ q hu,.int_tuple _ _ q hu⟩,.tuple_int _ _ q hu,.int_tuple _ _ q hu⟩
  ·obtain⟨t,rfl⟩:=r;exact⟨⟨.tuple_str _ _ q hu,.str_tuple _ _ q hu⟩,.tuple_str _ _ q hu,.str_tuple _ _ q hu⟩
theorem a7n{d e:D}{v u:V}{a b:Value}{A:Around}(I:Inv X pins σ H s)(sF:Same F H)(hu:A.units+D1 d<cLine)(p:Rp X.K cl F d v)(q:Rp X.K cl F e u)(rv:RelV v a)(ru:RelV u b)(pd:d7 d=true)(pe:d7 e=true)(hs:F5 d=true∨F5 e=true) :
  SeqAt.RcAt A s a b (j8 d e)∧SeqAt.RcNeAt A s a b (!j8 d e):=by
 have hu':A.units<cLine:=by omega
 rcases y3 pd with fd | ⟨ds,rfl⟩ | ⟨ds,rfl⟩
 ·have se:F5 e=true:=hs.resolve_left (by cases d<;>first | (cases fd;done) | simp[F5])
  rcases y3 pe with fe | ⟨es,rfl⟩ | ⟨es,rfl⟩
  ·cases e<;>first | (cases fe;done) | (cases se;done)
  ·simp only[Rp]at q
   obtain⟨c,ys,rfl,hb,r'⟩:=q
   cases ru
   have:=W8 (A:=A) hu' (.inr ⟨ys,.of (sF _ _ hb)⟩) I fd p rv
   have z:j8 d (.tup es)=false:=by cases d<;>first | (cases fd;done) | simp[j8,L6]
   rw[z];exact⟨this.1.2,this.2.2⟩
  ·simp only[Rp]at q
   obtain⟨c,ys,rfl,hb,r'⟩:=q
   cases ru
   have:=W8 (A:=A) hu' (.inl ⟨ys,.of (sF _ _ hb)⟩) I fd p rv
   have z:j8 d (.lst es)=false:=by cases d<;>first | (cases fd;done) | simp[j8,L6]
   rw[z];exact⟨this.1.2,this.2.2⟩
 ·simp only[D1]at hu
  simp only[Rp]at p
  obtain⟨l,xs,rfl,ha,r⟩:=p
  cases rv
  have ha':=sF _ _ ha
  obtain⟨us,r1,p1,_⟩:=I.tuple (.of ha')
  rcases y3 pe with fe | ⟨es,rfl⟩ | ⟨es,rfl⟩
  ·have:=W8 (A:=A) hu' (.inr ⟨xs,.of ha'⟩) I fe q ru
   have z:j8 (.tup ds) e=false:=by cases e<;>first | (cases fe;done) | simp only[j8]
   rw[z];exact⟨this.1.1,this.2.1⟩
  ·simp only[Rp]at q
   obtain⟨c,ys,rfl,hb,r'⟩:=q
   cases ru
   obtain⟨ws,r2,p2,_⟩:=I.tuple (.of (sF _ _ hb))
   simp only[d7]at pd pe
   have he:=M3 I sF ds es xs ys us ws A.in1 (by show A.units+1+A2 ds<cLine;omega) r r' r1 r2 pd pe
   have h1:=SeqAt.RcAt.tuples p1 p2 hu' he
   have h2:=SeqAt.RcNeAt.tuples p1 p2 hu' he
   have e1:us.toArray.size=ds.length:=by simp[← r1.length,r.length]
   have e2:ws.toArray.size=es.length:=by simp[← r2.length,r'.length]
   rw[e1,e2]at h1 h2
   simp only[j8]
   by_cases hl:ds.length=es.length
   ·rw[← hl,Nat.min_self,D2 hl,beq_self_eq_true,Bool.and_true]at h1 h2
    exact⟨h1,h2⟩
   ·rw[M1 hl]
    rw[beq_eq_false_iff_ne.mpr hl,Bool.and_false]at h1 h2
    exact⟨h1,h2⟩
  ·simp only[Rp]at q
   obtain⟨c,ys,rfl,hb,r'⟩:=q
   cases ru
   obtain⟨ws,r2,p2,_⟩:=I.list (.of (sF _ _ hb))
   simp only[j8]
   exact⟨.tuple_list p1 p2.isList hu',.tuple_list p1 p2.isList hu'⟩
 ·simp only[D1]at hu
  simp only[Rp]at p
  obtain⟨l,xs,rfl,ha,r⟩:=p
  cases rv
  have ha':=sF _ _ ha
  obtain⟨us,r1,p1,_⟩:=I.list (.of ha')
  rcases y3 pe with fe | ⟨es,rfl⟩ | ⟨es,rfl⟩
  ·have:=W8 (A:=A) hu' (.inl ⟨xs,.of ha'⟩) I fe q ru
   have z:j8 (.lst ds) e=false:=by cases e<;>first | (cases fe;done) | simp only[j8]
   rw[z];exact⟨this.1.1,this.2.1⟩
  ·simp only[Rp]at q
   obtain⟨c,ys,rfl,hb,r'⟩:=q
   cases ru
   obtain⟨ws,r2,p2,_⟩:=I.tuple (.of (sF _ _ hb))
   simp only[j8]
   exact⟨.list_tuple p1.isList p2 hu',.list_tuple p1.isList p2 hu'⟩
  ·simp only[Rp]at q
   obtain⟨c,ys,rfl,hb,r'⟩:=q
   cases ru
   obtain⟨ws,r2,p2,_⟩:=I.list (.of (sF _ _ hb))
   simp only[d7]at pd pe
   have he:=M3 I sF ds es xs ys us ws A.in1 (by show A.units+1+A2 ds<cLine;omega) r r' r1 r2 pd pe
   have e1:us.toArray.size=ds.length:=by simp[← r1.length,r.length]
   have e2:ws.toArray.size=es.length:=by simp[← r2.length,r'.length]
   simp only[j8]
   by_cases hl:ds.length=es.length
   ·have h1:=SeqAt.RcAt.lists p1.isList p2.isList (by rw[e1,e2,hl]) hu' he
    have h2:=SeqAt.RcNeAt.lists p1.isList p2.isList (by rw[e1,e2,hl]) hu' he
    rw[e1,D2 hl]at h1 h2
    exact⟨h1,h2⟩
   ·rw[M1 hl]
    exact⟨SeqAt.RcAt.lists_lengths p1.isList p2.isList (by rw[e1,e2];simp[hl]) hu',SeqAt.RcNeAt.lists_lengths p1.isList p2.isList (by rw[e1,e2];simp[hl]) hu'⟩
end
def a8P(K:W.Frag)(cl:Str→Addr)(neg:Bool):R2:=fun x y H Q=>∃F d e,Same F H∧Rp K cl F d x∧Rp K cl F e y∧d7 d=true∧d7 e=true∧D1 d≤40∧(F5 d=true∨F5 e=true)∧Q (.bl (if neg then !j8 d e else j8 d e)) H
theorem a7o{X:Cx}{K:W.Frag}{cl:Str→Addr}(hu:X.A.units+41<cLine)(hK:X.K=K:=by rfl):C5 X (compareOp .Eq) (a8P K cl false):=by
 subst hK
 intro pins s σ H x y v u Q I rx ry h
 obtain⟨F,d,e,sF,p,q,pd,pe,hd,hs,hQ⟩:=h
 exact(a7n I sF (by omega) p q rx ry pd pe hs).1 X.prog X.w _ _ ⟨.bl _,H,I,rfl,hQ⟩
def Z1(neg:Bool)(d e:D):Option D:=if(d7 d && d7 e && decide (D1 d≤40) && (F5 d || F5 e))=true then some (.bl (if neg then !j8 d e else j8 d e))else none
theorem a8Q{K:W.Frag}{cl:Str→Addr}{neg:Bool}:OpOk K cl (a8P K cl neg) (Z1 neg):=by
 intro x y d e z H F Q s hx hy h q
 unfold Z1 at h
 split at h
 ·rename_i c;cases h
  simp only[Bool.and_eq_true,Bool.or_eq_true,decide_eq_true_eq]at c
  obtain⟨F1,g1,s1,p1⟩:=hx.toRp s
  have hy1:Rb K cl F1 H e y:=by
   rcases hy with hy | ⟨a,xs,ds,e1,e2,ha,r⟩
   ·exact .inl (hy.mono g1)
   ·exact .inr ⟨a,xs,ds,e1,e2,ha,r.mono g1⟩
  obtain⟨F2,g2,s2,p2⟩:=hy1.toRp s1
  exact⟨F2,d,e,s2,p1.mono g2,p2,c.1.1.1,c.1.1.2,c.1.2,c.2,q _ H F (.refl s) (by simp only[Rp])⟩
 ·cases h
mutual
theorem a2a:∀(d:D),d7 d=true→j8 d d=true
 | .tup ds,h=>by simp only[d7]at h;simp only[j8];exact V5 ds h
 | .lst ds,h=>by simp only[d7]at h;simp only[j8];exact V5 ds h
 | .non,_=>by simp[j8,L6]
 | .bl _,_=>by simp[j8,L6]
 | .int _,_=>by simp[j8,L6]
 | .str _,_=>by simp[j8,L6]
 | .ty _,h=>by simp[d7,i6]at h
 | .cls _,h=>by simp[d7,i6]at h
 | .scr _,h=>by simp[d7,i6]at h
 | .exc _,h=>by simp[d7,i6]at h
 | .obj _ _ _,h=>by simp[d7,i6]at h
theorem V5:∀(ds:List D),p5 ds=true→A0 ds ds=true
 | [],_=>by simp[A0]
 | d::ds,h=>by
  simp only[p5,Bool.and_eq_true]at h
  simp only[A0]
  rw[a2a d h.1,V5 ds h.2];rfl
end
theorem a4o{d:D}(neg:Bool)(h1:d7 d=true)(h2:D1 d≤40)(h3:F5 d=true):Z1 neg d d=some (.bl (!neg)):=by
 unfold Z1
 rw[if_pos (by simp[h1,h2,h3]),a2a d h1]
 cases neg<;>rfl
theorem a2J{α:Type}{f:α→D}{l:List α}(h:∀a∈l,d7 (f a)=true):p5 (l.map f)=true:=by
 induction l with
 | nil=>rfl
 | cons a l ih =>
  simp only[List.map_cons,p5,Bool.and_eq_true]
  exact⟨h a List.mem_cons_self,ih fun b hb=>h b (List.mem_cons_of_mem _ hb)⟩
theorem a4p{α:Type}{f:α→D}{l:List α}{n:Nat}(h:∀a∈l,D1 (f a)≤n):A2 (l.map f)≤n:=by
 induction l with
 | nil=>simp[A2]
 | cons a l ih =>
  simp only[List.map_cons,A2]
  have:=h a List.mem_cons_self
  have:=ih fun b hb=>h b (List.mem_cons_of_mem _ hb)
  omega
section
variable {K:W.Frag}{cl:Str→Addr}{E:XK}{σ:St}{H F:Hp}{env:DE}{k:Nat}
def a9P(K:W.Frag)(cl:Str→Addr)(E:XK)(a:Addr)(t:TS)(f:SF):Prop:=∀(N:Ends) σ H env F,Rel K cl σ H F env→(∃cls,F a=some (a3d a cls none))→Cs K cl E (f env) σ H F env N→t N σ H
theorem RfS.x{a:Addr}{t:TS}{f:SF}(h:RfS K cl E t f):a9P K cl E a t f:=fun N σ H env F R _ c=>h N σ H env F R c
end
def V6:Sl→Sl
 | .ow ds=>.fz (.lst ds)
 | .hd ds=>.fz (.lst ds)
 | s=>s
def y4:DE→DE
 | []=>[]
 | s::e=>V6 s::y4 e
mutual
def noL:D→Bool
 | .lst _=>false
 | .scr _=>false
 | .exc _=>false
 | .obj _ _ _=>false
 | .tup ds=>noLs ds
 | _=>true
def noLs:List D→Bool
 | []=>true
 | d::ds=>noL d && noLs ds
end
def u9(σ:St)(env:DE)(b:Addr):Prop:=∃j,Mu env j∧σ[j]? = some (some (.ref b))
theorem a0Z:∀(e:DE),y4 e=e.map V6
 | []=>rfl
 | s::e=>by rw[y4,a0Z e];rfl
section
variable {K:W.Frag}{cl:Str→Addr}{E:XK}{σ:St}{H F F1 H' F' F2:Hp}{env:DE}
mutual
theorem Rp.noL(g:∀b o,F' b=some o→(∀xs,o≠.lst xs)→F2 b=some o):∀(d:D) (v:V),L2.noL d=true→Rp K cl F' d v→Rp K cl F2 d v
 | .non,_,_,h=>by simpa only[Rp]using h
 | .bl _,_,_,h=>by simpa only[Rp]using h
 | .int _,_,_,h=>by simpa only[Rp]using h
 | .str _,_,_,h=>by simpa only[Rp]using h
 | .ty _,_,_,h=>by simpa only[Rp]using h
 | .cls _,_,_,h=>by simpa only[Rp]using h
 | .tup ds,v,n,h=>by
  simp only[Rp]at h ⊢
  obtain⟨a,xs,e,h1,h2⟩:=h
  exact⟨a,xs,e,g _ _ h1 (fun _ z=>nomatch z),Rps.noL g ds xs (by simpa only[L2.noL]using n) h2⟩
 | .lst ds,v,n,h=>by simp[L2.noL]at n
 | .scr ns,v,n,h=>by simp[L2.noL]at n
 | .exc c,v,n,h=>by simp[L2.noL]at n
 | .obj _ _ _,v,n,h=>by simp[L2.noL]at n
theorem Rps.noL(g:∀b o,F' b=some o→(∀xs,o≠.lst xs)→F2 b=some o):∀(ds:List D) (vs:List V),L2.noLs ds=true→Rps K cl F' ds vs→Rps K cl F2 ds vs
 | [],_,_,h=>by simpa only[Rps]using h
 | d::ds,vs,n,h=>by
  simp only[Rps]at h ⊢
  simp only[L2.noLs,Bool.and_eq_true]at n
  obtain⟨v,r,e,h1,h2⟩:=h
  exact⟨v,r,e,Rp.noL g d v n.1 h1,Rps.noL g ds r n.2 h2⟩
end
theorem a00{j:Nat}{s:Sl}(h:(y4 env)[j]? = some s):∃s0,env[j]? = some s0∧s=V6 s0:=by
 rw[a0Z,List.getElem?_map]at h
 cases q:env[j]? with
 | none=>rw[q]at h;cases h
 | some s0=>rw[q]at h;exact⟨s0,rfl,(Option.some.inj h).symm⟩
theorem a2b{j:Nat}:¬Mu (y4 env) j:=fun⟨ds,q⟩=>by
 rcases q with q | q
 ·obtain⟨s0,_,e⟩:=a00 q;cases s0<;>cases e
 ·obtain⟨s0,_,e⟩:=a00 q;cases s0<;>cases e
theorem a01(R:Rel K cl σ H F env):∃F1,Rel K cl σ H F1 (y4 env)∧(∀b,u9 σ env b→∃xs,F1 b=some (.lst xs)∧H b=some (.lst xs))∧∀b,¬u9 σ env b→F1 b=F b:=by
 classical
 have hF:∀b,u9 σ env b→F b=none∧∃xs,H b=some (.lst xs):=fun b ⟨j,⟨ds,q⟩,e⟩=>by
  obtain⟨a,xs,e1,h1,f1,_⟩:=R.mu j ds q
  rw[e]at e1;cases e1
  exact⟨f1,xs,h1⟩
 have sF:Same F (fun b=>if u9 σ env b then H b else F b):=fun b o q=>by
  show(if u9 σ env b then H b else F b)=some o
  rw[if_neg (fun w=>by rw[(hF b w).1]at q;cases q)];exact q
 refine⟨fun b=>if u9 σ env b then H b else F b,⟨fun b o q=>?_,by rw[a0Z,List.length_map];exact R.len,fun i d q=>?_,fun i ds q=>absurd ⟨ds,q⟩ a2b,fun i j a hi=>absurd hi a2b⟩,fun b w=>?_,fun b w=>if_neg w⟩
 ·try dsimp only at q
  split at q
  ·exact q
  ·exact R.sub _ _ q
 ·obtain⟨s0,e0,e1⟩:=a00 q
  cases s0 with
  | no=>cases e1
  | fz d'=>cases e1;obtain⟨v,e2,r⟩:=R.fz i _ e0;exact⟨v,e2,r.mono sF⟩
  | ow ds =>
   cases e1
   obtain⟨a,xs,e2,h2,f2,r⟩:=R.mu i ds (.inl e0)
   refine⟨_,e2,?_⟩
   simp only[Rp]
   refine⟨a,xs,rfl,?_,r.mono sF⟩
   rw[if_pos ⟨i,⟨ds,.inl e0⟩,e2⟩];exact h2
  | hd ds =>
   cases e1
   obtain⟨a,xs,e2,h2,f2,r⟩:=R.mu i ds (.inr e0)
   refine⟨_,e2,?_⟩
   simp only[Rp]
   refine⟨a,xs,rfl,?_,r.mono sF⟩
   rw[if_pos ⟨i,⟨ds,.inr e0⟩,e2⟩];exact h2
 ·obtain⟨xs,h⟩:=(hF b w).2
  exact⟨xs,by(try dsimp only);rw[if_pos w];exact h,h⟩
theorem E3(R:Rel K cl σ H F env)(o1:∀b,u9 σ env b→∃xs,F1 b=some (.lst xs)∧H b=some (.lst xs))(o2:∀b,¬u9 σ env b→F1 b=F b)(x:FX σ H F1 (y4 env) H' F') :
  ∃F2,Frm σ H F env σ H' F2 env∧Rel K cl σ H' F2 env∧(∀b o,F' b=some o→(∀xs,o≠.lst xs)→F2 b=some o)∧∀b,F' b=none→F2 b=none:=by
 classical
 have nw:∀b,¬Ow σ (y4 env) b:=fun b ⟨j,ds,q,_⟩=>a2b ⟨ds,.inl q⟩
 have hF:∀b,u9 σ env b→F b=none:=fun b ⟨j,⟨ds,q⟩,e⟩=>by
  obtain⟨a,xs,e1,h1,f1,_⟩:=R.mu j ds q
  rw[e]at e1;cases e1
  exact f1
 have sF:Same F (fun b=>if u9 σ env b then none else F' b):=fun b o q=>by
  have w:¬u9 σ env b:=fun w=>by rw[hF b w]at q;cases q
  show(if u9 σ env b then none else F' b)=some o
  rw[if_neg w]
  exact x.fz _ _ (by rw[o2 b w];exact q)
 have kept:∀b xs,u9 σ env b→H b=some (.lst xs)→H' b=some (.lst xs):=fun b xs w h=>by
  obtain⟨ys,f,h2⟩:=o1 b w
  rw[h]at h2;cases h2
  exact x.sub _ _ (x.fz _ _ f)
 refine⟨fun b=>if u9 σ env b then none else F' b,⟨sF,fun b o hb fb w=>?_,fun _ _ h=>⟨h,rfl⟩,x.dom⟩,⟨fun b o q=>?_,R.len,fun i d q=>?_,fun i ds q=>?_,R.inj⟩,fun b o q nl=>?_,fun b q=>?_⟩
 ·by_cases ww:u9 σ env b
  ·obtain⟨ys,f,h2⟩:=o1 b ww
   refine⟨by rw[hb]at h2;cases h2;exact kept b ys ww hb,by(try dsimp only);rw[if_pos ww],w⟩
  ·obtain⟨h1,f1⟩:=x.hid b o hb (by rw[o2 b ww];exact fb) (nw b)
   exact⟨h1,by(try dsimp only);rw[if_neg ww];exact f1,w⟩
 ·try dsimp only at q
  split at q
  ·cases q
  ·exact x.sub _ _ q
 ·obtain⟨v,e,r⟩:=R.fz i d q;exact⟨v,e,r.mono sF⟩
 ·obtain⟨a,xs,e,h1,f1,r⟩:=R.mu i ds q
  have w:u9 σ env a:=⟨i,⟨ds,q⟩,e⟩
  exact⟨a,xs,e,kept a xs w h1,by(try dsimp only);rw[if_pos w],r.mono sF⟩
 ·dsimp only
  rw[if_neg (fun w=>by obtain⟨ys,f,_⟩:=o1 b w;rw[x.fz _ _ f]at q;cases q;exact nl _ rfl)];exact q
 ·dsimp only
  split
  ·rfl
  ·exact q
def a0t(f:ZF):ZF:=fun e=>match f (y4 e)with
 | some (.ok d _)=>if noL d=true then some (.ok d e)else none
 | some (.ex c)=>some (.ex c)
 | none=>none
def J8(f:BF):BF:=fun e=>match f (y4 e)with
 | some (.ok d _)=>some (.ok d e)
 | some (.ex c)=>some (.ex c)
 | none=>none
def W9(f:NF):NF:=fun e=>match f (y4 e)with
 | some (.ok ds _)=>if noLs ds=true then some (.ok ds e)else none
 | some (.ex c)=>some (.ex c)
 | none=>none
theorem a5n{t:TE}{f:ZF}(hf:m4 K cl E t f):m4 K cl E t (a0t f):=by
 intro σ H Q env F R h
 obtain⟨F1,R1,o1,o2⟩:=a01 R
 refine hf σ H Q (y4 env) F1 R1 ?_
 unfold a0t at h
 split at h
 ·rename_i d e2 q
  rw[q]
  intro b H' F' fr R' p
  split at h
  ·rename_i n
   obtain⟨F2,fr2,R2,g,_⟩:=E3 R o1 o2 (fr.toFX R'.sub)
   exact h b H' F2 fr2 R2 (Rp.noL g d b n p)
  ·exact h.elim
 ·rename_i c q
  rw[q]
  intro H' F' x
  obtain⟨F2,fr2,R2,_⟩:=E3 R o1 o2 x
  exact h H' F2 (fr2.toFX R2.sub)
 ·exact h.elim
theorem Z2{t:TT}{f:BF}(hf:G0 K cl E t f):G0 K cl E t (J8 f):=by
 intro σ H Q env F R h
 obtain⟨F1,R1,o1,o2⟩:=a01 R
 refine hf σ H Q (y4 env) F1 R1 ?_
 unfold J8 at h
 split at h
 ·rename_i d e2 q
  rw[q]
  intro b H' F' fr R' p
  obtain⟨F2,fr2,R2,g,_⟩:=E3 R o1 o2 (fr.toFX R'.sub)
  exact h b H' F2 fr2 R2 p
 ·rename_i c q
  rw[q]
  intro H' F' x
  obtain⟨F2,fr2,R2,_⟩:=E3 R o1 o2 x
  exact h H' F2 (fr2.toFX R2.sub)
 ·exact h.elim
theorem a2c{t:TE}{f:NF}(hf:O1 K cl E t f):O1 K cl E t (W9 f):=by
 intro σ H Q env F R h
 obtain⟨F1,R1,o1,o2⟩:=a01 R
 refine hf σ H Q (y4 env) F1 R1 ?_
 unfold W9 at h
 split at h
 ·rename_i ds e2 q
  rw[q]
  intro b H' F' fr R' p
  split at h
  ·rename_i n
   obtain⟨F2,fr2,R2,g,g0⟩:=E3 R o1 o2 (fr.toFX R'.sub)
   obtain⟨a,xs,e,h0,h1,f1,_,r⟩:=p
   refine h b H' F2 fr2 R2 ⟨a,xs,e,h0,h1,g0 a f1,fun j mj z=>?_,Rps.noL g ds xs n r⟩
   obtain⟨ds',q'⟩:=mj
   obtain⟨a',ys,e',hh,_⟩:=R.mu j ds' q'
   rw[z]at e';cases e'
   rw[h0]at hh;cases hh
  ·exact h.elim
 ·rename_i c q
  rw[q]
  intro H' F' x
  obtain⟨F2,fr2,R2,_⟩:=E3 R o1 o2 x
  exact h H' F2 (fr2.toFX R2.sub)
 ·exact h.elim
def bLd(r:Option (R Bool))(e:DE):Option (R Bool):=match r with
 | some (.ok d _)=>some (.ok d e)
 | some (.ex c)=>some (.ex c)
 | none=>none
def zLd(r:Option (R D))(e:DE):Option (R D):=match r with
 | some (.ok d _)=>if noL d=true then some (.ok d e)else none
 | some (.ex c)=>some (.ex c)
 | none=>none
theorem a5o(f:BF)(e:DE):J8 f e=bLd (f (y4 e)) e:=rfl
theorem a5p(f:ZF)(e:DE):a0t f e=zLd (f (y4 e)) e:=rfl
theorem a8T(d:Bool)(e e2:DE):bLd (some (.ok d e2)) e=some (.ok d e):=rfl
theorem a8U(c:Str)(e:DE):bLd (some (.ex c)) e=some (.ex c):=rfl
theorem a8V(d:D)(e e2:DE):zLd (some (.ok d e2)) e=if noL d=true then some (.ok d e)else none:=rfl
theorem a8W(c:Str)(e:DE):zLd (some (.ex c)) e=some (.ex c):=rfl
variable {k:Nat}
end
def un:Option D→Sl
 | none=>.no
 | some d=>.fz d
def O6:Sl→Bool
 | .hd _=>false
 | _=>true
def okS:Option Sl→Bool
 | none=>false
 | some s=>O6 s
theorem a5q(o:Option D):O6 (un o)=true:=by cases o<;>rfl
theorem a5r:O6 .no=true:=rfl
theorem a5s(d:D):O6 (.fz d)=true:=rfl
theorem a5t(d:List D):O6 (.ow d)=true:=rfl
theorem a5u(d:List D):O6 (.hd d)=false:=rfl
theorem a5v(s:Sl):okS (some s)=O6 s:=rfl
theorem a5w:okS none=false:=rfl
theorem a7p:V6 .no=.no:=rfl
theorem a7q(d:D):V6 (.fz d)=.fz d:=rfl
theorem a7r(d:List D):V6 (.ow d)=.fz (.lst d):=rfl
theorem a7s(d:List D):V6 (.hd d)=.fz (.lst d):=rfl
theorem a8X(i:Nat)(s:Sl)(e:DE):put i s e=if okS e[i]? = true then some (.nx (e.set i s))else none:=by
 unfold put okS
 cases e[i]? with
 | none=>rfl
 | some t=>cases t<;>rfl
theorem a7t(o:Option D):V6 (un o)=un o:=by cases o<;>rfl
theorem a5x:a0U []=true:=rfl
theorem a4q(s:Sl)(e:DE):a0U (s::e)=(O6 s && a0U e):=by cases s<;>rfl
def D3(r:Option RS):Option RS:=match r with
 | some (.ct e)=>some (.nx e)
 | r=>r
theorem a7u(e:DE):D3 (some (.nx e))=some (.nx e):=rfl
theorem a7v(e:DE):D3 (some (.ct e))=some (.nx e):=rfl
theorem a7w(d:D):D3 (some (.rt d))=some (.rt d):=rfl
theorem a7x(c:Str):D3 (some (.ex c))=some (.ex c):=rfl
theorem a7y(d:List (List D)):D3 (some (.rz d))=some (.rz d):=rfl
theorem a7z(d:List D):D3 (some (.ro d))=some (.ro d):=rfl
theorem a4r{r:Option RS}{k:SF}:P0 r k=P0 (D3 r) k:=by
 cases r with
 | none=>rfl
 | some r=>cases r<;>rfl
theorem a2d{α:Type}{b:GF}{body:SF}(f:α→D)(I:List α→DE→Prop)(l0:List α):∀(l pre:List α) (e:DE),l0=pre++l→I pre e→(∀pre x post e,l0=pre++x::post→I pre e→∃e2,D3 (a3q (b (f x) e) body)=some (.nx e2)∧I (pre++[x]) e2)→∃e',u6 b body (l.map f) e=some (.nx e')∧I l0 e'
 | [],pre,e,hl,h,_=>⟨e,rfl,by rw[hl,List.append_nil];exact h⟩
 | x::l,pre,e,hl,h,hs=>by
  obtain⟨e2,h2,h3⟩:=hs pre x l e hl h
  obtain⟨e',h4,h5⟩:=a2d f I l0 l (pre++[x]) e2 (by rw[hl,List.append_assoc];rfl) h3 hs
  refine⟨e',?_,h5⟩
  rw[List.map_cons,a1k]
  cases q:b (f x) e with
  | none=>rw[q]at h2;cases h2
  | some e1 =>
   rw[q]at h2
   have h2:D3 (body e1)=some (.nx e2):=h2
   rw[C6,a4r,h2];exact h4
theorem X0{α:Type}{b:GF}{body:SF}(f:α→D)(I:List α→DE→Prop)(l:List α)(e:DE)(h:I [] e)(hs:∀pre x post e,l=pre++x::post→I pre e→∃e2,D3 (a3q (b (f x) e) body)=some (.nx e2)∧I (pre++[x]) e2):∃e',u6 b body (l.map f) e=some (.nx e')∧I l e' :=
 a2d f I l l [] e rfl h hs
theorem M4{α:Type}{b:GF}{c:BF}{el:ZF}{ec eo:DE}(f:α→D)(g:α→D)(q:α→Bool):∀(l:List α) (acc:List D),acc.length+l.length≤sizeLine→(∀x∈l,∃e1 e2,b (f x) ec=some e1∧c e1=some (.ok (q x) e2)∧(q x=true→∃e3,el e2=some (.ok (g x) e3)))→j0 b c el ec eo (l.map f) acc=some (.ok (acc++(l.filter q).map g) eo)
 | [],acc,_,_=>by simp only[List.filter_nil,List.map_nil,List.append_nil];rfl
 | x::l,acc,hl,h=>by
  obtain⟨e1,e2,h1,h2,h3⟩:=h x List.mem_cons_self
  have hl':acc.length<sizeLine:=by rw[List.length_cons]at hl;omega
  rw[List.map_cons,a0s,h1,a1l,h2,V1]
  by_cases z:q x=true
  ·obtain⟨e3,h4⟩:=h3 z
   rw[if_pos z,h4,V1,if_pos hl',M4 f g q l (acc++[g x]) (by rw[List.length_append,List.length_cons,List.length_nil];rw[List.length_cons]at hl;omega) (fun y m=>h y (List.mem_cons_of_mem _ m)),List.filter_cons_of_pos z,List.map_cons,List.append_assoc];rfl
  ·rw[if_neg z,M4 f g q l acc (by rw[List.length_cons]at hl;omega) (fun y m=>h y (List.mem_cons_of_mem _ m)),List.filter_cons_of_neg z]
theorem a7A{ds:List D}{v u:Int}(h:0≤v)(h2:v≤u):Y9 ds (some v) (some u)=(ds.drop v.toNat).take (u-v).toNat:=by
 unfold Y9
 obtain⟨n,rfl⟩:=Int.eq_ofNat_of_zero_le h
 obtain⟨m,rfl⟩:=Int.eq_ofNat_of_zero_le (Int.le_trans h h2)
 rw[HT.sIx_nat,HT.sIx_nat,Int.toNat_natCast]
 have e:((m:Int)-(n:Int)).toNat=m-n:=by omega
 rw[e]
 by_cases z:n≤ds.length
 ·rw[Nat.min_eq_left z]
  by_cases y:m≤ds.length
  ·rw[Nat.min_eq_left y]
  ·rw[Nat.min_eq_right (by omega),List.take_of_length_le (by rw[List.length_drop];exact Nat.le_refl _),List.take_of_length_le (by rw[List.length_drop];omega)]
 ·rw[List.drop_of_length_le (show ds.length≤min n ds.length by omega),List.drop_of_length_le (by omega),List.take_nil,List.take_nil]
section
variable {K:W.Frag}{cl:Str→Addr}{E:XK}
def a02(d e:D):Option D:=match d,e with
 | .tup ds,.tup es=>match y0 ds,y0 es with
  | some ns,some ms=>some (.bl (HT.lexLt ns ms))
  | _,_=>none
 | _,_=>none
theorem a8Y:OpOk K cl (a4P K) a02:=by
 intro x y d e z H F Q s hx hy h q
 unfold a02 at h
 split at h
 ·rename_i ds es
  split at h
  ·rename_i ns ms h1 h2
   cases h
   obtain⟨a,xs,rfl,hH,r⟩:=hx.tup s
   obtain⟨b,ys,rfl,hH',r'⟩:=hy.tup s
   rw[Q2 h1]at r
   rw[Q2 h2]at r'
   rw[r.ints]at hH
   rw[r'.ints]at hH'
   exact⟨a,b,ns,ms,rfl,rfl,.of hH,.of hH',q _ H F (.refl s) (by simp only[Rp])⟩
  ·cases h
 ·cases h
end
open Classical in
section
variable {K:W.Frag}{cl:Str→Addr}{E:XK}
theorem Z3:∀a b:List Int,HT.lexLt a b=false→HT.lexLt b a=false→a=b
 | [],[],_,_=>rfl
 | [],_::_,h,_=>by cases h
 | _::_,[],_,h=>by cases h
 | x::xs,y::ys,h1,h2=>by
  rw[HT.lexLt_cons]at h1 h2
  by_cases e:x=y
  ·subst e
   rw[if_pos rfl]at h1 h2
   rw[Z3 xs ys h1 h2]
  ·rw[if_neg e]at h1
   rw[if_neg (Ne.symm e)]at h2
   have:=of_decide_eq_false h1
   have:=of_decide_eq_false h2
   exact absurd (show x=y by omega) e
theorem a25{F:Hp}:∀{ds:List D} {xs:List V},Rps K cl F ds xs→Rps K cl F ds.reverse xs.reverse
 | [],_,r=>by rw[r.inv0];exact .nil
 | d::ds,_,r=>by
  obtain⟨v,xs,rfl,p,r'⟩:=r.inv
  rw[List.reverse_cons,List.reverse_cons]
  exact(a25 r').append (.one p)
end
section
variable {K:W.Frag}{cl:Str→Addr}{E:XK}{σ:St}{H F:Hp}{env:DE}
abbrev HF:=Str→SF
def hN:HF:=fun _ _=>none
end
def Q3(g:List D→Option R1)(f:AF):NF:=fun e=>bnd (f e) fun ds e1=>match g ds with
 | some (.own es)=>some (.ok es e1)
 | _=>none
section
variable {K:W.Frag}{cl:Str→Addr}{E:XK}
theorem a1m{g:List D→Option R1}{t:TA}{f:AF}(hf:T9 K cl E t f):O1 K cl E (W1 (j1 K cl g) [] E0 t) (Q3 g f):=by
 intro σ H Q env F R h
 refine hf σ H _ env F R ((Ct.bnd h a0M).mono fun vs H1 ⟨F1,e1,ds,s1,R1,p1,h1⟩=>?_)
 show j1 K cl g (vs++[]) H1 _ E0
 rw[List.append_nil]
 refine⟨ds,F1,R1.sub,p1,?_⟩
 split at h1
 ·rename_i es q;rw[q]
  intro a xs H' F' gr ha hH hF r
  refine h1 _ H' F' (R1.frm gr) (R1.gr gr) ⟨a,xs,rfl,ha,hH,hF,fun k ⟨fs,qk⟩ e=>?_,r⟩
  obtain⟨b,ys,e',hb,_⟩:=R1.mu k fs qk
  rw[e]at e';cases e'
  rw[ha]at hb;cases hb
 ·exact h1.elim
end
section
variable {K:W.Frag}{cl:Str→Addr}{E:XK}{σ:St}{H F:Hp}{env:DE}
theorem Rps.lookup{f:Str}:∀{ns:List Str} {ds:List D} {xs:List V} {z:D},Rps K cl F ds xs→(ns.zip ds).lookup f=some z→∃v,(ns.zip xs).lookup f=some v∧Rp K cl F z v
 | [],ds,xs,z,_,h=>by simp at h
 | n::ns,[],xs,z,r,h=>by simp at h
 | n::ns,d::ds,xs,z,r,h=>by
  obtain⟨v,ys,rfl,p,r'⟩:=r.inv
  rw[List.zip_cons_cons,List.lookup_cons]at h ⊢
  by_cases q:(f == n)=true
  ·rw[q]at h ⊢;cases h;exact⟨v,rfl,p⟩
  ·rw[Bool.not_eq_true _ |>.mp q]at h ⊢;exact r'.lookup h
end
section
variable {K:W.Frag}{cl:Str→Addr}
theorem a2e{F:Hp}:∀(l:List Nat),Rps K cl F (l.map fun(i:Nat)=>D.int (i:Int)) (l.map fun(i:Nat)=>V.int (i:Int))
 | []=>.nil
 | i::l=>.cons (by simp only[Rp]) (a2e l)
end
structure GrM(a:Addr)(H F H' F':Hp):Prop where
 fz:Same F F'
 sub:Same F' H'
 hid:∀b o,b≠a→H b=some o→F b=none→H' b=some o∧F' b=none
 dom:∀b,H' b=none→H b=none
structure Bs(a:Addr)(σ:St)(env:DE)(H0 F0 H F:Hp):Prop where
 fz:Same F0 F
 hid:∀b o,b≠a→H0 b=some o→F0 b=none→H b=some o∧F b=none∧¬Ow σ env b
 dom:∀b,H b=none→H0 b=none
section
variable {K:W.Frag}{cl:Str→Addr}{E:XK}{σ:St}{H F:Hp}{env:DE}
theorem Bs.frm{a:Addr}{ds:List D}{σ':St}{env':DE}{H0 F0 H' F':Hp}(B:Bs a σ env H0 F0 H F)(f:Frm σ H F env σ' H' F' env'):Bs a σ' env' H0 F0 H' F' :=
 ⟨B.fz.trans f.fz,fun b o n h g=>by obtain⟨h1,f1,w1⟩:=B.hid b o n h g;exact f.hid b o h1 f1 w1,fun b h=>B.dom b (f.dom b h)⟩
theorem Bs.gr{a:Addr}{H0 F0:Hp}(B:Bs a σ env H0 F0 H F)(s:Same F H):GrM a H0 F0 H F :=
 ⟨B.fz,s,fun b o n h g=>by obtain⟨h1,f1,_⟩:=B.hid b o n h g;exact⟨h1,f1⟩,B.dom⟩
end
abbrev J1:=List Int×List D
def a03(k:J1):List J1→List J1
 | []=>[k]
 | l::r=>if HT.lexLt l.1 k.1 then l::a03 k r else k::l::r
def J9:List J1→List J1
 | []=>[]
 | k::r=>a03 k (J9 r)
theorem V7(k:J1):∀r:List J1,(a03 k r).Perm (k::r)
 | []=>.refl _
 | l::r=>by
  unfold a03
  split
  ·exact((V7 k r).cons l).trans (List.Perm.swap k l r)
  ·exact .refl _
theorem T5:∀r:List J1,(J9 r).Perm r
 | []=>.refl _
 | k::r=>(V7 k _).trans ((T5 r).cons k)
theorem X8(k:J1):∀r:List J1,r.Pairwise (fun a b=>HT.lexLt b.1 a.1=false)→(a03 k r).Pairwise (fun a b=>HT.lexLt b.1 a.1=false)
 | [],_=>List.pairwise_singleton _ _
 | l::r,h=>by
  rw[List.pairwise_cons]at h
  unfold a03
  split
  ·rename_i c
   rw[List.pairwise_cons]
   refine⟨fun b hb=>?_,X8 k r h.2⟩
   rcases List.mem_cons.mp ((V7 k r).mem_iff.mp hb)with rfl | hb
   ·exact a0L _ _ c
   ·exact h.1 b hb
  ·rename_i c
   rw[Bool.not_eq_true]at c
   rw[List.pairwise_cons]
   refine⟨fun b hb=>?_,by rw[List.pairwise_cons];exact h⟩
   rcases List.mem_cons.mp hb with rfl | hb
   ·exact c
   ·exact a1X _ _ _ c (h.1 b hb)
theorem M5:∀r:List J1,(J9 r).Pairwise (fun a b=>HT.lexLt b.1 a.1=false)
 | []=>.nil
 | k::r=>X8 k _ (M5 r)
theorem Q4:∀{a b:List J1},a.Perm b→a.Pairwise (fun a b=>HT.lexLt b.1 a.1=false)→b.Pairwise (fun a b=>HT.lexLt b.1 a.1=false)→a.Pairwise (fun a b=>a.1≠b.1)→a=b
 | [],b,h,_,_,_=>h.symm.eq_nil.symm▸rfl
 | x::a,[],h,_,_,_=>absurd h.eq_nil nofun
 | x::a,y::b,h,ha,hb,hd=>by
  rw[List.pairwise_cons]at ha hb hd
  have e:x=y:=by
   have mx:x∈y::b:=h.mem_iff.mp (by simp)
   have my:y∈x::a:=h.mem_iff.mpr (by simp)
   rcases List.mem_cons.mp mx with e | mx
   ·exact e
   ·rcases List.mem_cons.mp my with e | my
    ·exact e.symm
    ·exact absurd (Z3 _ _ (hb.1 x mx) (ha.1 y my)) (hd.1 y my)
  subst e
  rw[Q4 ((List.perm_cons x).mp h) ha.2 hb.2 hd.2]
def P3(el:ZF)(ec:DE):Nat→Option (List (List Int))
 | 0=>some []
 | n+1=>match P3 el ec n with
  | some ks=>(match el (ec.set 0 (.fz (.int (n:Int))))with
   | some (.ok (.tup ds) _)=>(match y0 ds with
    | some k=>if k≠[]then some (ks++[k])else none
    | none=>none)
   | _=>none)
  | none=>none
def F6(ks:List (List Int)):List J1:=(List.range ks.length).map fun(i:Nat)=>(ks.getD i [],[D.int (i:Int)])
def okK(ks:List (List Int)):Bool:=decide ks.Nodup && ks.all fun k=>k.length == (ks.headD []).length
theorem Z4{el:ZF}{ec:DE}:∀{n:Nat} {ks:List (List Int)},P3 el ec n=some ks→ks.length=n
 | 0,ks,h=>by cases h;rfl
 | n+1,ks,h=>by
  unfold P3 at h
  split at h
  ·rename_i ks' e
   split at h
   ·split at h
    ·split at h
     ·cases h;rw[List.length_append,Z4 e];rfl
     ·cases h
    ·cases h
   ·cases h
  ·cases h
theorem a04{el:ZF}{ec:DE}:∀{n:Nat} {ks:List (List Int)},P3 el ec n=some ks→∀i,i<n→∃e',el (ec.set 0 (.fz (.int (i:Int))))=some (.ok (.tup ((ks.getD i []).map .int)) e')∧ks.getD i []≠[]
 | 0,ks,h,i,hi=>by omega
 | n+1,ks,h,i,hi=>by
  unfold P3 at h
  split at h
  ·rename_i ks' e
   have hl:=Z4 e
   split at h
   ·rename_i ds e' he
    split at h
    ·rename_i k hk
     split at h
     ·rename_i hn
      cases h
      by_cases z:i=n
      ·subst z
       have:(ks'++[k]).getD i []=k:=by rw[List.getD_eq_getElem?_getD,List.getElem?_append_right (by omega),hl,Nat.sub_self];rfl
       rw[this]
       exact⟨e',by rw[he,Q2 hk],hn⟩
      ·obtain⟨e2,h1,h2⟩:=a04 e i (by omega)
       have:(ks'++[k]).getD i []=ks'.getD i []:=by rw[List.getD_eq_getElem?_getD,List.getD_eq_getElem?_getD,List.getElem?_append_left (by omega)]
       rw[this]
       exact⟨e2,h1,h2⟩
     ·cases h
    ·cases h
   ·cases h
  ·cases h
section
variable {K:W.Frag}{cl:Str→Addr}{E:XK}
theorem a5y{env:DE}{i:Nat}{d:D}(n:NoOw env):NoOw (env.set i (.fz d)):=by
 intro j ds q
 by_cases z:i=j
 ·subst z
  by_cases hi:i<env.length
  ·rw[List.getElem?_set_self hi]at q;cases q
  ·rw[List.getElem?_eq_none (by rw[List.length_set];omega)]at q;cases q
 ·rw[List.getElem?_set_ne z]at q;exact n j ds q
theorem a5_{F H:Hp}:∀{ks:List (List Int)} {ys:List V},Same F H→Rps K cl F (ks.map fun k=>D.tup (k.map .int)) ys→(∀k∈ks,k≠[])→VPs K H ys ks
 | [],_,_,r,_=>by rw[r.inv0];trivial
 | k::ks,_,s,r,h=>by
  obtain⟨v,xs,rfl,p,r'⟩:=r.inv
  refine⟨?_,a5_ s r' fun k' m=>h k' (List.mem_cons_of_mem _ m)⟩
  obtain⟨a,vs,rfl,hF,rv⟩:∃a vs,v=.ref a∧F a=some (.tup vs)∧Rps K cl F (k.map .int) vs:=by simpa only[Rp]using p
  have e:vs=k.map V.int:=Rps.ints rv
  subst e
  exact⟨a,[],rfl,by rw[List.append_nil];exact .of (s _ _ hF),h k List.mem_cons_self,fun r m=>by cases m⟩
end
section
variable {P:Program}{w:World}{K:W.Frag}{mg:Str→Option Value}{base:Heap}{cl:Str→Addr}{TB:List (Addr×Str)}
theorem Fun.okT{x qual:Str}{st:Stmt}{f:Addr}{fd:FuncData}{N ps:List Str}{k:Nat}{body:SF}(F:Fun K x qual st f fd)(S:FnScope N ps (a7 st))
  (hbody:∀(A:Around) (outer:List Env) (s:Shared) (H:Hp) (E:XK),TbAll TB H→Room k (A.deeper (envOfC qual (a7 st) s.heap.objs.size f fd.code)) →
   ∃t,PSs (G4 (r0 P w) P w K mg base N qual (a7 st) f fd.code A outer s H E) (i5 st) t∧RfS K cl E t body):FnOk P w K mg base (r0 P w) (k+1) f fd ps (G9 TB (j1 K cl (fD N.length ps.length body))):=by
 obtain⟨oc,od,kV,doc,pm,an,cdv,ct,osl,rfl,lk,hcd⟩:=F.ex
 refine Z7 lk hcd S (fun vs H Q E h=>W7 h.2) fun A outer s H vs Q E hr h=>?_
 obtain⟨t,h1,h2⟩:=hbody A outer s H E h.1 hr
 exact⟨t,h1,J7 h2 h.2⟩
variable {X:Cx}{k k':Nat}{x:Str}{ps:List Str}{sp:Sp}{E:XK}{e:Expr}{es:List Expr}{t:TA}{p pos:Pos}
theorem Q5(hT:TbAll TB X.H₀)(G:Own X.prog X.w X.K X.mg X.base k x ps (G9 TB sp))(hr:Room k' X.A)(hk:k≤k')(hx:U3 (r0 X.prog X.w) X E)(ha:PA X (e::es) t)(hg:Gl X x:=by rfl)
  (hdb:(x == ("__debug__" : Str))=false:=by decide) (he:starEach (e::es) X.env=(false,eval e X.env)::starEach es X.env:=by rfl) (hpl:(backTo pos (starEach es X.env)).any (·.1)=false:=by rfl) :
  PE X (.Call (.Name x p) (e::es) [] pos) (W1 sp [] E t):=by
 have ha':PA X (e::es) (fun σ H Q=>∃R:List V→Hp→Prop,t σ H R∧∀vs H1,R vs H1→TbAll TB H1→Q vs H1):=by
  intro pos pins s σ H Q I h
  obtain⟨R,h1,h2⟩:=h
  exact wpAny_mono (ha pos pins s σ H R I h1) (fun us s' ⟨vs,H',I',r,q⟩=>⟨vs,H',I',r,h2 _ _ q (hT.now I'.base)⟩) fun _ _ z=>z
 have:=k7 G hr hk hx ha' hg hdb he hpl (p:=p)
 intro pins s σ H Q I h
 exact this pins s σ H Q I ⟨_,h,fun vs H1 z hT'=>⟨hT',z⟩⟩
end
section
variable {P:Program}{w:World}{K:W.Frag}{mg:Str→Option Value}{base:Heap}{cl:Str→Addr}{TB:List (Addr×Str)}
theorem FunD.okT{x qual:Str}{st:Stmt}{dT f:Addr}{fd:FuncData}{N ps:List Str}{k:Nat}{body:SF}(F:FunD K x qual st dT f fd)(S:FnScope N ps (a7 st))
  (hbody:∀(A:Around) (outer:List Env) (s:Shared) (H:Hp) (E:XK),TbAll TB H→Room k (A.deeper (envOfC qual (a7 st) s.heap.objs.size f fd.code)) →
   ∃t,PSs (G4 (r0 P w) P w K mg base N qual (a7 st) f fd.code A outer s H E) (i5 st) t∧RfS K cl E t body):FnOk P w K mg base (r0 P w) (k+1) f fd ps (G9 TB (j1 K cl (fD N.length ps.length body))):=by
 obtain⟨oc,od,kV,doc,pm,an,cdv,ct,osl,rfl,lk,hcd⟩:=F.ex
 refine Z7 lk hcd S (fun vs H Q E h=>W7 h.2) fun A outer s H vs Q E hr h=>?_
 obtain⟨t,h1,h2⟩:=hbody A outer s H E h.1 hr
 exact⟨t,h1,J7 h2 h.2⟩
variable {X:Cx}{k k':Nat}{x:Str}{ps:List Str}{sp:Sp}{E:XK}{e:Expr}{es:List Expr}{t:TA}{p pos:Pos}{d:V}
theorem OwnD.own(G:OwnD P w K mg base k x ps sp d):Own P w K mg base k x ps sp:=by
 obtain⟨f,fd,du,F,b,bd,rd,kp,m⟩:=G.ex
 exact⟨f,fd,F,b,kp,m⟩
end
def M6(js:List Nat)(f:AF)(el:ZF):NF:=fun e=>bnd (f e) fun ds e1=>match ds with
 | [.int n]=>if 0≤n∧n<1000 then(match P3 el (i3 1 js e1) n.toNat with
  | some ks=>if okK ks=true then some (.ok ((J9 (F6 ks)).map fun q=>q.2.headD .non) e1)else none
  | none=>none)else none
 | _=>none
section
variable {K:W.Frag}{cl:Str→Addr}{E:XK}
theorem a2g{t:TA}{f:AF}{te:TE}{el:ZF}{js:List Nat}(nd:js.Nodup)(hf:T9 K cl E t f)(he:m4 K cl E te el):O1 K cl E (a37 K t te js) (M6 js f el):=by
 intro σ H Q env F R h
 refine hf σ H _ env F R ((Ct.bnd h a0M).mono fun xs H1 ⟨F1,e1,ds,s1,R1,p1,h1⟩=>?_)
 split at h1
 ·rename_i n
  split at h1
  ·rename_i hn
   split at h1
   ·rename_i ks hk
    split at h1
    ·rename_i ok
     have hl:=Z4 hk
     have ok':ks.Nodup∧∀k∈ks,k.length=(ks.headD []).length:=by simpa [okK]using ok
     have ex:xs=[.int n]:=Rps.ints (ns:=[n]) p1
     subst ex
     refine⟨n,rfl,fun r hr=>?_⟩
     refine⟨n.toNat,r,rfl,by rw[g7,Int.toNat_of_nonneg hn.1],by omega,fun H2 ext=>?_⟩
     have ext':∀a o,H1 a=some o→H2 a=some o:=fun a o ha=>ext a o (by rw[a8 (fun z=>by rw[z,hr]at ha;cases ha)];exact ha)
     refine⟨fun i ys H'=>∃F',Gr H1 F1 H' F'∧Rps K cl F' ((ks.take i).map fun k=>D.tup (k.map .int)) ys,⟨F1,⟨Same.refl _,fun a o ha=>ext' a o (R1.sub a o ha),fun a o ha fa=>⟨ext' a o ha,fa⟩⟩,.nil⟩,fun i ys H' hi ⟨F',g,rk⟩=>?_,fun ys H' hy ⟨F',g,rk⟩=>?_⟩
     ·obtain⟨e',hel,_⟩:=a04 hk i hi
      have R2:=R1.gr g
      have Rc:Rel K cl (i8 1 js σ) H' F' (i3 1 js e1):=R2.comp nd
      have n1:NoOw (i3 1 js e1):=a1i
      have Rp':=Rc.put (i:=0) (d:=.int (i:Int)) (v:=.int (i:Int)) (by unfold i3;simp) (fun ds z=>by unfold i3 at z;simp at z) (by simp only[Rp])
      refine he ((i8 1 js σ).set 0 (some (.int (i:Int)))) H' _ _ F' Rp' ?_
      rw[hel]
      intro v H4 F4 f4 R4 hv
      have gr4:Gr H' F' H4 F4:=f4.gr (a5y n1) R4.sub
      refine⟨F4,g.trans gr4,?_⟩
      have et:ks.take (i+1)=ks.take i++[ks.getD i []]:=by
       rw[List.take_add_one,List.getD_eq_getElem?_getD]
       rw[List.getElem?_eq_getElem (by omega)]
       rfl
      rw[et,List.map_append]
      exact(rk.mono gr4.fz).append (.one hv)
     ·rw[List.take_of_length_le (by omega)]at rk
      have ne:∀k∈ks,k≠[]:=fun k m=>by
       obtain⟨i,hi,e⟩:=List.mem_iff_getElem.mp m
       obtain⟨_,_,h3⟩:=a04 hk i (by omega)
       rw[List.getD_eq_getElem?_getD,List.getElem?_eq_getElem hi,Option.getD_some,e]at h3
       exact h3
      have gk:∀i,i<ks.length→ks.getD i []=ks[i]! := fun i hi=>by simp[List.getD_eq_getElem?_getD,hi]
      have at_:∀i (hi:i<ks.length),ks.getD i []=ks[i]:=fun i hi=>by rw[List.getD_eq_getElem?_getD,List.getElem?_eq_getElem hi];rfl
      refine⟨ks,a5_ g.sub rk ne,fun i j hi hj z=>?_,fun l p hl' hp hs=>?_⟩
      ·have hi:i<ks.length:=by omega
       have hj:j<ks.length:=by omega
       rw[at_ i hi,at_ j hj]
       refine⟨by rw[ok'.2 _ (List.getElem_mem hi),ok'.2 _ (List.getElem_mem hj)],fun e=>z ((List.getElem_inj ok'.1).mp e)⟩
      ·have R2:=R1.gr g
       obtain⟨R3,f3⟩:=R2.newN (o:=.lst (p.map fun(i:Nat)=>V.int (i:Int))) hl'
       have h1:∀b H' F',Frm σ H1 F1 e1 σ H' F' e1→Rel K cl σ H' F' e1→PN K cl ((J9 (F6 ks)).map fun q=>q.2.headD .non) σ H1 H' F' e1 b→Q b H':=h1
       refine h1 _ _ F' ((R1.frm g).trans f3) R3 ⟨l,_,rfl,g.dom l hl',g7,R2.sub.free hl',fun j ⟨ds,q⟩ e=>?_,?_⟩
       ·obtain⟨a,ys',e1',hH,_⟩:=R2.mu j ds q
        rw[e]at e1';cases e1'
        rw[hl']at hH;cases hH
       ·have hp':p.Perm (List.range ks.length):=by rw[hl];exact hp
        have srt:p.map (fun(i:Nat)=>((ks.getD i [],[D.int (i:Int)]):J1))=J9 (F6 ks):=by
         refine Q4 ((hp'.map _).trans (T5 _).symm) ?_ (M5 _) ?_
         ·rw[List.pairwise_map];exact hs
         ·rw[List.pairwise_map]
          have nd:p.Nodup:=hp'.nodup_iff.mpr List.nodup_range
          refine List.Pairwise.imp_of_mem ?_ nd
          intro a b ma mb hab e
          have ha:=List.mem_range.mp (hp'.mem_iff.mp ma)
          have hb:=List.mem_range.mp (hp'.mem_iff.mp mb)
          have e:ks.getD a []=ks.getD b []:=e
          rw[at_ a ha,at_ b hb]at e
          exact hab ((List.getElem_inj ok'.1).mp e)
        rw[← srt,List.map_map]
        exact a2e p
    ·exact h1.elim
   ·exact h1.elim
  ·exact h1.elim
 ·exact h1.elim
end
section
variable {K:W.Frag}{cl:Str→Addr}{E:XK}{k:Nat}
theorem a0u{i:Nat}:RfS K cl E (a1w (a3c K "list" a1Q (A3 i))) (B1 i fun ds=>ds.reverse):=by
 intro N σ H env F R h
 unfold B1 at h
 split at h
 ·rename_i ds q
  obtain⟨a,xs,e,hH,hF,r⟩:=R.mu i ds (.inl q)
  obtain⟨R2,f2⟩:=R.change q e (a25 r)
  exact⟨_,e,.inl ⟨rfl,xs,.of hH⟩,a,xs,rfl,rfl,hH,h σ _ F f2 R2⟩
 ·exact h.elim
end
section
variable {K:W.Frag}{cl:Str→Addr}{E:XK}{k:Nat}{σ:St}{H F:Hp}{env:DE}
theorem a7B{b:GF}{c:BF}{el:ZF}{g:TG}{tf:TT}{te:TE}{js:List Nat}{ds:List D}{xs:List V}{a B:Addr}{Q:VK}(nd:js.Nodup)(hg:L9 K cl k g b)(hc:G0 K cl E tf c)(he:m4 K cl E te el)(R:Rel K cl σ H F env)(hB:H B=none)
  (hl:∀H' F',Same F F'→Same F' H'→(∀a o,H a=some o→F a=none→H' a=some o∧F' a=none)→SqL K H' a xs) (r:Rps K cl F ds xs) (h:Ct K cl E (PN K cl) (j0 b c el (i3 k js env) env (V3 0 ds) []) σ H F env Q) :
  K9 (Ite K a) g tf te k (i8 k js σ) B (fun H'=>Q (.ref B) H') H:=by
 refine a3T (xs:=xs) (fun i zs H'=>∃F' acc,Grow K cl σ H F env B acc zs H' F'∧Ct K cl E (PN K cl) (j0 b c el (i3 k js env) env ((V3 0 ds).drop i) acc) σ H F env Q) ⟨F,[],.start R hB,h⟩ (fun i zs H' _ ⟨F',acc,gw,_⟩=>hl H' F' gw.frm.fz gw.rel.sub gw.stay) (fun i x zs H' p hx ⟨F',acc,gw,h'⟩ hp=>?_) (fun zs H' ⟨F',acc,gw,h'⟩=>?_)
 ·obtain⟨d,hd,pd⟩:=r.get' hx
  rw[O3 (a0S hd),Nat.zero_add]at h'
  have gr:Gr H' F' (upd H' p (.tup [.int i,x])) (upd F' p (.tup [.int i,x])):=.new gw.rel.sub hp
  refine a1j (Pv:=fun zs' H2=>∃F' acc,Grow K cl σ H F env B acc zs' H2 F'∧Ct K cl E (PN K cl) (j0 b c el (i3 k js env) env ((V3 0 ds).drop (i+1)) acc) σ H F env Q) nd hg hc he (gw.gr gr) ?_ h' fun acc' ys' H2 F2 gw2 h2=>⟨F2,acc',gw2,h2⟩
  simp only[Rp]
  exact⟨p,_,rfl,g7,.cons (by simp only[Rp]) (.one (Rp.mono (gw.frm.fz.trans gr.fz) _ _ pd))⟩
 ·rw[← r.length,List.drop_eq_nil_of_le (by rw[a0T];exact Nat.le_refl _)]at h'
  exact a17 gw h'
def Q6(i:Nat)(k:Nat)(js:List Nat)(b:GF)(c:BF)(el:ZF):NF:=fun e=>match e[i]? with
 | some (.ow ds)=>j0 b c el (i3 k js e) e (V3 0 ds) []
 | _=>none
theorem V8{i:Nat}{g:TG}{tf:TT}{te:TE}{js:List Nat}{b:GF}{c:BF}{el:ZF}(nd:js.Nodup)(hg:L9 K cl k g b)(hc:G0 K cl E tf c)(he:m4 K cl E te el):O1 K cl E (a0e (a5Z K (E7 (A3 i) Q8)) g tf te k js) (Q6 i k js b c el):=by
 intro σ H Q env F R h
 unfold Q6 at h
 split at h
 ·rename_i ds q
  obtain⟨a,xs,e,hH,hF,r⟩:=R.mu i ds (.inl q)
  exact⟨_,e,a,rfl,⟨xs,.of hH⟩,fun B hB=>a7B nd hg hc he R hB (fun H' F' _ _ st=>.of (st a _ hH hF).1) r h⟩
 ·exact h.elim
end
end L2
namespace Law
open PySem L2 PyProof.Rows
def V9(i:Nat):Stmt:=PySem.Challenge.pw_cratefit_k03_wares_in_order.main.body.getD i (.Pass ⟨0,0,0,0⟩)
abbrev w8:Stmt:=V9 1
abbrev r9:Stmt:=V9 2
abbrev w9:Stmt:=V9 3
abbrev y9:Stmt:=V9 5
abbrev C7:Stmt:=V9 6
abbrev E4:Stmt:=V9 7
abbrev E5:Stmt:=V9 8
abbrev B9:Stmt:=V9 9
abbrev m5:Stmt:=V9 10
abbrev z0:Stmt:=V9 11
abbrev v3:Stmt:=V9 12
variable {P:Program}{w:World}{K:PySem.W.Frag}{mg:Str→Option Value}{base:Heap}{c:Str→Addr}
structure Txt(K:PySem.W.Frag)(mg:Str→Option Value)(c:Str→Addr):Prop where
 z_bool:mg "bool" = none
 z_enumerate:mg "enumerate" = none
 z_int:mg "int" = none
 z_isinstance:mg "isinstance" = none
 z_len:mg "len" = none
 z_list:mg "list" = none
 z_range:mg "range" = none
 z_sorted:mg "sorted" = none
 z_sum:mg "sum" = none
def a4s:SF:=(k9 (eCB (g1 a19) (aC (zN (V4 0 1 [] (i7 0) x9 (eB r8 (eB p8 (eV 0) (eC (.int 0))) (eB p8 (eV 0) (eC (.int 1)))))) aN)))
def k8:List D→Option R1:=fD 1 1 a4s
theorem a3t:FnScope ["wares"] ["wares"] (a7 w8):=⟨rfl,rfl,rfl,by decide +kernel,rfl,by decide +kernel,by decide +kernel⟩
seal PSs PS PE PA PT
theorem a3u{f:Addr}{fd:FuncData}(F:Fun K "area_of" "area_of" w8 f fd)(T:Txt K mg c)  : FnOk P w K mg base (r0 P w) 3 f fd ["wares"] (j1 K c k8) :=
 F.okD (k:=2) a3t fun cdv A outer s H E hr=>⟨_,(g8 (j6 (t4 (a3V (K:=K)) rfl T.z_sum a8a (a6 (W3 (Nc:=["ware"]) (k:=1) (js:=[]) rfl ⟨by decide +kernel,rfl,by decide +kernel,(by change ∀y∈Scope.names _,y.2=NameKind.free→(a7 w8).names.lookup y.1=some .cell∨(a7 w8).names.lookup y.1=some .free;decide +kernel),by decide +kernel,rfl,rfl,by decide +kernel⟩ (K0 (pv 0)) (fun _ _ _ _ _=>(o7 (i:=0) (by show List.Nodup [("ware" : Str)];decide +kernel) rfl (Or.inl rfl))) (fun _ _ _ _ _=>K8) (fun _ _ _ _ _=>(d9 B5 (o9 (t7 (K:=K)) (pv 0) a9 (fun _ _=>rfl)) (o9 (t7 (K:=K)) (pv 0) a9 (fun _ _=>rfl))))) c6)))),(n5 (a9p a8M.cb (c9 (a1B (a5d (by decide) (l9 (k:=1) (by decide)) C4 (b0 C9 (b0 y6 c8 b9) (b0 y6 c8 b9)))) g9)))⟩
def a2K:SF:=(E9 (M6 [0] (aC (D6 z9 0) aN) (eT (aC (eU A7 (eB p8 (D5 z8 1 (eV 0)) (eC (.int 1)))) (aC (eU A7 (eB p8 (D5 z8 1 (eV 0)) (eC (.int 0)))) (aC (eV 0) aN))))))
def l3:List D→Option R1:=fD 1 1 a2K
theorem a2h:FnScope ["wares"] ["wares"] (a7 r9):=⟨rfl,rfl,rfl,by decide +kernel,rfl,by decide +kernel,by decide +kernel⟩
theorem a2i{TB:List (Addr×Str)}{f:Addr}{fd:FuncData}(F:Fun K "by_height" "by_height" r9 f fd)(T:Txt K mg c)  {cc Pt:Addr} (hcode:fd.code=.ref cc) (hC:PySem.W.CodeHd base cc Pt) (hB:base.BuiltinsAt mg Pt) (hL:TB.lookup Pt=some "by_height.<locals>.<lambda>"):FnOk P w K mg base (r0 P w) 3 f fd ["wares"] (G9 TB (j1 K c l3)) :=
 F.okT (k:=2) a2h fun A outer s H E hT hr=>⟨_,(g8 (j6 (a13 (Nc:=["k","wares"]) (js:=[0]) (kn := "k") (q := "by_height.<locals>.<lambda>") hr rfl rfl T.z_sorted rfl T.z_range (a6 (t4 (p7 (K:=K)) rfl T.z_len K6 (a6 (pv 0) c6)) c6) rfl hcode hC hB rfl (hT _ _ hL) ⟨by decide +kernel,rfl,by decide +kernel,(by change ∀y∈Scope.names _,y.2=NameKind.free→(a7 r9).names.lookup y.1=some .cell∨(a7 r9).names.lookup y.1=some .free;decide +kernel),by decide +kernel,rfl,rfl,by decide +kernel⟩ rfl rfl (fun _ _ _ _ _=>rfl) rfl rfl (fun _ _ _ _=>(K5 (a6 (M9 F8 (o9 (t7 (K:=K)) (o9 (A6 (K:=K)) (pv 1) (pv 0) (fun _ _=>rfl)) a9 (fun _ _=>rfl))) (a6 (M9 F8 (o9 (t7 (K:=K)) (o9 (A6 (K:=K)) (pv 1) (pv 0) (fun _ _=>rfl)) a9 (fun _ _=>rfl))) (a6 (pv 0) c6)))))))),(Q0 (a2g (by decide) (c9 (S4 L7) g9) (Y5 (c9 (V2 G2 (b0 y6 (G1 G3 c8) b9)) (c9 (V2 G2 (b0 y6 (G1 G3 c8) b9)) (c9 c8 g9))))))⟩
def a4t:SF:=(E9 (M6 [0] (aC (D6 z9 0) aN) (eT (aC (eU A7 (g6 k8 (aC (zN (eL (aC (D5 z8 1 (eV 0)) aN))) aN))) (aC (eV 0) aN)))))
def u4:List D→Option R1:=fD 1 1 a4t
theorem a3v:FnScope ["wares"] ["wares"] (a7 w9):=⟨rfl,rfl,rfl,by decide +kernel,rfl,by decide +kernel,by decide +kernel⟩
theorem a3w{TB:List (Addr×Str)}{f:Addr}{fd:FuncData}(F:Fun K "by_area" "by_area" w9 f fd)(T:Txt K mg c)(G_area_of:Own P w K mg base 3 "area_of" ["wares"] (j1 K c k8)){cc Pt:Addr}(hcode:fd.code=.ref cc)(hC:PySem.W.CodeHd base cc Pt)(hB:base.BuiltinsAt mg Pt)(hL:TB.lookup Pt=some "by_area.<locals>.<lambda>"):FnOk P w K mg base (r0 P w) 8 f fd ["wares"] (G9 TB (j1 K c u4)) :=
 F.okT (k:=7) a3v fun A outer s H E hT hr=>⟨_,(g8 (j6 (a13 (Nc:=["k","wares"]) (js:=[0]) (kn := "k") (q := "by_area.<locals>.<lambda>") hr rfl rfl T.z_sorted rfl T.z_range (a6 (t4 (p7 (K:=K)) rfl T.z_len K6 (a6 (pv 0) c6)) c6) rfl hcode hC hB rfl (hT _ _ hL) ⟨by decide +kernel,rfl,by decide +kernel,(by change ∀y∈Scope.names _,y.2=NameKind.free→(a7 w9).names.lookup y.1=some .cell∨(a7 w9).names.lookup y.1=some .free;decide +kernel),by decide +kernel,rfl,rfl,by decide +kernel⟩ rfl rfl (fun _ _ _ _ _=>rfl) rfl rfl (fun _ _ _ _=>(K5 (a6 (M9 F8 (k7 G_area_of (((hr.in1).in1).deeper _) (by decide) j4 (a6 (a3L (a6 (o9 (A6 (K:=K)) (pv 1) (pv 0) (fun _ _=>rfl)) c6)) c6))) (a6 (pv 0) c6))))))),(Q0 (a2g (by decide) (c9 (S4 L7) g9) (Y5 (c9 (V2 G2 (i9 (c9 (a1B (a8w (c9 (G1 G3 c8) g9))) g9))) (c9 c8 g9)))))⟩
def X9:SF:=(d6 (w6 (bZ (eB gLt (eV 1) (D6 z9 0))) (k9 (D5 z8 0 (eV 1))) w4) (k9 (eC (.int 0))))
def k5:List D→Option R1:=fD 2 2 X9
theorem a2j:FnScope ["_law_script","_law_k"] ["_law_script","_law_k"] (a7 y9):=⟨rfl,rfl,rfl,by decide +kernel,rfl,by decide +kernel,by decide +kernel⟩
theorem a2k{f:Addr}{fd:FuncData}(F:Fun K "_law_cell_at" "_law_cell_at" y9 f fd)(T:Txt K mg c)  : FnOk P w K mg base (r0 P w) 3 f fd ["_law_script","_law_k"] (j1 K c k5) :=
 F.okD (k:=2) a2j fun cdv A outer s H E hr=>⟨_,(c7 (x3 (o8 a5S (pv 1) (t4 (p7 (K:=K)) rfl T.z_len K6 (a6 (pv 0) c6)) (n9 _)) (g8 (j6 (o9 (A6 (K:=K)) (pv 0) (pv 1) (fun _ _=>rfl)))) n6) (g8 (j6 a9))),(g5 (t6 (A1 (b0 a55 c8 (S4 L7))) (n5 (G1 G3 c8)) x8) (n5 b9))⟩
def a1n:SF:=(k9 (a48 (T2 0 "int") (a47 (T2 0 "bool"))))
def m7:List D→Option R1:=fD 1 1 a1n
theorem a3x:FnScope ["_law_found"] ["_law_found"] (a7 C7):=⟨rfl,rfl,rfl,by decide +kernel,rfl,by decide +kernel,by decide +kernel⟩
theorem a3y{f:Addr}{fd:FuncData}(F:Fun K "_law_whole" "_law_whole" C7 f fd)(T:Txt K mg c)  : FnOk P w K mg base (r0 P w) 3 f fd ["_law_found"] (j1 K c m7) :=
 F.okD (k:=2) a3x fun cdv A outer s H E hr=>⟨_,(g8 (j6 (a7L (t4 (U6 (K:=K)) rfl T.z_isinstance G5 (a6 (pv 0) (a6 (a0y (v:=.ty "int") rfl T.z_int a79 rfl) c6))) (a7K (a7M (t4 (U6 (K:=K)) rfl T.z_isinstance G5 (a6 (pv 0) (a6 (a0y (v:=.ty "bool") rfl T.z_bool a6s rfl) c6)))))))),(n5 (a8y a0W (a8x a0W)))⟩
def a2l:SF:=(d6 (v7 1 (eB L5 (eV 0) (eC (.int 5)))) (d6 (w6 (bZ (eB (A9 false) (eB m8 (eV 0) (eC (.int 5))) (eC (.int 1)))) (k9 (eB A8 (eC (.int 1)) (eB m8 (eB r8 (eV 1) (eB a0N (eC (.int 7919)) (eC (.int 11)))) (eB a0N (eC (.int 10)) (eC (.int 40)))))) w4) (d6 (w6 (bZ (eB (A9 false) (eB m8 (eV 0) (eC (.int 5))) (eC (.int 2)))) (k9 (eB a0m (eB a0N (eC (.int 10)) (eC (.int 40))) (eB m8 (eV 1) (eC (.int 3))))) w4) (d6 (w6 (bZ (eB (A9 false) (eB m8 (eV 0) (eC (.int 5))) (eC (.int 3)))) (k9 (eB A8 (eC (.int 1)) (eB m8 (eV 1) (eC (.int 1009))))) w4) (k9 (eB A8 (eC (.int 1)) (eB m8 (eV 1) (eC (.int 7)))))))))
def B2:List D→Option R1:=fD 2 1 a2l
theorem a1o:FnScope ["_law_cell","_law_rest"] ["_law_cell"] (a7 E4):=⟨rfl,rfl,rfl,by decide +kernel,rfl,by decide +kernel,by decide +kernel⟩
theorem a4u{f:Addr}{fd:FuncData}(F:Fun K "_law_side" "_law_side" E4 f fd)(T:Txt K mg c)  : FnOk P w K mg base (r0 P w) 3 f fd ["_law_cell"] (j1 K c B2) :=
 F.okD (k:=2) a1o fun cdv A outer s H E hr=>⟨_,(c7 (l4 (i:=1) a1o.nd rfl (Or.inl rfl) (d9 D8 (pv 0) a9)) (c7 (x3 (o8 N0 (d9 l5 (pv 0) a9) a9 (n9 _)) (g8 (j6 (d9 C1 a9 (d9 l5 (d9 B5 (pv 1) (d9 Z6 a9 a9)) (d9 Z6 a9 a9))))) n6) (c7 (x3 (o8 N0 (d9 l5 (pv 0) a9) a9 (n9 _)) (g8 (j6 (d9 a3I (d9 Z6 a9 a9) (d9 l5 (pv 1) a9)))) n6) (c7 (x3 (o8 N0 (d9 l5 (pv 0) a9) a9 (n9 _)) (g8 (j6 (d9 C1 a9 (d9 l5 (pv 1) a9)))) n6) (g8 (j6 (d9 C1 a9 (d9 l5 (pv 1) a9)))))))),(g5 (B0 (b0 P8 c8 b9)) (g5 (t6 (A1 (b0 O2 (b0 l7 c8 b9) b9)) (n5 (b0 C2 b9 (b0 l7 (b0 C9 c8 (b0 a0n b9 b9)) (b0 a0n b9 b9)))) x8) (g5 (t6 (A1 (b0 O2 (b0 l7 c8 b9) b9)) (n5 (b0 a4a (b0 a0n b9 b9) (b0 l7 c8 b9))) x8) (g5 (t6 (A1 (b0 O2 (b0 l7 c8 b9) b9)) (n5 (b0 C2 b9 (b0 l7 c8 b9))) x8) (n5 (b0 C2 b9 (b0 l7 c8 b9)))))))⟩
def a2m:SF:=(d6 (v7 1 (eB m8 (eV 0) (eB a0N (eC (.int 10)) (eC (.int 60))))) (d6 (v7 2 (eB m8 (eB A8 (eB r8 (eV 1) (eC (.int 48271))) (eC (.int 29))) (eC (.int 2147483647)))) (d6 (L8 3 B2 (aC (eV 1) aN)) (d6 (L8 4 B2 (aC (eB L5 (eV 2) (eC (.int 12))) aN)) (d6 (w6 (bZ (eB (A9 false) (eB m8 (eV 2) (eC (.int 4))) (eC (.int 1)))) (v7 4 (eV 3)) w4) (d6 (w6 (bZ (eB (A9 false) (eB m8 (eV 2) (eC (.int 4))) (eC (.int 2)))) (L8 4 B2 (aC (eB A8 (eB r8 (eV 1) (eC (.int 69621))) (eC (.int 3))) aN)) w4) (k9 (eT (aC (eV 3) (aC (eV 4) (aC (eB gGt (eB m8 (eB L5 (eV 2) (eC (.int 4))) (eC (.int 3))) (eC (.int 0))) aN)))))))))))
def p9:List D→Option R1:=fD 5 1 a2m
theorem B3:FnScope ["_law_cell","_law_number","_law_mix","_law_w","_law_h"] ["_law_cell"] (a7 E5):=⟨rfl,rfl,rfl,by decide +kernel,rfl,by decide +kernel,by decide +kernel⟩
theorem a4v{f:Addr}{fd:FuncData}(F:Fun K "_law_ware" "_law_ware" E5 f fd)(T:Txt K mg c)(G_l_side:Own P w K mg base 3 "_law_side" ["_law_cell"] (j1 K c B2)):FnOk P w K mg base (r0 P w) 5 f fd ["_law_cell"] (j1 K c p9) :=
 F.okD (k:=4) B3 fun cdv A outer s H E hr=>⟨_,(c7 (l4 (i:=1) B3.nd rfl (Or.inl rfl) (d9 l5 (pv 0) (d9 Z6 a9 a9))) (c7 (l4 (i:=2) B3.nd rfl (Or.inl rfl) (d9 l5 (d9 C1 (d9 B5 (pv 1) a9) a9) a9)) (c7 (l4 (i:=3) B3.nd rfl (Or.inl rfl) (k7 G_l_side hr (by decide) j4 (a6 (pv 1) c6))) (c7 (l4 (i:=4) B3.nd rfl (Or.inl rfl) (k7 G_l_side hr (by decide) j4 (a6 (d9 D8 (pv 2) a9) c6))) (c7 (x3 (o8 N0 (d9 l5 (pv 2) a9) a9 (n9 _)) (g8 (l4 (i:=4) B3.nd rfl (Or.inl rfl) (pv 3))) n6) (c7 (x3 (o8 N0 (d9 l5 (pv 2) a9) a9 (n9 _)) (g8 (l4 (i:=4) B3.nd rfl (Or.inl rfl) (k7 G_l_side hr (by decide) j4 (a6 (d9 C1 (d9 B5 (pv 1) a9) a9) c6)))) n6) (g8 (j6 (K5 (a6 (pv 3) (a6 (pv 4) (a6 (a0B a9g (d9 l5 (d9 D8 (pv 2) a9) a9) a9 (n9 _)) c6)))))))))))),(g5 (B0 (b0 l7 c8 (b0 a0n b9 b9))) (g5 (B0 (b0 l7 (b0 C2 (b0 C9 c8 b9) b9) b9)) (g5 (S5 (c9 c8 g9)) (g5 (S5 (c9 (b0 P8 c8 b9) g9)) (g5 (t6 (A1 (b0 O2 (b0 l7 c8 b9) b9)) (B0 c8) x8) (g5 (t6 (A1 (b0 O2 (b0 l7 c8 b9) b9)) (S5 (c9 (b0 C2 (b0 C9 c8 b9) b9) g9)) x8) (n5 (Y5 (c9 c8 (c9 c8 (c9 (b0 a9q (b0 l7 (b0 P8 c8 b9) b9) b9) g9)))))))))))⟩
def a3z:SF:=(d6 (u0 2 (eL aN)) (d6 (v7 3 (eB m8 (eV 0) (eC (.int 2147483647)))) (d6 (S7 a0Q (aC (eV 1) aN) (i7 4) (d6 (v7 3 (eB m8 (eB A8 (eB A8 (eB r8 (eV 3) (eC (.int 69621))) (eB r8 (eB r8 (eV 4) (eV 4)) (eC (.int 7919)))) (eC (.int 48271))) (eC (.int 2147483647)))) (Y7 2 (eV 3)))) (a0q 2))))
def C0:List D→Option R1:=fD 5 2 a3z
theorem C3:FnScope ["_law_cell","_law_many","_law_found","_law_number","_law_k"] ["_law_cell","_law_many"] (a7 B9):=⟨rfl,rfl,rfl,by decide +kernel,rfl,by decide +kernel,by decide +kernel⟩
theorem a2L{f:Addr}{fd:FuncData}(F:Fun K "_law_stream" "_law_stream" B9 f fd)(T:Txt K mg c)  : FnOk P w K mg base (r0 P w) 3 f fd ["_law_cell","_law_many"] (j1 K c C0) :=
 F.okD (k:=2) C3 fun cdv A outer s H E hr=>⟨_,(c7 (l4 (i:=2) C3.nd rfl (Or.inl rfl) (a3L c6)) (c7 (l4 (i:=3) C3.nd rfl (Or.inl rfl) (d9 l5 (pv 0) a9)) (c7 (Z5 PassesOwn.leaving rfl (a3E rfl T.z_range (a6 (pv 1) c6)) (o7 (i:=4) C3.nd rfl (Or.inl rfl)) (c7 (l4 (i:=3) C3.nd rfl (Or.inl rfl) (d9 l5 (d9 C1 (d9 C1 (d9 B5 (pv 3) a9) (d9 B5 (d9 B5 (pv 4) (pv 4)) a9)) a9) a9)) (g8 (P5 (a3U (K:=K) PySem.F.plainAttrs_list PySem.F.slot_list_append PySem.F.type_list_append U5 (pv 2) (a6 (pv 3) c6)))))) (g8 (j6 (pv 2)))))),(g5 (P9 (a8w g9)) (g5 (B0 (b0 l7 c8 b9)) (g5 (a5b (c9 c8 g9) (l9 (k:=5) (by decide)) (g5 (B0 (b0 l7 (b0 C2 (b0 C2 (b0 C9 c8 b9) (b0 C9 (b0 C9 c8 c8) b9)) b9) b9)) (a4c c8))) a6F)))⟩
def a4w:SF:=(d6 (v7 1 (eB m8 (g6 k5 (aC (eV 0) (aC (eC (.int 0)) aN))) (eC (.int 3)))) (d6 (w6 (bZ (eB (A9 false) (eV 1) (eC (.int 1)))) (d6 (v7 2 (eB m8 (eB L5 (g6 k5 (aC (eV 0) (aC (eC (.int 0)) aN))) (eC (.int 3))) (eC (.int 101)))) (E9 (S9 1 [] (g6 C0 (aC (g6 k5 (aC (eV 0) (aC (eC (.int 1)) aN))) (aC (eV 2) aN))) (i7 0) x9 (g6 p9 (aC (eV 0) aN))))) w4) (d6 (w6 (bZ (eB (A9 false) (eV 1) (eC (.int 2)))) (E9 (S9 1 [] (zN (a0X 0 (oS (eC (.int 1))) (oS (eC (.int 61))))) (i7 0) x9 (eT (aC (eB A8 (eC (.int 1)) (eB m8 (eV 0) (eC (.int 3)))) (aC (eB A8 (eC (.int 1)) (eB m8 (eB L5 (eV 0) (eC (.int 3))) (eC (.int 3)))) (aC (eB (A9 false) (eB m8 (eB L5 (eV 0) (eC (.int 9))) (eC (.int 2))) (eC (.int 1))) aN)))))) w4) (E9 (S9 1 [] (zN (a0X 0 (oS (eC (.int 1))) (oS (eC (.int 61))))) (i7 0) x9 (g6 p9 (aC (eV 0) aN)))))))
def B4:List D→Option R1:=fD 3 1 a4w
theorem T6:FnScope ["_law_script","_law_kind","_law_many"] ["_law_script"] (a7 m5):=⟨rfl,rfl,rfl,by decide +kernel,rfl,by decide +kernel,by decide +kernel⟩
theorem a3A{f:Addr}{fd:FuncData}(F:Fun K "_law_wares" "_law_wares" m5 f fd)(T:Txt K mg c)(G_l_cell_at:Own P w K mg base 3 "_law_cell_at" ["_law_script","_law_k"] (j1 K c k5))(G_l_ware:Own P w K mg base 5 "_law_ware" ["_law_cell"] (j1 K c p9))(G_l_stream:Own P w K mg base 3 "_law_stream" ["_law_cell","_law_many"] (j1 K c C0)):FnOk P w K mg base (r0 P w) 7 f fd ["_law_script"] (j1 K c B4) :=
 F.okD (k:=6) T6 fun cdv A outer s H E hr=>⟨_,(c7 (l4 (i:=1) T6.nd rfl (Or.inl rfl) (d9 l5 (k7 G_l_cell_at hr (by decide) j4 (a6 (pv 0) (a6 a9 c6))) a9)) (c7 (x3 (o8 N0 (pv 1) a9 (n9 _)) (c7 (l4 (i:=2) T6.nd rfl (Or.inl rfl) (d9 l5 (d9 D8 (k7 G_l_cell_at hr (by decide) j4 (a6 (pv 0) (a6 a9 c6))) a9) a9)) (g8 (j6 (W3 (Nc:=["_law_number"]) (k:=1) (js:=[]) rfl ⟨by decide +kernel,rfl,by decide +kernel,(by change ∀y∈Scope.names _,y.2=NameKind.free→(a7 m5).names.lookup y.1=some .cell∨(a7 m5).names.lookup y.1=some .free;decide +kernel),by decide +kernel,rfl,rfl,by decide +kernel⟩ (K0 (k7 G_l_stream hr (by decide) j4 (a6 (k7 G_l_cell_at hr (by decide) j4 (a6 (pv 0) (a6 a9 c6))) (a6 (pv 2) c6)))) (fun _ _ _ _ _=>(o7 (i:=0) (by show List.Nodup [("_law_number" : Str)];decide +kernel) rfl (Or.inl rfl))) (fun _ _ _ _ _=>K8) (fun _ _ _ _ _=>(k7 G_l_ware hr (by decide) j4 (a6 (pv 0) c6))))))) n6) (c7 (x3 (o8 N0 (pv 1) a9 (n9 _)) (g8 (j6 (W3 (Nc:=["_law_cell"]) (k:=1) (js:=[]) rfl ⟨by decide +kernel,rfl,by decide +kernel,(by change ∀y∈Scope.names _,y.2=NameKind.free→(a7 m5).names.lookup y.1=some .cell∨(a7 m5).names.lookup y.1=some .free;decide +kernel),by decide +kernel,rfl,rfl,by decide +kernel⟩ (K0 (a1M (a1W (K:=K)) (pv 0) (W2 a9) (W2 a9))) (fun _ _ _ _ _=>(o7 (i:=0) (by show List.Nodup [("_law_cell" : Str)];decide +kernel) rfl (Or.inl rfl))) (fun _ _ _ _ _=>K8) (fun _ _ _ _ _=>(K5 (a6 (d9 C1 a9 (d9 l5 (pv 0) a9)) (a6 (d9 C1 a9 (d9 l5 (d9 D8 (pv 0) a9) a9)) (a6 (a0B N0 (d9 l5 (d9 D8 (pv 0) a9) a9) a9 (n9 _)) c6)))))))) n6) (g8 (j6 (W3 (Nc:=["_law_cell"]) (k:=1) (js:=[]) rfl ⟨by decide +kernel,rfl,by decide +kernel,(by change ∀y∈Scope.names _,y.2=NameKind.free→(a7 m5).names.lookup y.1=some .cell∨(a7 m5).names.lookup y.1=some .free;decide +kernel),by decide +kernel,rfl,rfl,by decide +kernel⟩ (K0 (a1M (a1W (K:=K)) (pv 0) (W2 a9) (W2 a9))) (fun _ _ _ _ _=>(o7 (i:=0) (by show List.Nodup [("_law_cell" : Str)];decide +kernel) rfl (Or.inl rfl))) (fun _ _ _ _ _=>K8) (fun _ _ _ _ _=>(k7 G_l_ware hr (by decide) j4 (a6 (pv 0) c6))))))))),(g5 (B0 (b0 l7 (i9 (c9 c8 (c9 b9 g9))) b9)) (g5 (t6 (A1 (b0 O2 c8 b9)) (g5 (B0 (b0 l7 (b0 P8 (i9 (c9 c8 (c9 b9 g9))) b9) b9)) (Q0 (a0V (by decide) (i9 (c9 (i9 (c9 c8 (c9 b9 g9))) (c9 c8 g9))) (l9 (k:=1) (by decide)) C4 (i9 (c9 c8 g9))))) x8) (g5 (t6 (A1 (b0 O2 c8 b9)) (Q0 (a0V (by decide) (a1B (a4m (a1F b9) (a1F b9))) (l9 (k:=1) (by decide)) C4 (Y5 (c9 (b0 C2 b9 (b0 l7 c8 b9)) (c9 (b0 C2 b9 (b0 l7 (b0 P8 c8 b9) b9)) (c9 (b0 O2 (b0 l7 (b0 P8 c8 b9) b9) b9) g9)))))) x8) (Q0 (a0V (by decide) (a1B (a4m (a1F b9) (a1F b9))) (l9 (k:=1) (by decide)) C4 (i9 (c9 c8 g9)))))))⟩
def a2M:SF:=(d6 (w6 (J0 (v5 (bZ (T2 0 "list"))) (bZ (eB (A9 true) (D6 z9 0) (D6 z9 1)))) (k9 (eC (.bl false))) w4) (d6 (W6 0 (i7 2) (w6 (J0 (v5 (bZ (g6 m7 (aC (eV 2) aN)))) (J0 (bZ (eB gLt (eV 2) (eC (.int 0)))) (bZ (eB gGe (eV 2) (D6 z9 1))))) (k9 (eC (.bl false))) w4)) (d6 (S7 a0R (aC (eC (.int 1)) (aC (D6 z9 0) aN)) (i7 3) (w6 (v5 (bZ (eB a02 (D5 z8 1 (D5 z8 0 (eB a0m (eV 3) (eC (.int 1))))) (D5 z8 1 (D5 z8 0 (eV 3)))))) (k9 (eC (.bl false))) w4)) (k9 (eC (.bl true))))))
def j5:List D→Option R1:=fD 4 2 a2M
theorem M7:FnScope ["_law_found","_law_ranks","_law_k","_law_at"] ["_law_found","_law_ranks"] (a7 z0):=⟨rfl,rfl,rfl,by decide +kernel,rfl,by decide +kernel,by decide +kernel⟩
theorem a2n{f:Addr}{fd:FuncData}(F:Fun K "_law_ordered" "_law_ordered" z0 f fd)(T:Txt K mg c)(G_l_whole:Own P w K mg base 3 "_law_whole" ["_law_found"] (j1 K c m7)):FnOk P w K mg base (r0 P w) 5 f fd ["_law_found","_law_ranks"] (j1 K c j5) :=
 F.okD (k:=4) M7 fun cdv A outer s H E hr=>⟨_,(c7 (x3 (PW.pt (Q7 (C8 (F7 (t4 (U6 (K:=K)) rfl T.z_isinstance G5 (a6 (pv 0) (a6 (a0y (v:=.ty "list") rfl T.z_list a2T rfl) c6))))) (P4 (o8 a3b (t4 (p7 (K:=K)) rfl T.z_len K6 (a6 (pv 0) c6)) (t4 (p7 (K:=K)) rfl T.z_len K6 (a6 (pv 1) c6)) (n9 _))))) (g8 (j6 M8)) n6) (c7 (Z5 PassesOwn.leaving rfl (K0 (pv 0)) (o7 (i:=2) M7.nd rfl (Or.inl rfl)) (g8 (x3 (PW.pt (Q7 (C8 (F7 (k7 G_l_whole hr (by decide) j4 (a6 (pv 2) c6)))) (Q7 (o8 a5S (pv 2) a9 (n9 _)) (P4 (o8 a9h (pv 2) (t4 (p7 (K:=K)) rfl T.z_len K6 (a6 (pv 1) c6)) (n9 _)))))) (g8 (j6 M8)) n6))) (c7 (Z5 PassesOwn.leaving rfl (a3F rfl T.z_range (a6 a9 (a6 (t4 (p7 (K:=K)) rfl T.z_len K6 (a6 (pv 0) c6)) c6))) (o7 (i:=3) M7.nd rfl (Or.inl rfl)) (g8 (x3 (C8 (o8 (a6t (K:=K) (Nat.lt_of_le_of_lt (Nat.le_add_right _ _) (a8O hr))) (o9 (A6 (K:=K)) (pv 1) (o9 (A6 (K:=K)) (pv 0) (d9 a3I (pv 3) a9) (fun _ _=>rfl)) (fun _ _=>rfl)) (o9 (A6 (K:=K)) (pv 1) (o9 (A6 (K:=K)) (pv 0) (pv 3) (fun _ _=>rfl)) (fun _ _=>rfl)) (n9 _))) (g8 (j6 M8)) n6))) (g8 (j6 M8))))),(g5 (t6 (L4 (B8 (J5 a0W)) (A1 (b0 a3h (S4 L7) (S4 L7)))) (n5 b9) x8) (g5 (a24 (l9 (k:=4) (by decide)) (t6 (L4 (B8 (J5 (i9 (c9 c8 g9)))) (L4 (A1 (b0 a55 c8 b9)) (A1 (b0 a9r c8 (S4 L7))))) (n5 b9) x8)) (g5 (a5c (c9 b9 (c9 (S4 L7) g9)) (l9 (k:=4) (by decide)) (t6 (B8 (A1 (b0 a8Y (G1 G3 (G1 G3 (b0 a4a c8 b9))) (G1 G3 (G1 G3 c8))))) (n5 b9) x8)) (n5 b9))))⟩
def a9t:SF:=(d6 (L8 1 B4 (aC (eV 0) aN)) (d6 (u0 2 (nCV a0o 1)) (d6 (u0 3 (Q6 1 2 [] (Y8 [(i7 0),(i7 1)]) x9 (eT (aC (eU A7 (eB p8 (eV 1) (eC (.int 1)))) (aC (eU A7 (eB p8 (eV 1) (eC (.int 0)))) (aC (eV 0) aN)))))) (d6 (u0 4 (Q6 1 2 [] (Y8 [(i7 0),(i7 1)]) x9 (eT (aC (eU A7 (eB r8 (eB p8 (eV 1) (eC (.int 0))) (eB p8 (eV 1) (eC (.int 1))))) (aC (eV 0) aN))))) (d6 (v7 5 (eC (.int 0))) (d6 (W6 1 (i7 6) (v7 5 (eB A8 (eV 5) (eB r8 (eB p8 (eV 6) (eC (.int 0))) (eB p8 (eV 6) (eC (.int 1))))))) (d6 (u0 7 (W9 (Q3 l3 (aC (eV 2) aN)))) (d6 (u0 8 (W9 (Q3 u4 (aC (eV 2) aN)))) (d6 (v7 9 (a0t (g6 k8 (aC (eV 2) aN)))) (d6 (w6 (J0 (v5 (bZ (g6 m7 (aC (eV 9) aN)))) (bZ (eB (A9 true) (eV 9) (eV 5)))) (k9 (eC (.bl false))) w4) (d6 (w6 (J8 (J0 (v5 (bZ (g6 j5 (aC (eV 7) (aC (eV 3) aN))))) (v5 (bZ (g6 j5 (aC (eV 8) (aC (eV 4) aN))))))) (k9 (eC (.bl false))) w4) (d6 (Y7 7 (eC (.int 0))) (d6 (B1 8 fun _=>[]) (d6 (w6 (J8 (J0 (v5 (bZ (g6 j5 (aC (g6 u4 (aC (eV 2) aN)) (aC (eV 4) aN))))) (v5 (bZ (g6 j5 (aC (g6 l3 (aC (eV 2) aN)) (aC (eV 3) aN))))))) (k9 (eC (.bl false))) w4) (d6 (B1 2 fun ds=>ds.reverse) (d6 (u0 10 (Q6 2 2 [] (Y8 [(i7 0),(i7 1)]) x9 (eT (aC (eU A7 (eB p8 (eV 1) (eC (.int 1)))) (aC (eU A7 (eB p8 (eV 1) (eC (.int 0)))) (aC (eV 0) aN)))))) (d6 (w6 (J8 (J0 (v5 (bZ (g6 j5 (aC (g6 l3 (aC (eV 2) aN)) (aC (eV 10) aN))))) (bZ (eB (A9 true) (g6 k8 (aC (eV 2) aN)) (eV 5))))) (k9 (eC (.bl false))) w4) (d6 (B1 2 fun ds=>ds.reverse) (k9 (a14 (Z1 false) 2 1))))))))))))))))))))
def a6a:List D→Option R1:=fD 11 1 a9t
theorem y8:FnScope ["_law_script","_law_wares_here","_law_handed","_law_heights","_law_areas","_law_total","_law_ware_here","_law_one","_law_other","_law_area","_law_turned"] ["_law_script"] (a7 v3):=⟨rfl,rfl,rfl,by decide +kernel,rfl,by decide +kernel,by decide +kernel⟩
theorem a7C{TB:List (Addr×Str)}{f:Addr}{fd:FuncData}(F:Fun K "law" "law" v3 f fd)(T:Txt K mg c)(G_l_wares:Own P w K mg base 7 "_law_wares" ["_law_script"] (j1 K c B4))(G_by_height:Own P w K mg base 3 "by_height" ["wares"] (G9 TB (j1 K c l3)))(G_by_area:Own P w K mg base 8 "by_area" ["wares"] (G9 TB (j1 K c u4)))(G_area_of:Own P w K mg base 3 "area_of" ["wares"] (j1 K c k8))(G_l_whole:Own P w K mg base 3 "_law_whole" ["_law_found"] (j1 K c m7))(G_l_ordered:Own P w K mg base 5 "_law_ordered" ["_law_found","_law_ranks"] (j1 K c j5)):FnOk P w K mg base (r0 P w) 10 f fd ["_law_script"] (G9 TB (j1 K c a6a)) :=
 F.okT (k:=9) y8 fun A outer s H E hT hr=>⟨_,(c7 (l4 (i:=1) y8.nd rfl (Or.inl rfl) (k7 G_l_wares hr (by decide) j4 (a6 (pv 0) c6))) (c7 (l4 (i:=2) y8.nd rfl (Or.inl rfl) (a1e (a1t (K:=K)) rfl T.z_list a2T (a6 (pv 1) c6))) (c7 (R0 (i:=3) (Nc:=["_law_k","_law_ware_here"]) (k:=2) (js:=[]) rfl ⟨by decide +kernel,rfl,by decide +kernel,(by change ∀y∈Scope.names _,y.2=NameKind.free→(a7 v3).names.lookup y.1=some .cell∨(a7 v3).names.lookup y.1=some .free;decide +kernel),by decide +kernel,rfl,rfl,by decide +kernel⟩ y8.nd rfl (a0H rfl T.z_enumerate (a6 (pv 1) c6)) (fun _ _ _ _ _=>(a0I (K:=K) (n:=2) rfl (D7 (o7 (i:=0) (by show List.Nodup [("_law_k" : Str),("_law_ware_here" : Str)];decide +kernel) rfl (Or.inl rfl)) (D7 (o7 (i:=1) (by show List.Nodup [("_law_k" : Str),("_law_ware_here" : Str)];decide +kernel) rfl (Or.inl rfl)) a0z)))) (fun _ _ _ _ _=>K8) (fun _ _ _ _ _=>(K5 (a6 (M9 F8 (o9 (t7 (K:=K)) (pv 1) a9 (fun _ _=>rfl))) (a6 (M9 F8 (o9 (t7 (K:=K)) (pv 1) a9 (fun _ _=>rfl))) (a6 (pv 0) c6)))))) (c7 (R0 (i:=4) (Nc:=["_law_k","_law_ware_here"]) (k:=2) (js:=[]) rfl ⟨by decide +kernel,rfl,by decide +kernel,(by change ∀y∈Scope.names _,y.2=NameKind.free→(a7 v3).names.lookup y.1=some .cell∨(a7 v3).names.lookup y.1=some .free;decide +kernel),by decide +kernel,rfl,rfl,by decide +kernel⟩ y8.nd rfl (a0H rfl T.z_enumerate (a6 (pv 1) c6)) (fun _ _ _ _ _=>(a0I (K:=K) (n:=2) rfl (D7 (o7 (i:=0) (by show List.Nodup [("_law_k" : Str),("_law_ware_here" : Str)];decide +kernel) rfl (Or.inl rfl)) (D7 (o7 (i:=1) (by show List.Nodup [("_law_k" : Str),("_law_ware_here" : Str)];decide +kernel) rfl (Or.inl rfl)) a0z)))) (fun _ _ _ _ _=>K8) (fun _ _ _ _ _=>(K5 (a6 (M9 F8 (d9 B5 (o9 (t7 (K:=K)) (pv 1) a9 (fun _ _=>rfl)) (o9 (t7 (K:=K)) (pv 1) a9 (fun _ _=>rfl)))) (a6 (pv 0) c6))))) (c7 (l4 (i:=5) y8.nd rfl (Or.inl rfl) a9) (c7 (Z5 PassesOwn.leaving rfl (K0 (pv 1)) (o7 (i:=6) y8.nd rfl (Or.inl rfl)) (g8 (l4 (i:=5) y8.nd rfl (Or.inl rfl) (d9 C1 (pv 5) (d9 B5 (o9 (t7 (K:=K)) (pv 6) a9 (fun _ _=>rfl)) (o9 (t7 (K:=K)) (pv 6) a9 (fun _ _=>rfl))))))) (c7 (l4 (i:=7) y8.nd rfl (Or.inl rfl) (Q5 hT G_by_height hr (by decide) j4 (a6 (pv 2) c6))) (c7 (l4 (i:=8) y8.nd rfl (Or.inl rfl) (Q5 hT G_by_area hr (by decide) j4 (a6 (pv 2) c6))) (c7 (l4 (i:=9) y8.nd rfl (Or.inl rfl) (k7 G_area_of hr (by decide) j4 (a6 (pv 2) c6))) (c7 (x3 (PW.pt (Q7 (C8 (F7 (k7 G_l_whole hr (by decide) j4 (a6 (pv 9) c6)))) (P4 (o8 a3b (pv 9) (pv 5) (n9 _))))) (g8 (j6 M8)) n6) (c7 (x3 (PW.pt (Q7 (C8 (F7 (k7 G_l_ordered hr (by decide) j4 (a6 (pv 7) (a6 (pv 3) c6))))) (P4 (C8 (F7 (k7 G_l_ordered hr (by decide) j4 (a6 (pv 8) (a6 (pv 4) c6)))))))) (g8 (j6 M8)) n6) (c7 (P5 (a3U (K:=K) PySem.F.plainAttrs_list PySem.F.slot_list_append PySem.F.type_list_append U5 (pv 7) (a6 a9 c6))) (c7 (P5 (a0J (K:=K) PySem.F.plainAttrs_list PySem.F.slot_list_clear PySem.F.type_list_clear a4T (pv 8))) (c7 (x3 (PW.pt (Q7 (C8 (F7 (k7 G_l_ordered hr (by decide) j4 (a6 (Q5 hT G_by_area hr (by decide) j4 (a6 (pv 2) c6)) (a6 (pv 4) c6))))) (P4 (C8 (F7 (k7 G_l_ordered hr (by decide) j4 (a6 (Q5 hT G_by_height hr (by decide) j4 (a6 (pv 2) c6)) (a6 (pv 3) c6)))))))) (g8 (j6 M8)) n6) (c7 (P5 (a0J (K:=K) PySem.F.plainAttrs_list PySem.F.slot_list_reverse PySem.F.type_list_reverse Z9 (pv 2))) (c7 (R0 (i:=10) (Nc:=["_law_k","_law_ware_here"]) (k:=2) (js:=[]) rfl ⟨by decide +kernel,rfl,by decide +kernel,(by change ∀y∈Scope.names _,y.2=NameKind.free→(a7 v3).names.lookup y.1=some .cell∨(a7 v3).names.lookup y.1=some .free;decide +kernel),by decide +kernel,rfl,rfl,by decide +kernel⟩ y8.nd rfl (a0H rfl T.z_enumerate (a6 (pv 2) c6)) (fun _ _ _ _ _=>(a0I (K:=K) (n:=2) rfl (D7 (o7 (i:=0) (by show List.Nodup [("_law_k" : Str),("_law_ware_here" : Str)];decide +kernel) rfl (Or.inl rfl)) (D7 (o7 (i:=1) (by show List.Nodup [("_law_k" : Str),("_law_ware_here" : Str)];decide +kernel) rfl (Or.inl rfl)) a0z)))) (fun _ _ _ _ _=>K8) (fun _ _ _ _ _=>(K5 (a6 (M9 F8 (o9 (t7 (K:=K)) (pv 1) a9 (fun _ _=>rfl))) (a6 (M9 F8 (o9 (t7 (K:=K)) (pv 1) a9 (fun _ _=>rfl))) (a6 (pv 0) c6)))))) (c7 (x3 (PW.pt (Q7 (C8 (F7 (k7 G_l_ordered hr (by decide) j4 (a6 (Q5 hT G_by_height hr (by decide) j4 (a6 (pv 2) c6)) (a6 (pv 10) c6))))) (P4 (o8 a3b (k7 G_area_of hr (by decide) j4 (a6 (pv 2) c6)) (pv 5) (n9 _))))) (g8 (j6 M8)) n6) (c7 (P5 (a0J (K:=K) PySem.F.plainAttrs_list PySem.F.slot_list_reverse PySem.F.type_list_reverse Z9 (pv 2))) (g8 (j6 (a0B (a7o (K:=K) (cl:=c) (a8O hr)) (pv 2) (pv 1) (n9 _)))))))))))))))))))))),(g5 (S5 (c9 c8 g9)) (g5 (P9 (a8C a6D)) (g5 (T1 (V8 (by decide) (a0P (E2 (l9 (k:=2) (by decide)) (E2 (l9 (k:=2) (by decide)) a0O)) rfl) C4 (Y5 (c9 (V2 G2 (b0 y6 c8 b9)) (c9 (V2 G2 (b0 y6 c8 b9)) (c9 c8 g9)))))) (g5 (T1 (V8 (by decide) (a0P (E2 (l9 (k:=2) (by decide)) (E2 (l9 (k:=2) (by decide)) a0O)) rfl) C4 (Y5 (c9 (V2 G2 (b0 C9 (b0 y6 c8 b9) (b0 y6 c8 b9))) (c9 c8 g9))))) (g5 (B0 b9) (g5 (a24 (l9 (k:=11) (by decide)) (B0 (b0 C2 c8 (b0 C9 (b0 y6 c8 b9) (b0 y6 c8 b9))))) (g5 (P9 (a2c (a1m (c9 c8 g9)))) (g5 (P9 (a2c (a1m (c9 c8 g9)))) (g5 (B0 (a5n (i9 (c9 c8 g9)))) (g5 (t6 (L4 (B8 (J5 (i9 (c9 c8 g9)))) (A1 (b0 a3h c8 c8))) (n5 b9) x8) (g5 (t6 (Z2 (L4 (B8 (J5 (i9 (c9 c8 (c9 c8 g9))))) (B8 (J5 (i9 (c9 c8 (c9 c8 g9))))))) (n5 b9) x8) (g5 (a4c b9) (g5 a5l (g5 (t6 (Z2 (L4 (B8 (J5 (i9 (c9 (i9 (c9 c8 g9)) (c9 c8 g9))))) (B8 (J5 (i9 (c9 (i9 (c9 c8 g9)) (c9 c8 g9))))))) (n5 b9) x8) (g5 a0u (g5 (T1 (V8 (by decide) (a0P (E2 (l9 (k:=2) (by decide)) (E2 (l9 (k:=2) (by decide)) a0O)) rfl) C4 (Y5 (c9 (V2 G2 (b0 y6 c8 b9)) (c9 (V2 G2 (b0 y6 c8 b9)) (c9 c8 g9)))))) (g5 (t6 (Z2 (L4 (B8 (J5 (i9 (c9 (i9 (c9 c8 g9)) (c9 c8 g9))))) (A1 (b0 a3h (i9 (c9 c8 g9)) c8)))) (n5 b9) x8) (g5 a0u (n5 (a6A a8Q))))))))))))))))))))⟩
end Law
namespace Law
open PySem L2 PyProof.Rows
variable {P:Program}{w:World}{K:PySem.W.Frag}{mg:Str→Option Value}{base:Heap}{c:Str→Addr}
local macro_rules|`(tactic|walk_at $s:str)=>do
 let t←`(tactic|simp(decide:=true)only[*,a9s,a6L,a6M,a6N,a6O,a6Y,a6P,a6Q,a6R,a6S,a5e,a6T,a6U,a8I,a5f,a5g,a4g,a4h,a5h,a3m,a3n,a4i,a4j,a4k,a5i,a3o,a3p,a6V,a6W,a6Z,a6X,a60,a5j,a61,a62,a63,a64,a66,a65,a67,a5k,a1k,C6,a7u,a7v,a7w,a7x,a7z,a7y,a1l,a4n,a0s,i3,S8,S9,V4,a5o,a8T,a8U,a5p,a8V,a8W,y4,a7p,a7q,a7r,a7s,noL,noLs,a0X,oS,a19,W6,unhide,a4l,a7d,a7a,a7b,a7c,a68,a69,a6_,a3i,L6,Z1,j8,A0,d7,p5,D1,A2,F5,Nat.max_self,Nat.zero_max,Nat.max_zero,decide_true,Bool.or_true,Bool.true_or,Bool.or_false,List.isEmpty_nil,List.any_cons,List.any_nil,B1,i6,List.all_cons,List.all_nil,Bool.and_self,Bool.and_true,Bool.true_and,beq_self_eq_true,a7e,a7f,a8J,a8K,a8L,a0r,a7g,a7h,a7i,w6,v7,u0,L8,k9,E9,a0q,w4,Y7,S7,a8X,a5v,a5w,a5r,a5s,a5t,a5u,a5q,a7t,a5x,a4q,eC,eV,eB,D5,a14,eT,eL,zN,aN,aC,g6,a47,a48,eU,A7,eCB,D6,nCV,g1,z9,a0o,bZ,v5,J0,x9,Y8,S6,V1,a8q,a8r,a38,a8s,a8t,R8,R9,look,p8,z8,a6B,T2,a1E,tyN,seqL,a56,a58,List.map_cons,List.map_nil,List.length_cons,List.length_nil,List.cons_append,List.nil_append,List.replicate_succ,List.replicate_zero,List.getElem?_cons_zero,List.getElem?_cons_succ,List.set_cons_zero,List.set_cons_succ,Nat.reduceAdd,Nat.reduceSub,if_true,if_false,Bool.not_true,Bool.not_false,Bool.not_not,Nat.zero_add,Bool.false_eq_true,decide_eq_true_eq,Bool.not_eq_true',decide_eq_false_iff_not,Option.map_some,Option.map_none,ite_self])
 return if s.getString=="eh" then t.raw else t.raw.modifyArg 4 (·.modifyArg 1 fun l=>l.setArg 0 l[2])
theorem a8Z{n:Nat}(h:n≤1000):a0Q [.int (n:Int)]=some (0,n):=by
 unfold a0Q
 show(if _ then _ else _)=_
 rw[if_pos (by omega)]
 simp
theorem a26{rg:List D→Option (Int×Nat)}{f:AF}{b:GF}{body:SF}{e e1:DE}{ds:List D}{lo:Int}{n:Nat}(h:f e=some (.ok ds e1))(hr:rg ds=some (lo,n)):S7 rg f b body e=u6 b body (G7 lo n) e1:=by
 unfold S7;rw[h,a38,hr]
theorem X1{ns:List Int}{k:Int}(hk:0≤k):k5 [.scr ns,.int k]=some (.ret (.int (D0 ns k))):=by
 rw[← a7k hk]
 unfold k5 X9
 walk_at "ev"
 split
 ·cases atI ns k<;>rfl
 ·rfl
theorem a2o(x:Int):m7 [.int x]=some (.ret (.bl true)):=by
 unfold m7 a1n
 walk_at "ev"
 rfl
abbrev stB(GM:D→D→Option D):SF:=(d6 (v7 3 (eB m8 (eB A8 (eB A8 (eB GM (eV 3) (eC (.int 69621))) (eB GM (eB GM (eV 4) (eV 4)) (eC (.int 7919)))) (eC (.int 48271))) (eC (.int 2147483647)))) (Y7 2 (eV 3)))
theorem a9Q(GM:D→D→Option D)(c m:D)(A:List D)(n k a b d:Int)(h1:GM (.int n) (.int 69621)=some (.int a))(h2:GM (.int k) (.int k)=some (.int b))(h3:GM (.int b) (.int 7919)=some (.int d))(hA:A.length<sizeLine) :
  stB GM [.fz c,.fz m,.ow A,.fz (.int n),.fz (.int k)]=some (.nx [.fz c,.fz m,.ow (A++[.int ((a+d+48271)%2147483647)]),.fz (.int ((a+d+48271)%2147483647)),.fz (.int k)]):=by
 unfold stB
 walk_at "eh"
theorem a9R(LP:SF)(c m:Int)(A:List D)(n:D)(o4:Option D)(h:LP [.fz (.int c),.fz (.int m),.ow [],.fz (.int (c%2147483647)),.no]=some (.nx [.fz (.int c),.fz (.int m),.ow A,.fz n,un o4])):fD 5 2 (d6 (u0 2 (eL aN)) (d6 (v7 3 (eB m8 (eV 0) (eC (.int 2147483647)))) (d6 LP (a0q 2)))) [.int c,.int m]=some (.own A):=by
 walk_at "eh"
theorem a9S(m:Nat):G7 0 m=(List.range m).map fun(k:Nat)=>D.int (k:Int):=by
 unfold G7
 refine List.map_congr_left fun i _=>?_
 rw[Int.zero_add]
theorem a4x(c:Int)(m:Nat)(hm:m≤1000):∃L:List Int,L.length=m∧C0 [.int c,.int (m:Int)]=some (.own (L.map D.int)):=by
 obtain⟨e',lp,L,n,o4,hL,rfl⟩:=X0 (b:=i7 4) (body:=stB r8) (fun(k:Nat)=>D.int (k:Int)) (fun pre e=>∃(L:List Int) (n:Int) (o4:Option D),L.length=pre.length∧e=[.fz (.int c),.fz (.int (m:Int)),.ow (L.map D.int),.fz (.int n),un o4]) (List.range m) [.fz (.int c),.fz (.int (m:Int)),.ow [],.fz (.int (c%2147483647)),.no] ⟨[],_,none,rfl,rfl⟩ (by
  rintro pre k post e hq ⟨L,n,o4,hL,rfl⟩
  have hk:k<m:=List.mem_range.mp (by rw[hq];simp)
  have hp:pre.length<m:=by have:=congrArg List.length hq;rw[List.length_range,List.length_append,List.length_cons]at this;omega
  have hb:i7 4 (.int (k:Int)) [.fz (.int c),.fz (.int (m:Int)),.ow (L.map D.int),.fz (.int n),un o4]=some [.fz (.int c),.fz (.int (m:Int)),.ow (L.map D.int),.fz (.int n),.fz (.int (k:Int))]:=by cases o4<;>rfl
  rw[hb,C6]
  refine⟨_,(congrArg D3 (a9Q r8 (.int c) (.int (m:Int)) (L.map D.int) n (k:Int) _ _ _ (a0r (by decide)) (a0r (by omega)) (a0r (by decide)) (by rw[List.length_map];show _<2 ^ 24;omega))).trans rfl,L++[(n*69621+(k:Int)*k*7919+48271)%2147483647],(n*69621+(k:Int)*k*7919+48271)%2147483647,some (.int (k:Int)),by rw[List.length_append,List.length_append,hL];rfl,?_⟩
  rw[List.map_append]
  rfl)
 refine⟨L,by rw[hL,List.length_range],a9R _ c m _ (.int n) o4 ?_⟩
 have e0:(aC (eV 1) aN) [.fz (.int c),.fz (.int (m:Int)),.ow [],.fz (.int (c%2147483647)),.no]=some (.ok [.int (m:Int)] [.fz (.int c),.fz (.int (m:Int)),.ow [],.fz (.int (c%2147483647)),.no]):=rfl
 rw[a26 e0 (a8Z hm),a9S]
 exact lp
abbrev Wr:=Int×Int×Bool
def wD(q:Wr):D:=.tup [.int q.1,.int q.2.1,.bl q.2.2]
def gq(L:List Wr)(k:Nat):Wr:=L.getD k (0,0,false)
theorem a81{L:List Wr}{k:Nat}(hk:k<L.length):atI (L.map wD) (k:Int)=some (wD (gq L k)):=by
 apply a0F
 rw[List.getElem?_map,List.getElem?_eq_getElem hk]
 unfold gq
 rw[List.getD_eq_getElem?_getD,List.getElem?_eq_getElem hk]
 rfl
theorem a5z{α β:Type}(f:α→β){a:List β}{b:List β}(h:a.Perm b):∀l:List α,b=l.map f→∃m:List α,m.Perm l∧a=m.map f:=by
 induction h with
 | nil=>intro l e;exact⟨l,.refl _,e⟩
 | cons x p ih =>
  intro l e
  cases l with
  | nil=>cases e
  | cons y l =>
   rw[List.map_cons]at e
   injection e with e1 e2
   obtain⟨m,p1,q1⟩:=ih l e2
   exact⟨y::m,p1.cons y,by rw[List.map_cons,e1,q1]⟩
 | swap x y r =>
  intro l e
  match l,e with
  | a::b::l,e =>
   rw[List.map_cons,List.map_cons]at e
   injection e with e1 e2
   injection e2 with e2 e3
   exact⟨b::a::l,.swap _ _ _,by rw[List.map_cons,List.map_cons,e1,e2,e3]⟩
 | trans p q ih1 ih2 =>
  intro l e
  obtain⟨m1,p1,q1⟩:=ih2 l e
  obtain⟨m2,p2,q2⟩:=ih1 m1 q1
  exact⟨m2,p2.trans p1,q2⟩
abbrev oL(σ:List Nat):List D:=σ.map fun(k:Nat)=>D.int (k:Int)
theorem a2p{L:List Wr}{k:Nat}(hk:k<L.length):gq L k∈L:=by
 unfold gq
 rw[List.getD_eq_getElem?_getD,List.getElem?_eq_getElem hk]
 exact List.getElem_mem hk
theorem a05{i:Int}(h:Fits i):∃v,Fits v∧B2 [.int i]=some (.ret (.int v)):=by
 have hm:r8 (.int (i/5)) (.int (7919 ^ Int.toNat 11))=some (.int (i/5*7919 ^ Int.toNat 11)):=Q1 (h.div.mul (u7 (by decide +kernel)))
 have hB:∀x:Int,Fits (1+x%10 ^ Int.toNat 40):=fun x=>(u7 (i:=1+10 ^ 40)).le (by
  show(1+x%10 ^ 40).natAbs≤_
  have h1:=Int.emod_nonneg x (show(10 ^ 40:Int)≠0 by decide)
  have h2:=Int.emod_lt_of_pos x (show(0:Int)<10 ^ 40 by decide)
  omega)
 have hC:Fits (10 ^ Int.toNat 40-i/5%3):=(u7 (i:=10 ^ 41)).le (by
  show(10 ^ 40-i/5%3).natAbs≤_
  omega)
 have hD:Fits (1+i/5%1009):=(u7 (i:=10 ^ 41)).le (by omega)
 have hE:Fits (1+i/5%7):=(u7 (i:=10 ^ 41)).le (by omega)
 unfold B2 a2l
 walk_at "ev"
 rw[hm]
 walk_at "ev"
 split
 ·exact⟨_,hB _,rfl⟩
 split
 ·exact⟨_,hC,rfl⟩
 split
 ·exact⟨_,hD,rfl⟩
 exact⟨_,hE,rfl⟩
def SzW(q:Wr):Prop:=Fits q.1∧Fits q.2.1
def Sz(L:List Wr):Prop:=∀q∈L,SzW q
theorem a06(i:Int):∃q:Wr,SzW q∧p9 [.int i]=some (.ret (wD q)):=by
 have f1:Fits (i%10 ^ 60):=.mod (by decide) u7
 obtain⟨a,fa,ha⟩:=a05 (i:=i%10 ^ Int.toNat 60) f1
 have f2:Fits ((i%10 ^ Int.toNat 60*48271+29)%2147483647/12):=(Fits.mod (by decide) u7).div
 obtain⟨b,fb,hb⟩:=a05 f2
 have f3:Fits (i%10 ^ 60*69621+3):=(u7 (i:=10 ^ 60*69622)).le (by
  have h1:=Int.emod_nonneg i (show(10 ^ 60:Int)≠0 by decide)
  have h2:=Int.emod_lt_of_pos i (show(0:Int)<10 ^ 60 by decide)
  omega)
 obtain⟨c',fc,hc⟩:=a05 (i:=i%10 ^ Int.toNat 60*69621+3) f3
 unfold p9 a2m
 walk_at "eh"
 split
 ·split
  ·exact⟨(a,c',_),⟨fa,fc⟩,rfl⟩
  ·exact⟨(a,a,_),⟨fa,fa⟩,rfl⟩
 ·split
  ·exact⟨(a,c',_),⟨fa,fc⟩,rfl⟩
  ·exact⟨(a,b,_),⟨fa,fb⟩,rfl⟩
theorem a2q(f:Int→Wr)(el:ZF)(L:List Int)(hl:L.length≤1000)(e:DE)(hf:∀c,∃e3,el [.fz (.int c)]=some (.ok (wD (f c)) e3)):j0 (i7 0) x9 el [.no] e (L.map D.int) []=some (.ok ((L.map f).map wD) e):=by
 rw[M4 D.int (fun c=>wD (f c)) (fun _=>true) L [] (by show 0+_≤2 ^ 24;omega) (fun c _=>⟨[.fz (.int c)],[.fz (.int c)],rfl,rfl,fun _=>hf c⟩)]
 rw[List.filter_eq_self.mpr (fun _ _=>rfl),List.map_map]
 rfl
theorem a2r(f:ZF)(el:ZF)(e:DE)(L:List Int)(B:List D)(h:f e=some (.ok (.lst (L.map D.int)) e))(hc:j0 (i7 0) x9 el [.no] e (L.map D.int) []=some (.ok B e)):S9 1 [] f (i7 0) x9 el e=some (.ok B e):=by
 unfold S9
 rw[h,V1]
 exact hc
abbrev elW(WA:List D→Option R1):ZF:=g6 WA (aC (eV 0) aN)
abbrev elS:ZF:=(eT (aC (eB A8 (eC (.int 1)) (eB m8 (eV 0) (eC (.int 3)))) (aC (eB A8 (eC (.int 1)) (eB m8 (eB L5 (eV 0) (eC (.int 3))) (eC (.int 3)))) (aC (eB (A9 false) (eB m8 (eB L5 (eV 0) (eC (.int 9))) (eC (.int 2))) (eC (.int 1))) aN))))
theorem a83(c:Int):elS [.fz (.int c)]=some (.ok (.tup [.int (1+c%3),.int (1+c/3%3),.bl (decide (c/9%2=1))]) [.fz (.int c)]):=by
 unfold elS
 walk_at "ev"
theorem a4y(WA:List D→Option R1)(c:Int)(d:D)(h:WA [.int c]=some (.ret d)):elW WA [.fz (.int c)]=some (.ok d [.fz (.int c)]):=by
 unfold elW
 walk_at "eh"
theorem a84(G:List D)(ns:List Int)(k:D)(s2:Sl)(h:Y9 (ns.map D.int) (some 1) (some 61)=G):(zN (a0X 0 (oS (eC (.int 1))) (oS (eC (.int 61))))) [.fz (.scr ns),.fz k,s2]=some (.ok (.lst G) [.fz (.scr ns),.fz k,s2]):=by
 subst h
 rfl
theorem a9T(CE ST:List D→Option R1)(ns:List Int)(k m c1:Int)(G:List D)(h1:CE [.scr ns,.int 1]=some (.ret (.int c1)))(h2:ST [.int c1,.int m]=some (.own G)):(g6 ST (aC (g6 CE (aC (eV 0) (aC (eC (.int 1)) aN))) (aC (eV 2) aN))) [.fz (.scr ns),.fz (.int k),.fz (.int m)]=some (.ok (.lst G) [.fz (.scr ns),.fz (.int k),.fz (.int m)]):=by
 walk_at "eh"
theorem a07(CE:List D→Option R1)(N1 N2 N3:NF)(ns:List Int)(c0:Int)(B:List D)(h0:CE [.scr ns,.int 0]=some (.ret (.int c0)))(h:(c0%3=1∧N1 [.fz (.scr ns),.fz (.int (c0%3)),.fz (.int (c0/3%101))]=some (.ok B [.fz (.scr ns),.fz (.int (c0%3)),.fz (.int (c0/3%101))]))∨(¬c0%3=1∧c0%3=2∧N2 [.fz (.scr ns),.fz (.int (c0%3)),.no]=some (.ok B [.fz (.scr ns),.fz (.int (c0%3)),.no]))∨(¬c0%3=1∧¬c0%3=2∧N3 [.fz (.scr ns),.fz (.int (c0%3)),.no]=some (.ok B [.fz (.scr ns),.fz (.int (c0%3)),.no]))) :
  fD 3 1 (d6 (v7 1 (eB m8 (g6 CE (aC (eV 0) (aC (eC (.int 0)) aN))) (eC (.int 3)))) (d6 (w6 (bZ (eB (A9 false) (eV 1) (eC (.int 1)))) (d6 (v7 2 (eB m8 (eB L5 (g6 CE (aC (eV 0) (aC (eC (.int 0)) aN))) (eC (.int 3))) (eC (.int 101)))) (E9 N1)) w4) (d6 (w6 (bZ (eB (A9 false) (eV 1) (eC (.int 2)))) (E9 N2) w4) (E9 N3)))) [.scr ns]=some (.own B):=by
 rcases h with⟨a,h⟩ | ⟨a,b,h⟩ | ⟨a,b,h⟩
 ·rw[a]at h;walk_at "eh"
 ·rw[b]at h;walk_at "eh"
 ·walk_at "eh"
theorem a5A(ns:List Int)(hl:ns.length≤63):∃L:List Wr,L.length≤100∧Sz L∧B4 [.scr ns]=some (.own (L.map wD)):=by
 let f:Int→Wr:=fun c=>(a06 c).choose
 have hf:∀c,p9 [.int c]=some (.ret (wD (f c))):=fun c=>(a06 c).choose_spec.2
 have hs:∀L:List Int,Sz (L.map f):=fun L q m=>by
  obtain⟨c,_,rfl⟩:=List.mem_map.mp m
  exact(a06 c).choose_spec.1
 have hc:Y9 (ns.map D.int) (some 1) (some 61)=((ns.drop 1).take 60).map D.int:=by
  rw[a7A (by omega) (by omega),show(1:Int).toNat=1 by omega,show((61:Int)-1).toNat=60 by omega,List.map_take,List.map_drop]
 have l60:((ns.drop 1).take 60).length≤60:=by rw[List.length_take];omega
 by_cases z1:D0 ns 0%3=1
 ·obtain⟨M,hM,st⟩:=a4x (D0 ns 1) (D0 ns 0/3%101).toNat (by omega)
  rw[show(((D0 ns 0/3%101).toNat:Nat):Int)=D0 ns 0/3%101 by omega]at st
  exact⟨M.map f,by rw[List.length_map];omega,hs M,a07 k5 _ _ _ ns _ _ (X1 (by omega)) (.inl ⟨z1,a2r _ _ _ M _ (a9T k5 C0 ns _ _ _ _ (X1 (by omega)) st) (a2q f (elW p9) M (by omega) _ fun c=>⟨_,a4y p9 c _ (hf c)⟩)⟩)⟩
 ·by_cases z2:D0 ns 0%3=2
  ·refine⟨((ns.drop 1).take 60).map fun c=>(1+c%3,1+c/3%3,decide (c/9%2=1)),by rw[List.length_map];omega,fun q m=>?_,a07 k5 _ _ _ ns _ _ (X1 (by omega)) (.inr (.inl ⟨z1,z2,a2r _ _ _ _ _ (a84 _ ns _ _ hc) (a2q (fun c=>(1+c%3,1+c/3%3,decide (c/9%2=1))) elS _ (by omega) _ fun c=>⟨_,a83 c⟩)⟩))⟩
   obtain⟨c,_,rfl⟩:=List.mem_map.mp m
   exact⟨(u7 (i:=10)).le (by show(1+c%3).natAbs≤10;omega),(u7 (i:=10)).le (by show(1+c/3%3).natAbs≤10;omega)⟩
  ·exact⟨((ns.drop 1).take 60).map f,by rw[List.length_map];omega,hs _,a07 k5 _ _ _ ns _ _ (X1 (by omega)) (.inr (.inr ⟨z1,z2,a2r _ _ _ _ _ (a84 _ ns _ _ hc) (a2q f (elW p9) _ (by omega) _ fun c=>⟨_,a4y p9 c _ (hf c)⟩)⟩))⟩
def J2(kf:Nat→List Int)(n:Nat):List (List Int):=(List.range n).map kf
theorem a4z(el:ZF)(kf:Nat→List Int)(sl:Sl)(N:Nat)(nn:∀k,kf k≠[])(st:∀k,k<N→el [.fz (.int (k:Int)),sl]=some (.ok (.tup ((kf k).map D.int)) [.fz (.int (k:Int)),sl]))(n:Nat)(hn:n≤N):P3 el [.no,sl] n=some (J2 kf n):=by
 induction n with
 | zero=>rfl
 | succ n ih =>
  unfold P3
  rw[ih (by omega)]
  have st:el (List.set [.no,sl] 0 (.fz (.int (n:Int))))=_:=st n (by omega)
  rw[st]
  show(match y0 ((kf n).map D.int)with
   | some k=>if k≠[]then some (J2 kf n++[k])else none
   | none=>none)=_
  rw[L2.ints_map]
  show(if kf n≠[]then _ else _)=_
  rw[if_pos (nn n)]
  unfold J2
  rw[List.range_succ,List.map_append]
  rfl
theorem a4A(kf:Nat→List Int)(n m:Nat)(hl:∀k,(kf k).length=m)(inj:∀i j,kf i=kf j→i=j):okK (J2 kf n)=true:=by
 unfold okK
 rw[Bool.and_eq_true]
 constructor
 ·refine decide_eq_true ?_
  unfold J2
  rw[List.nodup_iff_pairwise_ne,List.pairwise_map]
  refine List.Pairwise.imp ?_ (List.nodup_range (n:=n))
  intro i j h e
  exact h (inj i j e)
 ·rw[List.all_eq_true]
  intro k mm
  obtain⟨i,hi,rfl⟩:=List.mem_map.mp mm
  have hn:=List.mem_range.mp hi
  unfold J2
  cases n with
  | zero=>omega
  | succ n=>rw[List.range_succ_eq_map,List.map_cons,List.headD_cons,hl,hl];exact beq_self_eq_true _
theorem a4B(kf:Nat→List Int)(n:Nat)(inj:∀i j,kf i=kf j→i=j):∃σ:List Nat,σ.Perm (List.range n)∧σ.Pairwise (fun a b=>HT.lexLt (kf a) (kf b)=true)∧((J9 (F6 (J2 kf n))).map fun q=>q.2.headD .non)=oL σ:=by
 have hl:(J2 kf n).length=n:=by unfold J2;rw[List.length_map,List.length_range]
 have hr:F6 (J2 kf n)=(List.range n).map fun(k:Nat)=>((kf k,[D.int (k:Int)]):J1):=by
  unfold F6
  rw[hl]
  refine List.map_congr_left fun k m=>?_
  have hk:=List.mem_range.mp m
  have:(J2 kf n).getD k []=kf k:=by
   unfold J2
   rw[List.getD_eq_getElem?_getD,List.getElem?_map,List.getElem?_range hk]
   rfl
  rw[this]
 obtain⟨σ,h1,h2⟩:=a5z (fun(k:Nat)=>((kf k,[D.int (k:Int)]):J1)) (T5 (F6 (J2 kf n))) (List.range n) hr
 refine⟨σ,h1,?_,by rw[h2,List.map_map];rfl⟩
 have hs:=M5 (F6 (J2 kf n))
 rw[h2,List.pairwise_map]at hs
 have nd:σ.Pairwise (·≠·):=List.nodup_iff_pairwise_ne.mp (h1.nodup_iff.mpr List.nodup_range)
 refine(hs.and nd).imp ?_
 rintro a b ⟨x,y⟩
 cases z:HT.lexLt (kf a) (kf b)with
 | true=>rfl
 | false=>exact absurd (inj a b (Z3 _ _ z x)) y
theorem a85(el:ZF)(sl:Sl)(js:List Nat)(i:Nat)(e:DE)(B R:List D)(ks:List (List Int))(n:Nat)(h0:(aC (D6 z9 i) aN) e=some (.ok [.int (B.length:Int)] e))(hc:i3 1 js e=[.no,sl])(hB:B.length=n)(h64:n<1000)(hk:P3 el [.no,sl] n=some ks)(ok:okK ks=true)(hR:((J9 (F6 ks)).map fun q=>q.2.headD .non)=R):M6 js (aC (D6 z9 i) aN) el e=some (.ok R e):=by
 unfold M6
 rw[h0,V1]
 show(if 0≤(B.length:Int)∧(B.length:Int)<1000 then(match P3 el (i3 1 js e) (B.length:Int).toNat with
   | some ks=>if okK ks=true then some (L2.R.ok ((J9 (F6 ks)).map fun q=>q.2.headD .non) e)else none
   | none=>none)else none)=_
 rw[if_pos ⟨by omega,by omega⟩,Int.toNat_natCast,hB,hc,hk]
 show(if okK ks=true then _ else _)=_
 rw[if_pos ok,hR]
def rk(kf:Nat→List Int)(n:Nat):List D:=(List.range n).map fun k=>D.tup ((kf k).map D.int)
theorem a6c(kf:Nat→List Int){n k:Nat}(h:k<n):atI (rk kf n) (k:Int)=some (.tup ((kf k).map D.int)):=by
 apply a0F
 unfold rk
 rw[List.getElem?_map,List.getElem?_range h]
 rfl
theorem a6d{σ:List Nat}{i:Nat}(h:i<σ.length):atI (oL σ) (i:Int)=some (.int (σ[i]:Int)):=by
 apply a0F
 unfold oL
 rw[List.getElem?_map,List.getElem?_eq_getElem h]
 rfl
abbrev a5B(WH:List D→Option R1):SF:=(w6 (J0 (v5 (bZ (g6 WH (aC (eV 2) aN)))) (J0 (bZ (eB gLt (eV 2) (eC (.int 0)))) (bZ (eB gGe (eV 2) (D6 z9 1))))) (k9 (eC (.bl false))) w4)
theorem a9U(WH:List D→Option R1)(A B:List D)(k:Int)(s3:Sl)(h:WH [.int k]=some (.ret (.bl true)))(h0:¬k<0)(h1:¬k≥(B.length:Int)):a5B WH [.fz (.lst A),.fz (.lst B),.fz (.int k),s3]=some (.nx [.fz (.lst A),.fz (.lst B),.fz (.int k),s3]):=by
 unfold a5B
 walk_at "eh"
abbrev a5C(GL:D→D→Option D):SF:=(w6 (v5 (bZ (eB GL (D5 z8 1 (D5 z8 0 (eB a0m (eV 3) (eC (.int 1))))) (D5 z8 1 (D5 z8 0 (eV 3)))))) (k9 (eC (.bl false))) w4)
theorem a9V(GL:D→D→Option D)(A B:List D)(i x y:Int)(X Y:D)(s2:Sl)(a1:atI A (i-1)=some (.int x))(a2:atI B x=some X)(a3:atI A i=some (.int y))(a4:atI B y=some Y)(h:GL X Y=some (.bl true)):a5C GL [.fz (.lst A),.fz (.lst B),s2,.fz (.int i)]=some (.nx [.fz (.lst A),.fz (.lst B),s2,.fz (.int i)]):=by
 unfold a5C
 walk_at "eh"
theorem a9W(L1 L2:SF)(A B:List D)(hl:(A.length:Int)=(B.length:Int))(s2:Sl)(o3:Option D)(h1:L1 [.fz (.lst A),.fz (.lst B),.no,.no]=some (.nx [.fz (.lst A),.fz (.lst B),s2,.no]))(h2:L2 [.fz (.lst A),.fz (.lst B),s2,.no]=some (.nx [.fz (.lst A),.fz (.lst B),s2,un o3])) :
  fD 4 2 (d6 (w6 (J0 (v5 (bZ (T2 0 "list"))) (bZ (eB (A9 true) (D6 z9 0) (D6 z9 1)))) (k9 (eC (.bl false))) w4) (d6 L1 (d6 L2 (k9 (eC (.bl true)))))) [.lst A,.lst B]=some (.ret (.bl true)):=by
 walk_at "eh"
theorem a86{n:Nat}(h:n≤2000):a0R [.int 1,.int (n:Int)]=some (1,n-1):=by
 rw[a7l (by omega),show((n:Int)-1).toNat=n-1 by omega]
theorem a0v(kf:Nat→List Int)(σ:List Nat)(n:Nat)(hn:n≤1000)(hp:σ.Perm (List.range n))(hs:σ.Pairwise (fun a b=>HT.lexLt (kf a) (kf b)=true)):j5 [.lst (oL σ),.lst (rk kf n)]=some (.ret (.bl true)):=by
 have hl:σ.length=n:=by rw[hp.length_eq,List.length_range]
 have hm:∀k∈σ,k<n:=fun k m=>List.mem_range.mp (hp.mem_iff.mp m)
 have lA:(oL σ).length=n:=by unfold oL;rw[List.length_map,hl]
 have lB:(rk kf n).length=n:=by unfold rk;rw[List.length_map,List.length_range]
 obtain⟨e1,f1,o2,rfl⟩:=X0 (b:=i7 2) (body:=a5B m7) (fun(k:Nat)=>D.int (k:Int)) (fun _ e=>∃o2:Option D,e=[.fz (.lst (oL σ)),.fz (.lst (rk kf n)),un o2,.no]) σ [.fz (.lst (oL σ)),.fz (.lst (rk kf n)),.no,.no] ⟨none,rfl⟩ (by
  rintro pre k post e hq ⟨o2,rfl⟩
  have hk:k<n:=hm k (by rw[hq];simp)
  have hb:i7 2 (.int (k:Int)) [.fz (.lst (oL σ)),.fz (.lst (rk kf n)),un o2,.no]=some [.fz (.lst (oL σ)),.fz (.lst (rk kf n)),.fz (.int (k:Int)),.no]:=by cases o2<;>rfl
  rw[hb,C6]
  exact⟨_,(congrArg D3 (a9U m7 _ _ _ _ (a2o _) (by omega) (by rw[lB];omega))).trans rfl,some _,rfl⟩)
 obtain⟨e2,f2,o3,rfl⟩:=X0 (b:=i7 3) (body:=a5C a02) (fun(k:Nat)=>D.int (1+(k:Int))) (fun _ e=>∃o3:Option D,e=[.fz (.lst (oL σ)),.fz (.lst (rk kf n)),un o2,un o3]) (List.range (n-1)) [.fz (.lst (oL σ)),.fz (.lst (rk kf n)),un o2,.no] ⟨none,rfl⟩ (by
  rintro pre k post e hq ⟨o3,rfl⟩
  have hk:k<n-1:=List.mem_range.mp (by rw[hq];simp)
  have hb:i7 3 (.int (1+(k:Int))) [.fz (.lst (oL σ)),.fz (.lst (rk kf n)),un o2,un o3]=some [.fz (.lst (oL σ)),.fz (.lst (rk kf n)),un o2,.fz (.int (1+(k:Int)))]:=by cases o3<;>rfl
  rw[hb,C6]
  have a1:atI (oL σ) (1+(k:Int)-1)=some (.int ((σ[k]'(by omega):Nat):Int)):=by rw[show 1+(k:Int)-1=k by omega];exact a6d (by omega)
  have a3:atI (oL σ) (1+(k:Int))=some (.int ((σ[k+1]'(by omega):Nat):Int)):=by rw[show 1+(k:Int)=((k+1:Nat):Int) by omega];exact a6d (by omega)
  have lt:=List.pairwise_iff_getElem.mp hs k (k+1) (by omega) (by omega) (by omega)
  have g:a02 (.tup ((kf (σ[k]'(by omega))).map D.int)) (.tup ((kf (σ[k+1]'(by omega))).map D.int))=some (.bl true):=by
   show(match y0 _,y0 _ with
    | some ns,some ms=>some (D.bl (HT.lexLt ns ms))
    | _,_=>none)=_
   rw[L2.ints_map,L2.ints_map,← lt]
  exact⟨_,(congrArg D3 (a9V a02 _ _ _ _ _ _ _ _ a1 (a6c kf (hm _ (List.getElem_mem _))) a3 (a6c kf (hm _ (List.getElem_mem _))) g)).trans rfl,some _,rfl⟩)
 refine a9W _ _ _ _ (by rw[lA,lB]) (un o2) o3 ?_ ?_
 ·exact f1
 ·have e0:(aC (eC (.int 1)) (aC (D6 z9 0) aN)) [.fz (.lst (oL σ)),.fz (.lst (rk kf n)),un o2,.no]=some (.ok [.int 1,.int ((oL σ).length:Int)] [.fz (.lst (oL σ)),.fz (.lst (rk kf n)),un o2,.no]):=rfl
  rw[lA]at e0
  rw[a26 e0 (a86 (by omega))]
  exact f2
def ar(L:List Wr):Int:=(L.map fun q=>q.1*q.2.1).sum
abbrev elM(GM:D→D→Option D):ZF:=(eB GM (eB p8 (eV 0) (eC (.int 0))) (eB p8 (eV 0) (eC (.int 1))))
theorem a88(GM:D→D→Option D)(q:Wr)(h:GM (.int q.1) (.int q.2.1)=some (.int (q.1*q.2.1))):elM GM [.fz (wD q)]=some (.ok (.int (q.1*q.2.1)) [.fz (wD q)]):=by
 show T8 (GM (.int q.1) (.int q.2.1)) _=_
 rw[h]
 rfl
theorem a89(CO:NF)(GS:D→Option D)(A B:List D)(r:D)(h1:CO [.fz (.lst A)]=some (.ok B [.fz (.lst A)]))(h2:GS (.lst B)=some r):fD 1 1 (k9 (eCB (g1 GS) (aC (zN CO) aN))) [.lst A]=some (.ret r):=by
 walk_at "eh"
theorem a08(L:List Wr)(hl:L.length≤1000)(hz:Sz L):k8 [.lst (L.map wD)]=some (.ret (.int (ar L))):=by
 refine a89 (V4 0 1 [] (i7 0) x9 (elM r8)) a19 (L.map wD) ((L.map fun q=>q.1*q.2.1).map D.int) _ ?_ ?_
 ·show j0 (i7 0) x9 (elM r8) [.no] [.fz (.lst (L.map wD))] (L.map wD) []=_
  rw[M4 wD (fun q=>D.int (q.1*q.2.1)) (fun _=>true) L [] (by show 0+_≤2 ^ 24;omega) (fun q m=>⟨[.fz (wD q)],[.fz (wD q)],rfl,rfl,fun _=>⟨_,a88 r8 q (Q1 ((hz q m).1.mul (hz q m).2))⟩⟩)]
  rw[List.filter_eq_self.mpr (fun _ _=>rfl),List.map_map]
  rfl
 ·show(y0 _).map _=_
  rw[L2.ints_map]
  rfl
theorem a8_(q:Wr):ar [q]=q.1*q.2.1:=by unfold ar;simp
abbrev elA(AR:List D→Option R1):ZF:=(eT (aC (eU A7 (g6 AR (aC (zN (eL (aC (D5 z8 1 (eV 0)) aN))) aN))) (aC (eV 0) aN)))
theorem a5D(AR:List D→Option R1)(B:List D)(k a:Int)(q:D)(a1:atI B k=some q)(h:AR [.lst [q]]=some (.ret (.int a))):elA AR [.fz (.int k),.fz (.lst B)]=some (.ok (.tup [.int (-a),.int k]) [.fz (.int k),.fz (.lst B)]):=by
 unfold elA
 walk_at "eh"
abbrev elH:ZF:=(eT (aC (eU A7 (eB p8 (D5 z8 1 (eV 0)) (eC (.int 1)))) (aC (eU A7 (eB p8 (D5 z8 1 (eV 0)) (eC (.int 0)))) (aC (eV 0) aN))))
theorem a5E(B:List D)(k w h:Int)(t:Bool)(a1:atI B k=some (.tup [.int w,.int h,.bl t])):elH [.fz (.int k),.fz (.lst B)]=some (.ok (.tup [.int (-h),.int (-w),.int k]) [.fz (.int k),.fz (.lst B)]):=by
 unfold elH
 walk_at "eh"
def kA(L:List Wr)(k:Nat):List Int:=[-((gq L k).1*(gq L k).2.1),(k:Int)]
def kH(L:List Wr)(k:Nat):List Int:=[-(gq L k).2.1,-(gq L k).1,(k:Int)]
theorem a4C(L:List Wr)(i j:Nat)(h:kA L i=kA L j):i=j:=by
 unfold kA at h
 injection h with _ h
 injection h with h
 omega
theorem a4D(L:List Wr)(i j:Nat)(h:kH L i=kH L j):i=j:=by
 unfold kH at h
 injection h with _ h
 injection h with _ h
 injection h with h
 omega
theorem a4E(L:List Wr)(hz:Sz L)(hl:L.length<1000):∃σ:List Nat,u4 [.lst (L.map wD)]=some (.own (oL σ))∧j5 [.lst (oL σ),.lst (rk (kA L) L.length)]=some (.ret (.bl true))∧σ.length=L.length:=by
 obtain⟨σ,h1,h2,h3⟩:=a4B (kA L) L.length (a4C L)
 refine⟨σ,?_,a0v _ σ _ (by omega) h1 h2,by rw[h1.length_eq,List.length_range]⟩
 have e:=a85 (elA k8) (.fz (.lst (L.map wD))) [0] 0 [.fz (.lst (L.map wD))] (L.map wD) (oL σ) (J2 (kA L) L.length) L.length rfl rfl (by rw[List.length_map]) hl (a4z _ (kA L) _ L.length (fun k=>List.cons_ne_nil _ _) (fun k hk=>a5D k8 (L.map wD) k _ _ (a81 hk) ((a08 [gq L k] (by simp) (fun q m=>by rw[List.mem_singleton.mp m];exact hz _ (a2p hk))).trans (by rw[a8_]))) _ (Nat.le_refl _)) (a4A _ _ 2 (fun _=>rfl) (a4C L)) h3
 have:u4 [.lst (L.map wD)]=M0 (O0 ((M6 [0] (aC (D6 z9 0) aN) (elA k8)) [.fz (.lst (L.map wD))]) fun ds _=>some (.ro ds)):=rfl
 rw[this,e]
 rfl
theorem Y0(L:List Wr)(hl:L.length<1000):∃σ:List Nat,l3 [.lst (L.map wD)]=some (.own (oL σ))∧j5 [.lst (oL σ),.lst (rk (kH L) L.length)]=some (.ret (.bl true))∧σ.length=L.length:=by
 obtain⟨σ,h1,h2,h3⟩:=a4B (kH L) L.length (a4D L)
 refine⟨σ,?_,a0v _ σ _ (by omega) h1 h2,by rw[h1.length_eq,List.length_range]⟩
 have e:=a85 elH (.fz (.lst (L.map wD))) [0] 0 [.fz (.lst (L.map wD))] (L.map wD) (oL σ) (J2 (kH L) L.length) L.length rfl rfl (by rw[List.length_map]) hl (a4z _ (kH L) _ L.length (fun k=>List.cons_ne_nil _ _) (fun k hk=>a5E (L.map wD) k _ _ _ (a81 hk)) _ (Nat.le_refl _)) (a4A _ _ 3 (fun _=>rfl) (a4D L)) h3
 have:l3 [.lst (L.map wD)]=M0 (O0 ((M6 [0] (aC (D6 z9 0) aN) elH) [.fz (.lst (L.map wD))]) fun ds _=>some (.ro ds)):=rfl
 rw[this,e]
 rfl
theorem a9u(WA AR BH BA OR WH:List D→Option R1)(N3 N4 N10 N7 N8:NF)(LP:SF)(GT:D→D→Option D)(ns:List Int)(t:Int)(o6:Option D)(W K3 K4 K10 S1 S2 S3:List D)
  (h1:WA [.scr ns]=some (.own W)) (h3:N3 [.fz (.scr ns),.ow W,.ow W,.no,.no,.no,.no,.no,.no,.no,.no]=some (.ok K3 [.fz (.scr ns),.ow W,.ow W,.no,.no,.no,.no,.no,.no,.no,.no])) (h4:N4 [.fz (.scr ns),.ow W,.ow W,.ow K3,.no,.no,.no,.no,.no,.no,.no]=some (.ok K4 [.fz (.scr ns),.ow W,.ow W,.ow K3,.no,.no,.no,.no,.no,.no,.no]))
  (hp:LP [.fz (.scr ns),.ow W,.ow W,.ow K3,.ow K4,.fz (.int 0),.no,.no,.no,.no,.no]=some (.nx [.fz (.scr ns),.ow W,.ow W,.ow K3,.ow K4,.fz (.int t),un o6,.no,.no,.no,.no])) (h7:N7 [.fz (.scr ns),.ow W,.ow W,.ow K3,.ow K4,.fz (.int t),un o6,.no,.no,.no,.no]=some (.ok S1 [.fz (.scr ns),.ow W,.ow W,.ow K3,.ow K4,.fz (.int t),un o6,.no,.no,.no,.no])) (h8:N8 [.fz (.scr ns),.ow W,.ow W,.ow K3,.ow K4,.fz (.int t),un o6,.ow S1,.no,.no,.no]=some (.ok S2 [.fz (.scr ns),.ow W,.ow W,.ow K3,.ow K4,.fz (.int t),un o6,.ow S1,.no,.no,.no]))
  (ha:AR [.lst W]=some (.ret (.int t))) (hw:WH [.int t]=some (.ret (.bl true))) (hA:S1.length<sizeLine) (hO1:OR [.lst S1,.lst K3]=some (.ret (.bl true))) (hO2:OR [.lst S2,.lst K4]=some (.ret (.bl true))) (hBA:BA [.lst W]=some (.own S2)) (hBH:BH [.lst W]=some (.own S1))
  (h10:N10 [.fz (.scr ns),.ow W,.ow W.reverse,.ow K3,.ow K4,.fz (.int t),un o6,.ow (S1++[.int 0]),.ow [],.fz (.int t),.no]=some (.ok K10 [.fz (.scr ns),.ow W,.ow W.reverse,.ow K3,.ow K4,.fz (.int t),un o6,.ow (S1++[.int 0]),.ow [],.fz (.int t),.no])) (hBR:BH [.lst W.reverse]=some (.own S3)) (hO3:OR [.lst S3,.lst K10]=some (.ret (.bl true))) (hAR:AR [.lst W.reverse]=some (.ret (.int t))) (hG:GT (.lst W.reverse.reverse) (.lst W)=some (.bl true)) :
  fD 11 1 (d6 (L8 1 WA (aC (eV 0) aN)) (d6 (u0 2 (nCV a0o 1)) (d6 (u0 3 N3) (d6 (u0 4 N4) (d6 (v7 5 (eC (.int 0))) (d6 LP (d6 (u0 7 N7) (d6 (u0 8 N8) (d6 (v7 9 (a0t (g6 AR (aC (eV 2) aN)))) (d6 (w6 (J0 (v5 (bZ (g6 WH (aC (eV 9) aN)))) (bZ (eB (A9 true) (eV 9) (eV 5)))) (k9 (eC (.bl false))) w4) (d6 (w6 (J8 (J0 (v5 (bZ (g6 OR (aC (eV 7) (aC (eV 3) aN))))) (v5 (bZ (g6 OR (aC (eV 8) (aC (eV 4) aN))))))) (k9 (eC (.bl false))) w4) (d6 (Y7 7 (eC (.int 0))) (d6 (B1 8 fun _=>[]) (d6 (w6 (J8 (J0 (v5 (bZ (g6 OR (aC (g6 BA (aC (eV 2) aN)) (aC (eV 4) aN))))) (v5 (bZ (g6 OR (aC (g6 BH (aC (eV 2) aN)) (aC (eV 3) aN))))))) (k9 (eC (.bl false))) w4) (d6 (B1 2 fun ds=>ds.reverse) (d6 (u0 10 N10) (d6 (w6 (J8 (J0 (v5 (bZ (g6 OR (aC (g6 BH (aC (eV 2) aN)) (aC (eV 10) aN))))) (bZ (eB (A9 true) (g6 AR (aC (eV 2) aN)) (eV 5))))) (k9 (eC (.bl false))) w4) (d6 (B1 2 fun ds=>ds.reverse) (k9 (a14 GT 2 1)))))))))))))))))))) [.scr ns]=some (.ret (.bl true)):=by
 cases o6<;>simp only[un]at * <;>walk_at "eh"
theorem a0w{SD:List D→Option R1}{f:AF}{e e2:DE}{ds S:List D}(h1:f (y4 e)=some (.ok ds e2))(h2:SD ds=some (.own S))(hS:noLs S=true):W9 (Q3 SD f) e=some (.ok S e):=by
 have h3:Q3 SD f (y4 e)=some (.ok S e2):=by
  unfold Q3
  rw[h1]
  show(match SD ds with
   | some (.own es)=>some (R.ok es e2)
   | _=>none)=_
  rw[h2]
 unfold W9
 rw[h3]
 show(if noLs S=true then _ else _)=_
 rw[if_pos hS]
theorem a2s:∀σ:List Nat,noLs (oL σ)=true
 | []=>rfl
 | k::σ=>a2s σ
theorem a9X(L:List Wr):V3 0 (L.map wD)=(List.range L.length).map fun(k:Nat)=>.tup [.int (k:Int),wD (gq L k)]:=by
 apply List.ext_getElem?
 intro i
 by_cases h:i<L.length
 ·have e:(L.map wD)[i]? = some (wD (gq L i)):=by
   rw[List.getElem?_map,List.getElem?_eq_getElem h]
   unfold gq
   rw[List.getD_eq_getElem?_getD,List.getElem?_eq_getElem h]
   rfl
  rw[a0S e,List.getElem?_map,List.getElem?_range h,Nat.zero_add]
  rfl
 ·rw[List.getElem?_eq_none (by rw[a0T,List.length_map];omega),List.getElem?_eq_none (by rw[List.length_map,List.length_range];omega)]
abbrev ehH:ZF:=(eT (aC (eU A7 (eB p8 (eV 1) (eC (.int 1)))) (aC (eU A7 (eB p8 (eV 1) (eC (.int 0)))) (aC (eV 0) aN))))
abbrev ehA(GM:D→D→Option D):ZF:=(eT (aC (eU A7 (eB GM (eB p8 (eV 1) (eC (.int 0))) (eB p8 (eV 1) (eC (.int 1))))) (aC (eV 0) aN)))
theorem a4F(k w h:Int)(t:Bool):ehH [.fz (.int k),.fz (.tup [.int w,.int h,.bl t])]=some (.ok (.tup [.int (-h),.int (-w),.int k]) [.fz (.int k),.fz (.tup [.int w,.int h,.bl t])]):=by
 unfold ehH
 walk_at "ev"
theorem a9b(GM:D→D→Option D)(k w h a:Int)(t:Bool)(hm:GM (.int w) (.int h)=some (.int a)):ehA GM [.fz (.int k),.fz (.tup [.int w,.int h,.bl t])]=some (.ok (.tup [.int (-a),.int k]) [.fz (.int k),.fz (.tup [.int w,.int h,.bl t])]):=by
 unfold ehA
 walk_at "eh"
theorem a2t(kf:Nat→List Int)(el:ZF)(L:List Wr)(hl:L.length≤1000)(e:DE)(st:∀k,k<L.length→el [.fz (.int (k:Int)),.fz (wD (gq L k))]=some (.ok (.tup ((kf k).map D.int)) [.fz (.int (k:Int)),.fz (wD (gq L k))])):j0 (Y8 [(i7 0),(i7 1)]) x9 el [.no,.no] e (V3 0 (L.map wD)) []=some (.ok (rk kf L.length) e):=by
 rw[a9X,M4 (fun(k:Nat)=>.tup [.int (k:Int),wD (gq L k)]) (fun k=>D.tup ((kf k).map D.int)) (fun _=>true) (List.range L.length) [] (by rw[List.length_range];show 0+_≤2 ^ 24;omega) (fun k m=>⟨[.fz (.int (k:Int)),.fz (wD (gq L k))],[.fz (.int (k:Int)),.fz (wD (gq L k))],rfl,rfl,fun _=>⟨_,st k (List.mem_range.mp m)⟩⟩)]
 rw[List.filter_eq_self.mpr (fun _ _=>rfl),List.nil_append]
 rfl
theorem a9c(L:List Wr)(q:Wr):ar (L++[q])=ar L+q.1*q.2.1:=by
 unfold ar
 rw[List.map_append,List.sum_append]
 simp
theorem a9d(L:List Wr):ar L.reverse=ar L:=by
 unfold ar
 rw[List.map_reverse,List.sum_reverse]
abbrev toB(GM:D→D→Option D):SF:=(v7 5 (eB A8 (eV 5) (eB GM (eB p8 (eV 6) (eC (.int 0))) (eB p8 (eV 6) (eC (.int 1))))))
theorem a9Y(GM:D→D→Option D)(s W V K3 K4:Sl)(n w h a:Int)(t:Bool)(hm:GM (.int w) (.int h)=some (.int a)):toB GM [s,W,V,K3,K4,.fz (.int n),.fz (.tup [.int w,.int h,.bl t]),.no,.no,.no,.no]=some (.nx [s,W,V,K3,K4,.fz (.int (n+a)),.fz (.tup [.int w,.int h,.bl t]),.no,.no,.no,.no]):=by
 unfold toB
 walk_at "eh"
theorem a5F(s V K3 K4:Sl)(L:List Wr)(hz:Sz L):∃o6:Option D,W6 1 (i7 6) (toB r8) [s,.ow (L.map wD),V,K3,K4,.fz (.int 0),.no,.no,.no,.no,.no]=some (.nx [s,.ow (L.map wD),V,K3,K4,.fz (.int (ar L)),un o6,.no,.no,.no,.no]):=by
 obtain⟨e',f,o6,rfl⟩:=X0 (b:=i7 6) (body:=toB r8) wD (fun pre e=>∃o6:Option D,e=[s,.hd (L.map wD),V,K3,K4,.fz (.int (ar pre)),un o6,.no,.no,.no,.no]) L [s,.hd (L.map wD),V,K3,K4,.fz (.int 0),.no,.no,.no,.no,.no] ⟨none,rfl⟩ (by
  rintro pre q post e hq ⟨o6,rfl⟩
  have hm:q∈L:=by rw[hq];simp
  have hb:i7 6 (wD q) [s,.hd (L.map wD),V,K3,K4,.fz (.int (ar pre)),un o6,.no,.no,.no,.no]=some [s,.hd (L.map wD),V,K3,K4,.fz (.int (ar pre)),.fz (wD q),.no,.no,.no,.no]:=by cases o6<;>rfl
  rw[hb,C6]
  refine⟨_,(congrArg D3 (a9Y r8 _ _ _ _ _ _ _ _ _ _ (Q1 ((hz q hm).1.mul (hz q hm).2)))).trans rfl,some (wD q),?_⟩
  rw[a9c]
  rfl)
 refine⟨o6,?_⟩
 show unhide 1 (L.map wD) (u6 (i7 6) (toB r8) (L.map wD) [s,.hd (L.map wD),V,K3,K4,.fz (.int 0),.no,.no,.no,.no,.no])=_
 rw[f]
 rfl
theorem main(ns:List Int)(hl:ns.length≤63)(hb:∀m∈ns,Builtin.Int.intBits m≤2 ^ 20):a6a [.scr ns]=some (.ret (.bl true)):=by
 obtain⟨L,hL,hz,h1⟩:=a5A ns hl
 obtain⟨σ1,a1,a2,a3⟩:=Y0 L (by omega)
 obtain⟨σ2,b1,b2,b3⟩:=a4E L hz (by omega)
 obtain⟨σ3,c1,c2,c3⟩:=Y0 L.reverse (by rw[List.length_reverse];omega)
 obtain⟨o6,lp⟩:=a5F (.fz (.scr ns)) (.ow (L.map wD)) (.ow (rk (kH L) L.length)) (.ow (rk (kA L) L.length)) L hz
 have hr:(L.map wD).reverse=L.reverse.map wD:=List.map_reverse.symm
 have hzr:Sz L.reverse:=fun q m=>hz q (List.mem_reverse.mp m)
 refine a9u B4 k8 l3 u4 j5 m7 _ _ _ _ _ _ (Z1 false) ns (ar L) o6 (L.map wD) (rk (kH L) L.length) (rk (kA L) L.length) (rk (kH L.reverse) L.reverse.length) (oL σ1) (oL σ2) (oL σ3) h1 ?_ ?_ lp ?_ ?_ (a08 L (by omega) hz) (a2o _) (by rw[List.length_map,a3];show _<2 ^ 24;omega) a2 b2 b1 a1 ?_ (by rw[hr];exact c1) c2 (by rw[hr,a08 _ (by rw[List.length_reverse];omega) hzr,a9d]) ?_
 ·exact a2t (kH L) ehH L (by omega) _ fun k hk=>a4F _ _ _ _
 ·exact a2t (kA L) (ehA r8) L (by omega) _ fun k hk=>a9b r8 _ _ _ _ _ (Q1 ((hz _ (a2p hk)).1.mul (hz _ (a2p hk)).2))
 ·exact a0w (e2:=[.fz (.scr ns),.fz (.lst (L.map wD)),.fz (.lst (L.map wD)),.fz (.lst (rk (kH L) L.length)),.fz (.lst (rk (kA L) L.length)),.fz (.int (ar L)),un o6,.no,.no,.no,.no]) (ds:=[.lst (L.map wD)]) (by cases o6<;>rfl) a1 (a2s _)
 ·exact a0w (e2:=[.fz (.scr ns),.fz (.lst (L.map wD)),.fz (.lst (L.map wD)),.fz (.lst (rk (kH L) L.length)),.fz (.lst (rk (kA L) L.length)),.fz (.int (ar L)),un o6,.fz (.lst (oL σ1)),.no,.no,.no]) (ds:=[.lst (L.map wD)]) (by cases o6<;>rfl) b1 (a2s _)
 ·rw[hr]
  exact a2t (kH L.reverse) ehH L.reverse (by rw[List.length_reverse];omega) _ fun k hk=>a4F _ _ _ _
 ·rw[List.reverse_reverse]
  exact a4o false (by simp only[d7];exact a2J fun q _=>rfl) (by
   have:=a4p (f:=wD) (l:=L) (n:=2) (fun q _=>by unfold wD;simp[D1,A2])
   simp only[D1]
   omega) rfl
def a0x(K:PySem.W.Frag)(c:Str→Addr):Sp:=fun vs H Q _=>∃a,∃ns:List Int,vs=[.ref a]∧Scr K H a (ns.map V.int)∧(∀m∈ns,Builtin.Int.intBits m≤2 ^ 20)∧ns.length≤63∧∀H',Q (.bl true) H'
theorem a9e{TB:List (Addr×Str)}{f:Addr}{fd:FuncData}(F:Fun K "law" "law" v3 f fd)(T:Txt K mg c)(G_l_wares:Own P w K mg base 7 "_law_wares" ["_law_script"] (j1 K c B4))(G_by_height:Own P w K mg base 3 "by_height" ["wares"] (G9 TB (j1 K c l3)))(G_by_area:Own P w K mg base 8 "by_area" ["wares"] (G9 TB (j1 K c u4)))(G_area_of:Own P w K mg base 3 "area_of" ["wares"] (j1 K c k8))(G_l_whole:Own P w K mg base 3 "_law_whole" ["_law_found"] (j1 K c m7))(G_l_ordered:Own P w K mg base 5 "_law_ordered" ["_law_found","_law_ranks"] (j1 K c j5)):FnOk P w K mg base (r0 P w) 10 f fd ["_law_script"] (G9 TB (a0x K c)) :=
 (a7C F T G_l_wares G_by_height G_by_area G_area_of G_l_whole G_l_ordered ).imp fun vs H Q E ⟨hT,a,ns,e,h,hb,hl,q⟩=>⟨hT,a6I e h q (main ns hl hb)⟩
def U0(l:List (Str×Addr))(x:Str):Addr:=(l.lookup x).getD 0
theorem all_mk{w:World}{K:PySem.W.Frag}{h:Heap}{mg:Str→Option Value}{fa:Addr}(X:K.In h)(G:h.Ns mainGlobals mg)(hfa:mg "law" = some (.ref fa)){q:Program}{loose:List Str}{mean:ExcName→Option Value}{mb:Str→Option Value}(Tp:PyProof.Rows.Top q loose mean mg mb h)
  {f_0:Addr} {oc_0 kV_0 dc_0 pm_0 cd_0 ct_0:Value} {od_0 an_0:Option Addr} {sl_0:Array (Option Value)} {f_1:Addr} {oc_1 kV_1 dc_1 pm_1 cd_1 ct_1:Value} {od_1 an_1:Option Addr} {sl_1:Array (Option Value)} {f_2:Addr} {oc_2 kV_2 dc_2 pm_2 cd_2 ct_2:Value} {od_2 an_2:Option Addr} {sl_2:Array (Option Value)} {f_3:Addr} {oc_3 kV_3 dc_3 pm_3 cd_3 ct_3:Value} {od_3 an_3:Option Addr} {sl_3:Array (Option Value)} {f_4:Addr} {oc_4 kV_4 dc_4 pm_4 cd_4 ct_4:Value} {od_4 an_4:Option Addr} {sl_4:Array (Option Value)} {f_5:Addr} {oc_5 kV_5 dc_5 pm_5 cd_5 ct_5:Value} {od_5 an_5:Option Addr} {sl_5:Array (Option Value)} {f_6:Addr} {oc_6 kV_6 dc_6 pm_6 cd_6 ct_6:Value} {od_6 an_6:Option Addr} {sl_6:Array (Option Value)} {f_7:Addr} {oc_7 kV_7 dc_7 pm_7 cd_7 ct_7:Value} {od_7 an_7:Option Addr} {sl_7:Array (Option Value)} {f_8:Addr} {oc_8 kV_8 dc_8 pm_8 cd_8 ct_8:Value} {od_8 an_8:Option Addr} {sl_8:Array (Option Value)} {f_9:Addr} {oc_9 kV_9 dc_9 pm_9 cd_9 ct_9:Value} {od_9 an_9:Option Addr} {sl_9:Array (Option Value)} {f_10:Addr} {oc_10 kV_10 dc_10 pm_10 cd_10 ct_10:Value} {od_10 an_10:Option Addr} {sl_10:Array (Option Value)} {cc_by_height Pt_by_height:Addr} {oq_by_height:Value} {oe_by_height:Option Addr} {vs_by_height:Array Value} {sm_by_height:Array (Option Value)} {cc_by_area Pt_by_area:Addr} {oq_by_area:Value} {oe_by_area:Option Addr} {vs_by_area:Array Value} {sm_by_area:Array (Option Value)}
  (a_0:PySem.W.nsIn K mainGlobals "area_of" = some (some (.ref f_0)))
  (l_0:K.lookup f_0=some ⟨oc_0,od_0,.func (PySem.W.fnOf "area_of" "area_of" (k6 w8) (i5 w8) (a7 w8) .none kV_0 dc_0 pm_0 an_0 cd_0 ct_0),sl_0⟩)
  (c_0:PySem.W.codeIn K cd_0 "area_of" = true)
  (k_0:PySem.W.keepIn K (.ref f_0)=true)
  (a_1:PySem.W.nsIn K mainGlobals "by_height" = some (some (.ref f_1)))
  (l_1:K.lookup f_1=some ⟨oc_1,od_1,.func (PySem.W.fnOf "by_height" "by_height" (k6 r9) (i5 r9) (a7 r9) .none kV_1 dc_1 pm_1 an_1 cd_1 ct_1),sl_1⟩)
  (c_1:PySem.W.codeIn K cd_1 "by_height" = true)
  (k_1:PySem.W.keepIn K (.ref f_1)=true)
  (a_2:PySem.W.nsIn K mainGlobals "by_area" = some (some (.ref f_2)))
  (l_2:K.lookup f_2=some ⟨oc_2,od_2,.func (PySem.W.fnOf "by_area" "by_area" (k6 w9) (i5 w9) (a7 w9) .none kV_2 dc_2 pm_2 an_2 cd_2 ct_2),sl_2⟩)
  (c_2:PySem.W.codeIn K cd_2 "by_area" = true)
  (k_2:PySem.W.keepIn K (.ref f_2)=true)
  (a_3:PySem.W.nsIn K mainGlobals "_law_cell_at" = some (some (.ref f_3)))
  (l_3:K.lookup f_3=some ⟨oc_3,od_3,.func (PySem.W.fnOf "_law_cell_at" "_law_cell_at" (k6 y9) (i5 y9) (a7 y9) .none kV_3 dc_3 pm_3 an_3 cd_3 ct_3),sl_3⟩)
  (c_3:PySem.W.codeIn K cd_3 "_law_cell_at" = true)
  (k_3:PySem.W.keepIn K (.ref f_3)=true)
  (a_4:PySem.W.nsIn K mainGlobals "_law_whole" = some (some (.ref f_4)))
  (l_4:K.lookup f_4=some ⟨oc_4,od_4,.func (PySem.W.fnOf "_law_whole" "_law_whole" (k6 C7) (i5 C7) (a7 C7) .none kV_4 dc_4 pm_4 an_4 cd_4 ct_4),sl_4⟩)
  (c_4:PySem.W.codeIn K cd_4 "_law_whole" = true)
  (k_4:PySem.W.keepIn K (.ref f_4)=true)
  (a_5:PySem.W.nsIn K mainGlobals "_law_side" = some (some (.ref f_5)))
  (l_5:K.lookup f_5=some ⟨oc_5,od_5,.func (PySem.W.fnOf "_law_side" "_law_side" (k6 E4) (i5 E4) (a7 E4) .none kV_5 dc_5 pm_5 an_5 cd_5 ct_5),sl_5⟩)
  (c_5:PySem.W.codeIn K cd_5 "_law_side" = true)
  (k_5:PySem.W.keepIn K (.ref f_5)=true)
  (a_6:PySem.W.nsIn K mainGlobals "_law_ware" = some (some (.ref f_6)))
  (l_6:K.lookup f_6=some ⟨oc_6,od_6,.func (PySem.W.fnOf "_law_ware" "_law_ware" (k6 E5) (i5 E5) (a7 E5) .none kV_6 dc_6 pm_6 an_6 cd_6 ct_6),sl_6⟩)
  (c_6:PySem.W.codeIn K cd_6 "_law_ware" = true)
  (k_6:PySem.W.keepIn K (.ref f_6)=true)
  (a_7:PySem.W.nsIn K mainGlobals "_law_stream" = some (some (.ref f_7)))
  (l_7:K.lookup f_7=some ⟨oc_7,od_7,.func (PySem.W.fnOf "_law_stream" "_law_stream" (k6 B9) (i5 B9) (a7 B9) .none kV_7 dc_7 pm_7 an_7 cd_7 ct_7),sl_7⟩)
  (c_7:PySem.W.codeIn K cd_7 "_law_stream" = true)
  (k_7:PySem.W.keepIn K (.ref f_7)=true)
  (a_8:PySem.W.nsIn K mainGlobals "_law_wares" = some (some (.ref f_8)))
  (l_8:K.lookup f_8=some ⟨oc_8,od_8,.func (PySem.W.fnOf "_law_wares" "_law_wares" (k6 m5) (i5 m5) (a7 m5) .none kV_8 dc_8 pm_8 an_8 cd_8 ct_8),sl_8⟩)
  (c_8:PySem.W.codeIn K cd_8 "_law_wares" = true)
  (k_8:PySem.W.keepIn K (.ref f_8)=true)
  (a_9:PySem.W.nsIn K mainGlobals "_law_ordered" = some (some (.ref f_9)))
  (l_9:K.lookup f_9=some ⟨oc_9,od_9,.func (PySem.W.fnOf "_law_ordered" "_law_ordered" (k6 z0) (i5 z0) (a7 z0) .none kV_9 dc_9 pm_9 an_9 cd_9 ct_9),sl_9⟩)
  (c_9:PySem.W.codeIn K cd_9 "_law_ordered" = true)
  (k_9:PySem.W.keepIn K (.ref f_9)=true)
  (a_10:PySem.W.nsIn K mainGlobals "law" = some (some (.ref f_10)))
  (l_10:K.lookup f_10=some ⟨oc_10,od_10,.func (PySem.W.fnOf "law" "law" (k6 v3) (i5 v3) (a7 v3) .none kV_10 dc_10 pm_10 an_10 cd_10 ct_10),sl_10⟩)
  (c_10:PySem.W.codeIn K cd_10 "law" = true)
  (k_10:PySem.W.keepIn K (.ref f_10)=true)
  (tc_by_height:cd_1=.ref cc_by_height)
  (tk_by_height:K.lookup cc_by_height=some ⟨oq_by_height,oe_by_height,.fields vs_by_height,sm_by_height⟩)
  (tp_by_height:vs_by_height.getD 11 .none=.ref Pt_by_height)
  (tn_by_height:K.lookup Pt_by_height=none)
  (tr_by_height:(PyProof.Rows.recsOf q).any (fun d=>d.name == "by_height")=true)
  (tc_by_area:cd_2=.ref cc_by_area)
  (tk_by_area:K.lookup cc_by_area=some ⟨oq_by_area,oe_by_area,.fields vs_by_area,sm_by_area⟩)
  (tp_by_area:vs_by_area.getD 11 .none=.ref Pt_by_area)
  (tn_by_area:K.lookup Pt_by_area=none)
  (tr_by_area:(PyProof.Rows.recsOf q).any (fun d=>d.name == "by_area")=true)
  (ne_by_area_by_height:Pt_by_area≠Pt_by_height)
  (z_bool:PySem.W.nsIn K mainGlobals "bool" = some none)
  (z_enumerate:PySem.W.nsIn K mainGlobals "enumerate" = some none)
  (z_int:PySem.W.nsIn K mainGlobals "int" = some none)
  (z_isinstance:PySem.W.nsIn K mainGlobals "isinstance" = some none)
  (z_len:PySem.W.nsIn K mainGlobals "len" = some none)
  (z_list:PySem.W.nsIn K mainGlobals "list" = some none)
  (z_range:PySem.W.nsIn K mainGlobals "range" = some none)
  (z_sorted:PySem.W.nsIn K mainGlobals "sorted" = some none)
  (z_sum:PySem.W.nsIn K mainGlobals "sum" = some none)
  : ∃(fd:FuncData) (TB:List (Addr×Str)),(∀(s:Shared) (v:Value),BindsTo s fd ⟨[v],[]⟩ [("_law_script",v)])∧(∀Pa qq,TB.lookup Pa=some qq→(∃c,h.TableAt c Pa #[])∧K.lookup Pa=none)∧∃c:Str→Addr,∀base:Heap,K.In base→base.Ns mainGlobals mg→(∀b o,h.get? b=some o→o.cls≠.none→o.cls≠.type "list"→base.get? b=some o)→FnOk (PySem.Challenge.rw_cratefit_k03_wares_in_order).prog w K mg base (r0 (PySem.Challenge.rw_cratefit_k03_wares_in_order).prog w) 10 fa fd ["_law_script"] (G9 TB (a0x K c)):=by
 have e:=hfa.symm.trans (PySem.W.mg_of X G a_10)
 cases e
 have T:Txt K mg (U0 []):=⟨PySem.W.mg_none_of X G z_bool,PySem.W.mg_none_of X G z_enumerate,PySem.W.mg_none_of X G z_int,PySem.W.mg_none_of X G z_isinstance,PySem.W.mg_none_of X G z_len,PySem.W.mg_none_of X G z_list,PySem.W.mg_none_of X G z_range,PySem.W.mg_none_of X G z_sorted,PySem.W.mg_none_of X G z_sum⟩
 have TT_by_height:=a3X Tp X tr_by_height (PySem.W.mg_of X G a_1) l_1 tc_by_height tk_by_height tp_by_height
 have TT_by_area:=a3X Tp X tr_by_area (PySem.W.mg_of X G a_2) l_2 tc_by_area tk_by_area tp_by_area
 refine⟨PySem.W.fnOf "law" "law" (k6 v3) (i5 v3) (a7 v3) .none kV_10 dc_10 pm_10 an_10 cd_10 ct_10,[(Pt_by_height,("by_height.<locals>.<lambda>" : Str)),(Pt_by_area,("by_area.<locals>.<lambda>" : Str))],fun s v=>.of_eq rfl,fun Pa qq e=>?_,U0 [],fun base _ _ kp=>?_⟩
 ·simp only[List.lookup]at e
  split at e
  ·rename_i z;have z:=beq_iff_eq.mp z;subst z;exact⟨⟨_,TT_by_height.1⟩,tn_by_height⟩
  split at e
  ·rename_i z;have z:=beq_iff_eq.mp z;subst z;exact⟨⟨_,TT_by_area.1⟩,tn_by_area⟩
  ·cases e
 have hL_by_height:List.lookup Pt_by_height [(Pt_by_height,("by_height.<locals>.<lambda>" : Str)),(Pt_by_area,("by_area.<locals>.<lambda>" : Str))]=some "by_height.<locals>.<lambda>" := by simp[List.lookup,beq_false_of_ne ne_by_area_by_height]
 have hL_by_area:List.lookup Pt_by_area [(Pt_by_height,("by_height.<locals>.<lambda>" : Str)),(Pt_by_area,("by_area.<locals>.<lambda>" : Str))]=some "by_area.<locals>.<lambda>" := by simp[List.lookup,beq_false_of_ne ne_by_area_by_height]
 have F_0:=A4 (st:=w8) l_0 c_0 k_0
 have B_0:=F_0.binds (ps:=["wares"]) fun _ _ _ _ _ _ us hl=>match us,hl with | [_],_=>rfl
 have O_0:Own (PySem.Challenge.rw_cratefit_k03_wares_in_order).prog w K mg base 3 "area_of" ["wares"] (j1 K (U0 []) k8):=⟨_,_,a3u F_0 T ,B_0,k_0,PySem.W.mg_of X G a_0⟩
 have F_1:=A4 (st:=r9) l_1 c_1 k_1
 have B_1:=F_1.binds (ps:=["wares"]) fun _ _ _ _ _ _ us hl=>match us,hl with | [_],_=>rfl
 have O_1:Own (PySem.Challenge.rw_cratefit_k03_wares_in_order).prog w K mg base 3 "by_height" ["wares"] (G9 [(Pt_by_height,("by_height.<locals>.<lambda>" : Str)),(Pt_by_area,("by_area.<locals>.<lambda>" : Str))] (j1 K (U0 []) l3)):=⟨_,_,a2i F_1 T  (tc_by_height) (TT_by_height.2 base kp).1 (TT_by_height.2 base kp).2 hL_by_height,B_1,k_1,PySem.W.mg_of X G a_1⟩
 have F_2:=A4 (st:=w9) l_2 c_2 k_2
 have B_2:=F_2.binds (ps:=["wares"]) fun _ _ _ _ _ _ us hl=>match us,hl with | [_],_=>rfl
 have O_2:Own (PySem.Challenge.rw_cratefit_k03_wares_in_order).prog w K mg base 8 "by_area" ["wares"] (G9 [(Pt_by_height,("by_height.<locals>.<lambda>" : Str)),(Pt_by_area,("by_area.<locals>.<lambda>" : Str))] (j1 K (U0 []) u4)):=⟨_,_,a3w F_2 T O_0 (tc_by_area) (TT_by_area.2 base kp).1 (TT_by_area.2 base kp).2 hL_by_area,B_2,k_2,PySem.W.mg_of X G a_2⟩
 have F_3:=A4 (st:=y9) l_3 c_3 k_3
 have B_3:=F_3.binds (ps:=["_law_script","_law_k"]) fun _ _ _ _ _ _ us hl=>match us,hl with | [_,_],_=>rfl
 have O_3:Own (PySem.Challenge.rw_cratefit_k03_wares_in_order).prog w K mg base 3 "_law_cell_at" ["_law_script","_law_k"] (j1 K (U0 []) k5):=⟨_,_,a2k F_3 T ,B_3,k_3,PySem.W.mg_of X G a_3⟩
 have F_4:=A4 (st:=C7) l_4 c_4 k_4
 have B_4:=F_4.binds (ps:=["_law_found"]) fun _ _ _ _ _ _ us hl=>match us,hl with | [_],_=>rfl
 have O_4:Own (PySem.Challenge.rw_cratefit_k03_wares_in_order).prog w K mg base 3 "_law_whole" ["_law_found"] (j1 K (U0 []) m7):=⟨_,_,a3y F_4 T ,B_4,k_4,PySem.W.mg_of X G a_4⟩
 have F_5:=A4 (st:=E4) l_5 c_5 k_5
 have B_5:=F_5.binds (ps:=["_law_cell"]) fun _ _ _ _ _ _ us hl=>match us,hl with | [_],_=>rfl
 have O_5:Own (PySem.Challenge.rw_cratefit_k03_wares_in_order).prog w K mg base 3 "_law_side" ["_law_cell"] (j1 K (U0 []) B2):=⟨_,_,a4u F_5 T ,B_5,k_5,PySem.W.mg_of X G a_5⟩
 have F_6:=A4 (st:=E5) l_6 c_6 k_6
 have B_6:=F_6.binds (ps:=["_law_cell"]) fun _ _ _ _ _ _ us hl=>match us,hl with | [_],_=>rfl
 have O_6:Own (PySem.Challenge.rw_cratefit_k03_wares_in_order).prog w K mg base 5 "_law_ware" ["_law_cell"] (j1 K (U0 []) p9):=⟨_,_,a4v F_6 T O_5,B_6,k_6,PySem.W.mg_of X G a_6⟩
 have F_7:=A4 (st:=B9) l_7 c_7 k_7
 have B_7:=F_7.binds (ps:=["_law_cell","_law_many"]) fun _ _ _ _ _ _ us hl=>match us,hl with | [_,_],_=>rfl
 have O_7:Own (PySem.Challenge.rw_cratefit_k03_wares_in_order).prog w K mg base 3 "_law_stream" ["_law_cell","_law_many"] (j1 K (U0 []) C0):=⟨_,_,a2L F_7 T ,B_7,k_7,PySem.W.mg_of X G a_7⟩
 have F_8:=A4 (st:=m5) l_8 c_8 k_8
 have B_8:=F_8.binds (ps:=["_law_script"]) fun _ _ _ _ _ _ us hl=>match us,hl with | [_],_=>rfl
 have O_8:Own (PySem.Challenge.rw_cratefit_k03_wares_in_order).prog w K mg base 7 "_law_wares" ["_law_script"] (j1 K (U0 []) B4):=⟨_,_,a3A F_8 T O_3 O_6 O_7,B_8,k_8,PySem.W.mg_of X G a_8⟩
 have F_9:=A4 (st:=z0) l_9 c_9 k_9
 have B_9:=F_9.binds (ps:=["_law_found","_law_ranks"]) fun _ _ _ _ _ _ us hl=>match us,hl with | [_,_],_=>rfl
 have O_9:Own (PySem.Challenge.rw_cratefit_k03_wares_in_order).prog w K mg base 5 "_law_ordered" ["_law_found","_law_ranks"] (j1 K (U0 []) j5):=⟨_,_,a2n F_9 T O_4,B_9,k_9,PySem.W.mg_of X G a_9⟩
 have F_10:=A4 (st:=v3) l_10 c_10 k_10
 exact a9e F_10 T O_8 O_1 O_2 O_0 O_4 O_9
end Law
namespace Law
open PySem L2 PyProof.Rows
theorem walk{q:Program}{loose:List Str}{XP:(Str→Option Value)→Heap→Prop}{YP:World→Heap→Prop}{d:DefRec}{K:Params→PySem.W.Frag}(hdf:d.params.defaults=[])(hY:∀(w:World) (h:Heap),YP w h→(K w.params).In h)
  (F:∀(w:World) (mg mb:Str→Option Value) (fa:Addr) (h:Heap) (mean:ExcName→Option Value),(K w.params).In h→h.Ns mainGlobals mg→mg d.name=some (.ref fa)→PyProof.Rows.Top q (PySem.W.looseW q loose) mean mg mb h →
   ∃(fd:FuncData) (TB:List (Addr×Str)),(∀(s:Shared) (u:Value),BindsTo s fd ⟨[u],[]⟩ [("_law_script",u)])∧(∀Pa qq,TB.lookup Pa=some qq→(∃c,h.TableAt c Pa #[])∧(K w.params).lookup Pa=none)∧∃c:Str→Addr,∀base:Heap,(K w.params).In base→base.Ns mainGlobals mg→(∀b o,h.get? b=some o→o.cls≠.none→o.cls≠.type "list"→base.get? b=some o)→FnOk (PySem.Challenge.rw_cratefit_k03_wares_in_order).prog w (K w.params) mg base (r0 (PySem.Challenge.rw_cratefit_k03_wares_in_order).prog w) 10 fa fd ["_law_script"] (G9 TB (a0x (K w.params) c))) :
  PySem.W.WalkO q loose XP YP (PySem.Challenge.rw_cratefit_k03_wares_in_order).row.toRowW d [] (fun f vs=>PySem.call f vs):=by
 refine L2.walk_ofT (l:=PySem.Challenge.rw_cratefit_k03_wares_in_order) (n:=63) (k:=10) (x := "_law_script") (K:=K) (CX:=fun w=>r0 (PySem.Challenge.rw_cratefit_k03_wares_in_order).prog w) (sp:=fun w vs H Q E=>∀c,a0x (K w.params) c vs H Q E) rfl (by decide) hdf ⟨rfl,by decide,by decide⟩ hY (fun w mg mb fa h mean KX G hm Tp=>?_) (fun w H a ns h1 h2 h3 c=>⟨a,ns,rfl,h3,h2,h1,fun _=>rfl⟩) fun w H s e s' z=>a9k H s e s' z
 obtain⟨fd,TB,hb,hTb,c,hF⟩:=F w mg mb fa h mean KX G hm Tp
 exact⟨fd,TB,hb,hTb,fun base kb nb kp=>(hF base kb nb kp).imp fun vs H Q E z=>⟨z.1,z.2 c⟩⟩
end Law
local macro_rules|`(#check 0)=>do
 let g:=fun(n:Lean.Name)=>do
  let y:=Lean.mkIdent (.str `PySem.W.Fast s!"tw{n.hash}")
  `(theorem $y:ident : True:=trivial)
 let mut r:=#[←g `PySem.Challenge.pw_cratefit_k03_wares_in_order]
 for x in ["tree_47","tree_121","sts_49","heap_39","heap_46","heap_122","view_39","env_41"]++(List.range 79).map (s!"o_{·+43}") do r:=r.push (←g (.str `PySem.Challenge.cw_cratefit_k03_wares_in_order_holds x))
 return Lean.mkNullNode r
#check 0
open PySem.W
set_option maxRecDepth 100000 in
set_option maxHeartbeats 0 in
theorem PySem.Challenge.cw_cratefit_k03_wares_in_order_holds : PySem.Challenge.rw_cratefit_k03_wares_in_order.Holds := by
 w_on;o_law;k_head; (case hw=>w_witness2)
 k_fill
 refine Law.walk rfl (fun w h Y=>PySem.W.km_in_of Y) ?F
 case F =>
  intro w mg mb fa h mean KX G hmg Tp
  refine' Law.all_mk KX G hmg Tp ?a_area_of ?l_area_of ?c_area_of ?k_area_of ?a_by_height ?l_by_height ?c_by_height ?k_by_height ?a_by_area ?l_by_area ?c_by_area ?k_by_area ?a_l_cell_at ?l_l_cell_at ?c_l_cell_at ?k_l_cell_at ?a_l_whole ?l_l_whole ?c_l_whole ?k_l_whole ?a_l_side ?l_l_side ?c_l_side ?k_l_side ?a_l_ware ?l_l_ware ?c_l_ware ?k_l_ware ?a_l_stream ?l_l_stream ?c_l_stream ?k_l_stream ?a_l_wares ?l_l_wares ?c_l_wares ?k_l_wares ?a_l_ordered ?l_l_ordered ?c_l_ordered ?k_l_ordered ?a_law ?l_law ?c_law ?k_law ?tc_by_height ?tk_by_height ?tp_by_height ?tn_by_height ?tr_by_height ?tc_by_area ?tk_by_area ?tp_by_area ?tn_by_area ?tr_by_area ?ne_by_area_by_height ?z_bool ?z_enumerate ?z_int ?z_isinstance ?z_len ?z_list ?z_range ?z_sorted ?z_sum
  (case a_area_of=>k_is)
  (case l_area_of=>k_is)
  (case c_area_of=>k_is)
  (case k_area_of=>k_is)
  (case a_by_height=>k_is)
  (case l_by_height=>k_is)
  (case c_by_height=>k_is)
  (case k_by_height=>k_is)
  (case a_by_area=>k_is)
  (case l_by_area=>k_is)
  (case c_by_area=>k_is)
  (case k_by_area=>k_is)
  (case a_l_cell_at=>k_is)
  (case l_l_cell_at=>k_is)
  (case c_l_cell_at=>k_is)
  (case k_l_cell_at=>k_is)
  (case a_l_whole=>k_is)
  (case l_l_whole=>k_is)
  (case c_l_whole=>k_is)
  (case k_l_whole=>k_is)
  (case a_l_side=>k_is)
  (case l_l_side=>k_is)
  (case c_l_side=>k_is)
  (case k_l_side=>k_is)
  (case a_l_ware=>k_is)
  (case l_l_ware=>k_is)
  (case c_l_ware=>k_is)
  (case k_l_ware=>k_is)
  (case a_l_stream=>k_is)
  (case l_l_stream=>k_is)
  (case c_l_stream=>k_is)
  (case k_l_stream=>k_is)
  (case a_l_wares=>k_is)
  (case l_l_wares=>k_is)
  (case c_l_wares=>k_is)
  (case k_l_wares=>k_is)
  (case a_l_ordered=>k_is)
  (case l_l_ordered=>k_is)
  (case c_l_ordered=>k_is)
  (case k_l_ordered=>k_is)
  (case a_law=>k_is)
  (case l_law=>k_is)
  (case c_law=>k_is)
  (case k_law=>k_is)
  (case tc_by_height=>exact rfl)
  (case tk_by_height=>k_is)
  (case tp_by_height=>exact rfl)
  (case tn_by_height=>first | k_is | rfl | decide +kernel)
  (case tr_by_height=>first | rfl | decide +kernel)
  (case tc_by_area=>exact rfl)
  (case tk_by_area=>k_is)
  (case tp_by_area=>exact rfl)
  (case tn_by_area=>first | k_is | rfl | decide +kernel)
  (case tr_by_area=>first | rfl | decide +kernel)
  (case ne_by_area_by_height=>first | decide +kernel | simp)
  (case z_bool=>k_is)
  (case z_enumerate=>k_is)
  (case z_int=>k_is)
  (case z_isinstance=>k_is)
  (case z_len=>k_is)
  (case z_list=>k_is)
  (case z_range=>k_is)
  (case z_sorted=>k_is)
  (case z_sum=>k_is)
