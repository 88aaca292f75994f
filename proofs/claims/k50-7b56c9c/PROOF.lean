import PyProof.Rows.All
import Wide.All
import OpenK.AllK
import Wide.FinOn
import Lean
import PyProof.EqAt
import PyProof.EqKinds
import PyProof.TupleCall
import KE.KLam
import KE.KSortKey
import PyProof.ListRange
import PyProof.CollectIter
import PyProof.Rows.RuleB_bool
import PySem.Challenge.RW_cratefit_k50_words_and_wide_wares
set_option Elab.async false
set_option linter.all false
set_option maxRecDepth 100000
set_option hygiene false
namespace L2
open PySem PySem.Spec PyProof.Rows
abbrev t5:=Sum Int Str
def a8X:t5→Value→Bool
 | .inl k,v=>Value.isInt k v
 | .inr x,v=>Value.isStrOf x v
def b3U(w:World):t5→Int
 | .inl k=>hashInt k
 | .inr x=>hashStr w x
theorem w6:∀{k:t5} {v:Value},a8X k v=true→(∃i t,k=Sum.inl i∧v=Value.int i t)∨(∃x t,k=Sum.inr x∧v=Value.str x t)
 | .inl i,v,h=>by
  obtain⟨t,e⟩:=Value.isInt_shape (k:=i) (v:=v) h
  exact .inl ⟨i,t,rfl,e⟩
 | .inr x,v,h=>by
  obtain⟨t,e⟩:=Value.isStrOf_shape (x:=x) (v:=v) h
  exact .inr ⟨x,t,rfl,e⟩
theorem b1s(a b:Int):decide ((Sum.inl a:t5)=Sum.inl b)=(a == b):=by
 by_cases e:a=b
 ·subst e;simp
 ·have h:¬(Sum.inl a:t5)=Sum.inl b:=fun q=>e (Sum.inl.inj q)
  rw[decide_eq_false h]
  exact(beq_eq_false_iff_ne.mpr e).symm
theorem b1t(a b:Str):decide ((Sum.inr a:t5)=Sum.inr b)=decide (a=b):=by
 by_cases e:a=b
 ·subst e;simp
 ·have h:¬(Sum.inr a:t5)=Sum.inr b:=fun q=>e (Sum.inr.inj q)
  rw[decide_eq_false h,decide_eq_false e]
theorem b1u(a:Int)(b:Str):decide ((Sum.inl a:t5)=Sum.inr b)=false:=decide_eq_false (fun q=>nomatch q)
theorem b1v(a:Str)(b:Int):decide ((Sum.inr a:t5)=Sum.inl b)=false:=decide_eq_false (fun q=>nomatch q)
def a4z(prog:Program)(w:World):PySem.KeyKind prog w t5 where
 is:=a8X
 hash:=b3U w
 inj:=fun v a b ha hb=>by
  rcases w6 ha with⟨i,t,rfl,rfl⟩ | ⟨x,t,rfl,rfl⟩
  ·rcases w6 hb with⟨j,u,rfl,e⟩ | ⟨y,u,rfl,e⟩
   ·injection e with e1 _;rw[e1]
   ·exact nomatch e
  ·rcases w6 hb with⟨j,u,rfl,e⟩ | ⟨y,u,rfl,e⟩
   ·exact nomatch e
   ·injection e with e1 _;rw[e1]
 byValue:=fun k v h=>by
  rcases w6 h with⟨i,t,rfl,rfl⟩ | ⟨x,t,rfl,rfl⟩<;>rfl
 pyHash:=fun hv h=>by
  rcases w6 hv with⟨i,t,rfl,rfl⟩ | ⟨x,t,rfl,rfl⟩
  ·exact wpAny_pyHash_int h
  ·exact wpAny_pyHash_str h
 eqBool:=fun hu hv h=>by
  rcases w6 hu with⟨i,t,rfl,rfl⟩ | ⟨x,t,rfl,rfl⟩
  ·rcases w6 hv with⟨j,u,rfl,rfl⟩ | ⟨y,u,rfl,rfl⟩
   ·rw[b1s]at h;exact wpAny_eqBool_int h
   ·rw[b1u]at h;exact SeqAt.EqAt.int_str i t y u _ _ _ _ h
  ·rcases w6 hv with⟨j,u,rfl,rfl⟩ | ⟨y,u,rfl,rfl⟩
   ·rw[b1v]at h;exact SeqAt.EqAt.str_int x t j u _ _ _ _ h
   ·rw[b1t]at h;exact wpAny_eqBool_str h
 «strs» := fun k x t v h=>by
  rcases w6 h with⟨i,u,rfl,e⟩ | ⟨y,u,rfl,e⟩
  ·exact nomatch e
  ·injection e with e1 _
   subst e1
   cases v<;>rfl
inductive V where
 | non | bl (b:Bool) | int (i:Int) | str (x:Str) | byt (b:Array UInt8) | flt (b:UInt64) | ref (a:Addr) | ty (n:String)
 deriving DecidableEq
def RelV:V→Value→Prop
 | .non,u=>u=Value.none
 | .bl b,u=>u=Value.bool b
 | .int i,u=>∃t,u=Value.int i t
 | .str x,u=>∃t,u=Value.str x t
 | .byt b,u=>∃t,u=Value.bytes b t
 | .flt b,u=>∃t,u=Value.float b t
 | .ref a,u=>u=Value.ref a
 | .ty n,u=>u=Value.type n
abbrev Vals:List V→List Value→Prop:=Paired RelV
theorem Vals.length{xs:List V}{us:List Value}(r:Vals xs us):xs.length=us.length:=Paired.length r
theorem Vals.get:∀{xs:List V} {us:List Value} {i:Nat} {x:V},Vals xs us→xs[i]? = some x→∃u,us[i]? = some u∧RelV x u
 | _,_,_,_,.nil,e=>by simp at e
 | _,_,0,_,.cons r _,e=>by simp at e;subst e;exact⟨_,rfl,r⟩
 | _,_,i+1,x,.cons _ t,e=>by
  obtain⟨u,h1,h2⟩:=Vals.get (i:=i) (x:=x) t (by simpa using e)
  exact⟨u,by simpa using h1,h2⟩
theorem Vals.set{x:V}{u:Value}(r:RelV x u):∀{xs:List V} {us:List Value} (i:Nat),Vals xs us→Vals (xs.set i x) (us.set i u)
 | _,_,_,.nil=>.nil
 | _,_,0,.cons _ t=>.cons r t
 | _,_,i+1,.cons q t=>.cons q (Vals.set r i t)
theorem Vals.append:∀{xs ys:List V} {us ws:List Value},Vals xs us→Vals ys ws→Vals (xs++ys) (us++ws)
 | _,_,_,_,.nil,s=>s
 | _,_,_,_,.cons r t,s=>.cons r (Vals.append t s)
theorem Vals.take:∀{xs:List V} {us:List Value} (n:Nat),Vals xs us→Vals (xs.take n) (us.take n)
 | _,_,0,_=>.nil
 | _,_,_+1,.nil=>.nil
 | _,_,n+1,.cons r t=>.cons r (Vals.take n t)
theorem Vals.drop:∀{xs:List V} {us:List Value} (n:Nat),Vals xs us→Vals (xs.drop n) (us.drop n)
 | _,_,0,r=>r
 | _,_,_+1,.nil=>.nil
 | _,_,n+1,.cons _ t=>Vals.drop n t
theorem Vals.none_of:∀{xs:List V} {us:List Value} {i:Nat},Vals xs us→xs[i]? = none→us[i]? = none:=fun{xs us i} r e=>by
 have h1:=r.length
 have h2:xs.length≤i:=List.getElem?_eq_none_iff.mp e
 exact List.getElem?_eq_none_iff.mpr (by omega)
def RelO:Option V→Option Value→Prop
 | some v,some u=>RelV v u
 | none,none=>True
 | _,_=>False
def KV{κ:Type}:List (κ×V)→List (κ×Value)→Prop:=Paired fun(p:κ×V) (q:κ×Value)=>p.1=q.1∧RelV p.2 q.2
def kV:t5→V
 | .inl i=>.int i
 | .inr x=>.str x
inductive HO where
 /-- a list -/
 | lst (xs:List V)
 /-- a tuple (never changes) -/
 | tup (xs:List V)
 /-- a dict whose keys are ints and texts; one whose keys are tuples of ints and texts (the empty one is both) -/
 | dK (kvs:List (t5×V)) | dT (kvs:List (List t5×V))
 /-- a set of ints: its members, its size -/
 | set (S:Int→Bool) (n:Nat)
 /-- an instance of the class at C, its dict at dx, its attributes -/
 | ins (C dx:Addr) (fs:List (Str×V))
 /-- the dict of the instance at x -/
 | own (x:Addr)
 /-- the dict of an exception -/
 | xd (fs:List (Str×V))
 /-- a bound method, f of x -/
 | met (f x:Addr)
 /-- a range object lo, lo + 1, .. below hi -/
 | rng (lo hi:Int)
 /-- a thing that is known to the object (the script; a dict while a loop walks it): read, never written while it is so -/
 | frz (o:Obj) (u:HO)
 /-- a code object's table -/
 | tbl (ps:Array Value)
 /-- any other thing, by what is true of its one object (a def of one's own: SetO a S n := HO.ext fun h => ..) -/
 | ext (φ:Heap→Prop)
abbrev Hp:=Addr→Option HO
def upd(H:Hp)(a:Addr)(o:HO):Hp:=fun b=>if b=a then some o else H b
theorem i0{H:Hp}{a:Addr}{o:HO}:upd H a o a=some o:=by unfold upd;rw[if_pos rfl]
theorem d5{H:Hp}{a b:Addr}{o:HO}(h:b≠a):upd H a o b=H b:=by unfold upd;rw[if_neg h]
theorem b26{H:Hp}{a b:Addr}{o u:HO}(h:H a=some o)(h':H b=some u)(d:o≠u):a≠b:=by
 intro e;subst e;rw[h]at h';exact d (Option.some.inj h')
theorem g9{H:Hp}{a b:Addr}{o:HO}(h:H a=some o)(h':H b=none):a≠b:=by
 intro e;subst e;rw[h]at h';cases h'
section
variable (P:Program)(w:World)
def ObjOk(H:Hp)(h:Heap)(a:Addr):HO→Prop
 | .lst xs=>xs.length≤sizeLine∧∃(its:List Value) (n:Nat),Vals xs its∧h.get? a=some { cls:=.type "list",data:=.seq its.toArray n }
 | .tup xs=>xs.length≤sizeLine∧∃its:List Value,Vals xs its∧IsTup h a its.toArray
 | .dK kvs=>kvs.length≤sizeLine∧(a == sysModules)=false∧∃vs,KV kvs vs∧h.DictOf (a4z P w) a vs
 | .dT kvs=>kvs.length≤sizeLine∧(a == sysModules)=false∧∃xs:List (List t5×Addr×Value),
   Paired (fun(p:List t5×V) (q:List t5×Addr×Value)=>p.1=q.1∧H q.2.1=some (.tup (p.1.map kV))∧RelV p.2 q.2.2) kvs xs ∧
   ∃o es ep,h.get? a=some o∧o.ExactDict∧o.data=.dict es ep∧es.toList=xs.map (entryOfKey (tupleKind (a4z P w)))∧(xs.map (·.1)).Nodup
 | .set S n=>h.SetOf (intKind P w) a S n
 | .ins C dx fs=>H dx=some (.own a)∧fs.length≤1000∧dx≠a∧h.get? a=some (W.instObj C dx) ∧
   ∃mA,h.Ns1 dx mA∧(∀f,RelO (fs.lookup f) (mA f))∧PySem.Within mA (fs.map (·.1))
 | .own _=>∃o,h.get? a=some o
 | .xd fs=>∃mA,h.Ns1 a mA∧∀f,RelO (fs.lookup f) (mA f)
 | .rng lo hi=>∃t u v,h.get? a=some { cls:=.type "range",data:=.fields #[.int lo t,.int hi u,.int 1 v] }
 | .frz o u=>h.get? a=some o∧ObjOk H h a u
 | .tbl qs=>∃ps:Array Value,h.get? a=some { cls:=.none,data:=.fields ps }∧TriplesOk ps.toList∧∀pos cv,codeAmong pos ps.toList=some cv→∃c oc u,cv=Value.ref c∧H c=some (.frz oc u)∧∃vs q t t2,oc.data=.fields vs∧vs[1]? = some (Value.str q t2)∧qs[0]? = some (Value.str q t)
 | .met f x=>h.get? a=some (W.methodObj (.ref f) (.ref x))
 | .ext φ=>φ h∧(∃o,h.get? a=some o)∧∀h1 h2:Heap,φ h1→(∀o,h1.get? a=some o→h2.get? a=some o)→φ h2
def HOk(H:Hp)(h:Heap):Prop:=∀a o,H a=some o→ObjOk P w H h a o
end
section
variable {P:Program}{w:World}{H H':Hp}{h h':Heap}{a:Addr}{o:HO}
theorem ObjOk.lt(x:ObjOk P w H h a o):a<h.objs.size:=by
 cases o with
 | lst xs=>obtain⟨_,_,_,_,e⟩:=x;exact Heap.lt_size e
 | tup xs=>obtain⟨_,_,_,p⟩:=x;exact p.lt
 | dK kvs=>obtain⟨_,_,_,_,o,_,_,e,_⟩:=x;exact Heap.lt_size e
 | dT kvs=>obtain⟨_,_,_,_,o,_,_,e,_⟩:=x;exact Heap.lt_size e
 | set S n=>obtain⟨o,_,_,_,e,_⟩:=x;exact Heap.lt_size e
 | ins C dx fs=>obtain⟨_,_,_,e,_⟩:=x;exact Heap.lt_size e
 | own y=>obtain⟨_,e⟩:=x;exact Heap.lt_size e
 | xd fs=>obtain⟨_,⟨_,_,_,e,_⟩,_⟩:=x;exact Heap.lt_size e
 | rng lo hi=>obtain⟨_,_,_,e⟩:=x;exact Heap.lt_size e
 | frz ob u=>obtain⟨e,_⟩:=x;exact Heap.lt_size e
 | tbl ps=>obtain⟨_,e,_⟩:=x;exact Heap.lt_size e
 | met f y=>exact Heap.lt_size (show h.get? a=some _ from x)
 | ext φ=>obtain⟨_,⟨_,e⟩,_⟩:=x;exact Heap.lt_size e
theorem Paired.mapP{α β:Type}{F G:α→β→Prop}:∀{l₁:List α} {l₂:List β},Paired F l₁ l₂→(∀a b,F a b→G a b)→Paired G l₁ l₂
 | _,_,.nil,_=>.nil
 | _,_,.cons r t,f=>.cons (f _ _ r) (Paired.mapP t f)
theorem ObjOk.stay(x:ObjOk P w H h a o)(k:∀b u,(b=a∨H b=some (.own a))→h.get? b=some u→h'.get? b=some u)
  (ho:∀b,H b=some (.own a)→H' b=some (.own a)) (ht:∀b xs,H b=some (.tup xs)→H' b=some (.tup xs)) (hz:∀b ob u,H b=some (.frz ob u)→H' b=some (.frz ob u)):ObjOk P w H' h' a o:=by
 induction o with
 | lst xs=>obtain⟨z,its,n,r,e⟩:=x;exact⟨z,its,n,r,k _ _ (.inl rfl) e⟩
 | tup xs=>obtain⟨z,its,r,ob,e,c⟩:=x;exact⟨z,its,r,ob,k _ _ (.inl rfl) e,c⟩
 | dK kvs=>obtain⟨z,y,vs,r,ob,es,ep,e,c⟩:=x;exact⟨z,y,vs,r,ob,es,ep,k _ _ (.inl rfl) e,c⟩
 | dT kvs =>
  obtain⟨z,y,xs,r,ob,es,ep,e,c⟩:=x
  exact⟨z,y,xs,Paired.mapP r fun p q z=>⟨z.1,ht _ _ z.2.1,z.2.2⟩,ob,es,ep,k _ _ (.inl rfl) e,c⟩
 | set S n=>obtain⟨ob,es,ep,t,e,c⟩:=x;exact⟨ob,es,ep,t,k _ _ (.inl rfl) e,c⟩
 | ins C dx fs =>
  obtain⟨d,z,ne,e,mA,⟨od,es,ep,e2,c⟩,r⟩:=x
  exact⟨ho _ d,z,ne,k _ _ (.inl rfl) e,mA,⟨od,es,ep,k _ _ (.inr d) e2,c⟩,r⟩
 | own y=>obtain⟨ob,e⟩:=x;exact⟨ob,k _ _ (.inl rfl) e⟩
 | xd fs=>obtain⟨mA,⟨od,es,ep,e,c⟩,r⟩:=x;exact⟨mA,⟨od,es,ep,k _ _ (.inl rfl) e,c⟩,r⟩
 | rng lo hi=>obtain⟨t,u,v,e⟩:=x;exact⟨t,u,v,k _ _ (.inl rfl) e⟩
 | frz ob u ih=>obtain⟨e,q⟩:=x;exact⟨k _ _ (.inl rfl) e,ih q⟩
 | tbl qs =>
  obtain⟨ps,e,tr,al⟩:=x
  refine⟨ps,k a _ (.inl rfl) e,tr,fun pos cv q=>?_⟩
  obtain⟨c,oc,u,e1,e3,r⟩:=al pos cv q
  exact⟨c,oc,u,e1,hz _ _ _ e3,r⟩
 | met f y =>
  have e:h.get? a=some (W.methodObj (.ref f) (.ref y)):=x
  show h'.get? a=some (W.methodObj (.ref f) (.ref y))
  exact k a _ (.inl rfl) e
 | ext φ=>obtain⟨p,⟨o,e⟩,st⟩:=x;exact⟨st _ _ p fun o q=>k _ _ (.inl rfl) q,⟨o,k _ _ (.inl rfl) e⟩,st⟩
theorem HOk.lt(x:HOk P w H h)(e:H a=some o):a<h.objs.size:=(x a o e).lt
theorem HOk.fresh(x:HOk P w H h)(e:h.objs.size≤a):H a=none:=by
 cases q:H a with
 | none=>rfl
 | some u=>exact absurd (Nat.lt_of_lt_of_le (x.lt q) e) (Nat.lt_irrefl _)
theorem HOk.kept(x:HOk P w H h)(k:∀b u,h.get? b=some u→h'.get? b=some u):HOk P w H h':=fun a o e =>
 (x a o e).stay (fun b u _ q=>k b u q) (fun _ q=>q) (fun _ _ q=>q) fun _ _ _ q=>q
theorem HOk.laid(x:HOk P w H h)(k:∀b u,h.get? b=some u→h'.get? b=some u)(hp:h.objs.size≤a)(new:ObjOk P w (upd H a o) h' a o):HOk P w (upd H a o) h':=fun b u e=>by
 have hn:=x.fresh hp
 by_cases hb:b=a
 ·subst hb;rw[i0]at e;cases e;exact new
 ·rw[d5 hb]at e
  exact(x b u e).stay (fun c v _ q=>k c v q) (fun c q=>by rw[d5 (g9 q hn)];exact q) (fun c xs q=>by rw[d5 (g9 q hn)];exact q) fun c ob u q=>by rw[d5 (g9 q hn)];exact q
end
def Rd(H:Hp)(a:Addr)(u:HO):Prop:=H a=some u∨∃o,H a=some (.frz o u)
theorem Rd.of{H:Hp}{a:Addr}{u:HO}(h:H a=some u):Rd H a u:=.inl h
theorem Rd.ok{P:Program}{w:World}{H:Hp}{h:Heap}{a:Addr}{u:HO}(r:Rd H a u)(x:HOk P w H h):ObjOk P w H h a u:=by
 rcases r with r | ⟨o,r⟩
 ·exact x a u r
 ·obtain⟨_,q⟩:=x a _ r
  exact q
def Mut:Option HO→Prop
 | some (.lst _)=>True
 | some (.dK _)=>True
 | some (.dT _)=>True
 | some (.set _ _)=>True
 | some (.ins _ _ _)=>True
 | some (.ext _)=>True
 | _=>False
section
variable {P:Program}{w:World}{H:Hp}{h h':Heap}{x e:Addr}{o':HO}
theorem HOk.write(ok:HOk P w H h)(mu:Mut (H x))(he:e=x∨H e=some (.own x))(k:∀b u,b≠e→h.get? b=some u→h'.get? b=some u)(heo:∃u,h'.get? e=some u)
  (new:ObjOk P w (upd H x o') h' x o'):HOk P w (upd H x o') h':=fun b u q=>by
 have nown:∀c y,H c=some (.own y)→c≠x:=fun c y r z=>by subst z;rw[r]at mu;exact mu
 have ntup:∀c xs,H c=some (.tup xs)→c≠x:=fun c xs r z=>by subst z;rw[r]at mu;exact mu
 by_cases hb:b=x
 ·subst hb;rw[i0]at q;cases q;exact new
 ·rw[d5 hb]at q
  by_cases hbe:b=e
  ·have q':H b=some (.own x):=by
    rcases he with z | z
    ·exact absurd (hbe.trans z) hb
    ·rw[hbe];exact z
   rw[q]at q';cases q'
   obtain⟨v,hv⟩:=heo
   exact⟨v,by rw[hbe];exact hv⟩
  ·refine(ok b u q).stay (fun c v hc r=>k c v ?_ r) (fun c r=>by rw[d5 (nown c b r)];exact r) (fun c xs r=>by rw[d5 (ntup c xs r)];exact r) fun c ob u r=>by rw[d5 (fun z=>by subst z;rw[r]at mu;exact mu)];exact r
   rcases hc with rfl | hc
   ·exact hbe
   ·rintro rfl
    rcases he with z | z
    ·exact nown c b hc z
    ·rw[hc]at z;cases z;exact hb rfl
end
structure Un(fs ex:List Addr)(H H':Hp)(h h':Heap):Prop where
 keep:∀b o,h.get? b=some o→H b=none→b ∉ fs→b ∉ ex→h'.get? b=some o
 slot:∀b o,h.get? b=some o→H b=none→b∈fs→b ∉ ex→∃sl,h'.get? b=some { o with slots:=sl }
 free:∀b o,h.get? b=some o→H b=none→b ∉ ex→H' b=none
 there:∀b o,h.get? b=some o→b ∉ ex→∃o',h'.get? b=some o'
 tups:∀b xs,H b=some (.tup xs)→H' b=some (.tup xs)
 frzs:∀b o u,H b=some (.frz o u)→H' b=some (.frz o u)
 tbls:∀b ps,H b=some (.tbl ps)→∃more,H' b=some (.tbl (ps++more))
section
variable {fs fs' ex ex':List Addr}{H H1 H2:Hp}{h h1 h2 h':Heap}{a x e:Addr}{o:HO}
theorem Un.any(u:Un fs ex H H1 h h1){b:Addr}{ob:Obj}(q:h.get? b=some ob)(n:H b=none)(hx:b ∉ ex):∃sl,h1.get? b=some { ob with slots:=sl }:=by
 by_cases hb:b∈fs
 ·exact u.slot b ob q n hb hx
 ·exact⟨ob.slots,u.keep b ob q n hb hx⟩
theorem Un.trans(a:Un fs ex H H1 h h1)(b:Un fs ex H1 H2 h1 h2):Un fs ex H H2 h h2 where
 keep:=fun c ob q n hc hx=>b.keep c ob (a.keep c ob q n hc hx) (a.free c ob q n hx) hc hx
 slot:=fun c ob q n hc hx=>by
  obtain⟨sl,e1⟩:=a.slot c ob q n hc hx
  obtain⟨sl',e2⟩:=b.slot c _ e1 (a.free c ob q n hx) hc hx
  exact⟨sl',e2⟩
 free:=fun c ob q n hx=>by
  obtain⟨o',e1⟩:=a.there c ob q hx
  exact b.free c o' e1 (a.free c ob q n hx) hx
 there:=fun c ob q hx=>by
  obtain⟨o',e1⟩:=a.there c ob q hx
  exact b.there c o' e1 hx
 tups:=fun c xs q=>b.tups c xs (a.tups c xs q)
 frzs:=fun c ob xs q=>b.frzs c ob xs (a.frzs c ob xs q)
 tbls:=fun c ps q=>by
  obtain⟨m1,e1⟩:=a.tbls c ps q
  obtain⟨m2,e2⟩:=b.tbls c _ e1
  exact⟨m1++m2,by rw[e2,Array.append_assoc]⟩
theorem Un.kept(k:∀b u,h.get? b=some u→h'.get? b=some u):Un fs ex H H h h' :=
 ⟨fun b ob q _ _ _=>k b ob q,fun b ob q _ _ _=>⟨ob.slots,k b ob q⟩,fun _ _ _ n _=>n,fun b ob q _=>⟨ob,k b ob q⟩,fun _ _ q=>q,fun _ _ _ q=>q,fun _ ps q=>⟨#[],by rw[q];simp⟩⟩
theorem Un.refl:Un fs ex H H h h:=Un.kept fun _ _ q=>q
theorem Un.laid(k:∀b u,h.get? b=some u→h'.get? b=some u)(hp:h.objs.size≤a)(hn:H a=none):Un fs ex H (upd H a o) h h' where
 keep:=fun b u q _ _ _=>k b u q
 slot:=fun b u q _ _ _=>⟨u.slots,k b u q⟩
 free:=fun b u q n _=>by rw[d5 (Nat.ne_of_lt (Nat.lt_of_lt_of_le (Heap.lt_size q) hp))];exact n
 there:=fun b u q _=>⟨u,k b u q⟩
 tups:=fun b xs q=>by rw[d5 (g9 q hn)];exact q
 frzs:=fun b u xs q=>by rw[d5 (g9 q hn)];exact q
 tbls:=fun b ps q=>⟨#[],by rw[d5 (g9 q hn),q];simp⟩
theorem Un.write(mu:Mut (H x))(he:e=x∨H e=some (.own x))(k:∀b u,b≠e→h.get? b=some u→h'.get? b=some u)(heo:∃u,h'.get? e=some u):Un fs ex H (upd H x o) h h':=by
 have hx:∀b,H b=none→b≠x:=fun b n z=>by subst z;rw[n]at mu;exact mu
 have hb:∀b,H b=none→b≠e:=fun b n z=>by
  subst z
  rcases he with r | r
  ·exact hx b n r
  ·rw[n]at r;cases r
 have hm:∀b u,H b=some u→¬Mut (some u)→b≠x:=fun b u q nm z=>by subst z;rw[q]at mu;exact nm mu
 refine⟨fun b u q n _ _=>k b u (hb b n) q,fun b u q n _ _=>⟨u.slots,k b u (hb b n) q⟩,fun b u q n _=>by rw[d5 (hx b n)];exact n,fun b u q _=>?_,
  fun b xs q=>by rw[d5 (hm b _ q fun z=>z)];exact q,fun b u xs q=>by rw[d5 (hm b _ q fun z=>z)];exact q,fun b ps q=>⟨#[],by rw[d5 (hm b _ q fun z=>z),q];simp⟩⟩
 by_cases hbe:b=e
 ·subst hbe;exact heo
 ·exact⟨u,k b u hbe q⟩
theorem Un.mono(u:Un fs ex H H1 h h1)(hs:∀b∈fs,b∈fs')(hx:∀b∈ex,b∈ex'):Un fs' ex' H H1 h h1 :=
 ⟨fun b ob q n hb he=>u.keep b ob q n (fun z=>hb (hs b z)) fun z=>he (hx b z),fun _ _ q n _ he=>u.any q n fun z=>he (hx _ z),fun b ob q n he=>u.free b ob q n fun z=>he (hx b z),fun b ob q he=>u.there b ob q fun z=>he (hx b z),u.tups,u.frzs,u.tbls⟩
end
def trk(h:Heap)(H:Hp):List Addr:=(List.range h.objs.size).filter fun a=>(H a).isSome
def T6(h:Heap)(H:Hp):Heap:=W.hideAll h (trk h H)
theorem a50(h:Heap)(H:Hp):(T6 h H).objs.size=h.objs.size:=W.hideAll_size _ _
theorem a7B{h:Heap}{H:Hp}{b:Addr}{o:Obj}(e:h.get? b=some o)(n:H b=none):(T6 h H).get? b=some o :=
 W.hideAll_get _ e fun hm=>by
  have q:(H b).isSome=true:=(List.mem_filter.mp hm).2
  rw[n]at q;simp at q
theorem a9G{h:Heap}{H:Hp}{b:Addr}{o:Obj}(e:(T6 h H).get? b=some o):h.get? b=some o∧H b=none:=by
 have e':h.get? b=some o:=W.of_hideAll (trk h H) e
 refine⟨e',?_⟩
 cases q:H b with
 | none=>rfl
 | some x =>
  have hm:b∈trk h H:=List.mem_filter.mpr ⟨List.mem_range.mpr (Heap.lt_size e'),by simp[q]⟩
  have z:(T6 h H).get? b=none:=W.hideAll_none (trk h H) hm
  rw[z]at e;cases e
def a9H(g h:Heap)(L:Addr):List (Addr×Obj):=(List.range h.objs.size).filterMap fun a=>if a=L∨(g.get? a).isSome=true then none else(h.get? a).map fun o=>(a,o)
def i5(g h:Heap)(L d:Addr):List (Addr×Obj):=(a9H g h L).filter fun p=>decide (p.1≠d)
structure Mod(K:W.Frag)(mg:Str→Option Value)(base:Heap):Prop where
 kin:K.In base
 glob:base.Ns mainGlobals mg
 blt:∃mb,base.Ns builtinsNs mb∧∀x:Str,x≠"__name__"→mb x=bootBuiltins x
 nolimit:base.NoLimit
structure Cx where
 prog:Program
 w:World
 K:W.Frag
 mg:Str→Option Value
 base:Heap
 A:Around
 N:List Str
 s₀:Shared
 H₀:Hp
 env:Env
 outer:List Env
 stack:List Env
 ex:List Addr
 fn:Str→Bool
 calm:Bool
 pn:List (Addr×Obj)
 xe:Value→Shared→Prop
def A4(l:List Env):List Addr:=l.filterMap (·.frame)
abbrev Cx.fs(X:Cx):List Addr:=A4 X.outer
def Vis(sc:Scope)(x:Str):Prop:=sc.names.lookup x=some .local∨sc.names.lookup x=some .cell∨sc.names.lookup x=some .free
def Loc(sc:Scope)(x:Str):Prop:=sc.names.lookup x=some .local∨sc.names.lookup x=some .cell
def b3V(env:Env)(h:Heap)(m:Str→Option Value)(x:Str)(u:Value):Prop :=
 (env.kindOf x=some .local∧m x=some u)∨((env.kindOf x=some .cell∨env.kindOf x=some .free)∧∃c,env.cells.lookup x=some c∧h.IsCell c (some u))
structure Cx.Ok(X:Cx):Prop where
 mod:Mod X.K X.mg X.base
 kind:X.env.scope.kind=.function
 glob:X.env.globals=mainGlobals
 blt:X.env.builtins=builtinsNs
 above:X.s₀.heap.objs.size≤X.env.locals
 inj:∀x y c,X.env.cells.lookup x=some c→X.env.cells.lookup y=some c→x=y
 has:∀x,(X.env.kindOf x=some .cell∨X.env.kindOf x=some .free)→∃c,X.env.cells.lookup x=some c
 cab:∀x c,X.fn x=true→X.env.cells.lookup x=some c→X.s₀.heap.objs.size≤c
 hd:X.calm=true→X.A.handled=none
 frames:X.A.frames=some X.stack
 stk:X.stack=X.outer∨(X.stack=X.env::X.outer∧X.env.frame=some X.env.locals)
 exf:∀b∈X.ex,b≠X.env.locals∧∀x c,X.env.cells.lookup x=some c→c≠b
 bs:∀b o,X.base.get? b=some o→X.s₀.heap.get? b=some o∧X.H₀ b=none
 bsz:X.base.objs.size≤X.s₀.heap.objs.size
 noex:∀b o,X.base.get? b=some o→b ∉ X.ex
 exfs:∀b∈X.ex,b ∉ X.fs
 funs:X.s₀.heap.FunFrames X.base X.outer
 frf:∀b∈X.fs,X.H₀ b=none
structure Inv(X:Cx)(pins:List (Addr×Obj))(σ:List (Option V))(H:Hp)(s:Shared):Prop where
 ok:X.Ok
 os:s.os=X.s₀.os
 bare:AllBare s.gens
 base:Un X.fs X.ex X.H₀ H X.s₀.heap s.heap
 loc:∃m,s.heap.Ns X.env.locals m∧∀(i:Nat) (x:Str) (v:V),X.N[i]? = some x→σ[i]? = some (some v)→Vis X.env.scope x→∃u,RelV v u∧b3V X.env s.heap m x u
 cell:∀x c,X.env.cells.lookup x=some c→∃v,s.heap.IsCell c v
 free:H X.env.locals=none
 freeC:∀x c,X.env.cells.lookup x=some c→H c=none
 pin:∀p∈X.pn++pins,s.heap.get? p.1=some p.2∧H p.1=none∧p.1≠X.env.locals∧p.1 ∉ X.fs∧∀v,p.2.data≠.cell v
 hok:HOk X.prog X.w H s.heap
 len:σ.length=X.N.length
section
variable {X:Cx}{pins:List (Addr×Obj)}{σ:List (Option V)}{H H':Hp}{s:Shared}{h':Heap}
theorem Cx.Ok.nofr(ok:X.Ok){b:Addr}{o:Obj}(e:X.base.get? b=some o):b ∉ X.fs:=fun hb=>by
 have:=(ok.funs.mem hb).1
 rw[e]at this;cases this
theorem Inv.bs(I:Inv X pins σ H s):∀b o,X.base.get? b=some o→s.heap.get? b=some o∧H b=none:=fun b o e =>
 ⟨I.base.keep b o (I.ok.bs b o e).1 (I.ok.bs b o e).2 (I.ok.nofr e) (I.ok.noex b o e),I.base.free b o (I.ok.bs b o e).1 (I.ok.bs b o e).2 (I.ok.noex b o e)⟩
theorem Inv.bk(I:Inv X pins σ H s):∀b o,X.base.get? b=some o→s.heap.get? b=some o:=fun b o e=>(I.bs b o e).1
theorem Inv.mod(I:Inv X pins σ H s):Mod X.K X.mg X.base:=I.ok.mod
theorem Inv.kIn(I:Inv X pins σ H s):X.K.In s.heap:=I.ok.mod.kin.keeps I.bk
theorem Inv.nolimit(I:Inv X pins σ H s):s.heap.NoLimit:=I.ok.mod.nolimit.keeps I.bk
theorem Inv.fr(I:Inv X pins σ H s):∃m,Fr X.base X.env.locals s.heap m :=
 let ⟨m,hn,_⟩:=I.loc
 ⟨m,hn,I.bk,Nat.le_trans I.ok.bsz I.ok.above⟩
theorem Inv.lt(I:Inv X pins σ H s):X.env.locals<s.heap.objs.size:=let ⟨_,hn,_⟩:=I.loc;hn.lt
theorem Inv.sz(I:Inv X pins σ H s):X.s₀.heap.objs.size≤s.heap.objs.size:=Nat.le_trans I.ok.above (Nat.le_of_lt I.lt)
theorem Inv.nofs(I:Inv X pins σ H s){a:Addr}(h:s.heap.objs.size≤a):a ∉ X.fs:=fun hb=>by
 obtain⟨_,o,ho,_⟩:=I.ok.funs.mem hb
 exact absurd (Nat.lt_of_lt_of_le (Heap.lt_size ho) (Nat.le_trans I.sz h)) (Nat.lt_irrefl _)
theorem Inv.cne(I:Inv X pins σ H s):∀x c,X.env.cells.lookup x=some c→c≠X.env.locals:=fun x c e z=>by
 obtain⟨v,o,ho,hd⟩:=I.cell x c e
 obtain⟨m,⟨o',es,ep,ho',hd',_⟩,_⟩:=I.loc
 rw[z,ho']at ho;cases ho;rw[hd']at hd;cases hd
theorem Inv.funs(I:Inv X pins σ H s):s.heap.FunFrames X.base X.outer:=by
 have all:∀(l:List Env),(∀b∈A4 l,b∈X.fs)→X.s₀.heap.FunFrames X.base l→s.heap.FunFrames X.base l:=by
  intro l
  induction l with
  | nil=>intro _ _;trivial
  | cons env r ih =>
   intro hs hl
   obtain⟨hk,⟨L,o,hf,hn,ho,hd⟩,hr⟩:=hl
   have hL:L∈X.fs:=hs L (by unfold A4;rw[List.filterMap_cons,hf];exact List.mem_cons_self)
   obtain⟨sl,e⟩:=I.base.slot L o ho (I.ok.frf L hL) hL fun z=>I.ok.exfs L z hL
   exact⟨hk,⟨L,_,hf,hn,e,hd⟩,ih (fun b hb=>hs b (by unfold A4;rw[List.filterMap_cons,hf];exact List.mem_cons_of_mem _ hb)) hr⟩
 exact all X.outer (fun _ hb=>hb) I.ok.funs
theorem Inv.stack(I:Inv X pins σ H s):s.heap.FunFrames X.base X.stack:=by
 rcases I.ok.stk with e | ⟨e,hf⟩
 ·rw[e];exact I.funs
 ·rw[e]
  obtain⟨m,hn,_⟩:=I.loc
  refine .cons (by rw[I.ok.kind];decide) hf hn ?_ I.funs
  exact Heap.get?_none_of_le (Nat.le_trans I.ok.bsz I.ok.above)
theorem Inv.stkSub(I:Inv X pins σ H s):∀b∈A4 X.stack,b∈X.env.locals::X.fs:=fun b hb=>by
 rcases I.ok.stk with e | ⟨e,hf⟩
 ·rw[e]at hb;exact List.mem_cons_of_mem _ hb
 ·rw[e]at hb
  unfold A4 at hb
  rw[List.filterMap_cons,hf]at hb
  exact hb
theorem Inv.stkFree(I:Inv X pins σ H s):∀b∈A4 X.stack,H b=none:=fun b hb=>by
 rcases List.mem_cons.mp (I.stkSub b hb)with e | hb
 ·rw[e];exact I.free
 ·obtain⟨_,o,ho,_⟩:=I.ok.funs.mem hb
  exact I.base.free b o ho (I.ok.frf b hb) fun z=>I.ok.exfs b z hb
theorem Inv.step{g':Array GenState}{t':Nat}{d':Drawn}{ch:List Addr}(I:Inv X pins σ H s)
  (hch:∀b∈ch,(b∈X.ex∨X.s₀.heap.objs.size≤b)∧b≠X.env.locals∧(∀x c,X.env.cells.lookup x=some c→c≠b)∧∀p∈X.pn++pins,p.1≠b)
  (keep:∀b o,b≠X.env.locals→b ∉ X.fs→b ∉ ch→s.heap.get? b=some o→H b=none→h'.get? b=some o)
  (slot:∀b o,b≠X.env.locals→b∈X.fs→b ∉ ch→s.heap.get? b=some o→H b=none→∃sl,h'.get? b=some { o with slots:=sl }) (free:∀b o,b ∉ ch→s.heap.get? b=some o→H b=none→H' b=none)
  (there:∀b o,b ∉ ch→s.heap.get? b=some o→∃o',h'.get? b=some o')
  (tups:∀b xs,H b=some (.tup xs)→H' b=some (.tup xs)) (frzs:∀b o u,H b=some (.frz o u)→H' b=some (.frz o u)) (tbls:∀b ps,H b=some (.tbl ps)→∃more,H' b=some (.tbl (ps++more)))
  (ns:∀m,s.heap.Ns X.env.locals m→h'.Ns X.env.locals m) (hok:HOk X.prog X.w H' h') (hg:AllBare g') :
  Inv X pins σ H' { s with heap:=h',gens:=g',drawn:=d',toks:=t' }:=by
 have neL:∀b o,X.s₀.heap.get? b=some o→b≠X.env.locals:=fun b o e=>Nat.ne_of_lt (Nat.lt_of_lt_of_le (Heap.lt_size e) I.ok.above)
 have neC:∀b o,X.s₀.heap.get? b=some o→b ∉ X.ex→b ∉ ch:=fun b o e hx hb=>by
  rcases(hch b hb).1 with z | z
  ·exact hx z
  ·exact absurd (Nat.lt_of_lt_of_le (Heap.lt_size e) z) (Nat.lt_irrefl _)
 have cellK:∀x c,X.env.cells.lookup x=some c→∀v,s.heap.IsCell c v→h'.IsCell c v:=fun x c e v ⟨o,ho,hd⟩=>by
  have nch:c ∉ ch:=fun z=>(hch c z).2.2.1 x c e rfl
  by_cases hc:c∈X.fs
  ·obtain⟨sl,q⟩:=slot c o (I.cne x c e) hc nch ho (I.freeC x c e)
   exact⟨_,q,hd⟩
  ·exact⟨o,keep c o (I.cne x c e) hc nch ho (I.freeC x c e),hd⟩
 refine⟨I.ok,I.os,hg,⟨fun b o e n hb hx=>?_,fun b o e n hb hx=>?_,fun b o e n hx=>?_,fun b o e hx=>?_,fun b xs e=>tups b xs (I.base.tups b xs e),fun b o xs e=>frzs b o xs (I.base.frzs b o xs e),fun b ps e=>?_⟩,?_,fun x c e=>?_,?_,fun x c e=>?_,fun p hp=>?_,hok,I.len⟩
 ·exact keep b o (neL b o e) hb (neC b o e hx) (I.base.keep b o e n hb hx) (I.base.free b o e n hx)
 ·obtain⟨sl,e1⟩:=I.base.slot b o e n hb hx
  obtain⟨sl',e2⟩:=slot b _ (neL b o e) hb (neC b o e hx) e1 (I.base.free b o e n hx)
  exact⟨sl',e2⟩
 ·obtain⟨o',e1⟩:=I.base.there b o e hx
  exact free b o' (neC b o e hx) e1 (I.base.free b o e n hx)
 ·obtain⟨o',e1⟩:=I.base.there b o e hx
  exact there b o' (neC b o e hx) e1
 ·obtain⟨m1,e1⟩:=I.base.tbls b ps e
  obtain⟨m2,e2⟩:=tbls b _ e1
  exact⟨m1++m2,by rw[e2,Array.append_assoc]⟩
 ·obtain⟨m,hn,hl⟩:=I.loc
  refine⟨m,ns m hn,fun i x v e1 e2 e3=>?_⟩
  obtain⟨u,r,l⟩:=hl i x v e1 e2 e3
  refine⟨u,r,?_⟩
  rcases l with l | ⟨k,c,e,z⟩
  ·exact .inl l
  ·exact .inr ⟨k,c,e,cellK x c e _ z⟩
 ·obtain⟨v,z⟩:=I.cell x c e
  exact⟨v,cellK x c e v z⟩
 ·obtain⟨m,⟨o,_,_,ho,_⟩,_⟩:=I.loc
  exact free _ o (fun z=>(hch _ z).2.1 rfl) ho I.free
 ·obtain⟨v,o,ho,hd⟩:=I.cell x c e
  exact free c o (fun z=>(hch c z).2.2.1 x c e rfl) ho (I.freeC x c e)
 ·obtain⟨e,n,ne,nf,d⟩:=I.pin p hp
  have nch:p.1 ∉ ch:=fun z=>(hch p.1 z).2.2.2 p hp rfl
  exact⟨keep p.1 p.2 ne nf nch e n,free p.1 p.2 nch e n,ne,nf,d⟩
theorem Inv.un{t':Nat}(I:Inv X pins σ H s)(u:Un X.fs [] H H' s.heap h')(hok:HOk X.prog X.w H' h'):Inv X pins σ H' { s with heap:=h',toks:=t' }:=by
 obtain⟨m,⟨o,es,ep,ho,r⟩,_⟩:=id I.loc
 obtain⟨sl,hL⟩:=u.any ho I.free (by simp)
 exact I.step (g':=s.gens) (d':=s.drawn) (ch:=[]) (fun _ z=>nomatch z) (fun b o _ hb _ e n=>u.keep b o e n hb (by simp)) (fun b o _ hb _ e n=>u.slot b o e n hb (by simp)) (fun b o _ e n=>u.free b o e n (by simp)) (fun b o _ e=>u.there b o e (by simp)) u.tups u.frzs u.tbls (fun m' hm=>by
  obtain⟨o',es',ep',ho',r'⟩:=hm
  rw[ho]at ho';cases ho'
  exact⟨_,es',ep',hL,r'⟩) hok I.bare
theorem Inv.call{g':Array GenState}{t':Nat}{d':Drawn}{ch:List Addr}(I:Inv X pins σ H s)(u:Un (A4 X.stack) ch H H' s.heap h')(hok:HOk X.prog X.w H' h')(hg:AllBare g')
  (hch:∀b∈ch,(b∈X.ex∨X.s₀.heap.objs.size≤b)∧b≠X.env.locals∧(∀x c,X.env.cells.lookup x=some c→c≠b)∧∀p∈X.pn++pins,p.1≠b) :
  Inv X pins σ H' { s with heap:=h',gens:=g',drawn:=d',toks:=t' }:=by
 obtain⟨m,⟨o,es,ep,ho,r⟩,_⟩:=id I.loc
 obtain⟨sl,hL⟩:=u.any ho I.free fun z=>(hch _ z).2.1 rfl
 exact I.step (ch:=ch) hch (fun b o hL hb hc e n=>u.keep b o e n (fun z=>(List.mem_cons.mp (I.stkSub b z)).elim hL hb) hc) (fun b o _ _ hc e n=>u.any e n hc) (fun b o hc e n=>u.free b o e n hc) (fun b o hc e=>u.there b o e hc) u.tups u.frzs u.tbls (fun m' hm=>by
  obtain⟨o',es',ep',ho',r'⟩:=hm
  rw[ho]at ho';cases ho'
  exact⟨_,es',ep',hL,r'⟩) hok hg
theorem Inv.turned{t':Nat}{it:Addr}(I:Inv X pins σ H s)(k:∀b o,b≠it→s.heap.get? b=some o→h'.get? b=some o)(hn:H it=none)(hL:it≠X.env.locals)
  (h1:it∈X.ex∨X.s₀.heap.objs.size≤it) (h2:∀x c,X.env.cells.lookup x=some c→c≠it) (h3:∀p∈X.pn++pins,p.1≠it):Inv X pins σ H { s with heap:=h',toks:=t' }:=by
 have nit:∀b u,H b=some u→b≠it:=fun b u e z=>by rw[z,hn]at e;cases e
 refine I.step (g':=s.gens) (d':=s.drawn) (ch:=[it]) (fun b hb=>?_) (fun b o _ _ hc e _=>k b o (fun z=>hc (by simp[z])) e) (fun b o _ _ hc e _=>⟨o.slots,k b o (fun z=>hc (by simp[z])) e⟩) (fun _ _ _ _ n=>n)
  (fun b o hc e=>⟨o,k b o (fun z=>hc (by simp[z])) e⟩) (fun _ _ e=>e) (fun _ _ _ e=>e) (fun b ps e=>⟨#[],by rw[e];simp⟩) (fun m hm=>?_) (fun b u e=>?_) I.bare
 ·have e:b=it:=by simpa using hb
  subst e
  exact⟨h1,hL,h2,h3⟩
 ·obtain⟨o,es,ep,ho,r⟩:=hm
  exact⟨o,es,ep,k _ o (Ne.symm hL) ho,r⟩
 ·refine(I.hok b u e).stay (fun c v hc q=>k c v ?_ q) (fun _ q=>q) (fun _ _ q=>q) fun _ _ _ q=>q
  rcases hc with z | z
  ·rw[z];exact nit b u e
  ·exact nit c _ z
theorem Inv.tok(I:Inv X pins σ H s)(t:Nat):Inv X pins σ H { s with toks:=t }:=I.un (h':=s.heap) (t':=t) Un.refl I.hok
theorem Inv.kept{t':Nat}(I:Inv X pins σ H s)(k:∀b u,s.heap.get? b=some u→h'.get? b=some u):Inv X pins σ H { s with heap:=h',toks:=t' }:=I.un (Un.kept k) (I.hok.kept k)
theorem Inv.laid{a:Addr}{o:HO}{t':Nat}(I:Inv X pins σ H s)(k:∀b u,s.heap.get? b=some u→h'.get? b=some u)(hp:s.heap.objs.size≤a)(new:ObjOk X.prog X.w (upd H a o) h' a o) :
  Inv X pins σ (upd H a o) { s with heap:=h',toks:=t' }:=I.un (Un.laid k hp (I.hok.fresh hp)) (I.hok.laid k hp new)
theorem Inv.write{x e:Addr}{o:HO}{t':Nat}(I:Inv X pins σ H s)(mu:Mut (H x))(he:e=x∨H e=some (.own x))(k:∀b u,b≠e→s.heap.get? b=some u→h'.get? b=some u)(heo:∃u,h'.get? e=some u)
  (new:ObjOk X.prog X.w (upd H x o) h' x o):Inv X pins σ (upd H x o) { s with heap:=h',toks:=t' }:=I.un (Un.write mu he k heo) (I.hok.write mu he k heo new)
theorem Inv.weak{σ':List (Option V)}(I:Inv X pins σ H s)(hl:σ'.length=σ.length)(w:∀(i:Nat) v,σ'[i]? = some (some v)→σ[i]? = some (some v)):Inv X pins σ' H s :=
 ⟨I.ok,I.os,I.bare,I.base,let ⟨m,hn,hl'⟩:=I.loc; ⟨m,hn,fun i x v e1 e2 e3=>hl' i x v e1 (w i v e2) e3⟩,I.cell,I.free,I.freeC,I.pin,I.hok,hl.trans I.len⟩
theorem Inv.pins_of{pins':List (Addr×Obj)}(I:Inv X pins σ H s)(h:∀p∈pins',s.heap.get? p.1=some p.2∧H p.1=none∧p.1≠X.env.locals∧p.1 ∉ X.fs∧∀v,p.2.data≠.cell v):Inv X pins' σ H s :=
 ⟨I.ok,I.os,I.bare,I.base,I.loc,I.cell,I.free,I.freeC,fun p hp=>(List.mem_append.mp hp).elim (fun z=>I.pin p (List.mem_append_left _ z)) (h p),I.hok,I.len⟩
theorem a0X{N:List Str}(hN:N.Nodup){i j:Nat}{x:Str}(a:N[i]? = some x)(b:N[j]? = some x):i=j:=by
 obtain⟨h1,e1⟩:=List.getElem?_eq_some_iff.mp a
 obtain⟨h2,e2⟩:=List.getElem?_eq_some_iff.mp b
 exact(List.getElem_inj hN).mp (e1.trans e2.symm)
theorem a2E{M:Model}{A:Around}{E:Value→Shared→Prop}{i:Nat}{x:Str}{v:V}{u:Value}{Q:Unit→Shared→Prop}(I:Inv X pins σ H s)(hN:X.N.Nodup)(hi:X.N[i]? = some x)(hx:Loc X.env.scope x)(r:RelV v u)
  (h:∀s',Inv X pins (σ.set i (some v)) H s'→(∃a,Heap.SameBut a s.heap s'.heap∧(a=X.env.locals∨X.env.cells.lookup x=some a))→Q () s') (hf:X.fn x=true∨X.env.scope.names.lookup x=some .local:=by first | exact .inl rfl | exact .inr rfl | assumption):wpAny M A (storeName X.env x u) Q E s:=by
 obtain⟨m,hn,hl⟩:=id I.loc
 have hcls:(X.env.scope.kind == .class || (X.env.scope.kind == .module && X.env.locals != X.env.globals))=false:=by rw[I.ok.kind];rfl
 have hiσ:i<σ.length:=by rw[I.len];exact(List.getElem?_eq_some_iff.mp hi).1
 have cne:=I.cne
 have tracked:∀{a:Addr} {h':Heap},(∃o,s.heap.get? a=some o∧H a=none)→Heap.SameBut a s.heap h'→HOk X.prog X.w H h':=fun{a h'} ha hs b ob e=>by
  obtain⟨_,_,hfree⟩:=ha
  refine(I.hok b ob e).stay (fun c w' hc q=>(hs.2 c ?_).trans q) (fun _ q=>q) (fun _ _ q=>q) fun _ _ _ q=>q
  rintro rfl
  rcases hc with rfl | hc
  ·rw[hfree]at e;cases e
  ·rw[hfree]at hc;cases hc
 rcases hx with hk | hk
 ·refine wpAny_storeName_local hk hn (fun h' hn' hs=>?_) hcls
  obtain⟨oL,_,_,hoL,_⟩:=id hn
  refine h _ ⟨I.ok,I.os,I.bare,⟨fun b o e n hb hx=>?_,fun b o e n hb hx=>?_,I.base.free,fun b o e hx=>?_,I.base.tups,I.base.frzs,I.base.tbls⟩,⟨_,hn',fun j y v' e1 e2 e3=>?_⟩,fun y c e=>?_,I.free,I.freeC,fun p hp=>?_,tracked ⟨oL,hoL,I.free⟩ hs,by simpa using I.len⟩ ⟨_,hs,.inl rfl⟩
  ·exact(hs.2 b (Nat.ne_of_lt (Nat.lt_of_lt_of_le (Heap.lt_size e) I.ok.above))).trans (I.base.keep b o e n hb hx)
  ·obtain⟨sl,e1⟩:=I.base.slot b o e n hb hx
   exact⟨sl,(hs.2 b (Nat.ne_of_lt (Nat.lt_of_lt_of_le (Heap.lt_size e) I.ok.above))).trans e1⟩
  ·obtain⟨o',e1⟩:=I.base.there b o e hx
   exact⟨o',(hs.2 b (Nat.ne_of_lt (Nat.lt_of_lt_of_le (Heap.lt_size e) I.ok.above))).trans e1⟩
  ·by_cases hj:j=i
   ·subst hj
    rw[hi]at e1;cases e1
    rw[List.getElem?_set_self hiσ]at e2
    cases e2
    exact⟨u,r,.inl ⟨hk,by simp⟩⟩
   ·rw[List.getElem?_set_ne (Ne.symm hj)]at e2
    obtain⟨u',r',q⟩:=hl j y v' e1 e2 e3
    refine⟨u',r',?_⟩
    rcases q with⟨k,e⟩ | ⟨k,c,e,z⟩
    ·refine .inl ⟨k,?_⟩
     have:y≠x:=fun e=>hj (a0X hN e1 (e▸hi))
     simp[this,e]
    ·exact .inr ⟨k,c,e,z.sameBut hs (cne y c e)⟩
  ·obtain⟨w',z⟩:=I.cell y c e
   exact⟨w',z.sameBut hs (cne y c e)⟩
  ·obtain⟨e,n,ne,nf,d⟩:=I.pin p hp
   exact⟨(hs.2 p.1 ne).trans e,n,ne,nf,d⟩
 ·have hfn:X.fn x=true:=by
   rcases hf with z | z
   ·exact z
   ·rw[z]at hk;cases hk
  obtain⟨c,hc⟩:=I.ok.has x (.inl hk)
  obtain⟨w',z⟩:=I.cell x c hc
  refine wpAny_storeName_cell I.ok.kind hk hc z (fun h' hc' hs=>?_)
  obtain⟨oc,hoc,hocd⟩:=id z
  refine h { s with heap:=h' } ⟨I.ok,I.os,I.bare,⟨fun b o e n hb hx=>?_,fun b o e n hb hx=>?_,I.base.free,fun b o e hx=>?_,I.base.tups,I.base.frzs,I.base.tbls⟩,⟨m,hn.sameBut hs (Ne.symm (cne x c hc)),fun j y v' e1 e2 e3=>?_⟩,fun y c' e=>?_,I.free,I.freeC,fun p hp=>?_,tracked ⟨oc,hoc,I.freeC x c hc⟩ hs,by simpa using I.len⟩ ⟨c,hs,.inr hc⟩
  ·exact(hs.2 b (Nat.ne_of_lt (Nat.lt_of_lt_of_le (Heap.lt_size e) (I.ok.cab x c hfn hc)))).trans (I.base.keep b o e n hb hx)
  ·obtain⟨sl,e1⟩:=I.base.slot b o e n hb hx
   exact⟨sl,(hs.2 b (Nat.ne_of_lt (Nat.lt_of_lt_of_le (Heap.lt_size e) (I.ok.cab x c hfn hc)))).trans e1⟩
  ·obtain⟨o',e1⟩:=I.base.there b o e hx
   exact⟨o',(hs.2 b (Nat.ne_of_lt (Nat.lt_of_lt_of_le (Heap.lt_size e) (I.ok.cab x c hfn hc)))).trans e1⟩
  ·by_cases hj:j=i
   ·subst hj
    rw[hi]at e1;cases e1
    rw[List.getElem?_set_self hiσ]at e2
    cases e2
    exact⟨u,r,.inr ⟨.inl hk,c,hc,hc'⟩⟩
   ·rw[List.getElem?_set_ne (Ne.symm hj)]at e2
    obtain⟨u',r',q⟩:=hl j y v' e1 e2 e3
    refine⟨u',r',?_⟩
    rcases q with q | ⟨k,c',e,z'⟩
    ·exact .inl q
    ·refine .inr ⟨k,c',e,z'.sameBut hs ?_⟩
     rintro rfl
     exact hj (a0X hN e1 (I.ok.inj _ _ _ e hc▸hi))
  ·by_cases hcc:c'=c
   ·subst hcc;exact⟨_,hc'⟩
   ·obtain⟨w2,z2⟩:=I.cell y c' e
    exact⟨w2,z2.sameBut hs hcc⟩
  ·obtain⟨e,n,ne,nf,d⟩:=I.pin p hp
   refine⟨(hs.2 p.1 ?_).trans e,n,ne,nf,d⟩
   intro q
   rw[q,hoc]at e
   have q':oc=p.2:=Option.some.inj e
   exact d w' (by rw[← q'];exact hocd)
theorem V6{M:Model}{A:Around}{E:Value→Shared→Prop}{i:Nat}{x:Str}{v:V}{u:Value}{Q:Unit→Shared→Prop}(I:Inv X pins σ H s)(hN:X.N.Nodup)(hi:X.N[i]? = some x)(hx:Loc X.env.scope x)(r:RelV v u)
  (h:∀s',Inv X pins (σ.set i (some v)) H s'→Q () s') (hf:X.fn x=true∨X.env.scope.names.lookup x=some .local:=by first | exact .inl rfl | exact .inr rfl | assumption):wpAny M A (storeName X.env x u) Q E s :=
 a2E I hN hi hx r (fun s' I' _=>h s' I') hf
theorem Inv.call'{s':Shared}{ch:List Addr}(I:Inv X pins σ H s)(ho:s'.os=s.os)(u:Un (A4 X.stack) ch H H' s.heap s'.heap)(hok:HOk X.prog X.w H' s'.heap)(hg:AllBare s'.gens)
  (hch:∀b∈ch,(b∈X.ex∨X.s₀.heap.objs.size≤b)∧b≠X.env.locals∧(∀x c,X.env.cells.lookup x=some c→c≠b)∧∀p∈X.pn++pins,p.1≠b):Inv X pins σ H' s':=by
 obtain⟨h',g',d',t',o'⟩:=s'
 have e:o'=s.os:=ho
 subst e
 exact I.call (g':=g') (t':=t') (d':=d') u hok hg hch
end
abbrev XK:=Value→Option Addr→Hp→Prop
abbrev St:=List (Option V)
abbrev VK:=V→Hp→Prop
abbrev TE:=St→Hp→VK→Prop
abbrev TT:=St→Hp→(Bool→Hp→Prop)→Prop
abbrev TA:=St→Hp→(List V→Hp→Prop)→Prop
structure Ends where
 nx:St→Hp→Prop
 rt:VK
 bk:St→Hp→Prop:=fun _ _=>False
 ct:St→Hp→Prop:=fun _ _=>False
abbrev TS:=Ends→St→Hp→Prop
def EP(X:Cx)(pins:List (Addr×Obj))(σ:St)(Q:VK)(u:Value)(s':Shared):Prop:=∃v H',Inv X pins σ H' s'∧RelV v u∧Q v H'
def TP(X:Cx)(pins:List (Addr×Obj))(σ:St)(Q:Bool→Hp→Prop)(b:Bool)(s':Shared):Prop:=∃H',Inv X pins σ H' s'∧Q b H'
def AP(X:Cx)(pins:List (Addr×Obj))(σ:St)(Q:List V→Hp→Prop)(us:List Value)(s':Shared):Prop:=∃vs H',Inv X pins σ H' s'∧Vals vs us∧Q vs H'
def SP(X:Cx)(pins:List (Addr×Obj))(D:Ends)(f:Flow)(s':Shared):Prop :=
 match f with
 | .next=>∃σ' H',Inv X pins σ' H' s'∧D.nx σ' H'
 | .brk=>∃σ' H',Inv X pins σ' H' s'∧D.bk σ' H'
 | .cont=>∃σ' H',Inv X pins σ' H' s'∧D.ct σ' H'
 | .ret u=>∃v σ' H',Inv X pins σ' H' s'∧RelV v u∧D.rt v H'
def PE(X:Cx)(e:Expr)(t:TE):Prop :=
 ∀(pins:List (Addr×Obj)) (s:Shared) (σ:St) (H:Hp) (Q:VK),Inv X pins σ H s→t σ H Q→wpAny (model X.prog X.w) X.A (eval e X.env) (EP X pins σ Q) X.xe s
def PT(X:Cx)(e:Expr)(t:TT):Prop :=
 ∀(pins:List (Addr×Obj)) (s:Shared) (σ:St) (H:Hp) (Q:Bool→Hp→Prop),Inv X pins σ H s→t σ H Q→wpAny (model X.prog X.w) X.A (isTrue e X.env (eval e X.env)) (TP X pins σ Q) X.xe s
def PW(X:Cx)(e:Expr)(t:TT):Prop :=
 ∀(whole:Sem Value) (pins:List (Addr×Obj)) (s:Shared) (σ:St) (H:Hp) (Q:Bool→Hp→Prop),Inv X pins σ H s→t σ H Q→wpAny (model X.prog X.w) X.A (isTrue e X.env whole) (TP X pins σ Q) X.xe s
theorem PW.pt{X:Cx}{e:Expr}{t:TT}(h:PW X e t):PT X e t:=h _
def PA(X:Cx)(es:List Expr)(t:TA):Prop :=
 ∀(pos:Pos) (pins:List (Addr×Obj)) (s:Shared) (σ:St) (H:Hp) (Q:List V→Hp→Prop),Inv X pins σ H s→t σ H Q→wpAny (model X.prog X.w) X.A (spliced (backTo pos (starEach es X.env))) (AP X pins σ Q) X.xe s
def PS(X:Cx)(st:Stmt)(t:TS):Prop :=
 ∀(pins:List (Addr×Obj)) (s:Shared) (σ:St) (H:Hp) (D:Ends),Inv X pins σ H s→t D σ H→wpAny (model X.prog X.w) X.A (exec st X.env) (SP X pins D) X.xe s
def PSs(X:Cx)(st:List Stmt)(t:TS):Prop :=
 ∀(pins:List (Addr×Obj)) (s:Shared) (σ:St) (H:Hp) (D:Ends),Inv X pins σ H s→t D σ H→wpAny (model X.prog X.w) X.A (execs st X.env) (SP X pins D) X.xe s
theorem i6{α:Type}{t:Sem α}{Q Q':α→Shared→Prop}{M:Model}{A:Around}{E:Value→Shared→Prop}{s:Shared}(h:wpAny M A t Q E s)(hQ:∀a s,Q a s→Q' a s):wpAny M A t Q' E s:=wpAny_mono h hQ fun _ _ x=>x
section
variable {X:Cx}
def D1(i:Nat):TE:=fun σ H Q=>∃v,σ[i]? = some (some v)∧Q v H
def tC(v:V):TE:=fun _ H Q=>Q v H
theorem b1w{i:Nat}{x:Str}{pos:Pos}(hN:X.N[i]? = some x)(hv:Vis X.env.scope x)(hd:(x == ("__debug__" : Str))=false:=by decide)(hcd:(x == ("__classdict__" : Str))=false:=by decide):PE X (.Name x pos) (D1 i):=by
 intro pins s σ H Q I h
 obtain⟨v,e,h⟩:=h
 obtain⟨m,hn,hl⟩:=I.loc
 obtain⟨u,r,l⟩:=hl i x v hN e hv
 have fin:EP X pins σ Q u s:=⟨v,H,I,r,h⟩
 rcases l with⟨hk,hm⟩ | ⟨hk,c,hc,hcell⟩
 ·exact wpAny_Name (wpAny_loadName_local I.ok.kind hk hn hm fin) hd
 ·rcases hk with hk | hk
  ·exact wpAny_Name (wpAny_loadName_cell I.ok.kind hk hc hcell fin) hd
  ·exact wpAny_Name (wpAny_loadName_free I.ok.kind hk hc hcell fin hcd) hd
theorem g4{i j pos}:PE X (.Constant (.int i) j pos) (tC (.int i)):=fun _ _ _ H _ I h=>wpAny_Constant_int ⟨.int i,H,I.tok _,⟨_,rfl⟩,h⟩
theorem a5g{b j pos}:PE X (.Constant (.bool b) j pos) (tC (.bl b)):=fun _ _ _ H _ I h=>Constant_bool ⟨.bl b,H,I,rfl,h⟩
theorem G0{j pos}:PE X (.Constant .none j pos) (tC .non):=fun _ _ _ H _ I h=>Constant_none ⟨.non,H,I,rfl,h⟩
theorem u7{x j pos}:PE X (.Constant (.str x) j pos) (tC (.str x)):=fun _ _ _ H _ I h=>Calls.Constant_str ⟨.str x,H,I.tok _,⟨_,rfl⟩,h⟩
def Gl(X:Cx)(x:Str):Prop:=X.env.kindOf x=some .globalImplicit
theorem J1{E:Value→Shared→Prop}{pins:List (Addr×Obj)}{s:Shared}{σ:St}{H:Hp}{x:Str}{u:Value}{pos:Pos}{Q:Value→Shared→Prop}(I:Inv X pins σ H s)(hg:Gl X x)(hm:X.mg x=some u)(h:Q u s)
  (hd:(x == ("__debug__" : Str))=false:=by decide):wpAny (model X.prog X.w) X.A (eval (.Name x pos) X.env) Q E s :=
 Calls.Name_function_global I.ok.kind hg (Calls.loadGlobal_global (by rw[I.ok.glob];exact I.mod.glob.keeps I.bk) hm h) hd
theorem U1{E:Value→Shared→Prop}{pins:List (Addr×Obj)}{s:Shared}{σ:St}{H:Hp}{x:Str}{u:Value}{pos:Pos}{Q:Value→Shared→Prop}(I:Inv X pins σ H s)(hg:Gl X x)(hm:X.mg x=none)(hv:bootBuiltins x=some u)(h:Q u s)
  (hn:x≠"__name__" := by decide) (hd:(x == ("__debug__" : Str))=false:=by decide):wpAny (model X.prog X.w) X.A (eval (.Name x pos) X.env) Q E s:=by
 obtain⟨mb,h1,h2⟩:=I.mod.blt
 exact Calls.Name_function_global I.ok.kind hg (Calls.loadGlobal_builtin (by rw[I.ok.glob];exact I.mod.glob.keeps I.bk) hm (by rw[I.ok.blt];exact h1.keeps I.bk) ((h2 x hn).trans hv) h) hd
theorem o6{x:Str}{v:V}{u:Value}{pos:Pos}(hg:Gl X x)(hm:X.mg x=some u)(r:RelV v u)(hd:(x == ("__debug__" : Str))=false:=by decide):PE X (.Name x pos) (tC v) :=
 fun _ _ _ H _ I h=>J1 I hg hm ⟨v,H,I,r,h⟩ hd
theorem U2{x:Str}{v:V}{u:Value}{pos:Pos}(hg:Gl X x)(hm:X.mg x=none)(hv:bootBuiltins x=some u)(r:RelV v u)(hn:x≠"__name__" := by decide)(hd:(x == ("__debug__" : Str))=false:=by decide):PE X (.Name x pos) (tC v) :=
 fun _ _ _ H _ I h=>U1 I hg hm hv ⟨v,H,I,r,h⟩ hn hd
variable {a b:Expr}{ta tb:TE}{pos:Pos}
def tB(t:TE):TT:=fun σ H Q=>t σ H fun x H1=>∃c,x=.bl c∧Q c H1
theorem U3{e:Expr}{t:TE}(h:PE X e t)(he:∀whole,isTrue e X.env whole=(do let v ← whole;standAt e.pos;holding [v] (truthy v)):=by intro _;rfl):PT X e (tB t):=by
 intro pins s σ H Q I hw
 refine isTrue_plain (i6 (h pins s σ H _ I hw) fun v s1 ⟨x,H1,I1,r1,q1⟩=>?_) (he _)
 obtain⟨d,rfl,q⟩:=q1
 cases r1
 exact wpAny_truthy_bool ⟨H1,I1,q⟩
variable {tA tB':TT}{i5:List Expr}
def b1x(t u:TT):TT:=fun σ H Q=>t σ H fun c H1=>if c=true then u σ H1 Q else Q false H1
def tOr(t u:TT):TT:=fun σ H Q=>t σ H fun c H1=>if c=true then Q true H1 else u σ H1 Q
def b1y(t:TT):TT:=fun σ H Q=>t σ H fun c H1=>Q (!c) H1
theorem a16(ha:PT X a tA):PW X (.BoolOp .And [a] pos) tA:=by
 intro wh pins s σ H Q I h
 refine isTrue_and (i6 (ha pins s σ H Q I h) fun c s1 e=>?_)
 cases c with
 | true=>exact isTrue_and_nil e
 | false=>exact e
theorem a52(ha:PT X a tA):PW X (.BoolOp .Or [a] pos) tA:=by
 intro wh pins s σ H Q I h
 refine isTrue_or (i6 (ha pins s σ H Q I h) fun c s1 e=>?_)
 cases c with
 | false=>exact isTrue_or_nil e
 | true=>exact e
theorem a3m(ha:PT X a tA)(hb:PW X (.BoolOp .And (b::i5) pos) tB'):PW X (.BoolOp .And (a::b::i5) pos) (b1x tA tB'):=by
 intro wh pins s σ H Q I h
 refine isTrue_and (i6 (ha pins s σ H _ I h) fun c s1 ⟨H1,I1,q1⟩=>?_)
 cases c with
 | true=>exact hb wh pins s1 σ H1 Q I1 q1
 | false=>exact⟨H1,I1,q1⟩
theorem a81(ha:PT X a tA)(hb:PW X (.BoolOp .Or (b::i5) pos) tB'):PW X (.BoolOp .Or (a::b::i5) pos) (tOr tA tB'):=by
 intro wh pins s σ H Q I h
 refine isTrue_or (i6 (ha pins s σ H _ I h) fun c s1 ⟨H1,I1,q1⟩=>?_)
 cases c with
 | true=>exact⟨H1,I1,q1⟩
 | false=>exact hb wh pins s1 σ H1 Q I1 q1
theorem a3n(ha:PT X a tA):PT X (.UnaryOp .Not a pos) (b1y tA):=by
 intro pins s σ H Q I h
 exact isTrue_not (ha pins s σ H (fun c H1=>Q (!c) H1) I h)
def a82(ta tb:TE):TE:=fun σ H Q=>ta σ H fun x H1=>∃c,x=.bl c∧if c=true then tb σ H1 Q else Q (.bl false) H1
def a83(ta:TE):TE:=fun σ H Q=>ta σ H fun x H1=>∃c,x=.bl c∧Q (.bl (!c)) H1
theorem a1f{op}{t:TE}(h:PE X a t):PE X (.BoolOp op [a] pos) t:=fun pins s σ H Q I hw=>BoolOp_one (h pins s σ H Q I hw)
theorem a1g(ha:PE X a ta)(hb:PE X (.BoolOp .And (b::i5) pos) tb):PE X (.BoolOp .And (a::b::i5) pos) (a82 ta tb):=by
 intro pins s σ H Q I h
 refine BoolOp_and (i6 (ha pins s σ H _ I h) fun v s1 ⟨x,H1,I1,r1,q1⟩=>?_)
 obtain⟨c,rfl,q1⟩:=q1
 cases r1
 refine wpAny_truthy_bool ?_
 cases c with
 | true=>exact hb pins s1 σ H1 Q I1 q1
 | false=>exact⟨.bl false,H1,I1,rfl,q1⟩
theorem a53(ha:PE X a ta):PE X (.UnaryOp .Not a pos) (a83 ta):=by
 intro pins s σ H Q I h
 refine UnaryOp_ (i6 (ha pins s σ H _ I h) fun v s1 ⟨x,H1,I1,r1,q1⟩=>?_)
 obtain⟨c,rfl,q1⟩:=q1
 cases r1
 exact not_of (wpAny_truthy_bool ⟨.bl (!c),H1,I1,rfl,q1⟩)
def tIf(t:TT)(ta tb:TE):TE:=fun σ H Q=>t σ H fun c H1=>if c=true then ta σ H1 Q else tb σ H1 Q
theorem a3o{c:Expr}(hc:PT X c tA)(ha:PE X a ta)(hb:PE X b tb):PE X (.IfExp c a b pos) (tIf tA ta tb):=by
 intro pins s σ H Q I h
 refine wpAny_IfExp (i6 (hc pins s σ H _ I h) fun d s1 ⟨H1,I1,q1⟩=>?_)
 cases d with
 | true=>exact ha pins s1 σ H1 Q I1 q1
 | false=>exact hb pins s1 σ H1 Q I1 q1
end
def SqL(K:W.Frag)(H:Hp)(a:Addr)(xs:List V):Prop :=
 Rd H a (.lst xs) ∨
  ∃(o:Obj) (its:Array Value) (n:Nat),K.lookup a=some o∧o.cls=.type "list"∧o.dict=none∧o.data=.seq its n∧its.size≤sizeLine∧Vals xs its.toList
def SqT(K:W.Frag)(H:Hp)(a:Addr)(xs:List V):Prop :=
 Rd H a (.tup xs) ∨
  ∃(o:Obj) (its:Array Value) (n:Nat),K.lookup a=some o∧o.cls=.type "tuple"∧o.data=.seq its n∧its.size≤sizeLine∧Vals xs its.toList
def b3W:Value→Option V
 | .none=>some .non
 | .bool b=>some (.bl b)
 | .int i _=>some (.int i)
 | .str x _=>some (.str x)
 | .bytes b _=>some (.byt b)
 | .float b _=>some (.flt b)
 | .ref a=>some (.ref a)
 | .type n=>some (.ty n)
 | _=>none
theorem RelV.abs{x:V}{u:Value}(r:RelV x u):b3W u=some x:=by
 cases x with
 | non=>cases r;rfl
 | bl _=>cases r;rfl
 | int _=>obtain⟨t,rfl⟩:=r;rfl
 | str _=>obtain⟨t,rfl⟩:=r;rfl
 | byt _=>obtain⟨t,rfl⟩:=r;rfl
 | flt _=>obtain⟨t,rfl⟩:=r;rfl
 | ref _=>cases r;rfl
 | ty _=>cases r;rfl
theorem RelV.inj{x y:V}{u:Value}(r:RelV x u)(q:RelV y u):x=y:=Option.some.inj (r.abs.symm.trans q.abs)
theorem Vals.inj:∀{xs ys:List V} {us:List Value},Vals xs us→Vals ys us→xs=ys
 | _,_,_,.nil,.nil=>rfl
 | _,_,_,.cons r t,.cons r' t'=>by rw[r.inj r',Vals.inj t t']
section
variable {X:Cx}{pins:List (Addr×Obj)}{σ:St}{H:Hp}{s:Shared}{a:Addr}{xs ys:List V}
theorem SqL.of{K:W.Frag}(h:H a=some (.lst xs)):SqL K H a xs:=.inl (.inl h)
theorem SqT.of{K:W.Frag}(h:H a=some (.tup xs)):SqT K H a xs:=.inl (.inl h)
theorem Inv.list(I:Inv X pins σ H s)(h:SqL X.K H a xs):∃its:List Value,Vals xs its∧PlainL s.heap a its.toArray∧xs.length≤sizeLine:=by
 rcases h with h | ⟨o,its,n,hk,hc,hd,hs,hz,r⟩
 ·obtain⟨z,its,n,r,e⟩:=h.ok I.hok
  exact⟨its,r,⟨_,n,e,rfl,rfl,rfl⟩,z⟩
 ·refine⟨its.toList,r,⟨o,n,I.kIn a o hk,hc,hd,by simpa using hs⟩,?_⟩
  have e:=r.length
  simp only[Array.length_toList]at e
  omega
theorem Inv.tuple(I:Inv X pins σ H s)(h:SqT X.K H a xs):∃its:List Value,Vals xs its∧IsTup s.heap a its.toArray∧xs.length≤sizeLine:=by
 rcases h with h | ⟨o,its,n,hk,hc,hs,hz,r⟩
 ·obtain⟨z,its,r,p⟩:=h.ok I.hok
  exact⟨its,r,p,z⟩
 ·refine⟨its.toList,r,⟨o,I.kIn a o hk,hc,n,by simpa using hs⟩,?_⟩
  have e:=r.length
  simp only[Array.length_toList]at e
  omega
theorem Inv.list_inj(I:Inv X pins σ H s)(h:SqL X.K H a xs)(h':SqL X.K H a ys):xs=ys:=by
 obtain⟨its,r,⟨o,n,e,_,_,d⟩,_⟩:=I.list h
 obtain⟨its',r',⟨o',n',e',_,_,d'⟩,_⟩:=I.list h'
 rw[e]at e';cases e'
 rw[d]at d'
 injection d' with d1 _
 have:its=its':=by simpa using congrArg Array.toList d1
 subst this
 exact r.inj r'
end
abbrev Cx.wish(X:Cx)(E:Value→Shared→Prop):Cx:={ X with xe:=E }
abbrev Cx.nox(X:Cx):Cx:=X.wish fun _ _=>False
theorem Cx.Ok.wish{X:Cx}(ok:X.Ok)(E:Value→Shared→Prop):(X.wish E).Ok :=
 ⟨ok.mod,ok.kind,ok.glob,ok.blt,ok.above,ok.inj,ok.has,ok.cab,ok.hd,ok.frames,ok.stk,ok.exf,ok.bs,ok.bsz,ok.noex,ok.exfs,ok.funs,ok.frf⟩
theorem Cx.Ok.unwish{X:Cx}{E:Value→Shared→Prop}(ok:(X.wish E).Ok):X.Ok :=
 ⟨ok.mod,ok.kind,ok.glob,ok.blt,ok.above,ok.inj,ok.has,ok.cab,ok.hd,ok.frames,ok.stk,ok.exf,ok.bs,ok.bsz,ok.noex,ok.exfs,ok.funs,ok.frf⟩
section
variable {X:Cx}{pins:List (Addr×Obj)}{σ:St}{H:Hp}{s:Shared}{E:Value→Shared→Prop}
theorem Inv.wish(I:Inv X pins σ H s)(E:Value→Shared→Prop):Inv (X.wish E) pins σ H s:=⟨I.ok.wish E,I.os,I.bare,I.base,I.loc,I.cell,I.free,I.freeC,I.pin,I.hok,I.len⟩
theorem Inv.unwish(I:Inv (X.wish E) pins σ H s):Inv X pins σ H s:=⟨I.ok.unwish,I.os,I.bare,I.base,I.loc,I.cell,I.free,I.freeC,I.pin,I.hok,I.len⟩
theorem SP.unwish{D:Ends}{f:Flow}{s':Shared}(h:SP (X.wish E) pins D f s'):SP X pins D f s':=by
 cases f with
 | next=>obtain⟨σ',H',I,q⟩:=h;exact⟨σ',H',I.unwish,q⟩
 | brk=>obtain⟨σ',H',I,q⟩:=h;exact⟨σ',H',I.unwish,q⟩
 | cont=>obtain⟨σ',H',I,q⟩:=h;exact⟨σ',H',I.unwish,q⟩
 | ret u=>obtain⟨v,σ',H',I,r,q⟩:=h;exact⟨v,σ',H',I.unwish,r,q⟩
theorem PE.nox{e:Expr}{t:TE}(h:PE X.nox e t):PE X e t:=fun pins s σ H Q I hw =>
 wpAny_mono (h pins s σ H Q (I.wish _) hw) (fun _ _ ⟨v,H',I',r,q⟩=>⟨v,H',I'.unwish,r,q⟩) fun _ _ z=>False.elim z
theorem PT.nox{e:Expr}{t:TT}(h:PT X.nox e t):PT X e t:=fun pins s σ H Q I hw =>
 wpAny_mono (h pins s σ H Q (I.wish _) hw) (fun _ _ ⟨H',I',q⟩=>⟨H',I'.unwish,q⟩) fun _ _ z=>False.elim z
theorem PSs.nox{st:List Stmt}{t:TS}(h:PSs X.nox st t):PSs X st t:=fun pins s σ H D I hw =>
 wpAny_mono (h pins s σ H D (I.wish _) hw) (fun _ _ q=>q.unwish) fun _ _ z=>False.elim z
end
section
variable {X:Cx}{st:Stmt}{i5:List Stmt}{t u:TS}{e:Expr}{te:TE}{pos:Pos}
def a84:TS:=fun D σ H=>D.nx σ H
def b1z(t u:TS):TS:=fun D σ H=>t { D with nx:=u D } σ H
theorem k9:PSs X [] a84:=fun _ _ σ H _ I h=>wpAny_execs_nil ⟨σ,H,I,h⟩
theorem g5(h1:PS X st t)(h2:PSs X i5 u):PSs X (st::i5) (b1z t u):=by
 intro pins s σ H D I h
 refine wpAny_execs_cons (i6 (h1 pins s σ H { D with nx:=u D } I h) fun f s1 q=>?_)
 cases f with
 | next =>
  obtain⟨σ',H',I',q⟩:=q
  exact h2 pins s1 σ' H' D I' q
 | ret v=>exact q
 | brk=>exact q
 | cont=>exact q
theorem h7(h1:PS X st t):PSs X [st] t:=by
 intro pins s σ H D I h
 refine wpAny_execs_cons (i6 (h1 pins s σ H D I h) fun f s1 q=>?_)
 cases f with
 | next=>exact wpAny_execs_nil q
 | ret v=>exact q
 | brk=>exact q
 | cont=>exact q
theorem Inv.quiet{pins:List (Addr×Obj)}{σ:St}{H:Hp}{s:Shared}(I:Inv X pins σ H s):interactive X.env=false:=by simp[interactive,I.ok.kind]
def a5h(te:TE):TS:=fun D σ H=>te σ H fun _ H1=>D.nx σ H1
theorem a0p(he:PE X e te)(hs:swapsWith e none pos.line X.env=pure false:=by rfl):PS X (.Expr e pos) (a5h te):=by
 intro pins s σ H D I h
 exact wpAny_Expr_any (i6 (he pins s σ H _ I h) fun v s1 ⟨x,H1,I1,r1,q1⟩=>⟨σ,H1,I1,q1⟩) I.quiet hs
def a5i(te:TE):TS:=fun D σ H=>te σ H D.rt
theorem j3(he:PE X e te):PS X (.Return (some e) pos) (a5i te):=by
 intro pins s σ H D I h
 exact wpAny_Return_some (i6 (he pins s σ H _ I h) fun v s1 ⟨x,H1,I1,r1,q1⟩=>⟨x,σ,H1,I1,r1,q1⟩)
def b1A(c:TT)(t u:TS):TS:=fun D σ H=>c σ H fun b H1=>if b=true then t D σ H1 else u D σ H1
theorem t8{c:Expr}{a b:List Stmt}{tc:TT}(hc:PT X c tc)(ha:PSs X a t)(hb:PSs X b u):PS X (.If c a b pos) (b1A tc t u):=by
 intro pins s σ H D I h
 refine wpAny_If (i6 (hc pins s σ H _ I h) fun d s1 ⟨H1,I1,q1⟩=>?_)
 cases d with
 | true=>exact ha pins s1 σ H1 D I1 q1
 | false=>exact hb pins s1 σ H1 D I1 q1
end
abbrev TG:=V→St→Hp→(St→Hp→Prop)→Prop
abbrev Y9:=List V→St→Hp→(St→Hp→Prop)→Prop
def PG(X:Cx)(target:Expr)(t:TG):Prop :=
 ∀(pins:List (Addr×Obj)) (s:Shared) (σ:St) (H:Hp) (v:V) (u:Value) (Q:St→Hp→Prop),Inv X pins σ H s→RelV v u→t v σ H Q →
  wpAny (model X.prog X.w) X.A (assign target X.env u) (fun _ s'=>∃σ' H',Inv X pins σ' H' s'∧Q σ' H') X.xe s
def PGs(X:Cx)(ts:List Expr)(t:Y9):Prop :=
 ∀(pins:List (Addr×Obj)) (s:Shared) (σ:St) (H:Hp) (vs:List V) (us:List Value) (Q:St→Hp→Prop),Inv X pins σ H s→Vals vs us→t vs σ H Q →
  wpAny (model X.prog X.w) X.A (assignInOrder ((assignEach ts X.env).map (·.2)) us) (fun _ s'=>∃σ' H',Inv X pins σ' H' s'∧Q σ' H') X.xe s
abbrev a3p:=V→V→V→Hp→(Hp→Prop)→Prop
def a7C(X:Cx)(t:a3p):Prop :=
 ∀(pins:List (Addr×Obj)) (s:Shared) (σ:St) (H:Hp) (o i v:V) (ov iv u:Value) (Q:Hp→Prop),Inv X pins σ H s→RelV o ov→RelV i iv→RelV v u→t o i v H Q →
  wpAny (model X.prog X.w) X.A (setItem ov iv u) (fun _ s'=>∃H',Inv X pins σ H' s'∧Q H') X.xe s
abbrev TIp:=V→V→Hp→VK→Prop
def PIp(X:Cx)(op:Operator)(t:TIp):Prop :=
 ∀(pins:List (Addr×Obj)) (s:Shared) (σ:St) (H:Hp) (x y:V) (v u:Value) (Q:VK),Inv X pins σ H s→RelV x v→RelV y u→t x y H Q →
  wpAny (model X.prog X.w) X.A (inplaceOp op v u) (EP X pins σ Q) X.xe s
section
variable {X:Cx}{pos:Pos}
def S3(i:Nat):TG:=fun v σ H Q=>Q (σ.set i (some v)) H
theorem y4{i:Nat}{x:Str}(hN:X.N.Nodup)(hi:X.N[i]? = some x)(hx:Loc X.env.scope x)(hf:X.fn x=true∨X.env.scope.names.lookup x=some .local:=by first | exact .inl rfl | exact .inr rfl | assumption):PG X (.Name x pos) (S3 i):=by
 intro pins s σ H v u Q I r h
 exact wpAny_assign_Name (V6 I hN hi hx r (fun s' I'=>⟨_,H,I',h⟩) hf)
def b1B:Y9:=fun vs σ H Q=>vs=[]∧Q σ H
def a86(t:TG)(u:Y9):Y9:=fun vs σ H Q=>∃v r,vs=v::r∧t v σ H fun σ' H'=>u r σ' H' Q
theorem a0q:PGs X [] b1B:=by
 intro pins s σ H vs us Q I r h
 obtain⟨e,h⟩:=h
 subst e
 cases r
 exact assignInOrder_nil ⟨σ,H,I,h⟩
theorem B9{e:Expr}{es:List Expr}{t:TG}{u:Y9}(h1:PG X e t)(h2:PGs X es u)
  (hs:(assignEach (e::es) X.env).map (·.2)=assign e X.env::(assignEach es X.env).map (·.2):=by rfl):PGs X (e::es) (a86 t u):=by
 intro pins s σ H vs us Q I r h
 obtain⟨v,vr,e1,h⟩:=h
 subst e1
 cases r with
 | cons r rr =>
  rw[hs]
  refine assignInOrder_cons (i6 (h1 pins s σ H _ _ _ I r h) fun _ s1 ⟨σ1,H1,I1,q1⟩=>?_)
  exact h2 pins s1 σ1 H1 _ _ Q I1 rr q1
def a7D(K:W.Frag)(n:Nat)(t:Y9):TG:=fun v σ H Q=>∃a xs,v=.ref a∧SqT K H a xs∧xs.length=n∧t xs σ H Q
theorem b1C{es:List Expr}{k:Nat}{t:Y9}{n:Nat}(hc:X.calm=true)(h:PGs X es t)
  (hn:(assignEach es X.env).length=n:=by rfl) (hst:(assignEach es X.env).findIdx? (·.1)=none:=by rfl):PG X (.Tuple es k pos) (a7D X.K n t):=by
 intro pins s σ H v u Q I r hw
 obtain⟨a,xs,e1,hq,hl,hw⟩:=hw
 subst e1
 cases r
 obtain⟨its,rv,ht,hz⟩:=I.tuple hq
 refine assign_Tuple_tuple (I.ok.hd hc) ht (by simp[hn,← hl,rv.length]) hst fun h' hx=>?_
 have I1:Inv X pins σ H { s with heap:=h' }:=I.kept (t':=s.toks) fun b o e=>hx b o (Nat.ne_of_lt (Heap.lt_size e)) e
 exact h pins _ σ H xs _ Q I1 (by simpa using rv) hw
def b1D(to ti:TE)(t:a3p):TG:=fun v σ H Q=>to σ H fun o H1=>ti σ H1 fun i H2=>t o i v H2 fun H3=>Q σ H3
theorem b1E{o i:Expr}{to ti:TE}{t:a3p}(ho:PE X o to)(hi:PE X i ti)(hs:a7C X t)
  (ha:∀v,assign (.Subscript o i pos) X.env v=(do
   let ov ← holding [v] (eval o X.env)
   let iv ← holding [v,ov] (eval i X.env)
   standAt pos
   holding [v,ov,iv] (setItem ov iv v)
   release [v,ov,iv] []):=by intro _;rfl):PG X (.Subscript o i pos) (b1D to ti t):=by
 intro pins s σ H v u Q I r h
 rw[ha]
 refine wpAny_bind (wpAny_holding (i6 (ho pins s σ H _ I h) fun ov s1 ⟨x,H1,I1,r1,q1⟩=>?_))
 refine wpAny_bind (wpAny_holding (i6 (hi pins s1 σ H1 _ I1 q1) fun iv s2 ⟨y,H2,I2,r2,q2⟩=>?_))
 refine wpAny_bind (wpAny_standAt (wpAny_bind (wpAny_holding (i6 (hs pins s2 σ H2 x y v ov iv u _ I2 r1 r2 r q2) fun _ s3 ⟨H3,I3,q3⟩=>?_))))
 exact wpAny_release ⟨σ,H3,I3,q3⟩
def V7(te:TE)(g:TG):TS:=fun D σ H=>te σ H fun x H1=>g x σ H1 D.nx
theorem a55{tg e:Expr}{te:TE}{g:TG}(he:PE X e te)(hg:PG X tg g)(hs:swapsWithSole [tg] e pos.line X.env=pure false:=by rfl)(hw:swappedStores [tg] e X.env=pure none:=by rfl)
  (h1:(assignEach [tg] X.env).map (·.2)=[assign tg X.env]:=by rfl):PS X (.Assign [tg] e pos) (V7 te g):=by
 intro pins s σ H D I h
 refine wpAny_Assign_stores (i6 (he pins s σ H _ I h) fun v s1 ⟨x,H1,I1,r1,q1⟩=>?_) hs hw
 rw[h1]
 exact i6 (hg pins s1 σ H1 x v _ I1 r1 q1) fun _ s2 q=>q
theorem l9{i:Nat}{x:Str}{e:Expr}{te:TE}{pos':Pos}(hN:X.N.Nodup)(hi:X.N[i]? = some x)(hx:Loc X.env.scope x)(he:PE X e te)(hs:swapsWith e (some (.Name x pos')) pos.line X.env=pure false:=by rfl)(hf:X.fn x=true∨X.env.scope.names.lookup x=some .local:=by first | exact .inl rfl | exact .inr rfl | assumption) :
  PS X (.Assign [.Name x pos'] e pos) (V7 te (S3 i)):=by
 intro pins s σ H D I h
 refine wpAny_Assign_Name (i6 (he pins s σ H _ I h) fun v s1 ⟨y,H1,I1,r1,q1⟩=>?_) hs
 exact V6 I1 hN hi hx r1 (fun s2 I2=>⟨_,H1,I2,q1⟩) hf
def b1F(i:Nat)(te:TE)(ti:TIp):TS:=fun D σ H=>∃x,σ[i]? = some (some x)∧te σ H fun y H1=>ti x y H1 fun z H2=>D.nx (σ.set i (some z)) H2
theorem b1G{i:Nat}{x:Str}{e:Expr}{te:TE}{op:Operator}{ti:TIp}{pos':Pos}(hN:X.N.Nodup)(hi:X.N[i]? = some x)(hx:Loc X.env.scope x)(he:PE X e te)(ho:PIp X op ti)(hf:X.fn x=true∨X.env.scope.names.lookup x=some .local:=by first | exact .inl rfl | exact .inr rfl | assumption) :
  PS X (.AugAssign (.Name x pos') op e pos) (b1F i te ti):=by
 intro pins s σ H D I h
 obtain⟨v,e1,h⟩:=h
 obtain⟨m,hn,hl⟩:=I.loc
 have vis:Vis X.env.scope x:=by rcases hx with k | k;exact .inl k;exact .inr (.inl k)
 obtain⟨u,r,l⟩:=hl i x v hi e1 vis
 refine wpAny_AugAssign_Name ?_
 have go:wpAny (model X.prog X.w) X.A (eval e X.env) (fun w s₂=>wpAny (model X.prog X.w) X.A (inplaceOp op u w) (fun r s₃=>wpAny (model X.prog X.w) X.A (storeName X.env x r) (fun _=>SP X pins D .next) X.xe s₃) X.xe s₂) X.xe s:=by
  refine i6 (he pins s σ H _ I h) fun w s1 ⟨y,H1,I1,r1,q1⟩=>?_
  refine i6 (ho pins s1 σ H1 v y u w _ I1 r r1 q1) fun z s2 ⟨zv,H2,I2,r2,q2⟩=>?_
  exact V6 I2 hN hi hx r2 (fun s3 I3=>⟨_,H2,I3,q2⟩) hf
 rcases l with⟨hk,hm⟩ | ⟨hk,c,hc,hcell⟩
 ·exact wpAny_loadName_local I.ok.kind hk hn hm go
 ·rcases hk with hk | hk
  ·exact wpAny_loadName_cell I.ok.kind hk hc hcell go
  ·rcases hx with k | k
   ·have:X.env.scope.names.lookup x=some .free:=hk
    rw[k]at this;cases this
   ·have:X.env.scope.names.lookup x=some .free:=hk
    rw[k]at this;cases this
def a87(to ti te:TE)(tget:V→V→Hp→VK→Prop)(tip:TIp)(tset:a3p):TS:=fun D σ H=>to σ H fun o H1=>ti σ H1 fun i H2=>tget o i H2 fun x H3=>te σ H3 fun y H4=>tip x y H4 fun z H5=>tset o i z H5 fun H6=>D.nx σ H6
def b1H(X:Cx)(t:V→V→Hp→VK→Prop):Prop :=
 ∀(pins:List (Addr×Obj)) (s:Shared) (σ:St) (H:Hp) (o i:V) (ov iv:Value) (Q:VK),Inv X pins σ H s→RelV o ov→RelV i iv→t o i H Q →
  wpAny (model X.prog X.w) X.A (getItem ov iv) (EP X pins σ Q) X.xe s
theorem a9I{o i e:Expr}{to ti te:TE}{tget:V→V→Hp→VK→Prop}{tip:TIp}{tset:a3p}{op:Operator}{tpos:Pos}(ho:PE X o to)(hi:PE X i ti)(hg:b1H X tget)(he:PE X e te)(hp:PIp X op tip)(hs:a7C X tset)
  (ha:∀ov iv new,augStore i ov iv new=(do holding [new,ov,iv] (setItem ov iv new);release [new,ov,iv] [];pure .next):=by intros;rfl):PS X (.AugAssign (.Subscript o i tpos) op e pos) (a87 to ti te tget tip tset):=by
 intro pins s σ H D I h
 refine wpAny_AugAssign_SubscriptAny (i6 (ho pins s σ H _ I h) fun ov s1 ⟨x1,H1,I1,r1,q1⟩=>?_) ha
 refine i6 (hi pins s1 σ H1 _ I1 q1) fun iv s2 ⟨x2,H2,I2,r2,q2⟩=>?_
 refine i6 (hg pins s2 σ H2 x1 x2 ov iv _ I2 r1 r2 q2) fun old s3 ⟨x3,H3,I3,r3,q3⟩=>?_
 refine i6 (he pins s3 σ H3 _ I3 q3) fun v s4 ⟨x4,H4,I4,r4,q4⟩=>?_
 refine i6 (hp pins s4 σ H4 x3 x4 old v _ I4 r3 r4 q4) fun new s5 ⟨x5,H5,I5,r5,q5⟩=>?_
 exact i6 (hs pins s5 σ H5 x1 x2 x5 ov iv new _ I5 r1 r2 r5 q5) fun _ s6 ⟨H6,I6,q6⟩=>⟨σ,H6,I6,q6⟩
def ipI(f:Int→Int→Int):TIp:=fun x y H Q=>∃i j,x=.int i∧y=.int j∧Q (.int (f i j)) H
theorem b1I:PIp X .Add (ipI fun i j=>i+j):=by
 intro pins s σ H x y v u Q I r1 r2 h
 obtain⟨i,j,e1,e2,q⟩:=h
 subst e1;subst e2
 obtain⟨t,rfl⟩:=r1
 obtain⟨t',rfl⟩:=r2
 exact iadd_int ⟨.int _,H,I.tok _,⟨_,rfl⟩,q⟩
theorem b1J:PIp X .Sub (ipI fun i j=>i-j):=by
 intro pins s σ H x y v u Q I r1 r2 h
 obtain⟨i,j,e1,e2,q⟩:=h
 subst e1;subst e2
 obtain⟨t,rfl⟩:=r1
 obtain⟨t',rfl⟩:=r2
 exact isub_int ⟨.int _,H,I.tok _,⟨_,rfl⟩,q⟩
end
structure It where
 go:Nat→Hp→Prop
 yld:Nat→Hp→V→Hp→Prop
 stop:Nat→Hp→Prop
def FpOk(X:Cx)(pins:List (Addr×Obj))(H:Hp)(b:Addr):Prop :=
 H b=none∧b≠X.env.locals∧b ∉ X.fs∧(b∈X.ex∨X.s₀.heap.objs.size≤b)∧(∀x c,X.env.cells.lookup x=some c→c≠b)∧∀p∈X.pn++pins,p.1≠b
theorem Inv.fpOk{X:Cx}{pins:List (Addr×Obj)}{σ:St}{H H':Hp}{s:Shared}{b:Addr}(I:Inv X pins σ H s)(hb:s.heap.objs.size≤b)(hn:H' b=none):FpOk X pins H' b:=by
 refine⟨hn,Nat.ne_of_gt (Nat.lt_of_lt_of_le I.lt hb),I.nofs hb,.inr (Nat.le_trans I.sz hb),fun x c e z=>?_,fun p hp z=>?_⟩
 ·obtain⟨v,q⟩:=I.cell x c e
  exact absurd (Nat.lt_of_lt_of_le q.lt (by rw[z];exact hb)) (Nat.lt_irrefl _)
 ·exact absurd (Nat.lt_of_lt_of_le (Heap.lt_size (I.pin p hp).1) (by rw[z];exact hb)) (Nat.lt_irrefl _)
structure Turn(P:Program)(w:World)(K:W.Frag)(tg:Expr)(J:It)(fp:List Addr)(it:Addr)(tn:Nat→Heap→Prop):Prop where
 mem:it∈fp
 obj:∀i h,tn i h→∀b∈fp,∃o,h.get? b=some o∧∀v,o.data≠.cell v
 keep:∀i h h',tn i h→(∀b∈fp,∀o,h.get? b=some o→h'.get? b=some o)→tn i h'
 item:∀(X:Cx),X.prog=P→X.w=w→X.K=K→X.calm=true→∀(i:Nat) (pins:List (Addr×Obj)) (s:Shared) (σ:St) (H:Hp) (E:Value→Shared→Prop),Inv X pins σ H s→(∀b∈fp,FpOk X pins H b)→tn i s.heap→J.go i H →
  wpAny (model P w) X.A (pyNext (.ref it)) (fun r s1=>∃u,r=some u ∧
   wpAny (model P w) X.A (letOwnedTupleGo tg (.ref it) u) (fun _ s2=>∃x H',Inv X pins σ H' s2∧RelV x u∧J.yld i H x H'∧tn (i+1) s2.heap∧∀b∈fp,H' b=none) E s1) E s
 done:∀(X:Cx),X.prog=P→X.w=w→X.K=K→X.calm=true→∀(i:Nat) (pins:List (Addr×Obj)) (s:Shared) (σ:St) (H:Hp) (E:Value→Shared→Prop),Inv X pins σ H s→(∀b∈fp,FpOk X pins H b)→tn i s.heap→J.stop i H →
  wpAny (model P w) X.A (pyNext (.ref it)) (fun r s1=>r=none∧Inv X pins σ H s1) E s
 self:∀(A:Around) (i:Nat) (s:Shared) (Q:Value→Shared→Prop) (E:Value→Shared→Prop),tn i s.heap→Q (.ref it) s→wpAny (model P w) A (pyIter (.ref it)) Q E s
abbrev TI:=St→Hp→(It→Hp→Prop)→Prop
def PIE(X:Cx)(pins:List (Addr×Obj))(σ:St)(tg:Expr)(R:It→Hp→Prop)(itv:Value)(s2:Shared):Prop :=
 ∃(it:Addr) (fp:List Addr) (tn:Nat→Heap→Prop) (J:It) (H':Hp),itv=.ref it∧Inv X pins σ H' s2∧Turn X.prog X.w X.K tg J fp it tn∧tn 0 s2.heap∧(∀b∈fp,FpOk X pins H' b)∧R J H'
def PI(X:Cx)(tg iter:Expr)(wi:TI):Prop :=
 ∀(pins:List (Addr×Obj)) (s:Shared) (σ:St) (H:Hp) (R:It→Hp→Prop),Inv X pins σ H s→wi σ H R →
  wpAny (model X.prog X.w) X.A (eval iter X.env) (fun v s1=>wpAny (model X.prog X.w) X.A (pyIter v) (PIE X pins σ tg R) X.xe s1) X.xe s
theorem a89{M:Model}{A:Around}{E:Value→Shared→Prop}{s:Shared}{tg:Expr}{it:Addr}{u:Value}{o:Obj}{n:String}{vs:Array Value}{Q:Unit→Shared→Prop}(ho:s.heap.get? it=some o)(hc:o.cls=.type n)(hd:o.data=.fields vs)
  (hn:["enumerate","zip","dict_itemiterator","dict_reverseitemiterator","odict_iterator","itertools.zip_longest","itertools.pairwise"].contains n=false) (hQ:Q () s):wpAny M A (letOwnedTupleGo tg (.ref it) u) Q E s:=by
 unfold letOwnedTupleGo
 cases tg<;>first
  | exact wpAny_pure hQ
  | (cases u<;>first
    | exact wpAny_pure hQ
    | (refine wpAny_bind (wpAny_load ho ?_)
       rw[hc,hd]
       show wpAny M A (if(["enumerate","zip","dict_itemiterator","dict_reverseitemiterator","odict_iterator","itertools.zip_longest","itertools.pairwise"].contains n && vs[0]? == some (rawInt _))=true then _ else _) Q E s
       rw[if_neg (by intro h;rw[hn,Bool.false_and]at h;cases h)]
       exact wpAny_pure hQ))
def Itl(K:W.Frag)(a:Addr):It :=
 ⟨fun i H=>∃xs x,SqL K H a xs∧xs[i]? = some x,fun i H x H'=>H'=H∧∀xs,SqL K H a xs→xs[i]? = some x,fun i H=>∃xs,SqL K H a xs∧xs.length≤i⟩
def Itr(lo:Int)(n:Nat):It:=⟨fun i _=>i<n,fun i H x H'=>H'=H∧x=.int (lo+i),fun i _=>n≤i⟩
theorem a56{P:Program}{w:World}{K:W.Frag}{tg:Expr}(a it:Addr):Turn P w K tg (Itl K a) [it] it (fun i h=>h.IsListIter it a i) where
 mem:=by simp
 obj:=fun i h st b hb=>by
  have e:b=it:=by simpa using hb
  subst e
  obtain⟨o,e,c,d⟩:=st
  exact⟨o,e,fun v z=>by rw[d]at z;cases z⟩
 keep:=fun i h h' st k=>st.at fun o e=>k it (by simp) o e
 item:=by
  intro X hP hw hK hc i pins s σ H E I hf st hg
  subst hP hw hK
  obtain⟨xs,x,hq,hx⟩:=hg
  obtain⟨its,rv,p,hz⟩:=I.list hq
  obtain⟨u,hu,ru⟩:=rv.get hx
  obtain⟨f0,f1,f2,f3,f4,f5⟩:=hf it (by simp)
  refine wpAny_pyNext_list_item st p.isList (x:=u) (by simpa using hu) fun h' st' sb=>?_
  have I1:Inv X pins σ H { s with heap:=h' }:=I.turned (t':=s.toks) (fun b o hb e=>(sb.2 b hb).trans e) f0 f1 f3 f4 f5
  obtain⟨o,e,c,d⟩:=id st'
  exact⟨u,rfl,a89 (s:={ s with heap:=h' }) e c d (by decide) ⟨x,H,I1,ru,⟨rfl,fun ys hy=>by rw[I.list_inj hy hq];exact hx⟩,st',fun b hb=>(hf b hb).1⟩⟩
 done:=by
  intro X hP hw hK hc i pins s σ H E I hf st hg
  subst hP hw hK
  obtain⟨xs,hq,hx⟩:=hg
  obtain⟨its,rv,p,hz⟩:=I.list hq
  obtain⟨f0,f1,f2,f3,f4,f5⟩:=hf it (by simp)
  have hl:=rv.length
  exact wpAny_pyNext_list_end (I.ok.hd hc) st p.isList (by simp;omega) fun h' eb=>⟨rfl,I.turned (t':=s.toks) (fun b o hb e=>eb b o hb e) f0 f1 f3 f4 f5⟩
 self:=fun _ _ _ _ _ st h=>wpAny_pyIter_listiter st h
theorem a5j{P:Program}{w:World}{K:PySem.W.Frag}{tg:Expr}(it:Addr)(lo:Int)(n:Nat):Turn P w K tg (Itr lo n) [it] it (fun i h=>IsRangeIter h it (lo+(i:Nat)*1) ((n:Int)-(i:Nat)) 1) where
 mem:=by simp
 obj:=fun i h st b hb=>by
  have e:b=it:=by simpa using hb
  subst e
  exact⟨_,st,fun v z=>by
   have z':Data.fields _=Data.cell v:=z
   cases z'⟩
 keep:=fun i h h' st k=>k it (by simp) _ st
 item:=by
  intro X hP hw hK hc i pins s σ H E I hf st hg
  subst hP hw hK
  obtain⟨f0,f1,f2,f3,f4,f5⟩:=hf it (by simp)
  have W:=Walks.range (prog:=X.prog) (w:=X.w) (I.ok.hd hc) it lo 1 n
  refine W.item i s _ _ hg st fun v h' tk hv st' kk=>?_
  obtain⟨t,rfl⟩:=hv
  have I1:Inv X pins σ H { s with heap:=h',toks:=tk }:=I.turned (fun b o hb e=>kk b o (by simpa using hb) e) f0 f1 f3 f4 f5
  refine⟨_,rfl,a89 (s:={ s with heap:=h',toks:=tk }) (n := "range_iterator") st' rfl rfl (by decide) ⟨.int (lo+i),H,I1,⟨t,?_⟩,⟨rfl,rfl⟩,st',fun b hb=>(hf b hb).1⟩⟩
  rw[Int.mul_one]
 done:=by
  intro X hP hw hK hc i pins s σ H E I hf st hg
  subst hP hw hK
  obtain⟨f0,f1,f2,f3,f4,f5⟩:=hf it (by simp)
  exact wpAny_pyNext_range_end (I.ok.hd hc) st (by have:n≤i:=hg;omega) fun h' eb=>⟨rfl,I.turned (t':=s.toks) (fun b o hb e=>eb b o hb e) f0 f1 f3 f4 f5⟩
 self:=fun _ _ _ _ _ st h=>wpAny_pyIter_rangeiter st h
section
variable {X:Cx}{tg:Expr}
def a5k(K:W.Frag)(tl:TE):TI:=fun σ H R=>tl σ H fun x H1=>∃a,x=.ref a∧(∃xs,SqL K H1 a xs)∧R (Itl K a) H1
theorem a17{l:Expr}{tl:TE}(hl:PE X l tl):PI X tg l (a5k X.K tl):=by
 intro pins s σ H R I h
 refine i6 (hl pins s σ H _ I h) fun v s1 ⟨x,H1,I1,r1,q1⟩=>?_
 obtain⟨a,e,⟨xs,hq⟩,q⟩:=q1
 subst e
 cases r1
 obtain⟨its,rv,p,hz⟩:=I1.list hq
 refine wpAny_pyIter_list p.isList ?_
 refine⟨s1.heap.objs.size,[s1.heap.objs.size],_,_,H1,rfl,I1.kept (t':=s1.toks) fun b o e=>Heap.get?_push_of_some _ e,a56 a _,⟨_,Heap.get?_push_size _ rfl,rfl,rfl⟩,fun b hb=>?_,q⟩
 have e:b=s1.heap.objs.size:=by simpa using hb
 subst e
 exact I1.fpOk (Nat.le_refl _) (I1.hok.fresh (Nat.le_refl _))
theorem a7E{pins:List (Addr×Obj)}{σ:St}{H:Hp}{s:Shared}{R:It→Hp→Prop}{E:Value→Shared→Prop}{lo hi:Int}{t u v:Tok}{tk:Nat}(I:Inv X pins σ H s)(h1 : -(2 ^ 62)≤lo)(h2:lo<2 ^ 62)(h3 : -(2 ^ 62)≤hi)(h4:hi<2 ^ 62)
  (q:R (Itr lo (hi-lo).toNat) H):wpAny (model X.prog X.w) X.A (pyIter (.ref s.heap.objs.size)) (PIE X pins σ tg R) E { s with heap:=s.heap.push { cls:=.type "range",data:=.fields #[.int lo t,.int hi u,.int 1 v] },toks:=tk }:=by
 refine wpAny_pyIter_range (IsRange.new ..) (small_one h1 h2 h3 h4) ?_
 have I1:Inv X pins σ H { s with heap:=s.heap.push { cls:=.type "range",data:=.fields #[.int lo t,.int hi u,.int 1 v] },toks:=tk }:=I.kept fun b o e=>Heap.get?_push_of_some _ e
 refine⟨(s.heap.push { cls:=.type "range",data:=.fields #[.int lo t,.int hi u,.int 1 v] }).objs.size,[(s.heap.push { cls:=.type "range",data:=.fields #[.int lo t,.int hi u,.int 1 v] }).objs.size],_,_,H,rfl,
  I1.kept (t':=tk) fun b o e=>Heap.get?_push_of_some _ e,a5j _ lo (hi-lo).toNat,?_,fun b hb=>?_,q⟩
 ·have e1:lo+((0:Nat):Int)*1=lo:=by simp
  have e2:(((hi-lo).toNat:Nat):Int)-((0:Nat):Int)=Builtin.Range.rangeSize lo hi 1:=by rw[rangeSize_one];split<;>omega
  show IsRangeIter _ _ (lo+((0:Nat):Int)*1) ((((hi-lo).toNat:Nat):Int)-((0:Nat):Int)) 1
  rw[e1,e2]
  exact Heap.get?_push_size _ rfl
 ·have e:b=(s.heap.push { cls:=.type "range",data:=.fields #[.int lo t,.int hi u,.int 1 v] }).objs.size:=by simpa using hb
  subst e
  exact I1.fpOk (Nat.le_refl _) (I1.hok.fresh (Nat.le_refl _))
def a8_(ta:TA):TI:=fun σ H R=>ta σ H fun vs H1=>∃j:Int,vs=[.int j]∧-(2 ^ 62)≤j∧j<2 ^ 62∧R (Itr 0 j.toNat) H1
theorem a57{a:Expr}{ta:TA}{p pos:Pos}(hg:Gl X "range")(hm:X.mg "range" = none)(ha:PA X [a] ta)(hs:starEach [a] X.env=[(false,eval a X.env)]:=by rfl):PI X tg (.Call (.Name "range" p) [a] [] pos) (a8_ ta):=by
 intro pins s σ H R I h
 refine Call_ (U1 I hg hm boot_range (PyProof.Rows.callWith_type1 (i6 (ha pos pins s σ H _ I h) fun us s1 ⟨vs,H1,I1,r1,q1⟩=>?_) hs rfl))
 obtain⟨j,e,q1,q2,q⟩:=q1
 subst e
 cases r1 with
 | cons r rr =>
  cases rr
  obtain⟨t,rfl⟩:=r
  exact call_range_1 (a7E I1 (by omega) (by omega) q1 q2 (by simpa using q))
def a5l(wi:TI)(g:TG)(tb:TS):TS:=fun D σ H=>wi σ H fun J H1=>∃W:Nat→Nat→St→Hp→Prop,(∃m,W 0 m σ H1)∧∀i m σ H,W i m σ H →
 (J.stop i H∧D.nx σ H)∨(J.go i H∧∃N:St→Hp→Prop,(∀σ' H',N σ' H'→∃m',m'<m∧W (i+1) m' σ' H')∧∀x H',J.yld i H x H'→g x σ H' fun σ2 H2=>tb { D with nx:=N,ct:=N,bk:=D.nx } σ2 H2)
def Z0(fp:List Addr)(h:Heap):List (Addr×Obj):=fp.filterMap fun b=>(h.get? b).map fun o=>(b,o)
theorem O8{fp:List Addr}{h:Heap}{b:Addr}{o:Obj}(hb:b∈fp)(e:h.get? b=some o):(b,o)∈Z0 fp h:=List.mem_filterMap.mpr ⟨b,hb,by rw[e];rfl⟩
theorem a58{fp:List Addr}{h:Heap}{p:Addr×Obj}(hp:p∈Z0 fp h):p.1∈fp∧h.get? p.1=some p.2:=by
 obtain⟨b,hb,e⟩:=List.mem_filterMap.mp hp
 cases q:h.get? b with
 | none=>rw[q]at e;cases e
 | some o =>
  rw[q]at e
  have e':(b,o)=p:=Option.some.inj e
  subst e'
  exact⟨hb,q⟩
theorem Inv.pinned{pins:List (Addr×Obj)}{σ:St}{H:Hp}{s:Shared}{fp:List Addr}(I:Inv X pins σ H s)(hf:∀b∈fp,FpOk X pins H b)(ho:∀b∈fp,∃o,s.heap.get? b=some o∧∀v,o.data≠.cell v):Inv X (pins++Z0 fp s.heap) σ H s :=
 I.pins_of fun p hp=>(List.mem_append.mp hp).elim (fun z=>I.pin p (List.mem_append_right _ z)) fun z=>by
  obtain⟨hb,e⟩:=a58 z
  obtain⟨f0,f1,f2,_⟩:=hf p.1 hb
  obtain⟨o,e',d⟩:=ho p.1 hb
  rw[e]at e';cases e'
  exact⟨e,f0,f1,f2,d⟩
theorem Inv.unpinned{pins pl:List (Addr×Obj)}{σ:St}{H:Hp}{s:Shared}(I:Inv X (pins++pl) σ H s):Inv X pins σ H s:=I.pins_of fun p hp=>I.pin p (List.mem_append_right _ (List.mem_append_left _ hp))
theorem a1i{iter:Expr}{body:List Stmt}{wi:TI}{g:TG}{tb:TS}{pos:Pos}(hp:PassesOwn (model X.prog X.w) X.A X.env X.xe)(hc:X.calm=true)(hi:PI X tg iter wi)(hg:PG X tg g)(hb:PSs X body tb)
  (hs:∀x,foldedSetIterable iter X.env x=pure x:=by intro _;rfl):PS X (.For tg iter body [] pos) (a5l wi g tb):=by
 intro pins s σ H D I h
 refine wpAny_For (i6 (hi pins s σ H _ I h) fun v s1 h1=>i6 h1 fun itv s2 h2=>?_) hs
 obtain⟨it,fp,tn,J,H2,e,I2,T,st2,f2,W,⟨m0,w0⟩,turn⟩:=h2
 subst e
 -- what stays true of the iterator's objects through the loop
 have stat:∀{H':Hp},(∀b∈fp,H' b=none)→∀b∈fp,FpOk X pins H' b:=fun hn b hb=>⟨hn b hb,(f2 b hb).2⟩
 refine codeAny_forLoop_any (fun n s'=>∃i σ' H',Inv X pins σ' H' s'∧tn i s'.heap∧(∀b∈fp,H' b=none)∧W i n σ' H') ?_ m0 ⟨0,σ,H2,I2,st2,fun b hb=>(f2 b hb).1,w0⟩
 rintro n s3 ⟨i,σ3,H3,I3,st3,fr3,w3⟩
 rcases turn i n σ3 H3 w3 with⟨stop,qn⟩ | ⟨go,N,hN,step⟩
 ·refine wpAny_passesOwn hp (i6 (T.done X rfl rfl rfl hc i pins s3 σ3 H3 X.xe I3 (stat fr3) st3 stop) fun r s4 ⟨hr,I4⟩=>?_)
  subst hr
  exact wpAny_execs_nil ⟨σ3,H3,I4,qn⟩
 ·refine wpAny_passesOwn hp (i6 (T.item X rfl rfl rfl hc i pins s3 σ3 H3 X.xe I3 (stat fr3) st3 go) fun r s4 ⟨u,hr,h4⟩=>?_)
  subst hr
  refine wpAny_passesOwn hp (i6 h4 fun _ s5 ⟨x,H5,I5,r5,y5,st5,fr5⟩=>?_)
  have I5':=I5.pinned (stat fr5) (T.obj _ _ st5)
  refine wpAny_passesOwn hp (i6 (hg _ s5 σ3 H5 x u _ I5' r5 (step x H5 y5)) fun _ s6 ⟨σ6,H6,I6,q6⟩=>?_)
  refine wpAny_passesOwn hp (i6 (hb _ s6 σ6 H6 _ I6 q6) fun f s7 q7=>?_)
  have again:∀{σ7:St} {H7:Hp},Inv X (pins++Z0 fp s5.heap) σ7 H7 s7→N σ7 H7→∃m,m<n∧∃i σ' H',Inv X pins σ' H' s7∧tn i s7.heap∧(∀b∈fp,H' b=none)∧W i m σ' H':=fun{σ7 H7} I7 n7=>by
   obtain⟨m',hm,w7⟩:=hN σ7 H7 n7
   refine⟨m',hm,i+1,σ7,H7,I7.unpinned,T.keep _ _ _ st5 fun b hb o e=>(I7.pin (b,o) (List.mem_append_right _ (List.mem_append_right _ (O8 hb e)))).1,fun b hb=>?_,w7⟩
   obtain⟨o,e,d⟩:=T.obj _ _ st5 b hb
   exact(I7.pin (b,o) (List.mem_append_right _ (List.mem_append_right _ (O8 hb e)))).2.1
  cases f with
  | next=>obtain⟨σ7,H7,I7,n7⟩:=q7;exact again I7 n7
  | cont=>obtain⟨σ7,H7,I7,n7⟩:=q7;exact again I7 n7
  | brk=>obtain⟨σ7,H7,I7,q7⟩:=q7;exact⟨σ7,H7,I7.unpinned,q7⟩
  | ret v=>obtain⟨x7,σ7,H7,I7,r7,q7⟩:=q7;exact⟨x7,σ7,H7,I7.unpinned,r7,q7⟩
end
theorem a7F{K:PySem.W.Frag}{a:Addr}{xs:List V}{g:TG}{tb:TS}{D:Ends}{σ:St}{H:Hp}(Pv:Nat→St→Hp→Prop)(h0:Pv 0 σ H)(hl:∀i σ H,i≤xs.length→Pv i σ H→SqL K H a xs)
  (hs:∀i x σ H,xs[i]? = some x→Pv i σ H→g x σ H fun σ2 H2=>tb { D with nx:=Pv (i+1),ct:=Pv (i+1),bk:=D.nx } σ2 H2) (hd:∀σ H,Pv xs.length σ H→D.nx σ H) :
  ∃W:Nat→Nat→St→Hp→Prop,(∃m,W 0 m σ H)∧∀i m σ H,W i m σ H →
   ((Itl K a).stop i H∧D.nx σ H)∨((Itl K a).go i H∧∃N:St→Hp→Prop,(∀σ' H',N σ' H'→∃m',m'<m∧W (i+1) m' σ' H')∧∀x H',(Itl K a).yld i H x H'→g x σ H' fun σ2 H2=>tb { D with nx:=N,ct:=N,bk:=D.nx } σ2 H2):=by
 refine⟨fun i m σ H=>m=xs.length-i∧i≤xs.length∧Pv i σ H,⟨xs.length,by simp,Nat.zero_le _,h0⟩,?_⟩
 rintro i m σ H ⟨rfl,hi,p⟩
 have q:=hl i σ H hi p
 by_cases hlt:i<xs.length
 ·refine .inr ⟨⟨xs,xs[i],q,by simp[hlt]⟩,Pv (i+1),fun σ' H' p'=>⟨xs.length-(i+1),by omega,rfl,hlt,p'⟩,fun x H' y=>?_⟩
  obtain⟨e,y⟩:=y
  subst e
  exact hs i x σ _ (y xs q) p
 ·have e:i=xs.length:=by omega
  subst e
  exact .inl ⟨⟨xs,q,Nat.le_refl _⟩,hd σ H p⟩
theorem a59{lo:Int}{n:Nat}{g:TG}{tb:TS}{D:Ends}{σ:St}{H:Hp}(Pv:Nat→St→Hp→Prop)(h0:Pv 0 σ H)
  (hs:∀i σ H,i<n→Pv i σ H→g (.int (lo+i)) σ H fun σ2 H2=>tb { D with nx:=Pv (i+1),ct:=Pv (i+1),bk:=D.nx } σ2 H2) (hd:∀σ H,Pv n σ H→D.nx σ H) :
  ∃W:Nat→Nat→St→Hp→Prop,(∃m,W 0 m σ H)∧∀i m σ H,W i m σ H →
   ((Itr lo n).stop i H∧D.nx σ H)∨((Itr lo n).go i H∧∃N:St→Hp→Prop,(∀σ' H',N σ' H'→∃m',m'<m∧W (i+1) m' σ' H')∧∀x H',(Itr lo n).yld i H x H'→g x σ H' fun σ2 H2=>tb { D with nx:=N,ct:=N,bk:=D.nx } σ2 H2):=by
 refine⟨fun i m σ H=>m=n-i∧i≤n∧Pv i σ H,⟨n,by simp,Nat.zero_le _,h0⟩,?_⟩
 rintro i m σ H ⟨rfl,hi,p⟩
 by_cases hlt:i<n
 ·refine .inr ⟨hlt,Pv (i+1),fun σ' H' p'=>⟨n-(i+1),by omega,rfl,hlt,p'⟩,fun x H' y=>?_⟩
  obtain⟨e,y⟩:=y
  subst e y
  exact hs i σ _ hlt p
 ·have e:i=n:=by omega
  subst e
  exact .inl ⟨Nat.le_refl _,hd σ H p⟩
abbrev R2:=V→V→Hp→VK→Prop
def OpR(X:Cx)(f:Value→Value→Sem Value)(r:R2):Prop :=
 ∀(pins:List (Addr×Obj)) (s:Shared) (σ:St) (H:Hp) (x y:V) (v u:Value) (Q:VK),Inv X pins σ H s→RelV x v→RelV y u→r x y H Q →
  wpAny (model X.prog X.w) X.A (f v u) (EP X pins σ Q) X.xe s
def UnR(X:Cx)(f:Value→Sem Value)(r:V→Hp→VK→Prop):Prop :=
 ∀(pins:List (Addr×Obj)) (s:Shared) (σ:St) (H:Hp) (x:V) (v:Value) (Q:VK),Inv X pins σ H s→RelV x v→r x H Q →
  wpAny (model X.prog X.w) X.A (f v) (EP X pins σ Q) X.xe s
def CallR(X:Cx)(f:Value)(r:List V→Hp→VK→Prop):Prop :=
 ∀(pins:List (Addr×Obj)) (s:Shared) (σ:St) (H:Hp) (xs:List V) (us:List Value) (Q:VK),Inv X pins σ H s→Vals xs us→r xs H Q →
  wpAny (model X.prog X.w) X.A (call f us) (EP X pins σ Q) X.xe s
def tOp(r:R2)(ta tb:TE):TE:=fun σ H Q=>ta σ H fun x H1=>tb σ H1 fun y H2=>r x y H2 Q
def tUn(r:V→Hp→VK→Prop)(ta:TE):TE:=fun σ H Q=>ta σ H fun x H1=>r x H1 Q
def rI(C:Int→Int→Prop)(g:Int→Int→V):R2:=fun x y H Q=>∃i j,x=.int i∧y=.int j∧C i j∧Q (g i j) H
def U4(g:Int→Int→V):R2:=fun x y H Q=>∃i j,x=.int i∧y=.int j∧Q (g i j) H
def rU(g:Int→V):V→Hp→VK→Prop:=fun x H Q=>∃i,x=.int i∧Q (g i) H
section
variable {X:Cx}{a b c:Expr}{ta tb tc:TE}{pos:Pos}
theorem a7G(ha:PE X a ta)(hb:PE X b tb){pins:List (Addr×Obj)}{s:Shared}{σ:St}{H:Hp}{R:V→V→Hp→Prop}(I:Inv X pins σ H s)
  (h:ta σ H fun x H1=>tb σ H1 fun y H2=>R x y H2) {Q:Value→Shared→Prop} {f:Value→Value→Sem Value}
  (hf:∀v u s2 x y H2,Inv X pins σ H2 s2→RelV x v→RelV y u→R x y H2→wpAny (model X.prog X.w) X.A (f v u) Q X.xe s2) :
  wpAny (model X.prog X.w) X.A (eval a X.env) (fun v s₁=>wpAny (model X.prog X.w) X.A (eval b X.env) (fun u s₂=>wpAny (model X.prog X.w) X.A (f v u) Q X.xe s₂) X.xe s₁) X.xe s:=by
 refine i6 (ha pins s σ H _ I h) fun v s1 ⟨x,H1,I1,r1,q1⟩=>?_
 refine i6 (hb pins s1 σ H1 _ I1 q1) fun u s2 ⟨y,H2,I2,r2,q2⟩=>?_
 exact hf v u s2 x y H2 I2 r1 r2 q2
theorem i8{op:Operator}{r:R2}(ho:OpR X (binaryOp op) r)(ha:PE X a ta)(hb:PE X b tb):PE X (.BinOp a op b pos) (tOp r ta tb):=by
 intro pins s σ H Q I h
 exact wpAny_BinOp (a7G ha hb I h fun v u s2 x y H2 I2 rx ry q=>ho pins s2 σ H2 x y v u Q I2 rx ry q)
theorem a5m{op:UnaryOp}{r:V→Hp→VK→Prop}(ho:UnR X (unaryOp op) r)(ha:PE X a ta):PE X (.UnaryOp op a pos) (tUn r ta):=by
 intro pins s σ H Q I h
 exact UnaryOp_ (i6 (ha pins s σ H _ I h) fun v s1 ⟨x,H1,I1,r1,q1⟩=>ho pins s1 σ H1 x v Q I1 r1 q1)
theorem opI{f:Value→Value→Sem Value}{C:Int→Int→Prop}{g:Int→Int→Int}
  (rule:∀(i j:Int) (t u:Tok) (s:Shared) (Q:Value→Shared→Prop) (E:Value→Shared→Prop),C i j→Q (.int (g i j) s.toks) { s with toks:=s.toks+1 }→wpAny (model X.prog X.w) X.A (f (.int i t) (.int j u)) Q E s) :
  OpR X f (rI C fun i j=>.int (g i j)):=by
 intro pins s σ H x y v u Q I rx ry h
 obtain⟨i,j,rfl,rfl,hc,q⟩:=h
 obtain⟨t,rfl⟩:=rx
 obtain⟨t',rfl⟩:=ry
 exact rule i j t t' s _ _ hc ⟨.int (g i j),H,I.tok _,⟨_,rfl⟩,q⟩
theorem b1M{f:Value→Value→Sem Value}{g:Int→Int→Int}
  (rule:∀(i j:Int) (t u:Tok) (s:Shared) (Q:Value→Shared→Prop) (E:Value→Shared→Prop),Q (.int (g i j) s.toks) { s with toks:=s.toks+1 }→wpAny (model X.prog X.w) X.A (f (.int i t) (.int j u)) Q E s) :
  OpR X f (U4 fun i j=>.int (g i j)):=by
 intro pins s σ H x y v u Q I rx ry h
 obtain⟨i,j,rfl,rfl,q⟩:=h
 obtain⟨t,rfl⟩:=rx
 obtain⟨t',rfl⟩:=ry
 exact rule i j t t' s _ _ ⟨.int (g i j),H,I.tok _,⟨_,rfl⟩,q⟩
theorem a7H{f:Value→Value→Sem Value}{g:Int→Int→Bool}
  (rule:∀(i j:Int) (t u:Tok) (s:Shared) (Q:Value→Shared→Prop) (E:Value→Shared→Prop),Q (.bool (g i j)) s→wpAny (model X.prog X.w) X.A (f (.int i t) (.int j u)) Q E s) :
  OpR X f (U4 fun i j=>.bl (g i j)):=by
 intro pins s σ H x y v u Q I rx ry h
 obtain⟨i,j,rfl,rfl,q⟩:=h
 obtain⟨t,rfl⟩:=rx
 obtain⟨t',rfl⟩:=ry
 exact rule i j t t' s _ _ ⟨.bl (g i j),H,I,rfl,q⟩
def a18(i j:Int):Prop:=0≤j∧j≤1000000∧i.natAbs<2 ^ 64
def CMul(i j:Int):Prop:=(-(2 ^ 64)<i∧i<2 ^ 64)∨(-(2 ^ 64)<j∧j<2 ^ 64)
theorem CMul.ok{i j:Int}(h:CMul i j):IntMulOk i j:=by
 rcases h with⟨h1,h2⟩ | ⟨h1,h2⟩
 ·exact .of_left (intBits_le_64 h1 h2)
 ·exact .of_right (intBits_le_64 h1 h2)
theorem U5:OpR X (binaryOp .Add) (U4 fun i j=>.int (i+j)):=b1M fun _ _ _ _ _ _ _ q=>add_int q
theorem a3q:OpR X (binaryOp .Sub) (U4 fun i j=>.int (i-j)):=b1M fun _ _ _ _ _ _ _ q=>sub_int q
theorem w9:OpR X (binaryOp .Mod) (rI (fun _ j=>0<j) fun i j=>.int (i%j)):=opI fun i j _ _ _ _ _ hc q=>by
 have h1:(0:Int)<j:=hc
 exact mod_int' (by omega) (by rw[Int.fmod_eq_emod_of_nonneg i (by omega)];exact q)
theorem a5_:OpR X (binaryOp .Pow) (rI a18 fun i j=>.int (i ^ j.toNat)):=opI fun _ _ _ _ _ _ _ hc q=>pow_int_small hc.1 hc.2.1 hc.2.2 q
theorem unI{f:Value→Sem Value}{g:Int→Int}
  (rule:∀(i:Int) (t:Tok) (s:Shared) (Q:Value→Shared→Prop) (E:Value→Shared→Prop),Q (.int (g i) s.toks) { s with toks:=s.toks+1 }→wpAny (model X.prog X.w) X.A (f (.int i t)) Q E s) :
  UnR X f (rU fun i=>.int (g i)):=by
 intro pins s σ H x v Q I rx h
 obtain⟨i,rfl,q⟩:=h
 obtain⟨t,rfl⟩:=rx
 exact rule i t s _ _ ⟨.int (g i),H,I.tok _,⟨_,rfl⟩,q⟩
theorem a3r:UnR X (unaryOp .USub) (rU fun i=>.int (-i)):=unI fun _ _ _ _ _ q=>neg_int q
end
def a3s:V→V→Bool
 | .non,.non=>true | .non,.int _=>true | .int _,.non=>true | .non,.bl _=>true | .bl _,.non=>true | .non,.str _=>true | .str _,.non=>true
 | .int _,.int _=>true | .bl _,.bl _=>true | .str _,.str _=>true | .byt _,.byt _=>true
 | .int _,.str _=>true | .str _,.int _=>true | .bl _,.str _=>true | .str _,.bl _=>true
 | _,_=>false
def rEq:R2:=fun x y H Q=>a3s x y=true∧Q (.bl (decide (x=y))) H
def rNe:R2:=fun x y H Q=>a3s x y=true∧Q (.bl (!decide (x=y))) H
theorem a4B{i j:Int}:decide (V.int i=V.int j)=(i == j):=by
 rw[Bool.eq_iff_iff]
 simp
theorem a6a{i j:Bool}:decide (V.bl i=V.bl j)=(i == j):=by
 rw[Bool.eq_iff_iff]
 simp
theorem a4C{i j:Str}:decide (V.str i=V.str j)=(i == j):=by
 rw[Bool.eq_iff_iff]
 simp
theorem a4D{i j:Array UInt8}:decide (V.byt i=V.byt j)=(i.toList == j.toList):=by
 rw[Bool.eq_iff_iff]
 cases i
 cases j
 simp
section
variable {X:Cx}{a b c:Expr}{ta tb tc:TE}{pos:Pos}
theorem j8{pins:List (Addr×Obj)}{σ:St}{H:Hp}{s:Shared}{Q:VK}{k k':Bool}(I:Inv X pins σ H s)(q:Q (.bl k) H)(e:k=k'):EP X pins σ Q (.bool k') s:=by
 subst e
 exact⟨.bl k,H,I,rfl,q⟩
theorem D5:OpR X (compareOp .Eq) rEq:=by
 intro pins s σ H x y v u Q I rx ry h
 obtain⟨hs,q⟩:=h
 cases x with
 | non =>
  cases rx
  cases y with
  | non=>cases ry;exact PySem.EqNone.eq_none_none (j8 I q (by simp))
  | bl j=>cases ry;exact PySem.EqNone.eq_none_bool (j8 I q (by simp))
  | int j=>obtain⟨t',rfl⟩:=ry;exact PySem.EqNone.eq_none_int (j8 I q (by simp))
  | str j=>obtain⟨t',rfl⟩:=ry;exact PySem.EqNone.eq_none_str (j8 I q (by simp))
  | _=>exact absurd (show false=true from hs) Bool.false_ne_true
 | bl i =>
  cases rx
  cases y with
  | non=>cases ry;exact PySem.EqNone.eq_bool_none (j8 I q (by simp))
  | bl j=>cases ry;exact eq_bool (j8 I q a6a)
  | str j=>obtain⟨t',rfl⟩:=ry;exact PySem.EqMixed.eq_bool_str (j8 I q (by simp))
  | _=>exact absurd (show false=true from hs) Bool.false_ne_true
 | int i =>
  obtain⟨t,rfl⟩:=rx
  cases y with
  | non=>cases ry;exact PySem.EqNone.eq_int_none (j8 I q (by simp))
  | int j=>obtain⟨t',rfl⟩:=ry;exact eq_int (j8 I q a4B)
  | str j=>obtain⟨t',rfl⟩:=ry;exact PySem.EqMixed.eq_int_str (j8 I q (by simp))
  | _=>exact absurd (show false=true from hs) Bool.false_ne_true
 | str i =>
  obtain⟨t,rfl⟩:=rx
  cases y with
  | non=>cases ry;exact PySem.EqNone.eq_str_none (j8 I q (by simp))
  | bl j=>cases ry;exact PySem.EqMixed.eq_str_bool (j8 I q (by simp))
  | int j=>obtain⟨t',rfl⟩:=ry;exact PySem.EqMixed.eq_str_int (j8 I q (by simp))
  | str j=>obtain⟨t',rfl⟩:=ry;exact eq_str (j8 I q a4C)
  | _=>exact absurd (show false=true from hs) Bool.false_ne_true
 | byt i =>
  obtain⟨t,rfl⟩:=rx
  cases y with
  | byt j=>obtain⟨t',rfl⟩:=ry;exact W.eq_bytes (j8 I q a4D)
  | _=>exact absurd (show false=true from hs) Bool.false_ne_true
 | _=>cases y<;>exact absurd (show false=true from hs) Bool.false_ne_true
theorem b27:OpR X (compareOp .NotEq) rNe:=by
 intro pins s σ H x y v u Q I rx ry h
 obtain⟨hs,q⟩:=h
 cases x with
 | non =>
  cases rx
  cases y with
  | non=>cases ry;exact PySem.EqNone.ne_none_none (j8 I q (by simp))
  | bl j=>cases ry;exact PySem.EqNone.ne_none_bool (j8 I q (by simp))
  | int j=>obtain⟨t',rfl⟩:=ry;exact PySem.EqNone.ne_none_int (j8 I q (by simp))
  | str j=>obtain⟨t',rfl⟩:=ry;exact PySem.EqNone.ne_none_str (j8 I q (by simp))
  | _=>exact absurd (show false=true from hs) Bool.false_ne_true
 | bl i =>
  cases rx
  cases y with
  | non=>cases ry;exact PySem.EqNone.ne_bool_none (j8 I q (by simp))
  | bl j=>cases ry;exact ne_bool (j8 I q (congrArg not a6a))
  | str j=>obtain⟨t',rfl⟩:=ry;exact PySem.EqMixed.ne_bool_str (j8 I q (by simp))
  | _=>exact absurd (show false=true from hs) Bool.false_ne_true
 | int i =>
  obtain⟨t,rfl⟩:=rx
  cases y with
  | non=>cases ry;exact PySem.EqNone.ne_int_none (j8 I q (by simp))
  | int j=>obtain⟨t',rfl⟩:=ry;exact ne_int (j8 I q (congrArg not a4B))
  | str j=>obtain⟨t',rfl⟩:=ry;exact PySem.EqMixed.ne_int_str (j8 I q (by simp))
  | _=>exact absurd (show false=true from hs) Bool.false_ne_true
 | str i =>
  obtain⟨t,rfl⟩:=rx
  cases y with
  | non=>cases ry;exact PySem.EqNone.ne_str_none (j8 I q (by simp))
  | bl j=>cases ry;exact PySem.EqMixed.ne_str_bool (j8 I q (by simp))
  | int j=>obtain⟨t',rfl⟩:=ry;exact PySem.EqMixed.ne_str_int (j8 I q (by simp))
  | str j=>obtain⟨t',rfl⟩:=ry;exact ne_str (j8 I q (congrArg not a4C))
  | _=>exact absurd (show false=true from hs) Bool.false_ne_true
 | byt i =>
  obtain⟨t,rfl⟩:=rx
  cases y with
  | byt j=>obtain⟨t',rfl⟩:=ry;exact W.ne_bytes (j8 I q (congrArg not a4D))
  | _=>exact absurd (show false=true from hs) Bool.false_ne_true
 | _=>cases y<;>exact absurd (show false=true from hs) Bool.false_ne_true
theorem b28:OpR X (compareOp .Lt) (U4 fun i j=>.bl (decide (i<j))):=a7H fun _ _ _ _ _ _ _ q=>lt_int q
theorem a1j:OpR X (compareOp .Gt) (U4 fun i j=>.bl (decide (j<i))):=a7H fun _ _ _ _ _ _ _ q=>gt_int q
theorem a5n:OpR X (compareOp .GtE) (U4 fun i j=>.bl (decide (j≤i))):=a7H fun _ _ _ _ _ _ _ q=>ge_int q
theorem a6b:OpR X (compareOp .Is) (fun x y H Q=>y=.non∧Q (.bl (decide (x=.non))) H):=by
 intro pins s σ H x y v u Q I rx ry h
 obtain⟨rfl,q⟩:=h
 cases ry
 refine is_none_gen (j8 I q ?_)
 cases x<;>first
  | (cases rx;rfl)
  | (obtain⟨t,rfl⟩:=rx;rfl)
theorem a9J:OpR X (compareOp .IsNot) (fun x y H Q=>y=.non∧Q (.bl (!decide (x=.non))) H):=by
 intro pins s σ H x y v u Q I rx ry h
 obtain⟨rfl,q⟩:=h
 cases ry
 refine isnot_none_gen (j8 I q ?_)
 cases x<;>first
  | (cases rx;rfl)
  | (obtain⟨t,rfl⟩:=rx;rfl)
theorem OpR.or{f:Value→Value→Sem Value}{r r':R2}(h:OpR X f r)(h':OpR X f r'):OpR X f (fun x y H Q=>r x y H Q∨r' x y H Q):=by
 intro pins s σ H x y v u Q I rx ry q
 rcases q with q | q
 ·exact h pins s σ H x y v u Q I rx ry q
 ·exact h' pins s σ H x y v u Q I rx ry q
theorem k7(b:Expr){op:CmpOp}(h:op≠.In:=by decide)(h2:op≠.NotIn:=by decide):behindInMarks op b=false:=by
 have e1:(op == CmpOp.In)=false:=by cases op<;>first | rfl | exact absurd rfl h
 have e2:(op == CmpOp.NotIn)=false:=by cases op<;>first | rfl | exact absurd rfl h2
 cases b<;>simp[behindInMarks,e1,e2]
theorem U6{op:CmpOp}{r:R2}(ho:OpR X (compareOp op) r)(ha:PE X a ta)(hb:PE X b tb)(hm:behindInMarks op b=false):PE X (.Compare a [op] [b] pos) (tOp r ta tb):=by
 intro pins s σ H Q I h
 exact wpAny_Compare1 (a7G ha hb I h fun v u s2 x y H2 I2 rx ry q=>ho pins s2 σ H2 x y v u Q I2 rx ry q) hm
def a9a(t:TE):TT:=fun σ H Q=>t σ H fun x H'=>∃k,x=.bl k∧Q k H'
theorem j9{op:CmpOp}{r:R2}(ho:OpR X (compareOp op) r)(ha:PE X a ta)(hb:PE X b tb)(hm:behindInMarks op b=false):PT X (.Compare a [op] [b] pos) (a9a (tOp r ta tb)):=by
 intro pins s σ H Q I h
 refine wpAny_isTrue_Compare1 (i6 (ha pins s σ H _ I h) fun v s1 ⟨x,H1,I1,r1,q1⟩=>i6 (hb pins s1 σ H1 _ I1 q1) fun u s2 ⟨y,H2,I2,r2,q2⟩ =>
  i6 (ho pins s2 σ H2 x y v u _ I2 r1 r2 q2) fun c s3 ⟨z,H3,I3,r3,k,e,q3⟩=>?_) hm
 subst e
 cases r3
 exact wpAny_truthy_bool ⟨H3,I3,q3⟩
theorem P9:(sizeLine:Nat)<2 ^ 63:=by rw[sizeLine_eq];decide
theorem C0:OpR X (binaryOp .Add) (fun x y H Q=>∃i j,x=.str i∧y=.str j∧i.length+j.length≤sizeLine∧Q (.str (i++j)) H):=by
 intro pins s σ H x y v u Q I rx ry h
 obtain⟨i,j,rfl,rfl,hz,q⟩:=h
 obtain⟨t,rfl⟩:=rx
 obtain⟨t',rfl⟩:=ry
 exact add_str (fun t' tk=>⟨.str (i++j),H,I.tok _,⟨_,rfl⟩,q⟩) hz
theorem a5o{x:V}{us:List Value}(r:Vals [x] us):∃u,us=[u]∧RelV x u:=by
 cases r with
 | cons r1 r2=>cases r2;exact⟨_,rfl,r1⟩
theorem a5p{x y:V}{us:List Value}(r:Vals [x,y] us):∃u w',us=[u,w']∧RelV x u∧RelV y w':=by
 cases r with
 | cons r1 r2 =>
  cases r2 with
  | cons r3 r4=>cases r4;exact⟨_,_,rfl,r1,r3⟩
theorem a6c(hc:X.calm=true):CallR X (.builtin "max") (fun xs H Q=>∃i j,xs=[.int i,.int j]∧Q (.int (if j > i then j else i)) H):=by
 intro pins s σ H xs us Q I r h
 obtain⟨i,j,rfl,q⟩:=h
 obtain⟨u,w',rfl,⟨t,rfl⟩,⟨t',rfl⟩⟩:=a5p r
 refine max_two_ints (I.ok.hd hc) fun h' tk k=>⟨_,H,I.kept k,?_,q⟩
 by_cases hj:j > i
 ·rw[if_pos hj,if_pos hj];exact⟨_,rfl⟩
 ·rw[if_neg hj,if_neg hj];exact⟨_,rfl⟩
end
structure ObjM(h:Heap)(x dx C:Addr)(mA:Str→Option Value):Prop where
 obj:h.get? x=some (W.instObj C dx)
 ns:h.Ns1 dx mA
 ne:dx≠x
theorem a2G{h:Heap}{dx:Addr}{mA:Str→Option Value}(n:h.Ns1 dx mA):∃od,h.get? dx=some od∧∀name,W.lookIn name od=some (mA name):=by
 obtain⟨o,es,ep,ho,hd,hk,_,hm⟩:=n
 refine⟨o,ho,fun name=>?_⟩
 have e:=hm name
 unfold nsFind findBy at e
 rw[← Array.find?_toList]at e
 unfold W.lookIn
 rw[hd]
 dsimp only
 split
 ·rename_i y q
  rw[q]at e
  exact congrArg some e
 ·rename_i q
  rw[q]at e
  have a:es.toList.any (·.refKey)=false:=by
   rw[List.any_eq_false]
   intro y hy
   obtain⟨z,t,hkey⟩:=hk y (Array.mem_toList_iff.mp hy)
   simp[DictEntry.refKey,hkey]
  have a':¬es.toList.any (·.refKey)=true:=by rw[a];exact Bool.false_ne_true
  rw[if_neg a']
  exact congrArg some e
theorem ObjM.look{h:Heap}{x dx C:Addr}{mA:Str→Option Value}(I:ObjM h x dx C mA):∃od,W.InstAt h x (W.instObj C dx) C (some od)∧∀name,W.lookIn name od=some (mA name) :=
 let ⟨od,ho,hl⟩:=a2G I.ns
 ⟨od,⟨I.obj,rfl,rfl,ho⟩,hl⟩
section
variable {prog:Program}{w:World}{A:Around}{E:Value→Shared→Prop}{s:Shared}{K:W.Frag}{x dx C f:Addr}{mA:Str→Option Value}{name:Str}{v:Value}
theorem a7I{pl:Sem Bool}{Q:Value×List Value→Shared→Prop}(X:K.In s.heap)(I:ObjM s.heap x dx C mA)(hg:W.plainGet K C name=true)
  (hf:W.findIn K (.ref C) name=some (some (.ref f))) (ht:W.isFn K (.ref f)=true) (hv:mA name=none) (h:Q (.ref f,[.ref x]) s) :
  wpAny (model prog w) A (getMethod (.ref x) name pl) Q E s:=by
 obtain⟨od,J,hl⟩:=I.look
 exact W.method_fn X J (W.plainGet_of hg).1 (W.plainGet_of hg).2 hf (beq_iff_eq.mp ht) (by show(W.lookIn name od).map (·.isSome)=some false;rw[hl,hv];rfl) h
theorem a6d{R:Result→Shared→Prop}(X:K.In s.heap)(hm:W.makesIn K C=true)
  (hi:W.findIn K (.ref C) "__init__" = some (some (.builtin "object.__init__")))
  (hb:∀self,W.Looks (model prog w) s.heap (bindSpecial (.builtin "object.__init__") self) (.builtin "object.__init__",[self]))
  (h:codeAny (model prog w) (A.under (.builtin "type.__call__" ⟨[.ref C],[]⟩)) (.call (.builtin "object.__init__") ⟨[.ref (s.heap.objs.size+1)],[]⟩) (W.InitBack (s.heap.objs.size+1) R)
   { s with heap:=(s.heap.push W.emptyDict).push (W.instObj C s.heap.objs.size) }) :
  codeAny (model prog w) A (.call (.ref C) ⟨[],[]⟩) R s:=by
 obtain⟨hh,g,d,t,os⟩:=s
 exact W.make_core (W.makes_of X hm) (W.looks_findIn X hi) hb (.inr ⟨rfl,rfl⟩) h
end
theorem RelO.some_of{v:V}{o:Option Value}(r:RelO (some v) o):∃u,o=some u∧RelV v u:=by
 cases o with
 | none=>exact(show False from r).elim
 | some u=>exact⟨u,rfl,r⟩
theorem RelO.none_of{o:Option Value}(r:RelO none o):o=none:=by
 cases o with
 | none=>rfl
 | some u=>exact(show False from r).elim
theorem a6e{v:V}{u:Value}(r:RelV v u):W.handedIn u=true:=by
 cases v with
 | non=>cases (show u=Value.none from r);rfl
 | bl b=>cases (show u=Value.bool b from r);rfl
 | int i=>obtain⟨t,e⟩:=(show ∃t,u=Value.int i t from r);cases e;rfl
 | str x=>obtain⟨t,e⟩:=(show ∃t,u=Value.str x t from r);cases e;rfl
 | byt b=>obtain⟨t,e⟩:=(show ∃t,u=Value.bytes b t from r);cases e;rfl
 | flt b=>obtain⟨t,e⟩:=(show ∃t,u=Value.float b t from r);cases e;rfl
 | ref a=>cases (show u=Value.ref a from r);rfl
 | ty n=>cases (show u=Value.type n from r);rfl
section
variable {P:Program}{w:World}{H H':Hp}{h h':Heap}{a C dx:Addr}{fs fs':List (Str×V)}
theorem a4E(hok:HOk P w H h)(e:H a=some (.ins C dx fs)):∃mA,ObjM h a dx C mA∧(∀f,RelO (fs.lookup f) (mA f))∧PySem.Within mA (fs.map (·.1))∧fs.length≤1000∧H dx=some (.own a):=by
 obtain⟨d,z,ne,ob,mA,n,r,q⟩:=(show ObjOk P w H h a (.ins C dx fs)from hok a _ e)
 exact⟨mA,⟨ob,n,ne⟩,r,q,z,d⟩
end
structure Cls(K:W.Frag)(C:Addr):Prop where
 pg:W.plainGet K C Str.empty=true
 hd:W.hasDictIn K C=true
 po:W.plainOver K C=true
 sa:W.findIn K (.ref C) "__setattr__" = some (some (.builtin "object.__setattr__"))
theorem Cls.get{K:W.Frag}{C:Addr}(c:Cls K C)(f:Str):W.plainGet K C f=true:=c.pg
structure Meth(K:W.Frag)(C:Addr)(m:Str)(f:Addr):Prop where
 at_:W.findIn K (.ref C) m=some (some (.ref f))
 fn:W.isFn K (.ref f)=true
 kp:W.keepIn K (.ref f)=true
section
variable {X:Cx}{pins:List (Addr×Obj)}{σ:St}{H:Hp}{s:Shared}{a C dx:Addr}{fs:List (Str×V)}{f:Str}{v:V}{A:Around}{E:Value→Shared→Prop}
theorem a5q{m:Str}{g:Addr}{pl:Sem Bool}{Q:Value×List Value→Shared→Prop}(I:Inv X pins σ H s)(e:H a=some (.ins C dx fs))(c:Cls X.K C)(k:Meth X.K C m g)(l:fs.lookup m=none)
  (h:Q (.ref g,[.ref a]) s):wpAny (model X.prog X.w) A (getMethod (.ref a) m pl) Q E s:=by
 obtain⟨mA,O,r,_,_,_⟩:=a4E I.hok e
 have hn:mA m=none:=RelO.none_of (by rw[← l];exact r m)
 exact a7I I.kIn O (c.get m) k.at_ k.fn hn h
theorem Inv.made(I:Inv X pins σ H s):Inv X pins σ (upd (upd H s.heap.objs.size (.own (s.heap.objs.size+1))) (s.heap.objs.size+1) (.ins C s.heap.objs.size []))
  { s with heap:=(s.heap.push W.emptyDict).push (W.instObj C s.heap.objs.size) }:=by
 have e1:(s.heap.push W.emptyDict).get? s.heap.objs.size=some W.emptyDict:=Heap.get?_push_size s.heap rfl
 have e2:((s.heap.push W.emptyDict).push (W.instObj C s.heap.objs.size)).get? (s.heap.objs.size+1)=some (W.instObj C s.heap.objs.size):=by
  have:=Heap.get?_push_size (s.heap.push W.emptyDict) (o:=W.instObj C s.heap.objs.size) rfl
  rwa [Heap.size_push]at this
 have e3:(s.heap.push W.emptyDict).Ns s.heap.objs.size (fun _=>none):=⟨W.emptyDict,#[],_,e1,rfl,(fun e he=>absurd he (by simp)),fun _=>rfl⟩
 have I1:=I.laid (a:=s.heap.objs.size) (o:=.own (s.heap.objs.size+1)) (h':=s.heap.push W.emptyDict) (t':=s.toks) (fun b u q=>Heap.get?_push_of_some _ q) (Nat.le_refl _) ⟨_,e1⟩
 refine I1.laid (a:=s.heap.objs.size+1) (o:=.ins C s.heap.objs.size []) (t':=s.toks) (fun b u q=>Heap.get?_push_of_some _ q) (Nat.le_of_eq (Heap.size_push _ _)) ?_
 have ne:s.heap.objs.size≠s.heap.objs.size+1:=Nat.ne_of_lt (Nat.lt_succ_self _)
 refine⟨by rw[d5 ne,i0],Nat.zero_le _,ne,e2,fun _=>none,(Heap.Ns1.of_empty e3).at fun o q=>Heap.get?_push_of_some _ q,fun _=>True.intro,fun y hy=>absurd rfl hy⟩
theorem a9K{prog:Program}{w:World}{env:Env}{e:Expr}{f:Str}{pos:Pos}{s:Shared}{Q:Value→Shared→Prop}(hb:attributeBase e f env (eval e env)=eval e env)
  (h:wpAny (model prog w) A (eval e env) (fun o s₁=>wpAny (model prog w) A (getAttr o f true) Q E s₁) E s):wpAny (model prog w) A (eval (.Attribute e f pos) env) Q E s :=
 Attribute_any_ h (by rw[arm_eval_Attribute,hb])
end
section
variable {X:Cx}{pins:List (Addr×Obj)}{σ:St}{H:Hp}{s:Shared}{A:Around}{E:Value→Shared→Prop}{Q:Value→Shared→Prop}{c:Value}{b:Bool}
inductive TyOf(K:W.Frag)(H:Hp):V→Value→Prop where
 | non:TyOf K H .non (.type "NoneType")
 | bl (x:Bool):TyOf K H (.bl x) (.type "bool")
 | int (i:Int):TyOf K H (.int i) (.type "int")
 | str (x:Str):TyOf K H (.str x) (.type "str")
 | flt (x:UInt64):TyOf K H (.flt x) (.type "float")
 | lst {a:Addr} {xs:List V} (e:H a=some (.lst xs)):TyOf K H (.ref a) (.type "list")
 | frz {a:Addr} {o:Obj} {xs:List V} (e:H a=some (.frz o (.lst xs))):TyOf K H (.ref a) (.type "list")
 | tup {a:Addr} {xs:List V} (e:H a=some (.tup xs)):TyOf K H (.ref a) (.type "tuple")
 | dK {a:Addr} {kvs:List (t5×V)} (e:H a=some (.dK kvs)):TyOf K H (.ref a) (.type "dict")
 | dT {a:Addr} {kvs:List (List t5×V)} (e:H a=some (.dT kvs)):TyOf K H (.ref a) (.type "dict")
 | ins {a C dx:Addr} {fs:List (Str×V)} (e:H a=some (.ins C dx fs)) (cl:Cls K C) (ha:W.findIn K (.ref C) "__class__" = some (some (.builtin "object.__class__")))
   (hn:W.specialIn K (.builtin "object.__class__") "__get__" = some (some (.builtin "getset_descriptor.__get__"))) (htk:W.takesIn K (.builtin "object.__class__")=some true)
   (hm:W.mroIn K C (.type "object")=some true):TyOf K H (.ref a) (.ref C)
end
structure Room(k:Nat)(A:Around):Prop where
 hd:A.handled=none
 dp:A.depth+3*k+5<recursionLimit
 un:A.units+16*k+200<cLine
theorem Room.mono{j k:Nat}{A:Around}(r:Room k A)(h:j≤k):Room j A:=⟨r.hd,by have:=r.dp;omega,by have:=r.un;omega⟩
theorem Room.deeper{k:Nat}{A:Around}(r:Room (k+1) A)(env:Env):Room k (A.deeper env) :=
 ⟨r.hd,by have:=r.dp;show A.depth+1+3*k+5<_;omega,by have:=r.un;show A.units+3+16*k+200<_;omega⟩
theorem Room.in1{k:Nat}{A:Around}(r:Room (k+1) A):Room k A.in1 :=
 ⟨r.hd,by have:=r.dp;show A.depth+3*k+5<_;omega,by have:=r.un;show A.units+1+16*k+200<_;omega⟩
theorem a5r{A:Around}{C:Addr}{us:List Value}{kw:List (Str×Value)}:(A.under (.builtin "type.__call__" ⟨.ref C::us,kw⟩)).depth=A.depth+1:=by
 first | rfl | simp[Around.under,Code.weight,Code.isCreation,Code.isGuard,Code.isCaller,Code.frames,Code.isFrame,guardIds]
theorem a5s{A:Around}{C:Addr}{us:List Value}{kw:List (Str×Value)}:(A.under (.builtin "type.__call__" ⟨.ref C::us,kw⟩)).units=A.units+1:=by
 first | rfl | simp[Around.under,Code.cUnits,Code.frames,Code.isFrame]
theorem Room.make{k:Nat}{A:Around}(r:Room (k+1) A)(C:Addr)(us:List Value)(kw:List (Str×Value)):Room k (A.under (.builtin "type.__call__" ⟨.ref C::us,kw⟩)) :=
 ⟨r.hd,by have:=r.dp;rw[a5r];omega,by have:=r.un;rw[a5s];omega⟩
theorem Room.depth{k:Nat}{A:Around}(r:Room k A):A.depth<recursionLimit:=by have:=r.dp;omega
theorem Room.units{k:Nat}{A:Around}(r:Room k A):A.units+64<cLine:=by have:=r.un;omega
def Q0:TA:=fun _ H Q=>Q [] H
def F5(ta:TE)(tr:TA):TA:=fun σ H Q=>ta σ H fun x H1=>tr σ H1 fun xs H2=>Q (x::xs) H2
section
variable {X:Cx}{e:Expr}{es:List Expr}{te:TE}{t:TA}{pos:Pos}
theorem d9:PA X [] Q0:=fun _ _ _ _ H Q I h=>Calls.spliced_nil ⟨[],H,I,.nil,h⟩
theorem b0(ha:PE X e te)(hr:PA X es t)(hs:starEach (e::es) X.env=(false,eval e X.env)::starEach es X.env:=by rfl):PA X (e::es) (F5 te t):=by
 intro pos pins s σ H Q I h
 rw[hs]
 show wpAny _ _ (spliced ((false,eval e X.env)::backTo pos (starEach es X.env))) _ _ s
 refine Calls.spliced_cons (i6 (ha pins s σ H _ I h) fun u s1 ⟨x,H1,I1,r1,q1⟩=>?_)
 exact i6 (hr pos pins s1 σ H1 _ I1 q1) fun us s2 ⟨xs,H2,I2,r2,q2⟩=>⟨x::xs,H2,I2,.cons r1 r2,q2⟩
def b1P(t:TA):TE:=fun σ H Q=>t σ H fun xs H1=>xs.length≤sizeLine∧∀p,H1 p=none→Q (.ref p) (upd H1 p (.tup xs))
def b1Q(t:TA):TE:=fun σ H Q=>t σ H fun xs H1=>xs.length≤sizeLine∧∀p,H1 p=none→Q (.ref p) (upd H1 p (.lst xs))
theorem u9{x1}(h:PA X es t):PE X (.Tuple es x1 pos) (b1P t):=by
 intro pins s σ H Q I hq
 refine wpAny_Tuple_spliced (i6 (h pos pins s σ H _ I hq) fun us s1 ⟨xs,H1,I1,r,z,q⟩=>⟨by rw[← r.length];exact z,?_⟩)
 have hf:H1 s1.heap.objs.size=none:=I1.hok.fresh (Nat.le_refl _)
 refine⟨.ref s1.heap.objs.size,upd H1 s1.heap.objs.size (.tup xs),I1.laid (t':=s1.toks) (fun b u e=>Heap.get?_push_of_some _ e) (Nat.le_refl _) ?_,rfl,q _ hf⟩
 exact⟨z,us,r,⟨_,Heap.get?_push_size _ rfl,rfl,_,rfl⟩⟩
theorem a3t(h:PA X es t):PE X (.List es pos) (b1Q t):=by
 intro pins s σ H Q I hq
 refine wpAny_List_spliced (i6 (h pos pins s σ H _ I hq) fun us s1 ⟨xs,H1,I1,r,z,q⟩=>⟨by rw[← r.length];exact z,?_⟩)
 have hf:H1 s1.heap.objs.size=none:=I1.hok.fresh (Nat.le_refl _)
 refine⟨.ref s1.heap.objs.size,upd H1 s1.heap.objs.size (.lst xs),I1.laid (t':=s1.toks) (fun b u e=>Heap.get?_push_of_some _ e) (Nat.le_refl _) ?_,rfl,q _ hf⟩
 exact⟨z,us,0,r,Heap.get?_push_size _ rfl⟩
end
abbrev Sp:=List V→Hp→VK→XK→Prop
abbrev O3:=List Env→Hp→Shared→XK→Value→Shared→Prop
structure Env0(P:Program)(w:World)(K:W.Frag)(mg:Str→Option Value)(base:Heap)(A:Around)(outer:List Env)(s:Shared)(H:Hp):Prop where
 frames:A.frames=some outer
 mod:Mod K mg base
 bs:∀b o,base.get? b=some o→s.heap.get? b=some o∧H b=none
 bsz:base.objs.size≤s.heap.objs.size
 funs:s.heap.FunFrames base outer
 frf:∀b∈A4 outer,H b=none
 hok:HOk P w H s.heap
 bare:AllBare s.gens
def CE(outer:List Env)(P:Program)(w:World)(H:Hp)(s:Shared)(Q:VK)(u:Value)(s':Shared):Prop :=
 ∃v H',s'.os=s.os∧AllBare s'.gens∧Un (A4 outer) [] H H' s.heap s'.heap∧HOk P w H' s'.heap∧RelV v u∧Q v H'
def CR(CX:O3)(outer:List Env)(P:Program)(w:World)(H:Hp)(s:Shared)(Q:VK)(E:XK)(r:Result)(s':Shared):Prop :=
 match r with
 | .ok (.ret u)=>CE outer P w H s Q u s'
 | .ok _=>False
 | .error e=>CX outer H s E e s'
structure FnOk(P:Program)(w:World)(K:W.Frag)(mg:Str→Option Value)(base:Heap)(CX:O3)(k:Nat)(f:Addr)(fd:FuncData)(ps:List Str)(sp:Sp):Prop where
 len:∀vs H Q E,sp vs H Q E→vs.length=ps.length
 run:∀(A:Around) (outer:List Env) (s:Shared) (H:Hp) (args:Args) (us:List Value) (vs:List V) (Q:VK) (E:XK),Room k A→Env0 P w K mg base A outer s H→BindsTo s fd args (ps.zip us)→Vals vs us→sp vs H Q E →
  codeAny (model P w) A (.call (.ref f) args) (CR CX outer P w H s Q E) s
theorem FnOk.mono{P:Program}{w:World}{K:W.Frag}{mg:Str→Option Value}{base:Heap}{CX:O3}{j k:Nat}{f:Addr}{fd:FuncData}{ps:List Str}{sp:Sp}(F:FnOk P w K mg base CX j f fd ps sp)(h:j≤k) :
  FnOk P w K mg base CX k f fd ps sp:=⟨F.len,fun A outer s H args us vs Q E hr=>F.run A outer s H args us vs Q E (hr.mono h)⟩
theorem FnOk.imp{P:Program}{w:World}{K:W.Frag}{mg:Str→Option Value}{base:Heap}{CX:O3}{k:Nat}{f:Addr}{fd:FuncData}{ps:List Str}{sp sp':Sp}(F:FnOk P w K mg base CX k f fd ps sp)
  (h:∀vs H Q E,sp' vs H Q E→sp vs H Q E):FnOk P w K mg base CX k f fd ps sp' :=
 ⟨fun vs H Q E q=>F.len vs H Q E (h _ _ _ _ q),fun A outer s H args us vs Q E hr he hb hv hs=>F.run A outer s H args us vs Q E hr he hb hv (h _ _ _ _ hs)⟩
theorem Env0.make{P:Program}{w:World}{K:W.Frag}{mg:Str→Option Value}{base:Heap}{A:Around}{outer:List Env}{s:Shared}{H:Hp}(e:Env0 P w K mg base A outer s H)(C:Addr)(us:List Value)(kw:List (Str×Value)) :
  Env0 P w K mg base (A.under (.builtin "type.__call__" ⟨.ref C::us,kw⟩)) outer s H:=⟨by first | exact e.frames | (simpa [Around.under,Code.envs,Code.isFrame,pushEnvs]using e.frames),e.mod,e.bs,e.bsz,e.funs,e.frf,e.hok,e.bare⟩
theorem Env0.in1{P:Program}{w:World}{K:W.Frag}{mg:Str→Option Value}{base:Heap}{A:Around}{outer:List Env}{s:Shared}{H:Hp}(e:Env0 P w K mg base A outer s H) :
  Env0 P w K mg base A.in1 outer s H:=⟨e.frames,e.mod,e.bs,e.bsz,e.funs,e.frf,e.hok,e.bare⟩
section
variable {X:Cx}{pins:List (Addr×Obj)}{σ:St}{H:Hp}{s s':Shared}
theorem Inv.env0(I:Inv X pins σ H s):Env0 X.prog X.w X.K X.mg X.base X.A X.stack s H :=
 ⟨I.ok.frames,I.ok.mod,I.bs,Nat.le_trans I.ok.bsz I.sz,I.stack,I.stkFree,I.hok,I.bare⟩
theorem Inv.after{Q:VK}{u:Value}(I:Inv X pins σ H s)(h:CE X.stack X.prog X.w H s Q u s'):EP X pins σ Q u s':=by
 obtain⟨v,H',os,bare,un,hok,r,q⟩:=h
 obtain⟨hh,g,d,t,os'⟩:=s'
 obtain rfl:os'=s.os:=os
 exact⟨v,H',I.call (h':=hh) (g':=g) (d':=d) (t':=t) (ch:=[]) un hok bare (fun b z=>absurd z (by simp)),r,q⟩
end
def O9(sp:Sp)(dvs:List V)(E:XK)(t:TA):TE:=fun σ H Q=>t σ H fun vs H1=>sp (vs++dvs) H1 Q E
def Binds(K:W.Frag)(fd:FuncData)(ps:List Str)(ds:List Value):Prop :=
 ∀(s:Shared) (us:List Value),K.In s.heap→(us++ds).length=ps.length→BindsTo s fd ⟨us,[]⟩ (ps.zip (us++ds))
theorem Binds.all{K:W.Frag}{fd:FuncData}{ps:List Str}(h:∀us:List Value,us.length=ps.length→bindArgs fd ⟨us,[]⟩=pure (ps.zip us)):Binds K fd ps []:=fun s us _ hl=>by
 rw[List.append_nil]at hl ⊢
 exact .of_eq (h us hl)
def J7(CX:O3)(X:Cx)(E:XK):Prop:=∀(pins:List (Addr×Obj)) (σ:St) (H:Hp) (s:Shared) (e:Value) (s':Shared),Inv X pins σ H s→CX X.stack H s E e s'→X.xe e s'
section
variable {X:Cx}{CX:O3}{k:Nat}{f C:Addr}{fd:FuncData}{ps:List Str}{sp:Sp}{dvs:List V}{ds:List Value}{E:XK}{x m:Str}{p pos apos:Pos}{e o:Expr}{es:List Expr}{ta:TE}{t:TA}
theorem a6f{pins:List (Addr×Obj)}{σ:St}{H:Hp}{s:Shared}{Q:VK}{us:List Value}{vs:List V}(F:FnOk X.prog X.w X.K X.mg X.base CX k f fd ps sp)(hr:Room k X.A)(hb:Binds X.K fd ps ds)(hd:Vals dvs ds)(hx:J7 CX X E)
  (I:Inv X pins σ H s) (r:Vals vs us) (h:sp (vs++dvs) H Q E):wpAny (model X.prog X.w) X.A (call (.ref f) us) (EP X pins σ Q) X.xe s:=by
 have r2:Vals (vs++dvs) (us++ds):=r.append hd
 have hl:(us++ds).length=ps.length:=by rw[← r2.length];exact F.len _ _ _ _ h
 refine wpAny_call (codeAny_mono (F.run X.A X.stack s H ⟨us,[]⟩ (us++ds) (vs++dvs) Q E hr I.env0 (hb s us I.kIn hl) r2 h) fun r s' hq=>?_)
 cases r with
 | error e=>exact hx pins σ H s e s' I hq
 | ok fl =>
  cases fl with
  | ret u=>exact I.after hq
  | next=>exact False.elim hq
  | brk=>exact False.elim hq
  | cont=>exact False.elim hq
theorem a9L(F:FnOk X.prog X.w X.K X.mg X.base CX k f fd ps sp)(hr:Room k X.A)(hg:Gl X x)(hm:X.mg x=some (.ref f))(hk:W.keepIn X.K (.ref f)=true)(hb:Binds X.K fd ps ds)(hd:Vals dvs ds)(hx:J7 CX X E)
  (ha:PA X (e::es) t) (hdb:(x == ("__debug__" : Str))=false:=by decide) (he:starEach (e::es) X.env=(false,eval e X.env)::starEach es X.env:=by rfl) (hpl:(backTo pos (starEach es X.env)).any (·.1)=false:=by rfl) :
  PE X (.Call (.Name x p) (e::es) [] pos) (O9 sp dvs E t):=by
 intro pins s σ H Q I h
 refine wpAny_Call_Name_kw (J1 I hg hm ?_ hdb)
 refine W.callWith_K (h₀:=X.base) I.ok.mod.kin hk (i6 (ha pos pins s σ H _ I h) fun us s1 ⟨vs,H1,I1,r,q⟩=>⟨I1.kIn,?_⟩) he hpl
 exact a6f F hr hb hd hx I1 r q
end
def PK(X:Cx)(kws:List Keyword)(t:TA):Prop :=
 ∀(pos:Pos) (pins:List (Addr×Obj)) (s:Shared) (σ:St) (H:Hp) (Q:List V→Hp→Prop),Inv X pins σ H s→t σ H Q→wpAny (model X.prog X.w) X.A (evalAll ((backToKw pos (keywordEach kws X.env)).map (·.2))) (AP X pins σ Q) X.xe s
section
variable {X:Cx}{CX:O3}{k:Nat}{f C:Addr}{fd:FuncData}{ps ks:List Str}{sp:Sp}{E:XK}{x m:Str}{p pos apos kpos:Pos}{e o:Expr}{es:List Expr}{kws:List Keyword}{te ta:TE}{t tk:TA}{nm:Option Str}
theorem b1R:PK X [] Q0:=fun _ _ _ _ H Q I h=>wpAny_evalAll_nil ⟨[],H,I,.nil,h⟩
theorem a9M(ha:PE X e te)(hr:PK X kws t):PK X (⟨nm,e,kpos⟩ :: kws) (F5 te t):=by
 intro pos pins s σ H Q I h
 show wpAny _ _ (evalAll ((do let v ← eval e X.env;standAt pos;pure v)::(backToKw pos (keywordEach kws X.env)).map (·.2))) _ _ s
 refine wpAny_evalAll_cons (wpAny_bind (i6 (ha pins s σ H _ I h) fun u s1 ⟨x,H1,I1,r1,q1⟩=>wpAny_bind (wpAny_standAt (wpAny_pure ?_))))
 exact i6 (hr pos pins s1 σ H1 _ I1 q1) fun us s2 ⟨xs,H2,I2,r2,q2⟩=>⟨x::xs,H2,I2,.cons r1 r2,q2⟩
variable {g:List Value→List Value→List Value}{gV:List V→List V→List V}
end
structure FnScope(N P:List Str)(sc:Scope):Prop where
 kind:sc.kind=.function
 co:sc.isCoroutine=false
 gen:sc.isGenerator=false
 nd:N.Nodup
 pre:N.take P.length=P
 par:∀x∈P,sc.names.lookup x=some .local∨sc.names.lookup x=some .cell
 nofree:∀y∈sc.names,y.2≠.free
theorem a2H{kindOf:Str→Option NameKind}{x:Str}:∀{binds:List (Str×Value)} {m:Str→Option Value},(∀v,(x,v) ∉ binds)→bindL kindOf binds m x=m x
 | [],_,_=>rfl
 | (n,v)::r,m,h=>by
  unfold bindL
  rw[a2H fun w hw=>h w (List.mem_cons_of_mem _ hw)]
  split
  ·have:x≠n:=by rintro rfl;exact h v List.mem_cons_self
   simp[this]
  ·rfl
theorem a2I{kindOf:Str→Option NameKind}{x:Str}:∀{binds:List (Str×Value)} {m:Str→Option Value},(∀v,(x,v) ∉ binds)→bindC kindOf binds m x=m x
 | [],_,_=>rfl
 | (n,v)::r,m,h=>by
  unfold bindC
  rw[a2I fun w hw=>h w (List.mem_cons_of_mem _ hw)]
  split
  ·rfl
  ·have:x≠n:=by rintro rfl;exact h v List.mem_cons_self
   simp[this]
theorem Z4{kindOf:Str→Option NameKind}{x:Str}{v:Value}:∀{P:List Str} {vs:List Value} {i:Nat} {m:Str→Option Value},P.Nodup→P[i]? = some x→vs[i]? = some v→kindOf x=some .local →
  bindL kindOf (P.zip vs) m x=some v
 | [],_,_,_,_,h,_,_=>by simp at h
 | _::_,[],_,_,_,_,h,_=>by simp at h
 | p::P,w::vs,0,m,nd,h1,h2,hk=>by
  simp at h1 h2;subst h1;subst h2
  show bindL kindOf ((p,w)::P.zip vs) m p=_
  unfold bindL
  rw[a2H fun v hv=>(List.nodup_cons.mp nd).1 (List.of_mem_zip hv).1,if_pos hk]
  simp
 | p::P,w::vs,i+1,m,nd,h1,h2,hk=>by
  show bindL kindOf ((p,w)::P.zip vs) m x=_
  unfold bindL
  exact Z4 (i:=i) (List.nodup_cons.mp nd).2 (by simpa using h1) (by simpa using h2) hk
theorem Z5{kindOf:Str→Option NameKind}{x:Str}{v:Value}:∀{P:List Str} {vs:List Value} {i:Nat} {m:Str→Option Value},P.Nodup→P[i]? = some x→vs[i]? = some v→kindOf x≠some .local →
  bindC kindOf (P.zip vs) m x=some v
 | [],_,_,_,_,h,_,_=>by simp at h
 | _::_,[],_,_,_,_,h,_=>by simp at h
 | p::P,w::vs,0,m,nd,h1,h2,hk=>by
  simp at h1 h2;subst h1;subst h2
  show bindC kindOf ((p,w)::P.zip vs) m p=_
  unfold bindC
  rw[a2I fun v hv=>(List.nodup_cons.mp nd).1 (List.of_mem_zip hv).1,if_neg hk]
  simp
 | p::P,w::vs,i+1,m,nd,h1,h2,hk=>by
  show bindC kindOf ((p,w)::P.zip vs) m x=_
  unfold bindC
  exact Z5 (i:=i) (List.nodup_cons.mp nd).2 (by simpa using h1) (by simpa using h2) hk
def start(N:List Str)(vs:List V):St:=vs.map some++List.replicate (N.length-vs.length) none
def G9(CX:O3)(P:Program)(w:World)(K:W.Frag)(mg:Str→Option Value)(base:Heap)(N:List Str)(qual:Str)(scope:Scope)(f:Addr)(cd:Value)(A:Around)(outer:List Env)(s:Shared)(H:Hp)(E:XK):Cx where
 prog:=P
 w:=w
 K:=K
 mg:=mg
 base:=base
 A:=A.deeper (envOfC qual scope s.heap.objs.size f cd)
 N:=N
 s₀:=s
 H₀:=H
 env:=envOfC qual scope s.heap.objs.size f cd
 outer:=outer
 stack:=envOfC qual scope s.heap.objs.size f cd::outer
 ex:=[]
 calm:=true
 fn:=fun _=>true
 pn:=[]
 xe:=fun e s'=>wpAny (model P w) (A.deeper (envOfC qual scope s.heap.objs.size f cd)) (leaving (envOfC qual scope s.heap.objs.size f cd) e) (fun _ s''=>CX outer H s E e s'') (fun e' s''=>CX outer H s E e' s'') s'
theorem V8{sc:Scope}{n:Nat}{x:Str}(h:sc.names.lookup x=some .cell):∃c,(cellsFrom n sc.names []).lookup x=some c:=by
 have q:=W.cellsFrom_some sc.names n [] (.inl h)
 exact Option.isSome_iff_exists.mp q
theorem a6g{CX:O3}{P:Program}{w:World}{K:W.Frag}{mg:Str→Option Value}{base:Heap}{N ps:List Str}{qual:Str}{scope:Scope}{f:Addr}{cd:Value}{A:Around}{outer:List Env}{s s1:Shared}{H:Hp}{E:XK}{us:List Value}{vs:List V}
  (S:FnScope N ps scope) (hd:A.handled=none) (e0:Env0 P w K mg base A outer s H) (hl:vs.length=ps.length) (r:Vals vs us)
  (x:InCallC s s.heap.objs.size (bindL (envOfC qual scope s.heap.objs.size f cd).kindOf (ps.zip us) fun _=>none) (cellsFrom (s.heap.objs.size+1) scope.names []) (bindC (envOfC qual scope s.heap.objs.size f cd).kindOf (ps.zip us) fun _=>none) s1) :
  Inv (G9 CX P w K mg base N qual scope f cd A outer s H E) [] (start N vs) H s1:=by
 have hpl:ps.length≤N.length:=by have:=congrArg List.length S.pre;rw[List.length_take]at this;omega
 obtain⟨h1,tk,rfl,hk⟩:=x.done
 have noA:∀b:Addr,b ∉ (G9 CX P w K mg base N qual scope f cd A outer s H E).ex:=fun b z=>absurd (show b∈([]:List Addr)from z) (by simp)
 refine⟨⟨e0.mod,S.kind,rfl,rfl,Nat.le_refl _,fun y z c h1 h2=>?_,fun y hy=>?_,fun y c _ h=>?_,fun _=>hd,Around.frames_deeper e0.frames,.inr ⟨rfl,rfl⟩,fun b z=>absurd z (noA b),e0.bs,e0.bsz,fun b _ _=>noA b,fun b z=>absurd z (noA b),e0.funs,e0.frf⟩,
  rfl,e0.bare,Un.kept hk,⟨_,x.toInCall.ns,fun i y v h1 h2 h3=>?_⟩,fun y c h=>⟨_,x.cell y c h⟩,e0.hok.fresh (Nat.le_refl _),fun y c h=>?_,fun p hp=>absurd (show p∈([]:List (Addr×Obj))from hp) (by simp),e0.hok.kept hk,?_⟩
 ·exact name_of_addr x.apart (PySem.mem_of_lookup h1) (PySem.mem_of_lookup h2)
 ·have hy:scope.names.lookup y=some .cell∨scope.names.lookup y=some .free:=hy
  rcases hy with hy | hy
  ·exact V8 hy
  ·exact absurd rfl (S.nofree _ (PySem.mem_of_lookup hy))
 ·exact Nat.le_of_lt (x.above y c (PySem.mem_of_lookup h))
 ·have hi:i<vs.length:=by
   unfold start at h2
   by_cases hi:i<vs.length
   ·exact hi
   ·rw[List.getElem?_append_right (by simpa using hi)]at h2
    rw[List.getElem?_replicate]at h2
    split at h2<;>cases h2
  have ha:vs[i]? = some v:=by
   unfold start at h2
   rw[List.getElem?_append_left (by simpa using hi),List.getElem?_map]at h2
   cases e:vs[i]? with
   | none=>rw[e]at h2;cases h2
   | some a=>rw[e]at h2;cases h2;rfl
  obtain⟨u,hu,rv⟩:=r.get ha
  have hp:ps[i]? = some y:=by
   rw[← S.pre,List.getElem?_take_of_lt (by omega)];exact h1
  have ndP:ps.Nodup:=by rw[← S.pre];exact S.nd.sublist (List.take_sublist _ _)
  refine⟨u,rv,?_⟩
  rcases S.par y (List.mem_of_getElem? hp)with k | k
  ·exact .inl ⟨k,Z4 ndP hp hu k⟩
  ·obtain⟨c,e⟩:=V8 (n:=s.heap.objs.size+1) k
   refine .inr ⟨.inl k,c,e,?_⟩
   have q:=x.cell y c e
   rw[Z5 ndP hp hu (by show scope.names.lookup y≠_;rw[k];decide)]at q
   exact q
 ·exact e0.hok.fresh (Nat.le_of_lt (x.above y c (PySem.mem_of_lookup h)))
 ·unfold start
  show _=N.length
  rw[List.length_append,List.length_map,List.length_replicate]
  omega
theorem a1k{CX:O3}{P:Program}{w:World}{K:W.Frag}{mg:Str→Option Value}{base:Heap}{k:Nat}{f:Addr}{name qual:Str}{params:Arguments}{body:List Stmt}{scope:Scope}{dV kV doc pm cdv ct oc:Value}{an od:Option Addr}
  {osl:Array (Option Value)} {N ps:List Str} {sp:Sp} (lk:K.lookup f=some ⟨oc,od,.func (W.fnOf name qual params body scope dV kV doc pm an cdv ct),osl⟩) (hcd:W.codeIn K cdv qual=true) (S:FnScope N ps scope)
  (len:∀vs H Q E,sp vs H Q E→vs.length=ps.length)
  (hbody:∀(A:Around) (outer:List Env) (s:Shared) (H:Hp) (vs:List V) (Q:VK) (E:XK),Room k (A.deeper (envOfC qual scope s.heap.objs.size f cdv))→sp vs H Q E →
   ∃t,PSs (G9 CX P w K mg base N qual scope f cdv A outer s H E) body t∧t { nx:=fun _ H'=>Q .non H',rt:=Q } (start N vs) H) :
  FnOk P w K mg base CX (k+1) f (W.fnOf name qual params body scope dV kV doc pm an cdv ct) ps sp:=by
 refine⟨len,fun A outer s H args us vs Q E hr e0 hb r hsp=>?_⟩
 have hl:=len _ _ _ _ hsp
 have KX:K.In s.heap:=e0.mod.kin.keeps fun b o e=>(e0.bs b o e).1
 have lim:s.heap.NoLimit:=e0.mod.nolimit.keeps fun b o e=>(e0.bs b o e).1
 have hkind:∀y∈ps.zip us,scope.names.lookup y.1=some .local∨(scope.names.lookup y.1=some .cell∧((cellsFrom (s.heap.objs.size+1) scope.names []).lookup y.1).isSome=true):=fun⟨n,v⟩ hy=>by
  rcases S.par n (List.of_mem_zip hy).1 with q | q
  ·exact .inl q
  ·exact .inr ⟨q,W.cellsFrom_some _ _ _ (.inl q)⟩
 refine codeAny_call_function hr.depth (KX _ _ lk) rfl S.co S.gen rfl (W.codeRec_of KX hcd) (hb _ _ _ _ ?_)
 refine wpAny_newFunctionEnv_cells S.kind hkind fun env he s1 x=>?_
 subst he
 refine⟨lim.keeps x.toInCall.keep,codeAny_func ?_⟩
 obtain⟨t,ht,hq⟩:=hbody A outer s H vs Q E (hr.deeper _) hsp
 have I:Inv (G9 CX P w K mg base N qual scope f cdv A outer s H E) [] (start N vs) H s1:=a6g S hr.hd e0 hl r x
 refine wpAny_mono (ht [] s1 (start N vs) H _ I hq) (fun fl s' hs=>?_) fun e s' hs=>hs
 have fin:∀{σ':St} {H':Hp} {v:V} {u:Value},Inv (G9 CX P w K mg base N qual scope f cdv A outer s H E) [] σ' H' s'→RelV v u→Q v H'→CE outer P w H s Q u s' :=
  fun{σ' H' v u} J rv q=>⟨v,H',J.os,J.bare,J.base,J.hok,rv,q⟩
 cases fl with
 | ret u =>
  obtain⟨v,σ',H',J,rv,q⟩:=hs
  exact fin J rv q
 | next =>
  obtain⟨σ',H',J,q⟩:=hs
  exact fin (v:=V.non) (u:=Value.none) J rfl q
 | brk =>
  obtain⟨_,_,_,q⟩:=hs
  exact False.elim q
 | cont =>
  obtain⟨_,_,_,q⟩:=hs
  exact False.elim q
section
variable {X:Cx}{x:Str}{p pos:Pos}{e:Expr}{es:List Expr}{t:TA}{id T:String}{r:List V→Hp→VK→Prop}
def tCB(r:List V→Hp→VK→Prop)(t:TA):TE:=fun σ H Q=>t σ H fun vs H1=>r vs H1 Q
theorem j7(hc:CallR X (.builtin id) r)(hg:Gl X x)(hm:X.mg x=none)(hv:bootBuiltins x=some (.builtin id))(ha:PA X (e::es) t)(hn:x≠"__name__" := by decide)(hdb:(x == ("__debug__" : Str))=false:=by decide)
  (he:starEach (e::es) X.env=(false,eval e X.env)::starEach es X.env:=by rfl) (hpl:(backTo pos (starEach es X.env)).any (·.1)=false:=by rfl):PE X (.Call (.Name x p) (e::es) [] pos) (tCB r t):=by
 intro pins s σ H Q I h
 refine wpAny_Call_Name_kw (U1 I hg hm hv ?_ hn hdb)
 exact PyProof.Rows.callWith_builtin1 (i6 (ha pos pins s σ H _ I h) fun us s1 ⟨vs,H1,I1,r1,q1⟩=>hc pins s1 σ H1 vs us Q I1 r1 q1) he hpl
theorem Z6(hc:CallR X (.type T) r)(hg:Gl X x)(hm:X.mg x=none)(hv:bootBuiltins x=some (.type T))(ha:PA X (e::es) t)(hn:x≠"__name__" := by decide)(hdb:(x == ("__debug__" : Str))=false:=by decide)
  (he:starEach (e::es) X.env=(false,eval e X.env)::starEach es X.env:=by rfl) (hpl:(backTo pos (starEach es X.env)).any (·.1)=false:=by rfl):PE X (.Call (.Name x p) (e::es) [] pos) (tCB r t):=by
 intro pins s σ H Q I h
 refine wpAny_Call_Name_kw (U1 I hg hm hv ?_ hn hdb)
 exact PyProof.Rows.callWith_type1 (i6 (ha pos pins s σ H _ I h) fun us s1 ⟨vs,H1,I1,r1,q1⟩=>hc pins s1 σ H1 vs us Q I1 r1 q1) he hpl
end
end L2
namespace HT
open PySem PyProof.Rows
def lexLt:List Int→List Int→Bool
 | [],[]=>false
 | [],_::_=>true
 | _::_,[]=>false
 | x::xs,y::ys=>if x=y then lexLt xs ys else decide (x<y)
theorem lexLt_cons(x y:Int)(xs ys:List Int):lexLt (x::xs) (y::ys)=if x=y then lexLt xs ys else decide (x<y):=rfl
theorem a22:lexLt [] []=false:=rfl
theorem a19(y:Int)(ys:List Int):lexLt [] (y::ys)=true:=rfl
theorem a1_(x:Int)(xs:List Int):lexLt (x::xs) []=false:=rfl
theorem a7J(A:Around)(s:Shared)(a:Int)(t:Tok)(c:Int)(u:Tok):∃e,SeqAt.EqAt A s (.int a t) (.int c u) e∧(e=true↔a=c) :=
 ⟨(a == c),SeqAt.EqAt.int_int a t c u,by simp⟩
theorem a7K(A:Around)(s:Shared)(a:Int)(t:Tok)(c:Int)(u:Tok)(prog:Program)(w:World)(E:Value→Shared→Prop)(Q:Value→Shared→Prop)(h:Q (.bool (decide (a<c))) s) :
  wpAny (model prog w) A (richCompare .Lt (.int a t) (.int c u)) Q E s :=
 (PyProof.Rows.lt_int h:wpAny (model prog w) A (compareOp .Lt (.int a t) (.int c u)) Q E s)
section
open PySem.SeqAt
open PySem.AutoSeq1 (wpAny_loadPart')
open PySem.MeetsSeq PySem.MeetsSeq2 PySem.MeetsSeq3
theorem a23(l b:Addr)(items items2:Array Value)(n n2:Nat)(dd dd2:Option Addr)(sl sl2:Array (Option Value))(ns ms:List Int)(hi:IntsAre items.toList ns)(hj:IntsAre items2.toList ms) :
  Meets (Builtin.«tuple.__lt__» ⟨[.ref l,.ref b],[]⟩)
   (fun _ R s=>s.heap.get? l=some { cls:=.type "tuple",dict:=dd,data:=.seq items n,slots:=sl }∧s.heap.get? b=some { cls:=.type "tuple",dict:=dd2,data:=.seq items2 n2,slots:=sl2 } ∧
    R (.ok (.ret (.bool (lexLt ns ms)))) s) :=
 .of_wp fun prog w A R s h=>by
  obtain⟨hp,g,d,tk,os⟩:=s;obtain⟨hl,hb,h⟩:=h
  have f2:=AutoSeq1.sub_tuple_tuple
  have z1:items.size=ns.length:=by rw[← hi.length];simp
  have z2:items2.size=ms.length:=by rw[← hj.length];simp
  wp_walk using wpAny_loadPart' hl,wpAny_loadPart' hb,wpAny_forIn_list _ (fun i5 b s'=>b.1=none∧s'=⟨hp,g,d,tk,os⟩∧∃(vs ws:List Value) (ns' ms':List Int),i5=vs.zip ws ∧
   IntsAre vs ns'∧IntsAre ws ms'∧ns'.length+items2.size=ms'.length+items.size∧R (.ok (.ret (.bool (lexLt ns' ms')))) ⟨hp,g,d,tk,os⟩) _
  case turn =>
   rintro⟨y,x⟩ i5 b s' ⟨hb',rfl,vs,ws,ns',ms',hz,hvi,hwi,hlen,hR⟩
   cases hvi with
   | nil=>rw[List.zip_nil_left]at hz;cases hz
   | cons a t hvi' =>
    cases hwi with
    | nil=>rw[List.zip_nil_right]at hz;cases hz
    | cons c u hwi' =>
     rw[List.zip_cons_cons]at hz
     injection hz with hyx hrest
     injection hyx with hy hx
     subst hy hx
     rw[lexLt_cons]at hR
     simp only[List.length_cons]at hlen
     obtain⟨e,he,hiff⟩:=a7J A.in1 ⟨hp,g,d,tk,os⟩ a t c u
     refine wpAny_bind (he prog w _ _ ?_)
     cases e with
     | true =>
      rw[if_pos (hiff.mp rfl)]at hR
      wp_walk
      exact⟨rfl,rfl,_,_,_,_,hrest,hvi',hwi',by omega,hR⟩
     | false =>
      rw[if_neg (fun q=>absurd (hiff.mpr q) Bool.false_ne_true)]at hR
      have hri:=a7K A.in1 ⟨hp,g,d,tk,os⟩ a t c u prog w
      wp_walk using hri
      exact⟨_,rfl,by simpa using hR⟩
  case fin =>
   rintro⟨b1,b2⟩ s' ⟨hb',rfl,vs,ws,ns',ms',hz,hvi,hwi,hlen,hR⟩
   simp only at hb'
   subst hb'
   have hv:lexLt ns' ms'=decide (items.size<items2.size):=by
    cases hvi with
    | nil =>
     cases hwi with
     | nil =>
      simp only[List.length_nil]at hlen
      rw[a22]
      exact(decide_eq_false (by omega)).symm
     | cons c u hw =>
      simp only[List.length_nil,List.length_cons]at hlen
      rw[a19]
      exact(decide_eq_true (by omega)).symm
    | cons a t hv =>
     cases hwi with
     | nil =>
      simp only[List.length_nil,List.length_cons]at hlen
      rw[a1_]
      exact(decide_eq_false (by omega)).symm
     | cons c u hw =>
      rw[List.zip_cons_cons]at hz
      cases hz
   rw[hv]at hR
   wp_walk
   exact⟨_,rfl,by simpa [Builtin.Tuple.tupleCompareSizes]using hR⟩
  case h =>
   exact⟨rfl,rfl,items.toList,items2.toList,ns,ms,rfl,hi,hj,by omega,h⟩
end
section
variable {prog:Program}{w:World}{A:Around}{E:Value→Shared→Prop}{s:Shared}
theorem lt_tupInts{l b:Addr}{items items2:Array Value}{ns ms:List Int}{Q:Value→Shared→Prop}(hl:IsTup s.heap l items)(hb:IsTup s.heap b items2)(hi:IntsAre items.toList ns)(hj:IntsAre items2.toList ms)
  (hu:A.units<cLine) (h:Q (.bool (lexLt ns ms)) s):wpAny (model prog w) A (compareOp .Lt (.ref l) (.ref b)) Q E s:=by
 obtain⟨⟨cls,dd,data,sl⟩,ho,hc,n,hd⟩:=id hl
 obtain⟨⟨cls2,dd2,data2,sl2⟩,ho2,hc2,n2,hd2⟩:=id hb
 simp only at hc hd hc2 hd2
 subst hc hd hc2 hd2
 exact richCompare_meets_room (op:=.Lt) ⟨_,ho,rfl⟩ ⟨_,ho2,rfl⟩ PySem.F.slot_tuple_lt PySem.F.entry_tuple_lt (PySem.F.args_tuple_lt_2 _ _) (a23 l b items items2 n n2 dd dd2 sl sl2 ns ms hi hj)
  ⟨ho,ho2,show Value.bool (lexLt ns ms)≠Value.notImplemented∧Q (.bool (lexLt ns ms)) s from⟨(fun x=>nomatch x),h⟩⟩ hu
def sIx(n d:Nat):Option Int→Nat
 | none=>d
 | some v=>if v<0 then(v+(n:Int)).toNat else min v.toNat n
theorem sIx_none(n d:Nat):sIx n d none=d:=rfl
theorem sIx_nat(n d k:Nat):sIx n d (some (k:Int))=min k n:=by
 show(if(k:Int)<0 then((k:Int)+(n:Int)).toNat else min (k:Int).toNat n)=min k n
 rw[if_neg (by omega),Int.toNat_natCast]
end
end HT
namespace L2
open PySem PySem.Spec PyProof.Rows
abbrev TO:=St→Hp→(Option Int→Hp→Prop)→Prop
def PO(X:Cx)(e:Option Expr)(t:TO):Prop :=
 ∀(pins:List (Addr×Obj)) (s:Shared) (σ:St) (H:Hp) (Q:Option Int→Hp→Prop),Inv X pins σ H s→t σ H Q →
  wpAny (model X.prog X.w) X.A (evalPart e X.env) (fun u s'=>∃o H',Inv X pins σ H' s'∧IsPart u o∧Q o H') X.xe s
def a4F:TO:=fun _ H Q=>Q none H
def a9b(t:TE):TO:=fun σ H Q=>t σ H fun x H1=>∃i,x=.int i∧Q (some i) H1
section
variable {X:Cx}{e:Expr}{te:TE}{lo hi:Option Expr}{tl th:TO}{pos p2:Pos}
theorem M1:PO X none a4F:=by
 intro pins s σ H Q I h
 rw[evalPart_none]
 exact wpAny_pure ⟨none,H,I,.none,h⟩
theorem B3(h:PE X e te):PO X (some e) (a9b te):=by
 intro pins s σ H Q I hw
 rw[evalPart_some]
 refine i6 (h pins s σ H _ I hw) fun u s1 ⟨x,H1,I1,r1,q1⟩=>?_
 obtain⟨i,rfl,q⟩:=q1
 obtain⟨t,rfl⟩:=r1
 exact⟨some i,H1,I1,.int i t,q⟩
def SlR(X:Cx)(r:V→Option Int→Option Int→Hp→VK→Prop):Prop :=
 ∀(pins:List (Addr×Obj)) (s:Shared) (σ:St) (H:Hp) (x:V) (v vl vu:Value) (lo hi:Option Int) (sl:Addr) (Q:VK),Inv X pins σ H s→RelV x v→s.heap.IsSliceOf sl vl vu .none→IsPart vl lo→IsPart vu hi→r x lo hi H Q →
  ∃T id,typeLookup (.type T) "__getitem__" = pure (some (.builtin id))∧s.TypeIs v T∧wpAny (model X.prog X.w) X.A (getItem v (.ref sl)) (EP X pins σ Q) X.xe s
theorem SlR.or{r r':V→Option Int→Option Int→Hp→VK→Prop}(h:SlR X r)(h':SlR X r'):SlR X (fun x lo hi H Q=>r x lo hi H Q∨r' x lo hi H Q):=by
 intro pins s σ H x v vl vu lo hi sl Q I rx hs pl pu q
 rcases q with q | q
 ·exact h pins s σ H x v vl vu lo hi sl Q I rx hs pl pu q
 ·exact h' pins s σ H x v vl vu lo hi sl Q I rx hs pl pu q
def tSl(r:V→Option Int→Option Int→Hp→VK→Prop)(te:TE)(tl th:TO):TE:=fun σ H Q=>te σ H fun x H1=>tl σ H1 fun l H2=>th σ H2 fun u H3=>r x l u H3 Q
theorem C1{r:V→Option Int→Option Int→Hp→VK→Prop}(hr:SlR X r)(he:PE X e te)(hl:PO X lo tl)(hu:PO X hi th):PE X (.Subscript e (.Slice lo hi none p2) pos) (tSl r te tl th):=by
 intro pins s σ H Q I h
 refine Subscript_ (i6 (he pins s σ H _ I h) fun v s1 ⟨x,H1,I1,r1,q1⟩=>?_)
 refine wpAny_Slice (i6 (hl pins s1 σ H1 _ I1 q1) fun vl s2 ⟨l,H2,I2,pl,q2⟩=>i6 (hu pins s2 σ H2 _ I2 q2) fun vu s3 ⟨u,H3,I3,pu,q3⟩=>?_)
 rw[evalPart_none]
 refine wpAny_pure ?_
 have I4:Inv X pins σ H3 { s3 with heap:=s3.heap.push { cls:=.type "slice",data:=.fields #[vl,vu,.none] } }:=I3.kept (t':=s3.toks) fun b ob q=>Heap.get?_push_of_some _ q
 obtain⟨T,id,hT,ht,hg⟩:=hr pins { s3 with heap:=s3.heap.push { cls:=.type "slice",data:=.fields #[vl,vu,.none] } } σ H3 x v vl vu l u s3.heap.objs.size Q I4 r1 (Heap.IsSliceOf.new ..) pl pu q3
 show wpAny (model X.prog X.w) X.A (subscriptTail e (.Slice lo hi none p2) v (.ref s3.heap.objs.size)) (EP X pins σ Q) X.xe { s3 with heap:=s3.heap.push { cls:=.type "slice",data:=.fields #[vl,vu,.none] } }
 exact tail_any (ops:=[.ref s3.heap.objs.size,v]) ht hT hg (by with_unfolding_all rfl)
def a2a(xs:List V)(lo hi:Option Int):List V:=(xs.drop (HT.sIx xs.length 0 lo)).take (HT.sIx xs.length xs.length hi-HT.sIx xs.length 0 lo)
theorem a4l(xs:List V)(lo hi:Option Int):(a2a xs lo hi).length≤xs.length:=by
 unfold a2a
 rw[List.length_take,List.length_drop]
 omega
end
def D6(n:Nat)(i:Int):Option Nat:=if 0≤i then(if i<n then some i.toNat else none)else if -(n:Int)≤i then some (i+n).toNat else none
def atI{α:Type}(xs:List α)(i:Int):Option α:=(D6 xs.length i).bind fun j=>xs[j]?
theorem a4G{n:Nat}{i:Int}{j:Nat}(h:D6 n i=some j):seqIndex? i n=some j∧j<n∧-(n:Int)≤i∧i<n:=by
 unfold D6 at h
 by_cases h0:0≤i
 ·rw[if_pos h0]at h
  by_cases h1:i<n
  ·rw[if_pos h1]at h
   have e:i.toNat=j:=Option.some.inj h
   exact⟨by rw[seqIndex_of h0 h1,e],by omega,by omega,h1⟩
  ·rw[if_neg h1]at h;cases h
 ·rw[if_neg h0]at h
  by_cases h1 : -(n:Int)≤i
  ·rw[if_pos h1]at h
   have e:(i+n).toNat=j:=Option.some.inj h
   exact⟨by rw[seqIndex_neg (by omega) h1,e],by omega,h1,by omega⟩
  ·rw[if_neg h1]at h;cases h
theorem a0r{α:Type}{xs:List α}{i:Int}{v:α}(h:atI xs i=some v):∃j,seqIndex? i xs.length=some j∧xs[j]? = some v∧j<xs.length∧-(xs.length:Int)≤i∧i<xs.length:=by
 unfold atI at h
 cases e:D6 xs.length i with
 | none=>rw[e]at h;cases h
 | some j =>
  rw[e]at h
  obtain⟨h1,h2,h3,h4⟩:=a4G e
  exact⟨j,h1,h,h2,h3,h4⟩
theorem a2b{α:Type}{xs:List α}{j:Nat}{v:α}(h:xs[j]? = some v):atI xs (j:Int)=some v:=by
 have hj:j<xs.length:=(List.getElem?_eq_some_iff.mp h).1
 have e:D6 xs.length (j:Int)=some j:=by
  unfold D6
  rw[if_pos (by omega),if_pos (by omega)];simp
 unfold atI;rw[e];exact h
def a9N(b:Expr):Prop:=∀o i,subscripted b false o i=operate [o,i] (getItem o i)
def IxR(X:Cx)(r:R2):Prop :=
 ∀(value slice:Expr) (pins:List (Addr×Obj)) (s:Shared) (σ:St) (H:Hp) (x y:V) (v u:Value) (Q:VK),Inv X pins σ H s→RelV x v→RelV y u→r x y H Q →
  subscripted slice false v u=operate [v,u] (getItem v u)→wpAny (model X.prog X.w) X.A (subscriptTail value slice v u) (EP X pins σ Q) X.xe s
def MtR(X:Cx)(id:String)(r:V→List V→Hp→VK→Prop):Prop :=
 ∀(pins:List (Addr×Obj)) (s:Shared) (σ:St) (H:Hp) (x:V) (xs:List V) (v:Value) (us:List Value) (Q:VK),Inv X pins σ H s→RelV x v→Vals xs us→r x xs H Q →
  wpAny (model X.prog X.w) X.A (call (.builtin id) (v::us)) (EP X pins σ Q) X.xe s
section
variable {X:Cx}{a b:Expr}{ta tb:TE}{pos:Pos}
theorem IxR.or{r r':R2}(h:IxR X r)(h':IxR X r'):IxR X (fun x y H Q=>r x y H Q∨r' x y H Q):=by
 intro value slice pins s σ H x y v u Q I rx ry q hs
 rcases q with q | q
 ·exact h value slice pins s σ H x y v u Q I rx ry q hs
 ·exact h' value slice pins s σ H x y v u Q I rx ry q hs
theorem MtR.or{id:String}{r r':V→List V→Hp→VK→Prop}(h:MtR X id r)(h':MtR X id r'):MtR X id (fun x xs H Q=>r x xs H Q∨r' x xs H Q):=by
 intro pins s σ H x xs v us Q I rx rs q
 rcases q with q | q
 ·exact h pins s σ H x xs v us Q I rx rs q
 ·exact h' pins s σ H x xs v us Q I rx rs q
theorem x9{r:R2}(hr:IxR X r)(ha:PE X a ta)(hb:PE X b tb)(hs:a9N b):PE X (.Subscript a b pos) (tOp r ta tb):=by
 intro pins s σ H Q I h
 exact Subscript_ (a7G ha hb I h fun v u s2 x y H2 I2 rx ry q=>hr a b pins s2 σ H2 x y v u Q I2 rx ry q (hs _ _))
def a3u(K:W.Frag):R2:=fun x y H Q=>∃p xs i v,x=.ref p∧y=.int i∧SqL K H p xs∧atI xs i=some v∧Q v H
def a7L(K:W.Frag):R2:=fun x y H Q=>∃p xs i v,x=.ref p∧y=.int i∧SqT K H p xs∧atI xs i=some v∧Q v H
def b1T:R2:=fun x y H Q=>∃z i c,x=.str z∧y=.int i∧z.length≤sizeLine∧atI z.cps.toList i=some c∧Q (.str ⟨#[c]⟩) H
theorem a9O:IxR X (a3u X.K):=by
 intro value slice pins s σ H x y v u Q I rx ry h hs
 obtain⟨p,xs,i,z,rfl,rfl,hq,he,q⟩:=h
 cases rx
 obtain⟨t,rfl⟩:=ry
 obtain⟨its,r,pl,hz⟩:=I.list hq
 obtain⟨j,h1,h2,h3,h4,h5⟩:=a0r he
 obtain⟨w,ew,rw'⟩:=r.get h2
 have hl:=r.length
 have hn:=P9
 have fin:EP X pins σ Q w s:=⟨z,H,I,rw',q⟩
 by_cases h0:0≤i
 ·have hj:i.toNat=j:=by
   rw[seqIndex_of h0 h5]at h1
   exact Option.some.inj h1
  exact item_listR pl.isList h0 (by omega) (by rw[hj];simpa using ew) fin hs
 ·have hj:(i+(its.toArray.size:Int)).toNat=j:=by
   rw[seqIndex_neg (by omega) h4]at h1
   rw[List.size_toArray,← hl]
   exact Option.some.inj h1
  exact subscriptTail_builtinR (x:=w) pl.isList.typeIs slot_list_getitem.lookup
   (wpAny_getItem_list_neg (Q:=fun r s'=>r=w∧EP X pins σ Q r s') pl.isList (by omega) (by rw[List.size_toArray]<;>omega) (by omega) (by rw[hj];simpa using ew) ⟨rfl,fin⟩) hs
theorem b1U:IxR X (a7L X.K):=by
 intro value slice pins s σ H x y v u Q I rx ry h hs
 obtain⟨p,xs,i,z,rfl,rfl,hq,he,q⟩:=h
 cases rx
 obtain⟨t,rfl⟩:=ry
 obtain⟨its,r,pl,hz⟩:=I.tuple hq
 obtain⟨j,h1,h2,h3,h4,h5⟩:=a0r he
 obtain⟨w,ew,rw'⟩:=r.get h2
 have hl:=r.length
 have hn:=P9
 have fin:EP X pins σ Q w s:=⟨z,H,I,rw',q⟩
 exact subscriptTail_builtinR (x:=w) pl.typeIs slot_tuple_getitem.lookup
  (getItem_tuple (j:=j) (Q:=fun r s'=>r=w∧EP X pins σ Q r s') pl (by omega) (by omega) (by rw[List.size_toArray,← hl];exact h1) (by simpa using ew) ⟨rfl,fin⟩) hs
theorem b1V:IxR X b1T:=by
 intro value slice pins s σ H x y v u Q I rx ry h hs
 obtain⟨z,i,c,rfl,rfl,hz,he,q⟩:=h
 obtain⟨t,rfl⟩:=rx
 obtain⟨t',rfl⟩:=ry
 obtain⟨j,h1,h2,h3,h4,h5⟩:=a0r he
 have hl:z.cps.toList.length=z.length:=by simp[Str.length]
 rw[hl]at h1 h4 h5
 have hn:=P9
 exact tail_any (typeIs_str s z t) slot_str_getitem.lookup (getItem_str (c:=c) (by
  have e1:decide (i < -(2 ^ 63:Int))=false:=decide_eq_false (by omega)
  have e2:decide (i≥2 ^ 63)=false:=decide_eq_false (by omega)
  rw[e1,e2,Bool.or_false]) (by rw[h1];simpa using h2) ⟨.str ⟨#[c]⟩,H,I.tok _,⟨_,rfl⟩,q⟩) hs
theorem a5t(its:List Value)(n j:Nat)(u:Value):Obj.mapSeq (·.setIfInBounds j u) { cls:=.type "list",data:=.seq its.toArray n }={ cls:=.type "list",data:=.seq (its.set j u).toArray n }:=by
 simp[Obj.mapSeq]
theorem Inv.lst{pins:List (Addr×Obj)}{σ:St}{H:Hp}{s:Shared}{p:Addr}{xs:List V}(I:Inv X pins σ H s)(h:H p=some (.lst xs)) :
  ∃(its:List Value) (n:Nat),Vals xs its∧s.heap.get? p=some { cls:=.type "list",data:=.seq its.toArray n }∧xs.length≤sizeLine:=by
 obtain⟨z,its,n,r,e⟩:=I.hok p _ h
 exact⟨its,n,r,e,z⟩
theorem Inv.lstUpd{pins:List (Addr×Obj)}{σ:St}{H:Hp}{s:Shared}{p:Addr}{xs ys:List V}{its its':List Value}{n n':Nat}{f:Obj→Obj}(I:Inv X pins σ H s)(h:H p=some (.lst xs))
  (ho:s.heap.get? p=some { cls:=.type "list",data:=.seq its.toArray n }) (hf:f { cls:=.type "list",data:=.seq its.toArray n }={ cls:=.type "list",data:=.seq its'.toArray n' }) (r:Vals ys its') (hz:ys.length≤sizeLine) (t:Nat) :
  Inv X pins σ (upd H p (.lst ys)) { s with heap:=s.heap.update p f,toks:=t }:=by
 have e:(s.heap.update p f).get? p=some { cls:=.type "list",data:=.seq its'.toArray n' }:=by
  rw[Heap.get?_update_self f ho (by rw[hf]<;>rfl),hf]
 refine I.write (x:=p) (e:=p) (by rw[h];trivial) (.inl rfl) (fun b u hb q=>(Heap.get?_update_other _ _ (Ne.symm hb)).trans q) ⟨_,e⟩ ?_
 exact⟨hz,its',n',r,e⟩
def a5u:V→V→V→Hp→(Hp→Prop)→Prop:=fun o i v H Q=>∃p xs k j,o=.ref p∧i=.int k∧H p=some (.lst xs)∧D6 xs.length k=some j∧Q (upd H p (.lst (xs.set j v)))
theorem a3v:a7C X a5u:=by
 intro pins s σ H o i v ov iv u Q I ro ri rv h
 obtain⟨p,xs,k,j,rfl,rfl,hp,hj,q⟩:=h
 cases ro
 obtain⟨t,rfl⟩:=ri
 obtain⟨its,n,r,ho,hz⟩:=I.lst hp
 obtain⟨h1,h2,h3,h4⟩:=a4G hj
 have hl:=r.length
 have hn:=P9
 have I':Inv X pins σ (upd H p (.lst (xs.set j v))) { s with heap:=s.heap.update p (Obj.mapSeq (·.setIfInBounds j u)) } :=
  I.lstUpd hp ho (a5t its n j u) (r.set rv j) (by rw[List.length_set];exact hz) s.toks
 by_cases h0:0≤k
 ·have hk:k.toNat=j:=by
   rw[seqIndex_of h0 h4]at h1
   exact Option.some.inj h1
  exact W.ki_setAt ho h0 (by omega) (by rw[List.size_toArray,← hl];exact h4) (by rw[hk];exact⟨_,I',q⟩)
 ·have hk:(k+(its.toArray.size:Int)).toNat=j:=by
   rw[seqIndex_neg (by omega) h3]at h1
   rw[List.size_toArray,← hl]
   exact Option.some.inj h1
  exact W.ki_setBack ho (by omega) (by rw[List.size_toArray,← hl];exact h3) (by omega) (by rw[hk];exact⟨_,I',q⟩)
theorem a3w(lo hi:Option Int)(n:Nat):(sliceBounds lo hi none n).1=((HT.sIx n 0 lo:Nat):Int)∧(sliceBounds lo hi none n).2.1=((HT.sIx n n hi:Nat):Int)∧(sliceBounds lo hi none n).2.2=1:=by
 refine⟨?_,?_,rfl⟩
 ·cases lo with
  | none=>simp[sliceBounds,HT.sIx]
  | some i =>
   simp only[sliceBounds,HT.sIx,Option.getD_none,show(1:Int) > 0 by decide,if_true]
   by_cases h:i<0
   ·simp only[h,if_true]<;>omega
   ·simp only[h,if_false]<;>omega
 ·cases hi with
  | none=>simp[sliceBounds,HT.sIx]
  | some i =>
   simp only[sliceBounds,HT.sIx,Option.getD_none,show(1:Int) > 0 by decide,if_true]
   by_cases h:i<0
   ·simp only[h,if_true]<;>omega
   ·simp only[h,if_false]<;>omega
theorem a24(its:List Value)(lo hi:Option Int):slicePick its.toArray lo hi none=((its.drop (HT.sIx its.length 0 lo)).take (HT.sIx its.length its.length hi-HT.sIx its.length 0 lo)).toArray:=by
 obtain⟨h1,h2,h3⟩:=a3w lo hi its.toArray.size
 unfold slicePick
 rw[h1,h2,h3]
 simp only[sliceRange_one,pick_run,List.size_toArray]<;>rfl
def a7M(K:W.Frag):V→Option Int→Option Int→Hp→VK→Prop:=fun x lo hi H Q=>∃a xs,x=.ref a∧SqL K H a xs∧∀p,H p=none→Q (.ref p) (upd H p (.lst (a2a xs lo hi)))
theorem a9P:SlR X (a7M X.K):=by
 intro pins s σ H x v vl vu lo hi sl Q I rx hs pl pu h
 obtain⟨a,xs,rfl,hx,q⟩:=h
 cases rx
 obtain⟨its,r,ht,hz⟩:=I.list hx
 have hlen:=r.length
 refine⟨"list",_,slot_list_getitem.lookup,ht.isList.typeIs,?_⟩
 refine wpAny_getItem_list_slice ht.isList hs pl pu .none (by simp) ?_ (by rw[List.size_toArray]<;>omega)
 rw[a24,← hlen]
 refine⟨.ref s.heap.objs.size,_,I.laid (t':=s.toks) (o:=.lst (a2a xs lo hi)) (fun b ob q=>Heap.get?_push_of_some _ q) (Nat.le_refl _) ?_,rfl,q _ (I.hok.fresh (Nat.le_refl _))⟩
 exact⟨Nat.le_trans (a4l xs lo hi) hz,_,0,(r.drop (HT.sIx xs.length 0 lo)).take (HT.sIx xs.length xs.length hi-HT.sIx xs.length 0 lo),Heap.get?_push_size _ rfl⟩
def N1:V→Bool
 | .non=>true
 | .bl _=>true
 | .int _=>true
 | .str _=>true
 | _=>false
def eqV:V→V→Bool
 | .non,.non=>true
 | .bl a,.bl b=>a == b
 | .bl a,.int b=>(if a then 1 else 0) == b
 | .int a,.bl b=>a == (if b then 1 else 0)
 | .int a,.int b=>a == b
 | .str a,.str b=>a == b
 | _,_=>false
theorem a6h{A:Around}{s:Shared}{y x:V}{u v:Value}(ry:RelV y u)(rx:RelV x v)(fy:N1 y=true)(fx:N1 x=true):SeqAt.EqAt A s u v (eqV y x):=by
 cases y with
 | non =>
  cases ry
  cases x with
  | non=>cases rx;exact SeqAt.EqAt.same _
  | bl b=>cases rx;exact SeqAt.EqAt.none_bool b
  | int b=>obtain⟨t,rfl⟩:=rx;exact SeqAt.EqAt.none_int b t
  | str b=>obtain⟨t,rfl⟩:=rx;exact SeqAt.EqAt.none_str b t
  | _=>exact absurd (show false=true from fx) Bool.false_ne_true
 | bl a =>
  cases ry
  cases x with
  | non=>cases rx;exact SeqAt.EqAt.bool_none a
  | bl b=>cases rx;exact SeqAt.EqAt.bool_bool a b
  | int b=>obtain⟨t,rfl⟩:=rx;exact SeqAt.EqAt.bool_int a b t
  | str b=>obtain⟨t,rfl⟩:=rx;exact SeqAt.EqAt.bool_str a b t
  | _=>exact absurd (show false=true from fx) Bool.false_ne_true
 | int a =>
  obtain⟨t',rfl⟩:=ry
  cases x with
  | non=>cases rx;exact SeqAt.EqAt.int_none a t'
  | bl b=>cases rx;exact SeqAt.EqAt.int_bool a t' b
  | int b=>obtain⟨t,rfl⟩:=rx;exact SeqAt.EqAt.int_int a t' b t
  | str b=>obtain⟨t,rfl⟩:=rx;exact SeqAt.EqAt.int_str a t' b t
  | _=>exact absurd (show false=true from fx) Bool.false_ne_true
 | str a =>
  obtain⟨t',rfl⟩:=ry
  cases x with
  | non=>cases rx;exact SeqAt.EqAt.str_none a t'
  | bl b=>cases rx;exact SeqAt.EqAt.str_bool a t' b
  | int b=>obtain⟨t,rfl⟩:=rx;exact SeqAt.EqAt.str_int a t' b t
  | str b=>obtain⟨t,rfl⟩:=rx;exact SeqAt.EqAt.str_str a t' b t
  | _=>exact absurd (show false=true from fx) Bool.false_ne_true
 | _=>exact absurd (show false=true from fy) Bool.false_ne_true
def eqU(x:V)(u:Value):Bool:=match u with
 | .none=>eqV .non x
 | .bool b=>eqV (.bl b) x
 | .int i _=>eqV (.int i) x
 | .str z _=>eqV (.str z) x
 | _=>false
theorem a6i{x y:V}{u:Value}(r:RelV y u)(f:N1 y=true):eqU x u=eqV y x:=by
 cases y with
 | non=>cases r;rfl
 | bl b=>cases r;rfl
 | int i=>obtain⟨t,rfl⟩:=r;rfl
 | str z=>obtain⟨t,rfl⟩:=r;rfl
 | _=>exact absurd (show false=true from f) Bool.false_ne_true
theorem a2c{x:V}:∀{xs:List V} {us:List Value},Vals xs us→xs.all N1=true→us.any (eqU x)=xs.any fun y=>eqV y x
 | _,_,.nil,_=>rfl
 | y::xs,u::us,.cons r t,f=>by
  rw[List.all_cons,Bool.and_eq_true]at f
  rw[List.any_cons,List.any_cons,a6i r f.1,a2c t f.2]
theorem a0Y{A:Around}{s:Shared}{x:V}{v:Value}(rx:RelV x v)(fx:N1 x=true):∀{xs:List V} {us:List Value},Vals xs us→xs.all N1=true→∀u∈us,SeqAt.EqAt A s u v (eqU x u)
 | _,_,.nil,_=>fun u hu=>by cases hu
 | y::xs,u::us,.cons r t,f=>fun u' hu=>by
  rw[List.all_cons,Bool.and_eq_true]at f
  rcases List.mem_cons.mp hu with rfl | hu
  ·rw[a6i r f.1];exact a6h r rx f.1 fx
  ·exact a0Y rx fx t f.2 u' hu
def inV(x:V)(xs:List V):Bool:=xs.any fun y=>eqV y x
def rIn(K:W.Frag)(neg:Bool):R2:=fun x y H Q=>∃p xs,y=.ref p∧(SqL K H p xs∨SqT K H p xs)∧N1 x=true∧xs.all N1=true∧Q (.bl (if neg then !inV x xs else inV x xs)) H
theorem a3x:OpR X (compareOp .NotIn) (rIn X.K true):=by
 intro pins s σ H x y v u Q I rx ry h
 obtain⟨p,xs,rfl,hq,fx,fs,q⟩:=h
 cases ry
 rcases hq with hq | hq
 ·obtain⟨its,r,pl,hz⟩:=I.list hq
  refine SeqAt.notIn_listAt (eqU x) pl.isList (fun w hw=>a0Y rx fx r fs w (by simpa using hw)) ⟨.bl _,H,I,rfl,?_⟩
  rw[show its.toArray.any (eqU x)=its.any (eqU x) by simp,a2c r fs]
  exact q
 ·obtain⟨its,r,pl,hz⟩:=I.tuple hq
  refine SeqAt.notIn_tupleAt (eqU x) pl (fun w hw=>a0Y rx fx r fs w (by simpa using hw)) ⟨.bl _,H,I,rfl,?_⟩
  rw[show its.toArray.any (eqU x)=its.any (eqU x) by simp,a2c r fs]
  exact q
theorem a3y:CallR X (.builtin "len") (fun xs H Q=>∃p ys,xs=[.ref p]∧(SqL X.K H p ys∨SqT X.K H p ys)∧Q (.int ys.length) H):=by
 intro pins s σ H xs us Q I r h
 obtain⟨p,ys,rfl,hq,q⟩:=h
 obtain⟨u,rfl,rx⟩:=a5o r
 cases rx
 have hn:=P9
 rcases hq with hq | hq
 ·obtain⟨its,r',pl,hz⟩:=I.list hq
  have hlen:=r'.length
  exact Calls.call_len_list pl.isList (by simp only[List.size_toArray]<;>omega) ⟨.int ys.length,H,I.tok _,⟨s.toks+1,by rw[List.size_toArray,hlen]⟩,q⟩
 ·obtain⟨its,r',pl,hz⟩:=I.tuple hq
  have hlen:=r'.length
  exact len_tuple pl (by simp only[List.size_toArray]<;>omega) ⟨.int ys.length,H,I.tok _,⟨s.toks+1,by rw[List.size_toArray,hlen]⟩,q⟩
theorem a3z:CallR X (.builtin "len") (fun xs H Q=>∃z,xs=[.str z]∧z.length≤sizeLine∧Q (.int z.length) H):=by
 intro pins s σ H xs us Q I r h
 obtain⟨z,rfl,hz,q⟩:=h
 obtain⟨u,rfl,t,rfl⟩:=a5o r
 have hn:=P9
 exact len_str (by omega) ⟨.int z.length,H,I.tok _,⟨_,rfl⟩,q⟩
theorem CallR.or{f:Value}{r r':List V→Hp→VK→Prop}(h:CallR X f r)(h':CallR X f r'):CallR X f (fun xs H Q=>r xs H Q∨r' xs H Q):=by
 intro pins s σ H xs us Q I rs q
 rcases q with q | q
 ·exact h pins s σ H xs us Q I rs q
 ·exact h' pins s σ H xs us Q I rs q
theorem a3A:CallR X (.type "list") (fun xs H Q=>∃p ys,xs=[.ref p]∧(SqL X.K H p ys∨SqT X.K H p ys)∧∀l,H l=none→Q (.ref l) (upd H l (.lst ys))):=by
 intro pins s σ H xs us Q I r h
 obtain⟨p,ys,rfl,hq,q⟩:=h
 obtain⟨u,rfl,rx⟩:=a5o r
 cases rx
 have fin:∀(its:List Value),Vals ys its→ys.length≤sizeLine→∀(h':Heap) (c':Nat),(∀b o',s.heap.get? b=some o'→h'.get? b=some o') →
   h'.get? s.heap.objs.size=some { cls:=.type "list",dict:=none,data:=.seq its.toArray c',slots := #[] }→EP X pins σ Q (.ref s.heap.objs.size) { s with heap:=h' }:=fun its r' hz h' c' kp e =>
  ⟨.ref s.heap.objs.size,_,I.laid (t':=s.toks) kp (Nat.le_refl _) (show ObjOk X.prog X.w _ h' _ (.lst ys)from⟨hz,its,c',r',e⟩),rfl,q _ (I.hok.fresh (Nat.le_refl _))⟩
 rcases hq with hq | hq
 ·obtain⟨its,r',pl,hz⟩:=I.list hq
  have hlen:=r'.length
  obtain⟨o,ho,hc,n,hd⟩:=pl.isList
  exact call_list_seq p (.inl rfl) ho hc hd (fun h' c' kp e=>fin its r' hz h' c' kp e) (by simp only[List.size_toArray]<;>omega)
 ·obtain⟨its,r',pl,hz⟩:=I.tuple hq
  have hlen:=r'.length
  obtain⟨o,ho,hc,n,hd⟩:=pl
  exact call_list_seq p (.inr rfl) ho hc hd (fun h' c' kp e=>fin its r' hz h' c' kp e) (by simp only[List.size_toArray]<;>omega)
def tyV(K:W.Frag)(T:String)(x:V)(H:Hp):Prop:=match x with
 | .str _=>T = "str"
 | .int _=>T = "int"
 | .ref p=>(T = "list"∧∃xs,SqL K H p xs)∨(T = "tuple"∧∃o,K.lookup p=some o∧o.cls=.type "tuple"∧o.dict=none) ∨
   (T = "dict"∧((∃kvs,H p=some (.dK kvs))∨∃kvs,H p=some (.dT kvs)))∨(T = "set"∧∃S n,H p=some (.set S n))
 | _=>False
theorem a6j{pins:List (Addr×Obj)}{σ:St}{H:Hp}{s:Shared}{T:String}{x:V}{v:Value}(I:Inv X pins σ H s)(r:RelV x v)(ty:tyV X.K T x H) :
  s.TypeIs v T∧∀a,v=.ref a→∃ob,s.heap.get? a=some ob∧ob.dict=none:=by
 cases x with
 | str z =>
  obtain⟨t,rfl⟩:=r
  cases (show T = "str" from ty)
  exact⟨typeIs_str s z t,fun _ e=>nomatch e⟩
 | int i =>
  obtain⟨t,rfl⟩:=r
  cases (show T = "int" from ty)
  exact⟨typeIs_int s i t,fun _ e=>nomatch e⟩
 | ref p =>
  cases r
  rcases ty with⟨rfl,xs,hq⟩ | ⟨rfl,o,hk,hc,hd⟩ | ⟨rfl,hk⟩ | ⟨rfl,S,n,hk⟩
  ·obtain⟨its,_,pl,_⟩:=I.list hq
   refine⟨pl.isList.typeIs,fun a e=>?_⟩
   cases e
   obtain⟨o,n,e,c,hd,_⟩:=pl
   exact⟨o,e,hd⟩
  ·refine⟨⟨o,I.kIn p o hk,hc⟩,fun a e=>?_⟩
   cases e
   exact⟨o,I.kIn _ o hk,hd⟩
  ·have z:∃o,s.heap.get? p=some o∧o.ExactDict:=by
    rcases hk with⟨kvs,hk⟩ | ⟨kvs,hk⟩
    ·obtain⟨_,_,_,_,o,_,_,e,ex,_⟩:=I.hok p _ hk
     exact⟨o,e,ex⟩
    ·obtain⟨_,_,_,_,o,_,_,e,ex,_⟩:=I.hok p _ hk
     exact⟨o,e,ex⟩
   obtain⟨o,e,ex⟩:=z
   refine⟨⟨o,e,ex.1⟩,fun a e2=>?_⟩
   cases e2
   exact⟨o,e,ex.2.1⟩
  ·obtain⟨o,_,_,_,e,ex,_⟩:=I.hok p _ hk
   refine⟨⟨o,e,ex.1⟩,fun a e2=>?_⟩
   cases e2
   exact⟨o,e,ex.2.1⟩
 | _=>exact False.elim ty
def a7N(K:W.Frag)(T:String)(r:V→List V→Hp→VK→Prop)(to:TE):TE:=fun σ H Q=>to σ H fun x H1=>tyV K T x H1∧r x [] H1 Q
def tBM(K:W.Frag)(T:String)(r:V→List V→Hp→VK→Prop)(to:TE)(t:TA):TE:=fun σ H Q=>to σ H fun x H1=>tyV K T x H1∧t σ H1 fun xs H2=>r x xs H2 Q
variable {o e:Expr}{es:List Expr}{to:TE}{t:TA}{name:Str}{apos cpos:Pos}{T id:String}{r:V→List V→Hp→VK→Prop}
theorem b1X(pa:PlainAttrs T)(slot:Slot T name id)(hty:typeOf (.builtin id)=pure (.type "method_descriptor"))(hm:MtR X id r)(ho:PE X o to)
  (hbase:attributeBase o name X.env (eval o X.env)=eval o X.env:=by rfl) (hline:(apos.endLine == cpos.line)=true:=by rfl):PE X (.Call (.Attribute o name apos) [] [] cpos) (a7N X.K T r to):=by
 intro pins s σ H Q I h
 refine wpAny_Call_method0_late hbase hline (i6 (ho pins s σ H _ I h) fun v s1 ⟨x,H1,I1,r1,ty,q1⟩=>?_)
 obtain⟨h1,h2⟩:=a6j I1 r1 ty
 exact⟨T,id,pa,slot,hty,h1,h2,Calls.callWith_builtin rfl (PySem.evalArgs_none (hm pins s1 σ H1 x [] v [] Q I1 r1 .nil q1))⟩
theorem b29(pa:PlainAttrs T)(slot:Slot T name id)(hty:typeOf (.builtin id)=pure (.type "method_descriptor"))(hm:MtR X id r)(ho:PE X o to)(ha:PA X (e::es) t)
  (hbase:attributeBase o name X.env (eval o X.env)=eval o X.env:=by rfl)
  (hfew:((backTo cpos (starEach (e::es) X.env)).all (fun x=>!x.1) && (backToKw cpos (keywordEach [] X.env)).all (fun x=>x.1.isSome)
   && decide ((e::es).length+([]:List Keyword).length+(if([]:List Keyword).isEmpty then 0 else 1)<30))=true:=by rfl)
  (hline:(apos.endLine == cpos.line)=true:=by rfl) (hs:starEach (e::es) X.env=(false,eval e X.env)::starEach es X.env:=by rfl) (hplain:(backTo cpos (starEach es X.env)).any (·.1)=false:=by rfl) :
  PE X (.Call (.Attribute o name apos) (e::es) [] cpos) (tBM X.K T r to t):=by
 intro pins s σ H Q I h
 refine wpAny_Call_method_late hbase hfew hline rfl (i6 (ho pins s σ H _ I h) fun v s1 ⟨x,H1,I1,r1,ty,q1⟩=>?_)
 obtain⟨h1,h2⟩:=a6j I1 r1 ty
 refine⟨T,id,pa,slot,hty,h1,h2,?_⟩
 have hA:=ha cpos pins s1 σ H1 _ I1 q1
 rw[hs]at hA ⊢
 refine Calls.callWith_builtin (by show(false || (backTo cpos (starEach es X.env)).any (·.1))=false;rw[hplain]<;>rfl) (Calls.evalArgs_plain ?_)
 exact i6 hA fun us s2 ⟨vs,H2,I2,r2,q2⟩=>hm pins s2 σ H2 x vs v us Q I2 r1 r2 q2
end
def MtM(X:Cx)(id:String)(r:V→List V→Hp→VK→Prop):Prop :=
 ∀(pins:List (Addr×Obj)) (s:Shared) (σ:St) (H:Hp) (x:V) (xs:List V) (v:Value) (us:List Value) (Q:VK),Inv X pins σ H s→RelV x v→Vals xs us→r x xs H Q →
  wpAny (model X.prog X.w) X.A (call (.builtin id) (v::us)) (EP X pins σ Q) X.xe s
theorem Vals.one:∀{x:V} {us:List Value},Vals [x] us→∃u,us=[u]∧RelV x u
 | _,_,.cons r .nil=>⟨_,rfl,r⟩
theorem Vals.zero:∀{us:List Value},Vals [] us→us=[]
 | _,.nil=>rfl
theorem Vals.reverse{xs:List V}{us:List Value}(h:Vals xs us):Vals xs.reverse us.reverse:=by
 induction h with
 | nil=>exact .nil
 | cons r t ih=>rw[List.reverse_cons,List.reverse_cons];exact Vals.append ih (.cons r .nil)
theorem Vals.rep{xs:List V}{us:List Value}(h:Vals xs us):∀k:Nat,Vals (List.replicate k xs).flatten (List.replicate k us).flatten
 | 0=>.nil
 | k+1=>by
  rw[List.replicate_succ,List.replicate_succ,List.flatten_cons,List.flatten_cons]
  exact Vals.append h (Vals.rep h k)
theorem a2K(its:List Value):∀(k:Nat) (acc:List Value),
  List.foldl (fun x1 x2=>x1++x2) acc.toArray (List.replicate k its.toArray)=(acc++(List.replicate k its).flatten).toArray
 | 0,acc=>by simp
 | k+1,acc=>by
  have e:acc.toArray++its.toArray=(acc++its).toArray:=by simp
  have e2:(acc++its)++(List.replicate k its).flatten=acc++(List.replicate (k+1) its).flatten:=by
   rw[List.replicate_succ,List.flatten_cons,List.append_assoc]
  rw[← e2,← a2K its k (acc++its),← e,List.replicate_succ,List.foldl_cons]
section
variable {X:Cx}{pins:List (Addr×Obj)}{σ:St}{H:Hp}{s:Shared}{l b:Addr}{xs ys zs:List V}
theorem Inv.lset{its its':List Value}{n:Nat}{f:Array Value→Array Value}{t':Nat}(I:Inv X pins σ H s)(hH:H l=some (.lst xs))
  (e:s.heap.get? l=some { cls:=.type "list",data:=.seq its.toArray n }) (hf:f its.toArray=its'.toArray) (hv:Vals ys its') (hz:ys.length≤sizeLine) :
  Inv X pins σ (upd H l (.lst ys)) { s with heap:=s.heap.update l (Obj.mapSeq f),toks:=t' }:=by
 have q:=PySem.IsL.update e f
 rw[hf]at q
 refine I.write (x:=l) (e:=l) (by rw[hH];exact trivial) (.inl rfl) (fun b' u hb hu=>(Heap.get?_update_other s.heap (Obj.mapSeq f) (Ne.symm hb)).trans hu) ⟨_,q⟩ ?_
 exact⟨hz,its',_,hv,q⟩
theorem Inv.lnew{its:List Value}{t':Nat}(I:Inv X pins σ H s)(hv:Vals ys its)(hz:ys.length≤sizeLine) :
  Inv X pins σ (upd H s.heap.objs.size (.lst ys)) { s with heap:=s.heap.push { cls:=.type "list",data:=.seq its.toArray },toks:=t' } :=
 I.laid (fun _ _ q=>Heap.get?_push_of_some _ q) (Nat.le_refl _) ⟨hz,its,0,hv,Heap.get?_push_size _ rfl⟩
theorem Inv.fresh(I:Inv X pins σ H s):H s.heap.objs.size=none:=I.hok.fresh (Nat.le_refl _)
theorem Inv.lstM(I:Inv X pins σ H s)(hH:H l=some (.lst xs)):xs.length≤sizeLine∧∃(its:List Value) (n:Nat),Vals xs its∧xs.length=its.length∧s.heap.get? l=some { cls:=.type "list",data:=.seq its.toArray n }:=by
 obtain⟨z,its,n,r,e⟩:=I.hok l _ hH
 exact⟨z,its,n,r,r.length,e⟩
theorem a7O{n:Nat}(h:n≤sizeLine):Builtin.List.listTooLong n=false:=by
 unfold Builtin.List.listTooLong
 exact decide_eq_false (by omega)
end
section
variable {X:Cx}
def a4H:V→List V→Hp→VK→Prop:=fun x vs H Q=>∃l xs y,x=.ref l∧vs=[y]∧H l=some (.lst xs)∧xs.length<sizeLine∧Q .non (upd H l (.lst (xs++[y])))
theorem Z7:MtM X "list.append" a4H:=by
 intro pins s σ H x vs v us Q I rx rv h
 obtain⟨l,xs,y,rfl,rfl,hH,hz,q⟩:=h
 cases rx
 obtain⟨u,rfl,ru⟩:=rv.one
 obtain⟨z,its,n,r,hl,e⟩:=I.lstM hH
 refine call_meets F.slot_list_append ⟨_,e,rfl⟩ F.entry_list_append (F.args_list_append_2 _ _) (PySem.list_append l its.toArray n u (by rw[List.size_toArray];omega)) ⟨e,?_⟩
 refine⟨.non,_,I.lset (its':=its++[u]) hH e (by simp) (r.append (.cons ru .nil)) ?_,rfl,q⟩
 rw[List.length_append,List.length_singleton]
 omega
def b1Y:R2:=fun x y H Q=>∃l k xs,x=.ref l∧y=.int k∧H l=some (.lst xs)∧-(2 ^ 63)≤k∧k<2 ^ 63∧xs.length*k.toNat≤sizeLine ∧
 ∀p,H p=none→Q (.ref p) (upd H p (.lst (List.replicate k.toNat xs).flatten))
theorem a9Q{α:Type}(xs:List α)(k:Nat):(List.replicate k xs).flatten.length=k*xs.length:=by
 induction k with
 | zero=>simp
 | succ k ih=>rw[List.replicate_succ,List.flatten_cons,List.length_append,ih,Nat.succ_mul,Nat.add_comm]
theorem b1Z:OpR X (binaryOp .Mult) b1Y:=by
 intro pins s σ H x y v u Q I rx ry h
 obtain⟨l,k,xs,rfl,rfl,hH,h1,h2,hz,q⟩:=h
 cases rx
 obtain⟨t,rfl⟩:=ry
 obtain⟨z,its,n,r,hl,e⟩:=I.lstM hH
 have hlen:its.toArray.size*k.toNat≤sizeLine:=by rw[List.size_toArray,← hl];exact hz
 have hcap:¬its.toArray.size*k.toNat > (2 ^ 63-1)/8:=by
  have:(sizeLine:Nat)≤(2 ^ 63-1)/8:=by decide
  omega
 have hfit:¬(!Builtin.List.listFitsIndex k)=true:=by
  rw[fitsIndex_both h1 h2]
  exact Bool.false_ne_true
 have hlong:¬Builtin.List.listTooLong (its.toArray.size*k.toNat)=true:=by
  rw[a7O hlen]
  exact Bool.false_ne_true
 have hnew:List.foldl (fun x1 x2=>x1++x2) #[] (List.replicate (if its.toArray.isEmpty=true then 0 else k.toNat) its.toArray)=(List.replicate k.toNat its).flatten.toArray:=by
  have f0:∀m:Nat,List.foldl (fun x1 x2=>x1++x2) #[] (List.replicate m its.toArray)=(List.replicate m its).flatten.toArray:=fun m=>by
   have:=a2K its m []
   rw[List.nil_append]at this
   exact this
  rw[f0]
  cases its with
  | nil=>simp
  | cons a r'=>rw[if_neg (by simp)]
 refine wpAny_binaryOp_repeat_ref (T := "list") (U := "int") (by decide) ⟨_,e,rfl⟩ (fun s'=>typeIs_int s' k t) noFill_list_mul F.fills_int_mul F.slot_int_rmul repeat_list F.slot_int_index.lookup
  (call_meets F.slot_int_rmul (typeIs_int s k t) F.entry_int_rmul (F.args_int_rmul_2 _ _) (int___rmul___int_list k t l its.toArray n)
   ⟨e,rfl,⟨_,e,rfl⟩,call_meets F.slot_list_mul ⟨_,e,rfl⟩ F.entry_list_mul (F.args_list_mul_2 _ _) (AutoListH.list___mul___list_int_3 l its.toArray n k t hfit hcap hlong) ⟨e,?_⟩⟩)
 rw[hnew]
 exact⟨.ref _,_,I.lnew (t':=s.toks) (r.rep k.toNat) (by rw[a9Q,Nat.mul_comm];exact hz),rfl,q _ I.fresh⟩
end
end L2
namespace Att
open PySem PySem.W PySem.Calls PyProof.Rows
theorem a1m{P:Params}{h:Heap}:∀(ns:List Int) (vs:List Value),WellAll P h vs (ns.map WData.int)→IntsAre vs ns:=by
 intro ns
 induction ns with
 | nil =>
  intro vs w
  rw[List.map_nil]at w
  cases w
  exact .nil
 | cons n ns ih =>
  intro vs w
  rw[List.map_cons]at w
  cases w with
  | cons a b =>
   cases a
   exact .cons _ _ (ih _ b)
theorem script_of{l:OpenLaw}{n:Nat}(hn:l.most=some n){P:Params}{h:Heap}{args:List WData}{vals:List Value}
  (hpre:l.row.toRowW.claim.pre args=true) (hwl:WellAll P h vals args) :
  ∃a vs ns,vals=[Value.ref a]∧args=[WData.list (ns.map WData.int)]∧h.get? a=some { cls:=.type "list",data:=.seq vs.toArray }∧IntsAre vs ns∧ns.length≤n:=by
 have hsh:WShape.hasAll [] args [.list .int]=true:=(pre_splitW hpre).1
 have hc:l.pre.holds [] { args:=args }=true:=(pre_splitW hpre).2
 obtain⟨d,r,rfl,h1,h2⟩:=hasAllW_cons hsh
 obtain rfl:=hasAllW_nil h2
 obtain⟨xs,rfl,h3⟩:=hasW_list h1
 obtain⟨ns,rfl⟩:=items_int h3
 have hlen:ns.length≤n:=by
  unfold OpenLaw.pre at hc
  have h4:(WTm.not (.lt (.lit (.int (n:Int))) (.len (.arg 0)))).holds [] { args:=[.list (ns.map .int)] }=true:=by
   have h4:=(holds_andW hc).1
   rw[hn]at h4
   exact h4
  have h5:=condW_of h4 (w_not (w_lt w_lit (w_len_list (w_arg rfl))))
  rw[List.length_map]at h5
  refine Nat.le_of_not_lt fun q=>?_
  have q':(n:Int)<((ns.length:Nat):Int):=by omega
  first
   | (rw[decide_eq_true q']at h5;exact absurd h5 (by decide))
   | (simp at h5;omega)
 cases hwl with
 | cons w1 w2 =>
  cases w2
  cases w1 with
  | list ho hall=>exact⟨_,_,ns,rfl,rfl,ho,a1m ns _ hall,hlen⟩
theorem post_true(l:OpenLaw)(args:List WData):l.row.toRowW.claim.post args (.bool true) args=true :=
 postW_of (r:=l.row.toRowW) (X:=(true == true))
  (show WShape.has [] (.bool true) .bool=true by first | rfl | decide | simp[WShape.has,WShape.arms,WShape.armsAll])
  (show(WTm.eq .res (.lit (.bool true))).value [] { args:=args,res:=some (.bool true),after:=args }=some (.bool (true == true))from w_eq_bool (w_res rfl) w_lit) rfl
end Att
namespace L2
open PySem PySem.Spec PyProof.Rows
theorem a2L:∀{vs:List Value} {ns:List Int},IntsAre vs ns→Vals (ns.map V.int) vs
 | _,_,.nil=>.nil
 | _,_,.cons n t h=>.cons ⟨t,rfl⟩ (a2L h)
def b3X(H:Hp):Prop:=∀b,H b=none∨∃o xs,H b=some (.frz o (.lst xs))
def a0s(s:Stmt)(j:Nat):Stmt:=match s with
 | .ClassDef _ _ _ body _ _ _ _ _ _ _=>body.getD j (.Pass ⟨0,0,0,0⟩)
 | _=>.Pass ⟨0,0,0,0⟩
def j6(s:Stmt):Arguments:=match s with
 | .FunctionDef _ a _ _ _ _ _ _ _ _=>a
 | _=>{ posonlyargs:=[],args:=[],vararg:=none,kwonlyargs:=[],kw_defaults:=[],kwarg:=none,defaults:=[] }
def i4(s:Stmt):List Stmt:=match s with
 | .FunctionDef _ _ b _ _ _ _ _ _ _=>b
 | _=>[]
def b9(s:Stmt):Scope:=match s with
 | .FunctionDef _ _ _ _ _ _ sc _ _ _=>sc
 | _=>{ kind:=.function,names:=[],isGenerator:=false,isCoroutine:=false }
abbrev CX0:O3:=fun _ _ _ _ _ _=>False
abbrev E0:XK:=fun _ _ _=>False
structure Fun(K:W.Frag)(x qual:Str)(st:Stmt)(f:Addr)(fd:FuncData):Prop where
 ex:∃(oc:Value) (od:Option Addr) (kV doc pm:Value) (an:Option Addr) (cdv ct:Value) (osl:Array (Option Value)),
  fd=W.fnOf x qual (j6 st) (i4 st) (b9 st) .none kV doc pm an cdv ct∧K.lookup f=some ⟨oc,od,.func fd,osl⟩∧W.codeIn K cdv qual=true
 kp:W.keepIn K (.ref f)=true
section
variable {P:Program}{w:World}{K:W.Frag}{mg:Str→Option Value}{base:Heap}
theorem Fun.ok{x qual:Str}{st:Stmt}{f:Addr}{fd:FuncData}{N ps:List Str}{k:Nat}{sp:Sp}(F:Fun K x qual st f fd)(S:FnScope N ps (b9 st))(len:∀vs H Q E,sp vs H Q E→vs.length=ps.length)
  (hbody:∀(cdv:Value) (A:Around) (outer:List Env) (s:Shared) (H:Hp) (vs:List V) (Q:VK) (E:XK),Room k (A.deeper (envOfC qual (b9 st) s.heap.objs.size f cdv))→sp vs H Q E →
   ∃t,PSs (G9 CX0 P w K mg base N qual (b9 st) f cdv A outer s H E).nox (i4 st) t∧t { nx:=fun _ H'=>Q .non H',rt:=Q } (start N vs) H):FnOk P w K mg base CX0 (k+1) f fd ps sp:=by
 obtain⟨oc,od,kV,doc,pm,an,cdv,ct,osl,rfl,lk,hcd⟩:=F.ex
 refine a1k lk hcd S len fun A outer s H vs Q E hr hsp=>?_
 obtain⟨t,h,q⟩:=hbody cdv A outer s H vs Q E hr hsp
 exact⟨t,h.nox,q⟩
theorem Fun.binds{x qual:Str}{st:Stmt}{f:Addr}{fd:FuncData}{ps:List Str}(F:Fun K x qual st f fd)
  (h:∀(kV doc pm:Value) (an:Option Addr) (cdv ct:Value) (us:List Value),us.length=ps.length→bindArgs (W.fnOf x qual (j6 st) (i4 st) (b9 st) .none kV doc pm an cdv ct) ⟨us,[]⟩=pure (ps.zip us)):Binds K fd ps []:=by
 obtain⟨oc,od,kV,doc,pm,an,cdv,ct,osl,rfl,lk,hcd⟩:=F.ex
 exact .all (h kV doc pm an cdv ct)
theorem v3{x qual:Str}{st:Stmt}{f:Addr}{oc:Value}{od an:Option Addr}{osl:Array (Option Value)}{kV doc pm cdv ct:Value}(l:K.lookup f=some ⟨oc,od,.func (W.fnOf x qual (j6 st) (i4 st) (b9 st) .none kV doc pm an cdv ct),osl⟩)
  (c:W.codeIn K cdv qual=true) (k:W.keepIn K (.ref f)=true):Fun K x qual st f (W.fnOf x qual (j6 st) (i4 st) (b9 st) .none kV doc pm an cdv ct):=⟨⟨oc,od,kV,doc,pm,an,cdv,ct,osl,rfl,l,c⟩,k⟩
end
theorem a6k{n:Nat}(h:n≤1000):n<sizeLine:=Nat.lt_of_le_of_lt h (by decide)
section
variable {X:Cx}
theorem pv(i:Nat){x:Str}{pos:Pos}(hN:X.N[i]? = some x:=by rfl)(hv:Vis X.env.scope x:=by first | exact Or.inl rfl | exact Or.inr (Or.inl rfl) | exact Or.inr (Or.inr rfl))(hd:(x == ("__debug__" : Str))=false:=by decide)
  (hcd:(x == ("__classdict__" : Str))=false:=by decide):PE X (.Name x pos) (D1 i):=b1w hN hv hd hcd
end
def Same(H H':Hp):Prop:=∀b o,H b=some o→H' b=some o
theorem Same.refl(H:Hp):Same H H:=fun _ _ h=>h
theorem Same.trans{H H1 H2:Hp}(a:Same H H1)(b:Same H1 H2):Same H H2:=fun c o h=>b c o (a c o h)
theorem Same.free{H H':Hp}(e:Same H H'){l:Addr}(h:H' l=Option.none):H l=Option.none:=by
 cases q:H l with
 | none=>rfl
 | some o =>
  rw[e l o q]at h
  cases h
theorem Same.seq{K:W.Frag}{H H':Hp}{a:Addr}{xs:List V}(e:Same H H')(h:SqL K H a xs):SqL K H' a xs:=by
 rcases h with(h | ⟨o,h⟩) | h
 ·exact .inl (.inl (e _ _ h))
 ·exact .inl (.inr ⟨o,e _ _ h⟩)
 ·exact .inr h
end L2
set_option maxHeartbeats 4000000
namespace L2
open PySem PySem.Spec PyProof.Rows
theorem ObjOk.there{P:Program}{w:World}{H:Hp}{h:Heap}{a:Addr}{o:HO}(x:ObjOk P w H h a o):∃ob,h.get? a=some ob:=by
 cases o with
 | lst xs=>obtain⟨_,_,_,_,e⟩:=x;exact⟨_,e⟩
 | tup xs=>obtain⟨_,_,_,p⟩:=x;obtain⟨o,e,_⟩:=p;exact⟨_,e⟩
 | dK kvs=>obtain⟨_,_,_,_,o,_,_,e,_⟩:=x;exact⟨_,e⟩
 | dT kvs=>obtain⟨_,_,_,_,o,_,_,e,_⟩:=x;exact⟨_,e⟩
 | set S n=>obtain⟨o,_,_,_,e,_⟩:=x;exact⟨_,e⟩
 | ins C dx fs=>obtain⟨_,_,_,e,_⟩:=x;exact⟨_,e⟩
 | own y=>obtain⟨_,e⟩:=x;exact⟨_,e⟩
 | xd fs=>obtain⟨_,⟨_,_,_,e,_⟩,_⟩:=x;exact⟨_,e⟩
 | rng lo hi=>obtain⟨_,_,_,e⟩:=x;exact⟨_,e⟩
 | frz ob u=>obtain⟨e,_⟩:=x;exact⟨_,e⟩
 | tbl ps=>obtain⟨_,e,_⟩:=x;exact⟨_,e⟩
 | met f y=>exact⟨_,(show h.get? a=some _ from x)⟩
 | ext φ=>obtain⟨_,⟨_,e⟩,_⟩:=x;exact⟨_,e⟩
def Imp(X:Cx)(pins:List (Addr×Obj))(H:Hp)(b:Addr):Prop:=H b≠none∨(b ∉ X.ex∧∃o,X.s₀.heap.get? b=some o)∨∃p∈X.pn++pins,p.1=b
def a0Z:Option Addr→Value
 | none=>.none
 | some n=>if n%2=0 then .ref (n/2)else .none
def Z8:Option Addr→Option Addr
 | none=>none
 | some n=>if n%2=0 then none else some (n/2)
def TrX(h B:Heap)(e:Addr)(cls:Value)(cx:Option Addr)(fl:Value):Prop :=
 ∃oe vs T oT ts,(h.get? e=some oe∧oe.cls=cls∧oe.data=.fields vs∧oe.dict=Z8 cx)∧(vs[1]? = some (.ref T)∧vs[2]? = some (a0Z cx))∧(B.get? T=none∧T≠e)∧h.get? T=some oT∧oT.data=.fields ts∧ts[3]? = some fl
theorem Obj.dict_mapF(o:Obj)(g:Array Value→Array Value):(Obj.mapFields g o).dict=o.dict:=by
 obtain⟨a,b,c,d⟩:=o
 cases c<;>rfl
theorem Q1(T:Addr):(Value.ref T != Value.none)=true:=by simp
inductive Ph where | new | fly | any
def XTr(B h:Heap)(a:Addr)(cls:Value)(cx:Option Addr):Ph→Prop
 | .new=>∃oe vs,h.get? a=some oe∧oe.cls=cls∧oe.data=.fields vs∧vs[1]? = some .none∧vs[2]? = some (a0Z cx)∧oe.dict=Z8 cx
 | .fly=>TrX h B a cls cx .none
 | .any=>∃fl,TrX h B a cls cx fl
theorem XTr.there{B h:Heap}{a:Addr}{cls:Value}{cx:Option Addr}{ph:Ph}(x:XTr B h a cls cx ph):∃oe vs,h.get? a=some oe∧oe.cls=cls∧oe.data=.fields vs∧vs[2]? = some (a0Z cx)∧oe.dict=Z8 cx:=by
 cases ph with
 | new=>obtain⟨oe,vs,h1,h2,h3,_,h4,h5⟩:=x;exact⟨oe,vs,h1,h2,h3,h4,h5⟩
 | fly=>obtain⟨oe,vs,_,_,_,⟨h1,h2,h3,h5⟩,⟨_,h4⟩,_⟩:=x;exact⟨oe,vs,h1,h2,h3,h4,h5⟩
 | any=>obtain⟨_,oe,vs,_,_,_,⟨h1,h2,h3,h5⟩,⟨_,h4⟩,_⟩:=x;exact⟨oe,vs,h1,h2,h3,h4,h5⟩
section
variable {M:Model}{A:Around}{E:Value→Shared→Prop}{s:Shared}
def a1o(B:Heap)(l:List Env)(e:Addr)(cls:Value)(cx:Option Addr)(fl:Value)(h h':Heap):Prop:=B.StaysIn h'∧h'.FunFrames B l∧TrX h' B e cls cx fl∧h.UpToSlots h'
theorem a4I{B:Heap}{env:Env}{outer:List Env}{L e:Addr}{oe:Obj}{vs:Array Value}{head:Value}{cx:Option Addr}{nx:Bool}{Q:Unit→Shared→Prop}(fr:A.frames=some (env::outer))(ff:s.heap.FunFrames B (env::outer))(hf:env.frame=some L)
  (ge:s.heap.get? e=some oe) (st:B.StaysIn s.heap) (be:B.get? e=none) (de:oe.data=.fields vs) (z1:1<vs.size) (z2:vs[2]? = some (a0Z cx)) (z6:oe.dict=Z8 cx) (q:∀h',a1o B (env::outer) e oe.cls cx (rawInt L) s.heap h'→Q () { s with heap:=h' }) :
  wpAny M A (do let a ← frameOf env;let pl ← entryPlaceOf L nx;let b ← EntryCells.newEntry head a .none (rawInt L) .none pl;setField (.ref e) 1 b) Q E s:=by
 have nf:∀b o,s.heap.get? b=some o→(∀ws,o.data≠.fields ws)→b≠e:=fun b o gb nb zb=>by subst zb;rw[ge]at gb;cases gb;exact nb vs de
 have out:e ∉ (env::outer).filterMap (·.frame):=fun m=>by obtain⟨_,o,go,no⟩:=ff.mem m;exact nf e o go no rfl
 refine wpAny_bind (wpAny_frameOf_fun fr ff hf fun h1 only=>wpAny_bind (wpAny_entryPlaceOf fun pl place=>?_))
 unfold EntryCells.newEntry newFields
 refine wpAny_bind (wpAny_newObj_type ?_ (place.sizeOk5 _ _ _ _ _))
 have ge1:h1.get? e=some oe:=(only.2.1 e out).trans ge
 have st1:B.StaysIn h1:=fun b o gb=>(only.2.1 b fun m=>by have:=(ff.mem m).1;rw[this]at gb;cases gb).trans (st b o gb)
 have ne1:h1.objs.size≠e:=fun z=>absurd (Heap.lt_size ge1) (by rw[z];exact Nat.lt_irrefl _)
 refine wpAny_setField (Heap.get?_push_of_some _ ge1) de z1 (q _ ?_)
 have far:∀{ob:Obj} {g:Obj→Obj} {b:Addr} {o:Obj},b≠e→h1.get? b=some o→((h1.push ob).update e g).get? b=some o:=fun ne gb=>(Heap.get?_update_other _ _ (Ne.symm ne)).trans (Heap.get?_push_of_some _ gb)
 refine⟨fun b o gb=>far (fun z=>by rw[z,be]at gb;cases gb) (st1 b o gb),ff.of_keeps fun b o gb nb=>?_,?_,fun b o gb nb=>?_⟩
 ·obtain⟨sl,g⟩:=only.2.2 b o gb;exact⟨_,far (nf b o gb nb) g,rfl⟩
 ·have dd:=Obj.data_mapFields de (·.setIfInBounds 1 (Value.ref h1.objs.size))
  refine⟨_,_,h1.objs.size,_,_,⟨Heap.get?_update_self _ (Heap.get?_push_of_some _ ge1) (Obj.isFreed_of_fields dd),Obj.cls_mapFields _ _,dd,(Obj.dict_mapF _ _).trans z6⟩,⟨by simp[z1],by rw[Array.getElem?_setIfInBounds_ne (by decide)];exact z2⟩,⟨st1.fresh,ne1⟩,(Heap.get?_update_other _ _ (Ne.symm ne1)).trans (Heap.get?_push_size h1 rfl),rfl,?_⟩
  first | (simp;done) | (rcases place with rfl | ⟨_,_,_,_,_,_,_,rfl⟩<;>simp)
 ·obtain⟨sl,g⟩:=only.2.2 b o gb;exact⟨sl,far (nf b o gb nb) g⟩
theorem a5v{B:Heap}{env:Env}{outer:List Env}{L e:Addr}{oe:Obj}{vs:Array Value}{cx:Option Addr}{Q:Unit→Shared→Prop}(fr:A.frames=some (env::outer))(ff:s.heap.FunFrames B (env::outer))(hf:env.frame=some L)
  (ge:s.heap.get? e=some oe) (st:B.StaysIn s.heap) (be:B.get? e=none) (de:oe.data=.fields vs) (z1:vs[1]? = some .none) (z2:vs[2]? = some (a0Z cx)) (z6:oe.dict=Z8 cx) (q:∀h',a1o B (env::outer) e oe.cls cx (rawInt L) s.heap h'→Q () { s with heap:=h' }):wpAny M A (noteFrame (.ref e) env) Q E s:=by
 unfold noteFrame
 simp only[hf]
 refine wpAny_bind (wpAny_field ge de z1 ?_)
 rw[if_neg (by decide)]
 exact a4I fr ff hf ge st be de (Array.getElem?_eq_some_iff.mp z1).1 z2 z6 q
theorem a9R{B:Heap}{env:Env}{outer:List Env}{L e:Addr}{cls:Value}{cx:Option Addr}{Q:Unit→Shared→Prop}(fr:A.frames=some (env::outer))(ff:s.heap.FunFrames B (env::outer))(hf:env.frame=some L)
  {fl:Value} (t:TrX s.heap B e cls cx fl) (nl:¬(fl == rawInt L)=true) (st:B.StaysIn s.heap) (be:B.get? e=none) (q:∀h',a1o B (env::outer) e cls cx (rawInt L) s.heap h'→Q () { s with heap:=h' }):wpAny M A (noteFrame (.ref e) env) Q E s:=by
 obtain⟨oe,vs,T,oT,ts,⟨ge,rfl,de,z6⟩,⟨z1,z2⟩,⟨bT,nT⟩,gT,dT,z3⟩:=t
 unfold noteFrame
 simp only[hf]
 refine wpAny_bind (wpAny_field ge de z1 ?_)
 rw[if_pos (Q1 T)]
 refine wpAny_bind (wpAny_field gT dT z3 ?_)
 rw[if_neg nl]
 refine wpAny_bind (wpAny_setField gT dT (Array.getElem?_eq_some_iff.mp z3).1 ?_)
 have far:∀{g:Obj→Obj} b,b≠T→(s.heap.update T g).get? b=s.heap.get? b:=fun b ne=>Heap.get?_update_other _ _ (Ne.symm ne)
 have nf:∀b o,s.heap.get? b=some o→(∀ws,o.data≠.fields ws)→b≠T:=fun b o gb nb zb=>by subst zb;rw[gT]at gb;cases gb;exact nb ts dT
 refine a4I fr (ff.of_keeps fun b o gb nb=>⟨o,(far b (nf b o gb nb)).trans gb,rfl⟩) hf ((far e (Ne.symm nT)).trans ge) (fun b o gb=>(far b fun z=>by rw[z,bT]at gb;cases gb).trans (st b o gb)) be de (Array.getElem?_eq_some_iff.mp z1).1 z2 z6 fun h' x=>q h' ⟨x.1,x.2.1,x.2.2.1,fun b o gb nb=>?_⟩
 exact x.2.2.2 b o ((far b (nf b o gb nb)).trans gb) nb
theorem a5w{B:Heap}{env:Env}{L e:Addr}{cls:Value}{cx:Option Addr}{fl:Value}{Q:Unit→Shared→Prop}(hf:env.frame=some L)(t:TrX s.heap B e cls cx fl)(el:(fl == rawInt L)=true)(q:Q () s):wpAny M A (noteFrame (.ref e) env) Q E s:=by
 obtain⟨oe,vs,T,oT,ts,⟨ge,rfl,de,z6⟩,⟨z1,z2⟩,⟨bT,nT⟩,gT,dT,z3⟩:=t
 unfold noteFrame
 simp only[hf]
 refine wpAny_bind (wpAny_field ge de z1 ?_)
 rw[if_pos (Q1 T)]
 refine wpAny_bind (wpAny_field gT dT z3 ?_)
 rw[if_pos el]
 exact wpAny_pure q
theorem a7P{B:Heap}{l:List Env}{e:Addr}{cls fl:Value}{cx fr:Option Addr}{Q:Unit→Shared→Prop}(st:B.StaysIn s.heap)(ff:s.heap.FunFrames B l)(t:TrX s.heap B e cls cx fl)
  (q:∀h',a1o B l e cls cx (fr.elim Value.none fun f=>rawInt f) s.heap h'→Q () { s with heap:=h' }):wpAny M A (setFlight (.ref e) fr) Q E s:=by
 obtain⟨oe,vs,T,oT,ts,⟨ge,rfl,de,z6⟩,⟨z1,z2⟩,⟨bT,nT⟩,gT,dT,z3⟩:=t
 have z4:3<ts.size:=(Array.getElem?_eq_some_iff.mp z3).1
 have far:∀{g:Obj→Obj} b,b≠T→(s.heap.update T g).get? b=s.heap.get? b:=fun b ne=>Heap.get?_update_other _ _ (Ne.symm ne)
 have nf:∀b o,s.heap.get? b=some o→(∀ws,o.data≠.fields ws)→b≠T:=fun b o gb nb zb=>by subst zb;rw[gT]at gb;cases gb;exact nb ts dT
 unfold setFlight
 refine wpAny_bind (wpAny_field ge de z1 ?_)
 rw[if_pos (Q1 T)]
 refine wpAny_setField gT dT z4 (q _ ⟨fun b o gb=>(far b fun z=>by rw[z,bT]at gb;cases gb).trans (st b o gb),ff.of_keeps fun b o gb nb=>⟨o,(far b (nf b o gb nb)).trans gb,rfl⟩,?_,fun b o gb nb=>⟨o.slots,(far b (nf b o gb nb)).trans gb⟩⟩)
 have dd:=Obj.data_mapFields dT (·.setIfInBounds 3 (fr.elim Value.none fun f=>rawInt f))
 exact⟨oe,vs,T,_,_,⟨(far e (Ne.symm nT)).trans ge,rfl,de,z6⟩,⟨z1,z2⟩,⟨bT,nT⟩,Heap.get?_update_self _ gT (Obj.isFreed_of_fields dd),dd,by simp[z4]⟩
end
structure XAt(X:Cx)(pins:List (Addr×Obj))(H:Hp)(s:Shared)(a:Addr)(cls:Value)(cx:Option Addr)(B:Heap)(ph:Ph):Prop where
 free:H a=none
 stays:B.StaysIn s.heap
 fresh:B.get? a=none
 frames:s.heap.FunFrames B X.stack
 cov:∀b o,s.heap.get? b=some o→Imp X pins H b→b ∉ A4 X.stack→B.get? b=some o
 tr:XTr B s.heap a cls cx ph
section
variable {X:Cx}{pins:List (Addr×Obj)}{σ:St}{H:Hp}{s:Shared}{a:Addr}{cls:Value}{cx:Option Addr}{B h':Heap}{ph:Ph}
theorem Imp.there(I:Inv X pins σ H s){b:Addr}(i:Imp X pins H b):∃o,s.heap.get? b=some o:=by
 rcases i with i | ⟨hx,o,i⟩ | ⟨p,hp,e⟩
 ·cases q:H b with
  | none=>exact absurd q i
  | some u=>exact(I.hok b u q).there
 ·exact I.base.there b o i hx
 ·exact⟨p.2,by rw[← e];exact(I.pin p hp).1⟩
theorem Inv.exc(I:Inv X pins σ H s)(cov:∀b o,s.heap.get? b=some o→Imp X pins H b→b ∉ A4 X.stack→B.get? b=some o)(st:B.StaysIn h')(ups:s.heap.UpToSlots h') :
  Inv X pins σ H { s with heap:=h' }:=by
 have fr:∀b,b∈A4 X.stack→∀o,s.heap.get? b=some o→∃sl,h'.get? b=some { o with slots:=sl }:=fun b hb o e=>by
  obtain⟨_,o',e',d⟩:=I.stack.mem hb
  rw[e]at e';cases e'
  exact ups b o e d
 have nfr:∀b,b ∉ X.fs→b≠X.env.locals→b ∉ A4 X.stack:=fun b h1 h2 z=>(List.mem_cons.mp (I.stkSub b z)).elim h2 h1
 have neL:∀b o,X.s₀.heap.get? b=some o→b≠X.env.locals:=fun b o e=>Nat.ne_of_lt (Nat.lt_of_lt_of_le (Heap.lt_size e) I.ok.above)
 have cellK:∀c v,s.heap.IsCell c v→h'.IsCell c v:=fun c v ⟨o,ho,hd⟩=>by
  obtain⟨sl,q⟩:=ups c o ho (fun vs z=>by rw[hd]at z;cases z)
  exact⟨_,q,hd⟩
 refine⟨I.ok,I.os,I.bare,⟨fun b o e n hb hx=>?_,fun b o e n hb hx=>?_,I.base.free,fun b o e hx=>?_,I.base.tups,I.base.frzs,I.base.tbls⟩,?_,fun x c e=>?_,I.free,I.freeC,fun p hp=>?_,?_,I.len⟩
 ·exact st _ _ (cov b o (I.base.keep b o e n hb hx) (.inr (.inl ⟨hx,o,e⟩)) (nfr b hb (neL b o e)))
 ·obtain⟨sl,e1⟩:=I.base.slot b o e n hb hx
  have hb':b∈A4 X.stack:=by
   rcases I.ok.stk with q | ⟨q,hf⟩
   ·rw[q];exact hb
   ·rw[q];unfold A4;rw[List.filterMap_cons,hf];exact List.mem_cons_of_mem _ hb
  obtain⟨sl',e2⟩:=fr b hb' _ e1
  exact⟨sl',e2⟩
 ·obtain⟨o',e1⟩:=I.base.there b o e hx
  by_cases hb:b∈A4 X.stack
  ·obtain⟨sl,q⟩:=fr b hb _ e1
   exact⟨_,q⟩
  ·exact⟨o',st _ _ (cov b o' e1 (.inr (.inl ⟨hx,o,e⟩)) hb)⟩
 ·obtain⟨m,hn,hl⟩:=I.loc
  refine⟨m,ups.ns hn,fun i x v e1 e2 e3=>?_⟩
  obtain⟨u,r,l⟩:=hl i x v e1 e2 e3
  refine⟨u,r,?_⟩
  rcases l with l | ⟨k,c,e,z⟩
  ·exact .inl l
  ·exact .inr ⟨k,c,e,cellK c _ z⟩
 ·obtain⟨v,z⟩:=I.cell x c e
  exact⟨v,cellK c v z⟩
 ·obtain⟨e,n,ne,nf,d⟩:=I.pin p hp
  exact⟨st _ _ (cov p.1 p.2 e (.inr (.inr ⟨p,hp,rfl⟩)) (nfr p.1 nf ne)),n,ne,nf,d⟩
 ·intro b u e
  refine(I.hok b u e).stay (fun c v hc q=>?_) (fun _ q=>q) (fun _ _ q=>q) fun _ _ _ q=>q
  have hc':H c≠none:=by
   rcases hc with z | z
   ·rw[z,e];exact fun q=>nomatch q
   ·rw[z];exact fun q=>nomatch q
  exact st _ _ (cov c v q (.inl hc') fun z=>hc' (I.stkFree c z))
theorem XAt.cov'(x:XAt X pins H s a cls cx B ph)(I:Inv X pins σ H s)(st:B.StaysIn h'):∀b o,h'.get? b=some o→Imp X pins H b→b ∉ A4 X.stack→B.get? b=some o:=fun b o e i n=>by
 obtain⟨o1,e1⟩:=i.there I
 have q:=x.cov b o1 e1 i n
 have q2:=st _ _ q
 rw[e]at q2;cases q2
 exact q
variable {M:Model}{A:Around}{E:Value→Shared→Prop}{Q:Unit→Shared→Prop}
theorem a7Q{e:Value}{env env0:Env}(h:env0.frame=env.frame):noteFrame e env=noteFrame e env0:=by
 unfold noteFrame PySem.frameOf
 rw[h]
theorem a2d{env0:Env}{out0:List Env}{F:Addr}(hA:A.frames=some X.stack)(hs:X.stack=env0::out0)(h0:env0.frame=X.env.frame)(hf:X.env.frame=some F)(I:Inv X pins σ H s)(x:XAt X pins H s a cls cx B ph)
  (hQ:∀h',Inv X pins σ H { s with heap:=h' }→XAt X pins H { s with heap:=h' } a cls cx B .any→Q () { s with heap:=h' }):wpAny M A (noteFrame (.ref a) X.env) Q E s:=by
 have hfr:A.frames=some (env0::out0):=by rw[hA,hs]
 have hl:s.heap.FunFrames B (env0::out0):=by rw[← hs];exact x.frames
 rw[a7Q h0]
 have hf:env0.frame=some F:=h0.trans hf
 have fin:∀{fl:Value} h',a1o B (env0::out0) a cls cx fl s.heap h'→Q () { s with heap:=h' }:=fun h' ⟨k1,k2,k3,k4⟩ =>
  hQ h' (I.exc x.cov k1 k4) ⟨x.free,k1,x.fresh,by rw[hs];exact k2,x.cov' I k1,_,k3⟩
 have on:∀fl,TrX s.heap B a cls cx fl→wpAny M A (noteFrame (.ref a) env0) Q E s:=fun fl t=>by
  by_cases z:(fl == rawInt F)=true
  ·exact a5w hf t z (hQ s.heap I ⟨x.free,x.stays,x.fresh,x.frames,x.cov,fl,t⟩)
  ·exact a9R hfr hl hf t z x.stays x.fresh fin
 cases ph with
 | new =>
  obtain⟨oe,vs,he,hc,hd,h1,h2,h6⟩:=x.tr
  refine a5v hfr hl hf he x.stays x.fresh hd h1 h2 h6 fun h' hN=>?_
  rw[hc]at hN
  exact fin h' hN
 | fly=>exact on _ x.tr
 | any=>obtain⟨fl,t⟩:=x.tr;exact on fl t
theorem a0t(I:Inv X pins σ H s)(x:XAt X pins H s a cls cx B ph)(hn:ph≠.new)
  (hQ:∀h',Inv X pins σ H { s with heap:=h' }→XAt X pins H { s with heap:=h' } a cls cx B .fly→Q () { s with heap:=h' }):wpAny M A (setFlight (.ref a) none) Q E s:=by
 have go:∀fl,TrX s.heap B a cls cx fl→wpAny M A (setFlight (.ref a) none) Q E s:=fun fl ht =>
  a7P x.stays x.frames ht fun h' ⟨k1,k2,k3,k4⟩=>hQ h' (I.exc x.cov k1 k4) ⟨x.free,k1,x.fresh,k2,x.cov' I k1,k3⟩
 cases ph with
 | new=>exact absurd rfl hn
 | fly=>exact go _ x.tr
 | any=>obtain⟨fl,t⟩:=x.tr;exact go fl t
end
def n4(P:Program)(w:World):O3:=fun outer H s E e s' =>
 ∃(a:Addr) (cls:Value) (cx:Option Addr) (H':Hp) (B:Heap),e=.ref a∧s'.os=s.os∧AllBare s'.gens∧Un (A4 outer) [] H H' s.heap s'.heap∧HOk P w H' s'.heap∧B.StaysIn s'.heap∧B.get? a=none∧s'.heap.FunFrames B outer ∧
  TrX s'.heap B a cls cx .none∧H' a=none∧(∀b o,s'.heap.get? b=some o→(H' b≠none∨∃o',s.heap.get? b=some o')→b ∉ A4 outer→B.get? b=some o)∧E cls cx H'
def XAcc(X:Cx)(E:XK):Prop:=∀(pins:List (Addr×Obj)) (σ:St) (H:Hp) (s:Shared) (a:Addr) (cls:Value) (cx:Option Addr) (B:Heap) (ph:Ph),Inv X pins σ H s→XAt X pins H s a cls cx B ph→E cls cx H→X.xe (.ref a) s
theorem P5{P:Program}{w:World}{K:W.Frag}{mg:Str→Option Value}{base:Heap}{N:List Str}{qual:Str}{scope:Scope}{f:Addr}{cd:Value}{A:Around}{outer:List Env}{s:Shared}{H:Hp}{E:XK} :
  XAcc (G9 (n4 P w) P w K mg base N qual scope f cd A outer s H E) E:=by
 intro pins σ H1 s1 a cls cx B ph I x e
 show wpAny (model P w) (A.deeper (envOfC qual scope s.heap.objs.size f cd)) (leaving (envOfC qual scope s.heap.objs.size f cd) (.ref a)) _ _ s1
 unfold leaving
 refine wpAny_bind (a2d (X:=G9 (n4 P w) P w K mg base N qual scope f cd A outer s H E) I.ok.frames rfl rfl rfl I x fun h1 I1 x1=>?_)
 refine a0t I1 x1 (fun z=>nomatch z) fun h2 I2 x2=>?_
 refine⟨a,cls,cx,H1,B,rfl,I2.os,I2.bare,I2.base,I2.hok,x2.stays,x2.fresh,x2.frames.2.2,x2.tr,x2.free,fun b o e1 i n=>?_,e⟩
 have nl:b≠(envOfC qual scope s.heap.objs.size f cd).locals:=fun z=>by
  rcases i with i | ⟨o',i⟩
  ·exact i (by rw[z];exact I2.free)
  ·have:=Heap.lt_size i
   rw[z]at this
   exact absurd this (Nat.lt_irrefl _)
 refine x2.cov b o e1 (i.elim .inl fun z=>.inr (.inl ⟨List.not_mem_nil,z⟩)) fun z=>?_
 rcases List.mem_cons.mp (I2.stkSub b z)with q | q
 ·exact nl q
 ·exact n q
theorem XAcc.passes{X:Cx}{E:XK}(acc:XAcc X E):J7 (n4 X.prog X.w) X E:=by
 intro pins σ H s e s' I h
 obtain⟨a,cls,cx,H',B,rfl,os,bare,un,hok,st,fr,ff,tr,free,cov,hE⟩:=h
 have I':Inv X pins σ H' s':=I.call' (ch:=[]) os un hok bare (fun b z=>absurd z (by simp))
 refine acc pins σ H' s' a cls cx B .fly I' ⟨free,st,fr,ff,fun b o e i n=>cov b o e ?_ n,tr⟩ hE
 rcases i with i | ⟨hx,o',i⟩ | ⟨p,hp,q⟩
 ·exact .inl i
 ·exact .inr (I.base.there b o' i hx)
 ·exact .inr ⟨p.2,by rw[← q];exact(I.pin p hp).1⟩
end L2
namespace PySem.W
open PySem PySem.Spec PySem.Calls PyProof.Rows
structure ExcT(K:Frag)(C:Addr):Prop where
 ga:findIn K (.ref C) "__getattribute__" = some (some (.builtin "BaseException.__getattribute__"))
 gt:findIn K (.ref C) "__getattr__" = some none
 cl:findIn K (.ref C) "__class__" = some (some (.builtin "object.__class__"))
 mo:mroIn K C (.type "object")=some true
 sb:subIn K (.ref C) (.type "BaseException")=some true
section
variable {prog:Program}{w:World}{A:Around}{E:Value→Shared→Prop}{h:Heap}{g:Array GenState}{d:Drawn}{t:Nat}{os:OsState}{K:Frag}{x C:Addr}{o:Obj}{R:Result→Shared→Prop}
theorem a25{tp:Value}(X:K.In h)(hx:h.get? x=some o)(hc:o.cls=.ref C)(hm:mroIn K C (.type "object")=some true)
  (q:R (.ok (.ret (.ref C))) ⟨h,g,d,t,os⟩):codeAny (model prog w) A (.call (.builtin "getset_descriptor.__get__") ⟨[.builtin "object.__class__",.ref x,tp],[]⟩) R ⟨h,g,d,t,os⟩:=by
 have L0:Looks (model prog w) h (typeOf (.ref x)) (.ref C):=hc▸(Looks.ld hx).andThen .now
 have L1:=looks_mroIn (M:=model prog w) X hm
 refine codeAny_call_builtin KF.slot_gs.plain KF.entry_gs (KF.slot_gs.check _ _ _ _ _ _ _ _ KF.type_class (KF.args_gs _ _ _) ?_)
 unfold Builtin.«getset_descriptor.__get__» Builtin.Getset_descriptor.descrGet
 rw[dga_obj]
 refine wpAny_bind (wpAny_pure ?_)
 unfold Builtin.Getset_descriptor.descrGetter Builtin.Getset_descriptor.descrCheckInstance Builtin.Getset_descriptor.descrNameAndClass isInstance
 simp only[KF.owner_class]
 repeat lk
 refine⟨Code.quiet_builtin _ (by decide +kernel),codeAny_builtin KF.entry_class ?_⟩
 unfold Builtin.«object.__class__» shownTypeOf
 repeat lk
 exact q
theorem a1p{tk:Tok}{Q:Fin→Shared→Prop}(X:K.In h)(T:ExcT K C)(hx:h.get? x=some o)(hc:o.cls=.ref C)(q:Q (.done (.ret (.ref C))) ⟨h,g,d,t,os⟩) :
  wpAny (model prog w) A (Builtin.«object.__getattribute__» ⟨[.ref x,.str "__class__" tk],[]⟩) Q E ⟨h,g,d,t,os⟩:=by
 have L0:Looks (model prog w) h (typeOf (.ref x)) (.ref C):=hc▸(Looks.ld hx).andThen .now
 have L1:=looks_findIn (M:=model prog w) X T.cl
 have hT5:(⟨h,g,d,t,os⟩:Shared).TypeIs (.builtin "object.__class__") "getset_descriptor" := F.typeOf_object_class
 have f5:=F.typeOf_object_class
 have f6:=F.slot_gs_get.lookup
 have f7:=F.slot_gs_set.lookup
 repeat (any_goals (first | assumption | (with_reducible refine L0.at ?_) | (with_reducible refine wpAny_bind (L0.at ?_)) | (with_reducible refine L1.at ?_) | (with_reducible refine wpAny_bind (L1.at ?_)) | wp_step))
 refine a25 X hx hc T.mo ?_
 repeat (any_goals (first | assumption | wp_step))
theorem Z9{M:Model}{nameV:Value}{Q:Unit→Shared→Prop}(X:K.In h)(T:ExcT K C)(hx:h.get? x=some o)(hc:o.cls=.ref C)(hq:Q () ⟨h,g,d,t,os⟩):wpAny M A (checkBuiltinCall "BaseException.__getattribute__" ⟨[.ref x,nameV],[]⟩) Q E ⟨h,g,d,t,os⟩:=by
 have hk:builtinKind "BaseException.__getattribute__" = some .slot:=by decide +kernel
 have hsplit:splitId "BaseException.__getattribute__" = some ("BaseException","__getattribute__"):=by decide +kernel
 have L0:Looks M h (typeOf (.ref x)) (.ref C):=hc▸(Looks.ld hx).andThen .now
 have L1:=looks_subIn (M:=M) X T.sb
 have L2:Looks M h (isInstance (.ref x) (.type "BaseException")) true:=L0.andThen L1
 have ha:=F.args_bexc_ga (.ref x) nameV
 simp only[checkBuiltinCall,hk,hsplit]
 refine wpAny_bind (L2.at ?_)
 repeat (first | assumption | wp_step)
theorem a3B{tk:Tok}{Q:Value→Shared→Prop}(X:K.In h)(T:ExcT K C)(hx:h.get? x=some o)(hc:o.cls=.ref C)(hq:Q (.ref C) ⟨h,g,d,t,os⟩):wpAny (model prog w) A (getAttrBy (.ref x) (.str "__class__" tk) false) Q E ⟨h,g,d,t,os⟩:=by
 have L0:Looks (model prog w) h (typeOf (.ref x)) (.ref C):=hc▸(Looks.ld hx).andThen .now
 have L1:=looks_findIn (M:=model prog w) X T.ga
 have L2:=looks_findIn (M:=model prog w) X T.gt
 have f3:=F.attr_ValueError.ga.bind (.ref x)
 have hx2:(Value.builtin "BaseException.__getattribute__" == Value.builtin "object.__getattribute__")=false:=by decide +kernel
 have hx1:(onTheHeap (Value.ref C) && Value.builtin "BaseException.__getattribute__" == Value.builtin "object.__getattribute__")=false:=by rw[hx2];rfl
 repeat (any_goals (first | assumption | (with_reducible refine L0.at ?_) | (with_reducible refine wpAny_bind (L0.at ?_)) | (with_reducible refine L1.at ?_) | (with_reducible refine wpAny_bind (L1.at ?_)) | (with_reducible refine L2.at ?_) | (with_reducible refine wpAny_bind (L2.at ?_)) | wp_step))
 refine codeAny_call_builtin F.attr_ValueError.ga.plain F.entry_bexc_ga (Z9 X T hx hc (a1p X T hx hc ?_))
 repeat (any_goals (first | assumption | wp_step))
theorem a2e{Q:Option Value→Shared→Prop}(X:K.In h)(T:ExcT K C)(hx:h.get? x=some o)(hc:o.cls=.ref C)(hq:Q (some (.ref C)) ⟨h,g,d,t+1,os⟩):wpAny (model prog w) A (getAttr? (.ref x) "__class__") Q E ⟨h,g,d,t,os⟩:=by
 unfold getAttr? getAttrBy?
 repeat (any_goals (first | assumption | with_reducible apply a3B X T hx hc | wp_step))
end
def b10(x C:Addr)(h:Heap):Prop:=∃o vs,h.get? x=some o∧o.cls=.ref C∧o.data=.fields vs
theorem kitx_exc{K:Frag}{x C:Addr}(T:ExcT K C):KitX K (.ref x) (.ref C) (b10 x C) where
 ty:=fun _ _ _ ⟨_,_,hx,hc,_⟩=>hc▸(Looks.ld hx).andThen .now
 it:=fun M h X _=>by
  have hm:=T.mo
  unfold mroIn at hm
  obtain⟨cd,hcd⟩:∃cd,clsIn K C=some cd:=by
   cases q:clsIn K C with
   | none=>rw[q]at hm;cases hm
   | some cd=>exact⟨cd,rfl⟩
  unfold clsIn at hcd
  split at hcd
  ·rename_i c' d' cd' sl' ho
   intro A' Q' E' s' k q
   unfold isType loadHead
   exact wpAny_bind (wpAny_loadPart (k _ _ (X _ _ ho)) (wpAny_pure q))
  ·cases hcd
 ne:=fun h tp dd its n sl X htp=>by
  have hm:=T.mo
  unfold mroIn at hm
  obtain⟨cd,hcd⟩:∃cd,clsIn K C=some cd:=by
   cases q:clsIn K C with
   | none=>rw[q]at hm;cases hm
   | some cd=>exact⟨cd,rfl⟩
  refine Bool.eq_false_iff.mpr fun q=>?_
  have e:C=tp:=Value.ref.inj (beq_iff_eq.mp q)
  subst e
  unfold clsIn at hcd
  split at hcd
  ·rename_i c' d' cd' sl' ho
   have z:=(X _ _ ho).symm.trans htp
   cases z
  ·cases hcd
 ca:=fun{_ _ _ _ _ s} X ⟨_,_,hx,hc,_⟩ k=>by
  obtain⟨h,g,d,t,os⟩:=s
  exact a2e X T hx hc k
end PySem.W
namespace L2
open PySem PySem.Spec PyProof.Rows
abbrev TJ:=St→Hp→Str→(Str→Hp→Prop)→Prop
def vErr:List Value:=[.type "ValueError",.type "Exception",.type "BaseException",.type "object"]
theorem a9S{K:W.Frag}{h₀:Heap}{C:Addr}(KX:K.In h₀)(q:W.excIn K C vErr "ValueError.__new__" = true) :
  ∃bm N nm q bs hdct sn sub ab col dd k0 k1 k2 k3 k5 mN,h₀.get? C=some (excClassObj nm q C N bs bm hdct sn sub ab col dd k0 k1 k2 k3 k5 "ValueError.__new__")∧h₀.Ns N mN∧mN "__init__" = none∧OwnTail h₀ vErr bm:=by
 unfold W.excIn at q
 split at q
 ·rename_i dd cd sl ho
  split at q
  ·rename_i C' bm k0 k1 k2 k3 n k5 hm hs
   simp only[Bool.and_eq_true,beq_iff_eq,Bool.not_eq_true']at q
   obtain⟨⟨⟨⟨⟨rfl,rfl⟩,hdel⟩,ht⟩,hok⟩,hni⟩:=q
   obtain⟨nm,bs,mro,ns,qn,hd,sn,sub,ab,col,del⟩:=cd
   dsimp only at hm hdel hok hni
   subst hm hdel
   have hsl:sl = #[k0,k1,k2,k3,some (.builtin "ValueError.__new__"),k5]:=by
    obtain⟨l⟩:=sl
    simp only at hs
    rw[hs]
   subst hsl
   exact⟨bm,ns,nm,qn,bs,hd,sn,sub,ab,col,dd,k0,k1,k2,k3,k5,_,KX _ _ ho,.of_isNs (W.isNs_of_in KX hok),W.nsMap_none_of_in KX hok hni,W.tail_of_in KX ht⟩
  ·cases q
 ·cases q
section
variable {X:Cx}{E:XK}
theorem XAt.first{pins:List (Addr×Obj)}{σ:St}{H:Hp}{s:Shared}{h':Heap}{a:Addr}{cls:Value}{cx:Option Addr}{oe:Obj}{vs:Array Value}(I:Inv X pins σ H s)(k:∀b o,s.heap.get? b=some o→h'.get? b=some o)
  (n:s.heap.get? a=none) (g:h'.get? a=some oe) (hc:oe.cls=cls) (hd:oe.data=.fields vs) (z1:vs[1]? = some .none) (z2:vs[2]? = some (a0Z cx)) (z6:oe.dict=Z8 cx) :
  Inv X pins σ H { s with heap:=h' }∧XAt X pins H { s with heap:=h' } a cls cx (W.hideAll s.heap (A4 X.stack)) .new:=by
 have I':Inv X pins σ H { s with heap:=h' }:=I.kept (t':=s.toks) k
 have fr:H a=none:=by
  cases q:H a with
  | none=>rfl
  | some u=>obtain⟨o,e⟩:=(I.hok a u q).there;rw[n]at e;cases e
 refine⟨I',fr,fun b o e=>k b o (W.of_hideAll _ e),?_,(W.funFrames_hide I.stack fun env he b hb=>List.mem_filterMap.mpr ⟨env,he,hb⟩).of_keeps fun b o e _=>⟨o,k b o e,rfl⟩,fun b o e i n=>?_,⟨oe,vs,g,hc,hd,z1,z2,z6⟩⟩
 ·cases q:(W.hideAll s.heap (A4 X.stack)).get? a with
  | none=>rfl
  | some o=>have:=W.of_hideAll _ q;rw[n]at this;cases this
 ·obtain⟨o1,e1⟩:=i.there I
  have e2:=k _ _ e1
  rw[e]at e2;cases e2
  exact W.hideAll_get _ e1 n
theorem XAt.made{pins:List (Addr×Obj)}{σ:St}{H:Hp}{s:Shared}{h':Heap}{a:Addr}{cls:Value}{vs:List Value}(I:Inv X pins σ H s)(m:Heap.MadeExcOf s.heap h' a cls vs) :
  Inv X pins σ H { s with heap:=h' }∧XAt X pins H { s with heap:=h' } a cls none (W.hideAll s.heap (A4 X.stack)) .new:=by
 obtain⟨t,he,_,_⟩:=m.there
 exact XAt.first I m.keeps m.new he rfl rfl rfl rfl rfl
def a6l(C:Addr)(E:XK)(ta:TA):TS:=fun _ σ H=>ta σ H fun vs H1=>vs.length≤sizeLine∧E (.ref C) none H1
theorem a7R{x:Str}{C:Addr}{e₀:Expr}{i5:List Expr}{np cpos pos:Pos}{ta:TA}(acc:XAcc X E)(q:W.excIn X.K C vErr "ValueError.__new__" = true)(hg:Gl X x)(hm:X.mg x=some (.ref C))(ha:PA X (e₀::i5) ta)
  (hc:X.calm=true:=by rfl) (hex:X.ex=[]:=by rfl)
  (he:starEach (e₀::i5) X.env=(false,eval e₀ X.env)::starEach i5 X.env:=by rfl) (hplain:(backTo cpos (starEach i5 X.env)).any (·.1)=false:=by rfl) (hd:(x == ("__debug__" : Str))=false:=by decide) :
  PS X (.Raise (some (.Call (.Name x np) (e₀::i5) [] cpos)) none pos) (a6l C E ta):=by
 intro pins s σ H D I h
 obtain⟨tl,N,nm,qn,bs,hdct,sn,sub,ab,col,dd,k0,k1,k2,k3,k5,mN,hC,hN,hni,T⟩:=a9S I.mod.kin q
 have hp:=ha cpos pins s σ H _ I h
 rw[he]at hp
 refine wpAny_Raise_call_subT (C:=C) (nm:=nm) (q:=qn) (N:=N) (bs:=bs) (bm:=tl) (hdct:=hdct) (sn:=sn) (sub:=sub) (ab:=ab) (col:=col) (dd:=dd) (k0:=k0) (k1:=k1) (k2:=k2) (k3:=k3) (k5:=k5)
  PySem.F.excBase_ValueError (mN:=mN) (T.hasType PySem.F.excBase_ValueError.hasBase) (I.ok.hd hc) (by rw[he];show(false || (backTo cpos (starEach i5 X.env)).any (·.1))=false;rw[hplain];rfl) hni (J1 I hg hm ⟨rfl,?_⟩ hd)
 rw[he]
 refine Calls.evalArgs_plain (i6 hp fun us s2 ⟨vs,H2,I2,rv,z,hE⟩=>⟨rfl,by rw[← rv.length];exact z,I2.bk _ _ hC,hN.keeps I2.bk,T.keeps I2.bk,fun h' e m=>?_⟩)
 obtain⟨I3,x3⟩:=XAt.made I2 m
 exact acc pins σ H2 _ e _ none _ .new I3 x3 hE
end
def E1(a:Addr)(cls:Value)(cx:Option Addr):HO:=.ext fun h=>∃o vs,h.get? a=some o∧o.cls=cls∧o.data=.fields vs∧vs[2]? = some (a0Z cx)∧o.dict=Z8 cx
section
variable {X:Cx}{pins:List (Addr×Obj)}{σ:St}{H:Hp}{s:Shared}{a:Addr}{cls:Value}{cx:Option Addr}{B:Heap}{ph:Ph}
theorem XAt.nofr(x:XAt X pins H s a cls cx B ph):a ∉ A4 X.stack:=fun z=>by
 obtain⟨oe,vs,e,_,d,_⟩:=x.tr.there
 obtain⟨_,o,e',d'⟩:=x.frames.mem z
 rw[e]at e';cases e'
 exact d' vs d
theorem XAt.noimp(x:XAt X pins H s a cls cx B ph):¬Imp X pins H a:=fun i=>by
 obtain⟨oe,vs,e,_,d,_⟩:=x.tr.there
 have:=x.cov a oe e i x.nofr
 rw[x.fresh]at this;cases this
theorem Inv.track(I:Inv X pins σ H s)(x:XAt X pins H s a cls cx B ph):Inv X pins σ (upd H a (E1 a cls cx)) s:=by
 obtain⟨oe,vs,e,hc,d,d2⟩:=x.tr.there
 have ni:=x.noimp
 refine⟨I.ok,I.os,I.bare,⟨I.base.keep,I.base.slot,fun b o e1 n hx=>?_,I.base.there,fun b xs q=>?_,fun b o u q=>?_,fun b ps q=>?_⟩,I.loc,I.cell,?_,fun y c q=>?_,fun p hp=>?_,fun b u q=>?_,I.len⟩
 ·rw[d5 (fun z=>ni (.inr (.inl ⟨by rw[← z];exact hx,o,by rw[← z];exact e1⟩)))]
  exact I.base.free b o e1 n hx
 ·have q1:=I.base.tups b xs q
  rw[d5 (g9 q1 x.free)];exact q1
 ·have q1:=I.base.frzs b o u q
  rw[d5 (g9 q1 x.free)];exact q1
 ·obtain⟨more,q1⟩:=I.base.tbls b ps q
  exact⟨more,by rw[d5 (g9 q1 x.free)];exact q1⟩
 ·rw[d5 fun z=>?_]
  ·exact I.free
  ·obtain⟨m,⟨o,es,ep,ho,hd,_⟩,_⟩:=I.loc
   rw[z,e]at ho;cases ho
   rw[d]at hd;cases hd
 ·rw[d5 fun z=>?_]
  ·exact I.freeC y c q
  ·obtain⟨v,o,ho,hd⟩:=I.cell y c q
   rw[z,e]at ho;cases ho
   rw[d]at hd;cases hd
 ·obtain⟨h1,h2,h3,h4,h5⟩:=I.pin p hp
  exact⟨h1,by rw[d5 (fun z=>ni (.inr (.inr ⟨p,hp,z⟩)))];exact h2,h3,h4,h5⟩
 ·by_cases hb:b=a
  ·subst hb
   rw[i0]at q;cases q
   exact⟨⟨oe,vs,e,hc,d,d2⟩,⟨oe,e⟩,fun h1 h2 ⟨o,ws,z1,z2,z3⟩ k=>⟨o,ws,k o z1,z2,z3⟩⟩
  ·rw[d5 hb]at q
   refine(I.hok b u q).stay (fun _ _ _ z=>z) (fun c z=>?_) (fun c xs z=>?_) fun c ob u z=>?_
   ·rw[d5 (g9 z x.free)];exact z
   ·rw[d5 (g9 z x.free)];exact z
   ·rw[d5 (g9 z x.free)];exact z
end
abbrev Cx.tryCx(X:Cx)(E2:Value→Shared→Prop)(pins:List (Addr×Obj)):Cx:={ X with xe:=E2,pn:=X.pn++pins }
abbrev Cx.inExc(X:Cx)(a:Addr):Cx:={ X with A:=X.A.mark (some (.ref a)),calm:=false }
def S5(n:Nat):St:=List.replicate n none
section
variable {X:Cx}{pins:List (Addr×Obj)}{σ:St}{H:Hp}{s:Shared}{a:Addr}{E2:Value→Shared→Prop}
theorem Cx.Ok.tryCx(ok:X.Ok):(X.tryCx E2 pins).Ok:=⟨ok.mod,ok.kind,ok.glob,ok.blt,ok.above,ok.inj,ok.has,ok.cab,ok.hd,ok.frames,ok.stk,ok.exf,ok.bs,ok.bsz,ok.noex,ok.exfs,ok.funs,ok.frf⟩
theorem Cx.Ok.inExc(ok:X.Ok):(X.inExc a).Ok:=⟨ok.mod,ok.kind,ok.glob,ok.blt,ok.above,ok.inj,ok.has,ok.cab,(fun z=>nomatch z),ok.frames,ok.stk,ok.exf,ok.bs,ok.bsz,ok.noex,ok.exfs,ok.funs,ok.frf⟩
theorem Inv.toTry(I:Inv X pins σ H s):Inv (X.tryCx E2 pins) [] σ H s :=
 ⟨I.ok.tryCx,I.os,I.bare,I.base,I.loc,I.cell,I.free,I.freeC,fun p hp=>I.pin p (by rw[List.append_nil]at hp;exact hp),I.hok,I.len⟩
theorem Inv.ofTry{pins':List (Addr×Obj)}(ok:X.Ok)(I:Inv (X.tryCx E2 pins) pins' σ H s):Inv X pins σ H s :=
 ⟨ok,I.os,I.bare,I.base,I.loc,I.cell,I.free,I.freeC,fun p hp=>I.pin p (List.mem_append_left _ hp),I.hok,I.len⟩
theorem Inv.toExc(I:Inv X pins σ H s):Inv (X.inExc a) pins σ H s :=
 ⟨I.ok.inExc,I.os,I.bare,I.base,I.loc,I.cell,I.free,I.freeC,I.pin,I.hok,I.len⟩
theorem Inv.ofExc(ok:X.Ok)(I:Inv (X.inExc a) pins σ H s):Inv X pins σ H s :=
 ⟨ok,I.os,I.bare,I.base,I.loc,I.cell,I.free,I.freeC,I.pin,I.hok,I.len⟩
theorem Inv.forget(I:Inv X pins σ H s):Inv X pins (S5 X.N.length) H s:=I.weak (by unfold S5;rw[List.length_replicate,I.len]) fun i v q=>by
 unfold S5 at q
 rw[List.getElem?_replicate]at q
 split at q<;>cases q
theorem SP.ofTry{pins':List (Addr×Obj)}{D:Ends}{f:Flow}{s':Shared}(ok:X.Ok)(h:SP (X.tryCx E2 pins) pins' D f s'):SP X pins D f s':=by
 cases f with
 | next=>obtain⟨σ',H',I,q⟩:=h;exact⟨σ',H',I.ofTry ok,q⟩
 | brk=>obtain⟨σ',H',I,q⟩:=h;exact⟨σ',H',I.ofTry ok,q⟩
 | cont=>obtain⟨σ',H',I,q⟩:=h;exact⟨σ',H',I.ofTry ok,q⟩
 | ret u=>obtain⟨v,σ',H',I,r,q⟩:=h;exact⟨v,σ',H',I.ofTry ok,r,q⟩
theorem SP.ofExc{D:Ends}{f:Flow}{s':Shared}(ok:X.Ok)(h:SP (X.inExc a) pins D f s'):SP X pins D f s':=by
 cases f with
 | next=>obtain⟨σ',H',I,q⟩:=h;exact⟨σ',H',I.ofExc ok,q⟩
 | brk=>obtain⟨σ',H',I,q⟩:=h;exact⟨σ',H',I.ofExc ok,q⟩
 | cont=>obtain⟨σ',H',I,q⟩:=h;exact⟨σ',H',I.ofExc ok,q⟩
 | ret u=>obtain⟨v,σ',H',I,r,q⟩:=h;exact⟨v,σ',H',I.ofExc ok,r,q⟩
theorem XAcc.inExc{E:XK}{a:Addr}(acc:XAcc X E)(ok:X.Ok):XAcc (X.inExc a) E:=fun pins σ H s b cls cx B ph I x e=>acc pins σ H s b cls cx B ph (I.ofExc ok) ⟨x.free,x.stays,x.fresh,x.frames,x.cov,x.tr⟩ e
end
section
variable {X:Cx}{pins:List (Addr×Obj)}{σ:St}{H:Hp}{s:Shared}{a:Addr}{E2:Value→Shared→Prop}
theorem Inv.nameGoes{M:Model}{A:Around}{E:Value→Shared→Prop}{n:Str}{i:Nat}{pos:Pos}{Q:Unit→Shared→Prop}(I:Inv X pins σ H s)(hN:X.N.Nodup)(hi:X.N[i]? = some n)(hl:X.env.scope.names.lookup n=some .local)
  (h:∀h',Inv X pins (σ.set i none) H { s with heap:=h',toks:=s.toks+1 }→Q () { s with heap:=h',toks:=s.toks+1 }):wpAny M A (do bindName X.env n .none;unbindBehindTheSuite X.env n pos) Q E s:=by
 obtain⟨m,hn,hlo⟩:=id I.loc
 have hcls:(X.env.scope.kind == .class || (X.env.scope.kind == .module && X.env.locals != X.env.globals))=false:=by rw[I.ok.kind];rfl
 refine wpAny_nameGoes_keeps hl hn hcls fun h' v hn' hs=>h h' ?_
 obtain⟨oL,_,_,hoL,_⟩:=id hn
 have cne:=I.cne
 have neL:∀b o,X.s₀.heap.get? b=some o→b≠X.env.locals:=fun b o e=>Nat.ne_of_lt (Nat.lt_of_lt_of_le (Heap.lt_size e) I.ok.above)
 refine⟨I.ok,I.os,I.bare,⟨fun b o e k hb hx=>(hs.2 b (neL b o e)).trans (I.base.keep b o e k hb hx),fun b o e k hb hx=>?_,I.base.free,fun b o e hx=>?_,I.base.tups,I.base.frzs,I.base.tbls⟩,⟨_,hn',fun j y v' e1 e2 e3=>?_⟩,fun y c e=>?_,I.free,I.freeC,fun p hp=>?_,?_,by simpa using I.len⟩
 ·obtain⟨sl,e1⟩:=I.base.slot b o e k hb hx
  exact⟨sl,(hs.2 b (neL b o e)).trans e1⟩
 ·obtain⟨o',e1⟩:=I.base.there b o e hx
  exact⟨o',(hs.2 b (neL b o e)).trans e1⟩
 ·by_cases hj:j=i
  ·subst hj
   by_cases hlt:j<σ.length
   ·rw[List.getElem?_set_self hlt]at e2;cases e2
   ·rw[List.getElem?_eq_none (by rw[List.length_set];omega)]at e2;cases e2
  ·rw[List.getElem?_set_ne (Ne.symm hj)]at e2
   obtain⟨u',r',q⟩:=hlo j y v' e1 e2 e3
   refine⟨u',r',?_⟩
   rcases q with⟨k,e⟩ | ⟨k,c,e,z⟩
   ·refine .inl ⟨k,?_⟩
    have:y≠n:=fun e=>hj (a0X hN e1 (e▸hi))
    simp[this,e]
   ·exact .inr ⟨k,c,e,z.sameBut hs (cne y c e)⟩
 ·obtain⟨w',z⟩:=I.cell y c e
  exact⟨w',z.sameBut hs (cne y c e)⟩
 ·obtain⟨e,n',ne,nf,d⟩:=I.pin p hp
  exact⟨(hs.2 p.1 ne).trans e,n',ne,nf,d⟩
 ·intro b ob e
  refine(I.hok b ob e).stay (fun c w' hc q=>(hs.2 c ?_).trans q) (fun _ q=>q) (fun _ _ q=>q) fun _ _ _ q=>q
  rintro rfl
  rcases hc with rfl | hc
  ·rw[I.free]at e;cases e
  ·rw[I.free]at hc;cases hc
end
theorem t6{X:Cx}{P:Program}{w:World}:J7 (n4 P w) X E0:=fun _ _ _ _ _ _ _ h=>by
 obtain⟨_,_,_,_,_,_,_,_,_,_,_,_,_,_,_,_,hE⟩:=h
 exact hE.elim
section
variable {P:Program}{w:World}{K:W.Frag}{mg:Str→Option Value}{base:Heap}
theorem Fun.okE{x qual:Str}{st:Stmt}{f:Addr}{fd:FuncData}{N ps:List Str}{k:Nat}{sp:Sp}(F:Fun K x qual st f fd)(S:FnScope N ps (b9 st))(len:∀vs H Q E,sp vs H Q E→vs.length=ps.length)
  (hbody:∀(cdv:Value) (A:Around) (outer:List Env) (s:Shared) (H:Hp) (vs:List V) (Q:VK) (E:XK),Room k (A.deeper (envOfC qual (b9 st) s.heap.objs.size f cdv))→sp vs H Q E →
   ∃t,PSs (G9 (n4 P w) P w K mg base N qual (b9 st) f cdv A outer s H E) (i4 st) t∧t { nx:=fun _ H'=>Q .non H',rt:=Q } (start N vs) H):FnOk P w K mg base (n4 P w) (k+1) f fd ps sp:=by
 obtain⟨oc,od,kV,doc,pm,an,cdv,ct,osl,rfl,lk,hcd⟩:=F.ex
 exact a1k lk hcd S len fun A outer s H vs Q E hr hsp=>hbody cdv A outer s H vs Q E hr hsp
structure FunD(K:W.Frag)(x qual:Str)(st:Stmt)(dT:Addr)(f:Addr)(fd:FuncData):Prop where
 ex:∃(oc:Value) (od:Option Addr) (kV doc pm:Value) (an:Option Addr) (cdv ct:Value) (osl:Array (Option Value)),
  fd=W.fnOf x qual (j6 st) (i4 st) (b9 st) (.ref dT) kV doc pm an cdv ct∧K.lookup f=some ⟨oc,od,.func fd,osl⟩∧W.codeIn K cdv qual=true
 kp:W.keepIn K (.ref f)=true
theorem a9T{x qual:Str}{st:Stmt}{dT f:Addr}{oc:Value}{od an:Option Addr}{osl:Array (Option Value)}{kV doc pm cdv ct:Value}(l:K.lookup f=some ⟨oc,od,.func (W.fnOf x qual (j6 st) (i4 st) (b9 st) (.ref dT) kV doc pm an cdv ct),osl⟩)
  (c:W.codeIn K cdv qual=true) (k:W.keepIn K (.ref f)=true):FunD K x qual st dT f (W.fnOf x qual (j6 st) (i4 st) (b9 st) (.ref dT) kV doc pm an cdv ct):=⟨⟨oc,od,kV,doc,pm,an,cdv,ct,osl,rfl,l,c⟩,k⟩
theorem FunD.okE{x qual:Str}{st:Stmt}{dT f:Addr}{fd:FuncData}{N ps:List Str}{k:Nat}{sp:Sp}(F:FunD K x qual st dT f fd)(S:FnScope N ps (b9 st))(len:∀vs H Q E,sp vs H Q E→vs.length=ps.length)
  (hbody:∀(cdv:Value) (A:Around) (outer:List Env) (s:Shared) (H:Hp) (vs:List V) (Q:VK) (E:XK),Room k (A.deeper (envOfC qual (b9 st) s.heap.objs.size f cdv))→sp vs H Q E →
   ∃t,PSs (G9 (n4 P w) P w K mg base N qual (b9 st) f cdv A outer s H E) (i4 st) t∧t { nx:=fun _ H'=>Q .non H',rt:=Q } (start N vs) H):FnOk P w K mg base (n4 P w) (k+1) f fd ps sp:=by
 obtain⟨oc,od,kV,doc,pm,an,cdv,ct,osl,rfl,lk,hcd⟩:=F.ex
 exact a1k lk hcd S len fun A outer s H vs Q E hr hsp=>hbody cdv A outer s H vs Q E hr hsp
theorem FunD.binds{x qual:Str}{st:Stmt}{dT f:Addr}{fd:FuncData}{ps:List Str}{ds:List Value}{items:List Value}{o:Obj}{nn:Nat}(F:FunD K x qual st dT f fd)(ho:K.lookup dT=some o)(hs:o.data=.seq items.toArray nn)
  (h:∀(kV doc pm:Value) (an:Option Addr) (cdv ct:Value) (us:List Value),(us++ds).length=ps.length→∃k:Option (Array Value)→Sem (List (Str×Value)),
   bindArgs (W.fnOf x qual (j6 st) (i4 st) (b9 st) (.ref dT) kV doc pm an cdv ct) ⟨us,[]⟩=seqItems? (.ref dT) >>= k∧k (some items.toArray)=pure (ps.zip (us++ds))):Binds K fd ps ds:=by
 obtain⟨oc,od,kV,doc,pm,an,cdv,ct,osl,rfl,lk,hcd⟩:=F.ex
 intro s us KX hl
 obtain⟨k,h1,h2⟩:=h kV doc pm an cdv ct us hl
 exact W.binds_K KX rfl ho hs h1 h2
end
structure RoomW(k:Nat)(A:Around):Prop where
 dp:A.depth+3*k+5<recursionLimit
 un:A.units+16*k+200<cLine
theorem Room.w{k:Nat}{A:Around}(r:Room k A)(h:Option Value):RoomW k (A.mark h):=⟨r.dp,r.un⟩
theorem RoomW.deeper{k:Nat}{A:Around}(r:RoomW (k+1) A)(env:Env):RoomW k (A.deeper env) :=
 ⟨by have:=r.dp;show A.depth+1+3*k+5<_;omega,by have:=r.un;show A.units+3+16*k+200<_;omega⟩
structure FnOkW(P:Program)(w:World)(K:W.Frag)(mg:Str→Option Value)(base:Heap)(k:Nat)(f:Addr)(fd:FuncData)(ps:List Str)(sp:Sp):Prop where
 len:∀vs H Q E,sp vs H Q E→vs.length=ps.length
 run:∀(A:Around) (outer:List Env) (s:Shared) (H:Hp) (args:Args) (us:List Value) (vs:List V) (Q:VK),RoomW k A→Env0 P w K mg base A outer s H→BindsTo s fd args (ps.zip us)→Vals vs us→sp vs H Q E0 →
  codeAny (model P w) A (.call (.ref f) args) (CR CX0 outer P w H s Q E0) s
abbrev a1q(P:Program)(w:World)(K:W.Frag)(mg:Str→Option Value)(base:Heap)(N:List Str)(qual:Str)(scope:Scope)(f:Addr)(cd:Value)(A:Around)(outer:List Env)(s:Shared)(H:Hp):Cx :=
 { G9 CX0 P w K mg base N qual scope f cd A outer s H E0 with calm:=false,xe:=fun _ _=>False }
theorem a5x{P:Program}{w:World}{K:W.Frag}{mg:Str→Option Value}{base:Heap}{N ps:List Str}{qual:Str}{scope:Scope}{f:Addr}{cd:Value}{A:Around}{outer:List Env}{s s1:Shared}{H:Hp}{us:List Value}{vs:List V}
  (S:FnScope N ps scope) (e0:Env0 P w K mg base A outer s H) (hl:vs.length=ps.length) (r:Vals vs us)
  (x:InCallC s s.heap.objs.size (bindL (envOfC qual scope s.heap.objs.size f cd).kindOf (ps.zip us) fun _=>none) (cellsFrom (s.heap.objs.size+1) scope.names []) (bindC (envOfC qual scope s.heap.objs.size f cd).kindOf (ps.zip us) fun _=>none) s1) :
  Inv (a1q P w K mg base N qual scope f cd A outer s H) [] (start N vs) H s1:=by
 have hpl:ps.length≤N.length:=by have:=congrArg List.length S.pre;rw[List.length_take]at this;omega
 obtain⟨h1,tk,rfl,hk⟩:=x.done
 have noA:∀b:Addr,b ∉ (a1q P w K mg base N qual scope f cd A outer s H).ex:=fun b z=>absurd (show b∈([]:List Addr)from z) (by simp)
 refine⟨⟨e0.mod,S.kind,rfl,rfl,Nat.le_refl _,fun y z c h1 h2=>?_,fun y hy=>?_,fun y c _ h=>?_,(fun z=>nomatch z),Around.frames_deeper e0.frames,.inr ⟨rfl,rfl⟩,fun b z=>absurd z (noA b),e0.bs,e0.bsz,fun b _ _=>noA b,fun b z=>absurd z (noA b),e0.funs,e0.frf⟩,
  rfl,e0.bare,Un.kept hk,⟨_,x.toInCall.ns,fun i y v h1 h2 h3=>?_⟩,fun y c h=>⟨_,x.cell y c h⟩,e0.hok.fresh (Nat.le_refl _),fun y c h=>?_,fun p hp=>absurd (show p∈([]:List (Addr×Obj))from hp) (by simp),e0.hok.kept hk,?_⟩
 ·exact name_of_addr x.apart (PySem.mem_of_lookup h1) (PySem.mem_of_lookup h2)
 ·have hy:scope.names.lookup y=some .cell∨scope.names.lookup y=some .free:=hy
  rcases hy with hy | hy
  ·exact V8 hy
  ·exact absurd rfl (S.nofree _ (PySem.mem_of_lookup hy))
 ·exact Nat.le_of_lt (x.above y c (PySem.mem_of_lookup h))
 ·have hi:i<vs.length:=by
   unfold start at h2
   by_cases hi:i<vs.length
   ·exact hi
   ·rw[List.getElem?_append_right (by simpa using hi)]at h2
    rw[List.getElem?_replicate]at h2
    split at h2<;>cases h2
  have ha:vs[i]? = some v:=by
   unfold start at h2
   rw[List.getElem?_append_left (by simpa using hi),List.getElem?_map]at h2
   cases e:vs[i]? with
   | none=>rw[e]at h2;cases h2
   | some a=>rw[e]at h2;cases h2;rfl
  obtain⟨u,hu,rv⟩:=r.get ha
  have hp:ps[i]? = some y:=by
   rw[← S.pre,List.getElem?_take_of_lt (by omega)];exact h1
  have ndP:ps.Nodup:=by rw[← S.pre];exact S.nd.sublist (List.take_sublist _ _)
  refine⟨u,rv,?_⟩
  rcases S.par y (List.mem_of_getElem? hp)with k | k
  ·exact .inl ⟨k,Z4 ndP hp hu k⟩
  ·obtain⟨c,e⟩:=V8 (n:=s.heap.objs.size+1) k
   refine .inr ⟨.inl k,c,e,?_⟩
   have q:=x.cell y c e
   rw[Z5 ndP hp hu (by show scope.names.lookup y≠_;rw[k];decide)]at q
   exact q
 ·exact e0.hok.fresh (Nat.le_of_lt (x.above y c (PySem.mem_of_lookup h)))
 ·unfold start
  show _=N.length
  rw[List.length_append,List.length_map,List.length_replicate]
  omega
section
variable {P:Program}{w:World}{K:W.Frag}{mg:Str→Option Value}{base:Heap}
theorem Fun.okW{x qual:Str}{st:Stmt}{f:Addr}{fd:FuncData}{N ps:List Str}{k:Nat}{sp:Sp}(F:Fun K x qual st f fd)(S:FnScope N ps (b9 st))(len:∀vs H Q E,sp vs H Q E→vs.length=ps.length)
  (hbody:∀(cdv:Value) (A:Around) (outer:List Env) (s:Shared) (H:Hp) (vs:List V) (Q:VK),RoomW k (A.deeper (envOfC qual (b9 st) s.heap.objs.size f cdv))→sp vs H Q E0 →
   ∃t,PSs (a1q P w K mg base N qual (b9 st) f cdv A outer s H) (i4 st) t∧t { nx:=fun _ H'=>Q .non H',rt:=Q } (start N vs) H):FnOkW P w K mg base (k+1) f fd ps sp:=by
 obtain⟨oc,od,kV,doc,pm,an,cdv,ct,osl,rfl,lk,hcd⟩:=F.ex
 refine⟨len,fun A outer s H args us vs Q hr e0 hb r hsp=>?_⟩
 have hl:=len _ _ _ _ hsp
 have KX:K.In s.heap:=e0.mod.kin.keeps fun b o e=>(e0.bs b o e).1
 have lim:s.heap.NoLimit:=e0.mod.nolimit.keeps fun b o e=>(e0.bs b o e).1
 have hkind:∀y∈ps.zip us,(b9 st).names.lookup y.1=some .local∨((b9 st).names.lookup y.1=some .cell∧((cellsFrom (s.heap.objs.size+1) (b9 st).names []).lookup y.1).isSome=true):=fun⟨n,v⟩ hy=>by
  rcases S.par n (List.of_mem_zip hy).1 with q | q
  ·exact .inl q
  ·exact .inr ⟨q,W.cellsFrom_some _ _ _ (.inl q)⟩
 refine codeAny_call_function (by have:=hr.dp;omega) (KX _ _ lk) rfl S.co S.gen rfl (W.codeRec_of KX hcd) (hb _ _ _ _ ?_)
 refine wpAny_newFunctionEnv_cells S.kind hkind fun env he s1 x=>?_
 subst he
 refine⟨lim.keeps x.toInCall.keep,codeAny_func ?_⟩
 obtain⟨t,ht,hq⟩:=hbody cdv A outer s H vs Q (hr.deeper _) hsp
 have I:=a5x S e0 hl r x
 refine wpAny_mono (ht [] s1 (start N vs) H _ I hq) (fun fl s' hs=>?_) fun e s' hs=>hs.elim
 have fin:∀{σ':St} {H':Hp} {v:V} {u:Value},Inv (a1q P w K mg base N qual (b9 st) f cdv A outer s H) [] σ' H' s'→RelV v u→Q v H'→CE outer P w H s Q u s' :=
  fun{σ' H' v u} J rv q=>⟨v,H',J.os,J.bare,J.base,J.hok,rv,q⟩
 cases fl with
 | ret u =>
  obtain⟨v,σ',H',J,rv,q⟩:=hs
  exact fin J rv q
 | next =>
  obtain⟨σ',H',J,q⟩:=hs
  exact fin (v:=V.non) (u:=Value.none) J rfl q
 | brk =>
  obtain⟨_,_,_,q⟩:=hs
  exact False.elim q
 | cont =>
  obtain⟨_,_,_,q⟩:=hs
  exact False.elim q
end
section
variable {X:Cx}{k:Nat}{f:Addr}{fd:FuncData}{ps:List Str}{sp:Sp}{x:Str}{p pos:Pos}{e:Expr}{es:List Expr}{t:TA}
def a1r(sp:Sp)(t:TA):TE:=fun σ H Q=>t σ H fun vs H1=>sp vs H1 Q E0
theorem a7S(F:FnOkW X.prog X.w X.K X.mg X.base k f fd ps sp)(hr:RoomW k X.A)(hg:Gl X x)(hm:X.mg x=some (.ref f))(hk:W.keepIn X.K (.ref f)=true)(hb:Binds X.K fd ps [])
  (ha:PA X (e::es) t) (hdb:(x == ("__debug__" : Str))=false:=by decide) (he:starEach (e::es) X.env=(false,eval e X.env)::starEach es X.env:=by rfl) (hp:(backTo pos (starEach es X.env)).any (·.1)=false:=by rfl) :
  PE X (.Call (.Name x p) (e::es) [] pos) (a1r sp t):=by
 intro pins s σ H Q I hq
 refine wpAny_Call_Name_kw (J1 I hg hm ?_ hdb)
 refine W.callWith_K (h₀:=X.base) I.ok.mod.kin hk (i6 (ha pos pins s σ H _ I hq) fun us s1 ⟨vs,H1,I1,r,q⟩=>⟨I1.kIn,?_⟩) he hp
 have hl:us.length=ps.length:=by rw[← r.length];exact F.len _ _ _ _ q
 have hl':(us++([]:List Value)).length=ps.length:=by rw[List.append_nil];exact hl
 refine wpAny_call (codeAny_mono (F.run X.A X.stack s1 H1 ⟨us,[]⟩ us vs Q hr I1.env0 (by have:=hb s1 us I1.kIn hl';rw[List.append_nil]at this;exact this) r q) fun r s' hq=>?_)
 cases r with
 | error e=>exact False.elim hq
 | ok fl =>
  cases fl with
  | ret u=>exact I1.after hq
  | next=>exact False.elim hq
  | brk=>exact False.elim hq
  | cont=>exact False.elim hq
end
def a00:V→Option Value
 | .ty n=>some (.type n)
 | .ref a=>some (.ref a)
 | _=>none
theorem a4J{y:V}{c u:Value}(e:a00 y=some c)(r:RelV y u):u=c:=by
 cases y with
 | ty n=>cases e;exact r
 | ref a=>cases e;exact r
 | _=>cases e
theorem a3C:∀{ys:List V} {cs us:List Value},ys.mapM a00=some cs→Vals ys us→us=cs
 | [],cs,_,e,.nil=>by cases e;rfl
 | y::ys,cs,u::us,e,.cons r t=>by
  rw[List.mapM_cons]at e
  cases h1:a00 y with
  | none=>rw[h1]at e;cases e
  | some c =>
   cases h2:ys.mapM a00 with
   | none=>rw[h1,h2]at e;cases e
   | some cr =>
    rw[h1,h2]at e
    have e':c::cr=cs:=Option.some.inj e
    subst e'
    rw[a4J h1 r,a3C h2 t]
inductive TyX(K:W.Frag)(H:Hp):V→Value→Prop where
 | of {x:V} {t:Value} (h:TyOf K H x t):TyX K H x t
 | exc {a C:Addr} {cx:Option Addr} (h:H a=some (E1 a (.ref C) cx)) (T:W.ExcT K C):TyX K H (.ref a) (.ref C)
section
variable {X:Cx}{pins:List (Addr×Obj)}{σ:St}{H:Hp}{s:Shared}{A:Around}{E:Value→Shared→Prop}{Q:Value→Shared→Prop}
theorem TyX.kit{x:V}{u t:Value}(I:Inv X pins σ H s)(rx:RelV x u)(ty:TyX X.K H x t):∃Φ:Heap→Prop,W.KitX X.K u t Φ∧Φ s.heap∧u≠.builtin "__main__.__loader__#opaque" := by
 cases ty with
 | @exc a C cx h T =>
  cases (show u=Value.ref a from rx)
  obtain⟨⟨o,vs,h1,h2,h3,_⟩,_⟩:=(show ObjOk X.prog X.w H s.heap a (E1 a (.ref C) cx)from I.hok a _ h)
  exact⟨_,W.kitx_exc T,⟨o,vs,h1,h2,h3⟩,fun z=>nomatch z⟩
 | of h =>
 cases h with
 | non=>cases (show u=Value.none from rx);exact⟨_,W.kitx_none,True.intro,fun z=>nomatch z⟩
 | bl y=>cases (show u=Value.bool y from rx);exact⟨_,W.kitx_bool,True.intro,fun z=>nomatch z⟩
 | int i=>obtain⟨t,q⟩:=(show ∃t,u=Value.int i t from rx);cases q;exact⟨_,W.kitx_int,True.intro,fun z=>nomatch z⟩
 | str y=>obtain⟨t,q⟩:=(show ∃t,u=Value.str y t from rx);cases q;exact⟨_,W.kitx_str,True.intro,fun z=>nomatch z⟩
 | flt y=>obtain⟨t,q⟩:=(show ∃t,u=Value.float y t from rx);cases q;exact⟨_,W.kitx_float,True.intro,fun z=>nomatch z⟩
 | @lst a xs ea =>
  cases (show u=Value.ref a from rx)
  obtain⟨_,_,n,_,h1⟩:=(show ObjOk X.prog X.w H s.heap a (.lst xs)from I.hok a _ ea)
  exact⟨_,W.kitx_list,⟨_,h1,rfl⟩,fun z=>nomatch z⟩
 | @frz a ob xs ea =>
  cases (show u=Value.ref a from rx)
  obtain⟨_,_,_,n,_,h1⟩:=(show ObjOk X.prog X.w H s.heap a (.frz ob (.lst xs))from I.hok a _ ea)
  exact⟨_,W.kitx_list,⟨_,h1,rfl⟩,fun z=>nomatch z⟩
 | @tup a xs ea =>
  cases (show u=Value.ref a from rx)
  obtain⟨_,_,_,p⟩:=(show ObjOk X.prog X.w H s.heap a (.tup xs)from I.hok a _ ea)
  obtain⟨o,h1,h2,_⟩:=p
  exact⟨_,W.kitx_tuple,⟨o,h1,h2⟩,fun z=>nomatch z⟩
 | @dK a kvs ea =>
  cases (show u=Value.ref a from rx)
  obtain⟨_,_,vs,_,p⟩:=(show ObjOk X.prog X.w H s.heap a (.dK kvs)from I.hok a _ ea)
  obtain⟨o,es,ep,h1,h2,_⟩:=p
  exact⟨_,W.kitx_dict,⟨o,h1,h2.1⟩,fun z=>nomatch z⟩
 | @dT a kvs ea =>
  cases (show u=Value.ref a from rx)
  obtain⟨_,_,xs,_,o,es,ep,h1,h2,_⟩:=(show ObjOk X.prog X.w H s.heap a (.dT kvs)from I.hok a _ ea)
  exact⟨_,W.kitx_dict,⟨o,h1,h2.1⟩,fun z=>nomatch z⟩
 | @ins a C dx fs ea cl ha hn htk hm =>
  cases (show u=Value.ref a from rx)
  obtain⟨mA,O,_⟩:=a4E I.hok ea
  obtain⟨od,J,_⟩:=O.look
  exact⟨_,W.kitx_own (cl.get _) cl.hd ha hn htk hm,J,fun z=>nomatch z⟩
def a3D(K:W.Frag):List V→Hp→VK→Prop:=fun xs H Q=>∃x y t c b,xs=[x,y]∧a00 y=some c∧TyX K H x t∧W.kitOne K t c=some b∧Q (.bl b) H
theorem a7T:CallR X (.builtin "isinstance") (a3D X.K):=by
 intro pins s σ H xs us Q I r h
 obtain⟨x,y,t,c,b,rfl,e1,e2,e3,q⟩:=h
 obtain⟨u,v,rfl,r1,r2⟩:=a5p r
 obtain rfl:=a4J e1 r2
 obtain⟨Φ,Z,p,n⟩:=e2.kit I r1
 exact W.kia_one Z I.kIn p e3 n fun tk=>⟨.bl b,H,I.tok _,rfl,q⟩
def a5y(K:W.Frag):List V→Hp→VK→Prop:=fun xs H Q=>∃x p ys t cs b,xs=[x,.ref p]∧H p=some (.tup ys)∧ys.mapM a00=some cs∧TyX K H x t∧W.kitAny K t cs=some b∧Q (.bl b) H
theorem a6m:CallR X (.builtin "isinstance") (a5y X.K):=by
 intro pins s σ H xs us Q I r h
 obtain⟨x,p,ys,t,cs,b,rfl,e0,e1,e2,e3,q⟩:=h
 obtain⟨u,v,rfl,r1,r2⟩:=a5p r
 cases (show v=Value.ref p from r2)
 obtain⟨_,its,rv,o,ho,hc,n,hd⟩:=(show ObjOk X.prog X.w H s.heap p (.tup ys)from I.hok p _ e0)
 obtain rfl:=a3C e1 rv
 obtain⟨Φ,Z,pp,nn⟩:=e2.kit I r1
 obtain⟨oc,od,oda,osl⟩:=o
 dsimp only at hc hd
 subst hc hd
 exact W.kia_tup Z I.kIn pp ho e3 nn fun tk=>⟨.bl b,H,I.tok _,rfl,q⟩
end
def a7U:List V→List V→Bool
 | [],[]=>true
 | x::xs,y::ys=>eqV x y && a7U xs ys
 | _,_=>false
section
variable {X:Cx}{pins:List (Addr×Obj)}{σ:St}{H:Hp}{s:Shared}
theorem y9:OpR X (binaryOp .FloorDiv) (rI (fun _ j=>0<j∧j.natAbs.log2<9000) fun i j=>.int (i/j)):=opI fun i j _ _ _ _ _ hc q=>by
 have h0:j≠0:=by have:=hc.1;omega
 refine floordiv_int h0 ?_ (.inl (PyProof.noPylong_of_log2 hc.2))
 rw[Int.fdiv_eq_ediv_of_nonneg _ (Int.le_of_lt hc.1)]
 exact q
end
open PySem.W PySem.Calls
theorem a4m{ns:List Int}(h:WData.layableAll [WData.list (ns.map WData.int)]=true):∀n∈ns,Builtin.Int.intBits n≤2 ^ 20:=fun n hn=>by
 have h1:(WData.list (ns.map WData.int)).layable=true:=layableW_arg h _ (List.mem_singleton.mpr rfl)
 have h2:=layableW_item h1 (WData.int n) (List.mem_map.mpr ⟨n,hn,rfl⟩)
 have h3:=(layableW_iff.mp h2).2.2
 simpa only[WData.weight,Builtin.Int.intBits]using h3
theorem b2_{P:Program}{w:World}{outer:List Env}(H:Hp)(s:Shared)(e:Value)(s':Shared)(h:n4 P w outer H s (fun _ _ _=>False) e s'):False:=by
 obtain⟨_,_,_,_,_,_,_,_,_,_,_,_,_,_,_,_,hE⟩:=h
 exact hE
structure Own(P:Program)(w:World)(K:W.Frag)(mg:Str→Option Value)(base:Heap)(k:Nat)(x:Str)(ps:List Str)(sp:Sp):Prop where
 ex:∃f fd,FnOk P w K mg base (n4 P w) k f fd ps sp∧Binds K fd ps []∧W.keepIn K (.ref f)=true∧mg x=some (.ref f)
structure OwnD(P:Program)(w:World)(K:W.Frag)(mg:Str→Option Value)(base:Heap)(k:Nat)(x:Str)(ps:List Str)(sp:Sp)(d:V):Prop where
 ex:∃f fd du,FnOk P w K mg base (n4 P w) k f fd ps sp∧Binds K fd ps []∧Binds K fd ps [du]∧RelV d du∧W.keepIn K (.ref f)=true∧mg x=some (.ref f)
structure OwnW(P:Program)(w:World)(K:W.Frag)(mg:Str→Option Value)(base:Heap)(k:Nat)(x:Str)(ps:List Str)(sp:Sp):Prop where
 ex:∃f fd,FnOkW P w K mg base k f fd ps sp∧Binds K fd ps []∧W.keepIn K (.ref f)=true∧mg x=some (.ref f)
section
variable {X:Cx}{k k':Nat}{ps:List Str}{sp:Sp}{x:Str}{p pos:Pos}{e:Expr}{es:List Expr}{t:TA}{E:XK}{d:V}
theorem u4(G:Own X.prog X.w X.K X.mg X.base k x ps sp)(hr:Room k' X.A)(hk:k≤k')(hx:J7 (n4 X.prog X.w) X E)(ha:PA X (e::es) t)(hg:Gl X x:=by rfl)
  (hdb:(x == ("__debug__" : Str))=false:=by decide) (he:starEach (e::es) X.env=(false,eval e X.env)::starEach es X.env:=by rfl) (hpl:(backTo pos (starEach es X.env)).any (·.1)=false:=by rfl) :
  PE X (.Call (.Name x p) (e::es) [] pos) (O9 sp [] E t):=by
 obtain⟨f,fd,F,b,kp,m⟩:=G.ex
 exact a9L F (hr.mono hk) hg m kp b .nil hx ha hdb he hpl
theorem a2f(G:OwnW X.prog X.w X.K X.mg X.base k x ps sp)(hr:RoomW k' X.A)(ha:PA X (e::es) t)(hk:k≤k':=by decide)(hg:Gl X x:=by rfl)
  (hdb:(x == ("__debug__" : Str))=false:=by decide) (he:starEach (e::es) X.env=(false,eval e X.env)::starEach es X.env:=by rfl) (hpl:(backTo pos (starEach es X.env)).any (·.1)=false:=by rfl) :
  PE X (.Call (.Name x p) (e::es) [] pos) (a1r sp t):=by
 obtain⟨f,fd,F,b,kp,m⟩:=G.ex
 exact a7S F ⟨by have:=hr.dp;omega,by have:=hr.un;omega⟩ hg m kp b ha hdb he hpl
end
theorem a6n:bootBuiltins "int" = some (.type "int"):=by decide +kernel
theorem a4K:bootBuiltins "bool" = some (.type "bool"):=by decide +kernel
theorem a4L:bootBuiltins "list" = some (.type "list"):=by decide +kernel
theorem a26:bootBuiltins "ValueError" = some (.type "ValueError"):=by decide +kernel
theorem m8:bootBuiltins "isinstance" = some (.builtin "isinstance"):=by decide +kernel
theorem E3:bootBuiltins "len" = some (.builtin "len"):=by decide +kernel
theorem M3{H:Hp}{p:Addr}(h:H p=none)(o:HO):Same H (upd H p o):=fun b u q=>by rw[d5 (g9 q h)];exact q
def Scr(K:W.Frag)(H:Hp)(a:Addr)(xs:List V):Prop:=(∃o,H a=some (.frz o (.lst xs))) ∨
  ∃(o:Obj) (its:Array Value) (n:Nat),K.lookup a=some o∧o.cls=.type "list"∧o.dict=none∧o.data=.seq its n∧its.size≤sizeLine∧Vals xs its.toList
theorem Scr.seq{K:W.Frag}{H:Hp}{a:Addr}{xs:List V}(h:Scr K H a xs):SqL K H a xs:=h.elim (fun z=>.inl (.inr z)) .inr
theorem Scr.of{K:W.Frag}{H:Hp}{a:Addr}{xs:List V}(h:SqL K H a xs)(o:b3X H):Scr K H a xs:=by
 rcases h with(h | h) | h
 ·rcases o a with z | ⟨o,ys,z⟩
  ·rw[h]at z;cases z
  ·rw[h]at z;cases z
 ·exact .inl h
 ·exact .inr h
theorem Scr.same{K:W.Frag}{H H':Hp}{a:Addr}{xs:List V}(g:Same H H')(h:Scr K H a xs):Scr K H' a xs:=h.elim (fun⟨o,z⟩=>.inl ⟨o,g _ _ z⟩) .inr
theorem Scr.upd{K:W.Frag}{H:Hp}{a l:Addr}{xs ys:List V}{o:HO}(hl:H l=some (.lst ys))(h:Scr K H a xs):Scr K (L2.upd H l o) a xs:=h.elim (fun⟨ob,z⟩=>.inl ⟨ob,by rw[d5 (b26 z hl (by intro q;cases q))];exact z⟩) .inr
theorem small{n:Nat}(h:n≤1000):n≤sizeLine:=Nat.le_of_lt (a6k h)
section
variable {prog:Program}{w:World}{A:Around}{R:Result→Shared→Prop}{s:Shared}
theorem a4n{elt target iter:Expr}{ifs:List Expr}{scope:Scope}{pos:Pos}{it acc:Value}{env:Env}{N:Value→Shared→Prop}(hN:N=notedBy (model prog w) A env fun e s'=>R (.error e) s')(I:Nat→Shared→Prop)
  (turn:∀n s,I n s→wpAny (model prog w) A (pyNext it) (fun r s₁=>match r with
   | none=>R (.ok .next) s₁
   | some v=>wpAny (model prog w) A (letOwnedTupleGo target it v) (fun _ s₁'=>wpAny (model prog w) A (assign target env v) (fun _ s₂ =>
     wpAny (model prog w) A (forIn ifs true fun c r=>if r=true then do let ok ← isTrue c env (eval c env);pure (ForInStep.yield ok)else pure (ForInStep.yield r)) (fun ok s₃ =>
      if ok=true then wpAny (model prog w) A (eval elt env) (fun x s₄ =>
       wpAny (model prog w) A (call (.builtin "list.append") [acc,x]) (fun _ s₅=>∃m,m<n∧I m s₅) N s₄) N s₃
      else ∃m,m<n∧I m s₃) N s₂) N s₁') N s₁) N s)
  (n:Nat) (h:I n s) :
  codeAny (model prog w) A (.compLoop (.ListComp elt [⟨target,iter,ifs,0⟩] scope pos) 0 it acc env) R s:=by
 subst hN
 refine codeAny_loop rfl I (fun k z q=>?_) n h
 show wpAny _ A ((compTurn (.ListComp elt [⟨target,iter,ifs,0⟩] scope pos) 0 it acc env).onRaise (fun ex=>do noteFrame ex env;theTreesLotGoes ex)) _ _ z
 refine wpAny_noted ?_
 rw[compTurn_list]
 refine wpAny_bind (wpAny_standAt (wpAny_bind (i6 (turn k z q) fun r z1 q1=>?_)))
 cases r with
 | none=>exact wpAny_pure q1
 | some v =>
  refine wpAny_bind (i6 q1 fun _ z2 q2=>?_)
  refine wpAny_bind (i6 q2 fun _ z3 q3=>?_)
  refine wpAny_bind (i6 q3 fun ok z4 q4=>?_)
  cases ok with
  | false=>exact wpAny_pure ⟨rfl,q4⟩
  | true=>exact wpAny_bind (wpAny_bind (i6 q4 fun x z5 q5=>wpAny_bind (i6 q5 fun _ z6 q6=>wpAny_pure (wpAny_pure ⟨rfl,q6⟩))))
end
def y0(cells:List (Str×Addr)):List (Str×NameKind)→List (Str×Addr)→List (Str×Addr)
 | [],acc=>acc
 | (n,k)::r,acc=>if k == .free then(match cells.lookup n with
   | some c=>y0 cells r ((n,c)::acc)
   | none=>y0 cells r acc)else y0 cells r acc
theorem S6{cells:List (Str×Addr)}{x:Str}{c:Addr}:∀{names:List (Str×NameKind)} {acc:List (Str×Addr)},(∀d,acc.lookup x=some d→cells.lookup x=some d)→(y0 cells names acc).lookup x=some c→cells.lookup x=some c
 | [],acc,h,e=>h c e
 | (n,k)::r,acc,h,e=>by
  unfold y0 at e
  split at e
  ·split at e
   ·rename_i c' hc'
    refine S6 (fun d q=>?_) e
    rw[List.lookup_cons]at q
    split at q
    ·rename_i hx
     have hx':x=n:=by simpa using hx
     cases q
     rw[hx'];exact hc'
    ·exact h d q
   ·exact S6 h e
  ·exact S6 h e
theorem N2{cells:List (Str×Addr)}{x:Str}:∀{names:List (Str×NameKind)} {acc:List (Str×Addr)},(∃d,acc.lookup x=some d)→∃d,(y0 cells names acc).lookup x=some d
 | [],acc,h=>h
 | (n,k)::r,acc,h=>by
  unfold y0
  split
  ·split
   ·refine N2 ?_
    rw[List.lookup_cons]
    split
    ·exact⟨_,rfl⟩
    ·exact h
   ·exact N2 h
  ·exact N2 h
theorem E4{cells:List (Str×Addr)}{x:Str}:∀{names:List (Str×NameKind)} {acc:List (Str×Addr)},(x,NameKind.free)∈names→(∃c,cells.lookup x=some c)→∃d,(y0 cells names acc).lookup x=some d
 | [],acc,h,_=>by simp at h
 | (n,k)::r,acc,h,hc=>by
  unfold y0
  rcases List.mem_cons.mp h with e | h
  ·cases e
   obtain⟨c,hc⟩:=hc
   rw[if_pos (by rfl),hc]
   exact N2 ⟨c,by simp[List.lookup_cons]⟩
  ·split
   ·split
    ·exact E4 h hc
    ·exact E4 h hc
   ·exact E4 h hc
theorem V9{env:Env}:∀(names:List (Str×NameKind)) (acc:List (Str×Addr)),(∀y∈names,y.2=.free→∃c,env.cells.lookup y.1=some c) →
  (forIn names acc fun(x:Str×NameKind) (cs:List (Str×Addr))=>if(x.2 == NameKind.free)=true then do let a ← cellOf env x.1;pure (ForInStep.yield ((x.1,a)::cs))else pure (ForInStep.yield cs):Sem (List (Str×Addr)))=pure (y0 env.cells names acc)
 | [],acc,_=>rfl
 | (n,k)::r,acc,h=>by
  rw[List.forIn_cons]
  unfold y0
  by_cases hk:(k == NameKind.free)=true
  ·obtain⟨c,hc⟩:=h (n,k) List.mem_cons_self (by simpa using hk)
   have e:cellOf env n=pure c:=by unfold cellOf;rw[hc]
   rw[if_pos hk,if_pos hk,hc,e]
   exact V9 r _ fun y hy=>h y (List.mem_cons_of_mem _ hy)
  ·rw[if_neg hk,if_neg hk]
   exact V9 r acc fun y hy=>h y (List.mem_cons_of_mem _ hy)
theorem T7{scope:Scope}{env:Env}(h:∀y∈scope.names,y.2=.free→∃c,env.cells.lookup y.1=some c):closureFor scope env=pure (y0 env.cells scope.names []):=by
 have:=V9 (env:=env) scope.names [] h
 unfold closureFor
 exact(congrArg (· >>= pure) this).trans (by first | rfl | simp)
theorem F6{env:Env}:∀{names:List (Str×NameKind)} {x:Str} {k':NameKind},
  (names.map fun(n,k)=>if(k == NameKind.free && env.scope.kind == .function && env.kindOf n == some .cell)then(n,NameKind.cell)else(n,k)).lookup x=some k' →
  ∃k,names.lookup x=some k∧(k'=k∨(k=.free∧k'=.cell))
 | [],_,_,h=>by simp at h
 | (n,k)::r,x,k',h=>by
  rw[List.map_cons]at h
  dsimp only at h
  by_cases hc:(k == NameKind.free && env.scope.kind == .function && env.kindOf n == some .cell)=true
  ·rw[if_pos hc,List.lookup_cons]at h
   rw[List.lookup_cons]
   split at h
   ·rename_i hx
    cases h
    have hk:k=.free:=by
     have:=(Bool.and_eq_true _ _▸(Bool.and_eq_true _ _▸hc).1).1
     simpa using this
    exact⟨k,rfl,.inr ⟨hk,rfl⟩⟩
   ·rename_i hx
    obtain⟨k2,q1,q2⟩:=F6 h
    exact⟨k2,q1,q2⟩
  ·rw[if_neg hc,List.lookup_cons]at h
   rw[List.lookup_cons]
   split at h
   ·rename_i hx
    cases h
    exact⟨k,rfl,.inl rfl⟩
   ·rename_i hx
    obtain⟨k2,q1,q2⟩:=F6 h
    exact⟨k2,q1,q2⟩
theorem D2{env:Env}:∀{names:List (Str×NameKind)} {x:Str},names.lookup x=some .free →
  (names.map fun(n,k)=>if(k == NameKind.free && env.scope.kind == .function && env.kindOf n == some .cell)then(n,NameKind.cell)else(n,k)).lookup x=some .cell ∨
  (names.map fun(n,k)=>if(k == NameKind.free && env.scope.kind == .function && env.kindOf n == some .cell)then(n,NameKind.cell)else(n,k)).lookup x=some .free
 | [],_,h=>by simp at h
 | (n,k)::r,x,h=>by
  rw[List.map_cons]
  dsimp only
  rw[List.lookup_cons]at h
  by_cases hc:(k == NameKind.free && env.scope.kind == .function && env.kindOf n == some .cell)=true
  ·rw[if_pos hc,List.lookup_cons]
   split at h
   ·rename_i hx
    left;rfl
   ·rename_i hx
    exact D2 (env:=env) h
  ·rw[if_neg hc,List.lookup_cons]
   split at h
   ·rename_i hx
    right;exact h
   ·rename_i hx
    exact D2 (env:=env) h
structure CompSc(Sc scope:Scope)(N Nc:List Str)(k:Nat)(js:List Nat):Prop where
 cell:∀y∈scope.names,y.2≠.cell
 kind:scope.kind=.function
 names:∀y∈scope.names,y.2=.local→scope.names.lookup y.1=some .local
 free:∀y∈scope.names,y.2=.free→Sc.names.lookup y.1=some .cell∨Sc.names.lookup y.1=some .free
 nd:Nc.Nodup
 len:Nc.length=k+js.length
 cap:(Nc.drop k).map some=js.map fun j=>N[j]?
 caps:∀x∈Nc.drop k,scope.names.lookup x=some .free
def l6(k:Nat)(js:List Nat)(σ:St):St:=List.replicate k none++js.map fun j=>(σ[j]?).getD none
theorem A7{names:List (Str×NameKind)}{x:Str}{k:NameKind}(h:names.lookup x=some k):(x,k)∈names:=PySem.mem_of_lookup h
abbrev v5(X:Cx)(scope:Scope)(Nc:List Str)(C:Addr)(s3:Shared)(H3:Hp)(fp:List Addr)(xe:Value→Shared→Prop):Cx :=
 { X with N:=Nc,s₀:=s3,H₀:=H3,env:=compEnvC scope (y0 X.env.cells scope.names []) C X.env,outer:=X.stack,ex:=fp,fn:=fun _=>false,pn:=[],xe:=xe }
section
variable {X:Cx}{pins:List (Addr×Obj)}{σ:St}{H3:Hp}{s3:Shared}{scope:Scope}{Nc:List Str}{k:Nat}{js:List Nat}{fp:List Addr}{xe:Value→Shared→Prop}{h₁:Heap}{m₀:Str→Option Value}{tk:Nat}
theorem a1s(I:Inv X pins σ H3 s3)(S:CompSc X.env.scope scope X.N Nc k js):∀y∈scope.names,y.2=.free→∃c,X.env.cells.lookup y.1=some c:=fun y hy hk=>I.ok.has y.1 (S.free y hy hk)
theorem y1{x:Str}{c:Addr}(e:(y0 X.env.cells scope.names []).lookup x=some c):X.env.cells.lookup x=some c:=S6 (fun d q=>by simp at q) e
theorem a7V(I:Inv X pins σ H3 s3)(S:CompSc X.env.scope scope X.N Nc k js)(hf:∀b∈fp,FpOk X pins H3 b)(hfo:∀b∈fp,b<s3.heap.objs.size)(hns:h₁.Ns s3.heap.objs.size m₀)(old:∀b o,s3.heap.get? b=some o→h₁.get? b=some o) :
  Inv (v5 X scope Nc s3.heap.objs.size s3 H3 fp xe) [] (l6 k js σ) H3 { s3 with heap:=h₁,toks:=tk }:=by
 have ok:=I.ok
 have hb0:∀b o,X.base.get? b=some o→b<X.s₀.heap.objs.size:=fun b o e=>Nat.lt_of_lt_of_le (Heap.lt_size e) ok.bsz
 refine⟨⟨ok.mod,S.kind,ok.glob,ok.blt,Nat.le_refl _,fun x y c h1 h2=>ok.inj x y c (y1 h1) (y1 h2),fun x hx=>?_,(fun x c z=>nomatch z),ok.hd,ok.frames,.inl rfl,fun b hb=>⟨Nat.ne_of_lt (hfo b hb),fun x c e=>(hf b hb).2.2.2.2.1 x c (y1 e)⟩,I.bs,Nat.le_trans ok.bsz I.sz,fun b o e hb=>?_,fun b hb z=>?_,I.stack,I.stkFree⟩,
  rfl,I.bare,Un.kept old,⟨m₀,hns,fun i x v e1 e2 e3=>?_⟩,fun x c e=>?_,I.hok.fresh (Nat.le_refl _),fun x c e=>I.freeC x c (y1 e),fun p hp=>absurd (show p∈([]:List (Addr×Obj))from hp) (by simp),I.hok.kept old,?_⟩
 ·have hx:(relabel scope X.env).names.lookup x=some .cell∨(relabel scope X.env).names.lookup x=some .free:=hx
  have hfree:scope.names.lookup x=some .free:=by
   rcases hx with hx | hx
   ·obtain⟨k2,q1,q2⟩:=F6 (env:=X.env) hx
    rcases q2 with q2 | ⟨q2,_⟩
    ·subst q2;exact absurd rfl (S.cell _ (A7 q1))
    ·rw[q2]at q1;exact q1
   ·obtain⟨k2,q1,q2⟩:=F6 (env:=X.env) hx
    rcases q2 with q2 | ⟨q2,q3⟩
    ·subst q2;exact q1
    ·cases q3
  exact E4 (A7 hfree) (ok.has x (S.free _ (A7 hfree) rfl))
 ·rcases(hf b hb).2.2.2.1 with z | z
  ·exact ok.noex b o e z
  ·exact absurd (Nat.lt_of_lt_of_le (hb0 b o e) z) (Nat.lt_irrefl _)
 ·rcases List.mem_cons.mp (I.stkSub b z)with q | q
  ·exact(hf b hb).2.1 q
  ·exact(hf b hb).2.2.1 q
 ·have hlen:(List.replicate k (none:Option V)).length=k:=List.length_replicate
  by_cases hi:i<k
  ·unfold l6 at e2
   rw[List.getElem?_append_left (by omega),List.getElem?_replicate]at e2
   split at e2<;>cases e2
  ·unfold l6 at e2
   rw[List.getElem?_append_right (by omega),hlen,List.getElem?_map]at e2
   cases hj:js[i-k]? with
   | none=>rw[hj]at e2;cases e2
   | some j =>
    rw[hj]at e2
    have e2':(σ[j]?).getD none=some v:=Option.some.inj e2
    have hσ:σ[j]? = some (some v):=by
     cases q:σ[j]? with
     | none=>rw[q]at e2';cases e2'
     | some y=>rw[q]at e2';simp at e2';rw[e2']
    have hx:(Nc.drop k)[i-k]? = some x:=by rw[List.getElem?_drop];rw[show k+(i-k)=i by omega];exact e1
    have hNj:X.N[j]? = some x:=by
     have:=congrArg (fun l=>l[i-k]?) S.cap
     simp only[List.getElem?_map,hx,hj,Option.map_some]at this
     exact(Option.some.inj this).symm
    have hfr:scope.names.lookup x=some .free:=S.caps x (List.mem_of_getElem? hx)
    have hk:=S.free _ (A7 hfr) rfl
    obtain⟨m,hn,hl⟩:=I.loc
    obtain⟨u,r,l⟩:=hl j x v hNj hσ (.inr hk)
    refine⟨u,r,.inr ⟨D2 hfr,?_⟩⟩
    rcases l with⟨l1,_⟩ | ⟨_,c,hc,hcell⟩
    ·have l1:X.env.scope.names.lookup x=some .local:=l1
     rcases hk with hk | hk
     ·rw[l1]at hk;cases hk
     ·rw[l1]at hk;cases hk
    ·obtain⟨d,hd⟩:=E4 (cells:=X.env.cells) (acc:=[]) (A7 hfr) ⟨c,hc⟩
     have:=y1 hd
     rw[hc]at this;cases this
     obtain⟨o,ho,hdd⟩:=hcell
     exact⟨c,hd,⟨o,old _ _ ho,hdd⟩⟩
 ·obtain⟨v,o,ho,hd⟩:=I.cell x c (y1 e)
  exact⟨v,o,old _ _ ho,hd⟩
 ·unfold l6
  rw[List.length_append,List.length_replicate,List.length_map]
  exact S.len.symm
end
def PF(X:Cx)(ifs:List Expr)(t:TT):Prop :=
 ∀(pins:List (Addr×Obj)) (s:Shared) (σ:St) (H:Hp) (Q:Bool→Hp→Prop),Inv X pins σ H s→t σ H Q →
  wpAny (model X.prog X.w) X.A (forIn ifs true fun c r=>if r=true then do let ok ← isTrue c X.env (eval c X.env);pure (ForInStep.yield ok)else pure (ForInStep.yield r)) (TP X pins σ Q) X.xe s
def a9f:TT:=fun _ H Q=>Q true H
theorem a6o{X:Cx}:PF X [] a9f:=fun pins s σ H Q I h=>wpAny_tests_nil ⟨H,I,h⟩
theorem b11{X:Cx}{c:Expr}{t:TT}(h:PT X c t):PF X [c] t:=fun pins s σ H Q I q=>wpAny_tests_one (h pins s σ H Q I q)
def Q2(J:It)(g:TG)(tf:TT)(te:TE)(k:Nat)(σ0:St)(D:Addr)(Fin:Hp→Prop)(H1:Hp):Prop :=
 ∃W:Nat→Nat→List V→Hp→Prop,(∃m,W 0 m [] (upd H1 D (.lst [])))∧∀i m ys H,W i m ys H →
  (J.stop i H∧Fin H)∨(J.go i H∧∃N:List V→Hp→Prop,(∀ys' H',N ys' H'→∃m',m'<m∧W (i+1) m' ys' H')∧∀x H',J.yld i H x H'→g x σ0 H' fun σ2 H2=>(σ2.drop k=σ0.drop k∧σ2.length=σ0.length)∧tf σ2 H2 fun b H3 =>
   if b=true then te σ2 H3 fun y H4=>H4 D=some (.lst ys)∧ys.length<sizeLine∧N (ys++[y]) (upd H4 D (.lst (ys++[y])))else N ys H3)
section
variable {X:Cx}{pins:List (Addr×Obj)}{σ:St}{H:Hp}{s:Shared}{elt tg iter:Expr}{ifs:List Expr}{scope:Scope}{pos:Pos}{Nc:List Str}{k:Nat}{js:List Nat}{g:TG}{tf:TT}{te:TE}
theorem a1t{J:It}{fp:List Addr}{it:Addr}{tn:Nat→Heap→Prop}{E:Value→Shared→Prop}{RR:Value→Addr→Result→Shared→Prop}{Fin:Addr→Hp→Prop}(hc:X.calm=true)(S:CompSc X.env.scope scope X.N Nc k js)
  (hg:∀C s3 H3 fp xe,PG (v5 X scope Nc C s3 H3 fp xe) tg g) (hf:∀C s3 H3 fp xe,PF (v5 X scope Nc C s3 H3 fp xe) ifs tf)
  (he:∀C D H3,∃xe:Value→Shared→Prop,(∀e s',xe e s'→notedBy (model X.prog X.w) X.A (compEnvC scope (y0 X.env.cells scope.names []) C X.env) (fun e s'=>RR (.ref D) C (.error e) s') e s') ∧
   ∀s3,Inv X pins σ H3 s3→C=s3.heap.objs.size→(∀b∈fp,FpOk X pins H3 b)→PE (v5 X scope Nc C s3 H3 fp xe) elt te)
  (I2:Inv X pins σ H s) (T:Turn X.prog X.w X.K tg J fp it tn) (st2:tn 0 s.heap) (f2:∀b∈fp,FpOk X pins H b) (hR:∀D,H D=none→Q2 J g tf te k (l6 k js σ) D (Fin D) H)
  (hRR:∀D C H' s' m',Inv X pins σ H' s'→s'.heap.Ns C m'→H' C=none→C≠X.env.locals→X.s₀.heap.objs.size≤C→(∀x c,X.env.cells.lookup x=some c→c≠C)→(∀p∈X.pn++pins,p.1≠C)→Fin D H'→RR (.ref D) C (.ok .next) s') :
  wpAny (model X.prog X.w) X.A (newList []) (fun acc s₃=>wpAny (model X.prog X.w) X.A (newFunctionEnv scope X.env.globals (y0 X.env.cells scope.names []) [] X.env.qual none .none (some X.env)) (fun cenv s₄ =>
   codeAny (model X.prog X.w) X.A (.compStart (.ListComp elt [⟨tg,iter,ifs,0⟩] scope pos) 0 (.ref it) acc { cenv with scope:=relabel scope X.env }) (RR acc cenv.locals) s₄) E s₃) E s:=by
 refine wpAny_newObj_type (wpAny_newFunctionEnv S.cell (by intro y hy;simp at hy) (fun h₁ hns₁ hsb₁=>?_) S.kind)
 dsimp only at hns₁ hsb₁ ⊢
 have I3:Inv X pins σ (upd H s.heap.objs.size (.lst [])) { s with heap:=s.heap.push { cls:=.type "list",data:=.seq ([]:List Value).toArray },toks:=s.toks }:=I2.lnew (its:=[]) .nil (Nat.zero_le _)
 have hDn:H s.heap.objs.size=none:=I2.fresh
 obtain⟨W,⟨m0,w0⟩,turn⟩:=hR _ hDn
 generalize hs3:({ s with heap:=s.heap.push { cls:=.type "list",data:=.seq ([]:List Value).toArray },toks:=s.toks }:Shared)=s3 at I3
 have e3:s3.heap=s.heap.push { cls:=.type "list",dict:=none,data:=.seq ([]:List Value).toArray }:=by rw[← hs3]
 rw[← e3]at hns₁ hsb₁ ⊢
 have fpo:∀b∈fp,b<s.heap.objs.size:=fun b hb=>by obtain⟨o,e,_⟩:=T.obj _ _ st2 b hb;exact Heap.lt_size e
 have sz3:s3.heap.objs.size=s.heap.objs.size+1:=by rw[e3,Heap.size_push]
 have fpo3:∀b∈fp,b<s3.heap.objs.size:=fun b hb=>by rw[sz3];exact Nat.lt_succ_of_lt (fpo b hb)
 have f3:∀b∈fp,FpOk X pins (upd H s.heap.objs.size (.lst [])) b:=fun b hb=>⟨by rw[d5 (Nat.ne_of_lt (fpo b hb))];exact(f2 b hb).1,(f2 b hb).2⟩
 have old:∀b o,s3.heap.get? b=some o→h₁.get? b=some o:=fun b o e=>hsb₁.extBut b o (Nat.ne_of_lt (Heap.lt_size e)) (Heap.get?_push_of_some _ e)
 have oldS:∀b o,s.heap.get? b=some o→h₁.get? b=some o:=fun b o e=>old b o (by rw[e3];exact Heap.get?_push_of_some _ e)
 obtain⟨xe,hxe,hel⟩:=he s3.heap.objs.size s.heap.objs.size (upd H s.heap.objs.size (.lst []))
 have hel:=hel s3 I3 rfl f3
 have I4:Inv (v5 X scope Nc s3.heap.objs.size s3 (upd H s.heap.objs.size (.lst [])) fp xe) [] (l6 k js σ) (upd H s.heap.objs.size (.lst [])) { s3 with heap:=h₁,toks:=s.toks+([]:List (Str×Value)).length } :=
  a7V I3 S f3 fpo3 hns₁ old
 have st4:tn 0 h₁:=T.keep _ _ _ st2 fun b hb o e=>oldS b o e
 have es3:({ s3 with heap:=h₁,toks:=s.toks+([]:List (Str×Value)).length }:Shared)={ s with heap:=h₁,toks:=s.toks+([]:List (Str×Value)).length }:=by rw[← hs3]
 rw[es3]at I4
 have ok:=I2.ok
 have lk:=I3.lt
 have hCL:s3.heap.objs.size≠X.env.locals:=Nat.ne_of_gt lk
 have stat:∀{H':Hp},(∀b∈fp,H' b=none)→∀b∈fp,FpOk (v5 X scope Nc s3.heap.objs.size s3 (upd H s.heap.objs.size (.lst [])) fp xe) [] H' b:=fun hn b hb =>
  ⟨hn b hb,Nat.ne_of_lt (fpo3 b hb),fun z=>(List.mem_cons.mp (I3.stkSub b z)).elim (fun q=>(f3 b hb).2.1 q) fun q=>(f3 b hb).2.2.1 q,.inl hb,fun x c e=>(f3 b hb).2.2.2.2.1 x c (y1 e),fun p hp=>absurd (show p∈([]:List (Addr×Obj))from hp) (by simp)⟩
 have loop:codeAny (model X.prog X.w) X.A (.compLoop (.ListComp elt [⟨tg,iter,ifs,0⟩] scope pos) 0 (.ref it) (.ref s.heap.objs.size) (compEnvC scope (y0 X.env.cells scope.names []) s3.heap.objs.size X.env))
    (RR (.ref s.heap.objs.size) s3.heap.objs.size) { s with heap:=h₁,toks:=s.toks+([]:List (Str×Value)).length }:=by
  refine a4n rfl (fun n s'=>∃i ys H',Inv (v5 X scope Nc s3.heap.objs.size s3 (upd H s.heap.objs.size (.lst [])) fp xe) [] (l6 k js σ) H' s'∧tn i s'.heap∧(∀b∈fp,H' b=none)∧W i n ys H') ?_ m0 ⟨0,[],_,I4,st4,fun b hb=>(f3 b hb).1,w0⟩
  rintro n s5 ⟨i,ys,H5,I5,st5,fr5,w5⟩
  rcases turn i n ys H5 w5 with⟨stop,fin⟩ | ⟨go,Nx,hNx,step⟩
  ·refine i6 (T.done (v5 X scope Nc s3.heap.objs.size s3 (upd H s.heap.objs.size (.lst [])) fp xe) rfl rfl rfl hc i [] s5 (l6 k js σ) H5 _ I5 (stat fr5) st5 stop) fun r s6 ⟨hr,I6⟩=>?_
   subst hr
   obtain⟨m6,hn6,_⟩:=I6.loc
   have J:Inv X pins σ H5 s6:=I3.call' (ch:=fp) (I6.os.trans rfl) I6.base I6.hok I6.bare fun b hb=>⟨(f3 b hb).2.2.2.1,(f3 b hb).2.1,(f3 b hb).2.2.2.2.1,(f3 b hb).2.2.2.2.2⟩
   refine hRR _ _ H5 s6 m6 J hn6 I6.free hCL (I3.sz) (fun x c e z=>?_) (fun p hp z=>?_) fin
   ·obtain⟨v,q⟩:=I3.cell x c e
    exact absurd q.lt (by rw[z];exact Nat.lt_irrefl _)
   ·exact absurd (Heap.lt_size (I3.pin p hp).1) (by rw[z];exact Nat.lt_irrefl _)
  ·refine i6 (T.item (v5 X scope Nc s3.heap.objs.size s3 (upd H s.heap.objs.size (.lst [])) fp xe) rfl rfl rfl hc i [] s5 (l6 k js σ) H5 _ I5 (stat fr5) st5 go) fun r s6 ⟨u,hr,h6⟩=>?_
   subst hr
   refine i6 h6 fun _ s7 ⟨x,H7,I7,r7,y7,st7,fr7⟩=>?_
   have I7':=I7.pinned (stat fr7) (T.obj _ _ st7)
   refine wpAny_mono (hg _ _ _ _ _ _ s7 _ H7 x u _ I7' r7 (step x H7 y7)) (fun _ s8 ⟨σ8,H8,I8,⟨d8,l8⟩,q8⟩=>?_) fun e s' z=>hxe e s' z
   refine wpAny_mono (hf _ _ _ _ _ _ s8 σ8 H8 _ I8 q8) (fun b s9 ⟨H9,I9,q9⟩=>?_) fun e s' z=>hxe e s' z
   have again:∀{H':Hp} {s':Shared} {ys':List V},Inv (v5 X scope Nc s3.heap.objs.size s3 (upd H s.heap.objs.size (.lst [])) fp xe) ([]++Z0 fp s7.heap) σ8 H' s'→Nx ys' H' →
     ∃m,m<n∧∃i ys H',Inv (v5 X scope Nc s3.heap.objs.size s3 (upd H s.heap.objs.size (.lst [])) fp xe) [] (l6 k js σ) H' s'∧tn i s'.heap∧(∀b∈fp,H' b=none)∧W i m ys H':=fun{H' s' ys'} I' hw=>by
    obtain⟨m',hm,w'⟩:=hNx _ _ hw
    refine⟨m',hm,i+1,ys',H',(I'.unpinned).weak l8.symm fun j v e=>?_,T.keep _ _ _ st7 fun b hb o e=>(I'.pin (b,o) (List.mem_append_right _ (List.mem_append_right _ (O8 hb e)))).1,fun b hb=>?_,w'⟩
    ·by_cases hj:j<k
     ·unfold l6 at e
      rw[List.getElem?_append_left (by rw[List.length_replicate];exact hj),List.getElem?_replicate]at e
      split at e<;>cases e
     ·have e':((l6 k js σ).drop k)[j-k]? = some (some v):=by rw[List.getElem?_drop,show k+(j-k)=j by omega];exact e
      rw[← d8,List.getElem?_drop,show k+(j-k)=j by omega]at e'
      exact e'
    ·obtain⟨o,e,d⟩:=T.obj _ _ st7 b hb
     exact(I'.pin (b,o) (List.mem_append_right _ (List.mem_append_right _ (O8 hb e)))).2.1
   cases b with
   | false =>
    rw[if_neg Bool.false_ne_true]at q9 ⊢
    exact again I9 q9
   | true =>
    rw[if_pos rfl]at q9 ⊢
    refine wpAny_mono (hel _ s9 σ8 H9 _ I9 q9) (fun v s10 ⟨y,H10,I10,r10,hD,hz,w'⟩=>?_) fun e s' z=>hxe e s' z
    refine wpAny_mono (Z7 (X:=v5 X scope Nc s3.heap.objs.size s3 (upd H s.heap.objs.size (.lst [])) fp xe) _ s10 σ8 H10 (.ref s.heap.objs.size) [y] (.ref s.heap.objs.size) [v] (fun _ H'=>H'=upd H10 s.heap.objs.size (.lst (ys++[y]))) I10 rfl (.cons r10 .nil)
     ⟨_,ys,y,rfl,rfl,hD,hz,rfl⟩) (fun _ s11 ⟨_,H11,I11,_,q11⟩=>?_) fun e s' z=>hxe e s' z
    subst q11
    exact again I11 w'
 exact codeAny_compStart_list loop (T.self _ 0 _ _ _ st4 loop)
end
def a3a(wi:TI)(g:TG)(tf:TT)(te:TE)(k:Nat)(js:List Nat):TE:=fun σ H Q=>wi σ H fun J H1=>∀D,H1 D=none→Q2 J g tf te k (l6 k js σ) D (fun H'=>Q (.ref D) H') H1
def a3E(i:Nat)(wi:TI)(g:TG)(tf:TT)(te:TE)(k:Nat)(js:List Nat):TS:=fun N σ H=>wi σ H fun J H1=>∀D,H1 D=none→Q2 J g tf te k (l6 k js σ) D (fun H'=>N.nx (σ.set i (some (.ref D))) H') H1
section
variable {X:Cx}{elt tg iter:Expr}{ifs:List Expr}{scope:Scope}{pos:Pos}{Nc:List Str}{k:Nat}{js:List Nat}{wi:TI}{g:TG}{tf:TT}{te:TE}
theorem a9U(hc:X.calm=true)(S:CompSc X.env.scope scope X.N Nc k js)(hi:PI X tg iter wi)(hg:∀C s3 H3 fp xe,PG (v5 X scope Nc C s3 H3 fp xe) tg g)(hf:∀C s3 H3 fp xe,PF (v5 X scope Nc C s3 H3 fp xe) ifs tf)
  (he:∀C s3 H3 fp xe,PE (v5 X scope Nc C s3 H3 fp xe) elt te) (hs:∀x,foldedSetIterable iter X.env x=pure x:=by intro _;rfl):PE X (.ListComp elt [⟨tg,iter,ifs,0⟩] scope pos) (a3a wi g tf te k js):=by
 intro pins s σ H Q I h
 rw[eval_ListComp]
 refine wpAny_comprehension_free (use:=none) rfl hs (T7 (a1s I S)) S.kind S.names (i6 (hi pins s σ H _ I h) fun v s1 h1=>i6 h1 fun itv s2 h2=>?_)
 obtain⟨it,fp,tn,J,H2,rfl,I2,T,st2,f2,hR⟩:=h2
 refine a1t (RR:=fun acc C=>compPost (model X.prog X.w) X.A X.xe none (EP X pins σ Q) acc C) (Fin:=fun D H'=>Q (.ref D) H') hc S hg hf (fun C D H3=>⟨fun _ _=>False,fun _ _ z=>z.elim,fun s3 _ _ _=>he _ _ _ _ _⟩) I2 T st2 f2 hR ?_
 intro D C H' s' m' I' hn hC hCL hsz hcl hpn q
 exact⟨m',hn,fun h' hs'=>⟨.ref D,H',I'.turned (t':=s'.toks) (fun b o hb e=>(hs'.2 b hb).trans e) hC hCL (.inr hsz) hcl hpn,rfl,q⟩⟩
theorem a1u{i:Nat}{y:Str}{py spos:Pos}(hc:X.calm=true)(S:CompSc X.env.scope scope X.N Nc k js)(hN:X.N.Nodup)(hy:X.N[i]? = some y)(hi:PI X tg iter wi)(hg:∀C s3 H3 fp xe,PG (v5 X scope Nc C s3 H3 fp xe) tg g)(hf:∀C s3 H3 fp xe,PF (v5 X scope Nc C s3 H3 fp xe) ifs tf)
  (he:∀C s3 H3 fp xe,PE (v5 X scope Nc C s3 H3 fp xe) elt te) (hl:X.env.scope.names.lookup y=some .local:=by rfl) (hs:∀x,foldedSetIterable iter X.env x=pure x:=by intro _;rfl)
  (hsw:swapsWith (.ListComp elt [⟨tg,iter,ifs,0⟩] scope pos) (some (.Name y py)) spos.line X.env=pure true:=by rfl):PS X (.Assign [.Name y py] (.ListComp elt [⟨tg,iter,ifs,0⟩] scope pos) spos) (a3E i wi g tf te k js):=by
 intro pins s σ H N I h
 rw[exec_Assign_Name_used _ _ _ _ hsw]
 refine wpAny_bind (wpAny_standAt (wpAny_bind ?_))
 show wpAny _ X.A (do let _ ← comprehension (.ListComp elt [⟨tg,iter,ifs,0⟩] scope pos) scope X.env _ (newList []) false (eval iter X.env) (some (assign (.Name y py) X.env))) _ _ s
 refine wpAny_bind (i6 (wpAny_comprehension_free (use:=some (assign (.Name y py) X.env)) (Q:=fun _ z=>SP X pins N .next z) rfl hs (T7 (a1s I S)) S.kind S.names
  (i6 (hi pins s σ H _ I h) fun v s1 h1=>i6 h1 fun itv s2 h2=>?_)) fun _ z hq=>wpAny_pure (wpAny_pure hq))
 obtain⟨it,fp,tn,J,H2,rfl,I2,T,st2,f2,hR⟩:=h2
 refine a1t (RR:=fun acc C=>compPost (model X.prog X.w) X.A X.xe (some (assign (.Name y py) X.env)) (fun _ z=>SP X pins N .next z) acc C) (Fin:=fun D H'=>N.nx (σ.set i (some (.ref D))) H') hc S hg hf
  (fun C D H3=>⟨fun _ _=>False,fun _ _ z=>z.elim,fun s3 _ _ _=>he _ _ _ _ _⟩) I2 T st2 f2 hR ?_
 intro D C H' s' m' I' hn hC hCL hsz hcl hpn q
 show wpAny _ X.A (assign (.Name y py) X.env (.ref D)) _ _ s'
 refine wpAny_assign_Name (a2E (v:=.ref D) I' hN hy (.inl hl) rfl (fun s'' I'' ⟨a,hsb,ha⟩=>?_) (.inr hl))
 have hCa:C≠a:=by
  rcases ha with ha | ha
  ·rw[ha];exact hCL
  ·exact fun z=>hcl y a ha z.symm
 exact⟨m',hn.sameBut hsb hCa,fun h' hs'=>⟨_,H',I''.turned (t':=s''.toks) (fun b o hb e=>(hs'.2 b hb).trans e) hC hCL (.inr hsz) hcl hpn,q⟩⟩
end
theorem a6p{K:W.Frag}{a:Addr}{xs:List V}{g:TG}{tf:TT}{te:TE}{k:Nat}{σ0:St}{D:Addr}{Fin:Hp→Prop}{H1:Hp}(Pv:Nat→List V→Hp→Prop)(h0:Pv 0 [] (upd H1 D (.lst [])))(hl:∀i ys H,i≤xs.length→Pv i ys H→SqL K H a xs)
  (hs:∀i x ys H,xs[i]? = some x→Pv i ys H→g x σ0 H fun σ2 H2=>(σ2.drop k=σ0.drop k∧σ2.length=σ0.length)∧tf σ2 H2 fun b H3 =>
   if b=true then te σ2 H3 fun y H4=>H4 D=some (.lst ys)∧ys.length<sizeLine∧Pv (i+1) (ys++[y]) (upd H4 D (.lst (ys++[y])))else Pv (i+1) ys H3)
  (hd:∀ys H,Pv xs.length ys H→Fin H):Q2 (Itl K a) g tf te k σ0 D Fin H1:=by
 refine⟨fun i m ys H=>m=xs.length-i∧i≤xs.length∧Pv i ys H,⟨xs.length,by simp,Nat.zero_le _,h0⟩,?_⟩
 rintro i m ys H ⟨rfl,hi,p⟩
 have q:=hl i ys H hi p
 by_cases hlt:i<xs.length
 ·refine .inr ⟨⟨xs,xs[i],q,by simp[hlt]⟩,Pv (i+1),fun ys' H' z=>⟨xs.length-(i+1),by omega,rfl,hlt,z⟩,fun x H' y=>?_⟩
  obtain⟨e,y⟩:=y
  subst e
  exact hs i x ys _ (y xs q) p
 ·have e:i=xs.length:=by omega
  subst e
  exact .inl ⟨⟨xs,q,Nat.le_refl _⟩,hd ys H p⟩
section
variable {X:Cx}{pins:List (Addr×Obj)}{σ:St}{H:Hp}{s:Shared}
theorem Inv.turnedL{h':Heap}{t':Nat}{ch:List Addr}{p:Addr}{o:HO}(I:Inv X pins σ H s)(k:∀b u,b ∉ ch→s.heap.get? b=some u→h'.get? b=some u)(hf:∀b∈ch,FpOk X pins H b)(hp:s.heap.objs.size≤p)(new:ObjOk X.prog X.w (upd H p o) h' p o) :
  Inv X pins σ (upd H p o) { s with heap:=h',toks:=t' }:=by
 have hn:=I.hok.fresh hp
 have nch:∀b u,H b=some u→b ∉ ch:=fun b u q z=>by rw[(hf b z).1]at q;cases q
 refine I.call (g':=s.gens) (d':=s.drawn) (ch:=ch) ⟨fun b u q _ _ hx=>k b u hx q,fun b u q _ _ hx=>⟨u.slots,k b u hx q⟩,fun b u q n _=>?_,fun b u q hx=>⟨u,k b u hx q⟩,fun b xs q=>?_,fun b u xs q=>?_,fun b ps q=>⟨#[],?_⟩⟩ (fun b u q=>?_) I.bare
  fun b hb=>⟨(hf b hb).2.2.2.1,(hf b hb).2.1,(hf b hb).2.2.2.2.1,(hf b hb).2.2.2.2.2⟩
 ·rw[d5 (Nat.ne_of_lt (Nat.lt_of_lt_of_le (Heap.lt_size q) hp))];exact n
 ·rw[d5 (g9 q hn)];exact q
 ·rw[d5 (g9 q hn)];exact q
 ·rw[d5 (g9 q hn),q];simp
 ·by_cases hb:b=p
  ·subst hb;rw[i0]at q;cases q;exact new
  ·rw[d5 hb]at q
   refine(I.hok b u q).stay (fun c v hc r=>k c v ?_ r) (fun c z=>?_) (fun c xs z=>?_) fun c ob u z=>?_
   ·rcases hc with hc | hc
    ·rw[hc];exact nch b u q
    ·exact nch c _ hc
   ·rw[d5 (g9 z hn)];exact z
   ·rw[d5 (g9 z hn)];exact z
   ·rw[d5 (g9 z hn)];exact z
theorem Inv.turnedN{h':Heap}{t':Nat}{ch:List Addr}(I:Inv X pins σ H s)(k:∀b u,b ∉ ch→s.heap.get? b=some u→h'.get? b=some u)(hf:∀b∈ch,FpOk X pins H b):Inv X pins σ H { s with heap:=h',toks:=t' }:=by
 have nch:∀b u,H b=some u→b ∉ ch:=fun b u q z=>by rw[(hf b z).1]at q;cases q
 refine I.call (g':=s.gens) (d':=s.drawn) (ch:=ch) ⟨fun b u q _ _ hx=>k b u hx q,fun b u q _ _ hx=>⟨u.slots,k b u hx q⟩,fun b u q n _=>n,fun b u q hx=>⟨u,k b u hx q⟩,fun b xs q=>q,fun b u xs q=>q,fun b ps q=>⟨#[],by rw[q];simp⟩⟩ (fun b u q=>?_) I.bare
  fun b hb=>⟨(hf b hb).2.2.2.1,(hf b hb).2.1,(hf b hb).2.2.2.2.1,(hf b hb).2.2.2.2.2⟩
 refine(I.hok b u q).stay (fun c v hc r=>k c v ?_ r) (fun c z=>z) (fun c xs z=>z) fun c ob u z=>z
 rcases hc with hc | hc
 ·rw[hc];exact nch b u q
 ·exact nch c _ hc
end
def Ite(K:W.Frag)(a:Addr):It :=
 ⟨fun i H=>∃xs x,SqL K H a xs∧xs[i]? = some x,fun i H v H'=>∃p x,v=.ref p∧H p=none∧H'=upd H p (.tup [.int i,x])∧∀xs,SqL K H a xs→xs[i]? = some x,fun i H=>∃xs,SqL K H a xs∧xs.length≤i⟩
theorem a6q{P:Program}{w:World}{K:W.Frag}{elts:List Expr}{x1}{tpos:Pos}(a it e:Addr)(hne:e≠it):Turn P w K (.Tuple elts x1 tpos) (Ite K a) [e,it] e (fun i h=>(∃old,IsEnum h e it i old)∧h.IsListIter it a i) where
 mem:=by simp
 obj:=fun i h ⟨⟨old,st⟩,it1⟩ b hb=>by
  rcases List.mem_cons.mp hb with q | hb
  ·subst q
   exact⟨_,st,fun v z=>nomatch (show Data.fields _=Data.cell v from z)⟩
  ·have q:b=it:=by simpa using hb
   subst q
   obtain⟨o,e1,c,d⟩:=it1
   exact⟨o,e1,fun v z=>by rw[d]at z;cases z⟩
 keep:=fun i h h' ⟨⟨old,st⟩,it1⟩ k=>⟨⟨old,k e (by simp) _ st⟩,it1.at fun o q=>k it (by simp) o q⟩
 item:=by
  intro X hP hw hK hc i pins s σ H E I hf st hg
  subst hP hw hK
  obtain⟨⟨old,st⟩,it1⟩:=st
  obtain⟨xs,x,hq,hx⟩:=hg
  obtain⟨its,rv,p,hz⟩:=I.list hq
  obtain⟨u,hu,ru⟩:=rv.get hx
  refine wpAny_pyNext_enum_item st it1 p.isList (x:=u) (by simpa using hu) hne fun h' q1 q2 q3 q4 q5=>⟨_,rfl,?_⟩
  refine wpAny_letOwnedTupleGo_enum (s:={ s with heap:=h',toks:=s.toks+1 }) q1 fun h2 r1 r2=>?_
  have ne1:s.heap.objs.size≠e:=Nat.ne_of_gt (Heap.lt_size st)
  have k2:∀b o,b ∉ [e,it]→s.heap.get? b=some o→h2.get? b=some o:=fun b o hb q=>by
   have hb1:b≠e:=fun z=>hb (by simp[z])
   have hb2:b≠it:=fun z=>hb (by simp[z])
   exact(r2.2 b hb1).trans (q5 b o hb1 hb2 q)
  have I1:Inv X pins σ (upd H s.heap.objs.size (.tup [.int i,x])) { s with heap:=h2,toks:=s.toks+1 }:=I.turnedL k2 hf (Nat.le_refl _)
   ⟨by show 2≤sizeLine;decide,[.int i s.toks,u],.cons ⟨_,rfl⟩ (.cons ru .nil),⟨_,(r2.2 _ ne1).trans q3,rfl,_,rfl⟩⟩
  refine⟨.ref s.heap.objs.size,_,I1,rfl,⟨_,x,rfl,I.fresh,rfl,fun ys hy=>by rw[I.list_inj hy hq];exact hx⟩,⟨⟨_,by rw[show((i+1:Nat):Int)=(i:Int)+1 by omega];exact r1⟩,?_⟩,fun b hb=>?_⟩
  ·exact q2.extBut r2.extBut (Ne.symm hne)
  ·obtain⟨o,e1,_⟩:∃o,s.heap.get? b=some o∧True:=by
    rcases List.mem_cons.mp hb with q | hb
    ·exact⟨_,by rw[q];exact st,trivial⟩
    ·have q:b=it:=by simpa using hb
     obtain⟨o,e1,_⟩:=it1
     exact⟨o,by rw[q];exact e1,trivial⟩
   rw[d5 (Nat.ne_of_lt (Heap.lt_size e1))]
   exact(hf b hb).1
 done:=by
  intro X hP hw hK hc i pins s σ H E I hf st hg
  subst hP hw hK
  obtain⟨⟨old,st⟩,it1⟩:=st
  obtain⟨xs,hq,hx⟩:=hg
  obtain⟨its,rv,p,hz⟩:=I.list hq
  have hl:=rv.length
  exact wpAny_pyNext_enum_end (I.ok.hd hc) st it1 p.isList (by simp;omega) fun h' eb=>⟨rfl,I.turnedN (t':=s.toks) (fun b o hb q=>eb b o (fun z=>hb (by simp[z])) q) hf⟩
 self:=fun _ _ _ _ _ st h=>wpAny_pyIter_enum st.1.choose_spec h
theorem a6r{K:W.Frag}{a:Addr}{xs:List V}{g:TG}{tf:TT}{te:TE}{k:Nat}{σ0:St}{D:Addr}{Fin:Hp→Prop}{H1:Hp}(Pv:Nat→List V→Hp→Prop)(h0:Pv 0 [] (upd H1 D (.lst [])))(hl:∀i ys H,i≤xs.length→Pv i ys H→SqL K H a xs)
  (hs:∀i x ys H p,xs[i]? = some x→Pv i ys H→H p=none→g (.ref p) σ0 (upd H p (.tup [.int i,x])) fun σ2 H2=>(σ2.drop k=σ0.drop k∧σ2.length=σ0.length)∧tf σ2 H2 fun b H3 =>
   if b=true then te σ2 H3 fun y H4=>H4 D=some (.lst ys)∧ys.length<sizeLine∧Pv (i+1) (ys++[y]) (upd H4 D (.lst (ys++[y])))else Pv (i+1) ys H3)
  (hd:∀ys H,Pv xs.length ys H→Fin H):Q2 (Ite K a) g tf te k σ0 D Fin H1:=by
 refine⟨fun i m ys H=>m=xs.length-i∧i≤xs.length∧Pv i ys H,⟨xs.length,by simp,Nat.zero_le _,h0⟩,?_⟩
 rintro i m ys H ⟨rfl,hi,p⟩
 have q:=hl i ys H hi p
 by_cases hlt:i<xs.length
 ·refine .inr ⟨⟨xs,xs[i],q,by simp[hlt]⟩,Pv (i+1),fun ys' H' z=>⟨xs.length-(i+1),by omega,rfl,hlt,z⟩,fun v H' y=>?_⟩
  obtain⟨c,x,rfl,hc,rfl,y⟩:=y
  exact hs i x ys _ c (y xs q) p hc
 ·have e:i=xs.length:=by omega
  subst e
  exact .inl ⟨⟨xs,q,Nat.le_refl _⟩,hd ys H p⟩
theorem a7W{K:PySem.W.Frag}{a:Addr}{xs:List V}{g:TG}{tb:TS}{D:Ends}{σ:St}{H:Hp}(Pv:Nat→St→Hp→Prop)(h0:Pv 0 σ H)(hl:∀i σ H,i≤xs.length→Pv i σ H→SqL K H a xs)
  (hs:∀i x σ H p,xs[i]? = some x→Pv i σ H→H p=none→g (.ref p) σ (upd H p (.tup [.int i,x])) fun σ2 H2=>tb { D with nx:=Pv (i+1),ct:=Pv (i+1),bk:=D.nx } σ2 H2) (hd:∀σ H,Pv xs.length σ H→D.nx σ H) :
  ∃W:Nat→Nat→St→Hp→Prop,(∃m,W 0 m σ H)∧∀i m σ H,W i m σ H →
   ((Ite K a).stop i H∧D.nx σ H)∨((Ite K a).go i H∧∃N:St→Hp→Prop,(∀σ' H',N σ' H'→∃m',m'<m∧W (i+1) m' σ' H')∧∀x H',(Ite K a).yld i H x H'→g x σ H' fun σ2 H2=>tb { D with nx:=N,ct:=N,bk:=D.nx } σ2 H2):=by
 refine⟨fun i m σ H=>m=xs.length-i∧i≤xs.length∧Pv i σ H,⟨xs.length,by simp,Nat.zero_le _,h0⟩,?_⟩
 rintro i m σ H ⟨rfl,hi,p⟩
 have q:=hl i σ H hi p
 by_cases hlt:i<xs.length
 ·refine .inr ⟨⟨xs,xs[i],q,by simp[hlt]⟩,Pv (i+1),fun σ' H' z=>⟨xs.length-(i+1),by omega,rfl,hlt,z⟩,fun v H' y=>?_⟩
  obtain⟨c,x,rfl,hc,rfl,y⟩:=y
  exact hs i x σ _ c (y xs q) p hc
 ·have e:i=xs.length:=by omega
  subst e
  exact .inl ⟨⟨xs,q,Nat.le_refl _⟩,hd σ H p⟩
theorem a3F:bootBuiltins "enumerate" = some (.type "enumerate"):=by decide +kernel
def a5z(K:W.Frag)(ta:TA):TI:=fun σ H R=>ta σ H fun vs H1=>∃a,vs=[.ref a]∧(∃xs,SqL K H1 a xs)∧R (Ite K a) H1
section
variable {X:Cx}
theorem a2g{elts:List Expr}{x1}{tpos:Pos}{l:Expr}{ta:TA}{p pos:Pos}(hg:Gl X "enumerate")(hm:X.mg "enumerate" = none)(ha:PA X [l] ta)(hs:starEach [l] X.env=[(false,eval l X.env)]:=by rfl) :
  PI X (.Tuple elts x1 tpos) (.Call (.Name "enumerate" p) [l] [] pos) (a5z X.K ta):=by
 intro pins s σ H R I h
 refine Call_ (U1 I hg hm a3F (PyProof.Rows.callWith_type1 (i6 (ha pos pins s σ H _ I h) fun us s1 ⟨vs,H1,I1,r1,q1⟩=>?_) hs rfl))
 obtain⟨a,e,⟨xs,hq⟩,q⟩:=q1
 subst e
 obtain⟨u,rfl,ru⟩:=r1.one
 cases (show u=Value.ref a from ru)
 obtain⟨its,rv,pl,hz⟩:=I1.list hq
 refine call_enumerate_list pl.isList fun h' q1 q2 q3 q4=>?_
 have I2:Inv X pins σ H1 { s1 with heap:=h' }:=I1.kept (t':=s1.toks) q4
 refine wpAny_pyIter_enum (s:={ s1 with heap:=h' }) q1 ?_
 refine⟨s1.heap.objs.size+1,[s1.heap.objs.size+1,s1.heap.objs.size],_,_,H1,rfl,I2,a6q a s1.heap.objs.size _ (Nat.succ_ne_self _),⟨⟨_,q1⟩,q2⟩,fun b hb=>?_,q⟩
 have hb':s1.heap.objs.size≤b:=by
  rcases List.mem_cons.mp hb with z | z
  ·rw[z];exact Nat.le_succ _
  ·have z:b=s1.heap.objs.size:=by simpa using z
   rw[z];exact Nat.le_refl _
 exact I1.fpOk hb' (I1.hok.fresh hb')
end
section
variable {X:Cx}
theorem a5A{ys:List Str}:∀{us:List Value},Vals (ys.map V.str) us→StrsAre us ys:=by
 induction ys with
 | nil=>intro us r;rw[List.map_nil]at r;cases r;exact .nil
 | cons n ns ih =>
  intro us r
  rw[List.map_cons]at r
  cases r with
  | cons r1 r2 =>
   obtain⟨t,e⟩:=r1
   subst e
   exact .cons n t (ih r2)
theorem a9V:MtR X "str.join" (fun x vs H Q=>∃z a ys,x=.str z∧vs=[.ref a]∧SqL X.K H a (ys.map V.str)∧(ys.map (·.length)).sum+ys.length*z.length≤16777216∧Q (.str (Txt.join z ys)) H):=by
 intro pins s σ H x vs v us Q I rx rv h
 obtain⟨z,a,ys,rfl,rfl,hq,hp,q⟩:=h
 obtain⟨t,rfl⟩:=rx
 obtain⟨u,rfl,ru⟩:=rv.one
 cases (show u=Value.ref a from ru)
 obtain⟨its,r,pl,hz⟩:=I.list hq
 exact join_list pl.isList (by simpa using a5A r) hp fun t' k=>⟨.str (Txt.join z ys),H,I.tok _,⟨_,rfl⟩,q⟩
def W0(x:Str)(n:Int):Str:=if n<1 then Str.empty else if(n == 1 || x.length == 0)=true then x else⟨(List.replicate n.toNat x.cps).foldl (· ++ ·) #[]⟩
theorem a7X{x:Str}{n:Int}(h:x.length*n.toNat≤16777216)(h2 : -1000000000≤n)(h3:n≤1000000000)(h4:x.length≤1000000000):(decide (n < -(2 ^ 63:Int)) || decide (n≥2 ^ 63))=false∧(¬n<1→(n == 1 || x.length == 0)=false→¬((x.length:Int) > (2 ^ 63-1)/n))∧(Builtin.Str.tooLong (x.length*n.toNat)=false):=by
 refine⟨by simp;omega,fun h1 _=>?_,?_⟩
 ·have:(x.length:Int)*n≤2 ^ 63-1:=by
   have e:((x.length*n.toNat:Nat):Int)=(x.length:Int)*n:=by rw[Int.natCast_mul,Int.toNat_of_nonneg (by omega)]
   have:((x.length*n.toNat:Nat):Int)≤16777216:=Int.ofNat_le.mpr h
   omega
  have:=Int.le_ediv_of_mul_le (by omega:0<n) this
  omega
 ·have e:(2:Nat) ^ 24=16777216:=by decide
  unfold Builtin.Str.tooLong sizeLine
  rw[decide_eq_false (by omega)]
theorem a7Y{x:Str}{n:Int}(h:x.length*n.toNat≤16777216)(h1:¬n<1):(List.replicate n.toNat x.cps).foldl (· ++ ·) #[]=((List.replicate n.toNat x.cps.toList).flatten).toArray:=by
 have go:∀(k:Nat) (acc:List Nat),List.foldl (fun x1 x2=>x1++x2) acc.toArray (List.replicate k x.cps)=(acc++(List.replicate k x.cps.toList).flatten).toArray:=by
  intro k
  induction k with
  | zero=>intro acc;simp
  | succ k ih =>
   intro acc
   rw[List.replicate_succ,List.foldl_cons,List.replicate_succ,List.flatten_cons]
   have e:acc.toArray++x.cps=(acc++x.cps.toList).toArray:=by simp
   rw[e,ih,List.append_assoc]
 exact go n.toNat []
def a9g:R2:=fun x y H Q=>∃z n,x=.str z∧y=.int n∧z.length≤1000∧-1000000000≤n∧n≤10000∧Q (.str (W0 z n)) H
theorem a5B:OpR X (binaryOp .Mult) a9g:=by
 intro pins s σ H x y v u Q I rx ry h
 obtain⟨z,n,rfl,rfl,h1,h2,h3,q⟩:=h
 obtain⟨t,rfl⟩:=rx
 obtain⟨t2,rfl⟩:=ry
 have hm:z.length*n.toNat≤10000000:=by
  have:z.length*n.toNat≤1000*10000:=Nat.mul_le_mul h1 (by omega)
  omega
 obtain⟨f1,f2,f3⟩:=a7X (x:=z) (n:=n) (by omega) (by omega) (by omega) (by omega)
 refine P.mul_str f1 f2 (fun _ _=>f3) ?_
 have fin:∀(t':Tok) (k:Nat),EP X pins σ Q (.str (W0 z n) t') { s with toks:=k }:=fun t' k=>⟨.str (W0 z n),H,I.tok _,⟨_,rfl⟩,q⟩
 unfold W0 at fin
 by_cases c1:n<1
 ·rw[if_pos c1]
  simp only[if_pos c1]at fin
  exact⟨by decide,fin _ _⟩
 ·rw[if_neg c1]
  simp only[if_neg c1]at fin
  by_cases c2:(n == 1 || z.length == 0)=true
  ·rw[if_pos c2]
   simp only[if_pos c2]at fin
   exact fin _ s.toks
  ·rw[if_neg c2]
   simp only[if_neg c2]at fin
   refine⟨?_,fin _ _⟩
   show((List.replicate n.toNat z.cps).foldl (· ++ ·) #[]).size≤sizeLine
   rw[a7Y (by omega) c1]
   have e:(2:Nat) ^ 24=16777216:=by decide
   have:(List.replicate n.toNat z.cps.toList).flatten.length=n.toNat*z.cps.toList.length:=by simp
   simp only[List.size_toArray,this]
   have e2:z.cps.toList.length=z.length:=by simp[Str.length]
   rw[e2,Nat.mul_comm]
   unfold sizeLine
   omega
end
section
variable {X:Cx}
theorem b12:bootBuiltins "max" = some (.builtin "max"):=by decide +kernel
end
section
variable {X:Cx}{K:W.Frag}
theorem A8(hK:X.K=K:=by rfl):IxR X (a3u K):=hK▸a9O
theorem F7(hK:X.K=K:=by rfl):IxR X (a7L K):=hK▸b1U
theorem a01(hK:X.K=K:=by rfl):SlR X (a7M K):=hK▸a9P
theorem a6s(hK:X.K=K:=by rfl):OpR X (compareOp .NotIn) (rIn K true):=hK▸a3x
def a4M(K:W.Frag):List V→Hp→VK→Prop:=fun xs H Q=>∃p ys,xs=[.ref p]∧(SqL K H p ys∨SqT K H p ys)∧Q (.int ys.length) H
theorem n9(hK:X.K=K:=by rfl):CallR X (.builtin "len") (a4M K):=hK▸a3y
def a4N(K:W.Frag):List V→Hp→VK→Prop:=fun xs H Q=>∃p ys,xs=[.ref p]∧(SqL K H p ys∨SqT K H p ys)∧∀l,H l=none→Q (.ref l) (upd H l (.lst ys))
theorem Y1(hK:X.K=K:=by rfl):CallR X (.type "list") (a4N K):=hK▸a3A
theorem A5(hK:X.K=K:=by rfl):CallR X (.builtin "isinstance") (a3D K):=hK▸a7T
theorem a1v(hK:X.K=K:=by rfl):CallR X (.builtin "isinstance") (a5y K):=hK▸a6m
def a9h(K:W.Frag):V→List V→Hp→VK→Prop:=fun x vs H Q=>∃z a ys,x=.str z∧vs=[.ref a]∧SqL K H a (ys.map V.str)∧(ys.map (·.length)).sum+ys.length*z.length≤16777216∧Q (.str (Txt.join z ys)) H
theorem a7Z(hK:X.K=K:=by rfl):MtR X "str.join" (a9h K):=hK▸a9V
theorem a0u{es:List Expr}{k:Nat}{t:Y9}{n:Nat}{pos:Pos}(hc:X.calm=true)(h:PGs X es t)(hK:X.K=K:=by rfl)(hn:(assignEach es X.env).length=n:=by rfl)(hst:(assignEach es X.env).findIdx? (·.1)=none:=by rfl) :
  PG X (.Tuple es k pos) (a7D K n t):=hK▸b1C hc h hn hst
variable {o e:Expr}{es:List Expr}{to:TE}{t:TA}{name:Str}{apos cpos:Pos}{T id:String}{r:V→List V→Hp→VK→Prop}
theorem a9W(pa:PlainAttrs T)(slot:Slot T name id)(hty:typeOf (.builtin id)=pure (.type "method_descriptor"))(hm:MtR X id r)(ho:PE X o to)(hK:X.K=K:=by rfl)
  (hbase:attributeBase o name X.env (eval o X.env)=eval o X.env:=by rfl) (hline:(apos.endLine == cpos.line)=true:=by rfl):PE X (.Call (.Attribute o name apos) [] [] cpos) (a7N K T r to):=hK▸b1X pa slot hty hm ho hbase hline
theorem a3G(pa:PlainAttrs T)(slot:Slot T name id)(hty:typeOf (.builtin id)=pure (.type "method_descriptor"))(hm:MtR X id r)(ho:PE X o to)(ha:PA X (e::es) t)(hK:X.K=K:=by rfl)
  (hbase:attributeBase o name X.env (eval o X.env)=eval o X.env:=by rfl)
  (hfew:((backTo cpos (starEach (e::es) X.env)).all (fun x=>!x.1) && (backToKw cpos (keywordEach [] X.env)).all (fun x=>x.1.isSome)
   && decide ((e::es).length+([]:List Keyword).length+(if([]:List Keyword).isEmpty then 0 else 1)<30))=true:=by rfl)
  (hline:(apos.endLine == cpos.line)=true:=by rfl) (hs:starEach (e::es) X.env=(false,eval e X.env)::starEach es X.env:=by rfl) (hplain:(backTo cpos (starEach es X.env)).any (·.1)=false:=by rfl) :
  PE X (.Call (.Attribute o name apos) (e::es) [] cpos) (tBM K T r to t):=hK▸b29 pa slot hty hm ho ha hbase hfew hline hs hplain
end
section
variable {X:Cx}
def b13:V→Option Int→Option Int→Hp→VK→Prop:=fun x lo hi H Q=>∃z,x=.str z∧z.length≤sizeLine∧Q (.str (Txt.slice z lo hi)) H
theorem U7:SlR X b13:=by
 intro pins s σ H x v vl vu lo hi sl Q I rx hs pl pu h
 obtain⟨z,rfl,hz,q⟩:=h
 obtain⟨t,rfl⟩:=rx
 refine⟨"str",_,F.slot_str_getitem.lookup,typeIs_str _ _ _,?_⟩
 cases pl with
 | none =>
  cases pu with
  | none=>exact wpAny_getItem_str_slice (l:=none) (u:=none) (st:=none) hs rfl (post_val_or_str ⟨Nat.le_trans (Txt.slice_le z _ _) hz,fun t' k=>⟨.str _,H,I.tok _,⟨_,rfl⟩,q⟩⟩)
  | int j uj=>exact wpAny_getItem_str_slice (l:=none) (u:=some (j,uj)) (st:=none) hs rfl (post_val_or_str ⟨Nat.le_trans (Txt.slice_le z _ _) hz,fun t' k=>⟨.str _,H,I.tok _,⟨_,rfl⟩,q⟩⟩)
 | int i ui =>
  cases pu with
  | none=>exact wpAny_getItem_str_slice (l:=some (i,ui)) (u:=none) (st:=none) hs rfl (post_val_or_str ⟨Nat.le_trans (Txt.slice_le z _ _) hz,fun t' k=>⟨.str _,H,I.tok _,⟨_,rfl⟩,q⟩⟩)
  | int j uj=>exact wpAny_getItem_str_slice (l:=some (i,ui)) (u:=some (j,uj)) (st:=none) hs rfl (post_val_or_str ⟨Nat.le_trans (Txt.slice_le z _ _) hz,fun t' k=>⟨.str _,H,I.tok _,⟨_,rfl⟩,q⟩⟩)
end
theorem U8{X:Cx}{x:Str}{j:Nat}{pos:Pos}{es:List Expr}{t:TA}(hr:PA X es t):PA X (.Constant (.str x) j pos::es) (F5 (tC (.str x)) t):=b0 u7 hr
theorem a1w:∀{ns:List Int} {us:List Value},Vals (ns.map V.int) us→∃ps:List (Int×Tok),us=ps.map (fun p=>Value.int p.1 p.2)∧ps.map (·.1)=ns
 | [],_,.nil=>⟨[],rfl,rfl⟩
 | n::ns,_,.cons r t=>by
  obtain⟨tk,rfl⟩:=r
  obtain⟨ps,rfl,e⟩:=a1w t
  exact⟨(n,tk)::ps,rfl,by rw[List.map_cons,e]⟩
section
variable {X:Cx}
theorem a6t{K:W.Frag}(hK:X.K=K:=by rfl):b1H X (a3u K):=by
 subst hK
 intro pins s σ H x y v u Q I rx ry h
 obtain⟨p,xs,i,z,rfl,rfl,hq,he,q⟩:=h
 cases rx
 obtain⟨t,rfl⟩:=ry
 obtain⟨its,r,pl,hz⟩:=I.list hq
 obtain⟨j,h1,h2,h3,h4,h5⟩:=a0r he
 obtain⟨w,ew,rw'⟩:=r.get h2
 have hl:=r.length
 have hn:=P9
 have fin:EP X pins σ Q w s:=⟨z,H,I,rw',q⟩
 by_cases h0:0≤i
 ·have hj:i.toNat=j:=by
   rw[seqIndex_of h0 h5]at h1
   exact Option.some.inj h1
  exact wpAny_getItem_list pl.isList h0 (by omega) (by rw[hj];simpa using ew) fin
 ·have hj:(i+(its.toArray.size:Int)).toNat=j:=by
   rw[seqIndex_neg (by omega) h4]at h1
   rw[List.size_toArray,← hl]
   exact Option.some.inj h1
  exact wpAny_getItem_list_neg pl.isList (by omega) (by rw[List.size_toArray]<;>omega) (by omega) (by rw[hj];simpa using ew) fin
end
def Gd(n:Nat)(lt:Nat→Nat→Bool){α:Type}:KasT α→(α→Prop)→Prop
 | .ret a,P=>P a
 | .ask i j k,P=>i<n∧j<n∧Gd n lt (k (lt i j)) P
theorem Gd.mono{n:Nat}{lt:Nat→Nat→Bool}{α:Type}{P P':α→Prop}(h:∀a,P a→P' a):∀{t:KasT α},Gd n lt t P→Gd n lt t P'
 | .ret a,g=>h a g
 | .ask i j k,g=>⟨g.1,g.2.1,Gd.mono h g.2.2⟩
theorem Gd.bind{n:Nat}{lt:Nat→Nat→Bool}{α β:Type}{P:β→Prop}{f:α→KasT β}:∀{t:KasT α},Gd n lt t (fun a=>Gd n lt (f a) P)→Gd n lt (t.bind f) P
 | .ret a,g=>g
 | .ask i j k,g=>⟨g.1,g.2.1,Gd.bind (t:=k (lt i j)) g.2.2⟩
theorem Gd.wp{n:Nat}{lt:Nat→Nat→Bool}{α:Type}{cmp:Nat→Nat→(Bool→Shared→Prop)→Shared→Prop}{s:Shared}(hc:∀i j C,i<n→j<n→C (lt i j) s→cmp i j C s){P:α→Prop}{Q:α→Shared→Prop}(q:∀a,P a→Q a s):∀{t:KasT α},Gd n lt t P→t.kasWp cmp Q s
 | .ret a,g=>q a g
 | .ask i j k,g=>hc i j _ g.1 g.2.1 (Gd.wp hc q (t:=k (lt i j)) g.2.2)
def ga(p:Array Nat)(k:Nat):Nat:=p.getD k 0
theorem a1x(p:Array Nat)(k:Nat):ga p k=(p[k]?).getD 0:=by
 unfold ga;simp[Array.getD_eq_getD_getElem?]
structure TPre(lt:Nat→Nat→Bool):Prop where
 irr:∀i,lt i i=false
 tr:∀i j k,lt j i=false→lt k j=false→lt k i=false
 asy:∀i j,lt i j=true→lt j i=false
section
variable {n:Nat}{lt:Nat→Nat→Bool}
def Up(lt:Nat→Nat→Bool)(p:Array Nat)(m:Nat):Prop:=∀i j,i≤j→j<m→lt (ga p j) (ga p i)=false
def Dn(lt:Nat→Nat→Bool)(p:Array Nat)(m:Nat):Prop:=∀i j,i≤j→j<m→lt (ga p i) (ga p j)=false
def Pmn(n:Nat)(p:Array Nat):Prop:=p.toList.Perm (List.range n)
theorem Pmn.size{p:Array Nat}(h:Pmn n p):p.size=n:=by have:=h.length_eq;simpa using this
theorem Pmn.bd{p:Array Nat}(h:Pmn n p){k:Nat}(hk:k<n):ga p k<n:=by
 have hs:=h.size
 have:ga p k∈p.toList:=by
  have e:ga p k=p[k]'(by omega):=by unfold ga;simp[Array.getD,hs,hk]
  rw[e];exact Array.getElem_mem_toList _
 exact List.mem_range.mp (h.mem_iff.mp this)
theorem Pmn.rev{p:Array Nat}(h:Pmn n p)(i j:Nat):Pmn n (kas_rev p i j):=((Array.perm_iff_toList_perm.mp (mirror_perm p i j _)).trans h)
theorem Pmn.bub{p:Array Nat}(h:Pmn n p)(i j:Nat):Pmn n (bubble p i j):=((Array.perm_iff_toList_perm.mp (bubble_perm p i j)).trans h)
theorem a0a{p:Array Nat}{i j:Nat}(hj:j≤p.size)(k:Nat):ga (kas_rev p i j) k=if i≤k∧k<j then ga p (i+j-1-k)else ga p k:=by
 rw[a1x,kas_rev,getElem?_mirror_all hj]
 split<;>rw[a1x]
theorem b14{p:Array Nat}{src d:Nat}(hs:src<p.size)(hd:d≤src)(k:Nat):ga (bubble p src d) k=if k=src-d then ga p src else if src-d<k∧k≤src then ga p (k-1)else ga p k:=by
 rw[a1x,getElem?_bubble hs d hd]
 split
 ·rw[a1x]
 ·split<;>rw[a1x]
theorem a3H(T:TPre lt){p:Array Nat}(hp:Pmn n p):∀(f k:Nat),1≤k→k+f≤n→Up lt p k→Gd n lt (kas_asc p f k) (fun m=>k≤m∧m≤k+f∧Up lt p m∧(m<k+f→lt (ga p m) (ga p (m-1))=true))
 | 0,k,_,_,u=>⟨Nat.le_refl _,Nat.le_refl _,u,fun z=>absurd z (by omega)⟩
 | f+1,k,h1,h2,u=>by
  refine⟨hp.bd (by omega),hp.bd (by omega),?_⟩
  cases c:lt (p.getD k 0) (p.getD (k-1) 0)with
  | true=>simp only[if_true];exact⟨Nat.le_refl _,by omega,u,fun _=>c⟩
  | false =>
   simp only[Bool.false_eq_true,if_false]
   refine(a3H T hp f (k+1) (by omega) (by omega) fun i j hij hj=>?_).mono fun m h=>⟨by omega,by omega,h.2.2.1,fun z=>h.2.2.2 (by omega)⟩
   by_cases hjk:j<k
   ·exact u i j hij hjk
   ·have e:j=k:=by omega
    subst e
    by_cases hik:i=j
    ·subst hik;exact T.irr _
    ·exact T.tr _ _ _ (u i (j-1) (by omega) (by omega)) c
theorem a0v(T:TPre lt):∀(f:Nat) (p:Array Nat) (k q:Nat),Pmn n p→q+1≤k→k+f≤n→Dn lt p k→(∀i,k-(q+1)≤i→i<k→lt (ga p (k-1)) (ga p i)=false∧lt (ga p i) (ga p (k-1))=false) →
  Gd n lt (kas_desc f p k q) (fun r=>Pmn n r.1∧k≤r.2.1∧r.2.1≤k+f∧r.2.2+1≤r.2.1∧Dn lt r.1 r.2.1∧∀i,r.2.1-(r.2.2+1)≤i→i<r.2.1→lt (ga r.1 (r.2.1-1)) (ga r.1 i)=false∧lt (ga r.1 i) (ga r.1 (r.2.1-1))=false)
 | 0,p,k,q,hp,hq,hk,d,eq=>⟨hp,Nat.le_refl _,Nat.le_refl _,hq,d,eq⟩
 | f+1,p,k,q,hp,hq,hk,d,eq=>by
  refine⟨hp.bd (by omega),hp.bd (by omega),?_⟩
  have ext:∀p':Array Nat,Dn lt p' k→(lt (ga p' (k-1)) (ga p' k)=false)→Dn lt p' (k+1):=fun p' d' c i j hij hj=>by
   by_cases hjk:j<k
   ·exact d' i j hij hjk
   ·have e:j=k:=by omega
    subst e
    by_cases hik:i=j
    ·subst hik;exact T.irr _
    ·exact T.tr _ _ _ c (d' i (j-1) (by omega) (by omega))
  cases c:lt (p.getD k 0) (p.getD (k-1) 0)with
  | true =>
   simp only[if_true]
   have c':lt (ga p (k-1)) (ga p k)=false:=T.asy _ _ c
   have one:∀p':Array Nat,∀i,k+1-(0+1)≤i→i<k+1→lt (ga p' (k+1-1)) (ga p' i)=false∧lt (ga p' i) (ga p' (k+1-1))=false:=fun p' i h1 h2=>by
    have e:i=k+1-1:=by omega
    rw[e];exact⟨T.irr _,T.irr _⟩
   by_cases hq0:q > 0
   ·rw[if_pos hq0]
    have hps:=hp.size
    have gr:=a0a (p:=p) (i:=k-(q+1)) (j:=k) (by omega)
    have eqv:∀i,i<k→lt (ga (kas_rev p (k-(q+1)) k) i) (ga p i)=false∧lt (ga p i) (ga (kas_rev p (k-(q+1)) k) i)=false:=fun i hi=>by
     rw[gr]
     split
     ·rename_i z
      have a:=eq (k-(q+1)+k-1-i) (by omega) (by omega)
      have b:=eq i z.1 z.2
      exact⟨T.tr _ _ _ b.1 a.2,T.tr _ _ _ a.1 b.2⟩
     ·exact⟨T.irr _,T.irr _⟩
    have gk:ga (kas_rev p (k-(q+1)) k) k=ga p k:=by rw[gr,if_neg (by omega)]
    have dr:Dn lt (kas_rev p (k-(q+1)) k) k:=fun i j hij hj=>T.tr _ _ _ (T.tr _ _ _ (eqv j hj).2 (d i j hij hj)) (eqv i (by omega)).1
    exact(a0v T f _ (k+1) 0 (hp.rev _ _) (by omega) (by omega) (ext _ dr (by rw[gk];exact T.tr _ _ _ c' (eqv (k-1) (by omega)).1)) (one _)).mono fun r h=>⟨h.1,by omega,by omega,h.2.2.2⟩
   ·rw[if_neg hq0]
    exact(a0v T f _ (k+1) 0 hp (by omega) (by omega) (ext _ d c') (one _)).mono fun r h=>⟨h.1,by omega,by omega,h.2.2.2⟩
  | false =>
   simp only[Bool.false_eq_true,if_false]
   refine⟨hp.bd (by omega),hp.bd (by omega),?_⟩
   cases e:lt (p.getD (k-1) 0) (p.getD k 0)with
   | true=>simp only[if_true];exact⟨hp,Nat.le_refl _,Nat.le_add_right _ _,hq,d,eq⟩
   | false =>
    simp only[Bool.false_eq_true,if_false]
    refine(a0v T f p (k+1) (q+1) hp (by omega) (by omega) (ext _ d e) fun i h1 h2=>?_).mono fun r h=>⟨h.1,by omega,by omega,h.2.2.2⟩
    rw[Nat.add_sub_cancel]
    by_cases hik:i=k
    ·subst hik;exact⟨T.irr _,T.irr _⟩
    ·have a:=eq i (by omega) (by omega)
     exact⟨T.tr _ _ _ a.1 c,T.tr _ _ _ e a.2⟩
theorem a3I(T:TPre lt){p:Array Nat}{k:Nat}(hp:Pmn n p)(h1:1≤k)(hk:k≤n)(d:Dn lt p k):Gd n lt (kas_tail3 k n p) (fun r=>Pmn n r.2∧1≤r.1∧r.1≤n∧Up lt r.2 r.1):=by
 have hps:=hp.size
 have gr:=a0a (p:=p) (i:=0) (j:=k) (by omega)
 refine Gd.bind ((a3H T (hp.rev 0 k) (n-k) k h1 (by omega) fun i j hij hj=>?_).mono fun m h=>⟨hp.rev 0 k,by show 1≤m;omega,by show m≤n;omega,h.2.2.1⟩)
 rw[gr,gr,if_pos (by omega),if_pos (by omega)]
 exact d _ _ (by omega) (by omega)
theorem a0R(T:TPre lt){p:Array Nat}{k:Nat}(hp:Pmn n p)(hk:k+1≤n)(d:Dn lt p (k+1)):Gd n lt (kas_descPart k n p) (fun r=>Pmn n r.2∧1≤r.1∧r.1≤n∧Up lt r.2 r.1):=by
 refine Gd.bind ((a0v T (n-(k+1)) p (k+1) 0 hp (by omega) (by omega) d fun i h1 h2=>?_).mono fun r h=>?_)
 ·have e:i=k+1-1:=by omega
  rw[e];exact⟨T.irr _,T.irr _⟩
 ·obtain⟨p',m,q⟩:=r
  obtain⟨hp',hm1,hm2,hq,d',eq⟩:=h
  dsimp only at *
  have hps:=hp'.size
  split
  ·have gr:=a0a (p:=p') (i:=m-(q+1)) (j:=m) (by omega)
   have eqv:∀i,i<m→lt (ga (kas_rev p' (m-(q+1)) m) i) (ga p' i)=false∧lt (ga p' i) (ga (kas_rev p' (m-(q+1)) m) i)=false:=fun i hi=>by
    rw[gr]
    split
    ·rename_i z
     have a:=eq (m-(q+1)+m-1-i) (by omega) (by omega)
     have b:=eq i z.1 z.2
     exact⟨T.tr _ _ _ b.1 a.2,T.tr _ _ _ a.1 b.2⟩
    ·exact⟨T.irr _,T.irr _⟩
   exact a3I T (hp'.rev _ _) (by omega) (by omega) fun i j hij hj=>T.tr _ _ _ (T.tr _ _ _ (eqv j hj).2 (d' i j hij hj)) (eqv i (by omega)).1
  ·exact a3I T hp' (by omega) (by omega) d'
theorem a70(T:TPre lt){p:Array Nat}(hp:Pmn n p)(h1:1≤n):Gd n lt (kas_count n p) (fun r=>Pmn n r.2∧1≤r.1∧r.1≤n∧Up lt r.2 r.1):=by
 have hps:=hp.size
 refine Gd.bind ((a3H T hp (n-1) 1 (Nat.le_refl _) (by omega) fun i j hij hj=>?_).mono fun m h=>?_)
 ·have e:i=j:=by omega
  rw[e];exact T.irr _
 ·obtain⟨hm1,hm2,u,z⟩:=h
  split
  ·exact⟨hp,hm1,by omega,u⟩
  ·rename_i ne
   have hlt:m<n:=by
    have:m≠n:=fun q=>ne (by rw[q];exact beq_self_eq_true _)
    omega
   have zl:=z (by omega)
   split
   ·rename_i m1
    refine⟨hp.bd (by omega),hp.bd (by omega),?_⟩
    cases c:lt (p.getD 0 0) (p.getD (m-1) 0)with
    | true=>simp only[if_true];exact⟨hp,hm1,by omega,u⟩
    | false =>
     simp only[Bool.false_eq_true,if_false]
     have gr:=a0a (p:=p) (i:=0) (j:=m) (by omega)
     refine a0R T (hp.rev 0 m) (by omega) fun i j hij hj=>?_
     have all:∀a b,a<m→b<m→lt (ga p a) (ga p b)=false:=fun a b ha hb =>
      T.tr _ _ _ (u b (m-1) (by omega) (by omega)) (T.tr _ _ _ c (u 0 a (by omega) ha))
     rw[gr,gr]
     by_cases hjm:j<m
     ·rw[if_pos (by omega),if_pos (by omega)];exact all _ _ (by omega) (by omega)
     ·have e:j=m:=by omega
      subst e
      rw[if_neg (show ¬(0≤j∧j<j) by omega)]
      by_cases hij':i=j
      ·subst hij';rw[if_neg (by omega)];exact T.irr _
      ·rw[if_pos (by omega)]
       exact T.tr _ _ _ (T.asy _ _ zl) (all _ _ (by omega) (by omega))
   ·rename_i m1
    have e:m=1:=by omega
    subst e
    refine a0R T hp (by omega) fun i j hij hj=>?_
    by_cases hij':i=j
    ·subst hij';exact T.irr _
    ·have e1:i=0:=by omega
     have e2:j=1:=by omega
     subst e1 e2
     exact T.asy _ _ zl
theorem a02(T:TPre lt){p:Array Nat}(hp:Pmn n p){k:Nat}(hk:k<n)(u:Up lt p k):∀(f l r:Nat),l≤r→r≤k→r-l≤f→(∀i,i<l→lt (ga p k) (ga p i)=false)→(∀i,r≤i→i<k→lt (ga p i) (ga p k)=false) →
  Gd n lt (kas_place p k f l r) (fun m=>m≤k∧(∀i,i<m→lt (ga p k) (ga p i)=false)∧∀i,m≤i→i<k→lt (ga p i) (ga p k)=false)
 | 0,l,r,h1,h2,h3,a,b=>⟨by omega,a,fun i hi=>b i (by omega)⟩
 | f+1,l,r,h1,h2,h3,a,b=>by
  show Gd n lt (if l≥r then _ else _) _
  split
  ·exact⟨by omega,a,fun i hi=>b i (by omega)⟩
  ·refine⟨hp.bd hk,hp.bd (by omega),?_⟩
   cases c:lt (p.getD k 0) (p.getD ((l+r)/2) 0)with
   | true =>
    simp only[if_true]
    refine a02 T hp hk u f l ((l+r)/2) (by omega) (by omega) (by omega) a fun i hi hik=>?_
    exact T.tr _ _ _ (T.asy _ _ c) (u ((l+r)/2) i hi hik)
   | false =>
    simp only[Bool.false_eq_true,if_false]
    refine a02 T hp hk u f ((l+r)/2+1) r (by omega) (by omega) (by omega) (fun i hi=>?_) b
    exact T.tr _ _ _ (u i ((l+r)/2) (by omega) (by omega)) c
theorem a6u(T:TPre lt):∀(f:Nat) (p:Array Nat) (k:Nat),Pmn n p→k+f=n→Up lt p k→Gd n lt (kas_bin f p k) (fun p'=>Pmn n p'∧Up lt p' n)
 | 0,p,k,hp,hk,u=>by
  have e:k=n:=by omega
  subst e;exact⟨hp,u⟩
 | f+1,p,k,hp,hk,u=>by
  have hps:=hp.size
  refine Gd.bind ((a02 T hp (by omega) u k 0 k (by omega) (by omega) (by omega) (fun i hi=>by omega) (fun i h1 h2=>by omega)).mono fun l h=>?_)
  obtain⟨hl,a,b⟩:=h
  have gb:=b14 (p:=p) (src:=k) (d:=k-l) (by omega) (by omega)
  refine a6u T f _ (k+1) (hp.bub _ _) (by omega) fun i j hij hj=>?_
  rw[gb,gb]
  have el:k-(k-l)=l:=by omega
  rw[el]
  by_cases e:i=j
  ·subst e;exact T.irr _
  by_cases hjl:j=l
  ·rw[if_pos hjl,if_neg (by omega),if_neg (by omega)];exact a i (by omega)
  ·rw[if_neg hjl]
   by_cases hil:i=l
   ·rw[if_pos hil,if_pos (by omega)];exact b (j-1) (by omega) (by omega)
   ·rw[if_neg hil]
    by_cases h1:l<j∧j≤k
    ·rw[if_pos h1]
     by_cases h2:l<i∧i≤k
     ·rw[if_pos h2];exact u _ _ (by omega) (by omega)
     ·rw[if_neg h2];exact u _ _ (by omega) (by omega)
    ·rw[if_neg h1,if_neg (by omega)];exact u _ _ hij (by omega)
theorem a9X(T:TPre lt)(h1:1≤n):Gd n lt (kas_sort n) (fun p=>Pmn n p∧Up lt p n):=by
 refine Gd.bind ((a70 T (p:=List.toArray (List.range n)) (by unfold Pmn;simp) h1).mono fun r h=>?_)
 obtain⟨hp,m1,m2,u⟩:=h
 split
 ·exact a6u T _ _ _ hp (by omega) (by rw[Nat.max_eq_left m1];exact u)
 ·have e:r.1=n:=by omega
  exact⟨hp,e▸u⟩
end
theorem P6:∀a:List Int,HT.lexLt a a=false
 | []=>rfl
 | x::xs=>by rw[HT.lexLt_cons,if_pos rfl];exact P6 xs
theorem a2h:∀a b:List Int,HT.lexLt a b=true→HT.lexLt b a=false
 | [],[],h=>by cases h
 | [],_::_,_=>rfl
 | _::_,[],h=>by cases h
 | x::xs,y::ys,h=>by
  rw[HT.lexLt_cons]at h ⊢
  by_cases e:x=y
  ·rw[if_pos e]at h;rw[if_pos e.symm];exact a2h xs ys h
  ·rw[if_neg e]at h;rw[if_neg (Ne.symm e)]
   have:=of_decide_eq_true h
   exact decide_eq_false (by omega)
theorem a3J:∀a b c:List Int,HT.lexLt b a=false→HT.lexLt c b=false→HT.lexLt c a=false
 | [],[],_,_,h=>h
 | [],y::ys,[],_,h=>rfl
 | [],y::ys,z::zs,_,_=>rfl
 | x::xs,[],_,h,_=>by cases h
 | x::xs,y::ys,[],_,h=>by cases h
 | x::xs,y::ys,z::zs,h1,h2=>by
  rw[HT.lexLt_cons]at h1 h2 ⊢
  by_cases e1:y=x
  ·rw[if_pos e1]at h1
   by_cases e2:z=y
   ·rw[if_pos e2]at h2;rw[if_pos (e2.trans e1)];exact a3J xs ys zs h1 h2
   ·rw[if_neg e2]at h2;rw[if_neg (fun q=>e2 (q.trans e1.symm))];rw[← e1];exact h2
  ·rw[if_neg e1]at h1
   have:=of_decide_eq_false h1
   by_cases e2:z=y
   ·rw[if_neg (fun q=>e1 (e2.symm.trans q)),e2];exact h1
   ·rw[if_neg e2]at h2
    have:=of_decide_eq_false h2
    rw[if_neg (by omega)]
    exact decide_eq_false (by omega)
theorem a71(key:Nat→List Int):TPre (fun i j=>HT.lexLt (key i) (key j)):=⟨fun i=>P6 _,fun i j k h1 h2=>a3J _ _ _ h1 h2,fun i j h=>a2h _ _ h⟩
section
variable {prog:Program}{w:World}{A:Around}{E:Value→Shared→Prop}{s:Shared}{b fin:Bool}{Q:Bool→Shared→Prop}
theorem a0S:∀{vs ws:List Value} {ns ms:List Int} (i:Nat),IntsAre vs ns→IntsAre ws ms→fin=decide (ns.length<ms.length)→Q (HT.lexLt ns ms) s→KatLex prog w A true fin Q (vs.zip ws) i s
 | _,_,_,_,i,.nil,.nil,hf,h=>by rw[List.zip_nil_left];refine kat_nil ?_;rw[hf];exact h
 | _,_,_,_,i,.nil,.cons c u t,hf,h=>by
  rw[List.zip_nil_left];refine kat_nil ?_;rw[hf,decide_eq_true (by simp)];exact h
 | _,_,_,_,i,.cons a t r,.nil,hf,h=>by
  rw[List.zip_nil_right];refine kat_nil ?_;rw[hf,decide_eq_false (by simp)];exact h
 | _,_,_,_,i,.cons (ns:=ns) a t r,.cons (ns:=ms) c u r',hf,h=>by
  rw[List.zip_cons_cons]
  rw[HT.lexLt_cons]at h
  refine kat_cons (wpAny_eqBool_int (kat_go (fun e=>?_) fun e=>?_))
  ·rw[if_pos (by simpa using e)]at h
   exact kat_yes (a0S (i+1) r r' (by rw[hf];simp) h)
  ·rw[if_neg (by simpa using e)]at h
   refine kat_no ?_
   by_cases hi:i=0
   ·subst hi
    show wpAny _ _ (oneLt' true _ _) _ _ _
    exact oneLt_int h
   ·have e0:(true && i == 0)=false:=by simpa using hi
    rw[e0]
    exact kat_one _ _ (PyProof.Rows.lt_int h)
def TupKey(h:Heap)(v:Value)(k:List Int):Prop:=∃a o xs m,v=.ref a∧h.get? a=some o∧o.cls=.type "tuple"∧o.data=.seq xs m∧IntsAre xs.toList k∧k≠[]
theorem TupKey.keeps{h h':Heap}{v:Value}{k:List Int}(t:TupKey h v k)(kp:∀a o,h.get? a=some o→h'.get? a=some o):TupKey h' v k:=by
 obtain⟨a,o,xs,m,e,ho,r⟩:=t
 exact⟨a,o,xs,m,e,kp _ _ ho,r⟩
theorem TupKey.lt{v u:Value}{k l:List Int}{C:Bool→Shared→Prop}{E:Value→Shared→Prop}(t:TupKey s.heap v k)(t':TupKey s.heap u l)(h:C (HT.lexLt k l) s):wpAny (model prog w) A (keyLt' (tuples' true) v u) C E s:=by
 obtain⟨a,o,xs,m,rfl,ho,_,hd,hi,_⟩:=t
 obtain⟨a',o',xs',m',rfl,ho',_,hd',hi',_⟩:=t'
 have z1:xs.size=k.length:=by rw[← hi.length];simp
 have z2:xs'.size=l.length:=by rw[← hi'.length];simp
 exact kat_lt ho hd ho' hd' (a0S 0 hi hi' (by rw[z1,z2]) h)
def TKs(h:Heap):List Value→List (List Int)→Prop
 | [],[]=>True
 | v::vs,k::ks=>TupKey h v k∧TKs h vs ks
 | _,_=>False
theorem TKs.keeps{h h':Heap}(kp:∀a o,h.get? a=some o→h'.get? a=some o):∀{vs:List Value} {ks:List (List Int)},TKs h vs ks→TKs h' vs ks
 | [],[],_=>trivial
 | [],_::_,t=>t.elim
 | _::_,[],t=>t.elim
 | v::vs,k::ks,t=>⟨t.1.keeps kp,TKs.keeps kp t.2⟩
theorem TKs.len{h:Heap}:∀{vs:List Value} {ks:List (List Int)},TKs h vs ks→vs.length=ks.length
 | [],[],_=>rfl
 | [],_::_,t=>t.elim
 | _::_,[],t=>t.elim
 | v::vs,k::ks,t=>by simp[t.2.len]
theorem TKs.at{h:Heap}:∀{vs:List Value} {ks:List (List Int)} (i:Nat),TKs h vs ks→i<vs.length→TupKey h (vs.getD i Value.none) (ks.getD i [])
 | [],_,i,_,hi=>absurd hi (Nat.not_lt_zero _)
 | _::_,[],_,t,_=>t.elim
 | v::vs,k::ks,0,t,_=>t.1
 | v::vs,k::ks,i+1,t,hi=>TKs.at (vs:=vs) (ks:=ks) i t.2 (by simpa using hi)
end
def VKs(K:W.Frag)(H:Hp):List V→List (List Int)→Prop
 | [],[]=>True
 | v::vs,k::ks=>(∃a,v=.ref a∧SqT K H a (k.map V.int)∧k≠[])∧VKs K H vs ks
 | _,_=>False
theorem a0b:∀ps:List (Int×Tok),IntsAre (ps.map fun p=>Value.int p.1 p.2) (ps.map (·.1))
 | []=>.nil
 | p::ps=>.cons p.1 p.2 (a0b ps)
theorem a2M:∀{ys:List V} {us:List Value} (p:List Nat),Vals ys us→(∀i∈p,i<ys.length)→Vals (p.map fun i=>ys.getD i .non) (p.map fun i=>us.getD i Value.none)
 | _,_,[],_,_=>.nil
 | ys,us,i::p,r,h=>by
  have hi:=h i (by simp)
  obtain⟨u,e,ru⟩:=r.get (List.getElem?_eq_getElem hi)
  refine .cons ?_ (a2M p r fun j hj=>h j (by simp[hj]))
  have e1:ys.getD i .non=ys[i]:=by simp[hi]
  have e2:us.getD i Value.none=u:=by simp[e]
  show RelV (ys.getD i .non) (us.getD i Value.none)
  rw[e1,e2];exact ru
section
variable {X:Cx}
theorem a4O{pins:List (Addr×Obj)}{σ:St}{H:Hp}{s:Shared}(I:Inv X pins σ H s):∀{ys:List V} {us:List Value} {ks:List (List Int)},Vals ys us→VKs X.K H ys ks→TKs s.heap us ks
 | [],_,[],.nil,_=>trivial
 | [],_,_::_,_,h=>h.elim
 | _::_,_,[],_,h=>h.elim
 | v::ys,_,k::ks,.cons r rs,⟨⟨a,e,hq,hn⟩,h⟩=>by
  refine⟨?_,a4O I rs h⟩
  subst e
  obtain⟨its,rv,⟨o,ho,hc,n,hd⟩,_⟩:=I.tuple hq
  obtain⟨ps,rfl,ep⟩:=a1w rv
  refine⟨a,o,_,n,r,ho,hc,hd,?_,hn⟩
  rw[← ep]
  exact a0b ps
end
namespace F'
end F'
open PySem PySem.Spec PyProof.Rows PySem.W
section
variable {X:Cx}{pins:List (Addr×Obj)}{σ:St}{H:Hp}{s:Shared}{a:Addr}
theorem Inv.trackO{oe:Obj}{vs:Array Value}{k:Nat}{u:HO}(I:Inv X pins σ H s)(ni:¬Imp X pins H a)(e:s.heap.get? a=some oe)(d:oe.data=.seq vs k)(new:ObjOk X.prog X.w (upd H a u) s.heap a u):Inv X pins σ (upd H a u) s:=by
 have fr:H a=none:=by
  cases q:H a with
  | none=>rfl
  | some v=>exact absurd (.inl (by rw[q];exact nofun)) ni
 refine⟨I.ok,I.os,I.bare,⟨I.base.keep,I.base.slot,fun b o e1 n hx=>?_,I.base.there,fun b xs q=>?_,fun b o u q=>?_,fun b ps q=>?_⟩,I.loc,I.cell,?_,fun y c q=>?_,fun p hp=>?_,fun b u q=>?_,I.len⟩
 ·rw[d5 (fun z=>ni (.inr (.inl ⟨by rw[← z];exact hx,o,by rw[← z];exact e1⟩)))]
  exact I.base.free b o e1 n hx
 ·have q1:=I.base.tups b xs q
  rw[d5 (g9 q1 fr)];exact q1
 ·have q1:=I.base.frzs b o u q
  rw[d5 (g9 q1 fr)];exact q1
 ·obtain⟨more,q1⟩:=I.base.tbls b ps q
  exact⟨more,by rw[d5 (g9 q1 fr)];exact q1⟩
 ·rw[d5 fun z=>?_]
  ·exact I.free
  ·obtain⟨m,⟨o,es,ep,ho,hd,_⟩,_⟩:=I.loc
   rw[z,e]at ho;cases ho
   rw[d]at hd;cases hd
 ·rw[d5 fun z=>?_]
  ·exact I.freeC y c q
  ·obtain⟨v,o,ho,hd⟩:=I.cell y c q
   rw[z,e]at ho;cases ho
   rw[d]at hd;cases hd
 ·obtain⟨h1,h2,h3,h4,h5⟩:=I.pin p hp
  exact⟨h1,by rw[d5 (fun z=>ni (.inr (.inr ⟨p,hp,z⟩)))];exact h2,h3,h4,h5⟩
 ·by_cases hb:b=a
  ·subst hb
   rw[i0]at q;cases q
   exact new
  ·rw[d5 hb]at q
   refine(I.hok b u q).stay (fun _ _ _ z=>z) (fun c z=>?_) (fun c xs z=>?_) fun c ob u z=>?_
   ·rw[d5 (g9 z fr)];exact z
   ·rw[d5 (g9 z fr)];exact z
   ·rw[d5 (g9 z fr)];exact z
end
abbrev TH:=Value→Option Addr→Addr→Ends→St→Hp→Prop
def PH(X:Cx)(hs:List ExceptHandler)(th:TH):Prop :=
 ∀(pins:List (Addr×Obj)) (s:Shared) (σ:St) (H:Hp) (a:Addr) (cls:Value) (cx:Option Addr) (B:Heap) (D:Ends),Inv X pins σ H s→XAt X pins H s a cls cx B .fly→th cls cx a D σ H→wpAny (model X.prog X.w) X.A (handleBy (.ref a) X.env hs) (SP X pins D) X.xe s
def a9j:TH:=fun _ _ _ _ _ _=>False
def b15(K:W.Frag)(C:Addr)(i:Nat)(ts:Addr→TS)(i5:TH):TH:=fun cls cx a D σ H =>
 (W.exmOne K cls (.ref C)=some true∧ts a { nx:=fun σ' H2=>D.nx (σ'.set i none) H2,rt:=D.rt,bk:=fun σ' H2=>D.bk (σ'.set i none) H2,ct:=fun σ' H2=>D.ct (σ'.set i none) H2 } (σ.set i (some (.ref a))) (upd H a (E1 a cls cx)))∨(W.exmOne K cls (.ref C)=some false∧i5 cls cx a D σ H)
section
variable {X:Cx}
theorem a6v:PH X [] a9j:=fun _ _ _ _ _ _ _ _ _ _ _ h=>h.elim
theorem a9k{x n:Str}{i:Nat}{C:Addr}{suite:List Stmt}{b₀:Stmt}{np hpos:Pos}{hs:List ExceptHandler}{ts:Addr→TS}{i5:TH}(hg:Gl X x)(hm:X.mg x=some (.ref C))(hN:X.N.Nodup)(hi:X.N[i]? = some n)(hh:∀a,PSs (X.inExc a).nox (b₀::suite) (ts a))(hr:PH X hs i5)
  (hl:X.env.scope.names.lookup n=some .local:=by rfl) (hd:(x == ("__debug__" : Str))=false:=by decide):PH X (.ExceptHandler (some (.Name x np)) (some n) (b₀::suite) hpos::hs) (b15 X.K C i ts i5):=by
 intro pins s σ H a cls cx B D I x4 h
 have ok:=I.ok
 refine wpAny_handleBy_cons (codeAny_handlers_test (J1 (I.toExc (a:=a)) hg hm ?_ hd)) (by intro q;cases q)
 obtain⟨oe,vs,e,hc,d,_⟩:=x4.tr.there
 have LT:W.Looks (model X.prog X.w) s.heap (typeOf (.ref a)) cls:=hc▸(W.Looks.ld e).andThen .now
 rcases h with⟨hx,hsu⟩ | ⟨hx,hn⟩
 ·refine(W.exm_one I.kIn LT hx).here ?_
  refine codeAny_handlers_suite_as ?_
  refine a0t I x4 (fun z=>nomatch z) fun h5 I5 x5=>?_
  have I6:=(I5.track x5).toExc (a:=a)
  refine V6 (X:=X.inExc a) (v:=.ref a) I6 hN hi (.inl hl) rfl (fun s6 I7=>?_) (.inr hl)
  refine wpAny_mono (hh a pins s6 _ _ _ (I7.wish _) hsu) (fun f s7 q=>?_) fun _ _ z=>z.elim
  have q:=(q.unwish).ofExc ok
  cases f with
  | next =>
   obtain⟨σ7,H7,I8,q⟩:=q
   exact I8.nameGoes hN hi hl fun h8 I9=>⟨_,H7,I9,q⟩
  | brk =>
   obtain⟨σ7,H7,I8,q⟩:=q
   exact I8.nameGoes hN hi hl fun h8 I9=>⟨_,H7,I9,q⟩
  | cont =>
   obtain⟨σ7,H7,I8,q⟩:=q
   exact I8.nameGoes hN hi hl fun h8 I9=>⟨_,H7,I9,q⟩
  | ret u =>
   obtain⟨v7,σ7,H7,I8,r,q⟩:=q
   exact I8.nameGoes hN hi hl fun h8 I9=>⟨v7,_,H7,I9,r,q⟩
 ·refine(W.exm_one I.kIn LT hx).here ?_
  exact hr pins s σ H a cls cx B D I x4 hn
def a9l(n:Nat)(tb:XK→TS)(th:TH):TS:=fun D σ H=>∃Eh:XK,tb Eh D σ H∧∀cls cx H',Eh cls cx H'→∀a,H' a=none→th cls cx a D (S5 n) H'
theorem a9Y{body:List Stmt}{h₀:ExceptHandler}{hs:List ExceptHandler}{pos:Pos}{tb:XK→TS}{th:TH}
  (hb:∀(Eh:XK) (E2:Value→Shared→Prop) (pins:List (Addr×Obj)),XAcc (X.tryCx E2 pins) Eh→PassesOwn (model X.prog X.w) X.A X.env E2→PSs (X.tryCx E2 pins) body (tb Eh))
  (hh:PH X (h₀::hs) th)
  (hst:X.stack=X.env::X.outer:=by rfl) (hf:X.env.frame=some X.env.locals:=by rfl) (hex:X.ex=[]:=by rfl) :
  PS X (.Try body (h₀::hs) [] [] pos) (a9l X.N.length tb th):=by
 intro pins s σ H D I h
 obtain⟨Eh,h1,h2⟩:=h
 refine wpAny_Try_except ?_
 have ok:=I.ok
 have acc:XAcc (X.tryCx (fun e s₁=>wpAny (model X.prog X.w) X.A (noteFrame e X.env) (fun _ s₂=>wpAny (model X.prog X.w) X.A (setFlight e none) (fun _ s₃ =>
   wpAny (model X.prog X.w) X.A (handleBy e X.env (h₀::hs)) (SP X pins D) X.xe s₃) X.xe s₂) X.xe s₁) pins) Eh:=by
  intro pins' σ' H' s1 a cls cx B ph I1 x1 hE
  have I2:Inv X pins (S5 X.N.length) H' s1:=(I1.ofTry ok).forget
  have x2:XAt X pins H' s1 a cls cx B ph:=⟨x1.free,x1.stays,x1.fresh,x1.frames,fun b o e i n=>x1.cov b o e (i.elim .inl fun z=>.inr (z.elim .inl fun⟨p,hp,q⟩=>.inr ⟨p,List.mem_append_left _ hp,q⟩)) n,x1.tr⟩
  refine a2d ok.frames hst rfl hf I2 x2 fun h3 I3 x3=>?_
  refine a0t I3 x3 (fun z=>nomatch z) fun h4 I4 x4=>?_
  exact hh pins _ _ _ a cls cx B D I4 x4 (h2 cls cx H' hE a x4.free)
 refine wpAny_mono (hb Eh _ pins acc PassesOwn.looking [] s σ H D I.toTry h1) (fun f s1 q=>?_) fun e s1 q=>q
 have q':=q.ofTry ok
 cases f with
 | next=>exact wpAny_execs_nil q'
 | brk=>exact q'
 | cont=>exact q'
 | ret u=>exact q'
def XAccAt(X:Cx)(σ:St)(E:XK):Prop:=∀(pins:List (Addr×Obj)) (H:Hp) (s:Shared) (a:Addr) (cls:Value) (cx:Option Addr) (B:Heap) (ph:Ph),Inv X pins σ H s→XAt X pins H s a cls cx B ph→E cls cx H→X.xe (.ref a) s
theorem XAccAt.passes{σ:St}{E:XK}(acc:XAccAt X σ E):∀(pins:List (Addr×Obj)) (H:Hp) (s:Shared) (e:Value) (s':Shared),Inv X pins σ H s→n4 X.prog X.w X.stack H s E e s'→X.xe e s':=by
 intro pins H s e s' I h
 obtain⟨a,cls,cx,H',B,rfl,os,bare,un,hok,st,fr,ff,tr,free,cov,hE⟩:=h
 have I':Inv X pins σ H' s':=I.call' (ch:=[]) os un hok bare (fun b z=>absurd z (by simp))
 refine acc pins H' s' a cls cx B .fly I' ⟨free,st,fr,ff,fun b o e i n=>cov b o e ?_ n,tr⟩ hE
 rcases i with i | ⟨hx,o',i⟩ | ⟨p,hp,q⟩
 ·exact .inl i
 ·exact .inr (I.base.there b o' i hx)
 ·exact .inr ⟨p.2,by rw[← q];exact(I.pin p hp).1⟩
theorem a9Z{k k':Nat}{ps:List Str}{sp:Sp}{x:Str}{p pos:Pos}{e:Expr}{es:List Expr}{t:TA}{E:XK}{σ:St}(G:Own X.prog X.w X.K X.mg X.base k x ps sp)(hr:Room k' X.A)(hk:k≤k')(acc:XAccAt X σ E)(ha:PA X (e::es) t)(hg:Gl X x)
  (hdb:(x == ("__debug__" : Str))=false:=by decide) (he:starEach (e::es) X.env=(false,eval e X.env)::starEach es X.env:=by rfl) (hpl:(backTo pos (starEach es X.env)).any (·.1)=false:=by rfl)
  {pins:List (Addr×Obj)} {s:Shared} {H:Hp} {Q:VK} (I:Inv X pins σ H s) (h:O9 sp [] E t σ H Q):wpAny (model X.prog X.w) X.A (eval (.Call (.Name x p) (e::es) [] pos) X.env) (EP X pins σ Q) X.xe s:=by
 obtain⟨f,fd,F,b,kp,m⟩:=G.ex
 refine wpAny_Call_Name_kw (J1 I hg m ?_ hdb)
 refine W.callWith_K (h₀:=X.base) I.ok.mod.kin kp (i6 (ha pos pins s σ H _ I h) fun us s1 ⟨vs,H1,I1,r,q⟩=>⟨I1.kIn,?_⟩) he hpl
 have q:sp (vs++[]) H1 Q E:=q
 rw[List.append_nil]at q
 have hl:us.length=ps.length:=by rw[← r.length];exact F.len _ _ _ _ q
 have hb:=b s1 us I1.kIn (by rw[List.append_nil];exact hl)
 rw[List.append_nil]at hb
 refine wpAny_call (codeAny_mono (F.run X.A X.stack s1 H1 ⟨us,[]⟩ us vs Q E (hr.mono hk) I1.env0 hb r q) fun r s' hq=>?_)
 cases r with
 | error e=>exact acc.passes pins H1 s1 e s' I1 hq
 | ok fl =>
  cases fl with
  | ret u=>exact I1.after hq
  | next=>exact False.elim hq
  | brk=>exact False.elim hq
  | cont=>exact False.elim hq
def a9m(sp:Sp)(t:TA)(th:TH):TS:=fun D σ H=>∃Eh:XK,O9 sp [] Eh t σ H (fun _ H2=>D.nx σ H2)∧∀cls cx H',Eh cls cx H'→∀a,H' a=none→th cls cx a D σ H'
theorem a90{k k':Nat}{ps:List Str}{sp:Sp}{x:Str}{p cpos epos:Pos}{e:Expr}{es:List Expr}{t:TA}{h₀:ExceptHandler}{hs:List ExceptHandler}{pos:Pos}{th:TH}
  (G:Own X.prog X.w X.K X.mg X.base k x ps sp) (hr:Room k' X.A) (hk:k≤k') (ha:∀(E2:Value→Shared→Prop) (pins:List (Addr×Obj)),PA (X.tryCx E2 pins) (e::es) t) (hh:PH X (h₀::hs) th) (hg:Gl X x:=by rfl)
  (hdb:(x == ("__debug__" : Str))=false:=by decide) (he:starEach (e::es) X.env=(false,eval e X.env)::starEach es X.env:=by rfl) (hpl:(backTo cpos (starEach es X.env)).any (·.1)=false:=by rfl)
  (hsw:swapsWith (.Call (.Name x p) (e::es) [] cpos) none epos.line X.env=pure false:=by rfl)
  (hst:X.stack=X.env::X.outer:=by rfl) (hf:X.env.frame=some X.env.locals:=by rfl) (hex:X.ex=[]:=by rfl) :
  PS X (.Try [.Expr (.Call (.Name x p) (e::es) [] cpos) epos] (h₀::hs) [] [] pos) (a9m sp t th):=by
 intro pins s σ H D I h
 obtain⟨Eh,h1,h2⟩:=h
 refine wpAny_Try_except ?_
 have ok:=I.ok
 have acc:XAccAt (X.tryCx (fun e s₁=>wpAny (model X.prog X.w) X.A (noteFrame e X.env) (fun _ s₂=>wpAny (model X.prog X.w) X.A (setFlight e none) (fun _ s₃ =>
   wpAny (model X.prog X.w) X.A (handleBy e X.env (h₀::hs)) (SP X pins D) X.xe s₃) X.xe s₂) X.xe s₁) pins) σ Eh:=by
  intro pins' H' s1 a cls cx B ph I1 x1 hE
  have I2:Inv X pins σ H' s1:=I1.ofTry ok
  have x2:XAt X pins H' s1 a cls cx B ph:=⟨x1.free,x1.stays,x1.fresh,x1.frames,fun b o e i n=>x1.cov b o e (i.elim .inl fun z=>.inr (z.elim .inl fun⟨p,hp,q⟩=>.inr ⟨p,List.mem_append_left _ hp,q⟩)) n,x1.tr⟩
  refine a2d ok.frames hst rfl hf I2 x2 fun h3 I3 x3=>?_
  refine a0t I3 x3 (fun z=>nomatch z) fun h4 I4 x4=>?_
  exact hh pins _ _ _ a cls cx B D I4 x4 (h2 cls cx H' hE a x4.free)
 have It:=I.toTry (pins:=pins) (E2:=fun e s₁=>wpAny (model X.prog X.w) X.A (noteFrame e X.env) (fun _ s₂=>wpAny (model X.prog X.w) X.A (setFlight e none) (fun _ s₃ =>
   wpAny (model X.prog X.w) X.A (handleBy e X.env (h₀::hs)) (SP X pins D) X.xe s₃) X.xe s₂) X.xe s₁)
 refine wpAny_mono (wpAny_execs_cons (Q:=fun f s1=>f=.next∧∃H',Inv X pins σ H' s1∧D.nx σ H') (wpAny_Expr_any (i6 (a9Z (X:=X.tryCx _ pins) G hr hk acc (ha _ pins) hg hdb he hpl It h1) fun v s1 ⟨x,H1,I1,r1,q1⟩=>?_) It.quiet hsw)) (fun f s1 q=>?_) fun e s1 q=>q
 ·exact wpAny_execs_nil ⟨rfl,H1,I1.ofTry ok,q1⟩
 ·obtain⟨rfl,H',I',q⟩:=q
  exact wpAny_execs_nil ⟨σ,H',I',q⟩
end
section
variable {X:Cx}{CX:O3}{k:Nat}{f C:Addr}{fd:FuncData}{ps:List Str}{sp:Sp}{dvs:List V}{ds:List Value}{E:XK}{x m:Str}{p pos apos:Pos}{e o:Expr}{es:List Expr}{ta:TE}{t:TA}
def a6w(T:Addr→Sp→Prop)(m:Str)(E:XK)(ta:TE)(t:TA):TE:=fun σ H Q=>ta σ H fun x H1=>∃a C dx fs sp,x=.ref a∧H1 a=some (.ins C dx fs)∧fs.lookup m=none∧T C sp∧t σ H1 fun vs H2=>sp (x::vs) H2 Q E
def a3K(X:Cx)(T:Addr→Sp→Prop)(m:Str)(E:XK):Prop:=∀C sp,T C sp→Cls X.K C∧∃(CX:O3) (k:Nat) (f:Addr) (fd:FuncData) (ps:List Str),Meth X.K C m f∧FnOk X.prog X.w X.K X.mg X.base CX k f fd ps sp∧Room k X.A∧Binds X.K fd ps []∧J7 CX X E
theorem a72{T:Addr→Sp→Prop}{pl:Sem Bool}(he:PE X o ta)(hT:a3K X T m E)(ha:PA X (e::es) t)
  (hst:starEach (e::es) X.env=(false,eval e X.env)::starEach es X.env:=by rfl) (hpl:(backTo pos (starEach es X.env)).any (·.1)=false:=by rfl)
  (ht:eval (.Call (.Attribute o m apos) (e::es) [] pos) X.env=(do
   let ov ← eval o X.env
   standAt apos.atName
   let (f,first) ← holding [ov] (getMethod ov m pl)
   callWith pos f first (backTo pos (starEach (e::es) X.env)) (backToKw pos (keywordEach [] X.env))):=by rfl) :
  PE X (.Call (.Attribute o m apos) (e::es) [] pos) (a6w T m E ta t):=by
 intro pins s σ H Q I h
 refine W.methodCall_KW (pl:=pl) (i6 (he pins s σ H _ I h) fun u s1 ⟨x,H1,I1,rx,a,C,dx,fs,sp,ex,ea,l,hC,q⟩=>?_) ht
 subst ex
 obtain rfl:u=Value.ref a:=rx
 obtain⟨c,CX,k,f,fd,ps,hm,F,hr,hb,hx⟩:=hT C sp hC
 refine a5q I1 ea c hm l ?_
 refine W.callWith_K (first:=[.ref a]) (h₀:=X.base) I.ok.mod.kin hm.kp (i6 (ha pos pins s1 σ H1 _ I1 q) fun us s2 ⟨vs,H2,I2,r,q2⟩=>⟨I2.kIn,?_⟩) hst hpl
 exact a6f (us:=.ref a::us) (vs:=.ref a::vs) (dvs:=[]) F hr hb .nil hx I2 (.cons rfl r) (by rw[List.append_nil];exact q2)
structure OwnM(P:Program)(w:World)(K:W.Frag)(mg:Str→Option Value)(base:Heap)(k:Nat)(C:Addr)(m:Str)(ps:List Str)(sp:Sp):Prop where
 ex:∃f fd,FnOk P w K mg base (n4 P w) k f fd ps sp∧Binds K fd ps []∧Meth K C m f
 cls:Cls K C
theorem a6x{k:Nat}{T:Addr→Sp→Prop}(hr:Room k X.A)(hx:J7 (n4 X.prog X.w) X E)(h:∀C sp,T C sp→∃k' ps,k'≤k∧OwnM X.prog X.w X.K X.mg X.base k' C m ps sp):a3K X T m E:=fun C sp hC=>by
 obtain⟨k',ps,hk,G⟩:=h C sp hC
 obtain⟨f,fd,F,b,M⟩:=G.ex
 exact⟨G.cls,_,k',f,fd,ps,M,F,hr.mono hk,b,hx⟩
end
def a6y(C:Addr):TE:=fun σ H Q=>∀x dx,H x=none→H dx=none→dx≠x→Q (.ref x) (upd (upd H dx (.own x)) x (.ins C dx []))
section
variable {X:Cx}{C:Addr}{x:Str}{p pos:Pos}
theorem a03(mk:makesIn X.K C=true)(hi:findIn X.K (.ref C) "__init__" = some (some (.builtin "object.__init__")))(kp:keepIn X.K (.ref C)=true)(hm:X.mg x=some (.ref C))(hg:Gl X x:=by rfl)(hdb:(x == ("__debug__" : Str))=false:=by decide) :
  PE X (.Call (.Name x p) [] [] pos) (a6y C):=by
 intro pins s σ H Q I h
 refine wpAny_Call_Name_kw (J1 I hg hm ?_ hdb)
 refine callWith_K0 I.kIn kp ?_
 have I2:=Inv.made (C:=C) I
 have hq:=h (s.heap.objs.size+1) s.heap.objs.size (I.hok.fresh (Nat.le_succ _)) (I.hok.fresh (Nat.le_refl _)) (Nat.ne_of_lt (Nat.lt_succ_self _))
 refine wpAny_call (a6d I.kIn mk hi (fun self=>Looks.of_pure (oi_bind self)) ?_)
 have Y:=makes_of (M:=model X.prog X.w) I.kIn mk
 have e2:((s.heap.push emptyDict).push (instObj C s.heap.objs.size)).get? (s.heap.objs.size+1)=some (instObj C s.heap.objs.size):=by
  have:=Heap.get?_push_size (s.heap.push emptyDict) (o:=instObj C s.heap.objs.size) rfl
  rwa [Heap.size_push]at this
 have t1:Looks (model X.prog X.w) ((s.heap.push emptyDict).push (instObj C s.heap.objs.size)) (typeOf (.ref (s.heap.objs.size+1))) (.ref C):=(Looks.ld e2).andThen .now
 have t2:Looks (model X.prog X.w) ((s.heap.push emptyDict).push (instObj C s.heap.objs.size)) (isInstance (.ref (s.heap.objs.size+1)) (.type "object")) true:=t1.andThen (Y.top.keeps fun b o e=>Heap.get?_push_of_some _ (Heap.get?_push_of_some _ e))
 refine codeAny_call_builtin oi_plain entry_oi (@check_slot (model X.prog X.w) _ _ _ "object.__init__" "object" "__init__" (.ref (s.heap.objs.size+1)) [] [] _ oi_kind oi_split t2 (oi_args (.ref (s.heap.objs.size+1))) ?_)
 rw[oi_run]
 exact wpAny_pure (And.intro rfl ⟨V.ref (s.heap.objs.size+1),_,I2,rfl,hq⟩)
end
section
variable {prog:Program}{w:World}{A:Around}{E:Value→Shared→Prop}{s:Shared}{fin:Bool}{Q:Bool→Shared→Prop}
theorem a91{v:Value}(hv:(v == v)=true){E:Value→Shared→Prop}(h:Q true s):wpAny (model prog w) A (eqBool v v) Q E s:=by
 unfold eqBool
 refine wpAny_holding ?_
 rw[if_pos hv]
 exact wpAny_bind (wpAny_rule (wpAny_pure h))
theorem a0T:∀{vs:List Value} (i:Nat),(∀v∈vs,(v == v)=true)→Q fin s→KatLex prog w A true fin Q (vs.zip vs) i s
 | [],i,_,h=>by rw[List.zip_nil_left];exact kat_nil h
 | v::vs,i,hv,h=>by
  rw[List.zip_cons_cons]
  exact kat_cons (a91 (hv v (by simp)) (kat_yes (a0T (i+1) (fun u hu=>hv u (by simp[hu])) h)))
theorem a1y{rs rs':List Value}:∀{vs ws:List Value} {ns ms:List Int} (i:Nat),IntsAre vs ns→IntsAre ws ms→ns.length=ms.length→ns≠ms→Q (HT.lexLt ns ms) s→KatLex prog w A true fin Q ((vs++rs).zip (ws++rs')) i s
 | _,_,_,_,i,.nil,.nil,_,hn,_=>absurd rfl hn
 | _,_,_,_,i,.nil,.cons c u t,hf,_,_=>by simp at hf
 | _,_,_,_,i,.cons a t r,.nil,hf,_,_=>by simp at hf
 | _,_,_,_,i,.cons (ns:=ns) a t r,.cons (ns:=ms) c u r',hf,hn,h=>by
  rw[List.cons_append,List.cons_append,List.zip_cons_cons]
  rw[HT.lexLt_cons]at h
  refine kat_cons (wpAny_eqBool_int (kat_go (fun e=>?_) fun e=>?_))
  ·have e':a=c:=by simpa using e
   rw[if_pos e']at h
   exact kat_yes (a1y (i+1) r r' (by simpa using hf) (fun z=>hn (by rw[e',z])) h)
  ·rw[if_neg (by simpa using e)]at h
   refine kat_no ?_
   by_cases hi:i=0
   ·subst hi
    show wpAny _ _ (oneLt' true _ _) _ _ _
    exact oneLt_int h
   ·have e0:(true && i == 0)=false:=by simpa using hi
    rw[e0]
    exact kat_one _ _ (PyProof.Rows.lt_int h)
def TupPre(h:Heap)(v:Value)(k:List Int):Prop:=∃a o xs m vs rs,v=.ref a∧h.get? a=some o∧o.cls=.type "tuple"∧o.data=.seq xs m∧xs.toList=vs++rs∧IntsAre vs k∧k≠[]∧∀u∈xs.toList,(u == u)=true
theorem TupPre.keeps{h h':Heap}{v:Value}{k:List Int}(t:TupPre h v k)(kp:∀a o,h.get? a=some o→h'.get? a=some o):TupPre h' v k:=by
 obtain⟨a,o,xs,m,vs,rs,e,ho,r⟩:=t
 exact⟨a,o,xs,m,vs,rs,e,kp _ _ ho,r⟩
theorem TupPre.lt{v u:Value}{k l:List Int}{C:Bool→Shared→Prop}(t:TupPre s.heap v k)(t':TupPre s.heap u l)(hl:k.length=l.length)(hn:k≠l)(h:C (HT.lexLt k l) s):wpAny (model prog w) A (keyLt' (tuples' true) v u) C E s:=by
 obtain⟨a,o,xs,m,vs,rs,rfl,ho,_,hd,hx,hi,_⟩:=t
 obtain⟨a',o',xs',m',vs',rs',rfl,ho',_,hd',hx',hi',_⟩:=t'
 refine kat_lt ho hd ho' hd' ?_
 rw[hx,hx']
 exact a1y 0 hi hi' hl hn h
theorem TupPre.lt_self{v:Value}{k:List Int}{C:Bool→Shared→Prop}(t:TupPre s.heap v k)(h:C false s):wpAny (model prog w) A (keyLt' (tuples' true) v v) C E s:=by
 obtain⟨a,o,xs,m,vs,rs,rfl,ho,_,hd,hx,hi,_,hv⟩:=t
 refine kat_lt ho hd ho hd (a0T 0 hv ?_)
 rw[decide_eq_false (Nat.lt_irrefl _)]
 exact h
def TPs(h:Heap):List Value→List (List Int)→Prop
 | [],[]=>True
 | v::vs,k::ks=>TupPre h v k∧TPs h vs ks
 | _,_=>False
theorem TPs.keeps{h h':Heap}(kp:∀a o,h.get? a=some o→h'.get? a=some o):∀{vs:List Value} {ks:List (List Int)},TPs h vs ks→TPs h' vs ks
 | [],[],_=>trivial
 | [],_::_,t=>t.elim
 | _::_,[],t=>t.elim
 | v::vs,k::ks,t=>⟨t.1.keeps kp,TPs.keeps kp t.2⟩
theorem TPs.at{h:Heap}:∀{vs:List Value} {ks:List (List Int)} (i:Nat),TPs h vs ks→i<vs.length→TupPre h (vs.getD i Value.none) (ks.getD i [])
 | [],_,i,_,hi=>absurd hi (Nat.not_lt_zero _)
 | _::_,[],_,t,_=>t.elim
 | v::vs,k::ks,0,t,_=>t.1
 | v::vs,k::ks,i+1,t,hi=>TPs.at (vs:=vs) (ks:=ks) i t.2 (by simpa using hi)
theorem a4P:∀{h:Heap} {vs:List Value} {ks:List (List Int)},TPs h vs ks→∃fs,KatTups h vs fs∧fs.length=vs.length∧∀v∈fs,∃i t,v=Value.int i t
 | _,[],[],_=>⟨[],.nil,rfl,fun v h=>by cases h⟩
 | _,[],_::_,t=>t.elim
 | _,_::_,[],t=>t.elim
 | h,v::vs,k::ks,⟨t,r⟩=>by
  obtain⟨fs,h1,h2,h3⟩:=a4P r
  obtain⟨a,o,xs,m,us,rs,rfl,ho,hc,hd,hx,hi,hn,_⟩:=t
  obtain⟨xl⟩:=xs
  cases hi with
  | nil=>exact absurd rfl hn
  | cons n tk hr =>
   simp only at hx
   subst hx
   exact⟨.int n tk::fs,.cons ho hc hd (by simp) h1,by simp[h2],fun v hv=>by
    rcases List.mem_cons.mp hv with rfl | hv
    ·exact⟨n,tk,rfl⟩
    ·exact h3 v hv⟩
end
def VPs(K:W.Frag)(H:Hp):List V→List (List Int)→Prop
 | [],[]=>True
 | v::vs,k::ks=>(∃a rs,v=.ref a∧SqT K H a (k.map V.int++rs)∧k≠[]∧∀r∈rs,∃b,r=.ref b)∧VPs K H vs ks
 | _,_=>False
theorem a1z:∀{k:List Int} {rs:List V} {us:List Value},Vals (k.map V.int++rs) us→∃vs ws,us=vs++ws∧IntsAre vs k∧Vals rs ws
 | [],rs,us,r=>⟨[],us,rfl,.nil,r⟩
 | n::k,rs,_,.cons r t=>by
  obtain⟨vs,ws,e,h1,h2⟩:=a1z (k:=k) t
  obtain⟨tk,e2⟩:=r
  exact⟨.int n tk::vs,ws,by rw[e,e2];rfl,.cons n tk h1,h2⟩
theorem a0U:∀{vs:List Value} {ns:List Int},IntsAre vs ns→∀u∈vs,∃m t,u=Value.int m t
 | _,_,.nil,u,hu=>by cases hu
 | _,_,.cons m t r,u,hu=>by
  rcases List.mem_cons.mp hu with rfl | hu
  ·exact⟨m,t,rfl⟩
  ·exact a0U r u hu
theorem a73(n:Int)(t:Tok):(Value.int n t == Value.int n t)=true:=by simp
theorem a74(a:Addr):(Value.ref a == Value.ref a)=true:=by simp
section
variable {X:Cx}
theorem a4R{pins:List (Addr×Obj)}{σ:St}{H:Hp}{s:Shared}(I:Inv X pins σ H s):∀{ys:List V} {us:List Value} {ks:List (List Int)},Vals ys us→VPs X.K H ys ks→TPs s.heap us ks
 | [],_,[],.nil,_=>trivial
 | [],_,_::_,_,h=>h.elim
 | _::_,_,[],_,h=>h.elim
 | v::ys,_,k::ks,.cons r rs,⟨⟨a,zs,e,hq,hn,hz⟩,h⟩=>by
  refine⟨?_,a4R I rs h⟩
  subst e
  obtain⟨its,rv,⟨o,ho,hc,n,hd⟩,_⟩:=I.tuple hq
  obtain⟨vs,ws,e,hi,hw⟩:=a1z rv
  refine⟨a,o,_,n,vs,ws,r,ho,hc,hd,by simpa using e,hi,hn,?_⟩
  intro u hu
  have hu:u∈its:=by simpa using hu
  rw[e]at hu
  rcases List.mem_append.mp hu with hu | hu
  ·obtain⟨m,t,rfl⟩:=a0U hi u hu
   exact a73 m t
  ·obtain⟨j,hj,e2⟩:=List.mem_iff_getElem.mp hu
   have hl:=hw.length
   have hj2:j<zs.length:=by omega
   obtain⟨w',q1,q2⟩:=hw.get (List.getElem?_eq_getElem hj2)
   obtain⟨b,eb⟩:=hz zs[j] (List.getElem_mem hj2)
   rw[eb]at q2
   rw[List.getElem?_eq_getElem hj,e2]at q1
   cases q1
   cases q2
   exact a74 b
end
theorem a27{pos:Pos}{a b:Int}{c cv:Value}(l:List Value)(h:TriplesOk l)(e:codeAmong pos (l++[rawInt a,rawInt b,c])=some cv):codeAmong pos l=some cv∨cv=c:=by
 fun_induction TriplesOk l with
 | case1 =>
  simp only[List.nil_append,codeAmong,rawInt]at e
  split at e
  ·exact .inr (Option.some.inj e).symm
  ·cases e
 | case2 a t b u x i5 ih =>
  simp only[List.cons_append,codeAmong]at e ⊢
  split at e
  ·exact .inl (by rename_i z;rw[if_pos z];exact e)
  ·rename_i z;rw[if_neg z];exact ih h e
 | case3=>exact h.elim
def a0w(oc:Obj)(q:Str):Prop:=∃vs t,oc.data=.fields vs∧vs[1]? = some (.str q t)
section
variable {X:Cx}{pins:List (Addr×Obj)}{σ:St}{H:Hp}{s:Shared}{params:Arguments}{body:Expr}{scope:Scope}{lpos:Pos}{c P:Addr}{q:Str}{tq:Tok}{qs:Array Value}{Q:Value→Shared→Prop}{E:Value→Shared→Prop}
abbrev T8(X:Cx)(params:Arguments)(body:Expr)(scope:Scope)(q:Str)(c':Addr)(pm ctv:Value):Obj:=kla_obj "<lambda>" q params body scope (y0 X.env.cells scope.names []) pm c' ctv
theorem Inv.grown{h':Heap}{tk:Nat}{c':Addr}{oc:Obj}{ps:Array Value}{a b:Int}(I:Inv X pins σ H s)(hT:H P=some (.tbl qs))(hqs:qs[0]? = some (Value.str q tq))(eP:s.heap.get? P=some (tabObj ps))(tr:TriplesOk ps.toList)
  (al:∀pos cv,codeAmong pos ps.toList=some cv→∃c oc u,cv=Value.ref c∧H c=some (.frz oc u)∧∃vs q' t t2,oc.data=.fields vs∧vs[1]? = some (Value.str q' t2)∧qs[0]? = some (Value.str q' t))
  (hx:Heap.ExtBut P s.heap h') (hge:s.heap.objs.size≤c') (hoc:h'.get? c'=some oc) (hq:a0w oc q) (htb:h'.get? P=some (tabObj (ps ++ #[rawInt a,rawInt b,.ref c']))) :
  Inv X pins σ (upd H c' (.frz oc (.own c'))) { s with heap:=h',toks:=tk }:=by
 have hn:H c'=none:=I.hok.fresh hge
 have neP:∀b',H b'=none→b'≠P:=fun b' n z=>by rw[z,hT]at n;cases n
 refine I.un (t':=tk) ⟨fun b o e n _ _=>hx b o (neP b n) e,fun b o e n _ _=>⟨o.slots,hx b o (neP b n) e⟩,fun b o e n _=>by rw[d5 (Nat.ne_of_lt (Nat.lt_of_lt_of_le (Heap.lt_size e) hge))];exact n,fun b o e _=>?_,fun b xs e=>by rw[d5 (g9 e hn)];exact e,fun b o u e=>by rw[d5 (g9 e hn)];exact e,fun b qs e=>⟨#[],by rw[d5 (g9 e hn),e];simp⟩⟩ fun b u e=>?_
 ·by_cases z:b=P
  ·rw[z];exact⟨_,htb⟩
  ·exact⟨o,hx b o z e⟩
 ·by_cases z:b=c'
  ·subst z
   rw[i0]at e;cases e
   exact⟨hoc,oc,hoc⟩
  ·rw[d5 z]at e
   by_cases y:b=P
   ·subst y
    rw[hT]at e;cases e
    refine⟨_,htb,by rw[Array.toList_append];exact TriplesOk_snoc _ _ _ _ tr,fun pos cv e=>?_⟩
    rw[Array.toList_append]at e
    rcases a27 _ tr e with e | rfl
    ·obtain⟨c,o,u,e1,e2,r⟩:=al pos cv e
     exact⟨c,o,u,e1,by rw[d5 (g9 e2 hn)];exact e2,r⟩
    ·obtain⟨vs,t,d1,d2⟩:=hq
     exact⟨c',oc,.own c',rfl,i0,vs,q,tq,t,d1,d2,hqs⟩
   ·refine(I.hok b u e).stay (fun d v hd r=>hx d v ?_ r) (fun d r=>by rw[d5 (g9 r hn)];exact r) (fun d xs r=>by rw[d5 (g9 r hn)];exact r) fun d o u r=>by rw[d5 (g9 r hn)];exact r
    rcases hd with rfl | hd
    ·exact y
    ·intro z;rw[z,hT]at hd;cases hd
theorem a75(I:Inv X pins σ H s)(hd:defaultsOf params X.env=([],[]))(hcode:X.env.code=.ref c)(C:CodeHd X.base c P)(hbl:X.base.BuiltinsAt X.mg P)(hT:H P=some (.tbl qs))(hqs:qs[0]? = some (Value.str q tq))(hq:q=X.env.qual ++ "<lambda>")
  (hfree:∀y∈scope.names,y.2=.free→X.env.scope.names.lookup y.1=some .cell∨X.env.scope.names.lookup y.1=some .free)
  (h:∀f c' oc u pm ctv H' s',Inv X pins σ H' s'→(∀a o,H a=some o→H' a=some o)→H' f=some (.frz (T8 X params body scope q c' pm ctv) (.own f))→H' c'=some (.frz oc u)→a0w oc q→Q (.ref f) s') :
  wpAny (model X.prog X.w) X.A (eval (.Lambda params body scope lpos) X.env) Q E s:=by
 refine kla_eval hd ?_
 subst hq
 obtain⟨ps,eP,tr,al⟩:=I.hok P _ hT
 have hcl:=T7 (scope:=scope) (env:=X.env) fun y hy hk=>I.ok.has y.1 (hfree y hy hk)
 have hg:s.heap.Ns mainGlobals X.mg:=I.mod.glob.keeps I.bk
 obtain⟨bm,ob,b1,b2,b3,b4,b5,b6,b7,b8⟩:=hbl
 have hb:s.heap.BuiltinsAt X.mg P:=⟨bm,ob,b1,b2,b3,b4,I.bk _ _ b5,b6,b7,b8⟩
 have lay:∀(H1:Hp) (h1:Heap) (tk:Nat) (c':Addr) (oc:Obj) (u:HO) (pm ctv:Value),Inv X pins σ H1 { s with heap:=h1,toks:=tk }→(∀a o,H a=some o→H1 a=some o)→H1 c'=some (.frz oc u)→a0w oc (X.env.qual ++ "<lambda>")→Q (.ref h1.objs.size) { s with heap:=h1.push (T8 X params body scope (X.env.qual ++ "<lambda>") c' pm ctv),toks:=tk }:=by
  intro H1 h1 tk c' oc u pm ctv I1 ex e3 e4
  have hf:H1 h1.objs.size=none:=I1.hok.fresh (Nat.le_refl _)
  have hgt:(h1.push (T8 X params body scope (X.env.qual ++ "<lambda>") c' pm ctv)).get? h1.objs.size=some (T8 X params body scope (X.env.qual ++ "<lambda>") c' pm ctv):=Heap.get?_push_size _ rfl
  have I2:=I1.laid (a:=h1.objs.size) (o:=.frz (T8 X params body scope (X.env.qual ++ "<lambda>") c' pm ctv) (.own h1.objs.size)) (t':=tk) (fun b o e=>Heap.get?_push_of_some (T8 X params body scope (X.env.qual ++ "<lambda>") c' pm ctv) e) (Nat.le_refl _) ⟨hgt,_,hgt⟩
  refine h _ c' oc u pm ctv _ _ I2 (fun a o e=>?_) i0 ?_ e4
  ·rw[d5 (g9 (ex a o e) hf)];exact ex a o e
  ·rw[d5 (g9 e3 hf)];exact e3
 cases e:codeAmong lpos ps.toList with
 | some cv =>
  obtain⟨c',oc,u,rfl,hc',vs,q',t,t2,d1,d2,d3⟩:=al lpos cv e
  have hq:q'=X.env.qual ++ "<lambda>" := by
   rw[hqs]at d3
   injection d3 with d3
   injection d3 with d3
   exact d3.symm
  subst hq
  refine kla_makeFunctionHit (mg:=X.mg) hcl I.ok.glob hg hcode (C.keeps I.bk) eP tr e hb fun ctv h' tk hk hsz=>?_
  exact lay H h' tk c' oc u _ ctv (I.kept hk) (fun _ _ e=>e) hc' ⟨vs,t2,d1,d2⟩
 | none =>
  have hgP:mainGlobals≠P:=fun z=>by
   obtain⟨o,es,ep,e1,hd,_⟩:=hg
   rw[z,eP]at e1;cases e1;cases hd
  refine kla_makeFunction (mg:=X.mg) hcl I.ok.glob hg hcode (C.keeps I.bk) eP tr e hgP hb fun c' ctv h' tk hx hge hlt hrec htb=>?_
  obtain⟨c2,oc,vs,t,e2,hoc,hd,hv⟩:=hrec
  cases e2
  exact lay _ h' tk c' oc (.own c') _ ctv (I.grown (tk:=tk) hT hqs eP tr al hx hge hoc ⟨vs,t,hd,hv⟩ htb) (fun a o e=>by rw[d5 (g9 e (I.hok.fresh hge))];exact e) i0 ⟨vs,t,hd,hv⟩
end
abbrev a3L(X:Cx)(scope:Scope)(q:Str)(L f c':Addr):Env:=envX q scope L f (.ref c') (y0 X.env.cells scope.names [])
abbrev a5C(X:Cx)(A':Around)(scope:Scope)(q:Str)(Nc:List Str)(f c':Addr)(s:Shared)(H:Hp):Cx :=
 { X with A:=A'.deeper (a3L X scope q s.heap.objs.size f c'),N:=Nc,s₀:=s,H₀:=H,env:=a3L X scope q s.heap.objs.size f c',outer:=X.stack,stack:=a3L X scope q s.heap.objs.size f c'::X.stack,ex:=[],fn:=fun _=>false,calm:=true,pn:=[],xe:=fun _ _=>False }
def a3b(js:List Nat)(σ:St)(x:V):St:=some x::js.map fun j=>(σ[j]?).getD none
section
variable {X:Cx}{pins:List (Addr×Obj)}{σ:St}{H:Hp}{s:Shared}{A':Around}{params:Arguments}{body:Expr}{scope:Scope}{q kn:Str}{f c':Addr}{Nc:List Str}{js:List Nat}{h₁:Heap}{tk:Nat}{v:Value}{x:V}
theorem a92(I:Inv X pins σ H s)(hA:A'.frames=some X.stack)(hh:A'.handled=none)(S:CompSc X.env.scope scope X.N Nc 1 js)(hk0:Nc[0]? = some kn)(hloc:scope.names.lookup kn=some .local)
  (hns:h₁.Ns s.heap.objs.size (fun y=>([(kn,v)]:List (Str×Value)).reverse.lookup y)) (old:∀b o,s.heap.get? b=some o→h₁.get? b=some o) (rv:RelV x v) :
  Inv (a5C X A' scope q Nc f c' s H) [] (a3b js σ x) H { s with heap:=h₁,toks:=tk }:=by
 have ok:=I.ok
 refine⟨⟨ok.mod,S.kind,rfl,rfl,Nat.le_refl _,fun x y c h1 h2=>ok.inj x y c (y1 h1) (y1 h2),fun y hy=>?_,(fun x c z=>nomatch z),fun _=>hh,Around.frames_deeper hA,.inr ⟨rfl,rfl⟩,fun b hb=>absurd (show b∈([]:List Addr)from hb) (by simp),I.bs,Nat.le_trans ok.bsz I.sz,fun b o e hb=>absurd (show b∈([]:List Addr)from hb) (by simp),fun b hb=>absurd (show b∈([]:List Addr)from hb) (by simp),I.stack,I.stkFree⟩,
  rfl,I.bare,Un.kept old,⟨_,hns,fun i y w e1 e2 e3=>?_⟩,fun y c e=>?_,I.hok.fresh (Nat.le_refl _),fun y c e=>I.freeC y c (y1 e),fun p hp=>absurd (show p∈([]:List (Addr×Obj))from hp) (by simp),I.hok.kept old,?_⟩
 ·have hy:scope.names.lookup y=some .cell∨scope.names.lookup y=some .free:=hy
  rcases hy with hy | hy
  ·exact absurd rfl (S.cell _ (A7 hy))
  ·exact E4 (A7 hy) (ok.has y (S.free _ (A7 hy) rfl))
 ·cases i with
  | zero =>
   have e1:Nc[0]? = some y:=e1
   rw[hk0]at e1;cases e1
   have e2:some (some x)=some (some w):=e2
   cases e2
   refine⟨v,rv,.inl ⟨hloc,?_⟩⟩
   show([(kn,v)]:List (Str×Value)).reverse.lookup kn=some v
   simp
  | succ i =>
   have e2:(js.map fun j=>(σ[j]?).getD none)[i]? = some (some w):=e2
   rw[List.getElem?_map]at e2
   cases hj:js[i]? with
   | none=>rw[hj]at e2;cases e2
   | some j =>
    rw[hj]at e2
    have e2':(σ[j]?).getD none=some w:=Option.some.inj e2
    have hσ:σ[j]? = some (some w):=by
     cases z:σ[j]? with
     | none=>rw[z]at e2';cases e2'
     | some y=>rw[z]at e2';simp at e2';rw[e2']
    have e1:Nc[i+1]? = some y:=e1
    have hx:(Nc.drop 1)[i]? = some y:=by rw[List.getElem?_drop,show 1+i=i+1 by omega];exact e1
    have hNj:X.N[j]? = some y:=by
     have:=congrArg (fun l=>l[i]?) S.cap
     simp only[List.getElem?_map,hx,hj,Option.map_some]at this
     exact(Option.some.inj this).symm
    have hfr:scope.names.lookup y=some .free:=S.caps y (List.mem_of_getElem? hx)
    have hk:=S.free _ (A7 hfr) rfl
    obtain⟨m,hn,hl⟩:=I.loc
    obtain⟨u,r,l⟩:=hl j y w hNj hσ (.inr hk)
    refine⟨u,r,.inr ⟨.inr hfr,?_⟩⟩
    rcases l with⟨l1,_⟩ | ⟨_,c,hc,hcell⟩
    ·have l1:X.env.scope.names.lookup y=some .local:=l1
     rcases hk with hk | hk
     ·rw[l1]at hk;cases hk
     ·rw[l1]at hk;cases hk
    ·obtain⟨d,hd⟩:=E4 (cells:=X.env.cells) (acc:=[]) (A7 hfr) ⟨c,hc⟩
     have:=y1 hd
     rw[hc]at this;cases this
     obtain⟨o,ho,hdd⟩:=hcell
     exact⟨c,hd,⟨o,old _ _ ho,hdd⟩⟩
 ·obtain⟨w,o,ho,hd⟩:=I.cell y c (y1 e)
  exact⟨w,o,old _ _ ho,hd⟩
 ·unfold a3b
  rw[List.length_cons,List.length_map]
  have:=S.len
  show _=Nc.length
  omega
theorem a76{oc:Obj}{u u':HO}{pm ctv:Value}{te:TE}{Qk:VK}(I:Inv X pins σ H s)(hA:A'.frames=some X.stack)(hh:A'.handled=none)(hdp:A'.depth<recursionLimit)(S:CompSc X.env.scope scope X.N Nc 1 js)(hk0:Nc[0]? = some kn)(hloc:scope.names.lookup kn=some .local)
  (hf:H f=some (.frz (T8 X params body scope q c' pm ctv) u')) (hc:H c'=some (.frz oc u)) (hq:a0w oc q) (hbind:bindArgs (kla_fn "<lambda>" q params body scope (y0 X.env.cells scope.names []) pm (.ref c') ctv) ⟨[v],[]⟩=pure [(kn,v)])
  (hco:scope.isCoroutine=false) (hgen:scope.isGenerator=false) (hbody:PE (a5C X A' scope q Nc f c' s H) body te) (rv:RelV x v) (ht:te (a3b js σ x) H Qk) :
  wpAny (model X.prog X.w) A' (call (.ref f) [v]) (fun w s'=>∃y H2,Inv X pins σ H2 s'∧RelV y w∧Qk y H2∧Un (A4 X.stack) [] H H2 s.heap s'.heap) (fun _ _=>False) s:=by
 have ef:s.heap.get? f=some (T8 X params body scope q c' pm ctv):=(I.hok f _ hf).1
 have ec:s.heap.get? c'=some oc:=(I.hok c' _ hc).1
 obtain⟨vs,t,d1,d2⟩:=hq
 refine wpAny_call (kla_callFunE hdp ef rfl hco hgen rfl ⟨c',oc,vs,t,rfl,ec,d1,d2⟩ ?_)
 rw[hbind]
 refine wpAny_pure (wpAny_newFunctionEnv S.cell (by
  intro y hy
  rw[List.mem_singleton.mp hy]
  exact hloc) (fun h₁ hns hsb=>⟨I.nolimit.fresh _ hsb,?_⟩) S.kind)
 have old:∀b o,s.heap.get? b=some o→h₁.get? b=some o:=fun b o e=>hsb.extBut b o (Nat.ne_of_lt (Heap.lt_size e)) (Heap.get?_push_of_some _ e)
 have J:=a92 (q:=q) (f:=f) (c':=c') (tk:=s.toks+([(kn,v)]:List (Str×Value)).length) I hA hh S hk0 hloc hns old rv
 refine kla_codeExpr (wpAny_mono (hbody [] _ _ H _ J ht) (fun w s' hw=>?_) fun _ _ z=>z.elim)
 obtain⟨y,H2,I2,ry,q2⟩:=hw
 exact⟨y,H2,I.call' (ch:=[]) (I2.os.trans rfl) I2.base I2.hok I2.bare (fun b hb=>absurd hb (by simp)),ry,q2,I2.base⟩
end
section
variable {prog:Program}{w:World}{A:Around}{E:Value→Shared→Prop}{s:Shared}
theorem a4o{r:Addr}{a b c:Int}{t u v:Tok}{n:Nat}{Q:List Value→Shared→Prop}(hh:A.handled=none)(hr:IsRange s.heap r a b c t u v)(hsmall:Builtin.Range.small a b c=true)(hn:Builtin.Range.rangeSize a b c=n)(hlen:n≤2 ^ 24)
  (h:∀h' tk acc,(∀b o,s.heap.get? b=some o→h'.get? b=some o)→ItemsOf (fun i v=>∃t,v=.int (a+i*c) t) acc n→Q acc.toList { s with heap:=h',toks:=tk }) :
  wpAny (model prog w) A (collect (.ref r)) Q E s:=by
 unfold collect
 refine wpAny_bind (wpAny_runValue (codeAny_builtin F.entry_proto_collect ?_))
 rw[Around.under_plainId F.plain_proto_collect _]
 show wpAny _ A.in1 (newList [] >>= fun l=>again (.builtin "list.__iadd__" ⟨[l,.ref r],[]⟩)) _ _ s
 refine wpAny_bind (wpAny_newObj_type ?_)
 refine wpAny_pure ⟨plainId_quiet F.plain_list_iadd _,codeAny_builtin F.entry_list_iadd ?_⟩
 rw[Around.under_plainId F.plain_list_iadd _]
 have hS:(s.heap.push { cls:=.type "list",data:=.seq ([]:List Value).toArray }).get? s.heap.objs.size=some { cls:=.type "list",data:=.seq ([]:List Value).toArray }:=Heap.get?_push_size _ rfl
 show wpAny _ A.in1 (Builtin.List.listExtendWith (.ref s.heap.objs.size) (.ref r) (.ref s.heap.objs.size)) _ _ _
 refine wpAny_extend_range (A:=A) (R:=fun r' s'=>match r' with
  | .ok (.ret v)=>wpAny (model prog w) A (match v with
   | .ref a=>do
    let o ← load a
    match o.data with
     | .seq xs _=>pure xs.toList
     | _=>unsupported "internal:collect"
   | _=>unsupported "internal:collect") Q E s'
  | .ok _=>False
  | .error e=>E e s') (s:={ s with heap:=s.heap.push { cls:=.type "list",data:=.seq ([]:List Value).toArray } }) hh (Heap.get?_push_of_some _ hr) hsmall hn hlen s.heap.objs.size (.ref s.heap.objs.size) 0 hS fun h' tk acc c' hk hS' hi=>?_
 show wpAny _ A (load s.heap.objs.size >>= _) _ _ _
 refine wpAny_bind (wpAny_load hS' ?_)
 exact wpAny_pure (h h' tk acc (fun b o e=>hk b o (Nat.ne_of_lt (Heap.lt_size e)) (Heap.get?_push_of_some _ e)) hi)
end
section
variable {X:Cx}{pins:List (Addr×Obj)}{σ:St}{H:Hp}{s:Shared}{A':Around}{E:Value→Shared→Prop}
theorem FpOk.nstk{H':Hp}{b:Addr}(I:Inv X pins σ H s)(f:FpOk X pins H' b):b ∉ A4 X.stack:=fun z=>by
 rcases List.mem_cons.mp (I.stkSub b z)with q | q
 ·exact f.2.1 q
 ·exact f.2.2.1 q
theorem FpOk.to{H':Hp}{b:Addr}(f:FpOk X pins H b)(n:H' b=none):FpOk X pins H' b:=⟨n,f.2⟩
theorem a93{xs:List V}{vs:List Value}(r:Vals xs vs){j:Nat}{u:Value}(h:vs[j]? = some u):∃x,xs[j]? = some x∧RelV x u:=by
 have hj:=(List.getElem?_eq_some_iff.mp h).1
 have hl:=r.length
 obtain⟨u',e,q⟩:=r.get (List.getElem?_eq_getElem (l:=xs) (i:=j) (by omega))
 rw[h]at e;cases e
 exact⟨_,List.getElem?_eq_getElem (by omega),q⟩
theorem a1A{D kS:Addr}{vs:List Value}{xs:List V}{e1 e2:Nat}{kA:Array Value}{st:SortSt}{p:List Nat}{P:PySem.Fin→Shared→Prop}(I:Inv X pins σ H s)(fD:FpOk X pins H D)(fk:FpOk X pins H kS)(ne:kS≠D)(hD:s.heap.get? D=some (seqObj "list" #[] e1))(hk:s.heap.get? kS=some (seqObj "list" kA e2))(rv:Vals xs vs)(h64:vs.length<64)(hkA:kA.size≤vs.length)
  (hout:(arrOf st).map (·.2)=(p.map fun i=>vs.getD i Value.none).toArray) (hf:failedOf st=none) (hp:p.Perm (List.range xs.length))
  (h:∀s',Inv X pins σ (upd H D (.lst (p.map fun i=>xs.getD i .non))) s'→P (.done (.ret .none)) s'):wpAny (model X.prog X.w) A' (ksk_tail D false e1 (.ref kS) st) P E s:=by
 have hlen:=rv.length
 have hsz3:((p.map fun i=>vs.getD i Value.none).toArray).size=vs.length:=by rw[List.size_toArray,List.length_map,hp.length_eq,List.length_range,hlen]
 have s1:=Heap.SameBut.update s.heap kS (Obj.mapSeq fun _=>(#[]:Array Value))
 have na1:(s.heap.update kS (Obj.mapSeq fun _=>(#[]:Array Value))).get? D=some (seqObj "list" #[] e1):=(s1.2 D (Ne.symm ne)).trans hD
 have s2:=Heap.SameBut.update (s.heap.update kS (Obj.mapSeq fun _=>(#[]:Array Value))) D (Obj.mapSeq fun _=>(p.map fun i=>vs.getD i Value.none).toArray)
 obtain⟨c2,hc2⟩:∃c2,((s.heap.update kS (Obj.mapSeq fun _=>(#[]:Array Value))).update D (Obj.mapSeq fun _=>(p.map fun i=>vs.getD i Value.none).toArray)).get? D=some (seqObj "list" (p.map fun i=>vs.getD i Value.none).toArray c2):=⟨_,get?_update_seq na1 fun _=>_⟩
 unfold ksk_tail
 rw[hout,hf]
 dsimp only
 refine wpAny_bind (listUpdate_at hk rfl ?_ (by rw[sizeLine_eq];omega) (Nat.zero_le _))
 refine wpAny_bind (wpAny_letGo ?_)
 refine wpAny_bind (seqEpoch_at na1 rfl ?_)
 refine wpAny_bind (listUpdate_at na1 rfl ?_ (Nat.zero_le _) (Nat.le_trans (Nat.le_of_eq hsz3) (by rw[sizeLine_eq];omega)))
 simp only[bne_self_eq_false,Bool.false_eq_true,if_false]
 refine wpAny_pure (h _ ?_)
 have I2:=I.turnedN (t':=s.toks) (ch:=[kS,D]) (h':=((s.heap.update kS (Obj.mapSeq fun _=>(#[]:Array Value))).update D (Obj.mapSeq fun _=>(p.map fun i=>vs.getD i Value.none).toArray))) (fun b u hb e=>by
  simp only[List.mem_cons,List.not_mem_nil,or_false,not_or]at hb
  exact(s2.2 b hb.2).trans ((s1.2 b hb.1).trans e)) (fun b hb=>by
  simp only[List.mem_cons,List.not_mem_nil,or_false]at hb
  rcases hb with rfl | rfl
  ·exact fk
  ·exact fD)
 refine I2.trackO ?_ hc2 rfl ?_
 ·rintro(z | ⟨z,o,e⟩ | ⟨q,hq,e⟩)
  ·exact z fD.1
  ·rcases fD.2.2.2.1 with y | y
   ·exact z y
   ·exact absurd (Heap.lt_size e) (Nat.not_lt.mpr y)
  ·exact fD.2.2.2.2.2 q hq e
 ·refine⟨?_,p.map fun i=>vs.getD i Value.none,c2,a2M p rv fun i hi=>List.mem_range.mp (hp.mem_iff.mp hi),hc2⟩
  rw[List.length_map,hp.length_eq,List.length_range,hlen,sizeLine_eq]
  omega
end
section
variable {X:Cx}{pins:List (Addr×Obj)}{σ:St}{H:Hp}{s:Shared}{A':Around}{E:Value→Shared→Prop}
theorem a6z{D kS:Addr}{vs keys:List Value}{xs ys:List V}{ks:List (List Int)}{e1 e2:Nat}{P:PySem.Fin→Shared→Prop}(I:Inv X pins σ H s)(fD:FpOk X pins H D)(fk:FpOk X pins H kS)(ne:kS≠D)(hD:s.heap.get? D=some (seqObj "list" #[] e1))(hk:s.heap.get? kS=some (seqObj "list" keys.toArray e2))(rv:Vals xs vs)(rk:Vals ys keys)(hl:keys.length=vs.length)(h64:vs.length<64)
  (vp:VPs X.K H ys ks) (hd:∀i j,i<ys.length→j<ys.length→i≠j→(ks.getD i []).length=(ks.getD j []).length∧ks.getD i []≠ks.getD j [])
  (h:∀(p:List Nat) s',p.Perm (List.range xs.length)→p.Pairwise (fun i j=>HT.lexLt (ks.getD j []) (ks.getD i [])=false)→Inv X pins σ (upd H D (.lst (p.map fun i=>xs.getD i .non))) s'→P (.done (.ret .none)) s') :
  wpAny (model X.prog X.w) A' (ksk_end D false vs.toArray e1 (.ref kS) keys.toArray) P E s:=by
 have hxl:=rv.length
 have hyl:=rk.length
 have tp:TPs s.heap keys ks:=a4R I rk vp
 unfold ksk_end
 simp only[Bool.false_eq_true,if_false]
 by_cases h2':vs.toArray.size<2
 ·rw[if_pos h2',if_pos h2']
  refine wpAny_bind (wpAny_pure ?_)
  rw[StateT.run_pure]
  refine wpAny_bind (wpAny_pure ?_)
  have hlen:vs.length<2:=by simpa using h2'
  refine a1A (st:=SortSt.mk' general' (keys.toArray.zip vs.toArray) #[] 7 none) (p:=List.range xs.length) I fD fk ne hD hk rv h64 (by simp;omega) ?_ rfl (List.Perm.refl _) fun s' J=>h _ s' (List.Perm.refl _) ?_ J
  ·show(keys.toArray.zip vs.toArray).map (·.2)=_
   rw[hxl]
   match vs,keys,hl,hlen with
   | [],[],_,_=>simp
   | [_],[_],_,_=>simp
  ·match hn:xs.length,(show xs.length<2 by omega)with
   | 0,_=>exact .nil
   | 1,_=>exact List.pairwise_singleton _ _
 ·rw[if_neg h2',if_neg h2']
  have hlen:2≤vs.length:=by simp at h2';omega
  obtain⟨fs,t1,t2,t3⟩:=a4P tp
  refine wpAny_bind (kat_kind (T:=.type "int") t1 (by omega) (fun v hv=>by obtain⟨i,t,rfl⟩:=t3 v hv;exact .of_pure rfl) (by decide) ?_)
  have eb:(Value.type "int" != Value.type "tuple")=true:=by decide +kernel
  rw[eb]
  have T:=a71 fun i=>ks.getD i []
  have gd:=a9X (n:=vs.length) T (by omega)
  refine wpAny_bind (wpAny_mono (kat_run (κ:=tuples' true) (vs:=vs) (ks:=keys) (Q:=fun st' s'=>∃p:Array Nat,p.size=vs.length∧arrOf st'=p.map (kas_item (keys.toArray.zip vs.toArray))∧failedOf st'=none∧s'=s∧Pmn vs.length p∧Up (fun i j=>HT.lexLt (ks.getD i []) (ks.getD j [])) p vs.length)
   (G:=fun p s'=>s'=s∧Pmn vs.length p∧Up (fun i j=>HT.lexLt (ks.getD i []) (ks.getD j [])) p vs.length)
   hl hlen h64 (fun p' st' s' a1 a2 a3 a4=>⟨p',a1,a2,a3,a4⟩) (gd.wp (fun i j C hi hj hC=>?_) fun p hp=>⟨rfl,hp⟩)) ?_ fun _ _ x=>x)
  ·by_cases z:i=j
   ·subst z
    refine TupPre.lt_self (tp.at i (by omega)) ?_
    rw[P6]at hC
    exact hC
   ·obtain⟨e,n⟩:=hd i j (by omega) (by omega) z
    exact TupPre.lt (tp.at i (by omega)) (tp.at j (by omega)) e n hC
  ·rintro⟨⟨⟩,st'⟩ s' ⟨p,hp,har,hf,rfl,hP,hU⟩
   have hPx:p.toList.Perm (List.range xs.length):=by rw[hxl];exact hP
   refine a1A (p:=p.toList) I fD fk ne hD hk rv h64 (by simp;omega) (kat_snds hl har) hf hPx fun s' J=>h _ s' hPx ?_ J
   rw[List.pairwise_iff_getElem]
   intro i j hi hj hij
   have hU':=hU i j (by omega) (by rw[← hp];simpa using hj)
   simp only[Array.length_toList]at hi hj
   have e1:ga p i=p[i]:=by unfold ga;simp[Array.getD,hi]
   have e2:ga p j=p[j]:=by unfold ga;simp[Array.getD,hj]
   rw[e1,e2]at hU'
   simpa using hU'
theorem a6A{D f:Addr}{vs:List Value}{xs:List V}{n0:Nat}{W:Nat→List V→Hp→Prop}{P:PySem.Fin→Shared→Prop}(I:Inv X pins σ H s)(hD:s.heap.get? D=some (seqObj "list" vs.toArray n0))(fD:FpOk X pins H D)(rv:Vals xs vs)(h64:vs.length<64)(w0:W 0 [] H)
  (turn:∀i x v ys H' s',xs[i]? = some x→RelV x v→W i ys H'→Inv X pins σ H' s'→(∀b o u,H b=some (.frz o u)→H' b=some (.frz o u))→wpAny (model X.prog X.w) A' (call (.ref f) [v]) (fun w s''=>∃y H2,Inv X pins σ H2 s''∧RelV y w∧W (i+1) (ys++[y]) H2∧Un (A4 X.stack) [] H' H2 s'.heap s''.heap) (fun _ _=>False) s')
  (fin:∀ys H',ys.length=xs.length→W xs.length ys H'→H' D=none→∃ks,VPs X.K H' ys ks∧(∀i j,i<ys.length→j<ys.length→i≠j→(ks.getD i []).length=(ks.getD j []).length∧ks.getD i []≠ks.getD j []) ∧
   ∀(p:List Nat) s',p.Perm (List.range xs.length)→p.Pairwise (fun i j=>HT.lexLt (ks.getD j []) (ks.getD i [])=false)→Inv X pins σ (upd H' D (.lst (p.map fun i=>xs.getD i .non))) s'→P (.done (.ret .none)) s') :
  wpAny (model X.prog X.w) A' (ksk_tree D (.ref f) false) P E s:=by
 have ha:D<s.heap.objs.size:=Heap.lt_size hD
 have s1:=Heap.SameBut.update s.heap D (Obj.mapSeq fun _=>(#[]:Array Value))
 obtain⟨e1,ho1⟩:∃e1,(s.heap.update D (Obj.mapSeq fun _=>(#[]:Array Value))).get? D=some (seqObj "list" #[] e1):=⟨_,get?_update_seq hD fun _ => #[]⟩
 have hkS:((s.heap.update D (Obj.mapSeq fun _=>(#[]:Array Value))).push (seqObj "tuple" vs.toArray 0)).objs.size=s.heap.objs.size+1:=by rw[size_push',Heap.size_update]
 have hxl:=rv.length
 unfold ksk_tree
 refine wpAny_bind (listItems_at hD rfl ?_)
 refine wpAny_bind (listUpdate_at hD rfl ?_ (by rw[List.size_toArray,sizeLine_eq];omega) (Nat.zero_le _))
 refine wpAny_bind (seqEpoch_at ho1 rfl ?_)
 refine wpAny_bind (wpAny_newTuple ?_ (by show vs.length≤_;rw[sizeLine_eq];omega))
 refine wpAny_bind (wpAny_newList ?_ (Nat.zero_le _))
 refine wpAny_holding ?_
 show wpAny (model X.prog X.w) A' (ksk_rest D (.ref f) false vs.toArray e1 (.ref ((s.heap.update D (Obj.mapSeq fun _=>(#[]:Array Value))).push (seqObj "tuple" vs.toArray 0)).objs.size)) P E { s with heap:=((s.heap.update D (Obj.mapSeq fun _=>(#[]:Array Value))).push (seqObj "tuple" vs.toArray 0)).push (seqObj "list" #[] 0) }
 have hkO:(((s.heap.update D (Obj.mapSeq fun _=>(#[]:Array Value))).push (seqObj "tuple" vs.toArray 0)).push (seqObj "list" #[] 0)).get? ((s.heap.update D (Obj.mapSeq fun _=>(#[]:Array Value))).push (seqObj "tuple" vs.toArray 0)).objs.size=some (seqObj "list" #[] 0):=Heap.get?_push_size _ rfl
 have hDO:(((s.heap.update D (Obj.mapSeq fun _=>(#[]:Array Value))).push (seqObj "tuple" vs.toArray 0)).push (seqObj "list" #[] 0)).get? D=some (seqObj "list" #[] e1):=Heap.get?_push_of_some _ (Heap.get?_push_of_some _ ho1)
 have I2:=I.turnedN (t':=s.toks) (ch:=[D]) (h':=((s.heap.update D (Obj.mapSeq fun _=>(#[]:Array Value))).push (seqObj "tuple" vs.toArray 0)).push (seqObj "list" #[] 0)) (fun b u hb e=>Heap.get?_push_of_some _ (Heap.get?_push_of_some _ ((s1.2 b (fun z=>hb (by simp[z]))).trans e))) (fun b hb=>by
  simp only[List.mem_singleton]at hb;rw[hb];exact fD)
 rw[hkS]at hkO ⊢
 have fk:FpOk X pins H (s.heap.objs.size+1):=I.fpOk (Nat.le_succ _) (I.hok.fresh (Nat.le_succ _))
 have ne:s.heap.objs.size+1≠D:=Nat.ne_of_gt (Nat.lt_succ_of_lt ha)
 generalize ((s.heap.update D (Obj.mapSeq fun _=>(#[]:Array Value))).push (seqObj "tuple" vs.toArray 0)).push (seqObj "list" #[] 0)=h2 at *
 generalize s.heap.objs.size+1=kS at *
 have nD:=fD.nstk I
 have nk:=fk.nstk I
 unfold ksk_rest
 refine wpAny_bind (wpAny_rule ?_)
 first
  | rw[List.forIn_toArray]
  | (rw[← Array.forIn_toList];simp only[List.toList_toArray])
  | rw[← Array.forIn_toList]
 refine wpAny_bind (ksk_fold (fun i s'=>∃H' ys kA e,Inv X pins σ H' s'∧W i ys H'∧Vals ys kA∧ys.length=i∧s'.heap.get? kS=some (seqObj "list" kA.toArray e)∧s'.heap.get? D=some (seqObj "list" #[] e1)∧H' kS=none∧H' D=none∧∀b o u,H b=some (.frz o u)→H' b=some (.frz o u)) vs 0 { s with heap:=h2 }
  ⟨H,[],[],0,I2,w0,.nil,rfl,hkO,hDO,fk.1,fD.1,fun _ _ _ e=>e⟩ ?step ?done)
 case step =>
  rintro j v s' hv ⟨H',ys,kA,e,I',wj,rk,ly,ok,od,nk',nd',fz⟩
  simp only[Nat.zero_add]at wj ly ⊢
  obtain⟨x,hx,rx⟩:=a93 rv hv
  have hj:j<vs.length:=(List.getElem?_eq_some_iff.mp hv).1
  have hz:=rk.length
  refine wpAny_bind (wpAny_attempt (wpAny_mono (turn j x v ys H' s' hx rx wj I' fz) (fun u s'' hu=>?_) fun _ _ z=>z.elim))
  obtain⟨y,H3,I3,ry,w3,un⟩:=hu
  have ok3:=un.keep kS _ ok nk' nk (by simp)
  have od3:=un.keep D _ od nd' nD (by simp)
  have s3:=Heap.SameBut.update s''.heap kS (Obj.mapSeq (·.push u))
  obtain⟨c2,hc2⟩:∃c2,(s''.heap.update kS (Obj.mapSeq (·.push u))).get? kS=some (seqObj "list" (kA.toArray.push u) c2):=⟨_,get?_update_seq ok3 (·.push u)⟩
  have nk3:=un.free kS _ ok nk' (by simp)
  have nd3:=un.free D _ od nd' (by simp)
  refine wpAny_bind (listUpdate_at ok3 rfl ?_ (by rw[List.size_toArray,sizeLine_eq];omega) (Nat.le_trans (Nat.le_of_eq (Array.size_push ..)) (by rw[List.size_toArray,sizeLine_eq];omega)))
  refine wpAny_pure ⟨rfl,H3,ys++[y],kA++[u],c2,I3.turnedN (ch:=[kS]) (fun b o hb e=>(s3.2 b (fun z=>hb (by simp[z]))).trans e) (fun b hb=>by
   simp only[List.mem_singleton]at hb;rw[hb];exact fk.to nk3),w3,?_,by rw[List.length_append,ly];rfl,?_,(s3.2 D (Ne.symm ne)).trans od3,nk3,nd3,fun b o u e=>un.frzs _ _ _ (fz b o u e)⟩
  ·exact rk.append (.cons ry .nil)
  ·rw[show(kA++[u]).toArray=kA.toArray.push u by simp];exact hc2
 case done =>
  rintro s' ⟨H',ys,kA,e,I',wj,rk,ly,ok,od,nk',nd',fz⟩
  rw[Nat.zero_add]at wj ly
  rw[← hxl]at wj ly
  obtain⟨ks,vp,hd,q⟩:=fin ys H' ly wj nd'
  refine wpAny_bind (listItems_at ok rfl ?_)
  have:=rk.length
  exact a6z I' (fD.to nd') (fk.to nk') ne od ok rv rk (by omega) h64 vp hd q
end
def TbAt(P:Addr)(q:Str)(H:Hp):Prop:=∃(qs:Array Value) (t:Tok),H P=some (.tbl qs)∧qs[0]? = some (Value.str q t)
theorem TbAt.now{P:Addr}{q:Str}{fs ex:List Addr}{H H':Hp}{h h':Heap}(t:TbAt P q H)(u:Un fs ex H H' h h'):TbAt P q H':=by
 obtain⟨qs,t,e,e2⟩:=t
 obtain⟨more,e3⟩:=u.tbls _ _ e
 refine⟨_,t,e3,?_⟩
 have h0:0<qs.size:=by
  by_cases z:0<qs.size
  ·exact z
  ·rw[Array.getElem?_eq_none (by omega)]at e2;cases e2
 rw[Array.getElem?_append_left h0];exact e2
def a3c:List V→Hp→VK→Prop:=fun xs H Q=>∃j:Int,xs=[.int j]∧∀r,H r=none→Q (.ref r) (upd H r (.rng 0 j))
def a6B(K:PySem.W.Frag)(te:TE)(js:List Nat)(σ:St)(Q:VK)(vs:List V)(H1:Hp):Prop:=∃(n:Nat) (r:Addr),vs=[.ref r]∧H1 r=some (.rng 0 (n:Int))∧n<64 ∧
 ∀H2:Hp,(∀a o,H1 a=some o→H2 a=some o)→∃W:Nat→List V→Hp→Prop,W 0 [] H2∧(∀i ys H',i<n→W i ys H'→te (a3b js σ (.int (i:Int))) H' fun y H''=>W (i+1) (ys++[y]) H'') ∧
  ∀ys H',ys.length=n→W n ys H'→∃ks,VPs K H' ys ks∧(∀i j,i<ys.length→j<ys.length→i≠j→(ks.getD i []).length=(ks.getD j []).length∧ks.getD i []≠ks.getD j []) ∧
   ∀l (p:List Nat),H' l=none→p.Perm (List.range n)→p.Pairwise (fun i j=>HT.lexLt (ks.getD j []) (ks.getD i [])=false)→Q (.ref l) (upd H' l (.lst (p.map fun(i:Nat)=>V.int (i:Int))))
def a6C(K:W.Frag)(ta:TA)(te:TE)(js:List Nat):TE:=fun σ H Q=>ta σ H fun xs H1=>a3c xs H1 fun x H2=>a6B K te js σ Q [x] H2
section
variable {X:Cx}
theorem a4p:CallR X (.type "range") a3c:=by
 intro pins s σ H xs us Q I r h
 obtain⟨j,rfl,q⟩:=h
 obtain⟨u,rfl,ru⟩:=r.one
 obtain⟨t,rfl⟩:=ru
 refine call_range_1 ?_
 have hg:(s.heap.push { cls:=.type "range",data:=.fields #[.int 0 s.toks,.int j t,.int 1 (s.toks+1)] }).get? s.heap.objs.size=some { cls:=.type "range",data:=.fields #[.int 0 s.toks,.int j t,.int 1 (s.toks+1)] }:=Heap.get?_push_size _ rfl
 exact⟨.ref _,_,I.laid (t':=s.toks+1+1) (o:=.rng 0 j) (fun b o e=>Heap.get?_push_of_some _ e) (Nat.le_refl _) ⟨_,_,_,hg⟩,rfl,q _ I.fresh⟩
theorem a4q:∀{n:Nat} {acc:Array Value},ItemsOf (fun i v=>∃t,v=.int (0+(i:Int)*1) t) acc n→Vals ((List.range n).map fun(i:Nat)=>V.int (i:Int)) acc.toList:=by
 intro n acc ⟨hs,hv⟩
 have key:∀(l:List Value) (k:Nat),(∀j v,l[j]? = some v→∃t,v=Value.int ((k+j:Nat):Int) t)→Vals ((List.range' k l.length).map fun(i:Nat)=>V.int (i:Int)) l:=by
  intro l
  induction l with
  | nil=>intro k _;exact .nil
  | cons u l ih =>
   intro k h
   rw[List.length_cons,List.range'_succ,List.map_cons]
   refine .cons ?_ (ih (k+1) fun j v e=>?_)
   ·obtain⟨t,rfl⟩:=h 0 u rfl
    exact⟨t,rfl⟩
   ·obtain⟨t,rfl⟩:=h (j+1) v (by simpa using e)
    exact⟨t,by rw[show k+(j+1)=k+1+j by omega]⟩
 have hl:acc.toList.length=n:=by simpa using hs
 have:=key acc.toList 0 fun j v e=>by
  obtain⟨t,rfl⟩:=hv j v (by simpa using e)
  exact⟨t,by congr 1;omega⟩
 rw[hl,← List.range_eq_range']at this
 exact this
theorem a4r:bootBuiltins "sorted" = some (.builtin "sorted"):=by decide +kernel
theorem a4s:bootBuiltins "range" = some (.type "range"):=by decide +kernel
theorem a77{k:Nat}{e body:Expr}{params:Arguments}{scope:Scope}{p p2 pos pos2 lpos kpos:Pos}{ta:TA}{te:TE}{c P:Addr}{q kn:Str}{Nc:List Str}{js:List Nat}(hr:Room k X.A)(hcalm:X.calm=true)(hg:Gl X "sorted")(hm:X.mg "sorted" = none)(hg2:Gl X "range")(hm2:X.mg "range" = none)(ha:PA X [e] ta)
  (hd:defaultsOf params X.env=([],[])) (hcode:X.env.code=.ref c) (C:CodeHd X.base c P) (hbl:X.base.BuiltinsAt X.mg P) (hq:q=X.env.qual ++ "<lambda>") (hT0:TbAt P q X.H₀) (S:CompSc X.env.scope scope X.N Nc 1 js) (hk0:Nc[0]? = some kn) (hloc:scope.names.lookup kn=some .local)
  (hbd:∀cl pm cv ctv v,bindArgs (kla_fn "<lambda>" q params body scope cl pm cv ctv) ⟨[v],[]⟩=pure [(kn,v)]) (hco:scope.isCoroutine=false) (hgen:scope.isGenerator=false)
  (hbody:∀f c' s' H',PE (a5C X X.A.in1.in1 scope q Nc f c' s' H') body te)
  (he:backTo pos (starEach [Expr.Call (.Name "range" p2) [e] [] pos2] X.env)=(false,eval (.Call (.Name "range" p2) [e] [] pos2) X.env)::backTo pos (starEach [] X.env):=by rfl) (hplain:(backTo pos (starEach [Expr.Call (.Name "range" p2) [e] [] pos2] X.env)).any (·.1)=false:=by rfl)
  (he2:starEach [e] X.env=(false,eval e X.env)::starEach [] X.env:=by rfl) (hpl2:(backTo pos2 (starEach [] X.env)).any (·.1)=false:=by rfl) :
  PE X (.Call (.Name "sorted" p) [.Call (.Name "range" p2) [e] [] pos2] [⟨some "key",.Lambda params body scope lpos,kpos⟩] pos) (a6C X.K ta te js):=by
 intro pins s σ H Q I h
 have hrng:PE X (.Call (.Name "range" p2) [e] [] pos2) (tCB a3c ta):=Z6 a4p hg2 hm2 a4s ha (by decide) (by decide) he2 hpl2
 have hlam:PE X (.Lambda params body scope lpos) (fun σ H Q=>∀f c' oc u pm ctv H',(∀a o,H a=some o→H' a=some o)→H' f=some (.frz (T8 X params body scope q c' pm ctv) (.own f))→H' c'=some (.frz oc u)→a0w oc q→Q (.ref f) H'):=by
  intro pins s σ H Q I h
  obtain⟨qs,tq,hT,hqs⟩:=hT0.now I.base
  exact a75 I hd hcode C hbl hT hqs hq S.free fun f c' oc u pm ctv H' s' I' ex h1 h2 h3=>⟨.ref f,H',I',rfl,h f c' oc u pm ctv H' ex h1 h2 h3⟩
 have hk:=a9M (nm:=some "key") (kpos:=kpos) hlam (b1R (X:=X))
 have har:PA X [.Call (.Name "range" p2) [e] [] pos2] (F5 (tCB a3c ta) Q0):=b0 hrng d9
 refine wpAny_Call_Name_kw (U1 I hg hm a4r ?_)
 refine callWith_kw (i6 (har pos pins s σ H (a6B X.K te js σ Q) I h) fun us s1 ⟨vs,H1,I1,r1,q1⟩=>?_) he hplain
 obtain⟨n,r,rfl,hrr,h64,q2⟩:=q1
 refine i6 (hk pos pins s1 σ H1 (fun zs H2=>∃f c' oc u pm ctv,zs=[.ref f]∧(∀a o,H1 a=some o→H2 a=some o)∧H2 f=some (.frz (T8 X params body scope q c' pm ctv) (.own f))∧H2 c'=some (.frz oc u)∧a0w oc q) I1 fun f c' oc u pm ctv H' ex h1 h2 h3=>⟨f,c',oc,u,pm,ctv,rfl,ex,h1,h2,h3⟩) fun ws s2 ⟨zs,H2,I2,r2,q3⟩=>?_
 obtain⟨f,c',oc,u,pm,ctv,rfl,ex,hf,hc',hcq⟩:=q3
 obtain⟨W,w0,step,fin⟩:=q2 H2 ex
 obtain⟨u1,rfl,ru⟩:=r1.one
 obtain⟨u2,rfl,ru2⟩:=r2.one
 cases (show u1=Value.ref r from ru)
 cases (show u2=Value.ref f from ru2)
 obtain⟨t0,t1,t2,hro⟩:=I2.hok r _ (ex r _ hrr)
 have hh:X.A.handled=none:=I.ok.hd hcalm
 refine call_function_entry_kw kind_sorted plain_sorted entry_sorted (ksk_s1 _ _) ?_
 unfold Builtin.«sorted»
 refine wpAny_bind (m:=checkCount "sorted" 1 1 _) (wpAny_pure ?_)
 have hn:Builtin.Range.rangeSize 0 (n:Int) 1=(n:Int):=by
  unfold Builtin.Range.rangeSize
  rw[if_pos (by omega)]
  by_cases z:(0:Int)<n
  ·rw[if_pos z];omega
  ·rw[if_neg z];omega
 refine wpAny_bind (a4o (A:=X.A.in1) hh hro (small_one (by omega) (by omega) (by omega) (by omega)) hn (by omega) fun h' tk acc kp hi=>?_)
 have rv:Vals ((List.range n).map fun(i:Nat)=>V.int (i:Int)) acc.toList:=a4q hi
 have hal:acc.toList.length=n:=by rw[← rv.length,List.length_map,List.length_range]
 refine wpAny_bind (wpAny_newList ?_ (by rw[sizeLine_eq];omega))
 have I3:Inv X pins σ H2 { s2 with heap:=h',toks:=tk }:=I2.kept kp
 have hD:(h'.push (seqObj "list" acc.toList.toArray 0)).get? h'.objs.size=some (seqObj "list" acc.toList.toArray 0):=Heap.get?_push_size _ rfl
 have fD:FpOk X pins H2 h'.objs.size:=I3.fpOk (Nat.le_refl _) (I3.hok.fresh (Nat.le_refl _))
 have I4:Inv X pins σ H2 { s2 with heap:=h'.push (seqObj "list" acc.toList.toArray 0),toks:=tk }:=I3.kept (t':=tk) fun b o e=>Heap.get?_push_of_some (seqObj "list" acc.toList.toArray 0) e
 show wpAny _ _ _ _ _ { s2 with heap:=h'.push (seqObj "list" acc.toList.toArray 0),toks:=tk }
 refine wpAny_bind (wpAny_holding (wpAny_call_entry_kw slot_list_sort ⟨_,hD,rfl⟩ entry_list_sort ?body (ksk_l1 _ _)))
 case body =>
  show wpAny (model X.prog X.w) X.A.in1.in1 (Builtin.«list.sort» ⟨[.ref h'.objs.size],[(Str.ofString "key",.ref f)]⟩) _ _ _
  rw[ksk_t1]
  have hfr:X.A.in1.in1.frames=some X.stack:=I.ok.frames
  have hdp:X.A.in1.in1.depth<recursionLimit:=by have:=hr.dp;show X.A.depth<_;omega
  refine a6A (W:=W) (xs:=(List.range n).map fun(i:Nat)=>V.int (i:Int)) I4 hD fD rv (by omega) w0 (fun i x v ys H' s' hx rx wi I' fz=>?_) (fun ys H' hl wn hnD=>?_)
  ·rw[List.getElem?_map]at hx
   cases e:(List.range n)[i]? with
   | none=>rw[e]at hx;cases hx
   | some j =>
    rw[e]at hx
    cases hx
    obtain⟨e1,e2⟩:=List.getElem?_eq_some_iff.mp e
    rw[List.getElem_range]at e2
    subst e2
    rw[List.length_range]at e1
    exact a76 I' hfr hh hdp S hk0 hloc (fz _ _ _ hf) (fz _ _ _ hc') hcq (hbd _ _ _ _ _) hco hgen (hbody f c' s' H') rx (step i ys H' e1 wi)
  ·rw[List.length_map,List.length_range]at hl wn
   obtain⟨ks,vp,hd,q⟩:=fin ys H' hl wn
   refine⟨ks,vp,hd,fun p s' hp hs J=>⟨_,rfl,wpAny_pure ⟨_,rfl,.ref h'.objs.size,_,J,rfl,?_⟩⟩⟩
   rw[List.length_map,List.length_range]at hp
   have e:(p.map fun i=>((List.range n).map fun(i:Nat)=>V.int (i:Int)).getD i .non)=p.map fun(i:Nat)=>V.int (i:Int):=by
    refine List.map_congr_left fun i hi=>?_
    have hi:=List.mem_range.mp (hp.mem_iff.mp hi)
    simp[List.getD,hi]
   rw[e]
   exact q _ p hnD hp hs
end
def B6(TB:List (Addr×Str))(H:Hp):Hp:=fun b=>match TB.lookup b with
 | some q=>some (.tbl #[.str q 0])
 | none=>H b
def TbAll(TB:List (Addr×Str))(H:Hp):Prop:=∀P q,TB.lookup P=some q→TbAt P q H
theorem TbAll.now{TB:List (Addr×Str)}{fs ex:List Addr}{H H':Hp}{h h':Heap}(t:TbAll TB H)(u:Un fs ex H H' h h'):TbAll TB H':=fun P q e=>(t P q e).now u
theorem a94(TB:List (Addr×Str))(H:Hp):TbAll TB (B6 TB H):=fun P q e=>⟨#[.str q 0],0,by unfold B6;rw[e],rfl⟩
theorem a6D{P:Program}{w:World}{K:W.Frag}{mg mb:Str→Option Value}{CX:O3}{k:Nat}{fa a:Addr}{fd:FuncData}{x:Str}{sp:Sp}{s₁:Shared}{vs:List Value}{ns:List Int}{TB:List (Addr×Str)}
  (KX:K.In s₁.heap) (hns:s₁.heap.Ns mainGlobals mg) (hb:s₁.heap.Ns builtinsNs mb) (hbb:∀x:Str,x≠"__name__"→mb x=bootBuiltins x) (hlim:s₁.heap.NoLimit) (hg:s₁.gens = #[])
  (ha:s₁.heap.get? a=some { cls:=.type "list",data:=.seq vs.toArray }) (hi:IntsAre vs ns) (hl:ns.length≤sizeLine) (hr:Room k callerA)
  (hT:∀Pa q,TB.lookup Pa=some q→(∃c,s₁.heap.TableAt c Pa #[])∧K.lookup Pa=none)
  (F:∀base:Heap,K.In base→base.Ns mainGlobals mg→(∀b o,s₁.heap.get? b=some o→TB.lookup b=none→b≠a→base.get? b=some o)→FnOk P w K mg base CX k fa fd [x] sp) (hbind:∀(s:Shared) (u:Value),BindsTo s fd ⟨[u],[]⟩ [(x,u)])
  (hsp:∀H:Hp,TbAll TB H→Scr K H a (ns.map V.int)→sp [.ref a] H (fun v _=>v=.bl true) fun _ _ _=>False)
  (hCX:∀H e s',CX [] H s₁ (fun _ _ _=>False) e s'→False) :
  codeAny (model P w) callerA (.call (.ref fa) ⟨[.ref a],[]⟩) (fun r s'=>r=.ok (.ret (.bool true))∧OldK s₁.heap s'.heap∧s'.os=s₁.os∧AllBare s'.gens) s₁:=by
 have rv:=a2L hi
 have lenV:=hi.length
 have tabA:∀{Pa q},TB.lookup Pa=some q→s₁.heap.get? Pa=some (tabObj #[]):=fun{Pa q} e=>by
  obtain⟨⟨c,_,e2⟩,_⟩:=hT Pa q e
  exact e2
 have neA:TB.lookup a=none:=by
  cases e:TB.lookup a with
  | none=>rfl
  | some q=>have:=tabA e;rw[ha]at this;cases this
 have core:∀H0:Hp,Scr K (B6 TB H0) a (ns.map V.int)→HOk P w (B6 TB H0) s₁.heap→(∀b,H0 b=none∨∃o xs,H0 b=some (.frz o (.lst xs)))→(∀b,H0 b≠none→b=a)→(H0 a≠none→K.lookup a=none) →
   codeAny (model P w) callerA (.call (.ref fa) ⟨[.ref a],[]⟩) (fun r s'=>r=.ok (.ret (.bool true))∧OldK s₁.heap s'.heap∧s'.os=s₁.os∧AllBare s'.gens) s₁:=by
  intro H0 hS hok hO hA hK
  have cs:∀b,(∃q,TB.lookup b=some q∧B6 TB H0 b=some (.tbl #[.str q 0]))∨(TB.lookup b=none∧B6 TB H0 b=H0 b):=fun b=>by
   unfold B6
   cases e:TB.lookup b with
   | none=>exact .inr ⟨rfl,rfl⟩
   | some q=>exact .inl ⟨q,rfl,rfl⟩
  have base_of:∀{b:Addr} {o:Obj},s₁.heap.get? b=some o→B6 TB H0 b=none→(T6 s₁.heap (B6 TB H0)).get? b=some o:=fun e n=>a7B e n
  have noA:∀{b:Addr} {o:Obj} {es:Array DictEntry} {ep:Nat},s₁.heap.get? b=some o→o.data=.dict es ep→B6 TB H0 b=none:=fun{b o es ep} e d=>by
   rcases cs b with⟨q,e1,_⟩ | ⟨e1,e2⟩
   ·have:=tabA e1;rw[e]at this;cases this;cases d
   ·rw[e2]
    cases q:H0 b with
    | none=>rfl
    | some u =>
     have e':b=a:=hA b (by rw[q];simp)
     subst e'
     rw[ha]at e;cases e
     cases d
  have nsK:∀{b:Addr} {m:Str→Option Value},s₁.heap.Ns b m→(T6 s₁.heap (B6 TB H0)).Ns b m:=fun{b m} ⟨o,es,ep,e,d,r⟩=>⟨o,es,ep,base_of e (noA e d),d,r⟩
  have hKb:K.In (T6 s₁.heap (B6 TB H0)):=fun b o e=>base_of (KX b o e) (by
   rcases cs b with⟨q,e1,_⟩ | ⟨e1,e2⟩
   ·rw[(hT b q e1).2]at e;cases e
   ·rw[e2]
    cases q:H0 b with
    | none=>rfl
    | some u =>
     have e':b=a:=hA b (by rw[q];simp)
     subst e'
     rw[hK (by rw[q];simp)]at e;cases e)
  have hM:Mod K mg (T6 s₁.heap (B6 TB H0)):=⟨hKb,nsK hns,⟨mb,nsK hb,hbb⟩,let ⟨mc,h1,h2⟩:=hlim; ⟨mc,nsK h1,h2⟩⟩
  have e0:Env0 P w K mg (T6 s₁.heap (B6 TB H0)) callerA [] s₁ (B6 TB H0):=⟨rfl,hM,fun b o e=>a9G e,Nat.le_of_eq (a50 _ _),trivial,fun b hb=>absurd (show b∈([]:List Addr)from hb) (by simp),hok,.of_eq hg⟩
  have bk:∀b o,s₁.heap.get? b=some o→TB.lookup b=none→b≠a→(T6 s₁.heap (B6 TB H0)).get? b=some o:=fun b o e n na=>base_of e (by
   rcases cs b with⟨q,e1,_⟩ | ⟨e1,e2⟩
   ·rw[n]at e1;cases e1
   ·rw[e2]
    cases q:H0 b with
    | none=>rfl
    | some u=>exact absurd (hA b (by rw[q];simp)) na)
  refine codeAny_mono ((F _ hKb (nsK hns) bk).run callerA [] s₁ (B6 TB H0) ⟨[.ref a],[]⟩ [.ref a] [.ref a] _ _ hr e0 (hbind s₁ (.ref a)) (.cons rfl .nil) (hsp _ (a94 TB H0) hS)) fun r s' h=>?_
  cases r with
  | error e=>exact(hCX _ e s' h).elim
  | ok fl =>
   cases fl with
   | next=>exact False.elim h
   | brk=>exact False.elim h
   | cont=>exact False.elim h
   | ret u =>
    obtain⟨v,H',os,bare,un,hok',r',q⟩:=h
    have q':v=.bl true:=q
    subst q'
    obtain rfl:u=Value.bool true:=r'
    refine⟨rfl,?_,os,bare⟩
    have kpt:∀b o,s₁.heap.get? b=some o→TB.lookup b=none→s'.heap.get? b=some o:=fun b o e n=>by
     rcases cs b with⟨q,e1,_⟩ | ⟨_,e2⟩
     ·rw[n]at e1;cases e1
     ·cases q:H0 b with
      | none=>exact un.keep b o e (by rw[e2,q]) (by intro z;exact absurd (show b∈([]:List Addr)from z) (by simp)) (by simp)
      | some u =>
       rcases hO b with z | ⟨ob,xs,z⟩
       ·rw[q]at z;cases z
       ·rw[← e2]at z
        have z2:=un.frzs b ob _ z
        obtain⟨e1,_⟩:=hok b _ z
        obtain⟨e2,_⟩:=hok' b _ z2
        rw[e]at e1;cases e1
        exact e2
    have tbt:∀b q,TB.lookup b=some q→∃ps,s'.heap.get? b=some (tabObj ps):=fun b q e=>by
     rcases cs b with⟨q',e1,e2⟩ | ⟨e1,_⟩
     ·obtain⟨more,e3⟩:=un.tbls b _ e2
      obtain⟨ps,e4,_⟩:=hok' b _ e3
      exact⟨ps,e4⟩
     ·rw[e]at e1;cases e1
    refine⟨fun b o e=>?_,fun b o e=>?_⟩
    ·cases n:TB.lookup b with
     | none=>exact .inl (kpt b o e n)
     | some q =>
      obtain⟨ps,e4⟩:=tbt b q n
      have e5:=tabA n
      rw[e]at e5;cases e5
      obtain⟨⟨c,ht⟩,_⟩:=hT b q n
      exact .inr (.inl ⟨ht.isCodeTable,rfl,#[],ps,rfl,by rw[e4];simp⟩)
    ·cases n:TB.lookup b with
     | none=>exact⟨o,kpt b o e n⟩
     | some q=>obtain⟨ps,e4⟩:=tbt b q n;exact⟨_,e4⟩
 have tabOk:∀H0 b u,TB.lookup b≠none→B6 TB H0 b=some u→ObjOk P w (B6 TB H0) s₁.heap b u:=fun H0 b u n e=>by
  cases q:TB.lookup b with
  | none=>exact absurd q n
  | some q' =>
   have e':B6 TB H0 b=some (.tbl #[.str q' 0]):=by unfold B6;rw[q]
   rw[e']at e;cases e
   exact⟨#[],tabA q,trivial,fun pos cv z=>by cases z⟩
 cases hk:K.lookup a with
 | some o =>
  have e:=KX a o hk
  rw[ha]at e
  cases e
  refine core (fun _=>none) (.inr ⟨_,vs.toArray,_,hk,rfl,rfl,rfl,by rw[List.size_toArray,lenV];exact hl,by simpa using rv⟩) (fun b u z=>?_) (fun _=>.inl rfl) (fun b z=>absurd rfl z) fun z=>absurd rfl z
  cases n:TB.lookup b with
  | none =>
   have z':B6 TB (fun _=>none) b=none:=by unfold B6;rw[n]
   rw[z']at z;cases z
  | some q=>exact tabOk _ b u (by rw[n];simp) z
 | none =>
  refine core (fun b=>if b=a then some (.frz { cls:=.type "list",data:=.seq vs.toArray } (.lst (ns.map V.int)))else none) (.inl ⟨{ cls:=.type "list",data:=.seq vs.toArray },by unfold B6;rw[neA];exact if_pos rfl⟩) (fun b u z=>?_) (fun b=>?_) (fun b z=>?_) fun _=>hk
  ·cases n:TB.lookup b with
   | some q=>exact tabOk _ b u (by rw[n];simp) z
   | none =>
    have z':B6 TB (fun b=>if b=a then some (.frz { cls:=.type "list",data:=.seq vs.toArray } (.lst (ns.map V.int)))else none) b=(if b=a then some (.frz { cls:=.type "list",data:=.seq vs.toArray } (.lst (ns.map V.int)))else none):=by unfold B6;rw[n]
    rw[z']at z
    by_cases hb:b=a
    ·rw[if_pos hb]at z
     cases z
     subst hb
     exact⟨ha,by rw[List.length_map];exact hl,vs,_,rv,ha⟩
    ·rw[if_neg hb]at z;cases z
  ·by_cases hb:b=a
   ·exact .inr ⟨_,_,if_pos hb⟩
   ·exact .inl (if_neg hb)
  ·by_cases hb:b=a
   ·exact hb
   ·exact absurd (if_neg hb) z
def L7(TB:List (Addr×Str))(sp:Sp):Sp:=fun vs H Q E=>TbAll TB H∧sp vs H Q E
theorem walk_ofT{l:OpenLaw}{n k:Nat}{q:Program}{loose:List Str}{XP:(Str→Option Value)→Heap→Prop}{YP:World→Heap→Prop}{d:DefRec}{K:Params→Frag}{CX:World→O3}{sp:World→Sp}{x:Str}
  (hn:l.most=some n) (hn2:n≤sizeLine) (hdf:d.params.defaults=[]) (hr:Room k callerA)
  (hY:∀(w:World) (h:Heap),YP w h→(K w.params).In h)
  (F:∀(w:World) (mg mb:Str→Option Value) (fa:Addr) (h:Heap) (mean:ExcName→Option Value),(K w.params).In h→h.Ns mainGlobals mg→mg d.name=some (.ref fa)→Top q (looseW q loose) mean mg mb h →
   ∃(fd:FuncData) (TB:List (Addr×Str)),(∀(s:Shared) (u:Value),BindsTo s fd ⟨[u],[]⟩ [(x,u)])∧(∀Pa qq,TB.lookup Pa=some qq→(∃c,h.TableAt c Pa #[])∧(K w.params).lookup Pa=none) ∧
    ∀base:Heap,(K w.params).In base→base.Ns mainGlobals mg→(∀b o,h.get? b=some o→o.cls≠.none→o.cls≠.type "list"→base.get? b=some o)→FnOk l.prog w (K w.params) mg base (CX w) k fa fd [x] (L7 TB (sp w)))
  (hsp:∀(w:World) (H:Hp) (a:Addr) (ns:List Int),ns.length≤n→(∀m∈ns,Builtin.Int.intBits m≤2 ^ 20)→Scr (K w.params) H a (ns.map V.int)→sp w [.ref a] H (fun v _=>v=.bl true) fun _ _ _=>False)
  (hCX:∀(w:World) (H:Hp) (s:Shared) (e:Value) (s':Shared),CX w [] H s (fun _ _ _=>False) e s'→False) :
  WalkO q loose XP YP l.row.toRowW d [] (fun f vs=>PySem.call f vs):=by
 intro w s₀ s₁ mg mb G Y fa o pm cd doc dV kV ho hd hcd hD hmg hg args vals as hpre hlay hrd hwl hlo
 obtain rfl:dV=.none:=Dflts.none hD hdf
 obtain rfl:kV=.none:=Dflts.noKw hD
 obtain⟨a,vs,ns,rfl,rfl,hobj,hints,hlen⟩:=Att.script_of hn hpre hwl
 have KX:=hY w _ Y
 obtain⟨fd,TB,hb,hT,hF⟩:=F w mg mb fa _ _ KX G.T.g hmg G.T
 refine enter_call (codeAny_mono (a6D (TB:=TB) KX G.T.g G.T.b G.T.builtins G.T.nolimit hg hobj hints (Nat.le_trans hlen hn2) hr hT (fun base k1 k2 k3=>hF base k1 k2 fun b o e c1 c2=>k3 b o e (by
  cases z:TB.lookup b with
  | none=>rfl
  | some q' =>
   obtain⟨⟨c,_,e2⟩,_⟩:=hT b q' z
   rw[e]at e2;cases e2;exact absurd rfl c1) (fun z=>by rw[z,hobj]at e;cases e;exact absurd rfl c2)) hb (fun H hO hS=>⟨hO,hsp w H a ns hlen (a4m hlay) hS⟩) fun H e s'=>hCX w H s₁ e s') fun r s' hq=>?_)
 obtain⟨rfl,h2,h3,h4⟩:=hq
 exact⟨.inl ⟨.bool true,.bool true,[],rfl,fun _=>rfl,.bool true,Att.post_true l _,fun _=>⟨List.Pairwise.nil,fun _ hm=>(nomatch hm)⟩⟩,h2,h3,h4⟩
theorem b16{q:Program}{loose:List Str}{mean:ExcName→Option Value}{mg mb:Str→Option Value}{h:Heap}{K:Frag}{x:Str}{f c:Addr}{oc oc':Value}{od od':Option Addr}{fd:FuncData}{osl osl':Array (Option Value)}{vs:Array Value}{P:Addr}(T:Top q loose mean mg mb h)(KX:K.In h)(hrec:(recsOf q).any (fun d=>d.name == x)=true)(hm:mg x=some (.ref f))(lk:K.lookup f=some ⟨oc,od,.func fd,osl⟩)(hc:fd.code=.ref c)(lc:K.lookup c=some ⟨oc',od',.fields vs,osl'⟩)(hP:vs.getD 11 .none=.ref P) :
  h.TableAt c P #[]∧∀base:Heap,(∀b o,h.get? b=some o→o.cls≠.none→o.cls≠.type "list"→base.get? b=some o)→CodeHd base c P∧base.BuiltinsAt mg P:=by
 obtain⟨d,hd,e⟩:=List.any_eq_true.mp hrec
 have e:d.name=x:=by simpa using e
 subst e
 obtain⟨a,o,fd',c',P',h1,h2,h3,h4,h5,h6⟩:=T.tab d hd
 rw[hm]at h1;cases h1
 rw[KX _ _ lk]at h2;cases h2
 have h3:Data.func fd=Data.func fd':=h3
 cases h3
 rw[hc]at h4;cases h4
 have C:=CodeHd.of h5 h6
 obtain⟨o,vs',file,tf,flags,tg,inF,text,tt,c1,c2,c3,c4,c5,cr⟩:=C
 have hPP:P'=P:=by
  rw[KX _ _ lc]at c1;cases c1
  have c3:Data.fields vs=Data.fields vs':=c3
  cases c3
  rw[hP]at c5;cases c5;rfl
 subst hPP
 refine⟨h6,fun base kp=>⟨⟨o,vs',file,tf,flags,tg,inF,text,tt,kp _ _ c1 (by rw[c2];decide) (by rw[c2];decide),c2,c3,c4,c5,cr⟩,?_⟩⟩
 obtain⟨bm,ob,b1,b2,b3,b4,b5,b6⟩:=T.bmain
 refine⟨bm,ob,b1,b2,fun z=>?_,fun z=>?_,kp _ _ b3 (by rw[b4];decide) (by rw[b4];decide),b4,b5,b6⟩
 ·obtain⟨o',es,ep,e,hd,_⟩:=T.g
  rw[z,e]at b3;cases b3;rw[hd]at b6;cases b6
 ·rw[z,h6.2]at b3;cases b3;cases b4
end L2
namespace HT
open PySem PyProof.Rows
end HT
namespace L2
open PySem PySem.Spec PyProof.Rows
open PySem.W
def Rise(a:Array Nat):Prop:=a.toList.Pairwise (· < ·)
theorem Rise.lt{a:Array Nat}(h:Rise a){i j:Nat}(hij:i<j)(hj:j<a.size):a.getD i 0<a.getD j 0:=by
 have hi:i<a.size:=Nat.lt_trans hij hj
 have:=List.pairwise_iff_getElem.mp h i j (by simpa using hi) (by simpa using hj) hij
 simpa [Array.getD,hi,hj]using this
structure TbR(led:Bool)(t:SetTable):Prop where
 rise:Rise t.place
 dum:t.dummies = #[]
 led:t.led=led
def b17(e:Int×Value):Int:=match e.2 with
 | .int k _=>k
 | _=>0
def IsI(e:Int×Value):Prop:=∃k t,e=(hashInt k,Value.int k t)
structure SetR(w:World)(h:Heap)(a:Addr)(L:List Int):Prop where
 ex:∃o es ep t,h.get? a=some o∧o.ExactSet∧o.data=.set es ep t∧(∀e∈es.toList,IsI e)∧(es.toList.map b17).Nodup∧(∀k,k∈es.toList.map b17↔k∈L)∧es.size<scanBound∧t.fits es.size=true∧TbR (!w.params.followText "set-order") t
section
variable {prog:Program}{w:World}{A:Around}{E:Value→Shared→Prop}{s:Shared}
theorem SetR.frame{h h':Heap}{a:Addr}{L:List Int}(S:SetR w h a L)(e:∀o,h.get? a=some o→h'.get? a=some o):SetR w h' a L:=by
 obtain⟨o,es,ep,t,ho,r⟩:=S.ex
 exact⟨o,es,ep,t,e o ho,r⟩
end
end L2
namespace HT
open PySem PyProof.Rows
inductive IB:List Value→List Value→List Int→List Int→Prop
 | nil:IB [] [] [] []
 | int (a:Int) (t:Tok) (c:Int) (u:Tok) {vs ws:List Value} {ns ms:List Int} (h:IB vs ws ns ms):IB (.int a t::vs) (.int c u::ws) (a::ns) (c::ms)
 | bl (p q:Bool) {vs ws:List Value} {ns ms:List Int} (h:IB vs ws ns ms):IB (.bool p::vs) (.bool q::ws) (b2i p::ns) (b2i q::ms)
theorem IB.len{vs ws:List Value}{ns ms:List Int}(h:IB vs ws ns ms):vs.length=ws.length:=by
 induction h with
 | nil=>rfl
 | int _ _ _ _ _ ih=>simp[ih]
 | bl _ _ _ ih=>simp[ih]
end HT
namespace L2
open PySem PySem.Spec PyProof.Rows
open PySem.W
section
variable {n:Nat}{lt:Nat→Nat→Bool}
def Prx(n:Nat)(p:Array Nat)(m:Nat):Prop:=(∀i,i<m→ga p i<m)∧∀i,m≤i→i<n→ga p i=i
theorem Prx.up{p:Array Nat}{m k:Nat}(h:Prx n p m)(hk:m≤k)(hn:k≤n):Prx n p k:=by
 refine⟨fun i hi=>?_,fun i h1 h2=>h.2 i (by omega) h2⟩
 by_cases z:i<m
 ·have:=h.1 i z;omega
 ·rw[h.2 i (by omega) (by omega)];exact hi
structure DR(n:Nat)(lt:Nat→Nat→Bool)(p:Array Nat)(k:Nat):Prop where
 pre:Prx n p k
 d1:∀i j,i<j→j<k→lt (ga p i) (ga p j)=false
 d2:∀i j,i<j→j<k→lt (ga p j) (ga p i)=false→ga p j<ga p i
structure DG(n:Nat)(lt:Nat→Nat→Bool)(p:Array Nat)(k q:Nat):Prop where
 pre:Prx n p (k-(q+1))
 d1:∀i j,i<j→j<k→lt (ga p i) (ga p j)=false
 d2:∀i j,i<j→j<k-(q+1)→lt (ga p j) (ga p i)=false→ga p j<ga p i
 d3:∀i,i<k-(q+1)→lt (ga p (k-1)) (ga p i)=true
 d4:∀i,k-(q+1)≤i→i<k→lt (ga p (k-1)) (ga p i)=false
theorem DR.snoc{p:Array Nat}{k:Nat}(T:TPre lt)(d:DR n lt p k)(h:∀i,i<k→lt (ga p k) (ga p i)=true)(hk:k<n):DG n lt p (k+1) 0:=by
 have e:k+1-(0+1)=k:=by omega
 refine⟨by rw[e];exact d.pre,fun i j hij hj=>?_,fun i j hij hj=>by rw[e]at hj;exact d.d2 i j hij hj,fun i hi=>by rw[e]at hi;rw[Nat.add_sub_cancel];exact h i hi,fun i h1 h2=>?_⟩
 ·by_cases z:j<k
  ·exact d.d1 i j hij z
  ·have e:j=k:=by omega
   subst e
   exact T.asy _ _ (h i hij)
 ·have e:i=k:=by omega
  subst e
  rw[Nat.add_sub_cancel];exact T.irr _
theorem DG.alike{p:Array Nat}{k q:Nat}(T:TPre lt)(d:DG n lt p k q)(hq:q+1≤k){i j:Nat}(h1:k-(q+1)≤i)(h2:i<k)(h3:k-(q+1)≤j)(h4:j<k):lt (ga p i) (ga p j)=false:=by
 have a:lt (ga p i) (ga p (k-1))=false:=by
  by_cases z:i=k-1
  ·rw[z];exact T.irr _
  ·exact d.d1 i (k-1) (by omega) (by omega)
 exact T.tr _ _ _ (d.d4 j h3 h4) a
theorem DG.rev{p:Array Nat}{k q:Nat}(T:TPre lt)(hp:Pmn n p)(d:DG n lt p k q)(hq:q+1≤k)(hk:k≤n):DR n lt (kas_rev p (k-(q+1)) k) k:=by
 have hps:=hp.size
 have gr:=a0a (p:=p) (i:=k-(q+1)) (j:=k) (by omega)
 have pi:∀i,k-(q+1)≤i→i<n→ga p i=i:=d.pre.2
 refine⟨⟨fun i hi=>?_,fun i h1 h2=>?_⟩,fun i j hij hj=>?_,fun i j hij hj=>?_⟩
 ·rw[gr]
  split
  ·rw[pi _ (by omega) (by omega)];omega
  ·have:=d.pre.1 i (by omega);omega
 ·rw[gr,if_neg (by omega)];exact pi i (by omega) h2
 ·rw[gr,gr]
  by_cases zj:k-(q+1)≤j
  ·rw[if_pos (show k-(q+1)≤j∧j<k by omega)]
   by_cases zi:k-(q+1)≤i
   ·rw[if_pos (by omega)]
    exact d.alike T hq (by omega) (by omega) (by omega) (by omega)
   ·rw[if_neg (by omega)]
    exact d.d1 _ _ (by omega) (by omega)
  ·rw[if_neg (show ¬(k-(q+1)≤j∧j<k) by omega),if_neg (by omega)]
   exact d.d1 _ _ hij hj
 ·rw[gr,gr]
  by_cases zj:k-(q+1)≤j
  ·rw[if_pos (show k-(q+1)≤j∧j<k by omega)]
   by_cases zi:k-(q+1)≤i
   ·rw[if_pos (by omega)]
    intro _
    rw[pi _ (by omega) (by omega),pi _ (by omega) (by omega)]
    omega
   ·rw[if_neg (by omega)]
    intro z
    have a:=d.alike T hq (i:=k-1) (j:=k-(q+1)+k-1-j) (by omega) (by omega) (by omega) (by omega)
    have b:=T.tr _ _ _ z a
    rw[d.d3 i (by omega)]at b
    cases b
  ·rw[if_neg (show ¬(k-(q+1)≤j∧j<k) by omega),if_neg (by omega)]
   exact d.d2 _ _ hij (by omega)
theorem DG.one{p:Array Nat}{k:Nat}(T:TPre lt)(d:DG n lt p k 0)(hk1:1≤k)(hk:k≤n):DR n lt p k:=by
 refine⟨d.pre.up (by omega) hk,d.d1,fun i j hij hj z=>?_⟩
 by_cases e:j=k-1
 ·subst e
  rw[d.d3 i (by omega)]at z
  cases z
 ·exact d.d2 i j hij (by omega) z
end
theorem SqL.ext{K:W.Frag}{H1 H2:Hp}{a:Addr}{xs:List V}(h:SqL K H1 a xs)(ex:∀a o,H1 a=some o→H2 a=some o):SqL K H2 a xs:=by
 rcases h with(h | ⟨o,h⟩) | h
 ·exact .inl (.inl (ex _ _ h))
 ·exact .inl (.inr ⟨o,ex _ _ h⟩)
 ·exact .inr h
def Srt(lt:Keyed→Keyed→Bool)(l:List Keyed):Prop:=l.Pairwise fun x y=>lt y x=false
section
variable {lt:Keyed→Keyed→Bool}{aL bL o ra rb u:List Keyed}{x y:Keyed}
theorem Srt.drop{l:List Keyed}(h:Srt lt l)(n:Nat):Srt lt (l.drop n):=List.Pairwise.sublist (List.drop_sublist n l) h
end
def SameG(st st':SortSt):Prop:=kindOf st'=kindOf st∧arrOf st'=arrOf st∧pendingOf st'=pendingOf st∧failedOf st'=failedOf st
theorem SameG.refl(st:SortSt):SameG st st:=⟨rfl,rfl,rfl,rfl⟩
theorem SameG.trans{a b c:SortSt}(h:SameG a b)(g:SameG b c):SameG a c:=⟨g.1.trans h.1,g.2.1.trans h.2.1,g.2.2.1.trans h.2.2.1,g.2.2.2.trans h.2.2.2⟩
section
variable {lt:Keyed→Keyed→Bool}{aL bL o ra rb u:List Keyed}{x y:Keyed}
theorem Srt.left{l m:List Keyed}(h:Srt lt (l++m)):Srt lt l:=(List.pairwise_append.mp h).1
end
section
variable {lt:Keyed→Keyed→Bool}{Dm:Keyed→Prop}{a b out:Array Keyed}{na nb:Nat}{x y:Keyed}
theorem Srt.take{l:List Keyed}(h:Srt lt l)(n:Nat):Srt lt (l.take n):=List.Pairwise.sublist (List.take_sublist n l) h
end
section
variable {prog:Program}{w:World}{A:Around}{E:Value→Shared→Prop}{s:Shared}{κ:SortKind}{lt:Keyed→Keyed→Bool}{Dm:Keyed→Prop}{st:SortSt}
theorem Srt.right{l m:List Keyed}(h:Srt lt (l++m)):Srt lt m:=(List.pairwise_append.mp h).2.1
end
def gk(p:Array Keyed)(k:Nat):Keyed:=p.getD k (Value.none,Value.none)
theorem a1B(p:Array Keyed)(k:Nat):gk p k=(p[k]?).getD (Value.none,Value.none):=by unfold gk;simp[Array.getD_eq_getD_getElem?]
abbrev a5D(p:Array Keyed)(i j:Nat):Array Keyed:=mirror p i j ((j-i)/2)
theorem b18{p:Array Keyed}{i j:Nat}(hj:j≤p.size)(k:Nat):gk (a5D p i j) k=if i≤k∧k<j then gk p (i+j-1-k)else gk p k:=by
 rw[a1B,a5D,getElem?_mirror_all hj]
 split<;>rw[a1B]
theorem b19{p:Array Keyed}{src d:Nat}(hs:src<p.size)(hd:d≤src)(k:Nat):gk (bubble p src d) k=if k=src-d then gk p src else if src-d<k∧k≤src then gk p (k-1)else gk p k:=by
 rw[a1B,getElem?_bubble hs d hd]
 split
 ·rw[a1B]
 ·split<;>rw[a1B]
structure Rst(a0:Array Keyed)(lo hi:Nat)(a:Array Keyed):Prop where
 pm:a.Perm a0
 out:∀x,(x<lo∨hi≤x)→gk a x=gk a0 x
theorem Rst.refl(a:Array Keyed)(lo hi:Nat):Rst a lo hi a:=⟨.refl _,fun _ _=>rfl⟩
theorem Rst.size{a0 a:Array Keyed}{lo hi:Nat}(h:Rst a0 lo hi a):a.size=a0.size:=h.pm.size_eq
theorem Rst.rev{a0 a:Array Keyed}{lo hi i j:Nat}(h:Rst a0 lo hi a)(hi':lo≤i)(hj:j≤hi)(hs:hi≤a0.size):Rst a0 lo hi (a5D a i j) :=
 ⟨(mirror_perm _ _ _ _).trans h.pm,fun x hx=>by rw[b18 (by rw[h.size];omega),if_neg (by omega)];exact h.out x hx⟩
theorem Rst.bub{a0 a:Array Keyed}{lo hi src d:Nat}(h:Rst a0 lo hi a)(h1:lo≤src-d)(hd:d≤src)(h2:src<hi)(hs:hi≤a0.size):Rst a0 lo hi (bubble a src d) :=
 ⟨(bubble_perm _ _ _).trans h.pm,fun x hx=>by rw[b19 (by rw[h.size];omega) hd,if_neg (by omega),if_neg (by omega)];exact h.out x hx⟩
structure StR(st0:SortSt)(lo hi:Nat)(st:SortSt):Prop where
 k:kindOf st=kindOf st0
 p:pendingOf st=pendingOf st0
 f:failedOf st=failedOf st0
 r:Rst (arrOf st0) lo hi (arrOf st)
section
variable {prog:Program}{w:World}{A:Around}{E:Value→Shared→Prop}{s:Shared}{κ:SortKind}{lt:Keyed→Keyed→Bool}{Dm:Keyed→Prop}{st0 st:SortSt}{lo n m:Nat}
theorem StR.rev{hi i j:Nat}(R:StR st0 lo hi st)(h1:lo≤i)(h2:j≤hi)(hs:hi≤(arrOf st0).size):StR st0 lo hi (setArr st (a5D (arrOf st) i j)):=⟨R.k,R.p,R.f,R.r.rev h1 h2 hs⟩
end
def PRun(lt:Keyed→Keyed→Bool):List (Nat×Nat×Nat)→List (List Keyed)→Nat→Prop
 | [],[],_=>True
 | p::ps,S::ss,o=>p.1=o∧p.2.1=S.length∧1≤S.length∧Srt lt S∧PRun lt ps ss (o+S.length)
 | _,_,_=>False
section
variable {lt:Keyed→Keyed→Bool}
theorem PRun.len:∀{pl:List (Nat×Nat×Nat)} {segs:List (List Keyed)} {o:Nat},PRun lt pl segs o→pl.length=segs.length∧pl.length≤segs.flatten.length
 | [],[],_,_=>⟨rfl,Nat.le_refl _⟩
 | p::ps,S::ss,o,h=>by
  obtain⟨_,_,h1,_,h2⟩:=h
  have:=PRun.len h2
  simp only[List.length_cons,List.flatten_cons,List.length_append]
  omega
 | [],_::_,_,h=>h.elim
 | _::_,[],_,h=>h.elim
theorem PRun.snoc:∀{pl:List (Nat×Nat×Nat)} {segs:List (List Keyed)} {o:Nat} {c:Nat×Nat×Nat} {S:List Keyed},PRun lt pl segs o→c.1=o+segs.flatten.length→c.2.1=S.length→1≤S.length→Srt lt S→PRun lt (pl++[c]) (segs++[S]) o
 | [],[],o,c,S,_,h1,h2,h3,h4=>⟨by simpa using h1,h2,h3,h4,trivial⟩
 | p::ps,U::ss,o,c,S,h,h1,h2,h3,h4=>by
  obtain⟨a1,a2,a3,a4,a5⟩:=h
  refine⟨a1,a2,a3,a4,PRun.snoc a5 ?_ h2 h3 h4⟩
  rw[h1];simp only[List.flatten_cons,List.length_append];omega
 | [],_::_,_,_,_,h,_,_,_,_=>h.elim
 | _::_,[],_,_,_,h,_,_,_,_=>h.elim
theorem PRun.split:∀{pl:List (Nat×Nat×Nat)} {segs:List (List Keyed)} {o i:Nat},PRun lt pl segs o→i+1<pl.length→∃p1 a b p2 s1 U V s2,pl=p1++a::b::p2∧p1.length=i∧segs=s1++U::V::s2∧a.1=o+s1.flatten.length∧a.2.1=U.length∧b.1=a.1+U.length∧b.2.1=V.length∧1≤U.length∧1≤V.length∧Srt lt U∧Srt lt V ∧
  ∀(W:List Keyed) (c:Nat×Nat×Nat),W.length=U.length+V.length→Srt lt W→c.1=a.1→c.2.1=W.length→PRun lt (p1++c::p2) (s1++W::s2) o
 | p::q::ps,S::S'::ss,o,0,h,_=>by
  obtain⟨a1,a2,a3,a4,b1,b2,b3,b4,b5⟩:=h
  refine⟨[],p,q,ps,[],S,S',ss,rfl,rfl,rfl,by simpa using a1,a2,by omega,b2,a3,b3,a4,b4,fun W c hW hs h1 h2=>⟨by rw[h1];exact a1,h2,by omega,hs,?_⟩⟩
  rw[hW,← Nat.add_assoc]
  exact b5
 | p::ps,S::ss,o,i+1,h,hi=>by
  obtain⟨a1,a2,a3,a4,a5⟩:=h
  obtain⟨p1,a,b,p2,s1,U,V,s2,e1,e2,e3,e4,e5,e6,e7,e8,e9,e10,e11,e12⟩:=PRun.split a5 (i:=i) (by rw[List.length_cons]at hi;omega)
  refine⟨p::p1,a,b,p2,S::s1,U,V,s2,by rw[e1];rfl,by rw[List.length_cons,e2],by rw[e3];rfl,by rw[e4];simp only[List.flatten_cons,List.length_append];omega,e5,e6,e7,e8,e9,e10,e11,fun W c hW hs h1 h2=>⟨a1,a2,a3,a4,e12 W c hW hs h1 h2⟩⟩
 | [p],[S],o,0,h,hi=>by simp at hi
 | [p],S::S'::ss,o,0,h,hi=>by simp at hi
 | p::q::ps,[S],o,0,h,_=>by obtain⟨_,_,_,_,h⟩:=h;exact h.elim
 | [],[],_,_,_,hi=>by simp at hi
 | [],_::_,_,_,h,_=>h.elim
 | _::_,[],_,_,h,_=>h.elim
end
structure SI(lt:Keyed→Keyed→Bool)(st0 st:SortSt)(lo:Nat)(i5:List Keyed):Prop where
 k:kindOf st=kindOf st0
 f:failedOf st=none
 pm:(arrOf st).Perm (arrOf st0)
 run:∃segs,(arrOf st).toList=segs.flatten++i5∧segs.flatten.length=lo∧PRun lt (pendingOf st).toList segs 0
section
variable {prog:Program}{w:World}{A:Around}{E:Value→Shared→Prop}{s:Shared}{κ:SortKind}{lt:Keyed→Keyed→Bool}{Dm:Keyed→Prop}{st0 st:SortSt}{lo n:Nat}{i5:List Keyed}
theorem SI.push{S:List Keyed}{pw:Nat}(I:SI lt st0 st lo (S++i5))(hn:S.length=n)(h1:1≤n)(hs:Srt lt S):SI lt st0 (setPending st ((pendingOf st).push (lo,n,pw))) (lo+n) i5:=by
 obtain⟨segs,e1,e2,pr⟩:=I.run
 refine⟨I.k,I.f,I.pm,segs++[S],by show(arrOf st).toList=_;rw[e1];simp,by simp only[List.flatten_append,List.flatten_cons,List.flatten_nil,List.length_append,List.length_nil];omega,?_⟩
 show PRun lt ((pendingOf st).push (lo,n,pw)).toList _ 0
 rw[Array.toList_push]
 exact pr.snoc (by show lo=_;omega) (by show n=_;omega) (by omega) hs
end
section
variable {κ:Type} [DecidableEq κ]
def N8(kvs:List (κ×V))(k:κ):Option V:=(kvs.find? fun kv=>decide (kv.1=k)).map (·.2)
def a0c(kvs:List (κ×V))(k:κ)(v:V):List (κ×V) :=
 if(kvs.any fun kv=>decide (kv.1=k))=true then kvs.map (fun kv=>if kv.1=k then(kv.1,v)else kv)else kvs++[(k,v)]
def a9n(kvs:List (κ×V))(k:κ):List (κ×V):=kvs.filter fun kv=>decide (kv.1≠k)
theorem a04{p:κ×V}{r:List (κ×V)}{k:κ}(e:p.1=k):N8 (p::r) k=some p.2:=by simp[N8,List.find?_cons,e]
theorem a05{p:κ×V}{r:List (κ×V)}{k:κ}(e:¬p.1=k):N8 (p::r) k=N8 r k:=by simp[N8,List.find?_cons,e]
theorem a3M(k:κ):∀kvs:List (κ×V),(kvs.any fun kv=>decide (kv.1=k))=(N8 kvs k).isSome
 | []=>rfl
 | p::r=>by
  rw[List.any_cons]
  by_cases e:p.1=k
  ·simp only[a04 e,decide_eq_true e,Bool.true_or,Option.isSome_some]
  ·rw[a05 e,decide_eq_false e,Bool.false_or];exact a3M k r
theorem RelO.isSome_eq{o:Option V}{u:Option Value}(r:RelO o u):o.isSome=u.isSome:=by
 cases o with
 | none=>cases u with
  | none=>rfl
  | some _=>exact(show False from r).elim
 | some _=>cases u with
  | none=>exact(show False from r).elim
  | some _=>rfl
theorem RelO.getD{o:Option V}{u:Option Value}{d:V}{d':Value}(r:RelO o u)(rd:RelV d d'):RelV (o.getD d) (u.getD d'):=by
 cases o with
 | none=>cases u with
  | none=>exact rd
  | some _=>exact(show False from r).elim
 | some _=>cases u with
  | none=>exact(show False from r).elim
  | some _=>exact r
theorem KV.val{kvs:List (κ×V)}{vs:List (κ×Value)}(r:KV kvs vs)(k:κ):RelO (N8 kvs k) (valueAt vs k):=by
 unfold KV at r
 induction r with
 | nil=>exact True.intro
 | @cons p q ps qs h t ih =>
  obtain⟨h1,h2⟩:=h
  by_cases e:p.1=k
  ·have e':q.1=k:=h1.symm.trans e
   have b:valueAt (q::qs) k=some q.2:=by simp[valueAt,List.find?_cons,e']
   rw[a04 e,b];exact h2
  ·have e':¬q.1=k:=fun z=>e (h1.trans z)
   have b:valueAt (q::qs) k=valueAt qs k:=by simp[valueAt,List.find?_cons,e']
   rw[a05 e,b];exact ih
theorem KV.any{kvs:List (κ×V)}{vs:List (κ×Value)}(r:KV kvs vs)(k:κ):(kvs.any fun kv=>decide (kv.1=k))=vs.any fun kv=>decide (kv.1=k):=by
 unfold KV at r
 induction r with
 | nil=>rfl
 | cons h t ih=>rw[List.any_cons,List.any_cons,ih,h.1]
theorem KV.repl{kvs:List (κ×V)}{vs:List (κ×Value)}(r:KV kvs vs)(k:κ){y:V}{u:Value}(ry:RelV y u) :
  KV (kvs.map fun kv=>if kv.1=k then(kv.1,y)else kv) (vs.map fun kv=>if kv.1=k then(kv.1,u)else kv):=by
 unfold KV at r ⊢
 induction r with
 | nil=>exact .nil
 | @cons p q ps qs h t ih =>
  rw[List.map_cons,List.map_cons]
  refine .cons ?_ ih
  obtain⟨h1,h2⟩:=h
  by_cases e:p.1=k
  ·rw[if_pos e,if_pos (h1.symm.trans e)];exact⟨h1,ry⟩
  ·rw[if_neg e,if_neg (fun z=>e (h1.trans z))];exact⟨h1,h2⟩
theorem KV.put{kvs:List (κ×V)}{vs:List (κ×Value)}(r:KV kvs vs)(k:κ){y:V}{u:Value}(ry:RelV y u):KV (a0c kvs k y) (stored vs k u):=by
 unfold a0c stored
 rw[r.any k]
 by_cases e:(vs.any fun kv=>decide (kv.1=k))=true
 ·rw[if_pos e,if_pos e];exact r.repl k ry
 ·rw[if_neg e,if_neg e];exact Paired.snoc r ⟨rfl,ry⟩
theorem KV.drop{kvs:List (κ×V)}{vs:List (κ×Value)}(r:KV kvs vs)(k:κ):KV (a9n kvs k) (without vs k):=by
 unfold KV at r ⊢
 unfold a9n without
 induction r with
 | nil=>exact .nil
 | @cons p q ps qs h t ih =>
  obtain⟨h1,h2⟩:=h
  rw[List.filter_cons,List.filter_cons]
  by_cases e:p.1=k
  ·have a:¬decide (p.1≠k)=true:=by simp[e]
   have b:¬decide (q.1≠k)=true:=by simp[h1.symm.trans e]
   rw[if_neg a,if_neg b];exact ih
  ·have e':¬q.1=k:=fun z=>e (h1.trans z)
   have a:decide (p.1≠k)=true:=by simp[e]
   have b:decide (q.1≠k)=true:=by simp[e']
   rw[if_pos a,if_pos b];exact .cons ⟨h1,h2⟩ ih
theorem KV.keys{kvs:List (κ×V)}{vs:List (κ×Value)}(r:KV kvs vs):kvs.map (·.1)=vs.map (·.1):=by
 unfold KV at r
 induction r with
 | nil=>rfl
 | cons h t ih=>rw[List.map_cons,List.map_cons,ih,h.1]
theorem KV.length{kvs:List (κ×V)}{vs:List (κ×Value)}(r:KV kvs vs):kvs.length=vs.length:=Paired.length r
end
abbrev KT(H:Hp):List (List t5×V)→List (List t5×Addr×Value)→Prop:=Paired fun p q=>p.1=q.1∧H q.2.1=some (.tup (p.1.map kV))∧RelV p.2 q.2.2
theorem KT.val{H:Hp}{kvs:List (List t5×V)}{xs:List (List t5×Addr×Value)}(r:KT H kvs xs)(k:List t5):RelO (N8 kvs k) ((atKey xs k).map (·.2)):=by
 induction r with
 | nil=>exact True.intro
 | @cons p q ps qs h t ih =>
  obtain⟨h1,_,h2⟩:=h
  by_cases e:p.1=k
  ·have e':q.1=k:=h1.symm.trans e
   have b:atKey (q::qs) k=some q.2:=by simp[atKey,List.find?_cons,e']
   rw[a04 e,b];exact h2
  ·have e':¬q.1=k:=fun z=>e (h1.trans z)
   have b:atKey (q::qs) k=atKey qs k:=by simp[atKey,List.find?_cons,e']
   rw[a05 e,b];exact ih
theorem KT.repl{H:Hp}{kvs:List (List t5×V)}{xs:List (List t5×Addr×Value)}(r:KT H kvs xs)(k:List t5){y:V}{u:Value}(ry:RelV y u) :
  KT H (kvs.map fun kv=>if kv.1=k then(kv.1,y)else kv) (xs.map (putAt k u)):=by
 induction r with
 | nil=>exact .nil
 | @cons p q ps qs h t ih =>
  rw[List.map_cons,List.map_cons]
  refine .cons ?_ ih
  obtain⟨h1,h2,h3⟩:=h
  unfold putAt
  by_cases e:p.1=k
  ·rw[if_pos e,if_pos (h1.symm.trans e)];exact⟨h1,h2,ry⟩
  ·rw[if_neg e,if_neg (fun z=>e (h1.trans z))];exact⟨h1,h2,h3⟩
theorem KT.put{H:Hp}{kvs:List (List t5×V)}{xs:List (List t5×Addr×Value)}(r:KT H kvs xs)(k:List t5){b:Addr}{y:V}{u:Value}(hb:H b=some (.tup (k.map kV)))(ry:RelV y u) :
  KT H (a0c kvs k y) (storedH xs k b u):=by
 have e:(kvs.any fun kv=>decide (kv.1=k))=(atKey xs k).isSome:=by
  rw[a3M,(r.val k).isSome_eq,Option.isSome_map]
 unfold a0c storedH
 rw[e]
 by_cases q:(atKey xs k).isSome=true
 ·rw[if_pos q,if_pos q];exact r.repl k ry
 ·rw[if_neg q,if_neg q];exact Paired.snoc r ⟨rfl,hb,ry⟩
theorem KT.keeps{H H':Hp}{kvs:List (List t5×V)}{xs:List (List t5×Addr×Value)}(r:KT H kvs xs)(ht:∀b ys,H b=some (.tup ys)→H' b=some (.tup ys)):KT H' kvs xs :=
 Paired.mapP r fun _ _ z=>⟨z.1,ht _ _ z.2.1,z.2.2⟩
def DGet(H:Hp)(a:Addr)(y:V)(r:Option V):Prop :=
 (∃kvs k,Rd H a (.dK kvs)∧y=kV k∧r=N8 kvs k)∨∃kvs k b,Rd H a (.dT kvs)∧y=.ref b∧H b=some (.tup (k.map kV))∧r=N8 kvs k
def DPut(H:Hp)(a:Addr)(y v:V)(H':Hp):Prop :=
 (∃kvs k,H a=some (.dK kvs)∧y=kV k∧kvs.length<sizeLine∧H'=upd H a (.dK (a0c kvs k v))) ∨
 ∃kvs k b,H a=some (.dT kvs)∧y=.ref b∧H b=some (.tup (k.map kV))∧kvs.length<sizeLine∧H'=upd H a (.dT (a0c kvs k v))
theorem DGet.k{H:Hp}{a:Addr}{kvs:List (t5×V)}{k:t5}(e:H a=some (.dK kvs)):DGet H a (kV k) (N8 kvs k):=.inl ⟨kvs,k,.inl e,rfl,rfl⟩
theorem DGet.t{H:Hp}{a b:Addr}{kvs:List (List t5×V)}{k:List t5}(e:H a=some (.dT kvs))(eb:H b=some (.tup (k.map kV))):DGet H a (.ref b) (N8 kvs k):=.inr ⟨kvs,k,b,.inl e,rfl,eb,rfl⟩
theorem DPut.k{H:Hp}{a:Addr}{kvs:List (t5×V)}{k:t5}{v:V}(e:H a=some (.dK kvs))(hl:kvs.length<sizeLine):DPut H a (kV k) v (upd H a (.dK (a0c kvs k v))):=.inl ⟨kvs,k,e,rfl,hl,rfl⟩
theorem DPut.t{H:Hp}{a b:Addr}{kvs:List (List t5×V)}{k:List t5}{v:V}(e:H a=some (.dT kvs))(eb:H b=some (.tup (k.map kV)))(hl:kvs.length<sizeLine) :
  DPut H a (.ref b) v (upd H a (.dT (a0c kvs k v))):=.inr ⟨kvs,k,b,e,rfl,eb,hl,rfl⟩
section
variable {X:Cx}{pins:List (Addr×Obj)}{σ:St}{H:Hp}{s:Shared}{a:Addr}{y v:V}{u r:Value}{o:Option V}{A:Around}{E:Value→Shared→Prop}
theorem Inv.big(I:Inv X pins σ H s):sysModules<s.heap.objs.size:=by
 have h:mainGlobals<s.heap.objs.size:=(I.mod.glob.keeps I.bk).lt
 exact Nat.lt_trans (by decide) h
end
end L2
namespace PySem.W
open PySem PySem.Spec PySem.Calls PyProof.Rows
def onlyVE:List Value→Bool
 | .ref _::r=>onlyVE r
 | l=>l == L2.vErr
theorem a2N(self:Value):∀l:List Value,onlyVE l=true→refuseLoop self "__setattr__" l=pure ()
 | [],e=>by cases (show([] == L2.vErr)=true from e)
 | y::r,e=>by
  unfold onlyVE at e
  split at e
  ·rename_i c r' q
   cases q
   rw[refuseLoop_ref]
   exact a2N self _ e
  ·rw[beq_iff_eq.mp e]
   exact PySem.F.store_ValueError.passes self
structure ExcS(K:Frag)(C:Addr)(f:Str):Prop where
 sa:findIn K (.ref C) "__setattr__" = some (some (.builtin "object.__setattr__"))
 mr:((clsIn K C).any fun cd=>onlyVE cd.mro)=true
 mo:mroIn K C (.type "object")=some true
 hd:hasDictIn K C=true
 na:findIn K (.ref C) f=some none
section
variable {prog:Program}{w:World}{A:Around}{E:Value→Shared→Prop}{s:Shared}{K:Frag}{x C:Addr}{o:Obj}{vs:Array Value}{f:Str}{v:Value}
theorem a95{tk:Tok}{R:Result→Shared→Prop}(X:K.In s.heap)(T:ExcS K C f)(hx:s.heap.get? x=some o)(hc:o.cls=.ref C)(hd:o.dict=none)(hf:o.data=.fields vs)
  (q:∀h' tk',h'.get? x=some { o with dict:=some s.heap.objs.size }→h'.Ns1 s.heap.objs.size (fun y=>if y=f then some v else none)→(∀b ob,b≠x→s.heap.get? b=some ob→h'.get? b=some ob)→R (.ok (.ret .none)) { s with heap:=h',toks:=tk' }) :
  codeAny (model prog w) A (.call (.builtin "object.__setattr__") ⟨[.ref x,.str f tk,v],[]⟩) R s:=by
 obtain⟨cd,hcd,ho⟩:=any_some T.mr
 obtain⟨cd',hcd',hhd⟩:=any_some T.hd
 rw[hcd]at hcd';cases hcd'
 have LT:Looks (model prog w) s.heap (typeOf (.ref x)) (.ref C):=hc▸(Looks.ld hx).andThen .now
 have SF:=PySem.F.store_object
 have sub:Looks (model prog w) s.heap (isInstance (.ref x) (.type "object")) true:=LT.andThen (looks_mroIn X T.mo)
 have hm:Looks (model prog w) s.heap (mroOf (.ref C)) cd.mro:=(looks_clsIn X hcd).andThen .now
 refine codeAny_call_builtin SF.slot.plain SF.entry (@check_slot (model prog w) _ _ s "object.__setattr__" "object" "__setattr__" (.ref x) [.str f tk,v] [] _ SF.kind SF.split sub (SF.args (.ref x) (.str f tk) v) ?_)
 show wpAny _ _ (Builtin.«object.__setattr__» ⟨[.ref x,.str f tk,v],[]⟩) _ _ _
 rw[osa_eq,refuse_eq]
 refine wpAny_bind (wpAny_bind (LT.here (wpAny_bind (hm.here ?_))))
 rw[a2N _ _ ho]
 refine wpAny_pure (wpAny_bind (LT.here (wpAny_bind ((looks_findIn X T.na).here (wpAny_bind (wpAny_pure ?_))))))
 show wpAny _ _ (Builtin.ObjectAttr.storeInOwnDict (.ref x) (.ref C) (.str f tk) f v false) _ _ _
 refine wpAny_bind (wpAny_pure (wpAny_bind ?_))
 unfold Builtin.ObjectAttr.ownDictForStores instanceDict
 refine wpAny_bind (wpAny_loadPart hx ?_)
 rw[hc]
 refine wpAny_bind ((looks_clsIn X hcd).here ?_)
 rw[if_neg (by rw[hhd];decide)]
 dsimp only
 rw[hd]
 dsimp only
 rw[if_neg (by simp[typeHasDict]),hf]
 dsimp only
 have hx₁:(s.heap.push { cls:=.type "dict",data:=.dict #[] }).get? x=some o:=Heap.get?_push_of_some _ hx
 have hxs:x≠s.heap.objs.size:=Nat.ne_of_lt (Heap.lt_size hx)
 refine wpAny_bind (wpAny_alloc' ?_)
 refine wpAny_bind (wpAny_update' hx₁ ?_)
 refine wpAny_pure ?_
 have hgd:((s.heap.push { cls:=.type "dict",data:=.dict #[] }).update x fun o=>{ cls:=o.cls,dict:=some s.heap.objs.size,data:=o.data,slots:=o.slots }).get? s.heap.objs.size
   = some { cls:=.type "dict",data:=.dict #[] } :=
  (Heap.get?_update_ne _ _ _ _ hxs.symm).trans (Heap.get?_push_at rfl rfl)
 have hnd:((s.heap.push { cls:=.type "dict",data:=.dict #[] }).update x fun o=>{ cls:=o.cls,dict:=some s.heap.objs.size,data:=o.data,slots:=o.slots }).Ns s.heap.objs.size (fun _=>none) :=
  ⟨_,#[],_,hgd,rfl,fun e he=>absurd he (by simp),fun _=>rfl⟩
 show wpAny _ _ (Builtin.ObjectAttr.storeInDict s.heap.objs.size (.str f tk) f v) _ _ _
 unfold Builtin.ObjectAttr.storeInDict Builtin.ObjectAttr.newKeyGuard
 refine wpAny_bind (wpAny_pure (wpAny_bind (wpAny_nsSet1 (Heap.Ns1.of_empty hnd) fun h' hn' hs=>?_)))
 obtain⟨oD,esD,epD,hoD,hdD,hcD⟩:=hn'.count (Within.cons f v Within.nil)
 refine wpAny_bind (wpAny_lookBehind hoD (by rw[hdD];exact pastItsLine_dict (Nat.le_trans hcD (by rw[List.length_cons,List.length_nil,sizeLine_eq];omega))) ?_)
 refine wpAny_pure (q h' _ ?_ hn' fun b ob hb e=>?_)
 ·refine(hs.2 x hxs).trans (Heap.get?_update_self _ hx₁ ?_)
  rw[show({ cls:=o.cls,dict:=some s.heap.objs.size,data:=o.data,slots:=o.slots }:Obj).isFreed=false from Obj.isFreed_of_fields hf]
 ·exact(hs.2 b (Nat.ne_of_lt (Heap.lt_size e))).trans ((Heap.get?_update_ne _ _ _ _ hb).trans (Heap.get?_push_of_some _ e))
theorem exc_setattr{Q:Unit→Shared→Prop}(X:K.In s.heap)(T:ExcS K C f)(hx:s.heap.get? x=some o)(hc:o.cls=.ref C)(hd:o.dict=none)(hf:o.data=.fields vs)
  (q:∀h' tk',h'.get? x=some { o with dict:=some s.heap.objs.size }→h'.Ns1 s.heap.objs.size (fun y=>if y=f then some v else none)→(∀b ob,b≠x→s.heap.get? b=some ob→h'.get? b=some ob)→Q () { s with heap:=h',toks:=tk' }) :
  wpAny (model prog w) A (setAttr (.ref x) f v) Q E s:=by
 have I:InstAt s.heap x o C none:=⟨hx,hc,by unfold notCls;rw[hf],by rw[hd];trivial⟩
 exact set_plain X I T.sa (a95 (s:={ s with toks:=s.toks+1 }) X T hx hc hd hf q)
end
end PySem.W
namespace PySem.W
open PySem PySem.Spec PySem.Calls PyProof.Rows
section
variable {prog:Program}{w:World}{A:Around}{E:Value→Shared→Prop}{h:Heap}{g:Array GenState}{d:Drawn}{t:Nat}{os:OsState}{K:Frag}
variable {nm q:Str}{C N:Addr}{bs bm bmB:List Value}{hdct:Bool}{sn:List Str}{sub:List Value}{ab:Bool}{col:Option Bool}{dd:Option Addr}{k0 k1 k2 k3 k5:Option Value}{B newId initId:String}
abbrev a2i(C tu:Addr):Obj:={ cls:=.ref C,data:=.fields #[.ref tu,.none,.none,.none,.bool false,.none] }
theorem a2j(X:K.In h)(F:ExcBaseFacts B newId initId bmB)(T:OwnTail h bmB bm){i5:List Value}{fI:Addr}{Q:Fin→Shared→Prop}
  (hC:h.get? C=some (excClassObj nm q C N bs bm hdct sn sub ab col dd k0 k1 k2 k3 k5 newId)) (hi:findIn K (.ref C) "__init__" = some (some (.ref fI))) (hf:typeIn K (.ref fI)=some (.type "function"))
  (hq:∀h' e,Heap.MadeExcOf h h' e (.ref C) i5→h.objs.size≤e→wpAny (model prog w) A (call (.ref fI) (.ref e::i5)) (fun r s'=>r=.none∧Q (.done (.ret (.ref e))) s') E ⟨h',g,d,t,os⟩) (hrest:i5.length≤sizeLine) :
  wpAny (model prog w) A (Builtin.«type.__call__» ⟨.ref C::i5,[]⟩) Q E ⟨h,g,d,t,os⟩:=by
 repeat (first | with_reducible refine wpAny_loadPart_at hC ?_ | with_reducible refine wpAny_madeBy_exc hC ?_ | wp_step)
 refine codeAny_call_builtin_code (Code.quiet_builtin _ F.quiet) (wpAny_check_new_subT F T hC ?_)
 refine codeAny_exc_new_subT F T hC ?_ hrest
 show wpAny _ _ _ _ _ _
 have kp:∀b o,h.get? b=some o→((h.push { cls:=.type "tuple",data:=.seq i5.toArray }).push (a2i C h.objs.size)).get? b=some o:=fun b o e=>Heap.get?_push_of_some _ (Heap.get?_push_of_some _ e)
 have hC₁:=kp _ _ hC
 have X₁:=X.keeps kp
 have hget:((h.push { cls:=.type "tuple",data:=.seq i5.toArray }).push (a2i C h.objs.size)).get? (h.objs.size+1)=some (a2i C h.objs.size):=by heap_get
 have hcC:(Value.ref C::bm).contains (.ref C)=true:=by simp
 unfold isInstance
 repeat (first | with_reducible refine wpAny_loadPart_at hget ?_ | (with_reducible refine wpAny_isSubtype_exc hC₁ ?_;rw[hcC]) | wp_step)
 show wpAny _ _ (typeLookup (.ref C) _) _ _ _
 refine Looks.here (s:=⟨_,g,d,t,os⟩) (looks_findIn X₁ hi) ?_
 refine wpAny_holding (wpAny_bind (Looks.here (s:=⟨_,g,d,t,os⟩) (bind_fn X₁ _ hf) ?_))
 refine wpAny_bind (wpAny_mono (hq _ (h.objs.size+1) ⟨kp,Heap.get?_none_of_le (Nat.le_succ _),h.objs.size,hget,Heap.get?_none_of_le (Nat.le_refl _),?_⟩ (Nat.le_succ _)) (fun r s' hr=>?_) fun _ _ x=>x)
 ·exact Heap.get?_push_of_some _ (Heap.get?_push_at rfl rfl)
 ·obtain⟨rfl,hQ⟩:=hr
  wp_walk
  exact hQ
theorem call_excI(X:K.In h)(F:ExcBaseFacts B newId initId bmB)(T:OwnTail h bmB bm){i5:List Value}{fI:Addr}{Q:Value→Shared→Prop}
  (hC:h.get? C=some (excClassObj nm q C N bs bm hdct sn sub ab col dd k0 k1 k2 k3 k5 newId)) (hi:findIn K (.ref C) "__init__" = some (some (.ref fI))) (hf:typeIn K (.ref fI)=some (.type "function"))
  (hq:∀h' e,Heap.MadeExcOf h h' e (.ref C) i5→h.objs.size≤e→wpAny (model prog w) (A.under (.builtin "type.__call__" ⟨.ref C::i5,[]⟩)) (call (.ref fI) (.ref e::i5)) (fun r s'=>r=.none∧Q (.ref e) s') E ⟨h',g,d,t,os⟩) (hrest:i5.length≤sizeLine) :
  wpAny (model prog w) A (call (.ref C) i5) Q E ⟨h,g,d,t,os⟩:=by
 have f1:=tc_lookup
 have f2:=tc_bind (.ref C)
 have hT:(⟨h,g,d,t,os⟩:Shared).TypeIs (.ref C) "type" := ⟨_,hC,rfl⟩
 refine wpAny_call (codeAny_of_tree ?_)
 show wpAny _ _ (callAny (.ref C) _) _ _ _
 repeat (any_goals (first | assumption | with_reducible refine wpAny_loadPart_at hC ?_ | wp_step))
 refine⟨rfl,?_⟩
 exact codeAny_call_builtin_at (Code.quiet_builtin _ (by decide +kernel)) entry_typeCall (wpAny_check_type_call_sub hC (a2j X F T hC hi hf (fun h' e hm he=>hq h' e hm he) hrest))
theorem raise_madeI{M:Model}{env:Env}{s:Shared}{x:Sem Value}{Q:Flow→Shared→Prop}(hbase:bm.contains (.type "BaseException")=true)(hh:A.handled=none)
  (hx:wpAny M A x (fun v s₁=>∃e oe,v=.ref e∧s₁.heap.get? C=some (excClassObj nm q C N bs bm hdct sn sub ab col dd k0 k1 k2 k3 k5 newId)∧s₁.heap.get? e=some oe∧oe.cls=.ref C∧(∃tu,oe.data=.fields #[.ref tu,.none,.none,.none,.bool false,.none])∧E (.ref e) s₁) E s) :
  wpAny M A (raiseStmt env (some x) none) Q E s:=by
 have hcB:(Value.ref C::bm).contains (.type "BaseException")=true:=by rw[List.contains_cons,hbase,Bool.or_true]
 unfold raiseStmt
 refine wpAny_bind (wpAny_mono hx (fun v s₁ h₁=>?_) fun _ _ x=>x)
 obtain⟨e,oe,rfl,hC,he,hc,⟨tu,hdt⟩,hE⟩:=h₁
 obtain⟨oc,od,odt,osl⟩:=oe
 dsimp only at hc hdt
 subst hc hdt
 obtain⟨hp,g,d,tk,os⟩:=s₁
 repeat (first | with_reducible refine wpAny_loadPart_at he ?_ | with_reducible refine wpAny_loadPart_at hC ?_ | (with_reducible refine wpAny_isSubtype_exc hC ?_;rw[hcB]) | wp_step)
 exact wpAny_raiseNew_none hh hE
end
end PySem.W
namespace L2
open PySem PySem.Spec PyProof.Rows
def I0(a C:Addr)(od:Option Addr):HO:=.ext fun h=>∃o tu,h.get? a=some o∧o.cls=.ref C∧o.dict=od∧o.data=.fields #[.ref tu,.none,.none,.none,.bool false,.none]
section
variable {X:Cx}{pins:List (Addr×Obj)}{σ:St}{H:Hp}{s:Shared}{a C:Addr}{f:Str}
theorem a4S{P:Program}{w:World}{H:Hp}{h:Heap}{o:Obj}{tu:Addr}{od:Option Addr}(e:h.get? a=some o)(hc:o.cls=.ref C)(hd:o.dict=od)(hf:o.data=.fields #[.ref tu,.none,.none,.none,.bool false,.none]):ObjOk P w H h a (I0 a C od) :=
 ⟨⟨o,tu,e,hc,hd,hf⟩,⟨o,e⟩,fun h1 h2 ⟨o1,t1,z1,z2,z3,z4⟩ k=>⟨o1,t1,k o1 z1,z2,z3,z4⟩⟩
theorem a96{y:V}{u:Value}{A:Around}{E:Value→Shared→Prop}{Q:Unit→Shared→Prop}(I:Inv X pins σ H s)(e:H a=some (I0 a C none))(T:W.ExcS X.K C f)(ry:RelV y u)
  (h:∀dx s',H dx=none→dx≠a→Inv X pins σ (upd (upd H a (I0 a C (some dx))) dx (.xd [(f,y)])) s'→Q () s'):wpAny (model X.prog X.w) A (setAttr (.ref a) f u) Q E s:=by
 obtain⟨⟨o,tu,hx,hc,hd,hf⟩,_⟩:=(show ObjOk X.prog X.w H s.heap a (I0 a C none)from I.hok a _ e)
 refine W.exc_setattr I.kIn T hx hc hd hf fun h' tk' g1 g2 g3=>?_
 have ns:s.heap.objs.size≠a:=fun z=>absurd (Heap.lt_size hx) (by rw[z];exact Nat.lt_irrefl _)
 refine h s.heap.objs.size _ (I.hok.fresh (Nat.le_refl _)) ns ?_
 have hfr:({ o with dict:=some s.heap.objs.size }:Obj).isFreed=false:=Obj.isFreed_of_fields hf
 have u1:=Heap.get?_update_self (h:=s.heap) (fun o=>{ o with dict:=some s.heap.objs.size }) hx hfr
 have far:∀b,b≠a→(s.heap.update a fun o=>{ o with dict:=some s.heap.objs.size }).get? b=s.heap.get? b:=fun b n=>Heap.get?_update_other _ _ (Ne.symm n)
 have I1:Inv X pins σ (upd H a (I0 a C (some s.heap.objs.size))) { s with heap:=s.heap.update a fun o=>{ o with dict:=some s.heap.objs.size } } :=
  I.write (x:=a) (e:=a) (t':=s.toks) (by rw[e];exact True.intro) (.inl rfl) (fun b q hb z=>(far b hb).trans z) ⟨_,u1⟩ (a4S u1 hc rfl hf)
 refine I1.laid (a:=s.heap.objs.size) (t':=tk') (fun b q z=>?_) ?_ ⟨_,g2,fun g=>?_⟩
 ·by_cases hb:b=a
  ·subst hb;rw[u1]at z;cases z;exact g1
  ·rw[far b hb]at z;exact g3 b q hb z
 ·exact Nat.le_of_eq (by simp[Heap.update])
 ·show RelO ([(f,y)].lookup g) (if g=f then some u else none)
  by_cases z:g=f
  ·subst z
   rw[if_pos rfl,List.lookup_cons,beq_self_eq_true]
   exact ry
  ·rw[if_neg z,List.lookup_cons,beq_false_of_ne z]
   exact True.intro
def sXF(K:W.Frag)(ta tv:TE)(f:Str):TS:=fun D σ H=>tv σ H fun y H1=>ta σ H1 fun x H2=>∃a C,x=.ref a∧H2 a=some (I0 a C none)∧W.ExcS K C f∧∀dx,H2 dx=none→dx≠a→D.nx σ (upd (upd H2 a (I0 a C (some dx))) dx (.xd [(f,y)]))
theorem b3a{o value:Expr}{pos pos':Pos}{ta tv:TE}(ha:PE X o ta)(hv:PE X value tv)(hs:swapsWith value (some (.Attribute o f pos')) pos.line X.env=pure false):PS X (.Assign [.Attribute o f pos'] value pos) (sXF X.K ta tv f):=by
 intro pins s σ H D I h
 refine plainObj_wpAny_Assign_Attribute (i6 (hv pins s σ H _ I h) fun u s1 ⟨y,H1,I1,ry,q⟩=>i6 (ha pins s1 σ H1 _ I1 q) fun ov s2 ⟨x,H2,I2,rx,a,C,ex,ea,T,q2⟩=>?_) hs
 subst ex
 obtain rfl:ov=Value.ref a:=rx
 exact a96 I2 ea T ry fun dx s3 n1 n2 I3=>⟨σ,_,I3,q2 dx n1 n2⟩
def W1(H:Hp)(a:Addr):Hp:=fun b=>if b=a then none else H b
theorem Inv.untrack{φ:Heap→Prop}(I:Inv X pins σ H s)(e:H a=some (.ext φ)):Inv X pins σ (W1 H a) s:=by
 have ne:∀{b:Addr} {o:HO},H b=some o→(∀ψ,o≠.ext ψ)→W1 H a b=some o:=fun{b o} q n=>by
  unfold W1
  rw[if_neg (fun z=>by rw[z,e]at q;cases q;exact n φ rfl)]
  exact q
 have none':∀{b:Addr},H b=none→W1 H a b=none:=fun{b} q=>by unfold W1;split<;>first | rfl | exact q
 refine⟨I.ok,I.os,I.bare,⟨I.base.keep,I.base.slot,fun b o e1 n hx=>none' (I.base.free b o e1 n hx),I.base.there,fun b xs q=>ne (I.base.tups b xs q) (fun _ z=>nomatch z),fun b o u q=>ne (I.base.frzs b o u q) (fun _ z=>nomatch z),fun b ps q=>?_⟩,I.loc,I.cell,none' I.free,fun y c q=>none' (I.freeC y c q),fun p hp=>?_,fun b u q=>?_,I.len⟩
 ·obtain⟨more,q1⟩:=I.base.tbls b ps q
  exact⟨more,ne q1 (fun _ z=>nomatch z)⟩
 ·obtain⟨h1,h2,h3,h4,h5⟩:=I.pin p hp
  exact⟨h1,none' h2,h3,h4,h5⟩
 ·have q1:H b=some u:=by
   unfold W1 at q
   split at q
   ·cases q
   ·exact q
  exact(I.hok b u q1).stay (fun _ _ _ z=>z) (fun c z=>ne z (fun _ z=>nomatch z)) (fun c xs z=>ne z (fun _ z=>nomatch z)) fun c ob u z=>ne z (fun _ z=>nomatch z)
end
def a1C(K:W.Frag)(C:Addr):Bool:=match K.lookup C with
 | some ⟨.type "type",_,.cls cd,sl⟩=>(match cd.mro,sl.toList with
  | .ref C'::bm,[_,_,_,_,some (.builtin n),_]=>C' == C && n == "ValueError.__new__" && !cd.hasDel && W.tailIn K vErr bm
  | _,_=>false)
 | _=>false
theorem a78{K:W.Frag}{h₀:Heap}{C:Addr}(KX:K.In h₀)(q:a1C K C=true) :
  ∃bm N nm q bs hdct sn sub ab col dd k0 k1 k2 k3 k5,h₀.get? C=some (excClassObj nm q C N bs bm hdct sn sub ab col dd k0 k1 k2 k3 k5 "ValueError.__new__")∧OwnTail h₀ vErr bm:=by
 unfold a1C at q
 split at q
 ·rename_i dd cd sl ho
  split at q
  ·rename_i C' bm k0 k1 k2 k3 n k5 hm hs
   simp only[Bool.and_eq_true,beq_iff_eq,Bool.not_eq_true']at q
   obtain⟨⟨⟨rfl,rfl⟩,hdel⟩,ht⟩:=q
   obtain⟨nm,bs,mro,ns,qn,hd,sn,sub,ab,col,W1⟩:=cd
   dsimp only at hm hdel
   subst hm hdel
   have hsl:sl = #[k0,k1,k2,k3,some (.builtin "ValueError.__new__"),k5]:=by
    obtain⟨l⟩:=sl
    simp only at hs
    rw[hs]
   subst hsl
   exact⟨bm,ns,nm,qn,bs,hd,sn,sub,ab,col,dd,k0,k1,k2,k3,k5,KX _ _ ho,W.tail_of_in KX ht⟩
  ·cases q
 ·cases q
def a2k(C:Addr)(f:Str):Sp:=fun vs H Q _=>∃a v,vs=[.ref a,v]∧H a=some (I0 a C none)∧∀dx,H dx=none→dx≠a→Q .non (upd (upd H a (I0 a C (some dx))) dx (.xd [(f,v)]))
structure MkX(K:W.Frag)(C fI:Addr):Prop where
 obj:a1C K C=true
 init:W.findIn K (.ref C) "__init__" = some (some (.ref fI))
 fn:W.typeIn K (.ref fI)=some (.type "function")
section
variable {X:Cx}{E:XK}{k:Nat}
def a2l(C:Addr)(f:Str)(E:XK)(ta:TA):TS:=fun _ σ H=>ta σ H fun vs H1=>∃v,vs=[v]∧∀dx,H1 dx=none→E (.ref C) (some (2*dx+1)) (upd H1 dx (.xd [(f,v)]))
theorem a6E{x f:Str}{C fI:Addr}{fd:FuncData}{ps:List Str}{e₀:Expr}{i5:List Expr}{np cpos pos:Pos}{ta:TA}(acc:XAcc X E)(M:MkX X.K C fI)(F:FnOk X.prog X.w X.K X.mg X.base (n4 X.prog X.w) k fI fd ps (a2k C f))(hr:Room (k+1) X.A)(hb:Binds X.K fd ps [])
  (hg:Gl X x) (hm:X.mg x=some (.ref C)) (ha:PA X (e₀::i5) ta)
  (hc:X.calm=true:=by rfl) (hex:X.ex=[]:=by rfl)
  (he:starEach (e₀::i5) X.env=(false,eval e₀ X.env)::starEach i5 X.env:=by rfl) (hplain:(backTo cpos (starEach i5 X.env)).any (·.1)=false:=by rfl) (hd:(x == ("__debug__" : Str))=false:=by decide) :
  PS X (.Raise (some (.Call (.Name x np) (e₀::i5) [] cpos)) none pos) (a2l C f E ta):=by
 intro pins s σ H D I h
 obtain⟨tl,N,nm,qn,bs,hdct,sn,sub,ab,col,dd,k0,k1,k2,k3,k5,hC,T⟩:=a78 I.mod.kin M.obj
 have hp:=ha cpos pins s σ H _ I h
 rw[he]at hp
 have pl:(backTo cpos (starEach (e₀::i5) X.env)).any (·.1)=false:=by rw[he];show(false || (backTo cpos (starEach i5 X.env)).any (·.1))=false;rw[hplain];rfl
 rw[arm_exec_Raise]
 simp only[evalOpt,Option.map]
 refine wpAny_bind (wpAny_standAt (W.raise_madeI (C:=C) (nm:=nm) (q:=qn) (N:=N) (bs:=bs) (bm:=tl) (hdct:=hdct) (sn:=sn) (sub:=sub) (ab:=ab) (col:=col) (dd:=dd) (k0:=k0) (k1:=k1) (k2:=k2) (k3:=k3) (k5:=k5) (newId := "ValueError.__new__") (T.hasType PySem.F.excBase_ValueError.hasBase) (I.ok.hd hc) ?_))
 refine wpAny_bind (wpAny_mono (wpAny_Call_ofName (wpAny_mono (J1 I hg hm (Q:=fun f s1=>f=.ref C∧s1=s) ⟨rfl,rfl⟩ hd) (fun f s1 h1=>?_) fun _ _ x=>x)) (fun v s3 h3=>wpAny_bind (wpAny_standAt (wpAny_pure h3))) fun _ _ x=>x)
 obtain⟨rfl,rfl⟩:=h1
 unfold callWith
 refine wpAny_bind (wpAny_holding (wpAny_mono (Q:=fun us s2=>∃v H2,us.kw=[]∧Inv X pins σ H2 s2∧Vals [v] us.pos∧∀dx,H2 dx=none→E (.ref C) (some (2*dx+1)) (upd H2 dx (.xd [(f,v)]))) ?_ (fun us s2 h2=>wpAny_bind (wpAny_standAt ?_)) fun _ _ x=>x))
 ·rw[he]
  exact Calls.evalArgs_plain (i6 hp fun us s2 ⟨vs,H2,I2,rv,v,ev,hE⟩=>⟨v,H2,rfl,I2,by rw[← ev];exact rv,hE⟩)
 obtain⟨upos,ukw⟩:=us
 obtain⟨v,H2,ekw,I2,rv,hE⟩:=h2
 obtain rfl:ukw=[]:=ekw
 have C2:=I2.bk _ _ hC
 have T2:=T.keeps I2.bk
 have hlen:upos.length≤sizeLine:=by rw[← rv.length,sizeLine_eq];show 1≤_;omega
 have K2:=I2.kIn
 obtain⟨hp2,g2,d2,tk2,os2⟩:=s2
 simp only[pl]
 refine wpAny_bind (wpAny_keeperOf_exc C2 ?_)
 refine wpAny_bind (W.call_excI (K:=X.K) K2 PySem.F.excBase_ValueError T2 C2 M.init M.fn (fun h' e m me=>?_) hlen)
 obtain⟨tu,ht,_,_⟩:=m.there
 have fe:H2 e=none:=I2.hok.fresh me
 have I3:Inv X pins σ (upd H2 e (I0 e C none)) ⟨h',g2,d2,tk2,os2⟩:=I2.laid (a:=e) (t':=tk2) m.keeps me (a4S ht rfl rfl rfl)
 have sp3:a2k C f [.ref e,v] (upd H2 e (I0 e C none)) (fun r H'=>r=.non∧∃dx,H2 dx=none∧dx≠e∧H'=upd (upd (upd H2 e (I0 e C none)) e (I0 e C (some dx))) dx (.xd [(f,v)])) E :=
  ⟨e,v,rfl,i0,fun dx n1 n2=>⟨rfl,dx,by rw[d5 n2]at n1;exact n1,n2,rfl⟩⟩
 have r3:Vals [V.ref e,v] (Value.ref e::upos):=.cons rfl rv
 have hl:(Value.ref e::upos++[]).length=ps.length:=by
  have z:=r3.length
  rw[F.len _ _ _ _ sp3]at z
  rw[List.append_nil]
  exact z.symm
 have hb3:=hb ⟨h',g2,d2,tk2,os2⟩ (Value.ref e::upos) I3.kIn hl
 rw[List.append_nil]at hb3
 refine wpAny_call (codeAny_mono (F.run _ X.stack _ _ ⟨Value.ref e::upos,[]⟩ (Value.ref e::upos) _ _ E (hr.make C upos []) (I3.env0.make C upos []) hb3 r3 sp3) fun r s' hq'=>?_)
 cases r with
 | error e'=>exact acc.passes pins σ _ _ e' s' I3 hq'
 | ok fl =>
  cases fl with
  | next=>exact False.elim hq'
  | brk=>exact False.elim hq'
  | cont=>exact False.elim hq'
  | ret u =>
   obtain⟨v0,H',I4,rv0,ev,dx,n1,n2,eH⟩:=I3.after hq'
   subst ev
   refine⟨rv0,wpAny_bind (wpAny_holding (wpAny_point (wpAny_pure ?_)))⟩
   have He:H' e=some (I0 e C (some dx)):=by rw[eH,d5 (Ne.symm n2),i0]
   have I5:=I4.untrack He
   have eD:W1 H' e=upd H2 dx (.xd [(f,v)]):=by
    funext b
    unfold W1
    by_cases z:b=e
    ·rw[if_pos z,z,d5 (Ne.symm n2)];exact fe.symm
    ·rw[if_neg z,eH]
     by_cases z2:b=dx
     ·rw[z2,i0,i0]
     ·rw[d5 z2,d5 z2,d5 z,d5 z]
   rw[eD]at I5
   obtain⟨⟨oe,tu',ge,gc,gd,gf⟩,_⟩:=(show ObjOk X.prog X.w H' s'.heap e (I0 e C (some dx))from I4.hok e _ He)
   refine⟨e,oe,rfl,I4.bk _ _ hC,ge,gc,⟨tu',gf⟩,?_⟩
   have odd:¬(2*dx+1)%2=0:=by
    show ¬(2*dx+1:Nat)%2=0
    rw[Nat.mul_add_mod];decide
   refine acc pins σ _ s' e (.ref C) (some (2*dx+1)) (W.hideAll s'.heap (e::A4 X.stack)) .new I5 ⟨by rw[d5 (Ne.symm n2)];exact fe,fun b o q=>W.of_hideAll _ q,W.hideAll_none _ List.mem_cons_self,W.funFrames_hide I5.stack fun env he b hb=>List.mem_cons_of_mem _ (List.mem_filterMap.mpr ⟨env,he,hb⟩),fun b o q i n=>?_,⟨oe,_,ge,gc,gf,rfl,?_,?_⟩⟩ (hE dx n1)
   ·refine W.hideAll_get _ q fun z=>?_
    rcases List.mem_cons.mp z with z | z
    ·subst z
     have gone:∀o',(⟨hp2,g2,d2,tk2,os2⟩:Shared).heap.get? b=some o'→False:=fun o' w=>absurd (Heap.lt_size w) (Nat.not_lt.mpr me)
     rcases i with i | ⟨hx,o',i⟩ | ⟨p,hp',w⟩
     ·exact i (by rw[d5 (Ne.symm n2)];exact fe)
     ·obtain⟨o2,w⟩:=I2.base.there b o' i hx
      exact gone _ w
     ·exact gone _ (by rw[← w];exact(I2.pin p hp').1)
    ·exact n z
   ·show some Value.none=some (if(2*dx+1)%2=0 then _ else Value.none)
    rw[if_neg odd]
   ·show oe.dict=(if(2*dx+1)%2=0 then none else some ((2*dx+1)/2))
    rw[if_neg odd,gd]
    congr 1
    show dx=(2*dx+1:Nat)/2
    rw[Nat.mul_add_div (by decide)]
    simp
end
end L2
namespace PySem.W
open PySem PySem.Spec PySem.Calls PyProof.Rows
section
variable {prog:Program}{w:World}{A:Around}{E:Value→Shared→Prop}{h:Heap}{g:Array GenState}{d:Drawn}{t:Nat}{os:OsState}{K:Frag}{x C:Addr}{o od:Obj}{f:Str}{v:Value}
theorem a3N{tk:Tok}{Q:Fin→Shared→Prop}(X:K.In h)(I:InstAt h x o C (some od))(hf:findObj K C (some od) f=some (.value v))(q:Q (.done (.ret v)) ⟨h,g,d,t,os⟩) :
  wpAny (model prog w) A (Builtin.«object.__getattribute__» ⟨[.ref x,.str f tk],[]⟩) Q E ⟨h,g,d,t,os⟩:=by
 have L0:=I.type (M:=model prog w)
 have L1:=looks_find (M:=model prog w) X I hf
 refine wpAny_bind (wpAny_pure (wpAny_bind (wpAny_pure (wpAny_bind (L0.at (wpAny_bind (L1.at ?_)))))))
 exact wpAny_pure q
theorem exc_at_by{tk:Tok}{b b2:Bool}{Q:Value→Shared→Prop}(X:K.In h)(T:ExcT K C)(I:InstAt h x o C (some od))(hf:findObj K C (some od) f=some (.value v))(hh:handedIn v=true)(hq:Q v ⟨h,g,d,t,os⟩):wpAny (model prog w) A (getAttrBy (.ref x) (.str f tk) b b2) Q E ⟨h,g,d,t,os⟩:=by
 have L0:=I.type (M:=model prog w)
 have L1:=looks_findIn (M:=model prog w) X T.ga
 have L2:=looks_findIn (M:=model prog w) X T.gt
 have f3:=F.attr_ValueError.ga.bind (.ref x)
 have hx2:(Value.builtin "BaseException.__getattribute__" == Value.builtin "object.__getattribute__")=false:=by decide +kernel
 have hx1:(onTheHeap (Value.ref C) && Value.builtin "BaseException.__getattribute__" == Value.builtin "object.__getattribute__")=false:=by rw[hx2];rfl
 have hd:=handedOut_of hh
 have hx3:¬(b2 && onTheHeap (Value.builtin "BaseException.__getattribute__"))=true:=by cases b2<;>exact Bool.false_ne_true
 repeat (any_goals (first | assumption | (with_reducible refine L0.at ?_) | (with_reducible refine wpAny_bind (L0.at ?_)) | (with_reducible refine L1.at ?_) | (with_reducible refine wpAny_bind (L1.at ?_)) | (with_reducible refine L2.at ?_) | (with_reducible refine wpAny_bind (L2.at ?_)) | wp_step))
 refine codeAny_call_builtin F.attr_ValueError.ga.plain F.entry_bexc_ga (Z9 X T I.at_ I.cls (a3N X I hf ?_))
 show wpAny (model prog w) A (handedOut v) Q E _
 rw[hd]
 exact wpAny_pure hq
end
end PySem.W
namespace L2
open PySem PySem.Spec PyProof.Rows
def b1_(K:W.Frag)(ta:TE)(f:Str):TE:=fun σ H Q=>ta σ H fun x H1=>∃a C dx y,x=.ref a∧H1 a=some (E1 a (.ref C) (some (2*dx+1)))∧H1 dx=some (.xd [(f,y)])∧W.ExcT K C∧W.hasDictIn K C=true∧W.findIn K (.ref C) f=some none∧Q y H1
section
variable {X:Cx}{e:Expr}{f:Str}{pos:Pos}{ta:TE}
theorem a79(dx:Nat):Z8 (some (2*dx+1))=some dx:=by
 show(if(2*dx+1)%2=0 then none else some ((2*dx+1)/2))=some dx
 rw[if_neg (by rw[Nat.mul_add_mod];decide),Nat.mul_add_div (by decide)]
 simp
theorem a6F(he:PE X e ta)(hb:attributeBase e f X.env (eval e X.env)=eval e X.env):PE X (.Attribute e f pos) (b1_ X.K ta f):=by
 intro pins s σ H Q I h
 refine a9K hb (i6 (he pins s σ H _ I h) fun u s1 ⟨x,H1,I1,rx,a,C,dx,y,ex,ea,ed,T,hh,hn,q⟩=>?_)
 subst ex
 obtain rfl:u=Value.ref a:=rx
 obtain⟨⟨o,vs,hx,hc,hdt,_,hdi⟩,_⟩:=(show ObjOk X.prog X.w H1 s1.heap a (E1 a (.ref C) (some (2*dx+1)))from I1.hok a _ ea)
 obtain⟨mA,hns,r⟩:=(show ObjOk X.prog X.w H1 s1.heap dx (.xd [(f,y)])from I1.hok dx _ ed)
 rw[a79]at hdi
 obtain⟨u,hu,ru⟩:=RelO.some_of (v:=y) (o:=mA f) (by have:=r f;rw[List.lookup_cons,beq_self_eq_true]at this;exact this)
 obtain⟨od,god,hl⟩:=a2G hns
 have J:W.InstAt s1.heap a o C (some od):=⟨hx,hc,by unfold W.notCls;rw[hdt],by rw[hdi];exact god⟩
 have K1:=I1.kIn
 obtain⟨hp,g,d,t,os⟩:=s1
 unfold getAttr
 refine wpAny_bind (wpAny_mkText ?_)
 refine W.exc_at_by K1 T J (W.findObj_own hh hn rfl (by rw[hl,hu])) (a6e ru) ?_
 exact⟨y,H1,I1.tok _,ru,q⟩
end
abbrev DK:=Sum (List t5) (List (List t5))
def dkO(ks:DK)(xs:List V):HO:=match ks with
 | .inl ks=>.dK (ks.zip xs)
 | .inr ks=>.dT (ks.zip xs)
def dkN:DK→Nat
 | .inl ks=>ks.length
 | .inr ks=>ks.length
theorem a4T{ks:DK}{xs ys:List V}:dkO ks xs≠.lst ys:=by cases ks<;>exact fun z=>nomatch z
inductive D where
 | non | bl (b:Bool) | int (i:Int) | str (x:Str) | ty (n:String) | cls (n:Str) | tup (ds:List D) | lst (ds:List D) | scr (ns:List Int) | exc (c:Str) | obj (c:Str) (ns:List Str) (ds:List D) | dic (ks:DK) (ds:List D) | exv (c f:Str) (d:D)
mutual
def Rp(K:W.Frag)(cl:Str→Addr)(F:Hp):D→V→Prop
 | .non,v=>v=.non
 | .bl b,v=>v=.bl b
 | .int i,v=>v=.int i
 | .str x,v=>v=.str x
 | .ty n,v=>v=.ty n
 | .cls n,v=>v=.ref (cl n)
 | .tup ds,v=>∃a xs,v=.ref a∧F a=some (.tup xs)∧Rps K cl F ds xs
 | .lst ds,v=>∃a xs,v=.ref a∧F a=some (.lst xs)∧Rps K cl F ds xs
 | .scr ns,v=>∃a,v=.ref a∧Scr K F a (ns.map V.int)
 | .exc c,v=>∃a cx,v=.ref a∧F a=some (E1 a (.ref (cl c)) cx)
 | .obj c ns ds,v=>∃a dx xs,v=.ref a∧F a=some (.ins (cl c) dx (ns.zip xs))∧ns.length=xs.length∧Rps K cl F ds xs
 | .dic ks ds,v=>∃a xs,v=.ref a∧F a=some (dkO ks xs)∧dkN ks=xs.length∧Rps K cl F ds xs
 | .exv c f d,v=>∃a dx y,v=.ref a∧F a=some (E1 a (.ref (cl c)) (some (2*dx+1)))∧F dx=some (.xd [(f,y)])∧Rp K cl F d y
def Rps(K:W.Frag)(cl:Str→Addr)(F:Hp):List D→List V→Prop
 | [],vs=>vs=[]
 | d::ds,vs=>∃v r,vs=v::r∧Rp K cl F d v∧Rps K cl F ds r
end
section
variable {K:W.Frag}{cl:Str→Addr}{F F' H H':Hp}
mutual
theorem Rp.mono(g:Same F F'):∀(d:D) (v:V),Rp K cl F d v→Rp K cl F' d v
 | .non,_,h=>by simpa only[Rp]using h
 | .bl _,_,h=>by simpa only[Rp]using h
 | .int _,_,h=>by simpa only[Rp]using h
 | .str _,_,h=>by simpa only[Rp]using h
 | .ty _,_,h=>by simpa only[Rp]using h
 | .cls _,_,h=>by simpa only[Rp]using h
 | .tup ds,v,h=>by
  simp only[Rp]at h ⊢
  obtain⟨a,xs,e,h1,h2⟩:=h
  exact⟨a,xs,e,g _ _ h1,Rps.mono g ds xs h2⟩
 | .lst ds,v,h=>by
  simp only[Rp]at h ⊢
  obtain⟨a,xs,e,h1,h2⟩:=h
  exact⟨a,xs,e,g _ _ h1,Rps.mono g ds xs h2⟩
 | .scr ns,v,h=>by
  simp only[Rp]at h ⊢
  obtain⟨a,e,h1⟩:=h
  exact⟨a,e,h1.same g⟩
 | .exc c,v,h=>by
  simp only[Rp]at h ⊢
  obtain⟨a,cx,e,h1⟩:=h
  exact⟨a,cx,e,g _ _ h1⟩
 | .obj c ns ds,v,h=>by
  simp only[Rp]at h ⊢
  obtain⟨a,dx,xs,e,h1,hl,h2⟩:=h
  exact⟨a,dx,xs,e,g _ _ h1,hl,Rps.mono g ds xs h2⟩
 | .dic ks ds,v,h=>by
  simp only[Rp]at h ⊢
  obtain⟨a,xs,e,h1,hl,h2⟩:=h
  exact⟨a,xs,e,g _ _ h1,hl,Rps.mono g ds xs h2⟩
 | .exv c f d,v,h=>by
  simp only[Rp]at h ⊢
  obtain⟨a,dx,y,e,h1,h2,h3⟩:=h
  exact⟨a,dx,y,e,g _ _ h1,g _ _ h2,Rp.mono g d y h3⟩
theorem Rps.mono(g:Same F F'):∀(ds:List D) (vs:List V),Rps K cl F ds vs→Rps K cl F' ds vs
 | [],_,h=>by simpa only[Rps]using h
 | d::ds,vs,h=>by
  simp only[Rps]at h ⊢
  obtain⟨v,r,e,h1,h2⟩:=h
  exact⟨v,r,e,Rp.mono g d v h1,Rps.mono g ds r h2⟩
end
theorem Rps.nil:Rps K cl F [] []:=by simp only[Rps]
theorem Rps.cons{d:D}{v:V}{ds:List D}{vs:List V}(h:Rp K cl F d v)(t:Rps K cl F ds vs):Rps K cl F (d::ds) (v::vs):=by simp only[Rps];exact⟨v,vs,rfl,h,t⟩
theorem Rps.inv{d:D}{ds:List D}{vs:List V}(h:Rps K cl F (d::ds) vs):∃v r,vs=v::r∧Rp K cl F d v∧Rps K cl F ds r:=by simpa only[Rps]using h
theorem Rps.inv0{vs:List V}(h:Rps K cl F [] vs):vs=[]:=by simpa only[Rps]using h
theorem Rps.length:∀{ds:List D} {vs:List V},Rps K cl F ds vs→ds.length=vs.length
 | [],vs,h=>by rw[h.inv0];rfl
 | d::ds,vs,h=>by obtain⟨v,r,rfl,_,t⟩:=h.inv;simp[t.length]
theorem Rps.get:∀{ds:List D} {vs:List V} {i:Nat} {d:D},Rps K cl F ds vs→ds[i]? = some d→∃v,vs[i]? = some v∧Rp K cl F d v
 | [],_,_,_,_,e=>by simp at e
 | d::ds,vs,0,x,h,e=>by
  obtain⟨v,r,rfl,h1,_⟩:=h.inv
  simp at e;subst e
  exact⟨v,rfl,h1⟩
 | d::ds,vs,i+1,x,h,e=>by
  obtain⟨v,r,rfl,_,t⟩:=h.inv
  obtain⟨u,h1,h2⟩:=t.get (i:=i) (d:=x) (by simpa using e)
  exact⟨u,by simpa using h1,h2⟩
theorem Rps.get'{ds:List D}{vs:List V}{i:Nat}{v:V}(h:Rps K cl F ds vs)(e:vs[i]? = some v):∃d,ds[i]? = some d∧Rp K cl F d v:=by
 have hi:i<ds.length:=by
  have:=(List.getElem?_eq_some_iff.mp e).1
  rw[h.length];exact this
 obtain⟨u,h1,h2⟩:=h.get (List.getElem?_eq_getElem hi)
 rw[e]at h1;cases h1
 exact⟨_,List.getElem?_eq_getElem hi,h2⟩
theorem Rps.append:∀{ds es:List D} {vs us:List V},Rps K cl F ds vs→Rps K cl F es us→Rps K cl F (ds++es) (vs++us)
 | [],_,_,_,h,t=>by rw[h.inv0];exact t
 | d::ds,_,_,_,h,t=>by obtain⟨v,r,rfl,h1,h2⟩:=h.inv;exact .cons h1 (h2.append t)
theorem Rps.one{d:D}{v:V}(h:Rp K cl F d v):Rps K cl F [d] [v]:=.cons h .nil
theorem Rps.set{d:D}{v:V}(r:Rp K cl F d v):∀{ds:List D} {vs:List V} (i:Nat),Rps K cl F ds vs→Rps K cl F (ds.set i d) (vs.set i v)
 | [],_,_,h=>by rw[h.inv0];exact .nil
 | _::_,_,0,h=>by obtain⟨_,_,rfl,_,h2⟩:=h.inv;exact .cons r h2
 | _::_,_,i+1,h=>by obtain⟨_,_,rfl,h1,h2⟩:=h.inv;exact .cons h1 (h2.set r i)
theorem Rps.drop:∀{ds:List D} {vs:List V} (n:Nat),Rps K cl F ds vs→Rps K cl F (ds.drop n) (vs.drop n)
 | _,_,0,h=>h
 | [],_,_+1,h=>by rw[h.inv0];exact .nil
 | _::_,_,n+1,h=>by obtain⟨_,_,rfl,_,h2⟩:=h.inv;exact h2.drop n
theorem Rps.take:∀{ds:List D} {vs:List V} (n:Nat),Rps K cl F ds vs→Rps K cl F (ds.take n) (vs.take n)
 | _,_,0,h=>.nil
 | [],_,_+1,h=>by rw[h.inv0];exact .nil
 | _::_,_,n+1,h=>by obtain⟨_,_,rfl,h1,h2⟩:=h.inv;exact .cons h1 (h2.take n)
theorem Rps.ints:∀{ns:List Int} {vs:List V},Rps K cl F (ns.map D.int) vs→vs=ns.map V.int
 | [],_,h=>h.inv0
 | n::ns,_,h=>by
  obtain⟨v,r,rfl,h1,h2⟩:=h.inv
  rw[h2.ints]
  simp only[Rp]at h1
  rw[h1];rfl
theorem Rps.ofInts:∀{ns:List Int},Rps K cl F (ns.map D.int) (ns.map V.int)
 | []=>.nil
 | _::_=>.cons (by simp only[Rp]) Rps.ofInts
theorem Rps.strs:∀{bs:List Str} {vs:List V},Rps K cl F (bs.map D.str) vs→vs=bs.map V.str
 | [],_,h=>h.inv0
 | n::ns,_,h=>by
  obtain⟨v,r,rfl,h1,h2⟩:=h.inv
  rw[h2.strs]
  simp only[Rp]at h1
  rw[h1];rfl
end
inductive Sl where | no | fz (d:D) | ow (ds:List D) | hd (ds:List D) | od (ks:DK) (ds:List D) | hk (ks:DK) (ds:List D)
abbrev DE:=List Sl
def Mu(env:DE)(i:Nat):Prop:=∃ds:List D,env[i]? = some (.ow ds)∨env[i]? = some (.hd ds)
def isO:Sl→Prop
 | .ow _=>True
 | .od _ _=>True
 | _=>False
def N5:Sl→DK→List D→Prop
 | .od ks ds,ks',ds'=>ks=ks'∧ds=ds'
 | .hk ks ds,ks',ds'=>ks=ks'∧ds=ds'
 | _,_,_=>False
def Ow(σ:St)(env:DE)(a:Addr):Prop:=∃(i:Nat) (s:Sl),isO s∧env[i]? = some s∧σ[i]? = some (some (V.ref a))
structure RelOd(K:W.Frag)(cl:Str→Addr)(σ:St)(H F:Hp)(env:DE):Prop where
 at_:∀(i:Nat) (s:Sl) (ks:DK) (ds:List D),env[i]? = some s→N5 s ks ds→∃a xs,σ[i]? = some (some (.ref a))∧H a=some (dkO ks xs)∧F a=none∧dkN ks=xs.length∧Rps K cl F ds xs
 inj:∀(i j:Nat) (s t:Sl) (ks ls:DK) (ds es:List D) (a:Addr),env[i]? = some s→N5 s ks ds→env[j]? = some t→N5 t ls es→σ[i]? = some (some (.ref a))→σ[j]? = some (some (.ref a))→i=j
structure Rel(K:W.Frag)(cl:Str→Addr)(σ:St)(H F:Hp)(env:DE):Prop where
 sub:Same F H
 len:σ.length=env.length
 fz:∀(i:Nat) (d:D),env[i]? = some (.fz d)→∃v,σ[i]? = some (some v)∧Rp K cl F d v
 mu:∀(i:Nat) (ds:List D),(env[i]? = some (.ow ds)∨env[i]? = some (.hd ds))→∃a xs,σ[i]? = some (some (.ref a))∧H a=some (.lst xs)∧F a=none∧Rps K cl F ds xs
 inj:∀(i j:Nat) (a:Addr),Mu env i→Mu env j→σ[i]? = some (some (.ref a))→σ[j]? = some (some (.ref a))→i=j
 od:RelOd K cl σ H F env
structure Frm(σ:St)(H F:Hp)(env:DE)(σ':St)(H' F':Hp)(env':DE):Prop where
 fz:Same F F'
 hid:∀a o,H a=some o→F a=none→¬Ow σ env a→H' a=some o∧F' a=none∧¬Ow σ' env' a
 keep:∀(i:Nat) (ds:List D),env[i]? = some (.hd ds)→env'[i]? = some (.hd ds)∧σ'[i]? = σ[i]?
 dom:∀a,H' a=none→H a=none
structure Gr(H F H' F':Hp):Prop where
 fz:Same F F'
 sub:Same F' H'
 hid:∀a o,H a=some o→F a=none→H' a=some o∧F' a=none
section
variable {K:W.Frag}{cl:Str→Addr}{σ σ' σ'':St}{H H' H'' F F' F'':Hp}{env env' env'':DE}
theorem RelOd.to(R:RelOd K cl σ H F env)(he:∀(i:Nat) (s:Sl) (ks:DK) (ds:List D),env'[i]? = some s→N5 s ks ds→∃t,env[i]? = some t∧N5 t ks ds∧σ'[i]? = σ[i]?)
  (hh:∀(i:Nat) (a:Addr) (ks:DK) (xs:List V),σ[i]? = some (some (.ref a))→H a=some (dkO ks xs)→F a=none→H' a=some (dkO ks xs)∧F' a=none) (sF:Same F F'):RelOd K cl σ' H' F' env' :=
 ⟨fun i s ks ds h d=>by
  obtain⟨t,h1,d1,e1⟩:=he i s ks ds h d
  obtain⟨a,xs,e,hH,hF,hn,r⟩:=R.at_ i t ks ds h1 d1
  obtain⟨h2,f2⟩:=hh i a ks xs e hH hF
  exact⟨a,xs,by rw[e1];exact e,h2,f2,hn,r.mono sF⟩,
  fun i j s t ks ls ds es a hi di hj dj ei ej=>by
  obtain⟨s1,h1,d1,e1⟩:=he i s ks ds hi di
  obtain⟨t1,h2,d2,e2⟩:=he j t ls es hj dj
  exact R.inj i j s1 t1 ks ls ds es a h1 d1 h2 d2 (by rw[← e1];exact ei) (by rw[← e2];exact ej)⟩
theorem RelOd.gr(R:RelOd K cl σ H F env)(g:Gr H F H' F'):RelOd K cl σ H' F' env:=R.to (fun i s ks ds h d=>⟨s,h,d,rfl⟩) (fun _ a ks xs _ h f=>g.hid a _ h f) g.fz
theorem RelOd.set{i:Nat}{s:Sl}{v:Option V}(R:RelOd K cl σ H F env)(n:∀ks ds,¬N5 s ks ds):RelOd K cl (σ.set i v) H F (env.set i s) :=
 R.to (fun j t ks ds h d=>by
  by_cases z:j=i
  ·subst z
   have hj:j<env.length:=by have:=(List.getElem?_eq_some_iff.mp h).1;rwa [List.length_set]at this
   rw[List.getElem?_set_self hj]at h;cases h;exact absurd d (n ks ds)
  ·rw[List.getElem?_set_ne (Ne.symm z)]at h
   exact⟨t,h,d,List.getElem?_set_ne (Ne.symm z)⟩) (fun _ a ks xs _ h f=>⟨h,f⟩) (Same.refl _)
theorem RelOd.setE{i:Nat}{s:Sl}(R:RelOd K cl σ H F env)(n:∀ks ds,¬N5 s ks ds):RelOd K cl σ H F (env.set i s) :=
 R.to (fun j t ks ds h d=>by
  by_cases z:j=i
  ·subst z
   have hj:j<env.length:=by have:=(List.getElem?_eq_some_iff.mp h).1;rwa [List.length_set]at this
   rw[List.getElem?_set_self hj]at h;cases h;exact absurd d (n ks ds)
  ·rw[List.getElem?_set_ne (Ne.symm z)]at h
   exact⟨t,h,d,rfl⟩) (fun _ a ks xs _ h f=>⟨h,f⟩) (Same.refl _)
theorem RelOd.lst(R:RelOd K cl σ H F env)(hh:∀(a:Addr) (o:HO),(∀xs,o≠.lst xs)→H a=some o→F a=none→H' a=some o∧F' a=none)(sF:Same F F'):RelOd K cl σ H' F' env :=
 R.to (fun i s ks ds h d=>⟨s,h,d,rfl⟩) (fun _ a ks xs _ h f=>hh a _ (fun _=>a4T) h f) sF
theorem RelOd.own(R:RelOd K cl σ H F env)(hh:∀(i:Nat) (s:Sl) (ks:DK) (ds:List D) (a:Addr) (xs:List V),env[i]? = some s→N5 s ks ds→σ[i]? = some (some (.ref a))→H a=some (dkO ks xs)→F a=none→H' a=some (dkO ks xs)∧F' a=none)(sF:Same F F'):RelOd K cl σ H' F' env :=
 ⟨fun i s ks ds h d=>by
  obtain⟨a,xs,e,hH,hF,hn,r⟩:=R.at_ i s ks ds h d
  obtain⟨h2,f2⟩:=hh i s ks ds a xs h d e hH hF
  exact⟨a,xs,e,h2,f2,hn,r.mono sF⟩,R.inj⟩
theorem RelOd.frzL{a:Addr}{xs:List V}{o:HO}(R:RelOd K cl σ H F env)(hH:H a=some (.lst xs))(hF:F a=none):RelOd K cl σ H (upd F a o) env :=
 R.lst (fun c u n h f=>⟨h,by rw[d5 (fun z=>by rw[z,hH]at h;exact n xs (Option.some.inj h).symm)];exact f⟩) (M3 hF _)
theorem RelOd.updL{a:Addr}{xs:List V}{o:HO}(R:RelOd K cl σ H F env)(hH:H a=some (.lst xs)):RelOd K cl σ (upd H a o) F env :=
 R.lst (fun c u n h f=>⟨by rw[d5 (fun z=>by rw[z,hH]at h;exact n xs (Option.some.inj h).symm)];exact h,f⟩) (Same.refl _)
theorem RelOd.newO{a:Addr}{o:HO}(R:RelOd K cl σ H F env)(hH:H a=none):RelOd K cl σ (upd H a o) F env :=
 R.lst (fun c u n h f=>⟨by rw[d5 (fun z=>by rw[z,hH]at h;cases h)];exact h,f⟩) (Same.refl _)
theorem RelOd.none(n:∀(i:Nat) (s:Sl) ks ds,env[i]? = some s→¬N5 s ks ds):RelOd K cl σ H F env:=⟨fun i s ks ds h d=>absurd d (n i s ks ds h),fun i j s t ks ls ds es a h d=>absurd d (n i s ks ds h)⟩
theorem a1D{d:D}:∀ks ds,¬N5 (.fz d) ks ds:=fun _ _ h=>h
theorem W2{d:List D}:∀ks ds,¬N5 (.ow d) ks ds:=fun _ _ h=>h
theorem a1E{d:List D}:∀ks ds,¬N5 (.hd d) ks ds:=fun _ _ h=>h
theorem a5E:∀ks ds,¬N5 .no ks ds:=fun _ _ h=>h
theorem Frm.refl:Frm σ H F env σ H F env:=⟨Same.refl _,fun _ _ h f o=>⟨h,f,o⟩,fun _ _ h=>⟨h,rfl⟩,fun _ h=>h⟩
theorem Frm.trans(a:Frm σ H F env σ' H' F' env')(b:Frm σ' H' F' env' σ'' H'' F'' env''):Frm σ H F env σ'' H'' F'' env'' :=
 ⟨a.fz.trans b.fz,fun x o h f w=>by obtain⟨h1,f1,w1⟩:=a.hid x o h f w;exact b.hid x o h1 f1 w1,
  fun i ds h=>by obtain⟨h1,e1⟩:=a.keep i ds h;obtain⟨h2,e2⟩:=b.keep i ds h1;exact⟨h2,e2.trans e1⟩,fun x h=>a.dom x (b.dom x h)⟩
theorem Gr.dom(g:Gr H F H' F')(a:Addr)(h:H' a=none):H a=none:=by
 cases e:H a with
 | none=>rfl
 | some o =>
  cases f:F a with
  | none=>rw[(g.hid a o e f).1]at h;cases h
  | some u=>rw[g.sub _ _ (g.fz _ _ f)]at h;cases h
theorem Rel.gr(R:Rel K cl σ H F env)(g:Gr H F H' F'):Rel K cl σ H' F' env :=
 ⟨g.sub,R.len,fun i d h=>by obtain⟨v,e,r⟩:=R.fz i d h;exact⟨v,e,r.mono g.fz⟩,
  fun i ds h=>by obtain⟨a,xs,e,hH,hF,r⟩:=R.mu i ds h;obtain⟨h1,f1⟩:=g.hid a _ hH hF;exact⟨a,xs,e,h1,f1,r.mono g.fz⟩,R.inj,R.od.gr g⟩
theorem Rel.frm(R:Rel K cl σ H F env)(g:Gr H F H' F'):Frm σ H F env σ H' F' env :=
 ⟨g.fz,fun a o h f w=>by obtain⟨h1,f1⟩:=g.hid a o h f;exact⟨h1,f1,w⟩,fun _ _ h=>⟨h,rfl⟩,g.dom⟩
theorem Gr.refl(s:Same F H):Gr H F H F:=⟨Same.refl _,s,fun _ _ h f=>⟨h,f⟩⟩
theorem Gr.trans(a:Gr H F H' F')(b:Gr H' F' H'' F''):Gr H F H'' F'':=⟨a.fz.trans b.fz,b.sub,fun x o h f=>by obtain⟨h1,f1⟩:=a.hid x o h f;exact b.hid x o h1 f1⟩
theorem Gr.new{p:Addr}{o:HO}(s:Same F H)(hp:H p=none):Gr H F (upd H p o) (upd F p o):=by
 have fp:F p=none:=s.free hp
 refine⟨M3 fp o,fun b u e=>?_,fun a u e f=>?_⟩
 ·by_cases z:b=p
  ·subst z;rw[i0]at e ⊢;exact e
  ·rw[d5 z]at e ⊢;exact s _ _ e
 ·have z:a≠p:=fun z=>by rw[z,hp]at e;cases e
  rw[d5 z,d5 z];exact⟨e,f⟩
theorem Rel.freeze{i:Nat}{ds:List D}(R:Rel K cl σ H F env)(h:env[i]? = some (.ow ds)):∃a F',σ[i]? = some (some (.ref a))∧Frm σ H F env σ H F' (env.set i (.fz (.lst ds)))∧Rel K cl σ H F' (env.set i (.fz (.lst ds)))∧Rp K cl F' (.lst ds) (.ref a):=by
 obtain⟨a,xs,e,hH,hF,r⟩:=R.mu i ds (.inl h)
 have hi:i<env.length:=(List.getElem?_eq_some_iff.mp h).1
 have sF:Same F (upd F a (.lst xs)):=M3 hF _
 have oth:∀j,j≠i→(env.set i (.fz (.lst ds)))[j]? = env[j]?:=fun j hj=>List.getElem?_set_ne (Ne.symm hj)
 have self:(env.set i (.fz (.lst ds)))[i]? = some (.fz (.lst ds)):=List.getElem?_set_self hi
 have mui:∀j,Mu (env.set i (.fz (.lst ds))) j→j≠i∧Mu env j:=fun j ⟨es,q⟩=>by
  by_cases z:j=i
  ·subst z;rw[self]at q;rcases q with q | q<;>cases q
  ·rw[oth j z]at q;exact⟨z,es,q⟩
 have rl:Rp K cl (upd F a (.lst xs)) (.lst ds) (.ref a):=by simp only[Rp];exact⟨a,xs,rfl,i0,r.mono sF⟩
 refine⟨a,upd F a (.lst xs),e,⟨sF,fun b o hb fb w=>?_,fun j es q=>?_,fun _ h=>h⟩,⟨fun b o q=>?_,by rw[List.length_set];exact R.len,fun j d q=>?_,fun j es q=>?_,fun j k b hj hk e1 e2=>R.inj j k b (mui j hj).2 (mui k hk).2 e1 e2,(R.od.lst (fun c u n h f=>⟨h,by rw[d5 (fun z=>by rw[z,hH]at h;exact n xs (Option.some.inj h).symm)];exact f⟩) sF).setE a1D⟩,rl⟩
 ·have z:b≠a:=fun z=>w ⟨i,.ow ds,True.intro,h,by rw[z];exact e⟩
  refine⟨hb,by rw[d5 z];exact fb,fun⟨j,es,oo,q,e1⟩=>?_⟩
  by_cases y:j=i
  ·subst y;rw[self]at q;cases q;exact oo
  ·rw[oth j y]at q;exact w ⟨j,es,oo,q,e1⟩
 ·have z:j≠i:=fun z=>by subst z;rw[h]at q;cases q
  exact⟨by rw[oth j z];exact q,rfl⟩
 ·by_cases z:b=a
  ·subst z;rw[i0]at q;cases q;exact hH
  ·rw[d5 z]at q;exact R.sub _ _ q
 ·by_cases z:j=i
  ·subst z;rw[self]at q;cases q;exact⟨_,e,rl⟩
  ·rw[oth j z]at q;obtain⟨v,e1,r1⟩:=R.fz j d q;exact⟨v,e1,r1.mono sF⟩
 ·have z:j≠i:=(mui j ⟨es,q⟩).1
  rw[oth j z]at q
  obtain⟨b,ys,e1,h1,f1,r1⟩:=R.mu j es q
  have nb:b≠a:=fun y=>z (R.inj j i b ⟨es,q⟩ ⟨ds,.inl h⟩ e1 (by rw[y];exact e))
  exact⟨b,ys,e1,h1,by rw[d5 nb];exact f1,r1.mono sF⟩
theorem Rel.put{i:Nat}{d:D}{v:V}(R:Rel K cl σ H F env)(hi:i<env.length)(nh:∀ds,env[i]?≠some (.hd ds))(r:Rp K cl F d v):Rel K cl (σ.set i (some v)) H F (env.set i (.fz d)):=by
 refine⟨R.sub,by rw[List.length_set,List.length_set];exact R.len,fun j e q=>?_,fun j es q=>?_,fun j k b hj hk e1 e2=>?_,R.od.set a1D⟩
 ·by_cases z:j=i
  ·subst z
   rw[List.getElem?_set_self hi]at q;cases q
   exact⟨v,List.getElem?_set_self (by rw[R.len];exact hi),r⟩
  ·rw[List.getElem?_set_ne (Ne.symm z)]at q
   obtain⟨u,e1,r1⟩:=R.fz j e q
   exact⟨u,by rw[List.getElem?_set_ne (Ne.symm z)];exact e1,r1⟩
 ·have z:j≠i:=fun z=>by
   subst z
   rw[List.getElem?_set_self hi]at q
   rcases q with q | q<;>cases q
  rw[List.getElem?_set_ne (Ne.symm z)]at q
  obtain⟨a,xs,e1,h1,f1,r1⟩:=R.mu j es q
  exact⟨a,xs,by rw[List.getElem?_set_ne (Ne.symm z)];exact e1,h1,f1,r1⟩
 ·have nz:∀j,Mu (env.set i (.fz d)) j→j≠i∧Mu env j:=fun j ⟨es,q⟩=>by
   by_cases z:j=i
   ·subst z
    rw[List.getElem?_set_self hi]at q
    rcases q with q | q<;>cases q
   ·rw[List.getElem?_set_ne (Ne.symm z)]at q;exact⟨z,es,q⟩
  obtain⟨zj,mj⟩:=nz j hj
  obtain⟨zk,mk⟩:=nz k hk
  rw[List.getElem?_set_ne (Ne.symm zj)]at e1
  rw[List.getElem?_set_ne (Ne.symm zk)]at e2
  exact R.inj j k b mj mk e1 e2
theorem Rel.putO{i:Nat}{ds:List D}{a:Addr}{xs:List V}(R:Rel K cl σ H F env)(hi:i<env.length)(hH:H a=some (.lst xs))(hF:F a=none)(na:∀j,Mu env j→σ[j]?≠some (some (.ref a)))(r:Rps K cl F ds xs):Rel K cl (σ.set i (some (.ref a))) H F (env.set i (.ow ds)):=by
 have his:i<σ.length:=by rw[R.len];exact hi
 have nz:∀j,j≠i→Mu (env.set i (.ow ds)) j→Mu env j:=fun j z ⟨es,q⟩=>by
  rw[List.getElem?_set_ne (Ne.symm z)]at q;exact⟨es,q⟩
 refine⟨R.sub,by rw[List.length_set,List.length_set];exact R.len,fun j e q=>?_,fun j es q=>?_,fun j k b hj hk e1 e2=>?_,R.od.set W2⟩
 ·have z:j≠i:=fun z=>by subst z;rw[List.getElem?_set_self hi]at q;cases q
  rw[List.getElem?_set_ne (Ne.symm z)]at q
  obtain⟨u,e1,r1⟩:=R.fz j e q
  exact⟨u,by rw[List.getElem?_set_ne (Ne.symm z)];exact e1,r1⟩
 ·by_cases z:j=i
  ·subst z
   rw[List.getElem?_set_self hi]at q
   rcases q with q | q
   ·cases q;exact⟨a,xs,List.getElem?_set_self his,hH,hF,r⟩
   ·cases q
  ·rw[List.getElem?_set_ne (Ne.symm z)]at q
   obtain⟨b,ys,e1,h1,f1,r1⟩:=R.mu j es q
   exact⟨b,ys,by rw[List.getElem?_set_ne (Ne.symm z)];exact e1,h1,f1,r1⟩
 ·by_cases zj:j=i
  ·by_cases zk:k=i
   ·rw[zj,zk]
   ·subst zj
    rw[List.getElem?_set_self his]at e1
    rw[List.getElem?_set_ne (Ne.symm zk)]at e2
    cases e1
    exact absurd e2 (na k (nz k zk hk))
  ·rw[List.getElem?_set_ne (Ne.symm zj)]at e1
   by_cases zk:k=i
   ·subst zk
    rw[List.getElem?_set_self his]at e2
    cases e2
    exact absurd e1 (na j (nz j zj hj))
   ·rw[List.getElem?_set_ne (Ne.symm zk)]at e2
    exact R.inj j k b (nz j zj hj) (nz k zk hk) e1 e2
theorem Frm.put{i:Nat}{d:D}{x:Option V}(nh:∀ds,env[i]?≠some (.hd ds)):Frm σ H F env (σ.set i x) H F (env.set i (.fz d)):=by
 refine⟨Same.refl _,fun a o h f w=>⟨h,f,fun⟨j,ds,oo,q,e⟩=>?_⟩,fun j ds q=>?_,fun _ h=>h⟩
 ·by_cases z:j=i
  ·subst z
   have hj:j<env.length:=by have:=(List.getElem?_eq_some_iff.mp q).1;rwa [List.length_set]at this
   rw[List.getElem?_set_self hj]at q
   cases q;exact oo
  ·rw[List.getElem?_set_ne (Ne.symm z)]at q e
   exact w ⟨j,ds,oo,q,e⟩
 ·have z:j≠i:=fun z=>by subst z;exact nh ds q
  rw[List.getElem?_set_ne (Ne.symm z),List.getElem?_set_ne (Ne.symm z)]
  exact⟨q,rfl⟩
theorem Frm.putO{i:Nat}{s0:Sl}{a:Addr}(f:Frm σ H F env σ' H' F' env')(ha:H a=none)(nh:∀ds,env'[i]?≠some (.hd ds)):Frm σ H F env (σ'.set i (some (.ref a))) H' F' (env'.set i s0):=by
 refine⟨f.fz,fun b o h g w=>?_,fun j ds q=>?_,f.dom⟩
 ·obtain⟨h1,f1,w1⟩:=f.hid b o h g w
  refine⟨h1,f1,fun⟨j,ds,oo,q,e⟩=>?_⟩
  by_cases z:j=i
  ·subst z
   have hj:j<σ'.length:=by have:=(List.getElem?_eq_some_iff.mp e).1;rwa [List.length_set]at this
   rw[List.getElem?_set_self hj]at e
   cases e
   rw[ha]at h;cases h
  ·rw[List.getElem?_set_ne (Ne.symm z)]at q e
   exact w1 ⟨j,ds,oo,q,e⟩
 ·obtain⟨q1,e1⟩:=f.keep j ds q
  have z:j≠i:=fun z=>by subst z;exact nh ds q1
  rw[List.getElem?_set_ne (Ne.symm z),List.getElem?_set_ne (Ne.symm z)]
  exact⟨q1,e1⟩
end
inductive XN where | p (c:Str) | v (c f:Str) (d:D)
instance:Coe Str XN:=⟨.p⟩
def XN.nm:XN→Str
 | .p c=>c
 | .v c _ _=>c
def XN.d:XN→D
 | .p c=>.exc c
 | .v c f d=>.exv c f d
def Xf(K:W.Frag)(cl:Str→Addr)(F:Hp):XN→Option Addr→Prop
 | .p _,cx=>cx=none
 | .v _ f d,cx=>∃dx y,cx=some (2*dx+1)∧F dx=some (.xd [(f,y)])∧Rp K cl F d y
inductive R(α:Type) where | ok (a:α) (e:DE) | ex (c:XN)
inductive RS where | nx (e:DE) | rt (d:D) | ro (ds:List D) | rz (dss:List (List D)) | rp (n:Int) (ds:List D) | bk (e:DE) | ct (e:DE) | ex (c:XN)
def bnd{α β:Type}(x:Option (R α))(k:α→DE→Option (R β)):Option (R β):=match x with
 | none=>none
 | some (.ok a e)=>k a e
 | some (.ex c)=>some (.ex c)
def C9{α:Type}(x:Option (R α))(k:α→DE→Option RS):Option RS:=match x with
 | none=>none
 | some (.ok a e)=>k a e
 | some (.ex c)=>some (.ex c)
def Y2{α:Type}(x:Option α)(e:DE):Option (R α):=match x with
 | none=>none
 | some a=>some (.ok a e)
@[simp] theorem J8{α β:Type}(a:α)(e:DE)(k:α→DE→Option (R β)):bnd (some (.ok a e)) k=k a e:=rfl
@[simp] theorem b2a{α β:Type}(c:XN)(k:α→DE→Option (R β)):bnd (some (.ex c)) k=some (.ex c):=rfl
@[simp] theorem b2b{α β:Type}(k:α→DE→Option (R β)):bnd (none:Option (R α)) k=none:=rfl
@[simp] theorem a1F{α:Type}(a:α)(e:DE)(k:α→DE→Option RS):C9 (some (.ok a e)) k=k a e:=rfl
@[simp] theorem b2c{α:Type}(c:XN)(k:α→DE→Option RS):C9 (some (.ex c)) k=some (.ex c):=rfl
@[simp] theorem b2d{α:Type}(k:α→DE→Option RS):C9 (none:Option (R α)) k=none:=rfl
@[simp] theorem W3{α:Type}(a:α)(e:DE):Y2 (some a) e=some (.ok a e):=rfl
@[simp] theorem W4{α:Type}(e:DE):Y2 (none:Option α) e=none:=rfl
structure FX(σ:St)(H F:Hp)(env:DE)(H' F':Hp):Prop where
 fz:Same F F'
 sub:Same F' H'
 hid:∀a o,H a=some o→F a=none→¬Ow σ env a→H' a=some o∧F' a=none
 dom:∀a,H' a=none→H a=none
section
variable {K:W.Frag}{cl:Str→Addr}{E:XK}{σ σ':St}{H H' H1 F F' F1:Hp}{env env' env1:DE}{α β γ δ:Type}
theorem Frm.fx{H2 F2:Hp}(a:Frm σ H F env σ' H1 F1 env1)(b:FX σ' H1 F1 env1 H2 F2):FX σ H F env H2 F2 :=
 ⟨a.fz.trans b.fz,b.sub,fun x o h f w=>by obtain⟨h1,f1,w1⟩:=a.hid x o h f w;exact b.hid x o h1 f1 w1,fun x h=>a.dom x (b.dom x h)⟩
theorem Frm.toFX(a:Frm σ H F env σ' H1 F1 env1)(s:Same F1 H1):FX σ H F env H1 F1:=⟨a.fz,s,fun x o h f w=>by obtain⟨h1,f1,_⟩:=a.hid x o h f w;exact⟨h1,f1⟩,a.dom⟩
abbrev Py(α β:Type):=α→St→Hp→Hp→Hp→DE→β→Prop
def PM(P:Py α β):Prop:=∀a σ H0 H1 H' F' e b,(∀x:Addr,H1 x=none→H0 x=none)→P a σ H1 H' F' e b→P a σ H0 H' F' e b
def Ct(K:W.Frag)(cl:Str→Addr)(E:XK)(P:Py α β)(r:Option (R α))(σ:St)(H F:Hp)(env:DE)(Q:β→Hp→Prop):Prop:=match r with
 | none=>False
 | some (.ok a e)=>∀b H' F',Frm σ H F env σ H' F' e→Rel K cl σ H' F' e→P a σ H H' F' e b→Q b H'
 | some (.ex c)=>∀H' F',FX σ H F env H' F'→∀cx,Xf K cl F' c cx→E (.ref (cl c.nm)) cx H'
def Rz(K:W.Frag)(cl:Str→Addr)(F' H':Hp)(nw:Addr→Prop)(dss:List (List D))(as:List Addr):Prop:=as.Nodup∧as.length=dss.length∧∀(k:Nat) (a:Addr) (ds:List D),as[k]? = some a→dss[k]? = some ds→∃xs,H' a=some (.lst xs)∧F' a=none∧nw a∧Rps K cl F' ds xs
theorem Rz.imp{nw nw':Addr→Prop}{dss:List (List D)}{as:List Addr}(h:Rz K cl F' H' nw dss as)(i:∀a xs,H' a=some (.lst xs)→F' a=none→nw a→nw' a):Rz K cl F' H' nw' dss as :=
 ⟨h.1,h.2.1,fun k a ds e1 e2=>by obtain⟨xs,h1,h2,h3,h4⟩:=h.2.2 k a ds e1 e2;exact⟨xs,h1,h2,i a xs h1 h2 h3,h4⟩⟩
def Cs(K:W.Frag)(cl:Str→Addr)(E:XK)(r:Option RS)(σ:St)(H F:Hp)(env:DE)(N:Ends):Prop:=match r with
 | none=>False
 | some (.nx e)=>∀σ' H' F',Frm σ H F env σ' H' F' e→Rel K cl σ' H' F' e→N.nx σ' H'
 | some (.bk e)=>∀σ' H' F',Frm σ H F env σ' H' F' e→Rel K cl σ' H' F' e→N.bk σ' H'
 | some (.ct e)=>∀σ' H' F',Frm σ H F env σ' H' F' e→Rel K cl σ' H' F' e→N.ct σ' H'
 | some (.rt d)=>∀v H' F',FX σ H F env H' F'→Rp K cl F' d v→N.rt v H'
 | some (.ro ds)=>∀a xs H' F',FX σ H F env H' F'→H' a=some (.lst xs)→F' a=none→(∀o,H a=some o→Ow σ env a)→Rps K cl F' ds xs→N.rt (.ref a) H'
 | some (.rz dss)=>∀p as H' F',FX σ H F env H' F'→H p=none→H' p=some (.tup (as.map V.ref))→F' p=none→Rz K cl F' H' (fun a=>∀o,H a=some o→Ow σ env a) dss as→N.rt (.ref p) H'
 | some (.rp n ds)=>∀p a xs H' F',FX σ H F env H' F'→H p=none→H' p=some (.tup [.int n,.ref a])→F' p=none→H' a=some (.lst xs)→F' a=none→(∀o,H a=some o→Ow σ env a)→Rps K cl F' ds xs→N.rt (.ref p) H'
 | some (.ex c)=>∀H' F',FX σ H F env H' F'→∀cx,Xf K cl F' c cx→E (.ref (cl c.nm)) cx H'
theorem Ct.mono{P:Py α β}{r:Option (R α)}{Q Q':β→Hp→Prop}(h:Ct K cl E P r σ H F env Q)(q:∀b H',Q b H'→Q' b H'):Ct K cl E P r σ H F env Q':=by
 unfold Ct at h ⊢
 split at h
 ·exact h
 ·exact fun b H' F' f R p=>q _ _ (h b H' F' f R p)
 ·exact h
theorem Ct.from{P2:Py γ δ}{r:Option (R γ)}{Q:δ→Hp→Prop}(f:Frm σ H F env σ H1 F1 env1)(pm:PM P2)(h:Ct K cl E P2 r σ H F env Q):Ct K cl E P2 r σ H1 F1 env1 Q:=by
 unfold Ct at h ⊢
 split at h
 ·exact h
 ·exact fun b H' F' f2 R2 p2=>h b H' F' (f.trans f2) R2 (pm _ _ _ _ _ _ _ _ f.dom p2)
 ·exact fun H' F' x=>h H' F' (f.fx x)
theorem Ct.bnd{P1:Py α β}{P2:Py γ δ}{r:Option (R α)}{k:α→DE→Option (R γ)}{Q:δ→Hp→Prop}(h:Ct K cl E P2 (bnd r k) σ H F env Q)(pm:PM P2) :
  Ct K cl E P1 r σ H F env fun b H1=>∃F1 env1 a,Same F F1∧Rel K cl σ H1 F1 env1∧P1 a σ H H1 F1 env1 b∧Ct K cl E P2 (k a env1) σ H1 F1 env1 Q:=by
 unfold Ct
 rcases r with _ | ⟨a,e⟩ | c
 ·exact h
 ·intro b H1 F1 f R p
  refine⟨F1,e,a,f.fz,R,p,?_⟩
  have h:Ct K cl E P2 (k a e) σ H F env Q:=h
  exact Ct.from f pm h
 ·exact h
theorem Cs.from{r:Option RS}{N:Ends}(f:Frm σ H F env σ' H1 F1 env1)(h:Cs K cl E r σ H F env N):Cs K cl E r σ' H1 F1 env1 N:=by
 unfold Cs at h ⊢
 split at h
 ·exact h
 ·exact fun σ' H' F' f2 R2=>h σ' H' F' (f.trans f2) R2
 ·exact fun σ' H' F' f2 R2=>h σ' H' F' (f.trans f2) R2
 ·exact fun σ' H' F' f2 R2=>h σ' H' F' (f.trans f2) R2
 ·exact fun v H' F' x p=>h v H' F' (f.fx x) p
 ·refine fun a xs H' F' x ha fa nw p=>h a xs H' F' (f.fx x) ha fa (fun o e=>?_) p
  refine Classical.byContradiction fun w=>?_
  cases q:F a with
  | none =>
   obtain⟨h1,f1,w1⟩:=f.hid a o e q w
   exact w1 (nw o h1)
  | some u=>rw[x.fz _ _ (f.fz _ _ q)]at fa;cases fa
 ·refine fun p as H' F' x hp ht fp rz=>h p as H' F' (f.fx x) (f.dom p hp) ht fp (rz.imp fun a xs ha fa nw o e=>?_)
  refine Classical.byContradiction fun w=>?_
  cases q:F a with
  | none =>
   obtain⟨h1,f1,w1⟩:=f.hid a o e q w
   exact w1 (nw o h1)
  | some u=>rw[x.fz _ _ (f.fz _ _ q)]at fa;cases fa
 ·refine fun p a xs H' F' x hp ht fp ha fa nw r=>h p a xs H' F' (f.fx x) (f.dom p hp) ht fp ha fa (fun o e=>?_) r
  refine Classical.byContradiction fun w=>?_
  cases q:F a with
  | none =>
   obtain⟨h1,f1,w1⟩:=f.hid a o e q w
   exact w1 (nw o h1)
  | some u=>rw[x.fz _ _ (f.fz _ _ q)]at fa;cases fa
 ·exact fun H' F' x=>h H' F' (f.fx x)
theorem Cs.bnd{P1:Py α β}{r:Option (R α)}{k:α→DE→Option RS}{N:Ends}(h:Cs K cl E (C9 r k) σ H F env N) :
  Ct K cl E P1 r σ H F env fun b H1=>∃F1 env1 a,Frm σ H F env σ H1 F1 env1∧Rel K cl σ H1 F1 env1∧P1 a σ H H1 F1 env1 b∧Cs K cl E (k a env1) σ H F env N:=by
 unfold Ct
 rcases r with _ | ⟨a,e⟩ | c
 ·exact h
 ·intro b H1 F1 f R p
  exact⟨F1,e,a,f,R,p,h⟩
 ·exact h
end
def PZ(K:W.Frag)(cl:Str→Addr):Py D V:=fun d _ _ _ F' _ v=>Rp K cl F' d v
def PAs(K:W.Frag)(cl:Str→Addr):Py (List D) (List V):=fun ds _ _ _ F' _ vs=>Rps K cl F' ds vs
def PB:Py Bool Bool:=fun b _ _ _ _ _ c=>c=b
def PI':Py (Option Int) (Option Int):=fun b _ _ _ _ _ c=>c=b
def PN(K:W.Frag)(cl:Str→Addr):Py (List D) V:=fun ds σ H H' F' e v=>∃a xs,v=.ref a∧H a=none∧H' a=some (.lst xs)∧F' a=none∧(∀j,Mu e j→σ[j]?≠some (some (.ref a)))∧Rps K cl F' ds xs
theorem B4{K cl}:PM (PZ K cl):=fun _ _ _ _ _ _ _ _ _ h=>h
theorem b2e{K cl}:PM (PAs K cl):=fun _ _ _ _ _ _ _ _ _ h=>h
theorem a5F:PM PB:=fun _ _ _ _ _ _ _ _ _ h=>h
theorem b3Y:PM PI':=fun _ _ _ _ _ _ _ _ _ h=>h
theorem a06{K cl}:PM (PN K cl):=fun _ _ _ _ _ _ _ _ g ⟨a,xs,e,h,r⟩=>⟨a,xs,e,g a h,r⟩
abbrev ZF:=DE→Option (R D)
abbrev NF:=DE→Option (R (List D))
abbrev AF:=DE→Option (R (List D))
abbrev BF:=DE→Option (R Bool)
abbrev OF:=DE→Option (R (Option Int))
abbrev SF:=DE→Option RS
section
variable (K:W.Frag)(cl:Str→Addr)(E:XK)
def k6(t:TE)(f:ZF):Prop:=∀σ H Q env F,Rel K cl σ H F env→Ct K cl E (PZ K cl) (f env) σ H F env Q→t σ H Q
def RfN(t:TE)(f:NF):Prop:=∀σ H Q env F,Rel K cl σ H F env→Ct K cl E (PN K cl) (f env) σ H F env Q→t σ H Q
def L8(t:TA)(f:AF):Prop:=∀σ H Q env F,Rel K cl σ H F env→Ct K cl E (PAs K cl) (f env) σ H F env Q→t σ H Q
def L9(t:TT)(f:BF):Prop:=∀σ H Q env F,Rel K cl σ H F env→Ct K cl E PB (f env) σ H F env Q→t σ H Q
def RfO(t:TO)(f:OF):Prop:=∀σ H Q env F,Rel K cl σ H F env→Ct K cl E PI' (f env) σ H F env Q→t σ H Q
def RfS(t:TS)(f:SF):Prop:=∀(N:Ends) σ H env F,Rel K cl σ H F env→Cs K cl E (f env) σ H F env N→t N σ H
end
def eC(d:D):ZF:=fun e=>some (.ok d e)
def eV(i:Nat):ZF:=fun e=>match e[i]? with
 | some (.fz d)=>some (.ok d e)
 | some (.ow ds)=>some (.ok (.lst ds) (e.set i (.fz (.lst ds))))
 | _=>none
def look(e:DE)(i:Nat):Option D:=match e[i]? with
 | some (.fz d)=>some d
 | some (.ow ds)=>some (.lst ds)
 | some (.hd ds)=>some (.lst ds)
 | _=>none
def Rb(K:W.Frag)(cl:Str→Addr)(F H:Hp)(d:D)(v:V):Prop:=Rp K cl F d v∨∃a xs ds,v=.ref a∧d=.lst ds∧H a=some (.lst xs)∧Rps K cl F ds xs
section
variable {K:W.Frag}{cl:Str→Addr}{E:XK}{σ:St}{H F:Hp}{env:DE}
theorem Rel.look{i:Nat}{d:D}(R:Rel K cl σ H F env)(h:look env i=some d):∃v,σ[i]? = some (some v)∧Rb K cl F H d v:=by
 unfold L2.look at h
 split at h
 ·rename_i q;cases h;obtain⟨v,e,r⟩:=R.fz i d q;exact⟨v,e,.inl r⟩
 ·rename_i ds q;cases h;obtain⟨a,xs,e,hH,_,r⟩:=R.mu i ds (.inl q);exact⟨_,e,.inr ⟨a,xs,ds,rfl,rfl,hH,r⟩⟩
 ·rename_i ds q;cases h;obtain⟨a,xs,e,hH,_,r⟩:=R.mu i ds (.inr q);exact⟨_,e,.inr ⟨a,xs,ds,rfl,rfl,hH,r⟩⟩
 ·cases h
theorem d7{v:V}{d:D}(h:∀F,Rp K cl F d v:=by intro F;simp only[Rp]):k6 K cl E (tC v) (eC d):=fun σ H Q env F R h'=>h' v H F Frm.refl R (h F)
theorem f9{i:Nat}:k6 K cl E (D1 i) (eV i):=by
 intro σ H Q env F R h
 unfold eV at h
 split at h
 ·rename_i d q
  obtain⟨v,e,r⟩:=R.fz i d q
  exact⟨v,e,h v H F Frm.refl R r⟩
 ·rename_i ds q
  obtain⟨a,F',e,fr,R',r⟩:=R.freeze q
  exact⟨_,e,h _ H F' fr R' r⟩
 ·exact h.elim
end
def OpOk(K:W.Frag)(cl:Str→Addr)(r:R2)(g:D→D→Option D):Prop:=∀x y d e z H F Q,Same F H→Rb K cl F H d x→Rb K cl F H e y→g d e=some z→(∀v H' F',Gr H F H' F'→Rp K cl F' z v→Q v H')→r x y H Q
def eB(g:D→D→Option D)(f k:ZF):ZF:=fun e=>bnd (f e) fun d e1=>bnd (k e1) fun d' e2=>Y2 (g d d') e2
def G1(g:D→D→Option D)(i:Nat)(k:ZF):ZF:=fun e=>match look e i with
 | none=>none
 | some _=>bnd (k e) fun d' e2=>match look e2 i with
  | some d=>Y2 (g d d') e2
  | none=>none
def a3O(g:D→D→Option D)(i j:Nat):ZF:=fun e=>match look e i,look e j with
 | some d,some d'=>Y2 (g d d') e
 | _,_=>none
section
variable {K:W.Frag}{cl:Str→Addr}{E:XK}{r:R2}{g:D→D→Option D}{ta tb:TE}{f k:ZF}{i j:Nat}
theorem OpOk.fin{σ:St}{H F:Hp}{env:DE}{x y:V}{d e:D}{Q:VK}(ok:OpOk K cl r g)(R:Rel K cl σ H F env)(hx:Rb K cl F H d x)(hy:Rb K cl F H e y)(h:Ct K cl E (PZ K cl) (Y2 (g d e) env) σ H F env Q):r x y H Q:=by
 cases hz:g d e with
 | none=>rw[hz]at h;exact h.elim
 | some z =>
  rw[hz]at h
  exact ok x y d e z H F Q R.sub hx hy hz fun v H' F' gr p=>h v H' F' (R.frm gr) (R.gr gr) p
theorem g7(ok:OpOk K cl r g)(ha:k6 K cl E ta f)(hb:k6 K cl E tb k):k6 K cl E (tOp r ta tb) (eB g f k):=by
 intro σ H Q env F R h
 refine ha σ H _ env F R ((Ct.bnd h B4).mono fun x H1 ⟨F1,e1,d,s1,R1,p1,h1⟩=>?_)
 refine hb σ H1 _ e1 F1 R1 ((Ct.bnd h1 B4).mono fun y H2 ⟨F2,e2,e,s2,R2,p2,h2⟩=>?_)
 exact ok.fin R2 (.inl (Rp.mono s2 _ _ p1)) (.inl p2) h2
theorem G2(ok:OpOk K cl r g)(hb:k6 K cl E tb k):k6 K cl E (tOp r (D1 i) tb) (G1 g i k):=by
 intro σ H Q env F R h
 unfold G1 at h
 cases q:look env i with
 | none=>rw[q]at h;exact h.elim
 | some d0 =>
  rw[q]at h
  obtain⟨x,e0,_⟩:=R.look q
  refine⟨x,e0,hb σ H _ env F R ((Ct.bnd h B4).mono fun y H2 ⟨F2,e2,e,s2,R2,p2,h2⟩=>?_)⟩
  cases q2:look e2 i with
  | none=>rw[q2]at h2;exact h2.elim
  | some d =>
   rw[q2]at h2
   obtain⟨x',e',rb⟩:=R2.look q2
   rw[e0]at e';cases e'
   exact ok.fin R2 rb (.inl p2) h2
theorem a97(ok:OpOk K cl r g):k6 K cl E (tOp r (D1 i) (D1 j)) (a3O g i j):=by
 intro σ H Q env F R h
 unfold a3O at h
 cases q:look env i with
 | none=>rw[q]at h;exact h.elim
 | some d =>
  cases q2:look env j with
  | none=>rw[q,q2]at h;exact h.elim
  | some d' =>
   rw[q,q2]at h
   obtain⟨x,e,rb⟩:=R.look q
   obtain⟨y,e',rb'⟩:=R.look q2
   exact⟨x,e,y,e',ok.fin R rb rb' h⟩
end
section
variable {K:W.Frag}{cl:Str→Addr}{E:XK}
theorem Rb.int{F H:Hp}{i:Int}{v:V}(h:Rb K cl F H (.int i) v):v=.int i:=by
 rcases h with h | ⟨_,_,_,_,z,_⟩
 ·simpa only[Rp]using h
 ·cases z
theorem Rb.bl{F H:Hp}{i:Bool}{v:V}(h:Rb K cl F H (.bl i) v):v=.bl i:=by
 rcases h with h | ⟨_,_,_,_,z,_⟩
 ·simpa only[Rp]using h
 ·cases z
theorem Rb.str{F H:Hp}{i:Str}{v:V}(h:Rb K cl F H (.str i) v):v=.str i:=by
 rcases h with h | ⟨_,_,_,_,z,_⟩
 ·simpa only[Rp]using h
 ·cases z
theorem Rb.non{F H:Hp}{v:V}(h:Rb K cl F H .non v):v=.non:=by
 rcases h with h | ⟨_,_,_,_,z,_⟩
 ·simpa only[Rp]using h
 ·cases z
theorem Rb.lst{F H:Hp}{ds:List D}{v:V}(s:Same F H)(h:Rb K cl F H (.lst ds) v):∃a xs,v=.ref a∧H a=some (.lst xs)∧Rps K cl F ds xs:=by
 rcases h with h | ⟨a,xs,ds',e,z,h,r⟩
 ·simp only[Rp]at h
  obtain⟨a,xs,e,h,r⟩:=h
  exact⟨a,xs,e,s _ _ h,r⟩
 ·cases z;exact⟨a,xs,e,h,r⟩
theorem Rb.tup{F H:Hp}{ds:List D}{v:V}(s:Same F H)(h:Rb K cl F H (.tup ds) v):∃a xs,v=.ref a∧H a=some (.tup xs)∧Rps K cl F ds xs:=by
 rcases h with h | ⟨_,_,_,_,z,_⟩
 ·simp only[Rp]at h
  obtain⟨a,xs,e,h,r⟩:=h
  exact⟨a,xs,e,s _ _ h,r⟩
 ·cases z
theorem Rb.scr{F H:Hp}{ns:List Int}{v:V}(s:Same F H)(h:Rb K cl F H (.scr ns) v):∃a,v=.ref a∧Scr K H a (ns.map V.int):=by
 rcases h with h | ⟨_,_,_,_,z,_⟩
 ·simp only[Rp]at h
  obtain⟨a,e,h⟩:=h
  exact⟨a,e,h.same s⟩
 ·cases z
def gI(C:Int→Int→Prop) [∀i j,Decidable (C i j)] (g:Int→Int→D):D→D→Option D
 | .int i,.int j=>if C i j then some (g i j)else none
 | _,_=>none
def gI0(g:Int→Int→D):D→D→Option D
 | .int i,.int j=>some (g i j)
 | _,_=>none
theorem a7_{C:Int→Int→Prop} [∀i j,Decidable (C i j)] {g:Int→Int→V} {g':Int→Int→D} (hg:∀F i j,Rp K cl F (g' i j) (g i j)):OpOk K cl (rI C g) (gI C g'):=by
 intro x y d e z H F Q s hx hy h q
 unfold gI at h
 split at h
 ·rename_i i j
  split at h
  ·rename_i c;cases h
   exact⟨i,j,hx.int,hy.int,c,q _ H F (.refl s) (hg F i j)⟩
  ·cases h
 ·cases h
theorem a1G{g:Int→Int→V}{g':Int→Int→D}(hg:∀F i j,Rp K cl F (g' i j) (g i j)):OpOk K cl (U4 g) (gI0 g'):=by
 intro x y d e z H F Q s hx hy h q
 unfold gI0 at h
 split at h
 ·rename_i i j
  cases h
  exact⟨i,j,hx.int,hy.int,q _ H F (.refl s) (hg F i j)⟩
 ·cases h
end
section
variable {K:W.Frag}{cl:Str→Addr}{E:XK}{σ:St}{H F:Hp}{env:DE}
theorem Rel.newN{p:Addr}{o:HO}(R:Rel K cl σ H F env)(hp:H p=none):Rel K cl σ (upd H p o) F env∧Frm σ H F env σ (upd H p o) F env:=by
 have fp:F p=none:=R.sub.free hp
 have ne:∀a u,H a=some u→a≠p:=fun a u h z=>by rw[z,hp]at h;cases h
 refine⟨⟨R.sub.trans (M3 hp _),R.len,R.fz,fun i ds h=>?_,R.inj,R.od.newO hp⟩,⟨Same.refl _,fun a u h f w=>?_,fun _ _ h=>⟨h,rfl⟩,fun a h=>?_⟩⟩
 ·obtain⟨a,xs,e,hH,hF,r⟩:=R.mu i ds h
  exact⟨a,xs,e,by rw[d5 (ne _ _ hH)];exact hH,hF,r⟩
 ·exact⟨by rw[d5 (ne _ _ h)];exact h,f,w⟩
 ·by_cases z:a=p
  ·rw[z];exact hp
  ·rw[d5 z]at h;exact h
theorem Ct.newN{p:Addr}{xs:List V}{ds:List D}{Q:VK}(R:Rel K cl σ H F env)(hp:H p=none)(r:Rps K cl F ds xs)(h:Ct K cl E (PN K cl) (some (.ok ds env)) σ H F env Q):Q (.ref p) (upd H p (.lst xs)):=by
 obtain⟨R',f⟩:=R.newN (o:=.lst xs) hp
 refine h _ _ F f R' ⟨p,xs,rfl,hp,i0,R.sub.free hp,fun j mj e=>?_,r⟩
 obtain⟨ds',q⟩:=mj
 obtain⟨a,ys,e1,hH,_⟩:=R.mu j ds' q
 rw[e]at e1;cases e1
 rw[hp]at hH;cases hH
def zN(f:NF):ZF:=fun e=>bnd (f e) fun ds e1=>some (.ok (.lst ds) e1)
theorem a1H{t:TE}{f:NF}(h:RfN K cl E t f):k6 K cl E t (zN f):=by
 intro σ H Q env F R q
 refine h σ H Q env F R ?_
 unfold zN at q
 rcases hf:f env with _ | ⟨ds,e1⟩ | c
 ·rw[hf]at q;exact q
 ·rw[hf]at q
  rintro b H' F' fr R' ⟨a,xs,rfl,hn,hH,hF,nm,r⟩
  have sF:Same F' (upd F' a (.lst xs)):=M3 hF _
  refine q _ H' (upd F' a (.lst xs)) ⟨fr.fz.trans sF,fun b o hb fb w=>?_,fr.keep,fr.dom⟩ ⟨fun b o z=>?_,R'.len,fun i d z=>?_,fun i es z=>?_,R'.inj,R'.od.frzL hH hF⟩ (by show Rp K cl _ (.lst ds) _;simp only[Rp];exact⟨a,xs,rfl,i0,r.mono sF⟩)
  ·obtain⟨h1,f1,w1⟩:=fr.hid b o hb fb w
   have nb:b≠a:=fun z=>by rw[z,hn]at hb;cases hb
   exact⟨h1,by rw[d5 nb];exact f1,w1⟩
  ·by_cases y:b=a
   ·subst y;rw[i0]at z;cases z;exact hH
   ·rw[d5 y]at z;exact R'.sub _ _ z
  ·obtain⟨v,e,r1⟩:=R'.fz i d z
   exact⟨v,e,r1.mono sF⟩
  ·obtain⟨b,ys,e,h1,f1,r1⟩:=R'.mu i es z
   have nb:b≠a:=fun y=>nm i ⟨es,z⟩ (by rw[e,y])
   exact⟨b,ys,e,h1,by rw[d5 nb];exact f1,r1.mono sF⟩
 ·rw[hf]at q;exact q
def aN:AF:=fun e=>some (.ok [] e)
def aC(f:ZF)(k:AF):AF:=fun e=>bnd (f e) fun d e1=>bnd (k e1) fun ds e2=>some (.ok (d::ds) e2)
theorem i1:L8 K cl E Q0 aN:=fun σ H Q env F R h=>h [] H F Frm.refl R .nil
theorem d6{te:TE}{ta:TA}{f:ZF}{k:AF}(hf:k6 K cl E te f)(hk:L8 K cl E ta k):L8 K cl E (F5 te ta) (aC f k):=by
 intro σ H Q env F R h
 refine hf σ H _ env F R ((Ct.bnd h b2e).mono fun x H1 ⟨F1,e1,d,s1,R1,p1,h1⟩=>?_)
 refine hk σ H1 _ e1 F1 R1 ((Ct.bnd h1 b2e).mono fun xs H2 ⟨F2,e2,ds,s2,R2,p2,h2⟩=>?_)
 exact h2 (x::xs) H2 F2 Frm.refl R2 (.cons (Rp.mono s2 _ _ p1) p2)
def eT(f:AF):ZF:=fun e=>bnd (f e) fun ds e1=>if ds.length≤sizeLine then some (.ok (.tup ds) e1)else none
def eL(f:AF):NF:=fun e=>bnd (f e) fun ds e1=>if ds.length≤sizeLine then some (.ok ds e1)else none
theorem D3{ta:TA}{f:AF}(hf:L8 K cl E ta f):k6 K cl E (b1P ta) (eT f):=by
 intro σ H Q env F R h
 refine hf σ H _ env F R ((Ct.bnd h B4).mono fun xs H1 ⟨F1,e1,ds,s1,R1,p1,h1⟩=>?_)
 have hl:ds.length=xs.length:=Rps.length p1
 split at h1
 ·rename_i z
  refine⟨by rw[← hl];exact z,fun p hp=>?_⟩
  have g:Gr H1 F1 (upd H1 p (.tup xs)) (upd F1 p (.tup xs)):=.new R1.sub hp
  exact h1 _ _ _ (R1.frm g) (R1.gr g) (by show Rp K cl _ (.tup ds) _;simp only[Rp];exact⟨p,xs,rfl,i0,Rps.mono g.fz _ _ p1⟩)
 ·exact h1.elim
theorem a8a{ta:TA}{f:AF}(hf:L8 K cl E ta f):RfN K cl E (b1Q ta) (eL f):=by
 intro σ H Q env F R h
 refine hf σ H _ env F R ((Ct.bnd h a06).mono fun xs H1 ⟨F1,e1,ds,s1,R1,p1,h1⟩=>?_)
 have hl:ds.length=xs.length:=Rps.length p1
 split at h1
 ·rename_i z
  exact⟨by rw[← hl];exact z,fun p hp=>Ct.newN R1 hp p1 h1⟩
 ·exact h1.elim
def bZ(f:ZF):BF:=fun e=>bnd (f e) fun d e1=>match d with
 | .bl b=>some (.ok b e1)
 | _=>none
theorem W5{t:TE}{f:ZF}(hf:k6 K cl E t f):L9 K cl E (tB t) (bZ f):=by
 intro σ H Q env F R h
 refine hf σ H _ env F R ((Ct.bnd h a5F).mono fun x H1 ⟨F1,e1,d,s1,R1,p1,h1⟩=>?_)
 split at h1
 ·rename_i b
  have:x=.bl b:=by have:=(show Rp K cl F1 (.bl b) x from p1);simpa only[Rp]using this
  exact⟨b,this,h1 b H1 F1 Frm.refl R1 rfl⟩
 ·exact h1.elim
theorem p9{t:TE}{f:ZF}(hf:k6 K cl E t f):L9 K cl E (a9a t) (bZ f):=W5 hf
def a2m(f:BF):BF:=fun e=>bnd (f e) fun b e1=>some (.ok (!b) e1)
def a07(f k:BF):BF:=fun e=>bnd (f e) fun b e1=>if b=true then k e1 else some (.ok false e1)
def bOr(f k:BF):BF:=fun e=>bnd (f e) fun b e1=>if b=true then some (.ok true e1)else k e1
theorem a2n{t:TT}{f:BF}(hf:L9 K cl E t f):L9 K cl E (b1y t) (a2m f):=by
 intro σ H Q env F R h
 refine hf σ H _ env F R ((Ct.bnd h a5F).mono fun x H1 ⟨F1,e1,d,s1,R1,p1,h1⟩=>?_)
 cases (show x=d from p1)
 exact h1 _ H1 F1 Frm.refl R1 rfl
theorem a2o{t u:TT}{f k:BF}(hf:L9 K cl E t f)(hk:L9 K cl E u k):L9 K cl E (b1x t u) (a07 f k):=by
 intro σ H Q env F R h
 refine hf σ H _ env F R ((Ct.bnd h a5F).mono fun x H1 ⟨F1,e1,d,s1,R1,p1,h1⟩=>?_)
 cases (show x=d from p1)
 by_cases z:x=true
 ·rw[if_pos z]at h1 ⊢;exact hk σ H1 Q e1 F1 R1 h1
 ·rw[if_neg z]at h1 ⊢;exact h1 _ H1 F1 Frm.refl R1 rfl
theorem a6H{t u:TT}{f k:BF}(hf:L9 K cl E t f)(hk:L9 K cl E u k):L9 K cl E (tOr t u) (bOr f k):=by
 intro σ H Q env F R h
 refine hf σ H _ env F R ((Ct.bnd h a5F).mono fun x H1 ⟨F1,e1,d,s1,R1,p1,h1⟩=>?_)
 cases (show x=d from p1)
 by_cases z:x=true
 ·rw[if_pos z]at h1 ⊢;exact h1 _ H1 F1 Frm.refl R1 rfl
 ·rw[if_neg z]at h1 ⊢;exact hk σ H1 Q e1 F1 R1 h1
def a8b(f:ZF):ZF:=fun e=>bnd (f e) fun d e1=>match d with
 | .bl b=>some (.ok (.bl (!b)) e1)
 | _=>none
def a08(f k:ZF):ZF:=fun e=>bnd (f e) fun d e1=>match d with
 | .bl b=>if b=true then k e1 else some (.ok (.bl false) e1)
 | _=>none
def eIf(c:BF)(f k:ZF):ZF:=fun e=>bnd (c e) fun b e1=>if b=true then f e1 else k e1
theorem a6J{t:TE}{f:ZF}(hf:k6 K cl E t f):k6 K cl E (a83 t) (a8b f):=by
 intro σ H Q env F R h
 refine hf σ H _ env F R ((Ct.bnd h B4).mono fun x H1 ⟨F1,e1,d,s1,R1,p1,h1⟩=>?_)
 split at h1
 ·rename_i b
  have:x=.bl b:=by have:=(show Rp K cl F1 (.bl b) x from p1);simpa only[Rp]using this
  exact⟨b,this,h1 _ H1 F1 Frm.refl R1 (by show Rp K cl F1 (.bl _) _;simp only[Rp])⟩
 ·exact h1.elim
theorem a1I{t u:TE}{f k:ZF}(hf:k6 K cl E t f)(hk:k6 K cl E u k):k6 K cl E (a82 t u) (a08 f k):=by
 intro σ H Q env F R h
 refine hf σ H _ env F R ((Ct.bnd h B4).mono fun x H1 ⟨F1,e1,d,s1,R1,p1,h1⟩=>?_)
 split at h1
 ·rename_i b
  have:x=.bl b:=by have:=(show Rp K cl F1 (.bl b) x from p1);simpa only[Rp]using this
  refine⟨b,this,?_⟩
  by_cases z:b=true
  ·rw[if_pos z]at h1 ⊢;exact hk σ H1 Q e1 F1 R1 h1
  ·rw[if_neg z]at h1 ⊢;exact h1 _ H1 F1 Frm.refl R1 (by show Rp K cl F1 (.bl _) _;simp only[Rp])
 ·exact h1.elim
theorem a9o{c:TT}{t u:TE}{b:BF}{f k:ZF}(hc:L9 K cl E c b)(hf:k6 K cl E t f)(hk:k6 K cl E u k):k6 K cl E (tIf c t u) (eIf b f k):=by
 intro σ H Q env F R h
 refine hc σ H _ env F R ((Ct.bnd h B4).mono fun x H1 ⟨F1,e1,d,s1,R1,p1,h1⟩=>?_)
 cases (show x=d from p1)
 by_cases z:x=true
 ·rw[if_pos z]at h1 ⊢;exact hf σ H1 Q e1 F1 R1 h1
 ·rw[if_neg z]at h1 ⊢;exact hk σ H1 Q e1 F1 R1 h1
def a8c(K:W.Frag)(cl:Str→Addr)(r:V→Hp→VK→Prop)(g:D→Option D):Prop:=∀x d z H F Q,Same F H→Rb K cl F H d x→g d=some z→(∀v H' F',Gr H F H' F'→Rp K cl F' z v→Q v H')→r x H Q
def eU(g:D→Option D)(f:ZF):ZF:=fun e=>bnd (f e) fun d e1=>Y2 (g d) e1
theorem a5G{r:V→Hp→VK→Prop}{g:D→Option D}{t:TE}{f:ZF}(ok:a8c K cl r g)(hf:k6 K cl E t f):k6 K cl E (tUn r t) (eU g f):=by
 intro σ H Q env F R h
 refine hf σ H _ env F R ((Ct.bnd h B4).mono fun x H1 ⟨F1,e1,d,s1,R1,p1,h1⟩=>?_)
 cases hz:g d with
 | none=>rw[hz]at h1;exact h1.elim
 | some z =>
  rw[hz]at h1
  exact ok x d z H1 F1 Q R1.sub (.inl p1) hz fun v H' F' gr p=>h1 v H' F' (R1.frm gr) (R1.gr gr) p
def a0e:D→Option D
 | .int i=>some (.int (-i))
 | _=>none
theorem a3Q:a8c K cl (rU fun i=>.int (-i)) a0e:=by
 intro x d z H F Q s hx h q
 unfold a0e at h
 split at h
 ·rename_i i;cases h
  exact⟨i,hx.int,q _ H F (.refl s) (by simp only[Rp])⟩
 ·cases h
def a2p(K:W.Frag)(cl:Str→Addr)(r:List V→Hp→VK→Prop)(g:List D→Option D):Prop:=∀xs ds z H F Q,Same F H→Rps K cl F ds xs→g ds=some z→(∀v H' F',Gr H F H' F'→Rp K cl F' z v→Q v H')→r xs H Q
def CbOk1(K:W.Frag)(cl:Str→Addr)(r:List V→Hp→VK→Prop)(g:D→Option D):Prop:=∀x d z H F Q,Same F H→Rb K cl F H d x→g d=some z→(∀v H' F',Gr H F H' F'→Rp K cl F' z v→Q v H')→r [x] H Q
def S7(g:List D→Option D)(f:AF):ZF:=fun e=>bnd (f e) fun ds e1=>Y2 (g ds) e1
def D7(g:D→Option D)(i:Nat):ZF:=fun e=>match look e i with
 | some d=>Y2 (g d) e
 | none=>none
theorem P3{r:List V→Hp→VK→Prop}{g:List D→Option D}{t:TA}{f:AF}(ok:a2p K cl r g)(hf:L8 K cl E t f):k6 K cl E (tCB r t) (S7 g f):=by
 intro σ H Q env F R h
 refine hf σ H _ env F R ((Ct.bnd h B4).mono fun x H1 ⟨F1,e1,d,s1,R1,p1,h1⟩=>?_)
 cases hz:g d with
 | none=>rw[hz]at h1;exact h1.elim
 | some z =>
  rw[hz]at h1
  exact ok x d z H1 F1 Q R1.sub p1 hz fun v H' F' gr p=>h1 v H' F' (R1.frm gr) (R1.gr gr) p
theorem J9{r:List V→Hp→VK→Prop}{g:D→Option D}{i:Nat}(ok:CbOk1 K cl r g):k6 K cl E (tCB r (F5 (D1 i) Q0)) (D7 g i):=by
 intro σ H Q env F R h
 unfold D7 at h
 cases q:look env i with
 | none=>rw[q]at h;exact h.elim
 | some d =>
  rw[q]at h
  obtain⟨x,e,rb⟩:=R.look q
  refine⟨x,e,?_⟩
  cases hz:g d with
  | none=>simp only[hz,W4]at h;exact h.elim
  | some z =>
   simp only[hz,W3]at h
   exact ok x d z H F Q R.sub rb hz fun v H' F' gr p=>h v H' F' (R.frm gr) (R.gr gr) p
def g1(g:D→Option D):List D→Option D
 | [d]=>g d
 | _=>none
theorem CbOk1.cb{r:List V→Hp→VK→Prop}{g:D→Option D}(ok:CbOk1 K cl r g):a2p K cl r (g1 g):=by
 intro xs ds z H F Q s hx h q
 unfold g1 at h
 split at h
 ·obtain⟨v,r,rfl,h1,h2⟩:=hx.inv
  rw[h2.inv0]
  exact ok v _ z H F Q s (.inl h1) h q
 ·cases h
def b2f(K:W.Frag)(cl:Str→Addr)(r:List V→Hp→VK→Prop)(g:D→Option (List D)):Prop:=∀x d zs H F Q,Same F H→Rb K cl F H d x→g d=some zs→(∀p xs,H p=none→Rps K cl F zs xs→Q (.ref p) (upd H p (.lst xs)))→r [x] H Q
def nCV(g:D→Option (List D))(i:Nat):NF:=fun e=>match look e i with
 | some d=>Y2 (g d) e
 | none=>none
theorem a6K{r:List V→Hp→VK→Prop}{g:D→Option (List D)}{i:Nat}(ok:b2f K cl r g):RfN K cl E (tCB r (F5 (D1 i) Q0)) (nCV g i):=by
 intro σ H Q env F R h
 unfold nCV at h
 cases q:look env i with
 | none=>rw[q]at h;exact h.elim
 | some d =>
  rw[q]at h
  obtain⟨x,e,rb⟩:=R.look q
  refine⟨x,e,?_⟩
  cases hz:g d with
  | none=>simp only[hz,W4]at h;exact h.elim
  | some z =>
   simp only[hz,W3]at h
   exact ok x d z H F Q R.sub rb hz fun p xs hp r=>Ct.newN R hp r h
def b2g(K:W.Frag)(cl:Str→Addr)(r:R2)(g:D→D→Option (List D)):Prop:=∀x y d e zs H F Q,Same F H→Rb K cl F H d x→Rb K cl F H e y→g d e=some zs→(∀p xs,H p=none→Rps K cl F zs xs→Q (.ref p) (upd H p (.lst xs)))→r x y H Q
def nB(g:D→D→Option (List D))(f k:ZF):NF:=fun e=>bnd (f e) fun d e1=>bnd (k e1) fun d' e2=>Y2 (g d d') e2
theorem b3b{r:R2}{g:D→D→Option (List D)}{ta tb:TE}{f k:ZF}(ok:b2g K cl r g)(ha:k6 K cl E ta f)(hb:k6 K cl E tb k):RfN K cl E (tOp r ta tb) (nB g f k):=by
 intro σ H Q env F R h
 refine ha σ H _ env F R ((Ct.bnd h a06).mono fun x H1 ⟨F1,e1,d,s1,R1,p1,h1⟩=>?_)
 refine hb σ H1 _ e1 F1 R1 ((Ct.bnd h1 a06).mono fun y H2 ⟨F2,e2,e,s2,R2,p2,h2⟩=>?_)
 cases hz:g d e with
 | none=>rw[hz]at h2;exact h2.elim
 | some z =>
  rw[hz]at h2
  exact ok x y d e z H2 F2 Q R2.sub (.inl (Rp.mono s2 _ _ p1)) (.inl p2) hz fun p xs hp r=>Ct.newN R2 hp r h2
end
section
variable {K:W.Frag}{cl:Str→Addr}{E:XK}{σ:St}{H F:Hp}{env:DE}
instance decMul(i j:Int):Decidable (IntMulOk i j):=by unfold IntMulOk;infer_instance
instance decPow(i j:Int):Decidable (a18 i j):=by unfold a18;infer_instance
abbrev N9:=gI0 fun i j=>.int (i+j)
abbrev W6:=gI0 fun i j=>.int (i-j)
abbrev z9:=gI (fun _ j=>0<j∧j.natAbs.log2<9000) fun i j=>.int (i/j)
abbrev p5:=gI (fun _ j=>0<j) fun i j=>.int (i%j)
abbrev W7:=gI a18 fun i j=>.int (i ^ j.toNat)
abbrev gLt:=gI0 fun i j=>.bl (decide (i<j))
abbrev gGt:=gI0 fun i j=>.bl (decide (j<i))
abbrev gGe:=gI0 fun i j=>.bl (decide (j≤i))
theorem U9:OpOk K cl (U4 fun i j=>.int (i+j)) N9:=a1G fun F i j=>by simp only[Rp]
theorem a3R:OpOk K cl (U4 fun i j=>.int (i-j)) W6:=a1G fun F i j=>by simp only[Rp]
theorem E5:OpOk K cl (rI (fun _ j=>0<j∧j.natAbs.log2<9000) fun i j=>.int (i/j)) z9:=a7_ fun F i j=>by simp only[Rp]
theorem x6:OpOk K cl (rI (fun _ j=>0<j) fun i j=>.int (i%j)) p5:=a7_ fun F i j=>by simp only[Rp]
theorem a6L:OpOk K cl (rI a18 fun i j=>.int (i ^ j.toNat)) W7:=a7_ fun F i j=>by simp only[Rp]
theorem b3c:OpOk K cl (U4 fun i j=>.bl (decide (i<j))) gLt:=a1G fun F i j=>by simp only[Rp]
theorem a1K:OpOk K cl (U4 fun i j=>.bl (decide (j<i))) gGt:=a1G fun F i j=>by simp only[Rp]
theorem a5H:OpOk K cl (U4 fun i j=>.bl (decide (j≤i))) gGe:=a1G fun F i j=>by simp only[Rp]
def toV:D→Option V
 | .non=>some .non
 | .bl b=>some (.bl b)
 | .int i=>some (.int i)
 | .str x=>some (.str x)
 | _=>none
theorem Rb.toV{d:D}{v u:V}(h:Rb K cl F H d v)(e:toV d=some u):v=u:=by
 cases d with
 | non=>cases e;exact h.non
 | bl b=>cases e;exact h.bl
 | int i=>cases e;exact h.int
 | str x=>cases e;exact h.str
 | _=>cases e
def z8(neg:Bool)(d e:D):Option D:=match toV d,toV e with
 | some x,some y=>if a3s x y=true then some (.bl (if neg then !decide (x=y)else decide (x=y)))else none
 | _,_=>none
theorem D8:OpOk K cl rEq (z8 false):=by
 intro x y d e z H F Q s hx hy h q
 unfold z8 at h
 split at h
 ·rename_i u w hu hw
  split at h
  ·rename_i c;cases h
   rw[hx.toV hu,hy.toV hw]
   exact⟨c,q _ H F (.refl s) (by simp only[Rp];rfl)⟩
  ·cases h
 ·cases h
theorem b3d:OpOk K cl rNe (z8 true):=by
 intro x y d e z H F Q s hx hy h q
 unfold z8 at h
 split at h
 ·rename_i u w hu hw
  split at h
  ·rename_i c;cases h
   rw[hx.toV hu,hy.toV hw]
   exact⟨c,q _ H F (.refl s) (by simp only[Rp];rfl)⟩
  ·cases h
 ·cases h
@[simp] theorem a98(neg:Bool)(a b:Int):z8 neg (.int a) (.int b)=some (.bl (if neg then !decide (a=b)else decide (a=b))):=by
 unfold z8 toV
 simp only[a3s,if_true,V.int.injEq]
@[simp] theorem a99(neg:Bool)(a b:Str):z8 neg (.str a) (.str b)=some (.bl (if neg then !decide (a=b)else decide (a=b))):=by
 unfold z8 toV
 simp only[a3s,if_true,V.str.injEq]
def J0(neg:Bool)(d e:D):Option D:=match d,e with
 | .non,.non=>some (.bl (!neg))
 | _,.non=>some (.bl neg)
 | _,_=>none
theorem Rb.notNon{d:D}{v:V}(h:Rb K cl F H d v)(n:d≠.non):v≠.non:=by
 rcases h with h | ⟨_,_,_,rfl,_⟩
 ·cases d<;>simp only[Rp]at h
  ·exact absurd rfl n
  all_goals first | (rw[h];intro z;cases z) | (obtain⟨_,_,rfl,_⟩:=h;intro z;cases z) | (obtain⟨_,rfl,_⟩:=h;intro z;cases z) | (obtain⟨_,_,_,rfl,_⟩:=h;intro z;cases z)
 ·intro z;cases z
theorem a6M:OpOk K cl (fun x y H Q=>y=.non∧Q (.bl (decide (x=.non))) H) (J0 false):=by
 intro x y d e z H F Q s hx hy h q
 unfold J0 at h
 split at h
 ·cases h;rw[hx.non];exact⟨hy.non,q _ H F (.refl s) (by simp[Rp])⟩
 ·rename_i n;cases h
  exact⟨hy.non,q _ H F (.refl s) (by simp only[Rp];rw[decide_eq_false (hx.notNon n)])⟩
 ·cases h
theorem a9_:OpOk K cl (fun x y H Q=>y=.non∧Q (.bl (!decide (x=.non))) H) (J0 true):=by
 intro x y d e z H F Q s hx hy h q
 unfold J0 at h
 split at h
 ·cases h;rw[hx.non];exact⟨hy.non,q _ H F (.refl s) (by simp[Rp])⟩
 ·rename_i n;cases h
  exact⟨hy.non,q _ H F (.refl s) (by simp only[Rp];rw[decide_eq_false (hx.notNon n)];rfl)⟩
 ·cases h
theorem Rps.atI{ds:List D}{xs:List V}{i:Int}{d:D}(h:Rps K cl F ds xs)(e:atI ds i=some d):∃v,L2.atI xs i=some v∧Rp K cl F d v:=by
 unfold L2.atI at e ⊢
 rw[← h.length]
 cases q:D6 ds.length i with
 | none=>rw[q]at e;cases e
 | some j=>rw[q]at e;exact h.get e
def A9(d e:D):Option D:=match d,e with
 | .lst ds,.int i=>atI ds i
 | .scr ns,.int i=>(atI ns i).map .int
 | _,_=>none
def A0(d e:D):Option D:=match d,e with
 | .tup ds,.int i=>atI ds i
 | _,_=>none
theorem b0a{α β:Type}(f:α→β)(xs:List α)(i:Int):atI (xs.map f) i=(atI xs i).map f:=by
 unfold L2.atI
 rw[List.length_map]
 cases D6 xs.length i with
 | none=>rfl
 | some j=>simp
theorem G3:OpOk K cl (a3u K) A9:=by
 intro x y d e z H F Q s hx hy h q
 unfold A9 at h
 split at h
 ·obtain⟨a,xs,rfl,hH,r⟩:=hx.lst s
  obtain⟨v,e,p⟩:=r.atI h
  exact⟨a,xs,_,v,rfl,hy.int,.of hH,e,q v H F (.refl s) p⟩
 ·rename_i ns i
  obtain⟨a,rfl,hS⟩:=hx.scr s
  cases hz:atI ns i with
  | none=>rw[hz]at h;cases h
  | some n =>
   rw[hz]at h;cases h
   exact⟨a,_,_,.int n,rfl,hy.int,hS.seq,by rw[b0a,hz];rfl,q _ H F (.refl s) (by simp only[Rp])⟩
 ·cases h
theorem K0:OpOk K cl (a7L K) A0:=by
 intro x y d e z H F Q s hx hy h q
 unfold A0 at h
 split at h
 ·obtain⟨a,xs,rfl,hH,r⟩:=hx.tup s
  obtain⟨v,e,p⟩:=r.atI h
  exact⟨a,xs,_,v,rfl,hy.int,.of hH,e,q v H F (.refl s) p⟩
 ·cases h
def O4:D→D→Bool
 | .non,.non=>true
 | .bl a,.bl b=>a == b
 | .bl a,.int b=>(if a then 1 else 0) == b
 | .int a,.bl b=>a == (if b then 1 else 0)
 | .int a,.int b=>a == b
 | .str a,.str b=>a == b
 | _,_=>false
def a5I:List D→List D→Bool
 | [],[]=>true
 | x::xs,y::ys=>O4 x y && a5I xs ys
 | _,_=>false
def j0:D→Bool
 | .non=>true
 | .bl _=>true
 | .int _=>true
 | .str _=>true
 | _=>false
theorem Rp.flat{d:D}{v:V}(h:Rp K cl F d v)(f:j0 d=true):toV d=some v∧N1 v=true:=by
 cases d<;>simp only[Rp]at h<;>first | (subst h;exact⟨rfl,rfl⟩) | cases f
theorem Rps.flat:∀{ds:List D} {vs:List V},Rps K cl F ds vs→ds.all j0=true→vs.all N1=true
 | [],_,h,_=>by rw[h.inv0];rfl
 | d::ds,_,h,f=>by
  obtain⟨v,r,rfl,h1,h2⟩:=h.inv
  rw[List.all_cons,Bool.and_eq_true]at f
  rw[List.all_cons,(h1.flat f.1).2,h2.flat f.2];rfl
theorem Rp.eq{d e:D}{v u:V}(h:Rp K cl F d v)(g:Rp K cl F e u)(fd:j0 d=true)(fe:j0 e=true):eqV v u=O4 d e:=by
 have h1:=(h.flat fd).1
 have h2:=(g.flat fe).1
 cases d<;>cases e<;>first | (cases h1;cases h2;rfl) | (cases fd;done) | (cases fe;done)
theorem Rps.eq:∀{ds es:List D} {vs us:List V},Rps K cl F ds vs→Rps K cl F es us→ds.all j0=true→es.all j0=true→a7U vs us=a5I ds es
 | [],[],_,_,h,g,_,_=>by rw[h.inv0,g.inv0];rfl
 | [],_::_,_,_,h,g,_,_=>by rw[h.inv0];obtain⟨_,_,rfl,_,_⟩:=g.inv;rfl
 | _::_,[],_,_,h,g,_,_=>by rw[g.inv0];obtain⟨_,_,rfl,_,_⟩:=h.inv;rfl
 | d::ds,e::es,_,_,h,g,fd,fe=>by
  obtain⟨v,r,rfl,h1,h2⟩:=h.inv
  obtain⟨u,r',rfl,g1,g2⟩:=g.inv
  rw[List.all_cons,Bool.and_eq_true]at fd fe
  unfold a7U a5I
  rw[h1.eq g1 fd.1 fe.1,h2.eq g2 fd.2 fe.2]
theorem Rps.rep{ds:List D}{xs:List V}(h:Rps K cl F ds xs):∀n:Nat,Rps K cl F (List.replicate n ds).flatten (List.replicate n xs).flatten
 | 0=>.nil
 | n+1=>by rw[List.replicate_succ,List.replicate_succ,List.flatten_cons,List.flatten_cons];exact h.append (h.rep n)
def a2q(d e:D):Option (List D):=match d,e with
 | .lst ds,.int k=>if -(2 ^ 63)≤k∧k<2 ^ 63∧ds.length*k.toNat≤sizeLine then some (List.replicate k.toNat ds).flatten else none
 | _,_=>none
theorem b2j:b2g K cl b1Y a2q:=by
 intro x y d e zs H F Q s hx hy h q
 unfold a2q at h
 split at h
 ·split at h
  ·rename_i ds k c;cases h
   obtain⟨a,xs,rfl,hH,r⟩:=hx.lst s
   exact⟨a,k,xs,rfl,hy.int,hH,c.1,c.2.1,by rw[← r.length];exact c.2.2,fun p hp=>q p _ hp (r.rep _)⟩
  ·cases h
 ·cases h
def A1:D→Option D
 | .lst ds=>some (.int ds.length)
 | .tup ds=>some (.int ds.length)
 | .scr ns=>some (.int ns.length)
 | _=>none
theorem G4:CbOk1 K cl (a4M K) A1:=by
 intro x d z H F Q s hx h q
 unfold A1 at h
 split at h
 ·cases h
  obtain⟨a,xs,rfl,hH,r⟩:=hx.lst s
  exact⟨a,xs,rfl,.inl (.of hH),q _ H F (.refl s) (by simp only[Rp];rw[r.length])⟩
 ·cases h
  obtain⟨a,xs,rfl,hH,r⟩:=hx.tup s
  exact⟨a,xs,rfl,.inr (.of hH),q _ H F (.refl s) (by simp only[Rp];rw[r.length])⟩
 ·cases h
  obtain⟨a,rfl,hS⟩:=hx.scr s
  exact⟨a,_,rfl,.inl hS.seq,q _ H F (.refl s) (by simp only[Rp];rw[List.length_map])⟩
 ·cases h
def a1L:D→Option D
 | .str z=>if z.length≤sizeLine then some (.int z.length)else none
 | _=>none
theorem b0b:CbOk1 K cl (fun xs H Q=>∃z,xs=[.str z]∧z.length≤sizeLine∧Q (.int z.length) H) a1L:=by
 intro x d z H F Q s hx h q
 unfold a1L at h
 split at h
 ·split at h
  ·rename_i y c;cases h;rw[hx.str];exact⟨y,rfl,c,q _ H F (.refl s) (by simp only[Rp])⟩
  ·cases h
 ·cases h
def S8:D→Option (List D)
 | .lst ds=>some ds
 | .tup ds=>some ds
 | .scr ns=>some (ns.map .int)
 | _=>none
theorem a4V:b2f K cl (a4N K) S8:=by
 intro x d zs H F Q s hx h q
 unfold S8 at h
 split at h
 ·cases h
  obtain⟨a,xs,rfl,hH,r⟩:=hx.lst s
  exact⟨a,xs,rfl,.inl (.of hH),fun p hp=>q p _ hp r⟩
 ·cases h
  obtain⟨a,xs,rfl,hH,r⟩:=hx.tup s
  exact⟨a,xs,rfl,.inr (.of hH),fun p hp=>q p _ hp r⟩
 ·cases h
  obtain⟨a,rfl,hS⟩:=hx.scr s
  exact⟨a,_,rfl,.inl hS.seq,fun p hp=>q p _ hp Rps.ofInts⟩
 ·cases h
end
inductive R1 where | ret (d:D) | own (ds:List D) | owz (dss:List (List D)) | owp (n:Int) (ds:List D) | ex (c:XN)
def i3(K:W.Frag)(cl:Str→Addr)(g:List D→Option R1):Sp:=fun vs H Q E=>∃ds F,Same F H∧Rps K cl F ds vs∧match g ds with
 | none=>False
 | some (.ret d)=>∀v H' F',Gr H F H' F'→Rp K cl F' d v→Q v H'
 | some (.own es)=>∀a xs H' F',Gr H F H' F'→H a=none→H' a=some (.lst xs)→F' a=none→Rps K cl F' es xs→Q (.ref a) H'
 | some (.owz dss)=>∀p as H' F',Gr H F H' F'→H p=none→H' p=some (.tup (as.map V.ref))→F' p=none→Rz K cl F' H' (fun a=>H a=none) dss as→Q (.ref p) H'
 | some (.owp n es)=>∀p a xs H' F',Gr H F H' F'→H p=none→H' p=some (.tup [.int n,.ref a])→F' p=none→H a=none→H' a=some (.lst xs)→F' a=none→Rps K cl F' es xs→Q (.ref p) H'
 | some (.ex c)=>∀H' F',Gr H F H' F'→∀cx,Xf K cl F' c cx→E (.ref (cl c.nm)) cx H'
def Y3(r:Option R1)(e:DE):Option (R D):=match r with
 | none=>none
 | some (.ret d)=>some (.ok d e)
 | some (.own ds)=>some (.ok (.lst ds) e)
 | some (.owz _)=>none
 | some (.owp _ _)=>none
 | some (.ex c)=>some (.ex c)
def Q3(r:Option R1)(e:DE):Option (R D):=match r with
 | some (.ret d)=>some (.ok d e)
 | some (.own ds)=>some (.ok (.lst ds) e)
 | _=>none
def D9(g:List D→Option R1)(f:AF):ZF:=fun e=>bnd (f e) fun ds e1=>Y3 (g ds) e1
def i7(g:List D→Option R1)(f:AF):ZF:=fun e=>bnd (f e) fun ds e1=>Q3 (g ds) e1
def put(i:Nat)(s:Sl)(e:DE):Option RS:=match e[i]? with
 | none=>none
 | some (.hd _)=>none
 | some _=>some (.nx (e.set i s))
def a1M(i:Nat)(r:Option R1)(e:DE):Option RS:=match r with
 | none=>none
 | some (.ret d)=>put i (.fz d) e
 | some (.own ds)=>put i (.ow ds) e
 | some (.owz _)=>none
 | some (.owp _ _)=>none
 | some (.ex c)=>some (.ex c)
def Q4(i:Nat)(r:Option R1)(e:DE):Option RS:=match r with
 | some (.ret d)=>put i (.fz d) e
 | some (.own ds)=>put i (.ow ds) e
 | _=>none
def a3d(r:Option R1):Option RS:=match r with
 | none=>none
 | some (.ret d)=>some (.rt d)
 | some (.own ds)=>some (.ro ds)
 | some (.owz dss)=>some (.rz dss)
 | some (.owp n ds)=>some (.rp n ds)
 | some (.ex c)=>some (.ex c)
def a6N(r:Option R1):Option RS:=match r with
 | some (.ret d)=>some (.rt d)
 | some (.own ds)=>some (.ro ds)
 | _=>none
def u0:SF:=fun e=>some (.nx e)
def g6(f k:SF):SF:=fun e=>match f e with
 | some (.nx e1)=>k e1
 | r=>r
def r8(i:Nat)(f:ZF):SF:=fun e=>C9 (f e) fun d e1=>put i (.fz d) e1
def A6(i:Nat)(f:NF):SF:=fun e=>C9 (f e) fun ds e1=>put i (.ow ds) e1
def a0x(i:Nat)(g:List D→Option R1)(f:AF):SF:=fun e=>C9 (f e) fun ds e1=>a1M i (g ds) e1
def x8(i:Nat)(g:List D→Option R1)(f:AF):SF:=fun e=>C9 (f e) fun ds e1=>Q4 i (g ds) e1
def j4(f:ZF):SF:=fun e=>C9 (f e) fun d _=>some (.rt d)
def a5J(f:NF):SF:=fun e=>C9 (f e) fun ds _=>some (.ro ds)
def K3(i:Nat):SF:=fun e=>match e[i]? with
 | some (.fz d)=>some (.rt d)
 | some (.ow ds)=>some (.ro ds)
 | _=>none
def u3(c:BF)(f k:SF):SF:=fun e=>C9 (c e) fun b e1=>if b=true then f e1 else k e1
def Y4(f:ZF):SF:=fun e=>C9 (f e) fun _ e1=>some (.nx e1)
def a3S(c:Str)(f:AF):SF:=fun e=>C9 (f e) fun ds _=>if ds.length≤sizeLine then some (.ex (.p c))else none
def a09(i:Nat)(f:ZF):SF:=fun e=>match look e i with
 | some (.lst _)=>C9 (f e) fun d e1=>match e1[i]? with
  | some (.ow ds)=>if ds.length<sizeLine then some (.nx (e1.set i (.ow (ds++[d]))))else none
  | _=>none
 | _=>none
def a5K(i:Nat)(k:ZF)(f:ZF):SF:=fun e=>C9 (f e) fun d e1=>match look e1 i with
 | none=>none
 | some _=>C9 (k e1) fun j e2=>match e2[i]?,j with
  | some (.ow ds),.int j=>match D6 ds.length j with
   | some n=>some (.nx (e2.set i (.ow (ds.set n d))))
   | none=>none
  | _,_=>none
section
variable {K:W.Frag}{cl:Str→Addr}{E:XK}{σ:St}{H F:Hp}{env:DE}
theorem Gr.fx{H' F':Hp}(g:Gr H F H' F'):FX σ H F env H' F':=⟨g.fz,g.sub,fun a o h f _=>g.hid a o h f,g.dom⟩
theorem a1N{g:List D→Option R1}{ds:List D}{vs:List V}{Q:VK}(R:Rel K cl σ H F env)(p:Rps K cl F ds vs)(h:Ct K cl E (PZ K cl) (Y3 (g ds) env) σ H F env Q):i3 K cl g (vs++[]) H Q E:=by
 rw[List.append_nil]
 refine⟨ds,F,R.sub,p,?_⟩
 unfold Y3 at h
 split at h
 ·exact h.elim
 ·exact fun v H' F' gr r=>h v H' F' (R.frm gr) (R.gr gr) r
 ·rename_i es _
  intro a xs H' F' gr ha hH hF r
  have sF:Same F' (upd F' a (.lst xs)):=M3 hF _
  have gr':Gr H F H' (upd F' a (.lst xs)):=by
   refine⟨gr.fz.trans sF,fun b o z=>?_,fun b o hb fb=>?_⟩
   ·by_cases y:b=a
    ·subst y;rw[i0]at z;cases z;exact hH
    ·rw[d5 y]at z;exact gr.sub _ _ z
   ·obtain⟨h1,f1⟩:=gr.hid b o hb fb
    have nb:b≠a:=fun z=>by rw[z,ha]at hb;cases hb
    exact⟨h1,by rw[d5 nb];exact f1⟩
  exact h _ H' _ (R.frm gr') (R.gr gr') (by show Rp K cl _ (.lst es) _;simp only[Rp];exact⟨a,xs,rfl,i0,r.mono sF⟩)
 ·exact h.elim
 ·exact h.elim
 ·exact fun H' F' gr=>h H' F' gr.fx
theorem a4W{r:Option R1}{e:DE}{P:Py D V}{Q:VK}(h:Ct K cl E P (Q3 r e) σ H F env Q):Y3 r e=Q3 r e∧∀c,r≠some (.ex c):=by
 unfold Q3 at h
 split at h
 ·exact⟨rfl,fun c z=>by cases z⟩
 ·exact⟨rfl,fun c z=>by cases z⟩
 ·exact h.elim
theorem a2r{g:List D→Option R1}{t:TA}{f:AF}(hf:L8 K cl E t f):k6 K cl E (O9 (i3 K cl g) [] E t) (D9 g f):=by
 intro σ H Q env F R h
 refine hf σ H _ env F R ((Ct.bnd h B4).mono fun vs H1 ⟨F1,e1,ds,s1,R1,p1,h1⟩=>a1N R1 p1 h1)
theorem n8{g:List D→Option R1}{t:TA}{f:AF}(hf:L8 K cl E t f):k6 K cl E (O9 (i3 K cl g) [] E0 t) (i7 g f):=by
 intro σ H Q env F R h
 refine hf σ H _ env F R ((Ct.bnd h B4).mono fun vs H1 ⟨F1,e1,ds,s1,R1,p1,h1⟩=>?_)
 refine a1N R1 p1 ?_
 obtain⟨z,n⟩:=a4W h1
 rw[z]
 unfold Ct at h1 ⊢
 split at h1
 ·exact h1
 ·exact h1
 ·rename_i c q
  exact absurd q (by unfold Q3;split<;>intro y<;>cases y)
theorem t9:RfS K cl E a84 u0:=fun N σ H env F R h=>h σ H F Frm.refl R
theorem h9{t u:TS}{f k:SF}(hf:RfS K cl E t f)(hk:RfS K cl E u k):RfS K cl E (b1z t u) (g6 f k):=by
 intro N σ H env F R h
 refine hf _ σ H env F R ?_
 unfold g6 at h
 split at h
 ·rename_i e1 q
  rw[q]
  intro σ' H' F' fr R'
  exact hk N σ' H' e1 F' R' (h.from fr)
 ·rename_i n
  unfold Cs at h ⊢
  split at h
  ·exact h
  ·rename_i e q;exact absurd q (n e)
  all_goals exact h
theorem Q5{i:Nat}{s:Sl}{e:DE}{N:Ends}{σ0:St}{H0 F0:Hp}{env0:DE}(h:Cs K cl E (put i s e) σ0 H0 F0 env0 N):i<e.length∧(∀ds,e[i]?≠some (.hd ds))∧Cs K cl E (some (.nx (e.set i s))) σ0 H0 F0 env0 N:=by
 unfold put at h
 split at h
 ·exact h.elim
 ·exact h.elim
 ·rename_i z n q
  exact⟨(List.getElem?_eq_some_iff.mp q).1,fun ds y=>by rw[q]at y;cases y;exact n ds rfl,h⟩
theorem z0{i:Nat}{t:TE}{f:ZF}(hf:k6 K cl E t f):RfS K cl E (V7 t (S3 i)) (r8 i f):=by
 intro N σ H env F R h
 refine hf σ H _ env F R ((Cs.bnd h).mono fun x H1 ⟨F1,e1,d,fr,R1,p1,h1⟩=>?_)
 obtain⟨hi,nh,h2⟩:=Q5 h1
 exact h2 _ H1 F1 (fr.trans (Frm.put nh)) (R1.put hi nh p1)
theorem P7{i:Nat}{t:TE}{f:NF}(hf:RfN K cl E t f):RfS K cl E (V7 t (S3 i)) (A6 i f):=by
 intro N σ H env F R h
 refine hf σ H _ env F R ((Cs.bnd h).mono fun x H1 ⟨F1,e1,ds,fr,R1,p1,h1⟩=>?_)
 obtain⟨a,xs,rfl,hn,hH,hF,nm,r⟩:=p1
 obtain⟨hi,nh,h2⟩:=Q5 h1
 exact h2 _ H1 F1 (fr.putO hn nh) (R1.putO hi hH hF nm r)
theorem j5{t:TE}{f:ZF}(hf:k6 K cl E t f):RfS K cl E (a5i t) (j4 f):=by
 intro N σ H env F R h
 exact hf σ H _ env F R ((Cs.bnd h).mono fun x H1 ⟨F1,e1,d,fr,R1,p1,h1⟩=>h1 x H1 F1 (fr.toFX R1.sub) p1)
theorem b0c{t:TE}{f:NF}(hf:RfN K cl E t f):RfS K cl E (a5i t) (a5J f):=by
 intro N σ H env F R h
 refine hf σ H _ env F R ((Cs.bnd h).mono fun x H1 ⟨F1,e1,ds,fr,R1,p1,h1⟩=>?_)
 obtain⟨a,xs,rfl,hn,hH,hF,nm,r⟩:=p1
 exact h1 a xs H1 F1 (fr.toFX R1.sub) hH hF (fun o e=>by rw[hn]at e;cases e) r
theorem a0y{i:Nat}:RfS K cl E (a5i (D1 i)) (K3 i):=by
 intro N σ H env F R h
 unfold K3 at h
 split at h
 ·rename_i d q
  obtain⟨v,e,r⟩:=R.fz i d q
  exact⟨v,e,h v H F (Frm.refl.toFX R.sub) r⟩
 ·rename_i ds q
  obtain⟨a,xs,e,hH,hF,r⟩:=R.mu i ds (.inl q)
  exact⟨_,e,h a xs H F (Frm.refl.toFX R.sub) hH hF (fun o _=>⟨i,.ow ds,True.intro,q,e⟩) r⟩
 ·exact h.elim
theorem n5{c:TT}{t u:TS}{b:BF}{f k:SF}(hc:L9 K cl E c b)(hf:RfS K cl E t f)(hk:RfS K cl E u k):RfS K cl E (b1A c t u) (u3 b f k):=by
 intro N σ H env F R h
 refine hc σ H _ env F R ((Cs.bnd h).mono fun x H1 ⟨F1,e1,d,fr,R1,p1,h1⟩=>?_)
 cases (show x=d from p1)
 by_cases z:x=true
 ·rw[if_pos z]at h1 ⊢;exact hf N σ H1 e1 F1 R1 (h1.from fr)
 ·rw[if_neg z]at h1 ⊢;exact hk N σ H1 e1 F1 R1 (h1.from fr)
theorem a9p{t:TE}{f:ZF}(hf:k6 K cl E t f):RfS K cl E (a5h t) (Y4 f):=by
 intro N σ H env F R h
 exact hf σ H _ env F R ((Cs.bnd h).mono fun x H1 ⟨F1,e1,d,fr,R1,p1,h1⟩=>h1 σ H1 F1 fr R1)
theorem a8d{c:Str}{t:TA}{f:AF}(hf:L8 K cl E t f):RfS K cl E (a6l (cl c) E t) (a3S c f):=by
 intro N σ H env F R h
 refine hf σ H _ env F R ((Cs.bnd h).mono fun xs H1 ⟨F1,e1,ds,fr,R1,p1,h1⟩=>?_)
 have hl:ds.length=xs.length:=Rps.length p1
 split at h1
 ·rename_i z
  exact⟨by rw[← hl];exact z,h1 H1 F1 (fr.toFX R1.sub) none rfl⟩
 ·exact h1.elim
theorem b0d{i:Nat}{g:List D→Option R1}{t:TA}{f:AF}(hf:L8 K cl E t f):RfS K cl E (V7 (O9 (i3 K cl g) [] E t) (S3 i)) (a0x i g f):=by
 intro N σ H env F R h
 refine hf σ H _ env F R ((Cs.bnd h).mono fun vs H1 ⟨F1,e1,ds,fr,R1,p1,h1⟩=>?_)
 show i3 K cl g (vs++[]) H1 _ E
 rw[List.append_nil]
 refine⟨ds,F1,R1.sub,p1,?_⟩
 unfold a1M at h1
 split at h1
 ·exact h1.elim
 ·obtain⟨hi,nh,h2⟩:=Q5 h1
  exact fun v H' F' gr r=>h2 _ H' F' ((fr.trans (R1.frm gr)).trans (Frm.put nh)) ((R1.gr gr).put hi nh r)
 ·obtain⟨hi,nh,h2⟩:=Q5 h1
  intro a xs H' F' gr ha hH hF r
  refine h2 _ H' F' ((fr.trans (R1.frm gr)).putO (fr.dom a ha) nh) ((R1.gr gr).putO hi hH hF (fun j mj e=>?_) r)
  obtain⟨es,q⟩:=mj
  obtain⟨b,ys,e',hb,_⟩:=R1.mu j es q
  rw[e]at e';cases e'
  rw[ha]at hb;cases hb
 ·exact h1.elim
 ·exact h1.elim
 ·exact fun H' F' gr=>h1 H' F' (fr.fx gr.fx)
theorem a0_{i:Nat}{g:List D→Option R1}{t:TA}{f:AF}(hf:L8 K cl E t f):RfS K cl E (V7 (O9 (i3 K cl g) [] E0 t) (S3 i)) (x8 i g f):=by
 intro N σ H env F R h
 refine hf σ H _ env F R ((Cs.bnd h).mono fun vs H1 ⟨F1,e1,ds,fr,R1,p1,h1⟩=>?_)
 show i3 K cl g (vs++[]) H1 _ E0
 rw[List.append_nil]
 refine⟨ds,F1,R1.sub,p1,?_⟩
 unfold Q4 at h1
 split at h1
 ·rename_i q;rw[q]
  obtain⟨hi,nh,h2⟩:=Q5 h1
  exact fun v H' F' gr r=>h2 _ H' F' ((fr.trans (R1.frm gr)).trans (Frm.put nh)) ((R1.gr gr).put hi nh r)
 ·rename_i q;rw[q]
  obtain⟨hi,nh,h2⟩:=Q5 h1
  intro a xs H' F' gr ha hH hF r
  refine h2 _ H' F' ((fr.trans (R1.frm gr)).putO (fr.dom a ha) nh) ((R1.gr gr).putO hi hH hF (fun j mj e=>?_) r)
  obtain⟨es,q⟩:=mj
  obtain⟨b,ys,e',hb,_⟩:=R1.mu j es q
  rw[e]at e';cases e'
  rw[ha]at hb;cases hb
 ·exact h1.elim
theorem Rel.change{i:Nat}{ds es:List D}{a:Addr}{ys:List V}(R:Rel K cl σ H F env)(h:env[i]? = some (.ow ds))(e:σ[i]? = some (some (.ref a)))(r:Rps K cl F es ys) :
  Rel K cl σ (upd H a (.lst ys)) F (env.set i (.ow es))∧Frm σ H F env σ (upd H a (.lst ys)) F (env.set i (.ow es)):=by
 obtain⟨a',xs,e',hH,hF,_⟩:=R.mu i ds (.inl h)
 rw[e]at e';cases e'
 have hi:i<env.length:=(List.getElem?_eq_some_iff.mp h).1
 have self:(env.set i (.ow es))[i]? = some (.ow es):=List.getElem?_set_self hi
 have oth:∀j,j≠i→(env.set i (.ow es))[j]? = env[j]?:=fun j hj=>List.getElem?_set_ne (Ne.symm hj)
 have mui:∀j,Mu (env.set i (.ow es)) j→Mu env j:=fun j ⟨fs,q⟩=>by
  by_cases z:j=i
  ·subst z;exact⟨ds,.inl h⟩
  ·rw[oth j z]at q;exact⟨fs,q⟩
 refine⟨⟨fun b o q=>?_,by rw[List.length_set];exact R.len,fun j d q=>?_,fun j fs q=>?_,fun j k b hj hk=>R.inj j k b (mui j hj) (mui k hk),(R.od.updL hH).setE W2⟩,⟨Same.refl _,fun b o hb fb w=>?_,fun j fs q=>?_,fun b q=>?_⟩⟩
 ·have z:b≠a:=fun z=>by rw[z,hF]at q;cases q
  rw[d5 z];exact R.sub _ _ q
 ·have z:j≠i:=fun z=>by subst z;rw[self]at q;cases q
  rw[oth j z]at q;exact R.fz j d q
 ·by_cases z:j=i
  ·subst z
   rw[self]at q
   rcases q with q | q
   ·cases q;exact⟨a,ys,e,i0,hF,r⟩
   ·cases q
  ·rw[oth j z]at q
   obtain⟨b,zs,e1,h1,f1,r1⟩:=R.mu j fs q
   have nb:b≠a:=fun y=>z (R.inj j i b ⟨fs,q⟩ ⟨ds,.inl h⟩ e1 (by rw[y];exact e))
   exact⟨b,zs,e1,by rw[d5 nb];exact h1,f1,r1⟩
 ·have z:b≠a:=fun z=>w ⟨i,.ow ds,True.intro,h,by rw[z];exact e⟩
  refine⟨by rw[d5 z];exact hb,fb,fun⟨j,fs,oo,q,e1⟩=>?_⟩
  by_cases y:j=i
  ·subst y;rw[e]at e1;cases e1;exact z rfl
  ·rw[oth j y]at q;exact w ⟨j,fs,oo,q,e1⟩
 ·have z:j≠i:=fun z=>by subst z;rw[h]at q;cases q
  exact⟨by rw[oth j z];exact q,rfl⟩
 ·by_cases z:b=a
  ·rw[z,i0]at q;cases q
  ·rw[d5 z]at q;exact q
theorem a6O{i:Nat}{t:TE}{f:ZF}(hf:k6 K cl E t f):RfS K cl E (a5h (tBM K "list" a4H (D1 i) (F5 t Q0))) (a09 i f):=by
 intro N σ H env F R h
 unfold a09 at h
 split at h
 ·rename_i ds0 q
  obtain⟨x,e0,rb⟩:=R.look q
  obtain⟨a0,xs0,rfl,hH0,_⟩:=rb.lst R.sub
  refine⟨_,e0,.inl ⟨rfl,xs0,.of hH0⟩,?_⟩
  ·refine hf σ H _ env F R ((Cs.bnd h).mono fun y H1 ⟨F1,e1,d,fr,R1,p1,h1⟩=>?_)
   split at h1
   ·rename_i ds q1
    split at h1
    ·rename_i c
     obtain⟨a,xs,e,hH,hF,r⟩:=R1.mu i ds (.inl q1)
     rw[e0]at e;cases e
     obtain⟨R2,f2⟩:=R1.change q1 e0 (r.append (.one p1))
     exact⟨_,xs,y,rfl,rfl,hH,by rw[← r.length];exact c,h1 σ _ F1 (fr.trans f2) R2⟩
    ·exact h1.elim
   ·exact h1.elim
 ·exact h.elim
theorem b2k{i:Nat}{t u:TE}{f k:ZF}(hf:k6 K cl E t f)(hk:k6 K cl E u k):RfS K cl E (V7 t (b1D (D1 i) u a5u)) (a5K i k f):=by
 intro N σ H env F R h
 refine hf σ H _ env F R ((Cs.bnd h).mono fun x H1 ⟨F1,e1,d,fr,R1,p1,h1⟩=>?_)
 cases q:look e1 i with
 | none=>simp only[q]at h1;exact h1.elim
 | some d0 =>
  simp only[q]at h1
  obtain⟨o,e0,_⟩:=R1.look q
  refine⟨o,e0,hk σ H1 _ e1 F1 R1 ((Cs.bnd (h1.from fr)).mono fun y H2 ⟨F2,e2,j,fr2,R2,p2,h2⟩=>?_)⟩
  split at h2
  ·rename_i _ _ ds j q2
   split at h2
   ·rename_i n hn
    obtain⟨a,xs,e,hH,hF,r⟩:=R2.mu i ds (.inl q2)
    rw[e0]at e;cases e
    obtain⟨R3,f3⟩:=R2.change q2 e0 (r.set (Rp.mono fr2.fz _ _ p1) n)
    have hy:y=.int j:=by have:=(show Rp K cl F2 (.int j) y from p2);simpa only[Rp]using this
    exact⟨a,xs,j,n,rfl,hy,hH,by rw[← r.length];exact hn,h2 σ _ F2 (fr2.trans f3) R3⟩
   ·exact h2.elim
  ·exact h2.elim
end
abbrev GF:=D→DE→Option DE
def g8(i:Nat):GF:=fun d e=>match e[i]? with
 | none=>none
 | some (.hd _)=>none
 | some _=>some (e.set i (.fz d))
def W8:List GF→List D→DE→Option DE
 | [],[],e=>some e
 | b::bs,d::ds,e=>match b d e with
  | none=>none
  | some e1=>W8 bs ds e1
 | _,_,_=>none
def t4(bs:List GF):GF:=fun d e=>match d with
 | .tup ds=>W8 bs ds e
 | _=>none
section
variable (K:W.Frag)(cl:Str→Addr)
def O5(k:Nat)(g:TG)(b:GF):Prop:=∀v σ H Q d env env' F,Rel K cl σ H F env→Rp K cl F d v→b d env=some env'→(∀σ',σ'.drop k=σ.drop k→σ'.length=σ.length→Frm σ H F env σ' H F env'→Rel K cl σ' H F env'→Q σ' H)→g v σ H Q
def a5L(k:Nat)(t:Y9)(bs:List GF):Prop:=∀vs σ H Q ds env env' F,Rel K cl σ H F env→Rps K cl F ds vs→W8 bs ds env=some env'→(∀σ',σ'.drop k=σ.drop k→σ'.length=σ.length→Frm σ H F env σ' H F env'→Rel K cl σ' H F env'→Q σ' H)→t vs σ H Q
end
section
variable {K:W.Frag}{cl:Str→Addr}{E:XK}{σ:St}{H F:Hp}{env:DE}{k:Nat}
theorem a8e{α:Type}{l:List α}{i k:Nat}{x:α}(h:i<k):(l.set i x).drop k=l.drop k:=by
 apply List.ext_getElem?
 intro j
 rw[List.getElem?_drop,List.getElem?_drop,List.getElem?_set_ne (by omega)]
theorem v9{i:Nat}(hi:i<k):O5 K cl k (S3 i) (g8 i):=by
 intro v σ H Q d env env' F R p h q
 unfold g8 at h
 split at h
 ·cases h
 ·cases h
 ·rename_i z n e
  cases h
  have nh:∀ds,env[i]?≠some (.hd ds):=fun ds y=>by rw[e]at y;cases y;exact n ds rfl
  exact q _ (a8e hi) List.length_set (Frm.put nh) (R.put (List.getElem?_eq_some_iff.mp e).1 nh p)
theorem a0z:a5L K cl k b1B []:=by
 intro vs σ H Q ds env env' F R p h q
 cases ds with
 | nil=>cases h;exact⟨p.inv0,q σ rfl rfl Frm.refl R⟩
 | cons _ _=>cases h
theorem C3{t:TG}{u:Y9}{b:GF}{bs:List GF}(h1:O5 K cl k t b)(h2:a5L K cl k u bs):a5L K cl k (a86 t u) (b::bs):=by
 intro vs σ H Q ds env env' F R p h q
 cases ds with
 | nil=>cases h
 | cons d ds =>
  obtain⟨v,r,rfl,p1,p2⟩:=p.inv
  unfold W8 at h
  split at h
  ·cases h
  ·rename_i e1 hb
   refine⟨v,r,rfl,h1 v σ H _ d env e1 F R p1 hb fun σ1 d1 l1 f1 R1=>?_⟩
   exact h2 r σ1 H _ ds e1 env' F R1 p2 h fun σ2 d2 l2 f2 R2=>q σ2 (d2.trans d1) (l2.trans l1) (f1.trans f2) R2
theorem a2Q:∀{bs:List GF} {ds:List D} {e e':DE},W8 bs ds e=some e'→ds.length=bs.length
 | [],[],_,_,_=>rfl
 | [],_::_,_,_,h=>by cases h
 | _::_,[],_,_,h=>by cases h
 | b::bs,d::ds,e,e',h=>by
  unfold W8 at h
  split at h
  ·cases h
  ·simp[a2Q h]
theorem a0A{t:Y9}{bs:List GF}{n:Nat}(h:a5L K cl k t bs)(hn:bs.length=n):O5 K cl k (a7D K n t) (t4 bs):=by
 intro v σ H Q d env env' F R p e q
 unfold t4 at e
 split at e
 ·rename_i ds
  simp only[Rp]at p
  obtain⟨a,xs,rfl,hF,r⟩:=p
  exact⟨a,xs,rfl,.of (R.sub _ _ hF),by rw[← r.length,a2Q e,hn],h xs σ H Q ds env env' F R r e q⟩
 ·cases e
def a5M(f:ZF)(b:GF):SF:=fun e=>C9 (f e) fun d e1=>match b d e1 with
 | none=>none
 | some e2=>some (.nx e2)
theorem b2l{t:TE}{g:TG}{f:ZF}{b:GF}(hf:k6 K cl E t f)(hg:O5 K cl k g b):RfS K cl E (V7 t g) (a5M f b):=by
 intro N σ H env F R h
 refine hf σ H _ env F R ((Cs.bnd h).mono fun x H1 ⟨F1,e1,d,fr,R1,p1,h1⟩=>?_)
 split at h1
 ·exact h1.elim
 ·rename_i e2 hb
  exact hg x σ H1 _ d e1 e2 F1 R1 p1 hb fun σ' _ _ f2 R2=>h1 σ' H1 F1 (fr.trans f2) R2
def m9(b:GF)(body:SF):List D→DE→Option RS
 | [],e=>some (.nx e)
 | d::ds,e=>match b d e with
  | none=>none
  | some e1=>match body e1 with
   | some (.nx e2)=>m9 b body ds e2
   | some (.ct e2)=>m9 b body ds e2
   | some (.bk e2)=>some (.nx e2)
   | r=>r
theorem a1a{b:GF}{body:SF}{g:TG}{tb:TS}{d:D}{x:V}{ds:List D}{e1:DE}{N:Ends}{σ1:St}{H1 F1:Hp}{Pv:St→Hp→Prop}(hb:RfS K cl E tb body)(hg:O5 K cl k g b)
  (f1:Frm σ H F env σ1 H1 F1 e1) (R1:Rel K cl σ1 H1 F1 e1) (p:Rp K cl F1 d x) (h:Cs K cl E (m9 b body (d::ds) e1) σ H F env N)
  (hP:∀σ' H' F' e',Frm σ H F env σ' H' F' e'→Rel K cl σ' H' F' e'→Cs K cl E (m9 b body ds e') σ H F env N→Pv σ' H') :
  g x σ1 H1 fun σ2 H2=>tb { N with nx:=Pv,ct:=Pv,bk:=N.nx } σ2 H2:=by
 unfold m9 at h
 split at h
 ·exact h.elim
 ·rename_i e2 hbd
  refine hg x σ1 H1 _ d e1 e2 F1 R1 p hbd fun σ2 _ _ f2 R2=>?_
  refine hb _ σ2 H1 e2 F1 R2 ?_
  split at h
  ·rename_i e3 q;rw[q]
   exact fun σ' H' F' f3 R3=>hP σ' H' F' e3 ((f1.trans f2).trans f3) R3 h
  ·rename_i e3 q;rw[q]
   exact fun σ' H' F' f3 R3=>hP σ' H' F' e3 ((f1.trans f2).trans f3) R3 h
  ·rename_i e3 q;rw[q]
   exact fun σ' H' F' f3 R3=>h σ' H' F' ((f1.trans f2).trans f3) R3
  ·rename_i n1 n2 n3
   have h2:=h.from (f1.trans f2)
   unfold Cs at h2 ⊢
   split at h2
   ·exact h2
   ·rename_i e q;exact absurd q (n1 e)
   ·rename_i e q;exact absurd q (n3 e)
   ·rename_i e q;exact absurd q (n2 e)
   ·exact h2
   ·exact h2
   ·exact h2
   ·exact h2
   ·exact h2
theorem N6{α:Type}{l:List α}{i:Nat}{x:α}(h:l[i]? = some x):l.drop i=x::l.drop (i+1):=by
 obtain⟨hi,e⟩:=List.getElem?_eq_some_iff.mp h
 rw[← e];exact List.drop_eq_getElem_cons hi
theorem b3Z{b:GF}{body:SF}{g:TG}{tb:TS}{ds:List D}{xs:List V}{a:Addr}{N:Ends}(hb:RfS K cl E tb body)(hg:O5 K cl k g b)(R:Rel K cl σ H F env)
  (hl:∀σ' H' F' e',Frm σ H F env σ' H' F' e'→Rel K cl σ' H' F' e'→SqL K H' a xs) (r:Rps K cl F ds xs) (h:Cs K cl E (m9 b body ds env) σ H F env N) :
  ∃W:Nat→Nat→St→Hp→Prop,(∃m,W 0 m σ H)∧∀i m σ H,W i m σ H →
   ((Itl K a).stop i H∧N.nx σ H)∨((Itl K a).go i H∧∃M:St→Hp→Prop,(∀σ' H',M σ' H'→∃m',m'<m∧W (i+1) m' σ' H')∧∀x H',(Itl K a).yld i H x H'→g x σ H' fun σ2 H2=>tb { N with nx:=M,ct:=M,bk:=N.nx } σ2 H2):=by
 refine a7F (xs:=xs) (fun i σ' H'=>∃F' e',Frm σ H F env σ' H' F' e'∧Rel K cl σ' H' F' e'∧Cs K cl E (m9 b body (ds.drop i) e') σ H F env N) ⟨F,env,Frm.refl,R,h⟩ (fun i σ' H' _ ⟨F',e',f,R',_⟩=>hl σ' H' F' e' f R') (fun i x σ' H' hx ⟨F',e',f,R',h'⟩=>?_) (fun σ' H' ⟨F',e',f,R',h'⟩=>?_)
 ·obtain⟨d,hd,p⟩:=r.get' hx
  rw[N6 hd]at h'
  exact a1a hb hg f R' (Rp.mono f.fz _ _ p) h' fun σ2 H2 F2 e2 f2 R2 h2=>⟨F2,e2,f2,R2,h2⟩
 ·rw[← r.length,List.drop_length]at h'
  exact h' σ' H' F' f R'
def seqL:D→Option (List D)
 | .lst ds=>some ds
 | .scr ns=>some (ns.map .int)
 | _=>none
theorem Rp.seqL{d:D}{ds:List D}{v:V}(p:Rp K cl F d v)(s:L2.seqL d=some ds):∃a xs,v=.ref a∧Rps K cl F ds xs∧∀H',Same F H'→SqL K H' a xs:=by
 unfold L2.seqL at s
 split at s
 ·cases s;simp only[Rp]at p
  obtain⟨a,xs,e,h,r⟩:=p
  exact⟨a,xs,e,r,fun H' g=>.of (g _ _ h)⟩
 ·cases s;simp only[Rp]at p
  obtain⟨a,e,h⟩:=p
  exact⟨a,_,e,Rps.ofInts,fun H' g=>(h.same g).seq⟩
 ·cases s
def a3T(f:ZF)(b:GF)(body:SF):SF:=fun e=>C9 (f e) fun d e1=>match seqL d with
 | none=>none
 | some ds=>m9 b body ds e1
theorem b2m{t:TE}{g:TG}{tb:TS}{f:ZF}{b:GF}{body:SF}(hf:k6 K cl E t f)(hg:O5 K cl k g b)(hb:RfS K cl E tb body):RfS K cl E (a5l (a5k K t) g tb) (a3T f b body):=by
 intro N σ H env F R h
 refine hf σ H _ env F R ((Cs.bnd h).mono fun x H1 ⟨F1,e1,d,fr,R1,p1,h1⟩=>?_)
 split at h1
 ·exact h1.elim
 ·rename_i ds hs
  obtain⟨a,xs,rfl,r,hl⟩:=Rp.seqL p1 hs
  exact⟨a,rfl,⟨xs,hl H1 R1.sub⟩,b3Z hb hg R1 (fun σ' H' F' e' f2 R2=>hl H' (f2.fz.trans R2.sub)) r (h1.from fr)⟩
def O0(lo:Int)(n:Nat):List D:=(List.range n).map fun(i:Nat)=>.int (lo+(i:Int))
theorem a6P{lo:Int}{n i:Nat}(h:i<n):(O0 lo n).drop i=.int (lo+i)::(O0 lo n).drop (i+1):=N6 (by unfold O0;rw[List.getElem?_map,List.getElem?_range h];rfl)
theorem a8f{lo:Int}{n:Nat}:(O0 lo n).length=n:=by unfold O0;rw[List.length_map,List.length_range]
theorem b30{b:GF}{body:SF}{g:TG}{tb:TS}{lo:Int}{n:Nat}{N:Ends}(hb:RfS K cl E tb body)(hg:O5 K cl k g b)(R:Rel K cl σ H F env)(h:Cs K cl E (m9 b body (O0 lo n) env) σ H F env N) :
  ∃W:Nat→Nat→St→Hp→Prop,(∃m,W 0 m σ H)∧∀i m σ H,W i m σ H →
   ((Itr lo n).stop i H∧N.nx σ H)∨((Itr lo n).go i H∧∃M:St→Hp→Prop,(∀σ' H',M σ' H'→∃m',m'<m∧W (i+1) m' σ' H')∧∀x H',(Itr lo n).yld i H x H'→g x σ H' fun σ2 H2=>tb { N with nx:=M,ct:=M,bk:=N.nx } σ2 H2):=by
 refine a59 (fun i σ' H'=>∃F' e',Frm σ H F env σ' H' F' e'∧Rel K cl σ' H' F' e'∧Cs K cl E (m9 b body ((O0 lo n).drop i) e') σ H F env N) ⟨F,env,Frm.refl,R,h⟩ (fun i σ' H' hx ⟨F',e',f,R',h'⟩=>?_) (fun σ' H' ⟨F',e',f,R',h'⟩=>?_)
 ·rw[a6P hx]at h'
  exact a1a hb hg f R' (by simp only[Rp]) h' fun σ2 H2 F2 e2 f2 R2 h2=>⟨F2,e2,f2,R2,h2⟩
 ·rw[show(O0 lo n).drop n=[]from List.drop_eq_nil_of_le (by rw[a8f];exact Nat.le_refl _)]at h'
  exact h' σ' H' F' f R'
def a2s(ds:List D):Option (Int×Nat):=match ds with
 | [.int j]=>if -(2 ^ 62)≤j∧j<2 ^ 62 then some (0,j.toNat)else none
 | _=>none
theorem b0e{ds:List D}{vs:List V}{lo:Int}{n:Nat}(h:a2s ds=some (lo,n))(p:Rps K cl F ds vs):∃j:Int,vs=[.int j]∧-(2 ^ 62)≤j∧j<2 ^ 62∧lo=0∧n=j.toNat:=by
 unfold a2s at h
 split at h
 ·rename_i j
  split at h
  ·rename_i c;cases h
   exact⟨j,(Rps.ints (ns:=[j]) p),c.1,c.2,rfl,rfl⟩
  ·cases h
 ·cases h
def a1O(rg:List D→Option (Int×Nat))(f:AF)(b:GF)(body:SF):SF:=fun e=>C9 (f e) fun ds e1=>match rg ds with
 | none=>none
 | some (lo,n)=>m9 b body (O0 lo n) e1
theorem a8g{t:TA}{g:TG}{tb:TS}{f:AF}{b:GF}{body:SF}(hf:L8 K cl E t f)(hg:O5 K cl k g b)(hb:RfS K cl E tb body):RfS K cl E (a5l (a8_ t) g tb) (a1O a2s f b body):=by
 intro N σ H env F R h
 refine hf σ H _ env F R ((Cs.bnd h).mono fun x H1 ⟨F1,e1,ds,fr,R1,p1,h1⟩=>?_)
 split at h1
 ·exact h1.elim
 ·rename_i lo n hs
  obtain⟨j,e,c1,c2,rfl,rfl⟩:=b0e hs p1
  exact⟨j,e,c1,c2,b30 hb hg R1 (h1.from fr)⟩
end
section
variable {K:W.Frag}{cl:Str→Addr}{E:XK}{σ:St}{H F:Hp}{env:DE}{k:Nat}
def unhide(i:Nat)(ds:List D)(r:Option RS):Option RS:=match r with
 | some (.nx e)=>some (.nx (e.set i (.ow ds)))
 | some (.bk _)=>none
 | some (.ct _)=>none
 | r=>r
theorem Rel.hide{i:Nat}{ds:List D}(R:Rel K cl σ H F env)(h:env[i]? = some (.ow ds)):Rel K cl σ H F (env.set i (.hd ds)):=by
 have hi:i<env.length:=(List.getElem?_eq_some_iff.mp h).1
 have self:(env.set i (.hd ds))[i]? = some (.hd ds):=List.getElem?_set_self hi
 have oth:∀j,j≠i→(env.set i (.hd ds))[j]? = env[j]?:=fun j hj=>List.getElem?_set_ne (Ne.symm hj)
 have mui:∀(j:Nat) (fs:List D),(env.set i (.hd ds))[j]? = some (.ow fs)∨(env.set i (.hd ds))[j]? = some (.hd fs)→env[j]? = some (.ow fs)∨env[j]? = some (.hd fs):=fun j fs q=>by
  by_cases z:j=i
  ·subst z;rw[self]at q;rcases q with q | q<;>cases q;exact .inl h
  ·rw[oth j z]at q;exact q
 refine⟨R.sub,by rw[List.length_set];exact R.len,fun j d q=>?_,fun j fs q=>R.mu j fs (mui j fs q),fun j l b ⟨fs,q⟩ ⟨gs,q'⟩=>R.inj j l b ⟨fs,mui j fs q⟩ ⟨gs,mui l gs q'⟩,R.od.setE a1E⟩
 have z:j≠i:=fun z=>by subst z;rw[self]at q;cases q
 rw[oth j z]at q;exact R.fz j d q
theorem Ow.hide{i:Nat}{ds:List D}{a:Addr}(w:Ow σ (env.set i (.hd ds)) a):Ow σ env a:=by
 obtain⟨j,fs,oo,q,e⟩:=w
 by_cases z:j=i
 ·subst z
  have hj:j<env.length:=by have:=(List.getElem?_eq_some_iff.mp q).1;rwa [List.length_set]at this
  rw[List.getElem?_set_self hj]at q;cases q;exact oo.elim
 ·rw[List.getElem?_set_ne (Ne.symm z)]at q;exact⟨j,fs,oo,q,e⟩
theorem Rel.unhide{i:Nat}{ds:List D}(R:Rel K cl σ H F env)(h:env[i]? = some (.hd ds)):Rel K cl σ H F (env.set i (.ow ds)):=by
 have hi:i<env.length:=(List.getElem?_eq_some_iff.mp h).1
 have self:(env.set i (.ow ds))[i]? = some (.ow ds):=List.getElem?_set_self hi
 have oth:∀j,j≠i→(env.set i (.ow ds))[j]? = env[j]?:=fun j hj=>List.getElem?_set_ne (Ne.symm hj)
 have mui:∀(j:Nat) (fs:List D),(env.set i (.ow ds))[j]? = some (.ow fs)∨(env.set i (.ow ds))[j]? = some (.hd fs)→env[j]? = some (.ow fs)∨env[j]? = some (.hd fs):=fun j fs q=>by
  by_cases z:j=i
  ·subst z;rw[self]at q;rcases q with q | q<;>cases q;exact .inr h
  ·rw[oth j z]at q;exact q
 refine⟨R.sub,by rw[List.length_set];exact R.len,fun j d q=>?_,fun j fs q=>R.mu j fs (mui j fs q),fun j l b ⟨fs,q⟩ ⟨gs,q'⟩=>R.inj j l b ⟨fs,mui j fs q⟩ ⟨gs,mui l gs q'⟩,R.od.setE W2⟩
 have z:j≠i:=fun z=>by subst z;rw[self]at q;cases q
 rw[oth j z]at q;exact R.fz j d q
theorem Cs.hide{i:Nat}{ds:List D}{r:Option RS}{N:Ends}(R:Rel K cl σ H F env)(h:env[i]? = some (.ow ds))(c:Cs K cl E (unhide i ds r) σ H F env N):Cs K cl E r σ H F (env.set i (.hd ds)) N:=by
 have hi:i<env.length:=(List.getElem?_eq_some_iff.mp h).1
 have self:(env.set i (.hd ds))[i]? = some (.hd ds):=List.getElem?_set_self hi
 have fx:∀{H' F'},FX σ H F (env.set i (.hd ds)) H' F'→FX σ H F env H' F':=fun x=>⟨x.fz,x.sub,fun a o h f w=>x.hid a o h f fun y=>w y.hide,x.dom⟩
 rcases r with _ | r
 ·exact c
 cases r with
 | nx e =>
  intro σ' H' F' f R'
  obtain⟨q,eσ⟩:=f.keep i ds self
  refine c σ' H' F' ⟨f.fz,fun a o ha fa w=>?_,fun j fs q'=>?_,f.dom⟩ (R'.unhide q)
  ·obtain⟨h1,f1,w1⟩:=f.hid a o ha fa fun y=>w y.hide
   refine⟨h1,f1,fun⟨j,fs,oo,q2,e2⟩=>?_⟩
   by_cases z:j=i
   ·subst z
    rw[eσ]at e2
    exact w ⟨j,.ow ds,True.intro,h,e2⟩
   ·rw[List.getElem?_set_ne (Ne.symm z)]at q2
    exact w1 ⟨j,fs,oo,q2,e2⟩
  ·have z:j≠i:=fun z=>by subst z;rw[h]at q';cases q'
   obtain⟨q2,e2⟩:=f.keep j fs (by rw[List.getElem?_set_ne (Ne.symm z)];exact q')
   exact⟨by rw[List.getElem?_set_ne (Ne.symm z)];exact q2,e2⟩
 | bk e=>exact c.elim
 | ct e=>exact c.elim
 | rt d=>exact fun v H' F' x p=>c v H' F' (fx x) p
 | ro es=>exact fun a xs H' F' x ha fa nw p=>c a xs H' F' (fx x) ha fa (fun o e=>(nw o e).hide) p
 | rp n es=>exact fun p a xs H' F' x hp ht fp ha fa nw r=>c p a xs H' F' (fx x) hp ht fp ha fa (fun o e=>(nw o e).hide) r
 | rz dss=>exact fun p as H' F' x hp ht fp rz=>c p as H' F' (fx x) hp ht fp (rz.imp fun a xs ha fa nw o e=>(nw o e).hide)
 | ex n=>exact fun H' F' x=>c H' F' (fx x)
theorem Rel.hid_stays{i:Nat}{ds:List D}(R:Rel K cl σ H F env)(h:env[i]? = some (.hd ds)):∃a xs,σ[i]? = some (some (.ref a))∧Rps K cl F ds xs∧H a=some (.lst xs)∧∀σ' H' F' e',Frm σ H F env σ' H' F' e'→H' a=some (.lst xs):=by
 obtain⟨a,xs,e,hH,hF,r⟩:=R.mu i ds (.inr h)
 refine⟨a,xs,e,r,hH,fun σ' H' F' e' f=>(f.hid a _ hH hF fun⟨j,fs,oo,q,e'⟩=>?_).1⟩
 cases fs with
 | ow fs =>
  have z:i=j:=R.inj i j a ⟨ds,.inr h⟩ ⟨fs,.inl q⟩ e e'
  subst z;rw[h]at q;cases q
 | od ks fs =>
  obtain⟨a',xs',e2,h2,_⟩:=R.od.at_ j _ ks fs q ⟨rfl,rfl⟩
  rw[e']at e2;cases e2
  rw[hH]at h2
  exact a4T (Option.some.inj h2).symm
 | no=>exact oo
 | fz _=>exact oo
 | hd _=>exact oo
 | hk _ _=>exact oo
def G5(n:Nat):List D→List D
 | []=>[]
 | d::ds=>.tup [.int n,d]::G5 (n+1) ds
theorem a0B:∀{ds:List D} {n i:Nat} {d:D},ds[i]? = some d→(G5 n ds)[i]? = some (.tup [.int (n+i:Nat),d])
 | [],_,_,_,h=>by simp at h
 | _::_,n,0,_,h=>by simp at h;subst h;rfl
 | _::ds,n,i+1,d,h=>by
  have:=a0B (ds:=ds) (n:=n+1) (i:=i) (d:=d) (by simpa using h)
  show(G5 (n+1) ds)[i]? = _
  rw[this,show n+1+i=n+(i+1) by omega]
theorem a0C:∀{ds:List D} {n:Nat},(G5 n ds).length=ds.length
 | [],_=>rfl
 | _::ds,n=>by show(G5 (n+1) ds).length+1=ds.length+1;rw[a0C]
theorem a8h{b:GF}{body:SF}{g:TG}{tb:TS}{ds:List D}{xs:List V}{a:Addr}{N:Ends}(hb:RfS K cl E tb body)(hg:O5 K cl k g b)(R:Rel K cl σ H F env)
  (hl:∀σ' H' F' e',Frm σ H F env σ' H' F' e'→Rel K cl σ' H' F' e'→SqL K H' a xs) (r:Rps K cl F ds xs) (h:Cs K cl E (m9 b body (G5 0 ds) env) σ H F env N) :
  ∃W:Nat→Nat→St→Hp→Prop,(∃m,W 0 m σ H)∧∀i m σ H,W i m σ H →
   ((Ite K a).stop i H∧N.nx σ H)∨((Ite K a).go i H∧∃M:St→Hp→Prop,(∀σ' H',M σ' H'→∃m',m'<m∧W (i+1) m' σ' H')∧∀x H',(Ite K a).yld i H x H'→g x σ H' fun σ2 H2=>tb { N with nx:=M,ct:=M,bk:=N.nx } σ2 H2):=by
 refine a7W (xs:=xs) (fun i σ' H'=>∃F' e',Frm σ H F env σ' H' F' e'∧Rel K cl σ' H' F' e'∧Cs K cl E (m9 b body ((G5 0 ds).drop i) e') σ H F env N) ⟨F,env,Frm.refl,R,h⟩ (fun i σ' H' _ ⟨F',e',f,R',_⟩=>hl σ' H' F' e' f R') (fun i x σ' H' p hx ⟨F',e',f,R',h'⟩ hp=>?_) (fun σ' H' ⟨F',e',f,R',h'⟩=>?_)
 ·obtain⟨d,hd,pd⟩:=r.get' hx
  rw[N6 (a0B hd),Nat.zero_add]at h'
  have gr:Gr H' F' (upd H' p (.tup [.int i,x])) (upd F' p (.tup [.int i,x])):=.new R'.sub hp
  refine a1a hb hg (f.trans (R'.frm gr)) (R'.gr gr) ?_ h' fun σ2 H2 F2 e2 f2 R2 h2=>⟨F2,e2,f2,R2,h2⟩
  simp only[Rp]
  exact⟨p,_,rfl,i0,.cons (by simp only[Rp]) (.one (Rp.mono (f.fz.trans gr.fz) _ _ pd))⟩
 ·rw[← r.length,List.drop_eq_nil_of_le (by rw[a0C];exact Nat.le_refl _)]at h'
  exact h' σ' H' F' f R'
def G6(i:Nat)(b:GF)(body:SF):SF:=fun e=>match e[i]? with
 | some (.fz d)=>(match seqL d with
  | none=>none
  | some ds=>m9 b body (G5 0 ds) e)
 | some (.ow ds)=>unhide i ds (m9 b body (G5 0 ds) (e.set i (.hd ds)))
 | some (.hd ds)=>m9 b body (G5 0 ds) e
 | _=>none
theorem a3U{i:Nat}{g:TG}{tb:TS}{b:GF}{body:SF}(hg:O5 K cl k g b)(hb:RfS K cl E tb body):RfS K cl E (a5l (a5z K (F5 (D1 i) Q0)) g tb) (G6 i b body):=by
 intro N σ H env F R h
 unfold G6 at h
 split at h
 ·rename_i d q
  split at h
  ·exact h.elim
  ·rename_i ds hs
   obtain⟨v,e,p⟩:=R.fz i d q
   obtain⟨a,xs,rfl,r,hl⟩:=Rp.seqL p hs
   exact⟨_,e,a,rfl,⟨xs,hl H R.sub⟩,a8h hb hg R (fun σ' H' F' e' f2 R2=>hl H' (f2.fz.trans R2.sub)) r h⟩
 ·rename_i ds q
  have hi:i<env.length:=(List.getElem?_eq_some_iff.mp q).1
  have R':=R.hide q
  obtain⟨a,xs,e,r,hH,st⟩:=R'.hid_stays (i:=i) (ds:=ds) (List.getElem?_set_self hi)
  exact⟨_,e,a,rfl,⟨xs,.of hH⟩,a8h hb hg R' (fun σ' H' F' e' f2 R2=>.of (st σ' H' F' e' f2)) r (h.hide R q)⟩
 ·rename_i ds q
  obtain⟨a,xs,e,r,hH,st⟩:=R.hid_stays q
  exact⟨_,e,a,rfl,⟨xs,.of hH⟩,a8h hb hg R (fun σ' H' F' e' f2 R2=>.of (st σ' H' F' e' f2)) r h⟩
 ·exact h.elim
def W9(e:DE):Bool:=e.all fun s=>match s with
 | .hd _=>false
 | _=>true
def b2n(n i:Nat)(exm:Str→Bool)(body suite:SF):SF:=fun e=>match body e with
 | some (.ex (.v _ _ _))=>none
 | some (.ex (.p c))=>if(exm c && W9 e)=true then(match suite ((List.replicate n Sl.no).set i (.fz (.exc c)))with
   | some (.nx e2)=>put i .no e2
   | some (.rt d)=>some (.rt d)
   | some (.ro ds)=>some (.ro ds)
   | _=>none)else none
 | r=>r
theorem b0f{e:DE}(h:W9 e=true)(i:Nat)(ds:List D):e[i]?≠some (.hd ds):=fun q=>by
 have:=List.all_eq_true.mp h _ (List.mem_of_getElem? q)
 cases this
theorem Rel.drop{i:Nat}(R:Rel K cl σ H F env)(nh:∀ds,env[i]?≠some (.hd ds)):Rel K cl (σ.set i none) H F (env.set i .no)∧Frm σ H F env (σ.set i none) H F (env.set i .no):=by
 have key:∀(j:Nat) (s:Sl),(env.set i .no)[j]? = some s→s≠.no→j≠i∧env[j]? = some s:=fun j s q ns=>by
  by_cases z:j=i
  ·subst z
   have hj:j<env.length:=by have:=(List.getElem?_eq_some_iff.mp q).1;rwa [List.length_set]at this
   rw[List.getElem?_set_self hj]at q;cases q;exact absurd rfl ns
  ·rw[List.getElem?_set_ne (Ne.symm z)]at q;exact⟨z,q⟩
 have muk:∀j,Mu (env.set i .no) j→j≠i∧Mu env j:=fun j ⟨ds,q⟩=>by
  rcases q with q | q
  ·obtain⟨z,q⟩:=key j _ q (fun z=>by cases z);exact⟨z,ds,.inl q⟩
  ·obtain⟨z,q⟩:=key j _ q (fun z=>by cases z);exact⟨z,ds,.inr q⟩
 refine⟨⟨R.sub,by rw[List.length_set,List.length_set];exact R.len,fun j d q=>?_,fun j ds q=>?_,fun j l b hj hl e1 e2=>?_,R.od.set a5E⟩,⟨Same.refl _,fun a o h f w=>⟨h,f,fun⟨j,ds,oo,q,e⟩=>?_⟩,fun j ds q=>?_,fun _ h=>h⟩⟩
 ·obtain⟨z,q⟩:=key j _ q (fun z=>by cases z)
  obtain⟨v,e,p⟩:=R.fz j d q
  exact⟨v,by rw[List.getElem?_set_ne (Ne.symm z)];exact e,p⟩
 ·have:j≠i∧(env[j]? = some (.ow ds)∨env[j]? = some (.hd ds)):=by
   rcases q with q | q
   ·obtain⟨z,q⟩:=key j _ q (fun z=>by cases z);exact⟨z,.inl q⟩
   ·obtain⟨z,q⟩:=key j _ q (fun z=>by cases z);exact⟨z,.inr q⟩
  obtain⟨z,q⟩:=this
  obtain⟨a,xs,e,r⟩:=R.mu j ds q
  exact⟨a,xs,by rw[List.getElem?_set_ne (Ne.symm z)];exact e,r⟩
 ·obtain⟨zj,mj⟩:=muk j hj
  obtain⟨zl,ml⟩:=muk l hl
  rw[List.getElem?_set_ne (Ne.symm zj)]at e1
  rw[List.getElem?_set_ne (Ne.symm zl)]at e2
  exact R.inj j l b mj ml e1 e2
 ·obtain⟨z,q⟩:=key j _ q (fun z=>by subst z;exact oo)
  rw[List.getElem?_set_ne (Ne.symm z)]at e
  exact w ⟨j,ds,oo,q,e⟩
 ·have z:j≠i:=fun z=>by subst z;exact nh ds q
  rw[List.getElem?_set_ne (Ne.symm z),List.getElem?_set_ne (Ne.symm z)]
  exact⟨q,rfl⟩
end
section
variable {K:W.Frag}{cl:Str→Addr}{E:XK}{σ:St}{H F:Hp}{env:DE}{k:Nat}
def Q6:Option Sl→Sl
 | some (.fz d)=>.fz d
 | some (.ow ds)=>.hd ds
 | some (.hd ds)=>.hd ds
 | some (.od ks ds)=>.hk ks ds
 | some (.hk ks ds)=>.hk ks ds
 | _=>.no
def l3(k:Nat)(js:List Nat)(e:DE):DE:=List.replicate k .no++js.map fun j=>Q6 e[j]?
def r0(b:GF)(c:BF)(el:ZF)(ec:DE)(eo:DE):List D→List D→Option (R (List D))
 | [],acc=>some (.ok acc eo)
 | d::ds,acc=>match b d ec with
  | none=>none
  | some e1=>bnd (c e1) fun t e2=>if t=true then bnd (el e2) fun y _=>if acc.length<sizeLine then r0 b c el ec eo ds (acc++[y])else none
   else r0 b c el ec eo ds acc
theorem N7{js:List Nat}{e:DE}{i:Nat}{s:Sl}(h:(l3 k js e)[i]? = some s)(n:s≠.no):k≤i∧∃j,js[i-k]? = some j∧Q6 e[j]? = s:=by
 unfold l3 at h
 by_cases z:i<k
 ·rw[List.getElem?_append_left (by rw[List.length_replicate];exact z),List.getElem?_replicate,if_pos z]at h
  cases h;exact absurd rfl n
 ·rw[List.getElem?_append_right (by rw[List.length_replicate];omega),List.length_replicate,List.getElem?_map]at h
  cases q:js[i-k]? with
  | none=>rw[q]at h;cases h
  | some j=>rw[q]at h;cases h;exact⟨by omega,j,rfl,rfl⟩
theorem C4{js:List Nat}{i j:Nat}{v:V}(hk:k≤i)(hj:js[i-k]? = some j)(h:σ[j]? = some (some v)):(l6 k js σ)[i]? = some (some v):=by
 unfold l6
 rw[List.getElem?_append_right (by rw[List.length_replicate];exact hk),List.length_replicate,List.getElem?_map,hj]
 simp[h]
theorem RelOd.comp{js:List Nat}(R:RelOd K cl σ H F env)(nd:js.Nodup):RelOd K cl (l6 k js σ) H F (l3 k js env):=by
 have cap:∀{j:Nat} {s:Sl} {ks:DK} {ds:List D},Q6 env[j]? = s→N5 s ks ds→∃t,env[j]? = some t∧N5 t ks ds:=fun{j s ks ds} h d=>by
  unfold Q6 at h
  split at h<;>subst h
  ·exact d.elim
  ·exact d.elim
  ·exact d.elim
  ·rename_i q;exact⟨_,q,d⟩
  ·rename_i q;exact⟨_,q,d⟩
  ·exact d.elim
 have get:∀(i:Nat) (s:Sl) (ks:DK) (ds:List D),(l3 k js env)[i]? = some s→N5 s ks ds→k≤i∧∃j t,js[i-k]? = some j∧env[j]? = some t∧N5 t ks ds:=fun i s ks ds h d=>by
  obtain⟨hk,j,hj,c⟩:=N7 h (fun z=>by subst z;exact d)
  obtain⟨t,q,dt⟩:=cap c d
  exact⟨hk,j,t,hj,q,dt⟩
 refine⟨fun i s ks ds h d=>?_,fun i l s t ks ls ds es b hi di hl dl ei el=>?_⟩
 ·obtain⟨hk,j,t,hj,q,dt⟩:=get i s ks ds h d
  obtain⟨a,xs,e,r⟩:=R.at_ j t ks ds q dt
  exact⟨a,xs,C4 hk hj e,r⟩
 ·obtain⟨hk,j,s',hj,q,dt⟩:=get i s ks ds hi di
  obtain⟨hk',m,t',hm,q',dt'⟩:=get l t ls es hl dl
  obtain⟨a,xs,e,_⟩:=R.at_ j s' ks ds q dt
  obtain⟨a',xs',e',_⟩:=R.at_ m t' ls es q' dt'
  have h1:=C4 (k:=k) hk hj e
  have h2:=C4 (k:=k) hk' hm e'
  rw[ei]at h1;cases h1
  rw[el]at h2;cases h2
  have jm:j=m:=R.inj j m s' t' ks ls ds es b q dt q' dt' e e'
  subst jm
  obtain⟨hi',ej⟩:=List.getElem?_eq_some_iff.mp hj
  obtain⟨hl',em⟩:=List.getElem?_eq_some_iff.mp hm
  have:i-k=l-k:=(List.getElem_inj nd).mp (ej.trans em.symm)
  omega
theorem Rel.comp{js:List Nat}(R:Rel K cl σ H F env)(nd:js.Nodup):Rel K cl (l6 k js σ) H F (l3 k js env):=by
 have cap:∀{j:Nat} {ds:List D},Q6 env[j]? = .hd ds→env[j]? = some (.ow ds)∨env[j]? = some (.hd ds):=fun{j ds} h=>by
  unfold Q6 at h
  split at h
  ·cases h
  ·rename_i q;cases h;exact .inl q
  ·rename_i q;cases h;exact .inr q
  ·cases h
  ·cases h
  ·cases h
 have noow:∀{j:Nat} {ds:List D},Q6 env[j]?≠.ow ds:=fun{j ds} h=>by
  unfold Q6 at h
  split at h<;>cases h
 have mu':∀(i:Nat) (ds:List D),((l3 k js env)[i]? = some (.ow ds)∨(l3 k js env)[i]? = some (.hd ds))→k≤i∧∃j,js[i-k]? = some j∧(env[j]? = some (.ow ds)∨env[j]? = some (.hd ds)):=fun i ds q=>by
  rcases q with q | q
  ·obtain⟨hk,j,hj,c⟩:=N7 q (fun z=>by cases z);exact absurd c noow
  ·obtain⟨hk,j,hj,c⟩:=N7 q (fun z=>by cases z);exact⟨hk,j,hj,cap c⟩
 refine⟨R.sub,?_,fun i d q=>?_,fun i ds q=>?_,fun i l b ⟨ds,q⟩ ⟨es,q'⟩ e1 e2=>?_,R.od.comp nd⟩
 ·unfold l6 l3
  rw[List.length_append,List.length_append,List.length_replicate,List.length_replicate,List.length_map,List.length_map]
 ·obtain⟨hk,j,hj,c⟩:=N7 q (fun z=>by cases z)
  have:env[j]? = some (.fz d):=by
   unfold Q6 at c
   split at c
   ·rename_i q;cases c;exact q
   all_goals cases c
  obtain⟨v,e,p⟩:=R.fz j d this
  exact⟨v,C4 hk hj e,p⟩
 ·obtain⟨hk,j,hj,c⟩:=mu' i ds q
  obtain⟨a,xs,e,r⟩:=R.mu j ds c
  exact⟨a,xs,C4 hk hj e,r⟩
 ·obtain⟨hk,j,hj,c⟩:=mu' i ds q
  obtain⟨hl,m,hm,c'⟩:=mu' l es q'
  obtain⟨a,xs,e,_⟩:=R.mu j ds c
  obtain⟨a',xs',e',_⟩:=R.mu m es c'
  have h1:=C4 (k:=k) hk hj e
  have h2:=C4 (k:=k) hl hm e'
  rw[e1]at h1;cases h1
  rw[e2]at h2;cases h2
  have jm:j=m:=R.inj j m b ⟨ds,c⟩ ⟨es,c'⟩ e e'
  subst jm
  obtain⟨hi',ei⟩:=List.getElem?_eq_some_iff.mp hj
  obtain⟨hl',el⟩:=List.getElem?_eq_some_iff.mp hm
  have:i-k=l-k:=(List.getElem_inj nd).mp (ei.trans el.symm)
  omega
def NoOw(e:DE):Prop:=∀(i:Nat) (s:Sl),isO s→e[i]?≠some s
theorem a2R{js:List Nat}{e:DE}:NoOw (l3 k js e):=fun i s oo q=>by
 obtain⟨hk,j,hj,c⟩:=N7 q (fun z=>by subst z;exact oo)
 unfold Q6 at c
 split at c<;>subst c<;>exact oo
theorem NoOw.not{e:DE}(n:NoOw e){σ:St}{a:Addr}:¬Ow σ e a:=fun⟨i,ds,oo,q,_⟩=>n i ds oo q
theorem Frm.gr{σ':St}{H' F':Hp}{env':DE}(f:Frm σ H F env σ' H' F' env')(n:NoOw env)(s:Same F' H'):Gr H F H' F':=⟨f.fz,s,fun a o h g=>by obtain⟨h1,f1,_⟩:=f.hid a o h g n.not;exact⟨h1,f1⟩⟩
theorem FX.gr{H' F':Hp}(f:FX σ H F env H' F')(n:NoOw env):Gr H F H' F':=⟨f.fz,f.sub,fun a o h g=>f.hid a o h g n.not⟩
structure Grow(K:W.Frag)(cl:Str→Addr)(σ:St)(H0 F0:Hp)(env:DE)(B:Addr)(acc:List D)(ys:List V)(H F:Hp):Prop where
 rel:Rel K cl σ H F env
 frm:Frm σ H0 F0 env σ H F env
 new:H0 B=none
 at_:H B=some (.lst ys)
 un:F B=none
 far:∀j,Mu env j→σ[j]?≠some (some (.ref B))
 rps:Rps K cl F acc ys
 stay:∀a o,H0 a=some o→F0 a=none→H a=some o∧F a=none
theorem Grow.start{B:Addr}(R:Rel K cl σ H F env)(hB:H B=none):Grow K cl σ H F env B [] [] (upd H B (.lst [])) F:=by
 obtain⟨R',f⟩:=R.newN (o:=.lst []) hB
 refine⟨R',f,hB,i0,R.sub.free hB,fun j ⟨ds,q⟩ e=>?_,.nil,fun a o h f=>⟨by rw[d5 (fun z=>by rw[z,hB]at h;cases h)];exact h,f⟩⟩
 obtain⟨a,ys,e1,hH,_⟩:=R.mu j ds q
 rw[e]at e1;cases e1
 rw[hB]at hH;cases hH
theorem Grow.gr{B:Addr}{acc:List D}{ys:List V}{H0 F0 H' F':Hp}(g:Grow K cl σ H0 F0 env B acc ys H F)(r:Gr H F H' F'):Grow K cl σ H0 F0 env B acc ys H' F' :=
 ⟨g.rel.gr r,g.frm.trans (g.rel.frm r),g.new,(r.hid B _ g.at_ g.un).1,(r.hid B _ g.at_ g.un).2,g.far,g.rps.mono r.fz,fun a o h f=>by obtain⟨h1,f1⟩:=g.stay a o h f;exact r.hid a o h1 f1⟩
theorem Grow.push{B:Addr}{acc:List D}{ys:List V}{H0 F0:Hp}{d:D}{y:V}(g:Grow K cl σ H0 F0 env B acc ys H F)(p:Rp K cl F d y):Grow K cl σ H0 F0 env B (acc++[d]) (ys++[y]) (upd H B (.lst (ys++[y]))) F:=by
 have ne:∀a o,F a=some o→a≠B:=fun a o h z=>by rw[z,g.un]at h;cases h
 refine⟨⟨fun a o h=>by rw[d5 (ne a o h)];exact g.rel.sub _ _ h,g.rel.len,g.rel.fz,fun j ds q=>?_,g.rel.inj,g.rel.od.updL g.at_⟩,⟨g.frm.fz,fun a o h f w=>?_,g.frm.keep,fun a h=>?_⟩,g.new,i0,g.un,g.far,g.rps.append (.one p),fun a o h f=>by rw[d5 (fun z=>by rw[z,g.new]at h;cases h)];exact g.stay a o h f⟩
 ·obtain⟨a,xs,e,hH,r⟩:=g.rel.mu j ds q
  have z:a≠B:=fun z=>g.far j ⟨ds,q⟩ (by rw[e,z])
  exact⟨a,xs,e,by rw[d5 z];exact hH,r⟩
 ·have z:a≠B:=fun z=>by rw[z,g.new]at h;cases h
  rw[d5 z];exact g.frm.hid a o h f w
 ·by_cases z:a=B
  ·rw[z,i0]at h;cases h
  ·rw[d5 z]at h;exact g.frm.dom a h
theorem a2S{b:GF}{c:BF}{el:ZF}{g:TG}{tf:TT}{te:TE}{js:List Nat}{B:Addr}{d:D}{x:V}{ds acc:List D}{ys:List V}{H0 F0:Hp}{Q:VK}{Pv:List V→Hp→Prop}(nd:js.Nodup)
  (hg:O5 K cl k g b) (hc:L9 K cl E tf c) (he:k6 K cl E te el) (gw:Grow K cl σ H0 F0 env B acc ys H F) (p:Rp K cl F d x)
  (h:Ct K cl E (PN K cl) (r0 b c el (l3 k js env) env (d::ds) acc) σ H0 F0 env Q)
  (hP:∀acc' ys' H' F',Grow K cl σ H0 F0 env B acc' ys' H' F'→Ct K cl E (PN K cl) (r0 b c el (l3 k js env) env ds acc') σ H0 F0 env Q→Pv ys' H') :
  g x (l6 k js σ) H fun σ2 H2=>(σ2.drop k=(l6 k js σ).drop k∧σ2.length=(l6 k js σ).length)∧tf σ2 H2 fun t H3 =>
   if t=true then te σ2 H3 fun y H4=>H4 B=some (.lst ys)∧ys.length<sizeLine∧Pv (ys++[y]) (upd H4 B (.lst (ys++[y])))else Pv ys H3:=by
 unfold r0 at h
 have Rc:Rel K cl (l6 k js σ) H F (l3 k js env):=gw.rel.comp nd
 split at h
 ·exact h.elim
 ·rename_i e1 hb
  refine hg x _ H _ d _ e1 F Rc p hb fun σ2 d2 l2 f2 R2=>⟨⟨d2,l2⟩,?_⟩
  have n1:NoOw (l3 k js env):=a2R
  -- ways out by an exception
  have exc:∀{H' F':Hp} {σ':St} {e':DE} {H'' F'':Hp} {n:XN},Frm (l6 k js σ) H F (l3 k js env) σ' H' F' e'→FX σ' H' F' e' H'' F''→(∀H' F',FX σ H0 F0 env H' F'→∀cx,Xf K cl F' n cx→E (.ref (cl n.nm)) cx H')→∀cx,Xf K cl F'' n cx→E (.ref (cl n.nm)) cx H'':=fun{H' F' σ' e' H'' F'' n} f fx q=>by
   have gr:Gr H F H'' F'':=(f.fx fx).gr n1
   exact q _ _ (gw.frm.fx gr.fx)
  refine hc σ2 H _ e1 F R2 ?_
  cases hce:c e1 with
  | none=>rw[hce]at h;exact h.elim
  | some rc =>
   rw[hce]at h
   cases rc with
   | ex n=>exact fun H' F' fx=>exc f2 fx h
   | ok t e2 =>
    intro t' H3 F3 f3 R3 ht
    have ht:t'=t:=ht
    subst ht
    have h:Ct K cl E (PN K cl) (if t'=true then bnd (el e2) fun y _=>if acc.length<sizeLine then r0 b c el (l3 k js env) env ds (acc++[y])else none else r0 b c el (l3 k js env) env ds acc) σ H0 F0 env Q:=h
    have gr3:Gr H F H3 F3:=(f2.trans f3).gr n1 R3.sub
    by_cases z:t'=true
    ·rw[if_pos z]at h ⊢
     refine he σ2 H3 _ e2 F3 R3 ?_
     cases hel:el e2 with
     | none=>rw[hel]at h;exact h.elim
     | some re =>
      rw[hel]at h
      cases re with
      | ex n=>exact fun H' F' fx=>exc (f2.trans f3) fx h
      | ok y e3 =>
       intro v H4 F4 f4 R4 hv
       have h:Ct K cl E (PN K cl) (if acc.length<sizeLine then r0 b c el (l3 k js env) env ds (acc++[y])else none) σ H0 F0 env Q:=h
       split at h
       ·rename_i hlen
        have gr4:Gr H F H4 F4:=((f2.trans f3).trans f4).gr n1 R4.sub
        have gw4:=gw.gr gr4
        exact⟨gw4.at_,by rw[← gw4.rps.length];exact hlen,hP _ _ _ _ (gw4.push hv) h⟩
       ·exact h.elim
    ·rw[if_neg z]at h ⊢
     exact hP _ _ _ _ (gw.gr gr3) h
theorem a3V{b:GF}{c:BF}{el:ZF}{js:List Nat}{B:Addr}{acc:List D}{ys:List V}{H0 F0:Hp}{Q:VK}(gw:Grow K cl σ H0 F0 env B acc ys H F)(h:Ct K cl E (PN K cl) (r0 b c el (l3 k js env) env [] acc) σ H0 F0 env Q):Q (.ref B) H :=
 h _ H F gw.frm gw.rel ⟨B,ys,rfl,gw.new,gw.at_,gw.un,gw.far,gw.rps⟩
theorem b3e{b:GF}{c:BF}{el:ZF}{g:TG}{tf:TT}{te:TE}{js:List Nat}{ds:List D}{xs:List V}{a B:Addr}{Q:VK}(nd:js.Nodup)(hg:O5 K cl k g b)(hc:L9 K cl E tf c)(he:k6 K cl E te el)(R:Rel K cl σ H F env)(hB:H B=none)
  (hl:∀H' F',Same F F'→Same F' H'→(∀a o,H a=some o→F a=none→H' a=some o∧F' a=none)→SqL K H' a xs) (r:Rps K cl F ds xs) (h:Ct K cl E (PN K cl) (r0 b c el (l3 k js env) env ds []) σ H F env Q) :
  Q2 (Itl K a) g tf te k (l6 k js σ) B (fun H'=>Q (.ref B) H') H:=by
 refine a6p (xs:=xs) (fun i ys H'=>∃F' acc,Grow K cl σ H F env B acc ys H' F'∧Ct K cl E (PN K cl) (r0 b c el (l3 k js env) env (ds.drop i) acc) σ H F env Q) ⟨F,[],.start R hB,h⟩ (fun i ys H' _ ⟨F',acc,gw,_⟩=>hl H' F' gw.frm.fz gw.rel.sub gw.stay) (fun i x ys H' hx ⟨F',acc,gw,h'⟩=>?_) (fun ys H' ⟨F',acc,gw,h'⟩=>?_)
 ·obtain⟨d,hd,p⟩:=r.get' hx
  rw[N6 hd]at h'
  exact a2S (Pv:=fun ys' H2=>∃F' acc,Grow K cl σ H F env B acc ys' H2 F'∧Ct K cl E (PN K cl) (r0 b c el (l3 k js env) env (ds.drop (i+1)) acc) σ H F env Q) nd hg hc he gw (Rp.mono gw.frm.fz _ _ p) h' fun acc' ys' H2 F2 gw2 h2=>⟨F2,acc',gw2,h2⟩
 ·rw[← r.length,List.drop_length]at h'
  exact a3V gw h'
def S9:BF:=fun e=>some (.ok true e)
theorem a3W:L9 K cl E a9f S9:=fun σ H Q env F R h=>h true H F Frm.refl R rfl
def T1(k:Nat)(js:List Nat)(f:ZF)(b:GF)(c:BF)(el:ZF):NF:=fun e=>bnd (f e) fun d e1=>match seqL d with
 | none=>none
 | some ds=>r0 b c el (l3 k js e1) e1 ds []
theorem a4X{t:TE}{g:TG}{tf:TT}{te:TE}{js:List Nat}{f:ZF}{b:GF}{c:BF}{el:ZF}(nd:js.Nodup)(hf:k6 K cl E t f)(hg:O5 K cl k g b)(hc:L9 K cl E tf c)(he:k6 K cl E te el):RfN K cl E (a3a (a5k K t) g tf te k js) (T1 k js f b c el):=by
 intro σ H Q env F R h
 refine hf σ H _ env F R ((Ct.bnd h a06).mono fun x H1 ⟨F1,e1,d,s1,R1,p1,h1⟩=>?_)
 split at h1
 ·exact h1.elim
 ·rename_i ds hs
  obtain⟨a,xs,rfl,r,hl⟩:=Rp.seqL p1 hs
  exact⟨a,rfl,⟨xs,hl H1 R1.sub⟩,fun B hB=>b3e nd hg hc he R1 hB (fun H' F' f2 s2 _=>hl H' (f2.trans s2)) r h1⟩
theorem a1P{i:Nat}{wi:TI}{g:TG}{tf:TT}{te:TE}{js:List Nat}{f:NF}(h:RfN K cl E (a3a wi g tf te k js) f):RfS K cl E (a3E i wi g tf te k js) (A6 i f):=fun N σ H env F R q=>P7 h N σ H env F R q
end
def fD(n m:Nat)(body:SF)(ds:List D):Option R1:=if ds.length=m then(match body (ds.map .fz++List.replicate (n-ds.length) .no)with
 | some (.nx _)=>some (.ret .non)
 | some (.rt d)=>some (.ret d)
 | some (.ro es)=>some (.own es)
 | some (.rz dss)=>some (.owz dss)
 | some (.rp n es)=>some (.owp n es)
 | some (.ex c)=>some (.ex c)
 | _=>none)else none
section
variable {P:Program}{w:World}{K:W.Frag}{mg:Str→Option Value}{base:Heap}{cl:Str→Addr}
theorem a6Q{N:List Str}{vs:List V}{ds:List D}{H F:Hp}(s:Same F H)(p:Rps K cl F ds vs):Rel K cl (start N vs) H F (ds.map .fz++List.replicate (N.length-ds.length) .no)∧NoOw (ds.map .fz++List.replicate (N.length-ds.length) .no):=by
 have key:∀(i:Nat) (t:Sl),(ds.map Sl.fz++List.replicate (N.length-ds.length) .no)[i]? = some t→t≠.no→∃d,ds[i]? = some d∧t=.fz d:=fun i t q n=>by
  by_cases z:i<ds.length
  ·rw[List.getElem?_append_left (by rw[List.length_map];exact z),List.getElem?_map]at q
   cases hd:ds[i]? with
   | none=>rw[hd]at q;cases q
   | some d=>rw[hd]at q;cases q;exact⟨d,rfl,rfl⟩
  ·rw[List.getElem?_append_right (by rw[List.length_map];omega),List.getElem?_replicate]at q
   split at q
   ·cases q;exact absurd rfl n
   ·cases q
 have no:NoOw (ds.map .fz++List.replicate (N.length-ds.length) .no):=fun i es oo q=>by
  obtain⟨d,_,z⟩:=key i _ q (fun z=>by subst z;exact oo)
  subst z;exact oo
 refine⟨⟨s,?_,fun i d q=>?_,fun i es q=>?_,fun i j b ⟨es,q⟩ _ _ _=>?_,.none fun j s ks ds q d=>by obtain⟨_,_,rfl⟩:=key j s q (fun z=>by subst z;exact d);exact d⟩,no⟩
 ·unfold start
  rw[List.length_append,List.length_append,List.length_map,List.length_map,List.length_replicate,List.length_replicate,p.length]
 ·obtain⟨d',hd,z⟩:=key i _ q (fun z=>by cases z)
  cases z
  obtain⟨v,hv,r⟩:=p.get hd
  refine⟨v,?_,r⟩
  unfold start
  rw[List.getElem?_append_left (by rw[List.length_map];exact(List.getElem?_eq_some_iff.mp hv).1),List.getElem?_map,hv];rfl
 ·rcases q with q | q
  ·obtain⟨d,_,z⟩:=key i _ q (fun z=>by cases z);cases z
  ·obtain⟨d,_,z⟩:=key i _ q (fun z=>by cases z);cases z
 ·rcases q with q | q
  ·obtain⟨d,_,z⟩:=key i _ q (fun z=>by cases z);cases z
  ·obtain⟨d,_,z⟩:=key i _ q (fun z=>by cases z);cases z
theorem V0{n m:Nat}{body:SF}{vs:List V}{H:Hp}{Q:VK}{E:XK}(h:i3 K cl (fD n m body) vs H Q E):vs.length=m:=by
 obtain⟨ds,F,s,p,h⟩:=h
 unfold fD at h
 by_cases z:ds.length=m
 ·rw[← p.length];exact z
 ·rw[if_neg z]at h;exact h.elim
theorem K4{N:List Str}{m:Nat}{body:SF}{t:TS}{vs:List V}{H:Hp}{Q:VK}{E:XK}(hb:RfS K cl E t body)(h:i3 K cl (fD N.length m body) vs H Q E):t { nx:=fun _ H'=>Q .non H',rt:=Q } (start N vs) H:=by
 obtain⟨ds,F,s,p,h⟩:=h
 obtain⟨R,no⟩:=a6Q (N:=N) s p
 refine hb _ _ H _ F R ?_
 unfold fD at h
 by_cases z:ds.length=m
 ·rw[if_pos z]at h
  cases r:body (ds.map .fz++List.replicate (N.length-ds.length) .no)with
  | none=>rw[r]at h;exact h.elim
  | some rs =>
   rw[r]at h
   cases rs with
   | nx e=>exact fun σ' H' F' f R'=>h .non H' F' (f.gr no R'.sub) (by simp only[Rp])
   | rt d=>exact fun v H' F' x q=>h v H' F' (x.gr no) q
   | ro es =>
    refine fun a xs H' F' x ha fa nw q=>h a xs H' F' (x.gr no) ?_ ha fa q
    cases e:H a with
    | none=>rfl
    | some o=>exact absurd (nw o e) no.not
   | rz dss =>
    refine fun p as H' F' x hp ht fp rz=>h p as H' F' (x.gr no) hp ht fp (rz.imp fun a xs ha fa nw=>?_)
    cases e:H a with
    | none=>rfl
    | some o=>exact absurd (nw o e) no.not
   | rp n es =>
    refine fun p a xs H' F' x hp ht fp ha fa nw q=>h p a xs H' F' (x.gr no) hp ht fp ?_ ha fa q
    cases e:H a with
    | none=>rfl
    | some o=>exact absurd (nw o e) no.not
   | bk e=>exact h.elim
   | ct e=>exact h.elim
   | ex c=>exact fun H' F' x=>h H' F' (x.gr no)
 ·rw[if_neg z]at h;exact h.elim
theorem Fun.okD{x qual:Str}{st:Stmt}{f:Addr}{fd:FuncData}{N ps:List Str}{k:Nat}{body:SF}(F:Fun K x qual st f fd)(S:FnScope N ps (b9 st))
  (hbody:∀(cdv:Value) (A:Around) (outer:List Env) (s:Shared) (H:Hp) (E:XK),Room k (A.deeper (envOfC qual (b9 st) s.heap.objs.size f cdv)) →
   ∃t,PSs (G9 (n4 P w) P w K mg base N qual (b9 st) f cdv A outer s H E) (i4 st) t∧RfS K cl E t body):FnOk P w K mg base (n4 P w) (k+1) f fd ps (i3 K cl (fD N.length ps.length body)) :=
 F.okE S (fun vs H Q E h=>V0 h) fun cdv A outer s H vs Q E hr h=>by
  obtain⟨t,h1,h2⟩:=hbody cdv A outer s H E hr
  exact⟨t,h1,K4 h2 h⟩
theorem FunD.okD{x qual:Str}{st:Stmt}{dT f:Addr}{fd:FuncData}{N ps:List Str}{k:Nat}{body:SF}(F:FunD K x qual st dT f fd)(S:FnScope N ps (b9 st))
  (hbody:∀(cdv:Value) (A:Around) (outer:List Env) (s:Shared) (H:Hp) (E:XK),Room k (A.deeper (envOfC qual (b9 st) s.heap.objs.size f cdv)) →
   ∃t,PSs (G9 (n4 P w) P w K mg base N qual (b9 st) f cdv A outer s H E) (i4 st) t∧RfS K cl E t body):FnOk P w K mg base (n4 P w) (k+1) f fd ps (i3 K cl (fD N.length ps.length body)) :=
 F.okE S (fun vs H Q E h=>V0 h) fun cdv A outer s H vs Q E hr h=>by
  obtain⟨t,h1,h2⟩:=hbody cdv A outer s H E hr
  exact⟨t,h1,K4 h2 h⟩
theorem b0g{g:List D→Option R1}{vs:List V}{H:Hp}{Q:VK}{E:XK}{a:Addr}{ns:List Int}(e:vs=[.ref a])(h:Scr K H a (ns.map V.int))(q:∀H',Q (.bl true) H')(m:g [.scr ns]=some (.ret (.bl true))):i3 K cl g vs H Q E:=by
 refine⟨[.scr ns],H,Same.refl _,?_,?_⟩
 ·rw[e];exact .one (by simp only[Rp];exact⟨a,rfl,h⟩)
 ·rw[m]
  intro v H' F' _ p
  have p:Rp K cl F' (.bl true) v:=p
  simp only[Rp]at p
  rw[p];exact q H'
def tyN:D→Option String
 | .non=>some "NoneType"
 | .bl _=>some "bool"
 | .int _=>some "int"
 | .str _=>some "str"
 | .lst _=>some "list"
 | .tup _=>some "tuple"
 | _=>none
theorem b0h{K:W.Frag}(t n:String)(ht:t∈["NoneType","bool","int","str","list","tuple"])(hn:n∈["bool","int","str","list","tuple"]):W.kitOne K (.type t) (.type n)=some (t == n || (t == "bool" && n == "int")):=by
 simp only[List.mem_cons,List.not_mem_nil,or_false]at ht hn
 rcases ht with rfl | rfl | rfl | rfl | rfl | rfl<;>rcases hn with rfl | rfl | rfl | rfl | rfl<;>first | rfl | with_unfolding_all rfl
def b4t:List D→Option D
 | [d,.ty n]=>match tyN d with
  | some t=>if n∈["bool","int","str","list","tuple"]then some (.bl (t == n || (t == "bool" && n == "int")))else none
  | none=>none
 | _=>none
theorem b0i{d:D}{t:String}(h:tyN d=some t):t∈["NoneType","bool","int","str","list","tuple"]:=by
 cases d<;>cases h<;>decide
theorem b2o{F H:Hp}{d:D}{t:String}{v:V}(s:Same F H)(p:Rp K cl F d v)(h:tyN d=some t):TyX K H v (.type t):=by
 cases d<;>cases h<;>simp only[Rp]at p
 ·subst p;exact .of .non
 ·subst p;exact .of (.bl _)
 ·subst p;exact .of (.int _)
 ·subst p;exact .of (.str _)
 ·obtain⟨a,xs,rfl,h,_⟩:=p;exact .of (.tup (s _ _ h))
 ·obtain⟨a,xs,rfl,h,_⟩:=p;exact .of (.lst (s _ _ h))
def a3e(n:String)(d:D):Option D:=match tyN d with
 | some t=>if n∈["bool","int","str","list","tuple"]then some (.bl (t == n || (t == "bool" && n == "int")))else none
 | none=>none
def a1Q(i:Nat)(n:String):ZF:=fun e=>match look e i with
 | some d=>Y2 (a3e n d) e
 | none=>none
theorem a0D{E:XK}{i:Nat}{n:String}{t:TE}(ht:t=tC (.ty n):=by rfl):k6 K cl E (tCB (a3D K) (F5 (D1 i) (F5 t Q0))) (a1Q i n):=by
 subst ht
 intro σ H Q env F R h
 unfold a1Q at h
 cases q:look env i with
 | none=>rw[q]at h;exact h.elim
 | some d =>
  rw[q]at h
  obtain⟨x,e,rb⟩:=R.look q
  refine⟨x,e,?_⟩
  cases hz:a3e n d with
  | none=>simp only[hz,W4]at h;exact h.elim
  | some z =>
   simp only[hz,W3]at h
   unfold a3e at hz
   split at hz
   ·rename_i t ht
    split at hz
    ·rename_i hn;cases hz
     refine⟨x,_,_,_,_,rfl,rfl,?_,b0h t n (b0i ht) hn,h _ H F Frm.refl R (by show Rp K cl F (.bl _) _;simp only[Rp])⟩
     rcases rb with p | ⟨a,xs,ds,rfl,rfl,hH,_⟩
     ·exact b2o R.sub p ht
     ·cases ht;exact .of (.lst hH)
    ·cases hz
   ·cases hz
end
section
variable {P:Program}{w:World}{mg:Str→Option Value}{base:Heap}{K:W.Frag}{cl:Str→Addr}{E:XK}
theorem a8i{g:List D→Option R1}{t:TA}{f:AF}(hf:L8 K cl E t f):k6 K cl E (a1r (i3 K cl g) t) (i7 g f):=by
 intro σ H Q env F R h
 refine hf σ H _ env F R ((Ct.bnd h B4).mono fun vs H1 ⟨F1,e1,ds,s1,R1,p1,h1⟩=>?_)
 obtain⟨z,n⟩:=a4W h1
 have:i3 K cl g (vs++[]) H1 Q E0:=by
  refine a1N R1 p1 ?_
  rw[z]
  unfold Ct at h1 ⊢
  split at h1
  ·exact h1
  ·exact h1
  ·rename_i c q
   exact absurd q (by unfold Q3;split<;>intro y<;>cases y)
 rw[List.append_nil]at this
 exact this
theorem a4Y{i:Nat}{g:List D→Option R1}{t:TA}{f:AF}(hf:L8 K cl E t f):RfS K cl E (V7 (a1r (i3 K cl g) t) (S3 i)) (x8 i g f):=by
 intro N σ H env F R h
 refine hf σ H _ env F R ((Cs.bnd h).mono fun vs H1 ⟨F1,e1,ds,fr,R1,p1,h1⟩=>?_)
 refine⟨ds,F1,R1.sub,p1,?_⟩
 unfold Q4 at h1
 split at h1
 ·rename_i q;rw[q]
  obtain⟨hi,nh,h2⟩:=Q5 h1
  exact fun v H' F' gr r=>h2 _ H' F' ((fr.trans (R1.frm gr)).trans (Frm.put nh)) ((R1.gr gr).put hi nh r)
 ·rename_i q;rw[q]
  obtain⟨hi,nh,h2⟩:=Q5 h1
  intro a xs H' F' gr ha hH hF r
  refine h2 _ H' F' ((fr.trans (R1.frm gr)).putO (fr.dom a ha) nh) ((R1.gr gr).putO hi hH hF (fun j mj e=>?_) r)
  obtain⟨es,q⟩:=mj
  obtain⟨b,ys,e',hb,_⟩:=R1.mu j es q
  rw[e]at e';cases e'
  rw[ha]at hb;cases hb
 ·exact h1.elim
theorem Fun.okWD{x qual:Str}{st:Stmt}{f:Addr}{fd:FuncData}{N ps:List Str}{k:Nat}{body:SF}(F:Fun K x qual st f fd)(S:FnScope N ps (b9 st))
  (hbody:∀(cdv:Value) (A:Around) (outer:List Env) (s:Shared) (H:Hp),RoomW k (A.deeper (envOfC qual (b9 st) s.heap.objs.size f cdv)) →
   ∃t,PSs (a1q P w K mg base N qual (b9 st) f cdv A outer s H) (i4 st) t∧RfS K cl E0 t body):FnOkW P w K mg base (k+1) f fd ps (i3 K cl (fD N.length ps.length body)) :=
 F.okW S (fun vs H Q E h=>V0 h) fun cdv A outer s H vs Q hr h=>by
  obtain⟨t,h1,h2⟩:=hbody cdv A outer s H hr
  exact⟨t,h1,K4 h2 h⟩
def a3X:D→Option Str
 | .cls n=>some n
 | _=>none
def a3f(xT:Str→List Str→Option Bool):List D→Option D
 | [.exc c,.tup cs]=>match cs.mapM a3X with
  | some ns=>(xT c ns).map .bl
  | none=>none
 | [.exv c _ _,.tup cs]=>match cs.mapM a3X with
  | some ns=>(xT c ns).map .bl
  | none=>none
 | _=>none
def a0E(x1:Str→Str→Option Bool)(x2:Str→String→Option Bool):List D→Option D
 | [.exc c,.cls n]=>(x1 c n).map .bl
 | [.exc c,.ty n]=>(x2 c n).map .bl
 | [.exv c _ _,.cls n]=>(x1 c n).map .bl
 | [.exv c _ _,.ty n]=>(x2 c n).map .bl
 | _=>none
theorem a1b:∀{cs:List D} {ns:List Str} {F:Hp} {ys:List V},cs.mapM a3X=some ns→Rps K cl F cs ys→ys.mapM a00=some (ns.map fun m=>Value.ref (cl m))
 | [],_,_,_,h,p=>by cases h;rw[p.inv0];rfl
 | c::cs,_,_,_,h,p=>by
  obtain⟨v,r,rfl,p1,p2⟩:=p.inv
  rw[List.mapM_cons]at h ⊢
  cases hc:a3X c with
  | none=>rw[hc]at h;cases h
  | some n =>
   rw[hc]at h
   cases hcs:cs.mapM a3X with
   | none=>rw[hcs]at h;cases h
   | some ns =>
    rw[hcs]at h;cases h
    have hv:v=.ref (cl n):=by
     cases c<;>cases hc
     simpa only[Rp]using p1
    rw[hv,a1b hcs p2];rfl
theorem a4Z{xT:Str→List Str→Option Bool}(hx:∀c ns b,xT c ns=some b→W.ExcT K (cl c)∧W.kitAny K (.ref (cl c)) (ns.map fun m=>.ref (cl m))=some b):a2p K cl (a5y K) (a3f xT):=by
 intro xs ds z H F Q s p h q
 unfold a3f at h
 split at h
 ·rename_i c cs
  split at h
  ·rename_i ns hn
   cases hb:xT c ns with
   | none=>rw[hb]at h;cases h
   | some b =>
    rw[hb]at h;cases h
    obtain⟨v,r,rfl,p1,p2⟩:=p.inv
    obtain⟨u,r',rfl,p3,p4⟩:=p2.inv
    rw[p4.inv0]
    simp only[Rp]at p1 p3
    obtain⟨a,cx,rfl,ha⟩:=p1
    obtain⟨t,ys,rfl,ht,r⟩:=p3
    obtain⟨hT,hk⟩:=hx c ns b hb
    exact⟨_,t,ys,_,_,b,rfl,s _ _ ht,a1b hn r,.exc (s _ _ ha) hT,hk,q _ H F (.refl s) (by simp only[Rp])⟩
  ·cases h
 ·rename_i c f' d' cs
  split at h
  ·rename_i ns hn
   cases hb:xT c ns with
   | none=>rw[hb]at h;cases h
   | some b =>
    rw[hb]at h;cases h
    obtain⟨v,r,rfl,p1,p2⟩:=p.inv
    obtain⟨u,r',rfl,p3,p4⟩:=p2.inv
    rw[p4.inv0]
    simp only[Rp]at p1 p3
    obtain⟨a,dx,y,rfl,ha,_⟩:=p1
    obtain⟨t,ys,rfl,ht,r⟩:=p3
    obtain⟨hT,hk⟩:=hx c ns b hb
    exact⟨_,t,ys,_,_,b,rfl,s _ _ ht,a1b hn r,.exc (s _ _ ha) hT,hk,q _ H F (.refl s) (by simp only[Rp])⟩
  ·cases h
 ·cases h
theorem a0F{x1:Str→Str→Option Bool}{x2:Str→String→Option Bool}(h1:∀c n b,x1 c n=some b→W.ExcT K (cl c)∧W.kitOne K (.ref (cl c)) (.ref (cl n))=some b)
  (h2:∀c n b,x2 c n=some b→W.ExcT K (cl c)∧W.kitOne K (.ref (cl c)) (.type n)=some b):a2p K cl (a3D K) (a0E x1 x2):=by
 intro xs ds z H F Q s p h q
 unfold a0E at h
 split at h
 ·rename_i c n
  cases hb:x1 c n with
  | none=>rw[hb]at h;cases h
  | some b =>
   rw[hb]at h;cases h
   obtain⟨v,r,rfl,p1,p2⟩:=p.inv
   obtain⟨u,r',rfl,p3,p4⟩:=p2.inv
   rw[p4.inv0]
   simp only[Rp]at p1 p3
   obtain⟨a,cx,rfl,ha⟩:=p1
   subst p3
   obtain⟨hT,hk⟩:=h1 c n b hb
   exact⟨_,_,_,_,b,rfl,rfl,.exc (s _ _ ha) hT,hk,q _ H F (.refl s) (by simp only[Rp])⟩
 ·rename_i c n
  cases hb:x2 c n with
  | none=>rw[hb]at h;cases h
  | some b =>
   rw[hb]at h;cases h
   obtain⟨v,r,rfl,p1,p2⟩:=p.inv
   obtain⟨u,r',rfl,p3,p4⟩:=p2.inv
   rw[p4.inv0]
   simp only[Rp]at p1 p3
   obtain⟨a,cx,rfl,ha⟩:=p1
   subst p3
   obtain⟨hT,hk⟩:=h2 c n b hb
   exact⟨_,_,_,_,b,rfl,rfl,.exc (s _ _ ha) hT,hk,q _ H F (.refl s) (by simp only[Rp])⟩
 ·rename_i c f' d' n
  cases hb:x1 c n with
  | none=>rw[hb]at h;cases h
  | some b =>
   rw[hb]at h;cases h
   obtain⟨v,r,rfl,p1,p2⟩:=p.inv
   obtain⟨u,r',rfl,p3,p4⟩:=p2.inv
   rw[p4.inv0]
   simp only[Rp]at p1 p3
   obtain⟨a,dx,y,rfl,ha,_⟩:=p1
   subst p3
   obtain⟨hT,hk⟩:=h1 c n b hb
   exact⟨_,_,_,_,b,rfl,rfl,.exc (s _ _ ha) hT,hk,q _ H F (.refl s) (by simp only[Rp])⟩
 ·rename_i c f' d' n
  cases hb:x2 c n with
  | none=>rw[hb]at h;cases h
  | some b =>
   rw[hb]at h;cases h
   obtain⟨v,r,rfl,p1,p2⟩:=p.inv
   obtain⟨u,r',rfl,p3,p4⟩:=p2.inv
   rw[p4.inv0]
   simp only[Rp]at p1 p3
   obtain⟨a,dx,y,rfl,ha,_⟩:=p1
   subst p3
   obtain⟨hT,hk⟩:=h2 c n b hb
   exact⟨_,_,_,_,b,rfl,rfl,.exc (s _ _ ha) hT,hk,q _ H F (.refl s) (by simp only[Rp])⟩
 ·cases h
end
section
variable {α β:Type}
def O1(r:Option RS)(k:SF):Option RS:=match r with
 | some (.nx e)=>k e
 | r=>r
theorem b0j{f k:SF}{e:DE}:g6 f k e=O1 (f e) k:=rfl
theorem b0k{e:DE}{k:SF}:O1 (some (.nx e)) k=k e:=rfl
theorem b0l{d:D}{k:SF}:O1 (some (.rt d)) k=some (.rt d):=rfl
theorem b0m{d:List D}{k:SF}:O1 (some (.ro d)) k=some (.ro d):=rfl
theorem b0n{d:XN}{k:SF}:O1 (some (.ex d)) k=some (.ex d):=rfl
theorem b0o{e:DE}{k:SF}:O1 (some (.bk e)) k=some (.bk e):=rfl
theorem b0p{e:DE}{k:SF}:O1 (some (.ct e)) k=some (.ct e):=rfl
theorem b0q{k:SF}:O1 none k=none:=rfl
theorem a8j{c:Prop} [Decidable c] {a b:Option RS} {k:SF}:O1 (if c then a else b) k=if c then O1 a k else O1 b k:=by split<;>rfl
theorem b0r{d:D}{e:DE}:Y3 (some (.ret d)) e=some (.ok d e):=rfl
theorem b0s{d:List D}{e:DE}:Y3 (some (.own d)) e=some (.ok (.lst d) e):=rfl
theorem b2p{d:XN}{e:DE}:Y3 (some (.ex d)) e=some (.ex d):=rfl
theorem a8k{d:D}{e:DE}:Q3 (some (.ret d)) e=some (.ok d e):=rfl
theorem a8l{d:List D}{e:DE}:Q3 (some (.own d)) e=some (.ok (.lst d) e):=rfl
theorem a6S{i:Nat}{d:D}{e:DE}:a1M i (some (.ret d)) e=put i (.fz d) e:=rfl
theorem a6T{i:Nat}{d:List D}{e:DE}:a1M i (some (.own d)) e=put i (.ow d) e:=rfl
theorem a8m{i:Nat}{d:XN}{e:DE}:a1M i (some (.ex d)) e=some (.ex d):=rfl
theorem a5N{i:Nat}{d:D}{e:DE}:Q4 i (some (.ret d)) e=put i (.fz d) e:=rfl
theorem a5O{i:Nat}{d:List D}{e:DE}:Q4 i (some (.own d)) e=put i (.ow d) e:=rfl
theorem a6U{d:D}:a3d (some (.ret d))=some (.rt d):=rfl
theorem a6V{d:List D}:a3d (some (.own d))=some (.ro d):=rfl
theorem a8n{d:XN}:a3d (some (.ex d))=some (.ex d):=rfl
theorem a5P{d:D}:a6N (some (.ret d))=some (.rt d):=rfl
theorem a5Q{d:List D}:a6N (some (.own d))=some (.ro d):=rfl
def O2(r:Option RS):Option R1:=match r with
 | some (.nx _)=>some (.ret .non)
 | some (.rt d)=>some (.ret d)
 | some (.ro es)=>some (.own es)
 | some (.rz dss)=>some (.owz dss)
 | some (.rp n es)=>some (.owp n es)
 | some (.ex c)=>some (.ex c)
 | _=>none
theorem b3f{n m:Nat}{body:SF}{ds:List D}(h:ds.length=m):fD n m body ds=O2 (body (ds.map .fz++List.replicate (n-m) .no)):=by
 unfold fD;rw[if_pos h,h];rfl
theorem b0t{e:DE}:O2 (some (.nx e))=some (.ret .non):=rfl
theorem b0u{d:D}:O2 (some (.rt d))=some (.ret d):=rfl
theorem b0v{d:List (List D)}:O2 (some (.rz d))=some (.owz d):=rfl
theorem b0w{d:List (List D)}{k:SF}:O1 (some (.rz d)) k=some (.rz d):=rfl
theorem a6W{d:List (List D)}:a3d (some (.owz d))=some (.rz d):=rfl
theorem b0x{d:List D}:O2 (some (.ro d))=some (.own d):=rfl
theorem b0y{d:XN}:O2 (some (.ex d))=some (.ex d):=rfl
theorem a8o{c:Prop} [Decidable c] {a b:Option RS}:O2 (if c then a else b)=if c then O2 a else O2 b:=by split<;>rfl
def Q7(r:Option RS)(k:SF):Option RS:=match r with
 | some (.nx e)=>k e
 | some (.ct e)=>k e
 | some (.bk e)=>some (.nx e)
 | r=>r
theorem a40{e:DE}{k:SF}:Q7 (some (.nx e)) k=k e:=rfl
theorem b0z{e:DE}{k:SF}:Q7 (some (.ct e)) k=k e:=rfl
theorem b0A{e:DE}{k:SF}:Q7 (some (.bk e)) k=some (.nx e):=rfl
theorem b0B{d:D}{k:SF}:Q7 (some (.rt d)) k=some (.rt d):=rfl
theorem b0C{d:List (List D)}{k:SF}:Q7 (some (.rz d)) k=some (.rz d):=rfl
theorem b0D{d:List D}{k:SF}:Q7 (some (.ro d)) k=some (.ro d):=rfl
theorem a41{d:XN}{k:SF}:Q7 (some (.ex d)) k=some (.ex d):=rfl
theorem a8p{b:GF}{body:SF}{e:DE}:m9 b body [] e=some (.nx e):=rfl
def X0(x:Option DE)(k:SF):Option RS:=match x with
 | none=>none
 | some e=>k e
theorem T3{b:GF}{body:SF}{d:D}{ds:List D}{e:DE}:m9 b body (d::ds) e=X0 (b d e) fun e1=>Q7 (body e1) (m9 b body ds):=by
 rw[m9];cases b d e<;>rfl
theorem y2{e:DE}{k:SF}:X0 (some e) k=k e:=rfl
def a3Y(n i:Nat)(exm:Str→Bool)(suite:SF)(e:DE)(r:Option RS):Option RS:=match r with
 | some (.ex (.v _ _ _))=>none
 | some (.ex (.p c))=>if(exm c && W9 e)=true then(match suite ((List.replicate n Sl.no).set i (.fz (.exc c)))with
   | some (.nx e2)=>put i .no e2
   | some (.rt d)=>some (.rt d)
   | some (.ro ds)=>some (.ro ds)
   | _=>none)else none
 | r=>r
theorem a6X{n i:Nat}{exm:Str→Bool}{body suite:SF}{e:DE}:b2n n i exm body suite e=a3Y n i exm suite e (body e):=rfl
def a5R(i:Nat)(r:Option RS):Option RS:=match r with
 | some (.nx e2)=>put i .no e2
 | some (.rt d)=>some (.rt d)
 | some (.ro ds)=>some (.ro ds)
 | _=>none
theorem b0E{i:Nat}{e:DE}:a5R i (some (.nx e))=put i .no e:=rfl
theorem b0F{i:Nat}{d:D}:a5R i (some (.rt d))=some (.rt d):=rfl
theorem b0G{i:Nat}{d:List D}:a5R i (some (.ro d))=some (.ro d):=rfl
theorem b0H{n i:Nat}{exm:Str→Bool}{suite:SF}{e:DE}{c:Str}:a3Y n i exm suite e (some (.ex (.p c)))=if(exm c && W9 e)=true then a5R i (suite ((List.replicate n Sl.no).set i (.fz (.exc c))))else none:=rfl
theorem b0I{n i:Nat}{exm:Str→Bool}{suite:SF}{e:DE}{d:D}:a3Y n i exm suite e (some (.rt d))=some (.rt d):=rfl
theorem b0J{n i:Nat}{exm:Str→Bool}{suite:SF}{e:DE}{d:List D}:a3Y n i exm suite e (some (.ro d))=some (.ro d):=rfl
theorem b0K{n i:Nat}{exm:Str→Bool}{suite:SF}{e e1:DE}:a3Y n i exm suite e (some (.nx e1))=some (.nx e1):=rfl
theorem b0L(a b:Int):N9 (.int a) (.int b)=some (.int (a+b)):=rfl
theorem b0M(a b:Int):W6 (.int a) (.int b)=some (.int (a-b)):=rfl
theorem b2q(a b:Int):gLt (.int a) (.int b)=some (.bl (decide (a<b))):=rfl
theorem b2r(a b:Int):gGt (.int a) (.int b)=some (.bl (decide (b<a))):=rfl
theorem b2s(a b:Int):gGe (.int a) (.int b)=some (.bl (decide (b≤a))):=rfl
theorem b0N{a b:Int}(h:0<b∧b.natAbs.log2<9000):z9 (.int a) (.int b)=some (.int (a/b)):=by show(if _ then _ else _)=_;rw[if_pos h]
theorem a42{a b:Int}(h:0<b):p5 (.int a) (.int b)=some (.int (a%b)):=by show(if _ then _ else _)=_;rw[if_pos h]
theorem a43{a b:Int}(h:a18 a b):W7 (.int a) (.int b)=some (.int (a ^ b.toNat)):=by show(if _ then _ else _)=_;rw[if_pos h]
end
def Fits(i:Int):Prop:=Builtin.Int.intBits i≤2 ^ 20
theorem b0O{a b:Int}(h:a.natAbs≤b.natAbs):Builtin.Int.intBits a≤Builtin.Int.intBits b:=by
 unfold Builtin.Int.intBits
 split
 ·exact Nat.zero_le _
 ·rename_i ha
  have ha':a.natAbs≠0:=by
   intro z;apply ha;first | exact Int.natAbs_eq_zero.mp z | (simpa using z)
  have hb':b.natAbs≠0:=by omega
  split
  ·rename_i hb
   exact absurd (by first | exact Int.natAbs_eq_zero.mpr hb | (simpa using hb)) hb'
  ·have h1:b.natAbs<2 ^ (b.natAbs.log2+1):=Nat.lt_log2_self
   have h2:a.natAbs.log2<b.natAbs.log2+1:=(Nat.log2_lt ha').mpr (by omega)
   omega
theorem Fits.le{a b:Int}(h:Fits b)(l:a.natAbs≤b.natAbs):Fits a:=Nat.le_trans (b0O l) h
theorem Fits.mod{i n:Int}(hn:0<n)(h:Fits n):Fits (i%n):=by
 refine h.le ?_
 have h1:=Int.emod_nonneg i (show n≠0 by omega)
 have h2:=Int.emod_lt_of_pos i hn
 omega
section
variable {α:Type}
theorem a9q{a:α}{l:List α}:atI (a::l) 0=some a:=by unfold atI D6;simp
theorem a1R{a:α}{l:List α}{n:Nat}:atI (a::l) ((n:Int)+1)=atI l n:=by
 unfold atI D6
 have h1:(0:Int)≤(n:Int)+1:=by omega
 have h2:(0:Int)≤(n:Int):=by omega
 rw[if_pos h1,if_pos h2]
 by_cases z:(n:Int)<(l.length:Int)
 ·rw[if_pos z,if_pos (by rw[List.length_cons];push_cast;omega)]
  show(a::l)[((n:Int)+1).toNat]? = l[((n:Int)).toNat]?
  rw[show((n:Int)+1).toNat=n+1 by omega,show((n:Int)).toNat=n by omega]
  rfl
 ·rw[if_neg z,if_neg (by rw[List.length_cons];push_cast;omega)]
  rfl
theorem a9r{a b:α}{l:List α}:atI (a::b::l) 1=some b:=(a1R (n:=0)).trans a9q
theorem b3g{a b c:α}{l:List α}:atI (a::b::c::l) 2=some c:=(a1R (n:=1)).trans a9r
theorem b3h{a b c d:α}{l:List α}:atI (a::b::c::d::l) 3=some d:=(a1R (n:=2)).trans b3g
theorem b3i{a b c d e:α}{l:List α}:atI (a::b::c::d::e::l) 4=some e:=(a1R (n:=3)).trans b3h
theorem b4s{a b c d e f:α}{l:List α}:atI (a::b::c::d::e::f::l) 5=some f:=(a1R (n:=4)).trans b3i
end
def m4(ns:List Int)(k:Int):Int:=ns.getD k.toNat 0
theorem b0P{ns:List Int}{k:Int}(hk:0≤k):(if k<(ns.length:Int)then(match atI ns k with
  | none=>none
  | some n=>some (R1.ret (D.int n)))else some (R1.ret (D.int 0)))=some (R1.ret (D.int (m4 ns k))):=by
 unfold m4
 by_cases z:k<(ns.length:Int)
 ·rw[if_pos z]
  have h:k.toNat<ns.length:=by omega
  have e:atI ns k=some ns[k.toNat]:=by
   unfold atI D6
   rw[if_pos hk,if_pos z]
   exact List.getElem?_eq_getElem h
  rw[e,List.getD_eq_getElem?_getD,List.getElem?_eq_getElem h];rfl
 ·rw[if_neg z,List.getD_eq_getElem?_getD,List.getElem?_eq_none (by omega)];rfl
section
variable {K:W.Frag}{cl:Str→Addr}{E:XK}{σ:St}{H F:Hp}{env:DE}{k:Nat}
def oN:OF:=fun e=>some (.ok none e)
def oS(f:ZF):OF:=fun e=>bnd (f e) fun d e1=>match d with
 | .int i=>some (.ok (some i) e1)
 | _=>none
theorem X1:RfO K cl E a4F oN:=fun σ H Q env F R h=>h none H F Frm.refl R rfl
theorem K5{t:TE}{f:ZF}(hf:k6 K cl E t f):RfO K cl E (a9b t) (oS f):=by
 intro σ H Q env F R h
 refine hf σ H _ env F R ((Ct.bnd h b3Y).mono fun x H1 ⟨F1,e1,d,s1,R1,p1,h1⟩=>?_)
 split at h1
 ·rename_i i
  have:x=.int i:=by have:=(show Rp K cl F1 (.int i) x from p1);simpa only[Rp]using this
  exact⟨i,this,h1 _ H1 F1 Frm.refl R1 rfl⟩
 ·exact h1.elim
def M4(xs:List D)(lo hi:Option Int):List D:=(xs.drop (HT.sIx xs.length 0 lo)).take (HT.sIx xs.length xs.length hi-HT.sIx xs.length 0 lo)
theorem Rps.cut{ds:List D}{xs:List V}(h:Rps K cl F ds xs)(lo hi:Option Int):Rps K cl F (M4 ds lo hi) (a2a xs lo hi):=by
 unfold M4 a2a
 rw[h.length]
 exact(h.drop _).take _
def Q8(i:Nat)(l u:OF):NF:=fun e=>match look e i with
 | none=>none
 | some _=>bnd (l e) fun lo e2=>bnd (u e2) fun hi e3=>match look e3 i with
  | some d=>(match seqL d with
   | some ds=>some (.ok (M4 ds lo hi) e3)
   | none=>none)
  | none=>none
theorem Rb.seqL{d:D}{ds:List D}{v:V}(s:Same F H)(p:Rb K cl F H d v)(q:L2.seqL d=some ds):∃a xs,v=.ref a∧Rps K cl F ds xs∧SqL K H a xs:=by
 rcases p with p | ⟨a,xs,es,e,rfl,h,r⟩
 ·obtain⟨a,xs,e,r,l⟩:=Rp.seqL p q;exact⟨a,xs,e,r,l H s⟩
 ·cases q;exact⟨a,xs,e,r,.of h⟩
theorem a3Z{i:Nat}{tl tu:TO}{l u:OF}(hl:RfO K cl E tl l)(hu:RfO K cl E tu u):RfN K cl E (tSl (a7M K) (D1 i) tl tu) (Q8 i l u):=by
 intro σ H Q env F R h
 unfold Q8 at h
 cases q:look env i with
 | none=>rw[q]at h;exact h.elim
 | some d0 =>
  rw[q]at h
  obtain⟨x,e0,_⟩:=R.look q
  refine⟨x,e0,?_⟩
  refine hl σ H _ env F R ((Ct.bnd h a06).mono fun lo H2 ⟨F2,e2,lo',s2,R2,p2,h2⟩=>?_)
  refine hu σ H2 _ e2 F2 R2 ((Ct.bnd h2 a06).mono fun hi H3 ⟨F3,e3,hi',s3,R3,p3,h3⟩=>?_)
  cases (show lo=lo' from p2)
  cases (show hi=hi' from p3)
  cases q2:look e3 i with
  | none=>simp only[q2]at h3;exact h3.elim
  | some d =>
   simp only[q2]at h3
   obtain⟨x',e',rb⟩:=R3.look q2
   rw[e0]at e';cases e'
   split at h3
   ·rename_i ds hs
    obtain⟨a,xs,rfl,r,hq⟩:=rb.seqL R3.sub hs
    exact⟨a,xs,rfl,hq,fun p hp=>Ct.newN R3 hp (r.cut _ _) h3⟩
   ·exact h3.elim
end
section
variable {P:Program}{w:World}{mg:Str→Option Value}{base:Heap}{K:W.Frag}{cl:Str→Addr}{E:XK}{σ:St}{H F:Hp}{env:DE}{k:Nat}
def N3:List D→Option (List Int)
 | []=>some []
 | .int b::ds=>(N3 ds).map (b :: ·)
 | _=>none
theorem a2t:∀{ds:List D} {bs:List Int},N3 ds=some bs→ds=bs.map .int
 | [],_,h=>by cases h;rfl
 | .int b::ds,_,h=>by
  unfold N3 at h
  cases q:N3 ds with
  | none=>rw[q]at h;cases h
  | some bs=>rw[q]at h;cases h;rw[a2t q];rfl
 | .non::_,_,h=>by cases h
 | .bl _::_,_,h=>by cases h
 | .str _::_,_,h=>by cases h
 | .ty _::_,_,h=>by cases h
 | .cls _::_,_,h=>by cases h
 | .tup _::_,_,h=>by cases h
 | .lst _::_,_,h=>by cases h
 | .scr _::_,_,h=>by cases h
 | .exc _::_,_,h=>by cases h
 | .obj _ _ _::_,_,h=>by cases h
 | .dic _ _::_,_,h=>by cases h
 | .exv _ _ _::_,_,h=>by cases h
end
def b2t(x:Option DE)(k:DE→Option (R (List D))):Option (R (List D)):=match x with
 | none=>none
 | some e=>k e
theorem a2T{e:DE}{k:DE→Option (R (List D))}:b2t (some e) k=k e:=rfl
theorem a6Y{b:GF}{c:BF}{el:ZF}{ec eo:DE}{acc:List D}:r0 b c el ec eo [] acc=some (.ok acc eo):=rfl
theorem a1S{b:GF}{c:BF}{el:ZF}{ec eo:DE}{d:D}{ds acc:List D}:r0 b c el ec eo (d::ds) acc=b2t (b d ec) fun e1=>bnd (c e1) fun t e2=>if t=true then bnd (el e2) fun y _=>if acc.length<sizeLine then r0 b c el ec eo ds (acc++[y])else none else r0 b c el ec eo ds acc:=by
 rw[r0];cases b d ec<;>rfl
section
variable {K:W.Frag}{cl:Str→Addr}{E:XK}{σ:St}{H F:Hp}{env:DE}{k:Nat}
def a1T:List D→Option D
 | [.int i,.int j]=>some (.int (if j > i then j else i))
 | _=>none
theorem b0Q:a2p K cl (fun xs H Q=>∃i j,xs=[.int i,.int j]∧Q (.int (if j > i then j else i)) H) a1T:=by
 intro xs ds z H F Q s p h q
 unfold a1T at h
 split at h
 ·rename_i i j;cases h
  exact⟨i,j,Rps.ints (ns:=[i,j]) p,q _ H F (.refl s) (by simp only[Rp])⟩
 ·cases h
theorem b2u:bootBuiltins "min" = some (.builtin "min"):=by decide +kernel
def inD(d:D)(es:List D):Bool:=es.any fun e=>O4 e d
theorem Rps.inV{d:D}{v:V}(p:Rp K cl F d v)(f:j0 d=true):∀{es:List D} {us:List V},Rps K cl F es us→es.all j0=true→L2.inV v us=inD d es
 | [],_,h,_=>by rw[h.inv0];rfl
 | e::es,_,h,fe=>by
  obtain⟨u,r,rfl,h1,h2⟩:=h.inv
  rw[List.all_cons,Bool.and_eq_true]at fe
  have:=Rps.inV p f h2 fe.2
  unfold L2.inV inD at this ⊢
  rw[List.any_cons,List.any_cons,h1.eq p fe.1 f,this]
def gIn(neg:Bool)(d e:D):Option D:=match e with
 | .lst es=>if(j0 d && es.all j0)=true then some (.bl (if neg then !inD d es else inD d es))else none
 | .tup es=>if(j0 d && es.all j0)=true then some (.bl (if neg then !inD d es else inD d es))else none
 | _=>none
theorem Rb.flat{d:D}{v:V}(h:Rb K cl F H d v)(f:j0 d=true):Rp K cl F d v:=by
 rcases h with h | ⟨_,_,_,_,rfl,_⟩
 ·exact h
 ·cases f
theorem b3j{neg:Bool}:OpOk K cl (rIn K neg) (gIn neg):=by
 intro x y d e z H F Q s hx hy h q
 unfold gIn at h
 split at h
 ·split at h
  ·rename_i c;cases h
   rw[Bool.and_eq_true]at c
   obtain⟨a,xs,rfl,hH,r⟩:=hy.lst s
   have px:=hx.flat c.1
   refine⟨a,xs,rfl,.inl (.of hH),(px.flat c.1).2,r.flat c.2,q _ H F (.refl s) ?_⟩
   simp only[Rp];rw[r.inV px c.1 c.2]
  ·cases h
 ·split at h
  ·rename_i c;cases h
   rw[Bool.and_eq_true]at c
   obtain⟨a,xs,rfl,hH,r⟩:=hy.tup s
   have px:=hx.flat c.1
   refine⟨a,xs,rfl,.inr (.of hH),(px.flat c.1).2,r.flat c.2,q _ H F (.refl s) ?_⟩
   simp only[Rp];rw[r.inV px c.1 c.2]
  ·cases h
 ·cases h
def a2u(i:Nat)(g:Int→Int→Int)(f:ZF):SF:=fun e=>match e[i]? with
 | some (.fz (.int a))=>C9 (f e) fun d e1=>match d with
  | .int b=>put i (.fz (.int (g a b))) e1
  | _=>none
 | _=>none
theorem b2v{i:Nat}{g:Int→Int→Int}{t:TE}{f:ZF}(hf:k6 K cl E t f):RfS K cl E (b1F i t (ipI g)) (a2u i g f):=by
 intro N σ H env F R h
 unfold a2u at h
 split at h
 ·rename_i a q
  obtain⟨v,e,r⟩:=R.fz i _ q
  simp only[Rp]at r
  subst r
  refine⟨_,e,hf σ H _ env F R ((Cs.bnd h).mono fun y H1 ⟨F1,e1,d,fr,R1,p1,h1⟩=>?_)⟩
  split at h1
  ·rename_i b
   have hy:y=.int b:=by have:=(show Rp K cl F1 (.int b) y from p1);simpa only[Rp]using this
   obtain⟨hi,nh,h2⟩:=Q5 h1
   exact⟨a,b,rfl,hy,h2 _ H1 F1 (fr.trans (Frm.put nh)) (R1.put hi nh (by simp only[Rp]))⟩
  ·exact h1.elim
 ·exact h.elim
theorem tyL{i:Nat}{ds:List D}(R:Rel K cl σ H F env)(q:look env i=some (.lst ds)):∃a,σ[i]? = some (some (.ref a))∧tyV K "list" (.ref a) H:=by
 obtain⟨x,e0,rb⟩:=R.look q
 obtain⟨a,xs,rfl,hH,_⟩:=rb.lst R.sub
 exact⟨a,e0,.inl ⟨rfl,xs,.of hH⟩⟩
def B2(d e:D):Option D:=match d,e with
 | .str i,.str j=>if i.length+j.length≤sizeLine then some (.str (i++j))else none
 | _,_=>none
theorem M5:OpOk K cl (fun x y H Q=>∃i j,x=.str i∧y=.str j∧i.length+j.length≤sizeLine∧Q (.str (i++j)) H) B2:=by
 intro x y d e z H F Q s hx hy h q
 unfold B2 at h
 split at h
 ·rename_i i j
  split at h
  ·rename_i c;cases h
   exact⟨i,j,hx.str,hy.str,c,q _ H F (.refl s) (by simp only[Rp])⟩
  ·cases h
 ·cases h
end
mutual
def n6:D→D→Bool
 | .tup ds,e=>(match e with
  | .tup es=>D4 ds es
  | _=>false)
 | .lst ds,e=>(match e with
  | .lst es=>D4 ds es
  | _=>false)
 | d,e=>O4 d e
def D4:List D→List D→Bool
 | [],es=>es.isEmpty
 | d::ds,es=>(match es with
  | []=>false
  | e::es=>n6 d e && D4 ds es)
end
mutual
def i2:D→Bool
 | .tup ds=>w4 ds
 | .lst ds=>w4 ds
 | d=>j0 d
def w4:List D→Bool
 | []=>true
 | d::ds=>i2 d && w4 ds
end
mutual
def K6:D→Nat
 | .tup ds=>C5 ds+1
 | .lst ds=>C5 ds+1
 | _=>0
def C5:List D→Nat
 | []=>0
 | d::ds=>max (K6 d) (C5 ds)
end
def a32(ds es:List D)(j:Nat):Bool:=match ds[j]?,es[j]? with
 | some d,some e=>n6 d e
 | _,_=>true
theorem K7:∀{ds es:List D},ds.length=es.length→(List.range ds.length).all (a32 ds es)=D4 ds es
 | [],[],_=>by simp[D4]
 | d::ds,e::es,h=>by
  have h':ds.length=es.length:=by simpa using h
  simp only[D4]
  show(List.range (ds.length+1)).all _=(n6 d e && D4 ds es)
  rw[List.range_succ_eq_map,List.all_cons,List.all_map,← K7 h']
  rfl
theorem Q9:∀{ds es:List D},ds.length≠es.length→D4 ds es=false
 | [],[],h=>absurd rfl h
 | _::_,[],_=>by simp[D4]
 | [],_::_,_=>by simp[D4]
 | d::ds,e::es,h=>by
  simp only[D4]
  rw[Q9 (fun q=>h (by simp[q])),Bool.and_false]
section
variable {K:W.Frag}{cl:Str→Addr}{F:Hp}
theorem X2{d e:D}{v:V}(fd:j0 d=true)(p:Rp K cl F d v)(q:Rp K cl F e v)(pe:i2 e=true):O4 d e=true:=by
 cases d<;>first | (cases fd;done) | skip
 all_goals simp only[Rp]at p;subst p
 all_goals cases e<;>simp only[Rp]at q<;>first | (cases q;done) | (cases q;simp[O4];done) | (obtain⟨_,_,z,_⟩:=q;cases z;done) | (obtain⟨_,z,_⟩:=q;cases z;done) | (simp[i2,j0]at pe;done)
mutual
theorem a2v:∀(d e:D) (v:V),Rp K cl F d v→Rp K cl F e v→i2 d=true→i2 e=true→n6 d e=true
 | .tup ds,e,v,p,q,pd,pe=>by
  simp only[Rp]at p
  obtain⟨a,xs,rfl,ha,r⟩:=p
  cases e<;>simp only[Rp]at q
  case tup es =>
   obtain⟨a',ys,z,ha',r'⟩:=q
   cases z;rw[ha]at ha';cases ha'
   simp only[i2]at pd pe
   simp only[n6]
   exact a1c ds es xs r r' pd pe
  case lst es =>
   obtain⟨a',ys,z,ha',r'⟩:=q
   cases z;rw[ha]at ha';cases ha'
  all_goals first | (cases q;done) | (simp[i2,j0]at pe;done)
 | .lst ds,e,v,p,q,pd,pe=>by
  simp only[Rp]at p
  obtain⟨a,xs,rfl,ha,r⟩:=p
  cases e<;>simp only[Rp]at q
  case lst es =>
   obtain⟨a',ys,z,ha',r'⟩:=q
   cases z;rw[ha]at ha';cases ha'
   simp only[i2]at pd pe
   simp only[n6]
   exact a1c ds es xs r r' pd pe
  case tup es =>
   obtain⟨a',ys,z,ha',r'⟩:=q
   cases z;rw[ha]at ha';cases ha'
  all_goals first | (cases q;done) | (simp[i2,j0]at pe;done)
 | .non,e,v,p,q,pd,pe=>by simp only[n6];exact X2 rfl p q pe
 | .bl _,e,v,p,q,pd,pe=>by simp only[n6];exact X2 rfl p q pe
 | .int _,e,v,p,q,pd,pe=>by simp only[n6];exact X2 rfl p q pe
 | .str _,e,v,p,q,pd,pe=>by simp only[n6];exact X2 rfl p q pe
 | .ty _,e,v,p,q,pd,pe=>by simp[i2,j0]at pd
 | .cls _,e,v,p,q,pd,pe=>by simp[i2,j0]at pd
 | .scr _,e,v,p,q,pd,pe=>by simp[i2,j0]at pd
 | .exc _,e,v,p,q,pd,pe=>by simp[i2,j0]at pd
 | .obj _ _ _,e,v,p,q,pd,pe=>by simp[i2,j0]at pd
 | .dic _ _,e,v,p,q,pd,pe=>by simp[i2,j0]at pd
 | .exv _ _ _,e,v,p,q,pd,pe=>by simp[i2,j0]at pd
theorem a1c:∀(ds es:List D) (vs:List V),Rps K cl F ds vs→Rps K cl F es vs→w4 ds=true→w4 es=true→D4 ds es=true
 | [],es,vs,p,q,_,_=>by
  rw[p.inv0]at q
  cases es with
  | nil=>simp[D4]
  | cons e es=>obtain⟨_,_,z,_⟩:=q.inv;cases z
 | d::ds,es,vs,p,q,pd,pe=>by
  obtain⟨v,r,rfl,p1,p2⟩:=p.inv
  cases es with
  | nil=>have:=q.inv0;cases this
  | cons e es =>
   obtain⟨v',r',z,q1,q2⟩:=q.inv
   cases z
   simp only[w4,Bool.and_eq_true]at pd pe
   simp only[D4]
   rw[a2v d e v p1 q1 pd.1 pe.1,a1c ds es r p2 q2 pd.2 pe.2];rfl
end
end
section
variable {X:Cx}{cl:Str→Addr}{F:Hp}{pins:List (Addr×Obj)}{σ:St}{H:Hp}{s:Shared}
theorem X3{a:Addr}{d:D}{v:V}{u:Value}{A:Around}(hu:A.units<cLine)(hl:(∃xs,SqL X.K H a xs)∨∃xs,SqT X.K H a xs)(I:Inv X pins σ H s)(f:j0 d=true)(p:Rp X.K cl F d v)(r:RelV v u):SeqAt.EqAt A s (.ref a) u false∧SeqAt.EqAt A s u (.ref a) false:=by
 rcases hl with⟨xs,h⟩ | ⟨xs,h⟩
 ·obtain⟨us,r1,p1,z1⟩:=I.list h
  have q:=p1.isList
  cases d<;>first | (cases f;done) | skip
  all_goals simp only[Rp]at p;subst p
  ·cases r;exact⟨.list_none q hu,.none_list q hu⟩
  ·cases r;exact⟨.list_bool _ q hu,.bool_list _ q hu⟩
  ·obtain⟨t,rfl⟩:=r;exact⟨.list_int _ _ q hu,.int_list _ _ q hu⟩
  ·obtain⟨t,rfl⟩:=r;exact⟨.list_str _ _ q hu,.str_list _ _ q hu⟩
 ·obtain⟨us,r1,q,z1⟩:=I.tuple h
  cases d<;>first | (cases f;done) | skip
  all_goals simp only[Rp]at p;subst p
  ·cases r;exact⟨.tuple_none q hu,.none_tuple q hu⟩
  ·cases r;exact⟨.tuple_bool _ q hu,.bool_tuple _ q hu⟩
  ·obtain⟨t,rfl⟩:=r;exact⟨.tuple_int _ _ q hu,.int_tuple _ _ q hu⟩
  ·obtain⟨t,rfl⟩:=r;exact⟨.tuple_str _ _ q hu,.str_tuple _ _ q hu⟩
theorem C6{d:D}(p:i2 d=true):j0 d=true∨(∃ds,d=.tup ds)∨∃ds,d=.lst ds:=by
 cases d<;>first | exact .inl rfl | exact .inr (.inl ⟨_,rfl⟩) | exact .inr (.inr ⟨_,rfl⟩) | (simp[i2,j0]at p;done)
theorem a8q{d e:D}(f:j0 d=true):n6 d e=O4 d e:=by cases d<;>first | (cases f;done) | simp only[n6]
theorem T4{d e:D}{v u:V}{a b:Value}{A:Around}(I:Inv X pins σ H s)(sF:Same F H)(hu:A.units<cLine)(f:j0 d=true)(p:Rp X.K cl F d v)(q:Rp X.K cl F e u)(rv:RelV v a)(ru:RelV u b)(pe:i2 e=true):SeqAt.EqAt A s a b (n6 d e):=by
 rw[a8q f]
 rcases C6 pe with fe | ⟨es,rfl⟩ | ⟨es,rfl⟩
 ·rw[← p.eq q f fe]
  exact a6h rv ru (p.flat f).2 (q.flat fe).2
 ·simp only[Rp]at q
  obtain⟨c,ys,rfl,hb,r'⟩:=q
  cases ru
  have:=(X3 (A:=A) hu (.inr ⟨ys,.of (sF _ _ hb)⟩) I f p rv).2
  have z:O4 d (.tup es)=false:=by cases d<;>first | (cases f;done) | rfl
  rw[z];exact this
 ·simp only[Rp]at q
  obtain⟨c,ys,rfl,hb,r'⟩:=q
  cases ru
  have:=(X3 (A:=A) hu (.inl ⟨ys,.of (sF _ _ hb)⟩) I f p rv).2
  have z:O4 d (.lst es)=false:=by cases d<;>first | (cases f;done) | rfl
  rw[z];exact this
mutual
theorem b0R(I:Inv X pins σ H s)(sF:Same F H):∀(d e:D) (v u:V) (a b:Value) (A:Around),A.units+K6 d<cLine→Rp X.K cl F d v→Rp X.K cl F e u→RelV v a→RelV u b→i2 d=true→i2 e=true→SeqAt.EqAt A s a b (n6 d e)
 | .tup ds,e,v,u,va,ua,A,hu,p,q,rv,ru,pd,pe=>by
  have p0:=p
  have hu':A.units<cLine:=by omega
  simp only[K6]at hu
  simp only[Rp]at p
  obtain⟨a,xs,rfl,ha,r⟩:=p
  cases rv
  have ha':=sF _ _ ha
  rcases C6 pe with f | ⟨es,rfl⟩ | ⟨es,rfl⟩
  ·have:=(X3 (A:=A) hu' (.inr ⟨xs,.of ha'⟩) I f q ru).1
   have z:n6 (.tup ds) e=false:=by cases e<;>first | (cases f;done) | simp only[n6]
   rw[z];exact this
  ·have q0:=q
   simp only[Rp]at q
   obtain⟨b,ys,rfl,hb,r'⟩:=q
   cases ru
   have hb':=sF _ _ hb
   by_cases z:a=b
   ·subst z
    rw[a2v _ _ _ p0 q0 pd pe]
    exact .same _
   ·obtain⟨us,r1,p1,_⟩:=I.tuple (.of ha')
    obtain⟨ws,r2,p2,_⟩:=I.tuple (.of hb')
    simp only[i2]at pd pe
    have he:∀j (h1:j<us.toArray.size) (h2:j<ws.toArray.size),SeqAt.EqAt A.in1 s us.toArray[j] ws.toArray[j] (a32 ds es j):=R6 I sF ds es xs ys us ws A.in1 (by show A.units+1+C5 ds<cLine;omega) r r' r1 r2 pd pe
    have:=SeqAt.EqAt.of_refs z (SeqAt.RcAt.tuples p1 p2 hu' he)
    have e1:us.toArray.size=ds.length:=by simp[← r1.length,r.length]
    have e2:ws.toArray.size=es.length:=by simp[← r2.length,r'.length]
    rw[e1,e2]at this
    simp only[n6]
    by_cases hl:ds.length=es.length
    ·rw[← hl,Nat.min_self,K7 hl,beq_self_eq_true,Bool.and_true]at this
     exact this
    ·rw[Q9 hl]
     rw[beq_eq_false_iff_ne.mpr hl,Bool.and_false]at this
     exact this
  ·simp only[Rp]at q
   obtain⟨b,ys,rfl,hb,r'⟩:=q
   cases ru
   obtain⟨us,r1,p1,_⟩:=I.tuple (.of ha')
   obtain⟨ws,r2,p2,_⟩:=I.list (.of (sF _ _ hb))
   simp only[n6]
   exact .tuple_list p1 p2.isList hu'
 | .lst ds,e,v,u,va,ua,A,hu,p,q,rv,ru,pd,pe=>by
  have p0:=p
  have hu':A.units<cLine:=by omega
  simp only[K6]at hu
  simp only[Rp]at p
  obtain⟨a,xs,rfl,ha,r⟩:=p
  cases rv
  have ha':=sF _ _ ha
  rcases C6 pe with f | ⟨es,rfl⟩ | ⟨es,rfl⟩
  ·have:=(X3 (A:=A) hu' (.inl ⟨xs,.of ha'⟩) I f q ru).1
   have z:n6 (.lst ds) e=false:=by cases e<;>first | (cases f;done) | simp only[n6]
   rw[z];exact this
  ·simp only[Rp]at q
   obtain⟨b,ys,rfl,hb,r'⟩:=q
   cases ru
   obtain⟨us,r1,p1,_⟩:=I.list (.of ha')
   obtain⟨ws,r2,p2,_⟩:=I.tuple (.of (sF _ _ hb))
   simp only[n6]
   exact .list_tuple p1.isList p2 hu'
  ·have q0:=q
   simp only[Rp]at q
   obtain⟨b,ys,rfl,hb,r'⟩:=q
   cases ru
   have hb':=sF _ _ hb
   by_cases z:a=b
   ·subst z
    rw[a2v _ _ _ p0 q0 pd pe]
    exact .same _
   ·obtain⟨us,r1,p1,_⟩:=I.list (.of ha')
    obtain⟨ws,r2,p2,_⟩:=I.list (.of hb')
    simp only[i2]at pd pe
    have he:∀j (h1:j<us.toArray.size) (h2:j<ws.toArray.size),SeqAt.EqAt A.in1 s us.toArray[j] ws.toArray[j] (a32 ds es j):=R6 I sF ds es xs ys us ws A.in1 (by show A.units+1+C5 ds<cLine;omega) r r' r1 r2 pd pe
    have e1:us.toArray.size=ds.length:=by simp[← r1.length,r.length]
    have e2:ws.toArray.size=es.length:=by simp[← r2.length,r'.length]
    simp only[n6]
    by_cases hl:ds.length=es.length
    ·have:=SeqAt.EqAt.of_refs z (SeqAt.RcAt.lists p1.isList p2.isList (by rw[e1,e2,hl]) hu' he)
     rw[e1,K7 hl]at this
     exact this
    ·rw[Q9 hl]
     exact SeqAt.EqAt.of_refs z (SeqAt.RcAt.lists_lengths p1.isList p2.isList (by rw[e1,e2];simp[hl]) hu')
 | .non,e,v,u,va,ua,A,hu,p,q,rv,ru,pd,pe=>T4 I sF (by omega) rfl p q rv ru pe
 | .bl _,e,v,u,va,ua,A,hu,p,q,rv,ru,pd,pe=>T4 I sF (by omega) rfl p q rv ru pe
 | .int _,e,v,u,va,ua,A,hu,p,q,rv,ru,pd,pe=>T4 I sF (by omega) rfl p q rv ru pe
 | .str _,e,v,u,va,ua,A,hu,p,q,rv,ru,pd,pe=>T4 I sF (by omega) rfl p q rv ru pe
 | .ty _,e,v,u,va,ua,A,hu,p,q,rv,ru,pd,pe=>by simp[i2,j0]at pd
 | .cls _,e,v,u,va,ua,A,hu,p,q,rv,ru,pd,pe=>by simp[i2,j0]at pd
 | .scr _,e,v,u,va,ua,A,hu,p,q,rv,ru,pd,pe=>by simp[i2,j0]at pd
 | .exc _,e,v,u,va,ua,A,hu,p,q,rv,ru,pd,pe=>by simp[i2,j0]at pd
 | .obj _ _ _,e,v,u,va,ua,A,hu,p,q,rv,ru,pd,pe=>by simp[i2,j0]at pd
 | .dic _ _,e,v,u,va,ua,A,hu,p,q,rv,ru,pd,pe=>by simp[i2,j0]at pd
 | .exv _ _ _,e,v,u,va,ua,A,hu,p,q,rv,ru,pd,pe=>by simp[i2,j0]at pd
theorem R6(I:Inv X pins σ H s)(sF:Same F H):∀(ds es:List D) (xs ys:List V) (us ws:List Value) (A:Around),A.units+C5 ds<cLine→Rps X.K cl F ds xs→Rps X.K cl F es ys→Vals xs us→Vals ys ws→w4 ds=true→w4 es=true→∀j (h1:j<us.toArray.size) (h2:j<ws.toArray.size),SeqAt.EqAt A s us.toArray[j] ws.toArray[j] (a32 ds es j)
 | [],es,xs,ys,us,ws,A,hu,p,q,rv,rw',pd,pe=>fun j h1 h2=>by
  rw[p.inv0]at rv;cases rv;simp at h1
 | d::ds,es,xs,ys,us,ws,A,hu,p,q,rv,rw',pd,pe=>fun j h1 h2=>by
  obtain⟨x,xs',rfl,p1,p2⟩:=p.inv
  cases rv with
  | cons r1 t1 =>
   cases es with
   | nil=>rw[q.inv0]at rw';cases rw';simp at h2
   | cons e es =>
    obtain⟨y,ys',rfl,q1,q2⟩:=q.inv
    cases rw' with
    | cons r2 t2 =>
     simp only[w4,Bool.and_eq_true]at pd pe
     simp only[C5]at hu
     cases j with
     | zero=>exact b0R I sF d e x y _ _ A (by omega) p1 q1 r1 r2 pd.1 pe.1
     | succ j =>
      have:=R6 I sF ds es xs' ys' _ _ A (by omega) p2 q2 t1 t2 pd.2 pe.2 j (by simpa using h1) (by simpa using h2)
      simpa [a32]using this
end
end
theorem a2w{A:Around}{k:Nat}(hr:Room k A):A.units+41<cLine:=Nat.lt_of_le_of_lt (Nat.add_le_add_left (by decide:41≤64) _) hr.units
def G7 : D→Bool
 | .tup _=>true
 | .lst _=>true
 | _=>false
theorem Rb.toRp{K:W.Frag}{cl:Str→Addr}{F H:Hp}{d:D}{v:V}(s:Same F H)(h:Rb K cl F H d v):∃F',Same F F'∧Same F' H∧Rp K cl F' d v:=by
 rcases h with h | ⟨a,xs,ds,rfl,rfl,ha,r⟩
 ·exact⟨F,Same.refl _,s,h⟩
 ·have g:Same F (upd F a (.lst xs)):=fun b o q=>by
   by_cases z:b=a
   ·subst z;have:=s _ _ q;rw[ha]at this;cases this;exact i0
   ·rw[d5 z];exact q
  refine⟨upd F a (.lst xs),g,fun b o q=>?_,?_⟩
  ·by_cases z:b=a
   ·subst z;rw[i0]at q;cases q;exact ha
   ·rw[d5 z]at q;exact s _ _ q
  ·simp only[Rp];exact⟨a,xs,rfl,i0,r.mono g⟩
section
variable {X:Cx}{cl:Str→Addr}{F:Hp}{pins:List (Addr×Obj)}{σ:St}{H:Hp}{s:Shared}
theorem a0G{a:Addr}{d:D}{v:V}{u:Value}{A:Around}(hu:A.units<cLine)(hl:(∃xs,SqL X.K H a xs)∨∃xs,SqT X.K H a xs)(I:Inv X pins σ H s)(f:j0 d=true)(p:Rp X.K cl F d v)(r:RelV v u) :
  (SeqAt.RcAt A s (.ref a) u false∧SeqAt.RcAt A s u (.ref a) false)∧SeqAt.RcNeAt A s (.ref a) u true∧SeqAt.RcNeAt A s u (.ref a) true:=by
 rcases hl with⟨xs,h⟩ | ⟨xs,h⟩
 ·obtain⟨us,r1,p1,z1⟩:=I.list h
  have q:=p1.isList
  cases d<;>first | (cases f;done) | skip
  all_goals simp only[Rp]at p;subst p
  ·cases r;exact⟨⟨.list_none q hu,.none_list q hu⟩,.list_none q hu,.none_list q hu⟩
  ·cases r;exact⟨⟨.list_bool _ q hu,.bool_list _ q hu⟩,.list_bool _ q hu,.bool_list _ q hu⟩
  ·obtain⟨t,rfl⟩:=r;exact⟨⟨.list_int _ _ q hu,.int_list _ _ q hu⟩,.list_int _ _ q hu,.int_list _ _ q hu⟩
  ·obtain⟨t,rfl⟩:=r;exact⟨⟨.list_str _ _ q hu,.str_list _ _ q hu⟩,.list_str _ _ q hu,.str_list _ _ q hu⟩
 ·obtain⟨us,r1,q,z1⟩:=I.tuple h
  cases d<;>first | (cases f;done) | skip
  all_goals simp only[Rp]at p;subst p
  ·cases r;exact⟨⟨.tuple_none q hu,.none_tuple q hu⟩,.tuple_none q hu,.none_tuple q hu⟩
  ·cases r;exact⟨⟨.tuple_bool _ q hu,.bool_tuple _ q hu⟩,.tuple_bool _ q hu,.bool_tuple _ q hu⟩
  ·obtain⟨t,rfl⟩:=r;exact⟨⟨.tuple_int _ _ q hu,.int_tuple _ _ q hu⟩,.tuple_int _ _ q hu,.int_tuple _ _ q hu⟩
  ·obtain⟨t,rfl⟩:=r;exact⟨⟨.tuple_str _ _ q hu,.str_tuple _ _ q hu⟩,.tuple_str _ _ q hu,.str_tuple _ _ q hu⟩
theorem a44{d e:D}{v u:V}{a b:Value}{A:Around}(I:Inv X pins σ H s)(sF:Same F H)(hu:A.units+K6 d<cLine)(p:Rp X.K cl F d v)(q:Rp X.K cl F e u)(rv:RelV v a)(ru:RelV u b)(pd:i2 d=true)(pe:i2 e=true)(hs:G7 d=true∨G7 e=true) :
  SeqAt.RcAt A s a b (n6 d e)∧SeqAt.RcNeAt A s a b (!n6 d e):=by
 have hu':A.units<cLine:=by omega
 rcases C6 pd with fd | ⟨ds,rfl⟩ | ⟨ds,rfl⟩
 ·have se:G7 e=true:=hs.resolve_left (by cases d<;>first | (cases fd;done) | simp[G7])
  rcases C6 pe with fe | ⟨es,rfl⟩ | ⟨es,rfl⟩
  ·cases e<;>first | (cases fe;done) | (cases se;done)
  ·simp only[Rp]at q
   obtain⟨c,ys,rfl,hb,r'⟩:=q
   cases ru
   have:=a0G (A:=A) hu' (.inr ⟨ys,.of (sF _ _ hb)⟩) I fd p rv
   have z:n6 d (.tup es)=false:=by cases d<;>first | (cases fd;done) | simp[n6,O4]
   rw[z];exact⟨this.1.2,this.2.2⟩
  ·simp only[Rp]at q
   obtain⟨c,ys,rfl,hb,r'⟩:=q
   cases ru
   have:=a0G (A:=A) hu' (.inl ⟨ys,.of (sF _ _ hb)⟩) I fd p rv
   have z:n6 d (.lst es)=false:=by cases d<;>first | (cases fd;done) | simp[n6,O4]
   rw[z];exact⟨this.1.2,this.2.2⟩
 ·simp only[K6]at hu
  simp only[Rp]at p
  obtain⟨l,xs,rfl,ha,r⟩:=p
  cases rv
  have ha':=sF _ _ ha
  obtain⟨us,r1,p1,_⟩:=I.tuple (.of ha')
  rcases C6 pe with fe | ⟨es,rfl⟩ | ⟨es,rfl⟩
  ·have:=a0G (A:=A) hu' (.inr ⟨xs,.of ha'⟩) I fe q ru
   have z:n6 (.tup ds) e=false:=by cases e<;>first | (cases fe;done) | simp only[n6]
   rw[z];exact⟨this.1.1,this.2.1⟩
  ·simp only[Rp]at q
   obtain⟨c,ys,rfl,hb,r'⟩:=q
   cases ru
   obtain⟨ws,r2,p2,_⟩:=I.tuple (.of (sF _ _ hb))
   simp only[i2]at pd pe
   have he:=R6 I sF ds es xs ys us ws A.in1 (by show A.units+1+C5 ds<cLine;omega) r r' r1 r2 pd pe
   have h1:=SeqAt.RcAt.tuples p1 p2 hu' he
   have h2:=SeqAt.RcNeAt.tuples p1 p2 hu' he
   have e1:us.toArray.size=ds.length:=by simp[← r1.length,r.length]
   have e2:ws.toArray.size=es.length:=by simp[← r2.length,r'.length]
   rw[e1,e2]at h1 h2
   simp only[n6]
   by_cases hl:ds.length=es.length
   ·rw[← hl,Nat.min_self,K7 hl,beq_self_eq_true,Bool.and_true]at h1 h2
    exact⟨h1,h2⟩
   ·rw[Q9 hl]
    rw[beq_eq_false_iff_ne.mpr hl,Bool.and_false]at h1 h2
    exact⟨h1,h2⟩
  ·simp only[Rp]at q
   obtain⟨c,ys,rfl,hb,r'⟩:=q
   cases ru
   obtain⟨ws,r2,p2,_⟩:=I.list (.of (sF _ _ hb))
   simp only[n6]
   exact⟨.tuple_list p1 p2.isList hu',.tuple_list p1 p2.isList hu'⟩
 ·simp only[K6]at hu
  simp only[Rp]at p
  obtain⟨l,xs,rfl,ha,r⟩:=p
  cases rv
  have ha':=sF _ _ ha
  obtain⟨us,r1,p1,_⟩:=I.list (.of ha')
  rcases C6 pe with fe | ⟨es,rfl⟩ | ⟨es,rfl⟩
  ·have:=a0G (A:=A) hu' (.inl ⟨xs,.of ha'⟩) I fe q ru
   have z:n6 (.lst ds) e=false:=by cases e<;>first | (cases fe;done) | simp only[n6]
   rw[z];exact⟨this.1.1,this.2.1⟩
  ·simp only[Rp]at q
   obtain⟨c,ys,rfl,hb,r'⟩:=q
   cases ru
   obtain⟨ws,r2,p2,_⟩:=I.tuple (.of (sF _ _ hb))
   simp only[n6]
   exact⟨.list_tuple p1.isList p2 hu',.list_tuple p1.isList p2 hu'⟩
  ·simp only[Rp]at q
   obtain⟨c,ys,rfl,hb,r'⟩:=q
   cases ru
   obtain⟨ws,r2,p2,_⟩:=I.list (.of (sF _ _ hb))
   simp only[i2]at pd pe
   have he:=R6 I sF ds es xs ys us ws A.in1 (by show A.units+1+C5 ds<cLine;omega) r r' r1 r2 pd pe
   have e1:us.toArray.size=ds.length:=by simp[← r1.length,r.length]
   have e2:ws.toArray.size=es.length:=by simp[← r2.length,r'.length]
   simp only[n6]
   by_cases hl:ds.length=es.length
   ·have h1:=SeqAt.RcAt.lists p1.isList p2.isList (by rw[e1,e2,hl]) hu' he
    have h2:=SeqAt.RcNeAt.lists p1.isList p2.isList (by rw[e1,e2,hl]) hu' he
    rw[e1,K7 hl]at h1 h2
    exact⟨h1,h2⟩
   ·rw[Q9 hl]
    exact⟨SeqAt.RcAt.lists_lengths p1.isList p2.isList (by rw[e1,e2];simp[hl]) hu',SeqAt.RcNeAt.lists_lengths p1.isList p2.isList (by rw[e1,e2];simp[hl]) hu'⟩
end
def a33(K:W.Frag)(cl:Str→Addr)(neg:Bool):R2:=fun x y H Q=>∃F d e,Same F H∧Rp K cl F d x∧Rp K cl F e y∧i2 d=true∧i2 e=true∧K6 d≤40∧(G7 d=true∨G7 e=true)∧Q (.bl (if neg then !n6 d e else n6 d e)) H
theorem b0S{X:Cx}{K:W.Frag}{cl:Str→Addr}(hu:X.A.units+41<cLine)(hK:X.K=K:=by rfl):OpR X (compareOp .Eq) (a33 K cl false):=by
 subst hK
 intro pins s σ H x y v u Q I rx ry h
 obtain⟨F,d,e,sF,p,q,pd,pe,hd,hs,hQ⟩:=h
 exact(a44 I sF (by omega) p q rx ry pd pe hs).1 X.prog X.w _ _ ⟨.bl _,H,I,rfl,hQ⟩
theorem b0T{X:Cx}{K:W.Frag}{cl:Str→Addr}(hu:X.A.units+41<cLine)(hK:X.K=K:=by rfl):OpR X (compareOp .NotEq) (a33 K cl true):=by
 subst hK
 intro pins s σ H x y v u Q I rx ry h
 obtain⟨F,d,e,sF,p,q,pd,pe,hd,hs,hQ⟩:=h
 exact(a44 I sF (by omega) p q rx ry pd pe hs).2 X.prog X.w _ _ ⟨.bl _,H,I,rfl,hQ⟩
def a0g(neg:Bool)(d e:D):Option D:=if(i2 d && i2 e && decide (K6 d≤40) && (G7 d || G7 e))=true then some (.bl (if neg then !n6 d e else n6 d e))else none
theorem a6Z{K:W.Frag}{cl:Str→Addr}{neg:Bool}:OpOk K cl (a33 K cl neg) (a0g neg):=by
 intro x y d e z H F Q s hx hy h q
 unfold a0g at h
 split at h
 ·rename_i c;cases h
  simp only[Bool.and_eq_true,Bool.or_eq_true,decide_eq_true_eq]at c
  obtain⟨F1,g1,s1,p1⟩:=hx.toRp s
  have hy1:Rb K cl F1 H e y:=by
   rcases hy with hy | ⟨a,xs,ds,e1,e2,ha,r⟩
   ·exact .inl (hy.mono g1)
   ·exact .inr ⟨a,xs,ds,e1,e2,ha,r.mono g1⟩
  obtain⟨F2,g2,s2,p2⟩:=hy1.toRp s1
  exact⟨F2,d,e,s2,p1.mono g2,p2,c.1.1.1,c.1.1.2,c.1.2,c.2,q _ H F (.refl s) (by simp only[Rp])⟩
 ·cases h
mutual
theorem a34:∀(d:D),i2 d=true→n6 d d=true
 | .tup ds,h=>by simp only[i2]at h;simp only[n6];exact a0h ds h
 | .lst ds,h=>by simp only[i2]at h;simp only[n6];exact a0h ds h
 | .non,_=>by simp[n6,O4]
 | .bl _,_=>by simp[n6,O4]
 | .int _,_=>by simp[n6,O4]
 | .str _,_=>by simp[n6,O4]
 | .ty _,h=>by simp[i2,j0]at h
 | .cls _,h=>by simp[i2,j0]at h
 | .scr _,h=>by simp[i2,j0]at h
 | .exc _,h=>by simp[i2,j0]at h
 | .obj _ _ _,h=>by simp[i2,j0]at h
 | .dic _ _,h=>by simp[i2,j0]at h
 | .exv _ _ _,h=>by simp[i2,j0]at h
theorem a0h:∀(ds:List D),w4 ds=true→D4 ds ds=true
 | [],_=>by simp[D4]
 | d::ds,h=>by
  simp only[w4,Bool.and_eq_true]at h
  simp only[D4]
  rw[a34 d h.1,a0h ds h.2];rfl
end
theorem a2U{d:D}(neg:Bool)(h1:i2 d=true)(h2:K6 d≤40)(h3:G7 d=true):a0g neg d d=some (.bl (!neg)):=by
 unfold a0g
 rw[if_pos (by simp[h1,h2,h3]),a34 d h1]
 cases neg<;>rfl
theorem a4t{α:Type}{f:α→D}{l:List α}(h:∀a∈l,i2 (f a)=true):w4 (l.map f)=true:=by
 induction l with
 | nil=>rfl
 | cons a l ih =>
  simp only[List.map_cons,w4,Bool.and_eq_true]
  exact⟨h a List.mem_cons_self,ih fun b hb=>h b (List.mem_cons_of_mem _ hb)⟩
theorem a60{α:Type}{f:α→D}{l:List α}{n:Nat}(h:∀a∈l,K6 (f a)≤n):C5 (l.map f)≤n:=by
 induction l with
 | nil=>simp[C5]
 | cons a l ih =>
  simp only[List.map_cons,C5]
  have:=h a List.mem_cons_self
  have:=ih fun b hb=>h b (List.mem_cons_of_mem _ hb)
  omega
section
variable {K:W.Frag}{cl:Str→Addr}{E:XK}{σ:St}{H F:Hp}{env:DE}{k:Nat}
def b31(K:W.Frag)(cl:Str→Addr)(E:XK)(a:Addr)(t:TS)(f:SF):Prop:=∀(N:Ends) σ H env F,Rel K cl σ H F env→(∃cls,F a=some (E1 a cls none))→Cs K cl E (f env) σ H F env N→t N σ H
theorem RfS.x{a:Addr}{t:TS}{f:SF}(h:RfS K cl E t f):b31 K cl E a t f:=fun N σ H env F R _ c=>h N σ H env F R c
theorem a61{n:Nat}(sub:Same F H):Rel K cl (S5 n) H F (List.replicate n Sl.no):=by
 have no:∀(j:Nat) (s:Sl),(List.replicate n Sl.no)[j]? = some s→s=.no:=fun j s q=>by
  rw[List.getElem?_replicate]at q
  split at q<;>cases q;rfl
 refine⟨sub,by unfold S5;rw[List.length_replicate,List.length_replicate],fun j e q=>?_,fun j ds q=>?_,fun j l b ⟨ds,q⟩ _ _ _=>?_,.none fun j s ks ds q d=>by cases no j s q;exact d⟩
 ·cases no j _ q
 ·rcases q with q | q<;>cases no j _ q
 ·rcases q with q | q<;>cases no j _ q
theorem a35{n:Nat}{σ:St}{a:Addr}:¬Ow σ (List.replicate n Sl.no) a:=fun⟨j,ds,oo,q,_⟩=>by
 rw[List.getElem?_replicate]at q
 split at q<;>cases q
 exact oo
end
def a0i:Sl→Sl
 | .ow ds=>.fz (.lst ds)
 | .hd ds=>.fz (.lst ds)
 | .od ks ds=>.fz (.dic ks ds)
 | .hk ks ds=>.fz (.dic ks ds)
 | s=>s
def a2x:DE→DE
 | []=>[]
 | s::e=>a0i s::a2x e
mutual
def noL:D→Bool
 | .lst _=>false
 | .scr _=>false
 | .exc _=>false
 | .obj _ _ _=>false
 | .dic _ _=>false
 | .exv _ _ _=>false
 | .tup ds=>noLs ds
 | _=>true
def noLs:List D→Bool
 | []=>true
 | d::ds=>noL d && noLs ds
end
def a8r(o:HO):Prop:=(∃xs,o=.lst xs)∨∃ks xs,o=dkO ks xs
section
variable {K:W.Frag}{cl:Str→Addr}{E:XK}{σ:St}{H F F1 H' F' F2:Hp}{env:DE}
mutual
theorem Rp.noL(g:∀b o,F' b=some o→¬a8r o→F2 b=some o):∀(d:D) (v:V),L2.noL d=true→Rp K cl F' d v→Rp K cl F2 d v
 | .non,_,_,h=>by simpa only[Rp]using h
 | .bl _,_,_,h=>by simpa only[Rp]using h
 | .int _,_,_,h=>by simpa only[Rp]using h
 | .str _,_,_,h=>by simpa only[Rp]using h
 | .ty _,_,_,h=>by simpa only[Rp]using h
 | .cls _,_,_,h=>by simpa only[Rp]using h
 | .tup ds,v,n,h=>by
  simp only[Rp]at h ⊢
  obtain⟨a,xs,e,h1,h2⟩:=h
  exact⟨a,xs,e,g _ _ h1 (fun z=>by rcases z with⟨_,z⟩ | ⟨ks,_,z⟩;exact nomatch z;cases ks<;>exact nomatch z),Rps.noL g ds xs (by simpa only[L2.noL]using n) h2⟩
 | .lst ds,v,n,h=>by simp[L2.noL]at n
 | .scr ns,v,n,h=>by simp[L2.noL]at n
 | .exc c,v,n,h=>by simp[L2.noL]at n
 | .obj _ _ _,v,n,h=>by simp[L2.noL]at n
 | .dic _ _,v,n,h=>by simp[L2.noL]at n
 | .exv _ _ _,v,n,h=>by simp[L2.noL]at n
theorem Rps.noL(g:∀b o,F' b=some o→¬a8r o→F2 b=some o):∀(ds:List D) (vs:List V),L2.noLs ds=true→Rps K cl F' ds vs→Rps K cl F2 ds vs
 | [],_,_,h=>by simpa only[Rps]using h
 | d::ds,vs,n,h=>by
  simp only[Rps]at h ⊢
  simp only[L2.noLs,Bool.and_eq_true]at n
  obtain⟨v,r,e,h1,h2⟩:=h
  exact⟨v,r,e,Rp.noL g d v n.1 h1,Rps.noL g ds r n.2 h2⟩
end
def noX:XN→Bool
 | .p _=>true
 | .v _ _ d=>noL d
theorem Xf.noL{c:XN}{cx:Option Addr}(g:∀b o,F' b=some o→¬a8r o→F2 b=some o)(n:noX c=true)(h:Xf K cl F' c cx):Xf K cl F2 c cx:=by
 cases c with
 | p c=>exact h
 | v c f d =>
  obtain⟨dx,y,e,h1,h2⟩:=h
  exact⟨dx,y,e,g _ _ h1 (fun z=>by rcases z with⟨_,z⟩ | ⟨ks,_,z⟩;exact nomatch z;cases ks<;>exact nomatch z),Rp.noL g d y n h2⟩
def b3k(f:ZF):ZF:=fun e=>match f (a2x e)with
 | some (.ok d _)=>if noL d=true then some (.ok d e)else none
 | some (.ex c)=>if noX c=true then some (.ex c)else none
 | none=>none
def b3l(f:BF):BF:=fun e=>match f (a2x e)with
 | some (.ok d _)=>some (.ok d e)
 | some (.ex c)=>if noX c=true then some (.ex c)else none
 | none=>none
def bLd(r:Option (R Bool))(e:DE):Option (R Bool):=match r with
 | some (.ok d _)=>some (.ok d e)
 | some (.ex c)=>if noX c=true then some (.ex c)else none
 | none=>none
def zLd(r:Option (R D))(e:DE):Option (R D):=match r with
 | some (.ok d _)=>if noL d=true then some (.ok d e)else none
 | some (.ex c)=>if noX c=true then some (.ex c)else none
 | none=>none
theorem a8s(f:BF)(e:DE):b3l f e=bLd (f (a2x e)) e:=rfl
theorem a8t(f:ZF)(e:DE):b3k f e=zLd (f (a2x e)) e:=rfl
theorem b2w(d:Bool)(e e2:DE):bLd (some (.ok d e2)) e=some (.ok d e):=rfl
theorem b2x(c:Str)(e:DE):bLd (some (.ex (.p c))) e=some (.ex (.p c)):=rfl
theorem b0U(c f:Str)(d:D)(e:DE):bLd (some (.ex (.v c f d))) e=if noL d=true then some (.ex (.v c f d))else none:=rfl
theorem b2y(d:D)(e e2:DE):zLd (some (.ok d e2)) e=if noL d=true then some (.ok d e)else none:=rfl
theorem b2z(c:Str)(e:DE):zLd (some (.ex (.p c))) e=some (.ex (.p c)):=rfl
theorem b0V(c f:Str)(d:D)(e:DE):zLd (some (.ex (.v c f d))) e=if noL d=true then some (.ex (.v c f d))else none:=rfl
variable {k:Nat}
end
def un:Option D→Sl
 | none=>.no
 | some d=>.fz d
def N4:Sl→Bool
 | .hd _=>false
 | _=>true
def okS:Option Sl→Bool
 | none=>false
 | some s=>N4 s
theorem a8u(o:Option D):N4 (un o)=true:=by cases o<;>rfl
theorem a8v:N4 .no=true:=rfl
theorem a8w(d:D):N4 (.fz d)=true:=rfl
theorem a8x(d:List D):N4 (.ow d)=true:=rfl
theorem a8y(d:List D):N4 (.hd d)=false:=rfl
theorem a8z(s:Sl):okS (some s)=N4 s:=rfl
theorem a8A:okS none=false:=rfl
theorem b0W:a0i .no=.no:=rfl
theorem b0X(d:D):a0i (.fz d)=.fz d:=rfl
theorem b0Y(d:List D):a0i (.ow d)=.fz (.lst d):=rfl
theorem b0Z(d:List D):a0i (.hd d)=.fz (.lst d):=rfl
theorem a63(i:Nat)(s:Sl)(e:DE):put i s e=if okS e[i]? = true then some (.nx (e.set i s))else none:=by
 unfold put okS
 cases e[i]? with
 | none=>rfl
 | some t=>cases t<;>rfl
theorem b00(o:Option D):a0i (un o)=un o:=by cases o<;>rfl
theorem a8B:W9 []=true:=rfl
theorem a64(s:Sl)(e:DE):W9 (s::e)=(N4 s && W9 e):=by cases s<;>rfl
def A2(r:Option RS):Option RS:=match r with
 | some (.ct e)=>some (.nx e)
 | r=>r
theorem b01(e:DE):A2 (some (.nx e))=some (.nx e):=rfl
theorem b02(e:DE):A2 (some (.ct e))=some (.nx e):=rfl
theorem b03(d:D):A2 (some (.rt d))=some (.rt d):=rfl
theorem b04(c:XN):A2 (some (.ex c))=some (.ex c):=rfl
theorem b05(d:List (List D)):A2 (some (.rz d))=some (.rz d):=rfl
theorem b06(d:List D):A2 (some (.ro d))=some (.ro d):=rfl
theorem a2V{r:Option RS}{k:SF}:Q7 r k=Q7 (A2 r) k:=by
 cases r with
 | none=>rfl
 | some r=>cases r<;>rfl
theorem a36{α:Type}{b:GF}{body:SF}(f:α→D)(I:List α→DE→Prop)(l0:List α):∀(l pre:List α) (e:DE),l0=pre++l→I pre e→(∀pre x post e,l0=pre++x::post→I pre e→∃e2,A2 (X0 (b (f x) e) body)=some (.nx e2)∧I (pre++[x]) e2)→∃e',m9 b body (l.map f) e=some (.nx e')∧I l0 e'
 | [],pre,e,hl,h,_=>⟨e,rfl,by rw[hl,List.append_nil];exact h⟩
 | x::l,pre,e,hl,h,hs=>by
  obtain⟨e2,h2,h3⟩:=hs pre x l e hl h
  obtain⟨e',h4,h5⟩:=a36 f I l0 l (pre++[x]) e2 (by rw[hl,List.append_assoc];rfl) h3 hs
  refine⟨e',?_,h5⟩
  rw[List.map_cons,T3]
  cases q:b (f x) e with
  | none=>rw[q]at h2;cases h2
  | some e1 =>
   rw[q]at h2
   have h2:A2 (body e1)=some (.nx e2):=h2
   rw[y2,a2V,h2];exact h4
theorem a46{α:Type}{b:GF}{body:SF}(f:α→D)(I:List α→DE→Prop)(l:List α)(e:DE)(h:I [] e)(hs:∀pre x post e,l=pre++x::post→I pre e→∃e2,A2 (X0 (b (f x) e) body)=some (.nx e2)∧I (pre++[x]) e2):∃e',m9 b body (l.map f) e=some (.nx e')∧I l e' :=
 a36 f I l l [] e rfl h hs
def a3g:RS→Bool
 | .rt _=>true
 | .ro _=>true
 | .rz _=>true
 | .rp _ _=>true
 | .ex _=>true
 | _=>false
theorem R7{α:Type}{b:GF}{c:BF}{el:ZF}{ec eo:DE}(f:α→D)(g:α→D)(q:α→Bool):∀(l:List α) (acc:List D),acc.length+l.length≤sizeLine→(∀x∈l,∃e1 e2,b (f x) ec=some e1∧c e1=some (.ok (q x) e2)∧(q x=true→∃e3,el e2=some (.ok (g x) e3)))→r0 b c el ec eo (l.map f) acc=some (.ok (acc++(l.filter q).map g) eo)
 | [],acc,_,_=>by simp only[List.filter_nil,List.map_nil,List.append_nil];rfl
 | x::l,acc,hl,h=>by
  obtain⟨e1,e2,h1,h2,h3⟩:=h x List.mem_cons_self
  have hl':acc.length<sizeLine:=by rw[List.length_cons]at hl;omega
  rw[List.map_cons,a1S,h1,a2T,h2,J8]
  by_cases z:q x=true
  ·obtain⟨e3,h4⟩:=h3 z
   rw[if_pos z,h4,J8,if_pos hl',R7 f g q l (acc++[g x]) (by rw[List.length_append,List.length_cons,List.length_nil];rw[List.length_cons]at hl;omega) (fun y m=>h y (List.mem_cons_of_mem _ m)),List.filter_cons_of_pos z,List.map_cons,List.append_assoc];rfl
  ·rw[if_neg z,R7 f g q l acc (by rw[List.length_cons]at hl;omega) (fun y m=>h y (List.mem_cons_of_mem _ m)),List.filter_cons_of_neg z]
theorem a8C{ds:List D}{v:Int}(h:0≤v):M4 ds none (some v)=ds.take v.toNat:=by
 unfold M4
 rw[HT.sIx_none]
 obtain⟨n,rfl⟩:=Int.eq_ofNat_of_zero_le h
 rw[HT.sIx_nat,List.drop_zero,Nat.sub_zero,Int.toNat_natCast]
 by_cases z:n≤ds.length
 ·rw[Nat.min_eq_left z]
 ·rw[Nat.min_eq_right (by omega),List.take_of_length_le (Nat.le_refl _),List.take_of_length_le (by omega)]
theorem a47{ds:List D}{v u:Int}(h:0≤v)(h2:v≤u):M4 ds (some v) (some u)=(ds.drop v.toNat).take (u-v).toNat:=by
 unfold M4
 obtain⟨n,rfl⟩:=Int.eq_ofNat_of_zero_le h
 obtain⟨m,rfl⟩:=Int.eq_ofNat_of_zero_le (Int.le_trans h h2)
 rw[HT.sIx_nat,HT.sIx_nat,Int.toNat_natCast]
 have e:((m:Int)-(n:Int)).toNat=m-n:=by omega
 rw[e]
 by_cases z:n≤ds.length
 ·rw[Nat.min_eq_left z]
  by_cases y:m≤ds.length
  ·rw[Nat.min_eq_left y]
  ·rw[Nat.min_eq_right (by omega),List.take_of_length_le (by rw[List.length_drop];exact Nat.le_refl _),List.take_of_length_le (by rw[List.length_drop];omega)]
 ·rw[List.drop_of_length_le (show ds.length≤min n ds.length by omega),List.drop_of_length_le (by omega),List.take_nil,List.take_nil]
theorem a48{n k:Nat}(h:k<n):D6 n (k:Int)=some k:=by
 unfold D6;rw[if_pos (by omega),if_pos (by omega),Int.toNat_natCast]
def F9{α:Type}(g:Nat→α→D)(n:Nat):List α→List D
 | []=>[]
 | x::l=>g n x::F9 g (n+1) l
theorem a0H{α:Type}(f:α→D):∀(n:Nat) (l:List α),G5 n (l.map f)=F9 (fun k x=>.tup [.int k,f x]) n l
 | _,[]=>rfl
 | n,x::l=>by rw[List.map_cons,F9,G5,a0H f (n+1) l]
theorem a49{α:Type}{b:GF}{body:SF}(g:Nat→α→D)(I:List α→DE→Prop)(Z:List α→α→RS→Prop)(l0:List α):∀(l pre:List α) (e:DE),l0=pre++l→I pre e →
  (∀pre x post e,l0=pre++x::post→I pre e→(∃r,a3g r=true∧A2 (X0 (b (g pre.length x) e) body)=some r∧Z pre x r)∨(∃e2,A2 (X0 (b (g pre.length x) e) body)=some (.nx e2)∧I (pre++[x]) e2)) →
  ((∃pr x post r,l0=pr++x::post∧a3g r=true∧m9 b body (F9 g pre.length l) e=some r∧Z pr x r∧∃e',I pr e')∨(∃e',m9 b body (F9 g pre.length l) e=some (.nx e')∧I l0 e'))
 | [],pre,e,hl,h,_=>.inr ⟨e,rfl,by rw[hl,List.append_nil];exact h⟩
 | x::l,pre,e,hl,h,hs=>by
  have hstep:∀r,A2 (X0 (b (g pre.length x) e) body)=some r→m9 b body (F9 g pre.length (x::l)) e=Q7 (some r) (m9 b body (F9 g (pre.length+1) l)):=fun r h2=>by
   rw[F9,T3]
   cases q:b (g pre.length x) e with
   | none=>rw[q]at h2;cases h2
   | some e1 =>
    rw[q]at h2
    have h2:A2 (body e1)=some r:=h2
    rw[y2,a2V,h2]
  rcases hs pre x l e hl h with⟨r,hr,h2,hz⟩ | ⟨e2,h2,h3⟩
  ·refine .inl ⟨pre,x,l,r,hl,hr,?_,hz,e,h⟩
   rw[hstep r h2]
   cases r<;>first | rfl | cases hr
  ·have ih:=a49 g I Z l0 l (pre++[x]) e2 (by rw[hl,List.append_assoc];rfl) h3 hs
   rw[List.length_append,List.length_singleton]at ih
   rw[hstep _ h2]
   exact ih
theorem a65{α:Type}{b:GF}{body:SF}(g:Nat→α→D)(I:List α→DE→Prop)(Z:List α→α→RS→Prop)(l:List α)(e:DE)(h:I [] e)
  (hs:∀pre x post e,l=pre++x::post→I pre e→(∃r,a3g r=true∧A2 (X0 (b (g pre.length x) e) body)=some r∧Z pre x r)∨(∃e2,A2 (X0 (b (g pre.length x) e) body)=some (.nx e2)∧I (pre++[x]) e2)) :
  (∃pre x post r,l=pre++x::post∧a3g r=true∧m9 b body (F9 g 0 l) e=some r∧Z pre x r∧∃e',I pre e')∨(∃e',m9 b body (F9 g 0 l) e=some (.nx e')∧I l e') :=
 a49 g I Z l l [] e rfl h hs
theorem a8D{α:Type}{l:List α}{k:Nat}{a:α}(h:l[k]? = some a):atI l (k:Int)=some a:=by
 have hk:=(List.getElem?_eq_some_iff.mp h).1
 unfold atI
 rw[a48 hk];exact h
section
variable {K:W.Frag}{cl:Str→Addr}{E:XK}
def a1U(i:Nat)(k:ZF)(g:Int→Int→Int)(f:ZF):SF:=fun e=>match look e i with
 | some (.lst _)=>C9 (k e) fun jd e1=>match jd,e1[i]? with
  | .int j,some (.ow ds)=>(match atI ds j with
   | some (.int a)=>C9 (f e1) fun d e2=>(match d,e2[i]? with
    | .int b,some (.ow ds2)=>(match D6 ds2.length j with
     | some n=>some (.nx (e2.set i (.ow (ds2.set n (.int (g a b))))))
     | none=>none)
    | _,_=>none)
   | _=>none)
  | _,_=>none
 | _=>none
theorem b07{i:Nat}{g:Int→Int→Int}{u t:TE}{k f:ZF}(hk:k6 K cl E u k)(hf:k6 K cl E t f):RfS K cl E (a87 (D1 i) u t (a3u K) (ipI g) a5u) (a1U i k g f):=by
 intro N σ H env F R h
 unfold a1U at h
 split at h
 ·rename_i ds0 q
  obtain⟨a0,e0,ty⟩:=tyL R q
  refine⟨_,e0,?_⟩
  refine hk σ H _ env F R ((Cs.bnd h).mono fun y H1 ⟨F1,e1,jd,fr,R1,p1,h1⟩=>?_)
  split at h1
  ·rename_i j ds q1
   split at h1
   ·rename_i a hat
    obtain⟨p,xs,e,hH,hF,r⟩:=R1.mu i ds (.inl q1)
    rw[e0]at e;cases e
    have hy:y=.int j:=by have:=(show Rp K cl F1 (.int j) y from p1);simpa only[Rp]using this
    subst hy
    obtain⟨v,ev,pv⟩:=r.atI hat
    have hv:v=.int a:=by simpa only[Rp]using pv
    subst hv
    refine⟨_,xs,j,_,rfl,rfl,.of hH,ev,?_⟩
    refine hf σ H1 _ e1 F1 R1 ((Cs.bnd (h1.from fr)).mono fun x H2 ⟨F2,e2,d,fr2,R2,p2,h2⟩=>?_)
    split at h2
    ·rename_i b ds2 q2
     split at h2
     ·rename_i n hn
      obtain⟨p',xs',e',hH',hF',r'⟩:=R2.mu i ds2 (.inl q2)
      rw[e0]at e';cases e'
      have hx:x=.int b:=by have:=(show Rp K cl F2 (.int b) x from p2);simpa only[Rp]using this
      subst hx
      obtain⟨R3,f3⟩:=R2.change q2 e0 (r'.set (show Rp K cl F2 (.int (g a b)) (.int (g a b)) by simp only[Rp]) n)
      exact⟨a,b,rfl,rfl,_,xs',j,n,rfl,rfl,hH',by rw[← r'.length];exact hn,h2 σ _ F2 (fr2.trans f3) R3⟩
     ·exact h2.elim
    ·exact h2.elim
   ·exact h1.elim
  ·exact h1.elim
 ·exact h.elim
end
open Classical in
section
variable {K:W.Frag}{cl:Str→Addr}{E:XK}
abbrev tI(k:List Int):D:=.tup (k.map .int)
def P4:List D→Option (List (List Int))
 | []=>some []
 | .tup ds::r=>match N3 ds with
  | some (n::ns)=>(P4 r).map ((n::ns) :: ·)
  | _=>none
 | _=>none
theorem a37:∀{ds:List D} {ks:List (List Int)},P4 ds=some ks→ds=ks.map tI∧∀k∈ks,k≠[]
 | [],_,h=>by cases h;exact⟨rfl,fun k hk=>by cases hk⟩
 | .tup ds::r,ks,h=>by
  unfold P4 at h
  split at h
  ·rename_i n ns hi
   cases hr:P4 r with
   | none=>rw[hr]at h;cases h
   | some ks' =>
    rw[hr]at h;cases h
    obtain⟨e,hn⟩:=a37 hr
    refine⟨by rw[List.map_cons,← e,a2t hi],fun k hk=>?_⟩
    rcases List.mem_cons.mp hk with rfl | hk
    ·exact nofun
    ·exact hn k hk
  ·cases h
 | .non::_,_,h=>by cases h
 | .bl _::_,_,h=>by cases h
 | .int _::_,_,h=>by cases h
 | .str _::_,_,h=>by cases h
 | .ty _::_,_,h=>by cases h
 | .cls _::_,_,h=>by cases h
 | .lst _::_,_,h=>by cases h
 | .scr _::_,_,h=>by cases h
 | .exc _::_,_,h=>by cases h
 | .obj _ _ _::_,_,h=>by cases h
 | .dic _ _::_,_,h=>by cases h
 | .exv _ _ _::_,_,h=>by cases h
theorem a2W:∀{ks:List (List Int)},(∀k∈ks,k≠[])→P4 (ks.map tI)=some ks
 | [],_=>rfl
 | []::_,h=>absurd rfl (h [] (by simp))
 | (n::ns)::ks,h=>by
  have e:N3 (((n::ns):List Int).map D.int)=some (n::ns):=by
   have:∀l:List Int,N3 (l.map D.int)=some l:=fun l=>by
    induction l with
    | nil=>rfl
    | cons a l ih=>show(N3 (l.map D.int)).map (a :: ·)=_;rw[ih];rfl
   exact this _
  show(match N3 (((n::ns):List Int).map D.int)with | some (n::ns)=>(P4 (ks.map tI)).map ((n::ns) :: ·) | _=>none)=_
  rw[e,a2W (fun k hk=>h k (by simp[hk]))];rfl
theorem X4:∀a b:List Int,HT.lexLt a b=false→HT.lexLt b a=false→a=b
 | [],[],_,_=>rfl
 | [],_::_,h,_=>by cases h
 | _::_,[],_,h=>by cases h
 | x::xs,y::ys,h1,h2=>by
  rw[HT.lexLt_cons]at h1 h2
  by_cases e:x=y
  ·subst e
   rw[if_pos rfl]at h1 h2
   rw[X4 xs ys h1 h2]
  ·rw[if_neg e]at h1
   rw[if_neg (Ne.symm e)]at h2
   have:=of_decide_eq_false h1
   have:=of_decide_eq_false h2
   exact absurd (show x=y by omega) e
theorem a66{F H:Hp}(s:Same F H):∀{ks:List (List Int)} {xs:List V},(∀k∈ks,k≠[])→Rps K cl F (ks.map tI) xs→VKs K H xs ks
 | [],_,_,r=>by rw[r.inv0];trivial
 | k::ks,_,hn,r=>by
  obtain⟨v,xs,rfl,p,r'⟩:=r.inv
  refine⟨?_,a66 s (fun l hl=>hn l (by simp[hl])) r'⟩
  simp only[Rp]at p
  obtain⟨a,ys,e,ha,rr⟩:=p
  exact⟨a,e,by rw[← rr.ints];exact .of (s _ _ ha),hn k (by simp)⟩
end
section
variable {K:W.Frag}{cl:Str→Addr}{E:XK}{σ:St}{H F:Hp}{env:DE}
abbrev HF:=XN→SF
theorem Xf.rp{c:XN}{cx:Option Addr}{a:Addr}(h:Xf K cl F c cx)(na:F a=none):Rp K cl (upd F a (E1 a (.ref (cl c.nm)) cx)) c.d (.ref a):=by
 have g:Same F (upd F a (E1 a (.ref (cl c.nm)) cx)):=fun b o e=>by rw[d5 (g9 e na)];exact e
 cases c with
 | p c=>show Rp K cl _ (.exc c) _;simp only[Rp];exact⟨a,cx,rfl,i0⟩
 | v c f d =>
  obtain⟨dx,y,rfl,h1,h2⟩:=h
  show Rp K cl _ (.exv c f d) _
  simp only[Rp]
  exact⟨a,dx,y,rfl,i0,g _ _ h1,h2.mono g⟩
def RfH(K:W.Frag)(cl:Str→Addr)(E:XK)(th:TH)(f:HF):Prop:=∀(N:Ends) σ H env F a c cx,Rel K cl σ H F env→H a=none→Xf K cl F c cx→Cs K cl E (f c env) σ H F env N→th (.ref (cl c.nm)) cx a N σ H
def hN:HF:=fun _ _=>none
def hC(exm:Str→Option Bool)(suite:SF)(i5:HF):HF:=fun c e=>match exm c.nm with
 | some true=>suite e
 | some false=>i5 c e
 | none=>none
def a0I(i:Nat)(r:Option RS):Option RS:=match r with
 | some (.nx e2)=>put i .no e2
 | some (.rt d)=>some (.rt d)
 | some (.ro ds)=>some (.ro ds)
 | _=>none
def hAs(i:Nat)(exm:Str→Option Bool)(suite:SF)(i5:HF):HF:=fun c e=>match exm c.nm with
 | some true=>(match put i (.fz c.d) e with
  | some (.nx e1)=>a0I i (suite e1)
  | _=>none)
 | some false=>i5 c e
 | none=>none
theorem a9u:RfH K cl E a9j hN:=fun _ _ _ _ _ _ _ _ _ _ _ h=>h
theorem a68{C:Addr}{i:Nat}{exm:Str→Option Bool}{ts:Addr→TS}{suite:SF}{rt:TH}{i5:HF}(hx:∀c b,exm c=some b→W.exmOne K (.ref (cl c)) (.ref C)=some b)(hs:∀a,RfS K cl E (ts a) suite)(hr:RfH K cl E rt i5):RfH K cl E (b15 K C i ts rt) (hAs i exm suite i5):=by
 intro N σ H env F a c cx R ha xf h
 unfold hAs at h
 split at h
 ·rename_i q
  have gr:Gr H F (upd H a (E1 a (.ref (cl c.nm)) cx)) (upd F a (E1 a (.ref (cl c.nm)) cx)):=.new R.sub ha
  refine .inl ⟨hx c.nm true q,?_⟩
  have p:Rp K cl (upd F a (E1 a (.ref (cl c.nm)) cx)) c.d (.ref a):=xf.rp (by cases e:F a with | none=>rfl | some o=>have:=R.sub _ _ e;rw[ha]at this;cases this)
  have h:=h.from (R.frm gr)
  have R0:=R.gr gr
  generalize upd H a (E1 a (.ref (cl c.nm)) cx)=H1 at h R0 ⊢
  generalize upd F a (E1 a (.ref (cl c.nm)) cx)=F1 at h R0 p
  cases hp:put i (.fz c.d) env with
  | none=>rw[hp]at h;exact h.elim
  | some r =>
   rw[hp]at h
   cases r with
   | nx e1 =>
    obtain⟨hi,nh,ee⟩:i<env.length∧(∀ds,env[i]?≠some (.hd ds))∧e1=env.set i (.fz c.d):=by
     have h0:Cs K cl (fun _ _ _=>False) (put i (.fz c.d) env) σ H1 F1 env ⟨fun _ _=>True,fun _ _=>True,fun _ _=>True,fun _ _=>True⟩:=by rw[hp];exact fun _ _ _ _ _=>trivial
     obtain⟨a1,a2,a3⟩:=Q5 h0
     refine⟨a1,a2,?_⟩
     rw[a63]at hp
     revert hp
     cases env[i]? with
     | none=>simp[okS]
     | some sl=>cases sl<;>simp[okS,N4]<;>intro z<;>exact z.symm
    subst ee
    have R1:=R0.put (d:=c.d) hi nh p
    have f1:Frm σ H1 F1 env (σ.set i (some (.ref a))) H1 F1 (env.set i (.fz c.d)):=Frm.put nh
    refine hs a _ _ _ _ _ R1 ?_
    have h2:=Cs.from f1 h
    cases r:suite (env.set i (.fz c.d))with
    | none=>simp only[r,a0I]at h2;exact h2.elim
    | some rs =>
     simp only[r,a0I]at h2
     cases rs with
     | nx e2 =>
      obtain⟨hi,nh,h3⟩:=Q5 h2
      intro σ2 H2 F2 f2 R2
      obtain⟨R3,f3⟩:=R2.drop nh
      exact h3 _ H2 F2 (f2.trans f3) R3
     | bk e2=>exact h2.elim
     | ct e2=>exact h2.elim
     | rt d=>exact h2
     | ro ds=>exact h2
     | rz dss=>exact h2.elim
     | rp _ _=>exact h2.elim
     | ex c2=>exact h2.elim
   | _=>exact h.elim
 ·rename_i q
  exact .inr ⟨hx c.nm false q,hr N σ H env F a c cx R ha xf h⟩
 ·exact h.elim
def X5(n:Nat)(body:SF)(fh:HF):SF:=fun e=>match body e with
 | some (.ex c)=>if W9 e=true then fh c (List.replicate n Sl.no)else none
 | r=>r
theorem b08{n:Nat}{tb:XK→TS}{th:TH}{body:SF}{fh:HF}(hb:∀Eh,RfS K cl Eh (tb Eh) body)(hh:RfH K cl E th fh):RfS K cl E (a9l n tb th) (X5 n body fh):=by
 intro N σ H env F R h
 refine⟨fun cls cx H'=>∃c F',cls=.ref (cl c.nm)∧Xf K cl F' c cx∧body env=some (.ex c)∧FX σ H F env H' F',?_,?_⟩
 ·refine hb _ N σ H env F R ?_
  unfold X5 at h
  split at h
  ·rename_i c q;rw[q]
   exact fun H' F' x cx e=>⟨c,F',rfl,e,rfl,x⟩
  ·rename_i n1
   unfold Cs at h ⊢
   split at h
   ·exact h
   ·exact h
   ·exact h
   ·exact h
   ·exact h
   ·exact h
   ·exact h
   ·exact h
   ·rename_i c q;exact absurd q (n1 c)
 ·rintro cls cx H' ⟨c,F',rfl,xf,q,x⟩ a ha
  unfold X5 at h
  rw[q]at h
  dsimp only at h
  split at h
  ·rename_i hc
   have f1:Frm σ H F env (S5 n) H' F' (List.replicate n Sl.no) :=
    ⟨x.fz,fun b o hb fb w=>by obtain⟨h1,f1⟩:=x.hid b o hb fb w;exact⟨h1,f1,a35⟩,fun j ds z=>absurd z (b0f hc j ds),fun b z=>x.dom b z⟩
   exact hh N _ _ _ _ a c cx (a61 x.sub) ha xf (h.from f1)
  ·exact h.elim
def a3h(g:List D→Option R1)(f:AF)(fh:HF):SF:=fun e=>match f e with
 | some (.ok ds e1)=>(match g ds with
  | some (.ret _)=>some (.nx e1)
  | some (.own _)=>some (.nx e1)
  | some (.ex c)=>fh c e1
  | _=>none)
 | _=>none
theorem b09{g:List D→Option R1}{t:TA}{f:AF}{th:TH}{fh:HF}(hf:L8 K cl E t f)(hh:RfH K cl E th fh):RfS K cl E (a9m (i3 K cl g) t th) (a3h g f fh):=by
 intro N σ H env F R h
 unfold a3h at h
 split at h
 ·rename_i ds e1 q
  refine⟨fun cls cx H'=>∃c H1 F1 F',cls=.ref (cl c.nm)∧Xf K cl F' c cx∧g ds=some (.ex c)∧Frm σ H F env σ H1 F1 e1∧Rel K cl σ H1 F1 e1∧Gr H1 F1 H' F',?_,?_⟩
  ·refine hf σ H _ env F R ?_
   rw[q]
   intro vs H1 F1 fr R1 p1
   show i3 K cl g (vs++[]) H1 _ _
   rw[List.append_nil]
   refine⟨ds,F1,R1.sub,p1,?_⟩
   split at h
   ·rename_i d q1;rw[q1]
    exact fun v H' F' gr _=>h σ H' F' (fr.trans (R1.frm gr)) (R1.gr gr)
   ·rename_i d q1;rw[q1]
    exact fun a xs H' F' gr _ _ _ _=>h σ H' F' (fr.trans (R1.frm gr)) (R1.gr gr)
   ·rename_i c q1;rw[q1]
    exact fun H' F' gr cx e=>⟨c,H1,F1,F',rfl,e,rfl,fr,R1,gr⟩
   ·exact h.elim
  ·rintro cls cx H' ⟨c,H1,F1,F',rfl,xf,q1,fr,R1,gr⟩ a ha
   rw[q1]at h
   exact hh N σ H' e1 F' a c cx (R1.gr gr) ha xf (Cs.from (fr.trans (R1.frm gr)) h)
 ·exact h.elim
theorem a38{n:Nat}{body:SF}{fh:HF}{e:DE}:X5 n body fh e=(match body e with | some (.ex c)=>if W9 e=true then fh c (List.replicate n Sl.no)else none | r=>r):=rfl
end
section
variable {K:W.Frag}{cl:Str→Addr}{E:XK}{σ:St}{H F:Hp}{env:DE}
theorem Rps.lookup{f:Str}:∀{ns:List Str} {ds:List D} {xs:List V} {z:D},Rps K cl F ds xs→(ns.zip ds).lookup f=some z→∃v,(ns.zip xs).lookup f=some v∧Rp K cl F z v
 | [],ds,xs,z,_,h=>by simp at h
 | n::ns,[],xs,z,r,h=>by simp at h
 | n::ns,d::ds,xs,z,r,h=>by
  obtain⟨v,ys,rfl,p,r'⟩:=r.inv
  rw[List.zip_cons_cons,List.lookup_cons]at h ⊢
  by_cases q:(f == n)=true
  ·rw[q]at h ⊢;cases h;exact⟨v,rfl,p⟩
  ·rw[Bool.not_eq_true _ |>.mp q]at h ⊢;exact r'.lookup h
theorem a0V{α:Type}{m:Str}:∀{ns:List Str} {xs:List α},ns.contains m=false→(ns.zip xs).lookup m=none
 | [],_,_=>by simp
 | n::ns,[],_=>by simp
 | n::ns,x::xs,h=>by
  rw[List.contains_cons,Bool.or_eq_false_iff]at h
  rw[List.zip_cons_cons,List.lookup_cons,h.1]
  exact a0V h.2
def TR(K:W.Frag)(cl:Str→Addr)(tab:Str→Option (List D→Option R1))(C:Addr)(sp:Sp):Prop:=∃c g,tab c=some g∧C=cl c∧sp=i3 K cl g
def a1W(tab:Str→Option (List D→Option R1))(m:Str)(o:ZF)(f:AF):ZF:=fun e=>bnd (o e) fun d e1=>match d with
 | .obj c ns ds0=>if ns.contains m=false then(match tab c with
  | some g=>bnd (f e1) fun ds e2=>Y3 (g (.obj c ns ds0::ds)) e2
  | none=>none)else none
 | _=>none
theorem b0_{tab:Str→Option (List D→Option R1)}{m:Str}{t:TE}{u:TA}{o:ZF}{f:AF}(ho:k6 K cl E t o)(hf:L8 K cl E u f):k6 K cl E (a6w (TR K cl tab) m E t u) (a1W tab m o f):=by
 intro σ H Q env F R h
 refine ho σ H _ env F R ((Ct.bnd h B4).mono fun x H1 ⟨F1,e1,d,s1,R1,p1,h1⟩=>?_)
 split at h1
 ·rename_i c ns ds0
  split at h1
  ·rename_i hm
   split at h1
   ·rename_i g hg
    have p1':=p1
    simp only[PZ]at p1
    have p2:Rp K cl F1 (.obj c ns ds0) x:=p1
    have p3:=p2
    simp only[Rp]at p2
    obtain⟨a,dx,xs,rfl,ha,hl,r⟩:=p2
    refine⟨a,_,dx,_,_,rfl,R1.sub _ _ ha,a0V hm,⟨c,g,hg,rfl,rfl⟩,?_⟩
    refine hf σ H1 _ e1 F1 R1 ((Ct.bnd h1 B4).mono fun vs H2 ⟨F2,e2,ds,s2,R2,p4,h2⟩=>?_)
    have:=a1N (g:=g) (ds:=.obj c ns ds0::ds) (vs:=.ref a::vs) R2 (.cons (p3.mono s2) p4) h2
    rw[List.append_nil]at this
    exact this
   ·exact h1.elim
  ·exact h1.elim
 ·exact h1.elim
end
structure InsT(K:W.Frag)(C:Addr):Prop where
 cls:Cls K C
 ha:W.findIn K (.ref C) "__class__" = some (some (.builtin "object.__class__"))
 hn:W.specialIn K (.builtin "object.__class__") "__get__" = some (some (.builtin "getset_descriptor.__get__"))
 htk:W.takesIn K (.builtin "object.__class__")=some true
 hm:W.mroIn K C (.type "object")=some true
def a1X(xi:Str→Str→Option Bool):List D→Option D
 | [.obj c _ _,.cls n]=>(xi c n).map .bl
 | _=>none
section
variable {K:W.Frag}{cl:Str→Addr}{E:XK}
theorem b1a{xi:Str→Str→Option Bool}(h1:∀c n b,xi c n=some b→InsT K (cl c)∧W.kitOne K (.ref (cl c)) (.ref (cl n))=some b):a2p K cl (a3D K) (a1X xi):=by
 intro xs ds z H F Q s p h q
 unfold a1X at h
 split at h
 ·rename_i c ns es n
  cases hb:xi c n with
  | none=>rw[hb]at h;cases h
  | some b =>
   rw[hb]at h;cases h
   obtain⟨v,r,rfl,p1,p2⟩:=p.inv
   obtain⟨u,r',rfl,p3,p4⟩:=p2.inv
   rw[p4.inv0]
   simp only[Rp]at p1 p3
   obtain⟨a,dx,xs,rfl,ha,_,_⟩:=p1
   subst p3
   obtain⟨T,hk⟩:=h1 c n b hb
   exact⟨_,_,_,_,b,rfl,rfl,.of (.ins (s _ _ ha) T.cls T.ha T.hn T.htk T.hm),hk,q _ H F (.refl s) (by simp only[Rp])⟩
 ·cases h
end
section
variable {K:W.Frag}{cl:Str→Addr}{E:XK}
def a3i(c:Str):ZF:=fun e=>some (.ok (.obj c [] []) e)
theorem a2y{c:Str}:k6 K cl E (a6y (cl c)) (a3i c):=by
 intro σ H Q env F R h x dx hx hd ne
 have g1:Gr H F (upd H dx (.own x)) (upd F dx (.own x)):=.new R.sub hd
 have hx':upd H dx (.own x) x=none:=by rw[d5 (Ne.symm ne)];exact hx
 have gr:=g1.trans (Gr.new (o:=.ins (cl c) dx []) g1.sub hx')
 refine h (.ref x) _ _ (R.frm gr) (R.gr gr) ?_
 show Rp K cl _ (.obj c [] []) (.ref x)
 simp only[Rp]
 exact⟨x,dx,[],rfl,i0,rfl,Rps.nil⟩
end
open PySem.W
def b1b(us:List Value)(ks:List (List Int))(j:Nat)(best:Array Value):Prop :=
 (j=0∧best = #[])∨∃i v,i<j∧us[i]? = some v∧best = #[v,v]∧∀i',i'<j→HT.lexLt (ks.getD i' []) (ks.getD i [])=false
theorem X6:∀{a b c:List Int},HT.lexLt b a=true→HT.lexLt c a=false→HT.lexLt c b=false
 | [],b,c,h,_=>by cases b<;>cases h
 | _::_,[],c,_,_=>by cases c<;>rfl
 | x::a,y::b,[],h,h'=>by cases h'
 | x::a,y::b,z::c,h,h'=>by
  rw[HT.lexLt_cons]at h h' ⊢
  by_cases e1:y=x
  ·subst e1
   rw[if_pos rfl]at h
   by_cases e2:z=y
   ·subst e2
    rw[if_pos rfl]at h' ⊢
    exact X6 h h'
   ·rw[if_neg e2]at h' ⊢
    exact h'
  ·rw[if_neg e1]at h
   have hy:=of_decide_eq_true h
   by_cases e2:z=x
   ·subst e2
    rw[if_neg (Ne.symm e1)]
    exact decide_eq_false (by omega)
   ·rw[if_neg e2]at h'
    have hz:=of_decide_eq_false h'
    by_cases e3:z=y
    ·omega
    ·rw[if_neg e3]
     exact decide_eq_false (by omega)
section
variable {prog:Program}{w:World}{A:Around}{R:Result→Shared→Prop}
theorem b3m{s:Shared}{v u:Value}{k l:List Int}{Q:Value→Shared→Prop}{E:Value→Shared→Prop}(t:TupKey s.heap v k)(t':TupKey s.heap u l)(hu:A.units<cLine)(h:Q (.bool (HT.lexLt k l)) s):wpAny (model prog w) A (richCompare .Lt v u) Q E s:=by
 obtain⟨a,o,xs,m,rfl,ho,hc,hd,hi,_⟩:=t
 obtain⟨a',o',xs',m',rfl,ho',hc',hd',hi',_⟩:=t'
 exact HT.lt_tupInts (items:=xs) (items2:=xs') ⟨o,ho,hc,m,hd⟩ ⟨o',ho',hc',m',hd'⟩ hi hi' hu h
theorem a69(hh:A.in1.handled=none)(hu:A.in1.units<cLine){I S l:Addr}{us:List Value}{ks:List (List Int)}{h0:Heap}(hT:TKs h0 us ks)(hI0:h0.get? I=none)(hS0:h0.get? S=none)(hIS:I≠S)(hlS:l≠S)(hlI:l≠I)(hne:0<us.length) :
  ∀(k j:Nat) (z:Shared) (best:Array Value) (c:Nat),us.length-j=k→j≤us.length→(∀b o,h0.get? b=some o→z.heap.get? b=some o) →
  z.heap.IsListIter I l j→z.heap.IsList l us.toArray→z.heap.get? S=some { cls:=.type "list",dict:=none,data:=.seq best c,slots := #[] }→b1b us ks j best →
  (∀i v h' tk,us[i]? = some v→(∀i',i'<us.length→HT.lexLt (ks.getD i' []) (ks.getD i [])=false)→(∀b o,b≠I→b≠S→z.heap.get? b=some o→h'.get? b=some o)→R (.ok (.ret v)) { z with heap:=h',toks:=tk }) →
  codeAny (model prog w) A (.builtin "min.loop" ⟨[.ref I,.none,.ref S],[]⟩) R z:=by
 have hname:(toString "min" ++ toString ".loop" : String) = "min.loop" := by decide
 have W:=Walks.list (prog:=prog) (w:=w) (A:=A.in1) hh I l hlI us.toArray
 have no:∀b o,h0.get? b=some o→b≠I∧b≠S:=fun b o e=>⟨fun q=>(by rw[q,hI0]at e;cases e),fun q=>(by rw[q,hS0]at e;cases e)⟩
 intro k
 induction k with
 | zero =>
  intro j z best c hk hj h0z hit hl hS hB hR
  have hjn:j=us.toArray.size:=by rw[List.size_toArray];omega
  have hju:j=us.length:=by omega
  refine codeAny_builtin F.entry_min_loop ?_
  rw[Around.under_plainId F.plain_min_loop _]
  show wpAny _ A.in1 (seqItems? (.ref S) >>= _) _ _ z
  refine wpAny_bind (wpAny_seqItems hS rfl ?_)
  show wpAny _ A.in1 (tryCatch (pyNext (.ref I)) _ >>= _) _ _ z
  refine wpAny_bind (wpAny_tryCatch (W.done z _ _ (hjn▸⟨hit,hl⟩) fun h' tk hk'=>?_))
  have hS':=hk' S _ (by simpa using Ne.symm hIS) hS
  rcases hB with⟨q,_⟩ | ⟨i,v,hi,hv,rfl,hm⟩
  ·omega
  ·show wpAny _ A.in1 (updateSeq S (fun _ => #[]) >>= _) _ _ _
   refine wpAny_bind ?_
   refine wpAny_updateSeq hS' rfl (wpAny_bind (wpAny_letGo (wpAny_pure ?_)))
   exact hR i v _ tk hv (fun i' hi'=>hm i' (by omega)) fun b o hb hbS q=>(Heap.get?_update_other _ _ (Ne.symm hbS)).trans (hk' b o (by simpa using hb) q)
 | succ k ih =>
  intro j z best c hk hj h0z hit hl hS hB hR
  have hjn:j<us.toArray.size:=by rw[List.size_toArray];omega
  refine codeAny_builtin F.entry_min_loop ?_
  rw[Around.under_plainId F.plain_min_loop _]
  show wpAny _ A.in1 (seqItems? (.ref S) >>= _) _ _ z
  refine wpAny_bind (wpAny_seqItems hS rfl ?_)
  show wpAny _ A.in1 (tryCatch (pyNext (.ref I)) _ >>= _) _ _ z
  refine wpAny_bind (wpAny_tryCatch (W.item j z _ _ hjn ⟨hit,hl⟩ fun v h' tk hP hst' hk'=>?_))
  have hS':=hk' S _ (by simpa using Ne.symm hIS) hS
  have hPv:us[j]? = some v:=by simpa using hP
  have kept:∀b o,b≠I→z.heap.get? b=some o→h'.get? b=some o:=fun b o hb q=>hk' b o (by simpa using hb) q
  have h0':∀b o,h0.get? b=some o→h'.get? b=some o:=fun b o e=>kept b o (no b o e).1 (h0z b o e)
  have up:∀{f:Obj→Obj},∀b o,h0.get? b=some o→(h'.update S f).get? b=some o:=fun{f} b o e=>(Heap.get?_update_other _ _ (Ne.symm (no b o e).2)).trans (h0' b o e)
  have tkv:∀i u,us[i]? = some u→TupKey h' u (ks.getD i []):=fun i u hi=>by
   have hlt:=(List.getElem?_eq_some_iff.mp hi).1
   have:=(TKs.at i hT hlt).keeps h0'
   rwa [List.getD_eq_getElem?_getD,hi]at this
  rcases hB with⟨rfl,rfl⟩ | ⟨i,u,hi,hv,rfl,hm⟩
  ·show wpAny _ A.in1 (updateSeq S (fun _ => #[v,v]) >>= _) _ _ _
   refine wpAny_bind ?_
   refine wpAny_updateSeq hS' rfl ?_
   rw[hname]
   refine wpAny_pure ⟨plainId_quiet F.plain_min_loop _,ih 1 _ #[v,v] _ (by omega) (by omega) up ?_ ?_ (Heap.get?_update_self _ hS' rfl) (.inr ⟨0,v,by omega,hPv,rfl,fun i' hi'=>?_⟩) fun i' v' h2 tk2 e1 e2 hk2=>?_⟩
   ·exact hst'.1.at fun o q=>(Heap.get?_update_other _ _ (Ne.symm hIS)).trans q
   ·exact hst'.2.at fun o q=>(Heap.get?_update_other _ _ (Ne.symm hlS)).trans q
   ·have:i'=0:=by omega
    subst this
    exact P6 _
   ·exact hR i' v' h2 tk2 e1 e2 fun b o hb hbS q=>hk2 b o hb hbS ((Heap.get?_update_other _ _ (Ne.symm hbS)).trans (kept b o hb q))
  ·show wpAny _ A.in1 (tryCatch (holding [v,v] (richCompare .Lt v u >>= _)) _ >>= _) _ _ _
   refine wpAny_bind (wpAny_tryCatch (wpAny_holding (wpAny_bind (b3m (s:={ z with heap:=h',toks:=tk }) (tkv j v hPv) (tkv i u hv) hu ?_))))
   refine wpAny_bind (wpAny_holding (wpAny_truthy_bool ?_))
   refine wpAny_bind (wpAny_letGo (wpAny_pure ?_))
   cases hb:HT.lexLt (ks.getD j []) (ks.getD i [])with
   | true =>
    simp only[if_true]
    refine wpAny_bind ?_
    refine wpAny_updateSeq hS' rfl (wpAny_bind (wpAny_letGo ?_))
    rw[hname]
    refine wpAny_pure ⟨plainId_quiet F.plain_min_loop _,ih (j+1) _ #[v,v] _ (by omega) (by omega) up ?_ ?_ (Heap.get?_update_self _ hS' rfl) (.inr ⟨j,v,by omega,hPv,rfl,fun i' hi'=>?_⟩) fun i' v' h2 tk2 e1 e2 hk2=>?_⟩
    ·exact hst'.1.at fun o q=>(Heap.get?_update_other _ _ (Ne.symm hIS)).trans q
    ·exact hst'.2.at fun o q=>(Heap.get?_update_other _ _ (Ne.symm hlS)).trans q
    ·by_cases q:i'=j
     ·subst q;exact P6 _
     ·exact X6 hb (hm i' (by omega))
    ·exact hR i' v' h2 tk2 e1 e2 fun b o hb hbS q=>hk2 b o hb hbS ((Heap.get?_update_other _ _ (Ne.symm hbS)).trans (kept b o hb q))
   | false =>
    simp only[Bool.false_eq_true,if_false]
    refine wpAny_bind (wpAny_letGo ?_)
    rw[hname]
    refine wpAny_pure ⟨plainId_quiet F.plain_min_loop _,ih (j+1) _ #[u,u] c (by omega) (by omega) h0' hst'.1 hst'.2 hS' (.inr ⟨i,u,by omega,hv,rfl,fun i' hi'=>?_⟩) fun i' v' h2 tk2 e1 e2 hk2=>?_⟩
    ·by_cases q:i'=j
     ·subst q;exact hb
     ·exact hm i' (by omega)
    ·exact hR i' v' h2 tk2 e1 e2 fun b o hb hbS q=>hk2 b o hb hbS (kept b o hb q)
end
theorem hu1{A:Around}{k:Nat}(hr:Room k A):A.in1.units<cLine:=by
 have:=a2w hr
 show A.units+1<cLine
 omega
def a6_(K:W.Frag):List V→Hp→VK→Prop:=fun xs H Q=>∃(a:Addr) (ys:List V) (ks:List (List Int)),xs=[.ref a]∧SqL K H a ys∧VKs K H ys ks∧ys≠[] ∧
 ∀i y,ys[i]? = some y→(∀i',i'<ys.length→HT.lexLt (ks.getD i' []) (ks.getD i [])=false)→Q y H
section
variable {X:Cx}
theorem a4u{K:W.Frag}(hu:X.A.in1.units<cLine)(hc:X.calm=true:=by rfl)(hK:X.K=K:=by rfl):CallR X (.builtin "min") (a6_ K):=by
 subst hK
 intro pins s σ H xs us Q I r h
 obtain⟨a,ys,ks,rfl,hq,hk,hne,q⟩:=h
 obtain⟨u,rfl,ru⟩:=r.one
 cases (show u=Value.ref a from ru)
 obtain⟨its,rv,pl,hz⟩:=I.list hq
 have hlen:=rv.length
 have hlt:a<s.heap.objs.size:=by obtain⟨_,e,_⟩:=pl.isList;exact Heap.lt_size e
 have hT:=a4O I rv hk
 have hname:(toString "min" ++ toString ".loop" : String) = "min.loop" := by decide
 have hpos:0<its.length:=by
  cases ys with
  | nil=>exact absurd rfl hne
  | cons _ _=>rw[← hlen];exact Nat.succ_pos _
 refine kmk_tree F.kind_min F.plain_min F.entry_min (F.args_min1 _) ?_
 show wpAny _ X.A.in1 (Builtin.Builtins.bindParams "min" ["key","default"] 0 ⟨[],[]⟩ >>= _) _ _ s
 refine wpAny_bind (wpAny_of_eq (show Builtin.Builtins.bindParams "min" ["key","default"] 0 ⟨[],[]⟩=pure [none,none]from rfl) ?_)
 refine wpAny_bind (wpAny_pure ?_)
 refine wpAny_bind (wpAny_pyIter_list pl.isList ?_)
 refine wpAny_bind (wpAny_newList ?_ (Nat.zero_le _))
 rw[hname]
 have e1:(s.heap.push { cls:=.type "list_iterator",data:=.fields #[.ref a,.int 0 0] }).objs.size=s.heap.objs.size+1:=Heap.size_push ..
 have fr:∀b,s.heap.objs.size≤b→s.heap.get? b=none:=fun b hb=>by
  cases e:s.heap.get? b with
  | none=>rfl
  | some o=>exact absurd (Heap.lt_size e) (Nat.not_lt_of_le hb)
 refine wpAny_pure ⟨plainId_quiet F.plain_min_loop _,a69 (I.ok.hd hc) hu hT (I:=s.heap.objs.size) (l:=a) (fr _ (Nat.le_refl _)) (fr _ (by rw[e1];omega)) (by rw[e1];exact Nat.ne_of_lt (Nat.lt_succ_self _)) (by rw[e1];exact Nat.ne_of_lt (Nat.lt_succ_of_lt hlt)) (Nat.ne_of_lt hlt) hpos its.length 0 _ #[] _ (by omega) (Nat.zero_le _)
  (fun b o e=>Heap.get?_push_of_some _ (Heap.get?_push_of_some _ e)) ⟨_,Heap.get?_push_of_some _ (Heap.get?_push_size _ rfl),rfl,rfl⟩ ((pl.isList.push _).push _) (Heap.get?_push_size _ rfl) (.inl ⟨rfl,rfl⟩) fun i v h' tk hv hm hk=>?_⟩
 have I':Inv X pins σ H { s with heap:=h',toks:=tk }:=I.kept fun b o e=>hk b o (Nat.ne_of_lt (Heap.lt_size e)) (by rw[e1];exact Nat.ne_of_lt (Nat.lt_succ_of_lt (Heap.lt_size e))) (Heap.get?_push_of_some _ (Heap.get?_push_of_some _ e))
 have hi:i<ys.length:=by rw[hlen];exact(List.getElem?_eq_some_iff.mp hv).1
 obtain⟨u,hu',ru⟩:=rv.get (List.getElem?_eq_getElem hi)
 rw[hv]at hu'
 cases hu'
 exact⟨ys[i],H,I',ru,q i _ (List.getElem?_eq_getElem hi) fun i' h=>hm i' (by omega)⟩
end
section
variable {K:W.Frag}{cl:Str→Addr}
def v8(k:List Int)(ks:List (List Int)):List Int:=ks.foldl (fun m x=>if HT.lexLt x m=true then x else m) k
theorem T5:∀(ks:List (List Int)) (k:List Int),(v8 k ks=k∨v8 k ks∈ks)∧HT.lexLt k (v8 k ks)=false∧∀x∈ks,HT.lexLt x (v8 k ks)=false
 | [],k=>⟨.inl rfl,P6 k,fun x m=>absurd m List.not_mem_nil⟩
 | y::ks,k=>by
  show(v8 (if HT.lexLt y k=true then y else k) ks=k∨v8 (if HT.lexLt y k=true then y else k) ks∈y::ks)∧HT.lexLt k (v8 (if HT.lexLt y k=true then y else k) ks)=false∧∀x∈y::ks,HT.lexLt x (v8 (if HT.lexLt y k=true then y else k) ks)=false
  by_cases h:HT.lexLt y k=true
  ·rw[if_pos h]
   obtain⟨a,b,c⟩:=T5 ks y
   refine⟨.inr ?_,?_,fun x m=>?_⟩
   ·rcases a with a | a
    ·rw[a];exact List.mem_cons_self
    ·exact List.mem_cons_of_mem _ a
   ·cases z:HT.lexLt k (v8 y ks)with
    | false=>rfl
    | true =>
     have:=X6 z b
     rw[h]at this
     cases this
   ·rcases List.mem_cons.mp m with rfl | m
    ·exact b
    ·exact c x m
  ·rw[if_neg h]
   obtain⟨a,b,c⟩:=T5 ks k
   refine⟨?_,b,fun x m=>?_⟩
   ·rcases a with a | a
    ·exact .inl a
    ·exact .inr (List.mem_cons_of_mem _ a)
   ·rcases List.mem_cons.mp m with rfl | m
    ·cases z:HT.lexLt x (v8 k ks)with
     | false=>rfl
     | true =>
      cases z2:HT.lexLt k x with
      | true=>have:=X6 z b;rw[z2]at this;cases this
      | false =>
       have e:x=k:=X4 _ _ (Bool.eq_false_iff.mpr h) z2
       rw[e,b]at z
       cases z
    ·exact c x m
def V1:D→Option D
 | .lst ds=>match P4 ds with
  | some (k::ks)=>some (tI (v8 k ks))
  | _=>none
 | _=>none
theorem a8E:CbOk1 K cl (a6_ K) V1:=by
 intro x d z H F Q s hx h q
 unfold V1 at h
 split at h
 ·rename_i ds
  split at h
  ·rename_i k ks hk
   cases h
   obtain⟨a,xs,rfl,hH,r⟩:=hx.lst s
   obtain⟨e,hn⟩:=a37 hk
   subst e
   have hlen:(k::ks).length=xs.length:=by rw[← r.length,List.length_map]
   refine⟨a,xs,k::ks,rfl,.of hH,a66 s hn r,fun z=>(by rw[z]at hlen;cases hlen),fun i y hy hm=>?_⟩
   have hi:i<(k::ks).length:=by rw[hlen];exact(List.getElem?_eq_some_iff.mp hy).1
   have hd:((k::ks).map tI)[i]? = some (tI (k::ks)[i]):=by rw[List.getElem?_map,List.getElem?_eq_getElem hi];rfl
   obtain⟨v,ev,pv⟩:=r.get hd
   rw[hy]at ev
   cases ev
   have eg:(k::ks).getD i []=(k::ks)[i]:=by rw[List.getD_eq_getElem?_getD,List.getElem?_eq_getElem hi];rfl
   obtain⟨m1,m2,m3⟩:=T5 ks k
   have mem:v8 k ks∈k::ks:=by
    rcases m1 with m | m
    ·rw[m];exact List.mem_cons_self
    ·exact List.mem_cons_of_mem _ m
   obtain⟨j,hj,ej⟩:=List.mem_iff_getElem.mp mem
   have f1:HT.lexLt (v8 k ks) (k::ks)[i]=false:=by
    have:=hm j (by omega)
    rw[eg,List.getD_eq_getElem?_getD,List.getElem?_eq_getElem hj]at this
    rw[← ej];exact this
   have f2:HT.lexLt (k::ks)[i] (v8 k ks)=false:=by
    rcases List.mem_cons.mp (List.getElem_mem hi)with e | e
    ·rw[e];exact m2
    ·exact m3 _ e
   have e:v8 k ks=(k::ks)[i]:=X4 _ _ f1 f2
   refine q _ H F (.refl s) ?_
   rw[e]
   exact pv
  ·cases h
 ·cases h
end
section
variable {K:W.Frag}{cl:Str→Addr}{E:XK}{σ:St}{H F:Hp}{env:DE}{k:Nat}
theorem b2A{b:GF}{c:BF}{el:ZF}{g:TG}{tf:TT}{te:TE}{js:List Nat}{ds:List D}{xs:List V}{a B:Addr}{Q:VK}(nd:js.Nodup)(hg:O5 K cl k g b)(hc:L9 K cl E tf c)(he:k6 K cl E te el)(R:Rel K cl σ H F env)(hB:H B=none)
  (hl:∀H' F',Same F F'→Same F' H'→SqL K H' a xs) (r:Rps K cl F ds xs) (h:Ct K cl E (PN K cl) (r0 b c el (l3 k js env) env (G5 0 ds) []) σ H F env Q) :
  Q2 (Ite K a) g tf te k (l6 k js σ) B (fun H'=>Q (.ref B) H') H:=by
 refine a6r (xs:=xs) (fun i zs H'=>∃F' acc,Grow K cl σ H F env B acc zs H' F'∧Ct K cl E (PN K cl) (r0 b c el (l3 k js env) env ((G5 0 ds).drop i) acc) σ H F env Q) ⟨F,[],.start R hB,h⟩ (fun i zs H' _ ⟨F',acc,gw,_⟩=>hl H' F' gw.frm.fz gw.rel.sub) (fun i x zs H' p hx ⟨F',acc,gw,h'⟩ hp=>?_) (fun zs H' ⟨F',acc,gw,h'⟩=>?_)
 ·obtain⟨d,hd,pd⟩:=r.get' hx
  rw[N6 (a0B hd),Nat.zero_add]at h'
  have gr:Gr H' F' (upd H' p (.tup [.int i,x])) (upd F' p (.tup [.int i,x])):=.new gw.rel.sub hp
  refine a2S (Pv:=fun zs' H2=>∃F' acc,Grow K cl σ H F env B acc zs' H2 F'∧Ct K cl E (PN K cl) (r0 b c el (l3 k js env) env ((G5 0 ds).drop (i+1)) acc) σ H F env Q) nd hg hc he (gw.gr gr) ?_ h' fun acc' ys' H2 F2 gw2 h2=>⟨F2,acc',gw2,h2⟩
  simp only[Rp]
  exact⟨p,_,rfl,i0,.cons (by simp only[Rp]) (.one (Rp.mono (gw.frm.fz.trans gr.fz) _ _ pd))⟩
 ·rw[← r.length,List.drop_eq_nil_of_le (by rw[a0C];exact Nat.le_refl _)]at h'
  exact a3V gw h'
def a0J(i:Nat)(k:Nat)(js:List Nat)(b:GF)(c:BF)(el:ZF):NF:=fun e=>match e[i]? with
 | some (.fz d)=>(match seqL d with
  | none=>none
  | some ds=>r0 b c el (l3 k js e) e (G5 0 ds) [])
 | _=>none
theorem a7a{i:Nat}{g:TG}{tf:TT}{te:TE}{js:List Nat}{b:GF}{c:BF}{el:ZF}(nd:js.Nodup)(hg:O5 K cl k g b)(hc:L9 K cl E tf c)(he:k6 K cl E te el):RfN K cl E (a3a (a5z K (F5 (D1 i) Q0)) g tf te k js) (a0J i k js b c el):=by
 intro σ H Q env F R h
 unfold a0J at h
 split at h
 ·rename_i d q
  split at h
  ·exact h.elim
  ·rename_i ds hs
   obtain⟨v,e,p⟩:=R.fz i d q
   obtain⟨a,xs,rfl,r,hl⟩:=Rp.seqL p hs
   exact⟨_,e,a,rfl,⟨xs,hl H R.sub⟩,fun B hB=>b2A nd hg hc he R hB (fun H' F' f2 s2=>hl H' (f2.trans s2)) r h⟩
 ·exact h.elim
end
section
variable {K:W.Frag}{cl:Str→Addr}
theorem a39{F:Hp}:∀(l:List Nat),Rps K cl F (l.map fun(i:Nat)=>D.int (i:Int)) (l.map fun(i:Nat)=>V.int (i:Int))
 | []=>.nil
 | i::l=>.cons (by simp only[Rp]) (a39 l)
end
structure GrM(a:Addr)(H F H' F':Hp):Prop where
 fz:Same F F'
 sub:Same F' H'
 hid:∀b o,b≠a→H b=some o→F b=none→H' b=some o∧F' b=none
 dom:∀b,H' b=none→H b=none
structure Bs(a:Addr)(σ:St)(env:DE)(H0 F0 H F:Hp):Prop where
 fz:Same F0 F
 hid:∀b o,b≠a→H0 b=some o→F0 b=none→H b=some o∧F b=none∧¬Ow σ env b
 dom:∀b,H b=none→H0 b=none
section
variable {K:W.Frag}{cl:Str→Addr}{E:XK}{σ:St}{H F:Hp}{env:DE}
theorem Bs.frm{a:Addr}{ds:List D}{σ':St}{env':DE}{H0 F0 H' F':Hp}(B:Bs a σ env H0 F0 H F)(f:Frm σ H F env σ' H' F' env'):Bs a σ' env' H0 F0 H' F' :=
 ⟨B.fz.trans f.fz,fun b o n h g=>by obtain⟨h1,f1,w1⟩:=B.hid b o n h g;exact f.hid b o h1 f1 w1,fun b h=>B.dom b (f.dom b h)⟩
theorem Bs.gr{a:Addr}{H0 F0:Hp}(B:Bs a σ env H0 F0 H F)(s:Same F H):GrM a H0 F0 H F :=
 ⟨B.fz,s,fun b o n h g=>by obtain⟨h1,f1,_⟩:=B.hid b o n h g;exact⟨h1,f1⟩,B.dom⟩
end
abbrev O6:=List Int×List D
def a2z(k:O6):List O6→List O6
 | []=>[k]
 | l::r=>if HT.lexLt l.1 k.1 then l::a2z k r else k::l::r
def K8:List O6→List O6
 | []=>[]
 | k::r=>a2z k (K8 r)
theorem a0j(k:O6):∀r:List O6,(a2z k r).Perm (k::r)
 | []=>.refl _
 | l::r=>by
  unfold a2z
  split
  ·exact((a0j k r).cons l).trans (List.Perm.swap k l r)
  ·exact .refl _
theorem X7:∀r:List O6,(K8 r).Perm r
 | []=>.refl _
 | k::r=>(a0j k _).trans ((X7 r).cons k)
theorem a0W(k:O6):∀r:List O6,r.Pairwise (fun a b=>HT.lexLt b.1 a.1=false)→(a2z k r).Pairwise (fun a b=>HT.lexLt b.1 a.1=false)
 | [],_=>List.pairwise_singleton _ _
 | l::r,h=>by
  rw[List.pairwise_cons]at h
  unfold a2z
  split
  ·rename_i c
   rw[List.pairwise_cons]
   refine⟨fun b hb=>?_,a0W k r h.2⟩
   rcases List.mem_cons.mp ((a0j k r).mem_iff.mp hb)with rfl | hb
   ·exact a2h _ _ c
   ·exact h.1 b hb
  ·rename_i c
   rw[Bool.not_eq_true]at c
   rw[List.pairwise_cons]
   refine⟨fun b hb=>?_,by rw[List.pairwise_cons];exact h⟩
   rcases List.mem_cons.mp hb with rfl | hb
   ·exact c
   ·exact a3J _ _ _ c (h.1 b hb)
theorem a0k:∀r:List O6,(K8 r).Pairwise (fun a b=>HT.lexLt b.1 a.1=false)
 | []=>.nil
 | k::r=>a0W k _ (a0k r)
theorem V2:∀{a b:List O6},a.Perm b→a.Pairwise (fun a b=>HT.lexLt b.1 a.1=false)→b.Pairwise (fun a b=>HT.lexLt b.1 a.1=false)→a.Pairwise (fun a b=>a.1≠b.1)→a=b
 | [],b,h,_,_,_=>h.symm.eq_nil.symm▸rfl
 | x::a,[],h,_,_,_=>absurd h.eq_nil nofun
 | x::a,y::b,h,ha,hb,hd=>by
  rw[List.pairwise_cons]at ha hb hd
  have e:x=y:=by
   have mx:x∈y::b:=h.mem_iff.mp (by simp)
   have my:y∈x::a:=h.mem_iff.mpr (by simp)
   rcases List.mem_cons.mp mx with e | mx
   ·exact e
   ·rcases List.mem_cons.mp my with e | my
    ·exact e.symm
    ·exact absurd (X4 _ _ (hb.1 x mx) (ha.1 y my)) (hd.1 y my)
  subst e
  rw[V2 ((List.perm_cons x).mp h) ha.2 hb.2 hd.2]
def T9(el:ZF)(ec:DE):Nat→Option (List (List Int))
 | 0=>some []
 | n+1=>match T9 el ec n with
  | some ks=>(match el (ec.set 0 (.fz (.int (n:Int))))with
   | some (.ok (.tup ds) _)=>(match N3 ds with
    | some k=>if k≠[]then some (ks++[k])else none
    | none=>none)
   | _=>none)
  | none=>none
def K9(ks:List (List Int)):List O6:=(List.range ks.length).map fun(i:Nat)=>(ks.getD i [],[D.int (i:Int)])
def okK(ks:List (List Int)):Bool:=decide ks.Nodup && ks.all fun k=>k.length == (ks.headD []).length
def a0l(js:List Nat)(f:AF)(el:ZF):NF:=fun e=>bnd (f e) fun ds e1=>match ds with
 | [.int n]=>if 0≤n∧n<64 then(match T9 el (l3 1 js e1) n.toNat with
  | some ks=>if okK ks=true then some (.ok ((K8 (K9 ks)).map fun q=>q.2.headD .non) e1)else none
  | none=>none)else none
 | _=>none
theorem a1d{el:ZF}{ec:DE}:∀{n:Nat} {ks:List (List Int)},T9 el ec n=some ks→ks.length=n
 | 0,ks,h=>by cases h;rfl
 | n+1,ks,h=>by
  unfold T9 at h
  split at h
  ·rename_i ks' e
   split at h
   ·split at h
    ·split at h
     ·cases h;rw[List.length_append,a1d e];rfl
     ·cases h
    ·cases h
   ·cases h
  ·cases h
theorem a2A{el:ZF}{ec:DE}:∀{n:Nat} {ks:List (List Int)},T9 el ec n=some ks→∀i,i<n→∃e',el (ec.set 0 (.fz (.int (i:Int))))=some (.ok (.tup ((ks.getD i []).map .int)) e')∧ks.getD i []≠[]
 | 0,ks,h,i,hi=>by omega
 | n+1,ks,h,i,hi=>by
  unfold T9 at h
  split at h
  ·rename_i ks' e
   have hl:=a1d e
   split at h
   ·rename_i ds e' he
    split at h
    ·rename_i k hk
     split at h
     ·rename_i hn
      cases h
      by_cases z:i=n
      ·subst z
       have:(ks'++[k]).getD i []=k:=by rw[List.getD_eq_getElem?_getD,List.getElem?_append_right (by omega),hl,Nat.sub_self];rfl
       rw[this]
       exact⟨e',by rw[he,a2t hk],hn⟩
      ·obtain⟨e2,h1,h2⟩:=a2A e i (by omega)
       have:(ks'++[k]).getD i []=ks'.getD i []:=by rw[List.getD_eq_getElem?_getD,List.getD_eq_getElem?_getD,List.getElem?_append_left (by omega)]
       rw[this]
       exact⟨e2,h1,h2⟩
     ·cases h
    ·cases h
   ·cases h
  ·cases h
section
variable {K:W.Frag}{cl:Str→Addr}{E:XK}
theorem a8F{env:DE}{i:Nat}{d:D}(n:NoOw env):NoOw (env.set i (.fz d)):=by
 intro j ds oo q
 by_cases z:i=j
 ·subst z
  by_cases hi:i<env.length
  ·rw[List.getElem?_set_self hi]at q;cases q;exact oo
  ·rw[List.getElem?_eq_none (by rw[List.length_set];omega)]at q;cases q
 ·rw[List.getElem?_set_ne z]at q;exact n j ds oo q
theorem a9v{F H:Hp}:∀{ks:List (List Int)} {ys:List V},Same F H→Rps K cl F (ks.map fun k=>D.tup (k.map .int)) ys→(∀k∈ks,k≠[])→VPs K H ys ks
 | [],_,_,r,_=>by rw[r.inv0];trivial
 | k::ks,_,s,r,h=>by
  obtain⟨v,xs,rfl,p,r'⟩:=r.inv
  refine⟨?_,a9v s r' fun k' m=>h k' (List.mem_cons_of_mem _ m)⟩
  obtain⟨a,vs,rfl,hF,rv⟩:∃a vs,v=.ref a∧F a=some (.tup vs)∧Rps K cl F (k.map .int) vs:=by simpa only[Rp]using p
  have e:vs=k.map V.int:=Rps.ints rv
  subst e
  exact⟨a,[],rfl,by rw[List.append_nil];exact .of (s _ _ hF),h k List.mem_cons_self,fun r m=>by cases m⟩
theorem a8G{t:TA}{f:AF}{te:TE}{el:ZF}{js:List Nat}(nd:js.Nodup)(hf:L8 K cl E t f)(he:k6 K cl E te el):RfN K cl E (a6C K t te js) (a0l js f el):=by
 intro σ H Q env F R h
 refine hf σ H _ env F R ((Ct.bnd h a06).mono fun xs H1 ⟨F1,e1,ds,s1,R1,p1,h1⟩=>?_)
 split at h1
 ·rename_i n
  split at h1
  ·rename_i hn
   split at h1
   ·rename_i ks hk
    split at h1
    ·rename_i ok
     have hl:=a1d hk
     have ok':ks.Nodup∧∀k∈ks,k.length=(ks.headD []).length:=by simpa [okK]using ok
     have ex:xs=[.int n]:=Rps.ints (ns:=[n]) p1
     subst ex
     refine⟨n,rfl,fun r hr=>?_⟩
     refine⟨n.toNat,r,rfl,by rw[i0,Int.toNat_of_nonneg hn.1],by omega,fun H2 ext=>?_⟩
     have ext':∀a o,H1 a=some o→H2 a=some o:=fun a o ha=>ext a o (by rw[d5 (fun z=>by rw[z,hr]at ha;cases ha)];exact ha)
     refine⟨fun i ys H'=>∃F',Gr H1 F1 H' F'∧Rps K cl F' ((ks.take i).map fun k=>D.tup (k.map .int)) ys,⟨F1,⟨Same.refl _,fun a o ha=>ext' a o (R1.sub a o ha),fun a o ha fa=>⟨ext' a o ha,fa⟩⟩,.nil⟩,fun i ys H' hi ⟨F',g,rk⟩=>?_,fun ys H' hy ⟨F',g,rk⟩=>?_⟩
     ·obtain⟨e',hel,_⟩:=a2A hk i hi
      have R2:=R1.gr g
      have Rc:Rel K cl (l6 1 js σ) H' F' (l3 1 js e1):=R2.comp nd
      have n1:NoOw (l3 1 js e1):=a2R
      have Rp':=Rc.put (i:=0) (d:=.int (i:Int)) (v:=.int (i:Int)) (by unfold l3;simp) (fun ds z=>by unfold l3 at z;simp at z) (by simp only[Rp])
      refine he ((l6 1 js σ).set 0 (some (.int (i:Int)))) H' _ _ F' Rp' ?_
      rw[hel]
      intro v H4 F4 f4 R4 hv
      have gr4:Gr H' F' H4 F4:=f4.gr (a8F n1) R4.sub
      refine⟨F4,g.trans gr4,?_⟩
      have et:ks.take (i+1)=ks.take i++[ks.getD i []]:=by
       rw[List.take_add_one,List.getD_eq_getElem?_getD]
       rw[List.getElem?_eq_getElem (by omega)]
       rfl
      rw[et,List.map_append]
      exact(rk.mono gr4.fz).append (.one hv)
     ·rw[List.take_of_length_le (by omega)]at rk
      have ne:∀k∈ks,k≠[]:=fun k m=>by
       obtain⟨i,hi,e⟩:=List.mem_iff_getElem.mp m
       obtain⟨_,_,h3⟩:=a2A hk i (by omega)
       rw[List.getD_eq_getElem?_getD,List.getElem?_eq_getElem hi,Option.getD_some,e]at h3
       exact h3
      have gk:∀i,i<ks.length→ks.getD i []=ks[i]! := fun i hi=>by simp[List.getD_eq_getElem?_getD,hi]
      have at_:∀i (hi:i<ks.length),ks.getD i []=ks[i]:=fun i hi=>by rw[List.getD_eq_getElem?_getD,List.getElem?_eq_getElem hi];rfl
      refine⟨ks,a9v g.sub rk ne,fun i j hi hj z=>?_,fun l p hl' hp hs=>?_⟩
      ·have hi:i<ks.length:=by omega
       have hj:j<ks.length:=by omega
       rw[at_ i hi,at_ j hj]
       refine⟨by rw[ok'.2 _ (List.getElem_mem hi),ok'.2 _ (List.getElem_mem hj)],fun e=>z ((List.getElem_inj ok'.1).mp e)⟩
      ·have R2:=R1.gr g
       obtain⟨R3,f3⟩:=R2.newN (o:=.lst (p.map fun(i:Nat)=>V.int (i:Int))) hl'
       have h1:∀b H' F',Frm σ H1 F1 e1 σ H' F' e1→Rel K cl σ H' F' e1→PN K cl ((K8 (K9 ks)).map fun q=>q.2.headD .non) σ H1 H' F' e1 b→Q b H':=h1
       refine h1 _ _ F' ((R1.frm g).trans f3) R3 ⟨l,_,rfl,g.dom l hl',i0,R2.sub.free hl',fun j ⟨ds,q⟩ e=>?_,?_⟩
       ·obtain⟨a,ys',e1',hH,_⟩:=R2.mu j ds q
        rw[e]at e1';cases e1'
        rw[hl']at hH;cases hH
       ·have hp':p.Perm (List.range ks.length):=by rw[hl];exact hp
        have srt:p.map (fun(i:Nat)=>((ks.getD i [],[D.int (i:Int)]):O6))=K8 (K9 ks):=by
         refine V2 ((hp'.map _).trans (X7 _).symm) ?_ (a0k _) ?_
         ·rw[List.pairwise_map];exact hs
         ·rw[List.pairwise_map]
          have nd:p.Nodup:=hp'.nodup_iff.mpr List.nodup_range
          refine List.Pairwise.imp_of_mem ?_ nd
          intro a b ma mb hab e
          have ha:=List.mem_range.mp (hp'.mem_iff.mp ma)
          have hb:=List.mem_range.mp (hp'.mem_iff.mp mb)
          have e:ks.getD a []=ks.getD b []:=e
          rw[at_ a ha,at_ b hb]at e
          exact hab ((List.getElem_inj ok'.1).mp e)
        rw[← srt,List.map_map]
        exact a39 p
    ·exact h1.elim
   ·exact h1.elim
  ·exact h1.elim
 ·exact h1.elim
end
section
variable {P:Program}{w:World}{K:W.Frag}{mg:Str→Option Value}{base:Heap}{cl:Str→Addr}{TB:List (Addr×Str)}
theorem Fun.okT{x qual:Str}{st:Stmt}{f:Addr}{fd:FuncData}{N ps:List Str}{k:Nat}{body:SF}(F:Fun K x qual st f fd)(S:FnScope N ps (b9 st))
  (hbody:∀(A:Around) (outer:List Env) (s:Shared) (H:Hp) (E:XK),TbAll TB H→Room k (A.deeper (envOfC qual (b9 st) s.heap.objs.size f fd.code)) →
   ∃t,PSs (G9 (n4 P w) P w K mg base N qual (b9 st) f fd.code A outer s H E) (i4 st) t∧RfS K cl E t body):FnOk P w K mg base (n4 P w) (k+1) f fd ps (L7 TB (i3 K cl (fD N.length ps.length body))):=by
 obtain⟨oc,od,kV,doc,pm,an,cdv,ct,osl,rfl,lk,hcd⟩:=F.ex
 refine a1k lk hcd S (fun vs H Q E h=>V0 h.2) fun A outer s H vs Q E hr h=>?_
 obtain⟨t,h1,h2⟩:=hbody A outer s H E h.1 hr
 exact⟨t,h1,K4 h2 h.2⟩
variable {X:Cx}{k k':Nat}{x:Str}{ps:List Str}{sp:Sp}{E:XK}{e:Expr}{es:List Expr}{t:TA}{p pos:Pos}
theorem P8(hT:TbAll TB X.H₀)(G:Own X.prog X.w X.K X.mg X.base k x ps (L7 TB sp))(hr:Room k' X.A)(hk:k≤k')(hx:J7 (n4 X.prog X.w) X E)(ha:PA X (e::es) t)(hg:Gl X x:=by rfl)
  (hdb:(x == ("__debug__" : Str))=false:=by decide) (he:starEach (e::es) X.env=(false,eval e X.env)::starEach es X.env:=by rfl) (hpl:(backTo pos (starEach es X.env)).any (·.1)=false:=by rfl) :
  PE X (.Call (.Name x p) (e::es) [] pos) (O9 sp [] E t):=by
 have ha':PA X (e::es) (fun σ H Q=>∃R:List V→Hp→Prop,t σ H R∧∀vs H1,R vs H1→TbAll TB H1→Q vs H1):=by
  intro pos pins s σ H Q I h
  obtain⟨R,h1,h2⟩:=h
  exact wpAny_mono (ha pos pins s σ H R I h1) (fun us s' ⟨vs,H',I',r,q⟩=>⟨vs,H',I',r,h2 _ _ q (hT.now I'.base)⟩) fun _ _ z=>z
 have:=u4 G hr hk hx ha' hg hdb he hpl (p:=p)
 intro pins s σ H Q I h
 exact this pins s σ H Q I ⟨_,h,fun vs H1 z hT'=>⟨hT',z⟩⟩
end
section
variable {P:Program}{w:World}{K:W.Frag}{mg:Str→Option Value}{base:Heap}{cl:Str→Addr}{TB:List (Addr×Str)}
theorem FunD.okT{x qual:Str}{st:Stmt}{dT f:Addr}{fd:FuncData}{N ps:List Str}{k:Nat}{body:SF}(F:FunD K x qual st dT f fd)(S:FnScope N ps (b9 st))
  (hbody:∀(A:Around) (outer:List Env) (s:Shared) (H:Hp) (E:XK),TbAll TB H→Room k (A.deeper (envOfC qual (b9 st) s.heap.objs.size f fd.code)) →
   ∃t,PSs (G9 (n4 P w) P w K mg base N qual (b9 st) f fd.code A outer s H E) (i4 st) t∧RfS K cl E t body):FnOk P w K mg base (n4 P w) (k+1) f fd ps (L7 TB (i3 K cl (fD N.length ps.length body))):=by
 obtain⟨oc,od,kV,doc,pm,an,cdv,ct,osl,rfl,lk,hcd⟩:=F.ex
 refine a1k lk hcd S (fun vs H Q E h=>V0 h.2) fun A outer s H vs Q E hr h=>?_
 obtain⟨t,h1,h2⟩:=hbody A outer s H E h.1 hr
 exact⟨t,h1,K4 h2 h.2⟩
variable {X:Cx}{k k':Nat}{x:Str}{ps:List Str}{sp:Sp}{E:XK}{e:Expr}{es:List Expr}{t:TA}{p pos:Pos}{d:V}
theorem OwnD.own(G:OwnD P w K mg base k x ps sp d):Own P w K mg base k x ps sp:=by
 obtain⟨f,fd,du,F,b,bd,rd,kp,m⟩:=G.ex
 exact⟨f,fd,F,b,kp,m⟩
end
section
variable {K:W.Frag}{cl:Str→Addr}{E:XK}
def a5S(d e:D):Option D:=match d,e with
 | .str z,.int i=>if z.length≤sizeLine then(atI z.cps.toList i).map fun c=>.str ⟨#[c]⟩else none
 | _,_=>none
theorem b2B:OpOk K cl b1T a5S:=by
 intro x y d e z H F Q s hx hy h q
 unfold a5S at h
 split at h
 ·rename_i zz i
  split at h
  ·rename_i hz
   cases hc:atI zz.cps.toList i with
   | none=>rw[hc]at h;cases h
   | some c =>
    rw[hc]at h
    cases h
    have:x=.str zz:=hx.str
    exact⟨zz,i,c,this,hy.int,hz,hc,q _ H F (.refl s) (by simp only[Rp])⟩
  ·cases h
 ·cases h
end
section
variable {K:W.Frag}{cl:Str→Addr}{E:XK}{σ:St}{H F:Hp}{env:DE}{k:Nat}
def R8(f:ZF)(l u:OF):ZF:=fun e=>bnd (f e) fun d e1=>bnd (l e1) fun lo e2=>bnd (u e2) fun hi e3=>match d with
 | .str z=>if z.length≤sizeLine then some (.ok (.str (Txt.slice z lo hi)) e3)else none
 | _=>none
theorem V3{t:TE}{tl tu:TO}{f:ZF}{l u:OF}(hf:k6 K cl E t f)(hl:RfO K cl E tl l)(hu:RfO K cl E tu u):k6 K cl E (tSl b13 t tl tu) (R8 f l u):=by
 intro σ H Q env F R h
 refine hf σ H _ env F R ((Ct.bnd h B4).mono fun x H1 ⟨F1,e1,d,s1,R1,p1,h1⟩=>?_)
 refine hl σ H1 _ e1 F1 R1 ((Ct.bnd h1 B4).mono fun lo H2 ⟨F2,e2,lo',s2,R2,p2,h2⟩=>?_)
 refine hu σ H2 _ e2 F2 R2 ((Ct.bnd h2 B4).mono fun hi H3 ⟨F3,e3,hi',s3,R3,p3,h3⟩=>?_)
 cases (show lo=lo' from p2)
 cases (show hi=hi' from p3)
 split at h3
 ·rename_i z _ _
  have ex:x=.str z:=by have:=(show Rp K cl F1 (.str z) x from p1);simpa only[Rp]using this
  split at h3
  ·rename_i hz
   exact⟨z,ex,hz,h3 _ H3 F3 Frm.refl R3 (by simp only[PZ,Rp])⟩
  ·exact h3.elim
 ·exact h3.elim
end
section
variable {K:W.Frag}{cl:Str→Addr}{E:XK}{F:Hp}
def X8:List D→Option (List Str)
 | []=>some []
 | .str z::ds=>(X8 ds).map (z :: ·)
 | _::_=>none
theorem a4a:∀{ds:List D} {ys:List Str} {us:List V},X8 ds=some ys→Rps K cl F ds us→us=ys.map V.str
 | [],_,us,h,r=>by
  cases h
  exact r.inv0
 | .str z::ds,ys,us,h,r=>by
  unfold X8 at h
  cases h1:X8 ds with
  | none=>rw[h1]at h;cases h
  | some ys' =>
   rw[h1]at h
   cases h
   obtain⟨u,r',rfl,p1,p2⟩:=r.inv
   have e:u=.str z:=by simpa only[Rp]using p1
   rw[e,a4a h1 p2]
   rfl
 | .non::_,_,_,h,_=>by cases h
 | .bl _::_,_,_,h,_=>by cases h
 | .int _::_,_,_,h,_=>by cases h
 | .ty _::_,_,_,h,_=>by cases h
 | .cls _::_,_,_,h,_=>by cases h
 | .tup _::_,_,_,h,_=>by cases h
 | .lst _::_,_,_,h,_=>by cases h
 | .scr _::_,_,_,h,_=>by cases h
 | .exc _::_,_,_,h,_=>by cases h
 | .obj _ _ _::_,_,_,h,_=>by cases h
 | .dic _ _::_,_,_,h,_=>by cases h
 | .exv _ _ _::_,_,_,h,_=>by cases h
def a3j(f h:ZF):ZF:=fun e=>bnd (f e) fun d e1=>match d with
 | .str z=>bnd (h e1) fun d2 e2=>match seqL d2 with
  | some ds=>match X8 ds with
   | some ys=>if(ys.map (·.length)).sum+ys.length*z.length≤16777216 then some (.ok (.str (Txt.join z ys)) e2)else none
   | none=>none
  | none=>none
 | _=>none
theorem b1c{t u:TE}{f h:ZF}(hf:k6 K cl E t f)(hh:k6 K cl E u h):k6 K cl E (tBM K "str" (a9h K) t (F5 u Q0)) (a3j f h):=by
 intro σ H Q env F R h0
 refine hf σ H _ env F R ((Ct.bnd h0 B4).mono fun x H1 ⟨F1,e1,d,s1,R1,p1,h1⟩=>?_)
 split at h1
 ·rename_i z
  have ex:x=.str z:=by have:=(show Rp K cl F1 (.str z) x from p1);simpa only[Rp]using this
  subst ex
  refine⟨rfl,?_⟩
  refine hh σ H1 _ e1 F1 R1 ((Ct.bnd h1 B4).mono fun x2 H2 ⟨F2,e2,d2,s2,R2,p2,h2⟩=>?_)
  split at h2
  ·rename_i ds hs
   split at h2
   ·rename_i ys hy
    split at h2
    ·rename_i hz
     obtain⟨a,us,rfl,q1,l1⟩:=Rp.seqL p2 hs
     have e:=a4a hy q1
     subst e
     exact⟨z,a,ys,rfl,rfl,l1 H2 R2.sub,hz,h2 _ H2 F2 Frm.refl R2 (by simp only[PZ,Rp])⟩
    ·exact h2.elim
   ·exact h2.elim
  ·exact h2.elim
 ·exact h1.elim
end
@[simp] theorem a8H(ks:DK)(ds:List D):N4 (.od ks ds)=true:=rfl
@[simp] theorem b1d(ks:DK)(ds:List D):a0i (.od ks ds)=.fz (.dic ks ds):=rfl
@[simp] theorem b1e(ks:DK)(ds:List D):a0i (.hk ks ds)=.fz (.dic ks ds):=rfl
structure SU(K:W.Frag)(cl:Str→Addr)(ps:List Nat)(A:Nat→Addr)(H0 F0 F1:Hp)(σ:St)(H F:Hp)(env:DE):Prop where
 rel:Rel K cl σ H F env
 pn:∀i∈ps,σ[i]? = some (some (.ref (A i)))∧∃ds,env[i]? = some (.hd ds)
 fz:Same F0 F
 gz:Same F1 F
 hid:∀b o,(∀i∈ps,b≠A i)→H0 b=some o→F0 b=none→H b=some o∧F b=none∧¬Ow σ env b
 dom:∀b,H b=none→H0 b=none
inductive MU where | nx (e:DE) | dn (e:DE)
def Cu(K:W.Frag)(cl:Str→Addr)(ps:List Nat)(A:Nat→Addr)(H0 F0 F1:Hp)(r:Option MU)(N:Ends):Prop:=match r with
 | none=>False
 | some (.nx e)=>∀σ' H' F',SU K cl ps A H0 F0 F1 σ' H' F' e→N.nx σ' H'
 | some (.dn e)=>∀σ' H' F',SU K cl ps A H0 F0 F1 σ' H' F' e→N.rt .non H'
section
variable {K:W.Frag}{cl:Str→Addr}{E:XK}{ps:List Nat}{A:Nat→Addr}{H0 F0 F1:Hp}{σ:St}{H F:Hp}{env:DE}{k:Nat}
theorem SU.frm{σ':St}{H' F':Hp}{env':DE}(S:SU K cl ps A H0 F0 F1 σ H F env)(f:Frm σ H F env σ' H' F' env')(R:Rel K cl σ' H' F' env'):SU K cl ps A H0 F0 F1 σ' H' F' env' :=
 ⟨R,fun i m=>by obtain⟨e,ds,h⟩:=S.pn i m;obtain⟨h1,e1⟩:=f.keep i ds h;exact⟨e1.trans e,ds,h1⟩,S.fz.trans f.fz,S.gz.trans f.fz,
  fun b o n h g=>by obtain⟨h1,f1,w1⟩:=S.hid b o n h g;exact f.hid b o h1 f1 w1,fun b h=>S.dom b (f.dom b h)⟩
theorem SU.change{i:Nat}{ds es:List D}{ys:List V}(S:SU K cl ps A H0 F0 F1 σ H F env)(m:i∈ps)(h:env[i]? = some (.hd ds))(r:Rps K cl F es ys):SU K cl ps A H0 F0 F1 σ (upd H (A i) (.lst ys)) F (env.set i (.hd es)):=by
 obtain⟨e,_,_⟩:=S.pn i m
 obtain⟨a',xs,e',hH,hF,_⟩:=S.rel.mu i ds (.inr h)
 rw[e]at e';cases e'
 have hi:i<env.length:=(List.getElem?_eq_some_iff.mp h).1
 have self:(env.set i (.hd es))[i]? = some (.hd es):=List.getElem?_set_self hi
 have oth:∀j,j≠i→(env.set i (.hd es))[j]? = env[j]?:=fun j hj=>List.getElem?_set_ne (Ne.symm hj)
 have mui:∀j,Mu (env.set i (.hd es)) j→Mu env j:=fun j ⟨fs,q⟩=>by
  by_cases z:j=i
  ·subst z;exact⟨ds,.inr h⟩
  ·rw[oth j z]at q;exact⟨fs,q⟩
 have R:=S.rel
 refine⟨⟨fun b o q=>?_,by rw[List.length_set];exact R.len,fun j d q=>?_,fun j fs q=>?_,fun j k b hj hk=>R.inj j k b (mui j hj) (mui k hk),(R.od.updL hH).setE a1E⟩,fun j mj=>?_,S.fz,S.gz,fun b o n h0 f0=>?_,fun b q=>?_⟩
 ·have z:b≠A i:=fun z=>by rw[z,hF]at q;cases q
  rw[d5 z];exact R.sub _ _ q
 ·have z:j≠i:=fun z=>by subst z;rw[self]at q;cases q
  rw[oth j z]at q;exact R.fz j d q
 ·by_cases z:j=i
  ·subst z
   rw[self]at q
   rcases q with q | q
   ·cases q
   ·cases q;exact⟨_,ys,e,i0,hF,r⟩
  ·rw[oth j z]at q
   obtain⟨b,zs,e1,h1,f1,r1⟩:=R.mu j fs q
   have nb:b≠A i:=fun y=>z (R.inj j i b ⟨fs,q⟩ ⟨ds,.inr h⟩ e1 (by rw[y];exact e))
   exact⟨b,zs,e1,by rw[d5 nb];exact h1,f1,r1⟩
 ·obtain⟨e1,fs,q⟩:=S.pn j mj
  refine⟨e1,?_⟩
  by_cases z:j=i
  ·subst z;exact⟨es,self⟩
  ·exact⟨fs,by rw[oth j z];exact q⟩
 ·obtain⟨h1,f1,w1⟩:=S.hid b o n h0 f0
  refine⟨by rw[d5 (n i m)];exact h1,f1,fun⟨j,fs,oo,q,e1⟩=>?_⟩
  have y:j≠i:=fun y=>by subst y;rw[self]at q;cases q;exact oo
  rw[oth j y]at q;exact w1 ⟨j,fs,oo,q,e1⟩
 ·by_cases z:b=A i
  ·rw[z,i0]at q;cases q
  ·rw[d5 z]at q;exact S.dom b q
theorem SU.wk{F2:Hp}(S:SU K cl ps A H0 F0 F2 σ H F env)(s:Same F1 F2):SU K cl ps A H0 F0 F1 σ H F env:=⟨S.rel,S.pn,S.fz,s.trans S.gz,S.hid,S.dom⟩
theorem SU.at(S:SU K cl ps A H0 F0 F1 σ H F env):SU K cl ps A H0 F0 F σ H F env:=⟨S.rel,S.pn,S.fz,Same.refl _,S.hid,S.dom⟩
theorem Cu.wk{F2:Hp}{r:Option MU}{N:Ends}(h:Cu K cl ps A H0 F0 F1 r N)(s:Same F1 F2):Cu K cl ps A H0 F0 F2 r N:=by
 unfold Cu at h ⊢
 split at h
 ·exact h
 ·exact fun σ' H' F' S=>h σ' H' F' (S.wk s)
 ·exact fun σ' H' F' S=>h σ' H' F' (S.wk s)
end
def RpU(K:W.Frag)(cl:Str→Addr)(σ:St)(F:Hp):List (Sum Nat D)→List V→Prop
 | [],vs=>vs=[]
 | .inl i::xs,vs=>∃v r,vs=v::r∧σ[i]? = some (some v)∧RpU K cl σ F xs r
 | .inr d::xs,vs=>∃v r,vs=v::r∧Rp K cl F d v∧RpU K cl σ F xs r
section
variable {K:W.Frag}{cl:Str→Addr}{E:XK}{ps:List Nat}{σ:St}{H F:Hp}{env:DE}
theorem RpU.mono{F':Hp}(s:Same F F'):∀{xs:List (Sum Nat D)} {vs:List V},RpU K cl σ F xs vs→RpU K cl σ F' xs vs
 | [],_,h=>h
 | .inl _::_,_,⟨v,r,e,h1,h2⟩=>⟨v,r,e,h1,h2.mono s⟩
 | .inr _::_,_,⟨v,r,e,h1,h2⟩=>⟨v,r,e,Rp.mono s _ _ h1,h2.mono s⟩
theorem RpU.length:∀{xs:List (Sum Nat D)} {vs:List V},RpU K cl σ F xs vs→vs.length=xs.length
 | [],_,h=>by rw[show _=_ from h];rfl
 | .inl _::_,_,⟨v,r,e,_,h2⟩=>by rw[e,List.length_cons,List.length_cons,h2.length]
 | .inr _::_,_,⟨v,r,e,_,h2⟩=>by rw[e,List.length_cons,List.length_cons,h2.length]
end
def a8I(P:Program)(w:World)(K:W.Frag)(mg:Str→Option Value)(base:Heap)(k:Nat)(x:Str)(C:Addr)(ps:List Str)(f:Str):Prop :=
 ∃fI fd,MkX K C fI∧FnOk P w K mg base (n4 P w) k fI fd ps (a2k C f)∧Binds K fd ps []∧mg x=some (.ref C)
section
variable {X:Cx}{E:XK}{j k:Nat}
theorem a7b{x f:Str}{C:Addr}{ps:List Str}{e₀:Expr}{i5:List Expr}{np cpos pos:Pos}{ta:TA}(acc:XAcc X E)(G:a8I X.prog X.w X.K X.mg X.base j x C ps f)(hr:Room k X.A)(hk:j+1≤k)(hg:Gl X x)(ha:PA X (e₀::i5) ta)
  (hc:X.calm=true:=by rfl) (hex:X.ex=[]:=by rfl)
  (he:starEach (e₀::i5) X.env=(false,eval e₀ X.env)::starEach i5 X.env:=by rfl) (hplain:(backTo cpos (starEach i5 X.env)).any (·.1)=false:=by rfl) (hd:(x == ("__debug__" : Str))=false:=by decide) :
  PS X (.Raise (some (.Call (.Name x np) (e₀::i5) [] cpos)) none pos) (a2l C f E ta):=by
 obtain⟨fI,fd,M,F,B,m⟩:=G
 exact a6E acc M F (hr.mono hk) B hg m ha hc hex he hplain hd
end
section
variable {K:W.Frag}{cl:Str→Addr}{E:XK}
def a0K(c f:Str)(g:AF):SF:=fun e=>C9 (g e) fun ds _=>match ds with
 | [d]=>some (.ex (.v c f d))
 | _=>none
theorem a7c{c f:Str}{t:TA}{g:AF}(hf:L8 K cl E t g):RfS K cl E (a2l (cl c) f E t) (a0K c f g):=by
 intro N σ H env F R h
 refine hf σ H _ env F R ((Cs.bnd h).mono fun xs H1 ⟨F1,e1,ds,fr,R1,p1,h1⟩=>?_)
 split at h1
 ·rename_i d
  have p1:Rps K cl F1 [d] xs:=p1
  obtain⟨v,r,rfl,p,p2⟩:=p1.inv
  rw[p2.inv0]
  refine⟨v,rfl,fun dx nd=>?_⟩
  have gr:Gr H1 F1 (upd H1 dx (.xd [(f,v)])) (upd F1 dx (.xd [(f,v)])):=.new R1.sub nd
  exact h1 _ _ (fr.fx gr.fx) _ ⟨dx,v,rfl,i0,p.mono gr.fz⟩
 ·exact h1.elim
def a2B(xt:Str→Bool)(f:Str):D→Option D
 | .exv c g d=>if xt c=true∧g=f then some d else none
 | _=>none
def b32(K:W.Frag)(f:Str):V→Hp→VK→Prop:=fun x H1 Q=>∃a C dx y,x=.ref a∧H1 a=some (E1 a (.ref C) (some (2*dx+1)))∧H1 dx=some (.xd [(f,y)])∧W.ExcT K C∧W.hasDictIn K C=true∧W.findIn K (.ref C) f=some none∧Q y H1
theorem b2C{xt:Str→Bool}{f:Str}(hf:∀c,xt c=true→W.ExcT K (cl c)∧W.hasDictIn K (cl c)=true∧W.findIn K (.ref (cl c)) f=some none):a8c K cl (b32 K f) (a2B xt f):=by
 intro x d z H F Q s hx h q
 unfold a2B at h
 split at h
 ·rename_i c g d
  split at h
  ·rename_i hc
   obtain⟨hc,rfl⟩:=hc
   cases h
   obtain⟨h1,h2,h3⟩:=hf c hc
   rcases hx with hx | ⟨_,_,_,_,e,_⟩
   ·simp only[Rp]at hx
    obtain⟨a,dx,y,rfl,ha,hd,r⟩:=hx
    exact⟨a,_,dx,y,rfl,s _ _ ha,s _ _ hd,h1,h2,h3,q y H F (.refl s) r⟩
   ·cases e
  ·cases h
 ·cases h
theorem a7d{xt:Str→Bool}{f:Str}{t:TE}{o:ZF}(hf:∀c,xt c=true→W.ExcT K (cl c)∧W.hasDictIn K (cl c)=true∧W.findIn K (.ref (cl c)) f=some none)(ho:k6 K cl E t o):k6 K cl E (b1_ K t f) (eU (a2B xt f) o):=a5G (b2C hf) ho
theorem a8J{C:Addr}{f:Str}{vs:List V}{H:Hp}{Q:VK}{E:XK}(h:a2k C f vs H Q E):vs.length=2:=by
 obtain⟨a,v,rfl,_⟩:=h
 rfl
theorem a4v{N:List Str}{C:Addr}{f:Str}{vs:List V}{H:Hp}{Q:VK}(S:W.ExcS K C f)(h:a2k C f vs H Q E):(sXF K (D1 0) (D1 1) f) { nx:=fun _ H'=>Q .non H',rt:=Q } (start N vs) H:=by
 obtain⟨a,v,rfl,hp,q⟩:=h
 exact⟨v,rfl,.ref a,rfl,a,C,rfl,hp,S,q⟩
end
def a7e:V→List V→Hp→VK→Prop:=fun x vs H Q=>∃z,x=.str z∧vs=[]∧z.length≤1000∧Q (.str (Txt.upper z)) H
section
variable {X:Cx}
theorem a8K:MtR X "str.upper" a7e:=by
 intro pins s σ H x vs v us Q I rx rv h
 obtain⟨z,rfl,rfl,hz,q⟩:=h
 obtain⟨t,rfl⟩:=rx
 cases rv
 exact PyProof.Rows.SCL.upper (by omega) fun _=>⟨.str _,H,I.tok _,⟨_,rfl⟩,q⟩
end
section
variable {K:W.Frag}{cl:Str→Addr}{E:XK}
def a0m(f:ZF):ZF:=fun e=>bnd (f e) fun d e1=>match d with
 | .str z=>if z.length≤1000 then some (.ok (.str (Txt.upper z)) e1)else none
 | _=>none
theorem a8L{t:TE}{f:ZF}(hf:k6 K cl E t f):k6 K cl E (a7N K "str" a7e t) (a0m f):=by
 intro σ H Q env F R h0
 refine hf σ H _ env F R ((Ct.bnd h0 B4).mono fun x H1 ⟨F1,e1,d,s1,R1,p1,h1⟩=>?_)
 split at h1
 ·rename_i z
  split at h1
  ·rename_i hz
   have ex:x=.str z:=by have:=(show Rp K cl F1 (.str z) x from p1);simpa only[Rp]using this
   subst ex
   exact⟨rfl,z,rfl,rfl,hz,h1 _ H1 F1 Frm.refl R1 (show Rp K cl F1 (.str _) _ by simp only[Rp])⟩
  ·exact h1.elim
 ·exact h1.elim
def a0L(d e:D):Option D:=match d,e with
 | .str z,.int n=>if z.length≤1000∧-1000000000≤n∧n≤10000 then some (.str (W0 z n))else none
 | _,_=>none
theorem b1f:OpOk K cl a9g a0L:=by
 intro x y d e z H F Q s hx hy h q
 unfold a0L at h
 split at h
 ·rename_i u n
  split at h
  ·rename_i hz
   cases h
   have ex:x=.str u:=by
    rcases hx with hx | ⟨_,_,_,_,z,_⟩
    ·simpa only[Rp]using hx
    ·cases z
   have ey:y=.int n:=by
    rcases hy with hy | ⟨_,_,_,_,z,_⟩
    ·simpa only[Rp]using hy
    ·cases z
   exact⟨u,n,ex,ey,hz.1,hz.2.1,hz.2.2,q _ H F (.refl s) (by simp only[Rp])⟩
  ·cases h
 ·cases h
def b2D(K:W.Frag)(cl:Str→Addr):R2:=fun x y H Q=>a33 K cl false x y H Q∨rEq x y H Q
def b2E(K:W.Frag)(cl:Str→Addr):R2:=fun x y H Q=>a33 K cl true x y H Q∨rNe x y H Q
theorem a0M{X:Cx}(hu:X.A.units+41<cLine)(hK:X.K=K:=by rfl):OpR X (compareOp .Eq) (b2D K cl):=by
 intro pins s σ H x y v u Q I rx ry h
 rcases h with h | h
 ·exact b0S hu hK pins s σ H x y v u Q I rx ry h
 ·exact D5 pins s σ H x y v u Q I rx ry h
theorem b1g{X:Cx}(hu:X.A.units+41<cLine)(hK:X.K=K:=by rfl):OpR X (compareOp .NotEq) (b2E K cl):=by
 intro pins s σ H x y v u Q I rx ry h
 rcases h with h | h
 ·exact b0T hu hK pins s σ H x y v u Q I rx ry h
 ·exact b27 pins s σ H x y v u Q I rx ry h
def L3(neg:Bool)(d e:D):Option D:=if(G7 d || G7 e)=true then a0g neg d e else z8 neg d e
theorem a1Y:OpOk K cl (b2D K cl) (L3 false):=by
 intro x y d e z H F Q s hx hy h q
 unfold L3 at h
 split at h
 ·exact .inl (a6Z x y d e z H F Q s hx hy h q)
 ·exact .inr (D8 x y d e z H F Q s hx hy h q)
theorem b2F:OpOk K cl (b2E K cl) (L3 true):=by
 intro x y d e z H F Q s hx hy h q
 unfold L3 at h
 split at h
 ·exact .inl (a6Z x y d e z H F Q s hx hy h q)
 ·exact .inr (b3d x y d e z H F Q s hx hy h q)
end
end L2
namespace Law
open PySem L2 PyProof.Rows
def top(i:Nat):Stmt:=PySem.Challenge.pw_cratefit_k50_words_and_wide_wares.main.body.getD i (.Pass ⟨0,0,0,0⟩)
abbrev y3:Stmt:=top 20
abbrev B5:Stmt:=top 25
abbrev y6:Stmt:=top 26
abbrev y8:Stmt:=a0s (top 22) 0
abbrev r6:Stmt:=a0s (top 23) 0
abbrev m5:Stmt:=a0s (top 24) 0
abbrev J2:Stmt:=top 27
abbrev E6:Stmt:=top 29
abbrev M6:Stmt:=top 30
abbrev M7:Stmt:=top 31
abbrev E7:Stmt:=top 32
abbrev M8:Stmt:=top 33
abbrev M9:Stmt:=top 34
abbrev J3:Stmt:=top 35
abbrev N0:Stmt:=top 36
abbrev A3:Stmt:=top 37
abbrev D0:Stmt:=top 38
abbrev G8:Stmt:=top 39
abbrev t7:Stmt:=a0s (top 15) 0
variable {P:Program}{w:World}{K:PySem.W.Frag}{mg:Str→Option Value}{base:Heap}{c:Str→Addr}
structure Txt(K:PySem.W.Frag)(mg:Str→Option Value)(c:Str→Addr):Prop where
 z_ValueError:mg "ValueError" = none
 z_bool:mg "bool" = none
 z_enumerate:mg "enumerate" = none
 z_int:mg "int" = none
 z_isinstance:mg "isinstance" = none
 z_len:mg "len" = none
 z_list:mg "list" = none
 z_max:mg "max" = none
 z_min:mg "min" = none
 z_range:mg "range" = none
 z_sorted:mg "sorted" = none
 m_BadPacking:mg "BadPacking" = some (.ref (c "BadPacking"))
 m_BadPlan:mg "BadPlan" = some (.ref (c "BadPlan"))
 m_BadSide:mg "BadSide" = some (.ref (c "BadSide"))
 m_BadTurn:mg "BadTurn" = some (.ref (c "BadTurn"))
 m_BestShelver:mg "BestShelver" = some (.ref (c "BestShelver"))
 m_CrateError:mg "CrateError" = some (.ref (c "CrateError"))
 m_FirstShelver:mg "FirstShelver" = some (.ref (c "FirstShelver"))
 m_Full:mg "Full" = some (.ref (c "Full"))
 m_Hangs:mg "Hangs" = some (.ref (c "Hangs"))
 m_NoDeed:mg "NoDeed" = some (.ref (c "NoDeed"))
 m_NoDrawing:mg "NoDrawing" = some (.ref (c "NoDrawing"))
 m_NoPicker:mg "NoPicker" = some (.ref (c "NoPicker"))
 m_NoSheet:mg "NoSheet" = some (.ref (c "NoSheet"))
 m_NoText:mg "NoText" = some (.ref (c "NoText"))
 m_NoWare:mg "NoWare" = some (.ref (c "NoWare"))
 m_NoWeighing:mg "NoWeighing" = some (.ref (c "NoWeighing"))
 m_NothingDone:mg "NothingDone" = some (.ref (c "NothingDone"))
 m_Ring:mg "Ring" = some (.ref (c "Ring"))
 m_Shelver:mg "Shelver" = some (.ref (c "Shelver"))
 m_TooMany:mg "TooMany" = some (.ref (c "TooMany"))
 m_TooWide:mg "TooWide" = some (.ref (c "TooWide"))
 x_NoPicker:PySem.W.excIn K (c "NoPicker") vErr "ValueError.__new__" = true
 t_exc_NoPicker:PySem.W.ExcT K (c "NoPicker")
 t_exc_TooWide:PySem.W.ExcT K (c "TooWide")
 hd_TooWide:PySem.W.hasDictIn K (c "TooWide")=true
 xn_TooWide:PySem.W.findIn K (.ref (c "TooWide")) "at" = some none
 t_any_NoPicker_0:PySem.W.kitAny K (.ref (c "NoPicker")) [.ref (c "BadPacking"),.ref (c "BadPlan"),.ref (c "BadSide"),.ref (c "BadTurn"),.ref (c "Full"),.ref (c "Hangs"),.ref (c "NoDeed"),.ref (c "NoDrawing"),.ref (c "NoSheet")]=some false
 t_any_NoPicker_1:PySem.W.kitAny K (.ref (c "NoPicker")) [.ref (c "NoText"),.ref (c "NoWare"),.ref (c "NothingDone"),.ref (c "NoWeighing"),.ref (c "Ring"),.ref (c "TooMany")]=some false
 t_one_NoPicker_NoPicker:PySem.W.kitOne K (.ref (c "NoPicker")) (.ref (c "NoPicker"))=some true
 t_one_NoPicker_TooWide:PySem.W.kitOne K (.ref (c "NoPicker")) (.ref (c "TooWide"))=some false
 t_one_NoPicker_ValueError:PySem.W.kitOne K (.ref (c "NoPicker")) (.type "ValueError")=some true
 t_exo_NoPicker_CrateError:PySem.W.exmOne K (.ref (c "NoPicker")) (.ref (c "CrateError"))=some true
 t_any_TooWide_0:PySem.W.kitAny K (.ref (c "TooWide")) [.ref (c "BadPacking"),.ref (c "BadPlan"),.ref (c "BadSide"),.ref (c "BadTurn"),.ref (c "Full"),.ref (c "Hangs"),.ref (c "NoDeed"),.ref (c "NoDrawing"),.ref (c "NoSheet")]=some false
 t_any_TooWide_1:PySem.W.kitAny K (.ref (c "TooWide")) [.ref (c "NoText"),.ref (c "NoWare"),.ref (c "NothingDone"),.ref (c "NoWeighing"),.ref (c "Ring"),.ref (c "TooMany")]=some false
 t_one_TooWide_NoPicker:PySem.W.kitOne K (.ref (c "TooWide")) (.ref (c "NoPicker"))=some false
 t_one_TooWide_TooWide:PySem.W.kitOne K (.ref (c "TooWide")) (.ref (c "TooWide"))=some true
 t_one_TooWide_ValueError:PySem.W.kitOne K (.ref (c "TooWide")) (.type "ValueError")=some true
 t_exo_TooWide_CrateError:PySem.W.exmOne K (.ref (c "TooWide")) (.ref (c "CrateError"))=some true
 cl_Shelver:Cls K (c "Shelver")
 cl_FirstShelver:Cls K (c "FirstShelver")
 cl_BestShelver:Cls K (c "BestShelver")
 mk_BestShelver:PySem.W.makesIn K (c "BestShelver")=true
 in_BestShelver:PySem.W.findIn K (.ref (c "BestShelver")) "__init__" = some (some (.builtin "object.__init__"))
 kc_BestShelver:PySem.W.keepIn K (.ref (c "BestShelver"))=true
 mk_FirstShelver:PySem.W.makesIn K (c "FirstShelver")=true
 in_FirstShelver:PySem.W.findIn K (.ref (c "FirstShelver")) "__init__" = some (some (.builtin "object.__init__"))
 kc_FirstShelver:PySem.W.keepIn K (.ref (c "FirstShelver"))=true
 mk_Shelver:PySem.W.makesIn K (c "Shelver")=true
 in_Shelver:PySem.W.findIn K (.ref (c "Shelver")) "__init__" = some (some (.builtin "object.__init__"))
 kc_Shelver:PySem.W.keepIn K (.ref (c "Shelver"))=true
 t_ins_Shelver:InsT K (c "Shelver")
 t_iso_Shelver_Shelver:PySem.W.kitOne K (.ref (c "Shelver")) (.ref (c "Shelver"))=some true
 t_ins_FirstShelver:InsT K (c "FirstShelver")
 t_iso_FirstShelver_Shelver:PySem.W.kitOne K (.ref (c "FirstShelver")) (.ref (c "Shelver"))=some true
 t_ins_BestShelver:InsT K (c "BestShelver")
 t_iso_BestShelver_Shelver:PySem.W.kitOne K (.ref (c "BestShelver")) (.ref (c "Shelver"))=some true
def xT(n:Str)(ns:List Str):Option Bool:=if n = "NoPicker"∧ns=(["BadPacking","BadPlan","BadSide","BadTurn","Full","Hangs","NoDeed","NoDrawing","NoSheet"]:List Str)then some false else if n = "NoPicker"∧ns=(["NoText","NoWare","NothingDone","NoWeighing","Ring","TooMany"]:List Str)then some false else if n = "TooWide"∧ns=(["BadPacking","BadPlan","BadSide","BadTurn","Full","Hangs","NoDeed","NoDrawing","NoSheet"]:List Str)then some false else if n = "TooWide"∧ns=(["NoText","NoWare","NothingDone","NoWeighing","Ring","TooMany"]:List Str)then some false else none
def x1(n m:Str):Option Bool:=if n = "NoPicker"∧m = "NoPicker" then some true else if n = "NoPicker"∧m = "TooWide" then some false else if n = "TooWide"∧m = "NoPicker" then some false else if n = "TooWide"∧m = "TooWide" then some true else none
def x2(n:Str)(m:String):Option Bool:=if n = "NoPicker"∧m = "ValueError" then some true else if n = "TooWide"∧m = "ValueError" then some true else none
theorem a9w(T:Txt K mg c):∀(n:Str) (m:List Str) (b:Bool),xT n m=some b→PySem.W.ExcT K (c n)∧PySem.W.kitAny K (.ref (c n)) (m.map fun m=>.ref (c m))=some b:=by
 intro n m b h
 unfold xT at h
 split at h
 ·rename_i z;obtain⟨rfl,rfl⟩:=z;cases h;exact⟨T.t_exc_NoPicker,T.t_any_NoPicker_0⟩
 split at h
 ·rename_i z;obtain⟨rfl,rfl⟩:=z;cases h;exact⟨T.t_exc_NoPicker,T.t_any_NoPicker_1⟩
 split at h
 ·rename_i z;obtain⟨rfl,rfl⟩:=z;cases h;exact⟨T.t_exc_TooWide,T.t_any_TooWide_0⟩
 split at h
 ·rename_i z;obtain⟨rfl,rfl⟩:=z;cases h;exact⟨T.t_exc_TooWide,T.t_any_TooWide_1⟩
 cases h
theorem a3k(T:Txt K mg c):∀(n:Str) (m:Str) (b:Bool),x1 n m=some b→PySem.W.ExcT K (c n)∧PySem.W.kitOne K (.ref (c n)) (.ref (c m))=some b:=by
 intro n m b h
 unfold x1 at h
 split at h
 ·rename_i z;obtain⟨rfl,rfl⟩:=z;cases h;exact⟨T.t_exc_NoPicker,T.t_one_NoPicker_NoPicker⟩
 split at h
 ·rename_i z;obtain⟨rfl,rfl⟩:=z;cases h;exact⟨T.t_exc_NoPicker,T.t_one_NoPicker_TooWide⟩
 split at h
 ·rename_i z;obtain⟨rfl,rfl⟩:=z;cases h;exact⟨T.t_exc_TooWide,T.t_one_TooWide_NoPicker⟩
 split at h
 ·rename_i z;obtain⟨rfl,rfl⟩:=z;cases h;exact⟨T.t_exc_TooWide,T.t_one_TooWide_TooWide⟩
 cases h
theorem a3l(T:Txt K mg c):∀(n:Str) (m:String) (b:Bool),x2 n m=some b→PySem.W.ExcT K (c n)∧PySem.W.kitOne K (.ref (c n)) (.type m)=some b:=by
 intro n m b h
 unfold x2 at h
 split at h
 ·rename_i z;obtain⟨rfl,rfl⟩:=z;cases h;exact⟨T.t_exc_NoPicker,T.t_one_NoPicker_ValueError⟩
 split at h
 ·rename_i z;obtain⟨rfl,rfl⟩:=z;cases h;exact⟨T.t_exc_TooWide,T.t_one_TooWide_ValueError⟩
 cases h
def r9(n:Str):Option Bool:=if n = "NoPicker" then some true else if n = "TooWide" then some true else none
theorem R9(T:Txt K mg c):∀n b,r9 n=some b→PySem.W.exmOne K (.ref (c n)) (.ref (c "CrateError"))=some b:=by
 intro n b h
 unfold r9 at h
 split at h
 ·rename_i z;subst z;cases h;exact T.t_exo_NoPicker_CrateError
 split at h
 ·rename_i z;subst z;cases h;exact T.t_exo_TooWide_CrateError
 cases h
def a1Z(n:Str):Bool:=decide (n = "TooWide")
theorem a4b(T:Txt K mg c):∀n,a1Z n=true→PySem.W.ExcT K (c n)∧PySem.W.hasDictIn K (c n)=true∧PySem.W.findIn K (.ref (c n)) "at" = some none:=by
 intro n h
 unfold a1Z at h
 simp only[Bool.or_eq_true,decide_eq_true_eq]at h
 rcases h with rfl
 ·exact⟨T.t_exc_TooWide,T.hd_TooWide,T.xn_TooWide⟩
def S0(g0 g1 g2:List D→Option R1):Str→Option (List D→Option R1):=fun n=>if n = "Shelver" then some g0 else if n = "FirstShelver" then some g1 else if n = "BestShelver" then some g2 else none
theorem b1h{X:Cx}{E:XK}{k:Nat}{g0 g1 g2:List D→Option R1}(hr:Room k X.A)(hx:J7 (n4 X.prog X.w) X E)(h_Shelver:∃k' ps,k'≤k∧OwnM X.prog X.w X.K X.mg X.base k' (c "Shelver") "pick" ps (i3 X.K c g0))(h_FirstShelver:∃k' ps,k'≤k∧OwnM X.prog X.w X.K X.mg X.base k' (c "FirstShelver") "pick" ps (i3 X.K c g1))(h_BestShelver:∃k' ps,k'≤k∧OwnM X.prog X.w X.K X.mg X.base k' (c "BestShelver") "pick" ps (i3 X.K c g2)):a3K X (TR X.K c (S0 g0 g1 g2)) "pick" E:=a6x hr hx (by
 rintro C sp ⟨n,g,h,rfl,rfl⟩
 unfold S0 at h
 split at h
 ·rename_i z;subst z;cases h;exact h_Shelver
 split at h
 ·rename_i z;subst z;cases h;exact h_FirstShelver
 split at h
 ·rename_i z;subst z;cases h;exact h_BestShelver
 cases h)
def xi(n m:Str):Option Bool:=if n = "Shelver"∧m = "Shelver" then some true else if n = "FirstShelver"∧m = "Shelver" then some true else if n = "BestShelver"∧m = "Shelver" then some true else none
theorem b3n(T:Txt K mg c):∀n m b,xi n m=some b→InsT K (c n)∧PySem.W.kitOne K (.ref (c n)) (.ref (c m))=some b:=by
 intro n m b h
 unfold xi at h
 by_cases z:n = "Shelver"∧m = "Shelver"
 ·rw[if_pos z]at h;obtain⟨rfl,rfl⟩:=z;cases h;exact⟨T.t_ins_Shelver,T.t_iso_Shelver_Shelver⟩
 rw[if_neg z]at h;clear z
 by_cases z:n = "FirstShelver"∧m = "Shelver"
 ·rw[if_pos z]at h;obtain⟨rfl,rfl⟩:=z;cases h;exact⟨T.t_ins_FirstShelver,T.t_iso_FirstShelver_Shelver⟩
 rw[if_neg z]at h;clear z
 by_cases z:n = "BestShelver"∧m = "Shelver"
 ·rw[if_pos z]at h;obtain⟨rfl,rfl⟩:=z;cases h;exact⟨T.t_ins_BestShelver,T.t_iso_BestShelver_Shelver⟩
 rw[if_neg z]at h;clear z
 cases h
theorem Y5:FnScope ["self","at"] ["self","at"] (b9 t7):=⟨rfl,rfl,rfl,by decide +kernel,rfl,by decide +kernel,by decide +kernel⟩
seal PSs PS PE PA PT
theorem Y6{f:Addr}{fd:FuncData}(F:Fun K "__init__" "TooWide.__init__" t7 f fd)(S:PySem.W.ExcS K (c "TooWide") "at"):FnOk P w K mg base (n4 P w) 3 f fd ["self","at"] (a2k (c "TooWide") "at") :=
 F.okE Y5 (fun vs H Q E h=>a8J h) fun cdv A outer s H vs Q E hr h=>⟨_,h7 (b3a (pv 0) (pv 1) rfl),a4v S h⟩
def a4w:SF:=(a5J (a0l [0] (aC (D7 A1 0) aN) (eT (aC (eU a0e (eB A0 (G1 A9 1 (eV 0)) (eC (.int 1)))) (aC (eU a0e (eB A0 (G1 A9 1 (eV 0)) (eC (.int 0)))) (aC (eV 0) aN))))))
def w8:List D→Option R1:=fD 1 1 a4w
theorem a4c:FnScope ["wares"] ["wares"] (b9 y3):=⟨rfl,rfl,rfl,by decide +kernel,rfl,by decide +kernel,by decide +kernel⟩
theorem a4d{TB:List (Addr×Str)}{f:Addr}{fd:FuncData}(F:Fun K "by_height" "by_height" y3 f fd)(T:Txt K mg c)  {cc Pt:Addr} (hcode:fd.code=.ref cc) (hC:PySem.W.CodeHd base cc Pt) (hB:base.BuiltinsAt mg Pt) (hL:TB.lookup Pt=some "by_height.<locals>.<lambda>"):FnOk P w K mg base (n4 P w) 3 f fd ["wares"] (L7 TB (i3 K c w8)) :=
 F.okT (k:=2) a4c fun A outer s H E hT hr=>⟨_,(h7 (j3 (a77 (Nc:=["k","wares"]) (js:=[0]) (kn := "k") (q := "by_height.<locals>.<lambda>") hr rfl rfl T.z_sorted rfl T.z_range (b0 (j7 (n9 (K:=K)) rfl T.z_len E3 (b0 (pv 0) d9)) d9) rfl hcode hC hB rfl (hT _ _ hL) ⟨by decide +kernel,rfl,by decide +kernel,(by change ∀y∈Scope.names _,y.2=NameKind.free→(b9 y3).names.lookup y.1=some .cell∨(b9 y3).names.lookup y.1=some .free;decide +kernel),by decide +kernel,rfl,rfl,by decide +kernel⟩ rfl rfl (fun _ _ _ _ _=>rfl) rfl rfl (fun _ _ _ _=>(u9 (b0 (a5m a3r (x9 (F7 (K:=K)) (x9 (A8 (K:=K)) (pv 1) (pv 0) (fun _ _=>rfl)) g4 (fun _ _=>rfl))) (b0 (a5m a3r (x9 (F7 (K:=K)) (x9 (A8 (K:=K)) (pv 1) (pv 0) (fun _ _=>rfl)) g4 (fun _ _=>rfl))) (b0 (pv 0) d9)))))))),(b0c (a8G (by decide) (d6 (J9 G4) i1) (D3 (d6 (a5G a3Q (g7 K0 (G2 G3 f9) d7)) (d6 (a5G a3Q (g7 K0 (G2 G3 f9) d7)) (d6 f9 i1))))))⟩
def S1:SF:=(g6 (u3 (bZ (eB (z8 false) (eV 0) (eC (.str "next")))) (j4 (a3i "Shelver")) u0) (g6 (u3 (bZ (eB (z8 false) (eV 0) (eC (.str "first")))) (j4 (a3i "FirstShelver")) u0) (g6 (u3 (bZ (eB (z8 false) (eV 0) (eC (.str "best")))) (j4 (a3i "BestShelver")) u0) (a3S "NoPicker" (aC (eC (.str "a picker is next, first or best")) aN)))))
def i9:List D→Option R1:=fD 1 1 S1
theorem a28:FnScope ["word"] ["word"] (b9 B5):=⟨rfl,rfl,rfl,by decide +kernel,rfl,by decide +kernel,by decide +kernel⟩
theorem a29{f:Addr}{fd:FuncData}(F:Fun K "shelver_of" "shelver_of" B5 f fd)(T:Txt K mg c)  : FnOk P w K mg base (n4 P w) 3 f fd ["word"] (i3 K c i9) :=
 F.okD (k:=2) a28 fun cdv A outer s H E hr=>⟨_,(g5 (t8 (j9 D5 (pv 0) u7 (k7 _)) (h7 (j3 (a03 T.mk_Shelver T.in_Shelver T.kc_Shelver T.m_Shelver))) k9) (g5 (t8 (j9 D5 (pv 0) u7 (k7 _)) (h7 (j3 (a03 T.mk_FirstShelver T.in_FirstShelver T.kc_FirstShelver T.m_FirstShelver))) k9) (g5 (t8 (j9 D5 (pv 0) u7 (k7 _)) (h7 (j3 (a03 T.mk_BestShelver T.in_BestShelver T.kc_BestShelver T.m_BestShelver))) k9) (h7 (a7R P5 T.x_NoPicker rfl T.m_NoPicker (b0 u7 d9)))))),(h9 (n5 (p9 (g7 D8 f9 d7)) (j5 a2y) t9) (h9 (n5 (p9 (g7 D8 f9 d7)) (j5 a2y) t9) (h9 (n5 (p9 (g7 D8 f9 d7)) (j5 a2y) t9) (a8d (d6 d7 i1)))))⟩
def a2C:SF:=(G6 1 (t4 [(g8 2),(g8 3)]) (u3 (bZ (eB gGt (eB A0 (eV 3) (eC (.int 0))) (eV 0))) (a0K "TooWide" "at" (aC (eV 2) aN)) u0))
def p6:List D→Option R1:=fD 4 2 a2C
theorem L4:FnScope ["width","wares","k","ware"] ["width","wares"] (b9 y6):=⟨rfl,rfl,rfl,by decide +kernel,rfl,by decide +kernel,by decide +kernel⟩
theorem a10{f:Addr}{fd:FuncData}(F:Fun K "check_widths" "check_widths" y6 f fd)(T:Txt K mg c)(XI_TooWide:a8I P w K mg base 3 "TooWide" (c "TooWide") ["self","at"] "at"):FnOk P w K mg base (n4 P w) 5 f fd ["width","wares"] (i3 K c p6) :=
 F.okD (k:=4) L4 fun cdv A outer s H E hr=>⟨_,(h7 (a1i PassesOwn.leaving rfl (a2g rfl T.z_enumerate (b0 (pv 1) d9)) (a0u (K:=K) (n:=2) rfl (B9 (y4 (i:=2) L4.nd rfl (Or.inl rfl)) (B9 (y4 (i:=3) L4.nd rfl (Or.inl rfl)) a0q))) (h7 (t8 (j9 a1j (x9 (F7 (K:=K)) (pv 3) g4 (fun _ _=>rfl)) (pv 0) (k7 _)) (h7 (a7b P5 XI_TooWide hr (by decide) rfl (b0 (pv 2) d9))) k9)))),(a3U (a0A (C3 (v9 (k:=4) (by decide)) (C3 (v9 (k:=4) (by decide)) a0z)) rfl) (n5 (p9 (g7 a1K (g7 K0 f9 d7) f9)) (a7c (d6 f9 i1)) t9))⟩
def V4:SF:=(j4 (eIf (a07 (bZ (eB gGt (D7 A1 1) (eC (.int 0)))) (bZ (eB gGe (G1 A9 1 (eU a0e (eC (.int 1)))) (eV 2)))) (eB W6 (D7 A1 1) (eC (.int 1))) (eC .non)))
def p7:List D→Option R1:=fD 3 3 V4
theorem a11:FnScope ["self","rooms","w"] ["self","rooms","w"] (b9 y8):=⟨rfl,rfl,rfl,by decide +kernel,rfl,by decide +kernel,by decide +kernel⟩
theorem a12{f:Addr}{fd:FuncData}(F:Fun K "pick" "Shelver.pick" y8 f fd)(T:Txt K mg c)  : FnOk P w K mg base (n4 P w) 3 f fd ["self","rooms","w"] (i3 K c p7) :=
 F.okD (k:=2) a11 fun cdv A outer s H E hr=>⟨_,(h7 (j3 (a3o (PW.pt (a3m (j9 a1j (j7 (n9 (K:=K)) rfl T.z_len E3 (b0 (pv 1) d9)) g4 (k7 _)) (a16 (j9 a5n (x9 (A8 (K:=K)) (pv 1) (a5m a3r g4) (fun _ _=>rfl)) (pv 2) (k7 _))))) (i8 a3q (j7 (n9 (K:=K)) rfl T.z_len E3 (b0 (pv 1) d9)) g4) G0))),(j5 (a9o (a2o (p9 (g7 a1K (J9 G4) d7)) (p9 (g7 a5H (G2 G3 (a5G a3Q d7)) f9))) (g7 a3R (J9 G4) d7) d7))⟩
def Y7:SF:=(g6 (G6 1 (t4 [(g8 3),(g8 4)]) (u3 (bZ (eB gGe (eV 4) (eV 2))) (K3 3) u0)) (j4 (eC .non)))
def l7:List D→Option R1:=fD 5 3 Y7
theorem C7:FnScope ["self","rooms","w","number","room"] ["self","rooms","w"] (b9 r6):=⟨rfl,rfl,rfl,by decide +kernel,rfl,by decide +kernel,by decide +kernel⟩
theorem X9{f:Addr}{fd:FuncData}(F:Fun K "pick" "FirstShelver.pick" r6 f fd)(T:Txt K mg c)  : FnOk P w K mg base (n4 P w) 3 f fd ["self","rooms","w"] (i3 K c l7) :=
 F.okD (k:=2) C7 fun cdv A outer s H E hr=>⟨_,(g5 (a1i PassesOwn.leaving rfl (a2g rfl T.z_enumerate (b0 (pv 1) d9)) (a0u (K:=K) (n:=2) rfl (B9 (y4 (i:=3) C7.nd rfl (Or.inl rfl)) (B9 (y4 (i:=4) C7.nd rfl (Or.inl rfl)) a0q))) (h7 (t8 (j9 a5n (pv 4) (pv 2) (k7 _)) (h7 (j3 (pv 3))) k9))) (h7 (j3 G0))),(h9 (a3U (a0A (C3 (v9 (k:=5) (by decide)) (C3 (v9 (k:=5) (by decide)) a0z)) rfl) (n5 (p9 (g7 a5H f9 f9)) a0y t9)) (j5 d7))⟩
def a0n:SF:=(g6 (A6 3 (a0J 1 2 [2] (t4 [(g8 0),(g8 1)]) (bZ (eB gGe (eV 1) (eV 2))) (eT (aC (eV 1) (aC (eV 0) aN))))) (j4 (eIf (bZ (eB gGt (D7 A1 3) (eC (.int 0)))) (eB A0 (D7 V1 3) (eC (.int 1))) (eC .non))))
def m7:List D→Option R1:=fD 4 3 a0n
theorem M0:FnScope ["self","rooms","w","wide"] ["self","rooms","w"] (b9 m5):=⟨rfl,rfl,rfl,by decide +kernel,rfl,by decide +kernel,by decide +kernel⟩
theorem Y8{f:Addr}{fd:FuncData}(F:Fun K "pick" "BestShelver.pick" m5 f fd)(T:Txt K mg c)  : FnOk P w K mg base (n4 P w) 3 f fd ["self","rooms","w"] (i3 K c m7) :=
 F.okD (k:=2) M0 fun cdv A outer s H E hr=>⟨_,(g5 (a1u (i:=3) (Nc:=["number","room","w"]) (k:=2) (js:=[2]) rfl ⟨by decide +kernel,rfl,by decide +kernel,(by change ∀y∈Scope.names _,y.2=NameKind.free→(b9 m5).names.lookup y.1=some .cell∨(b9 m5).names.lookup y.1=some .free;decide +kernel),by decide +kernel,rfl,rfl,by decide +kernel⟩ M0.nd rfl (a2g rfl T.z_enumerate (b0 (pv 1) d9)) (fun _ _ _ _ _=>(a0u (K:=K) (n:=2) rfl (B9 (y4 (i:=0) (by show List.Nodup [("number" : Str),("room" : Str),("w" : Str)];decide +kernel) rfl (Or.inl rfl)) (B9 (y4 (i:=1) (by show List.Nodup [("number" : Str),("room" : Str),("w" : Str)];decide +kernel) rfl (Or.inl rfl)) a0q)))) (fun _ _ _ _ _=>(b11 (j9 a5n (pv 1) (pv 2) (k7 _)))) (fun _ _ _ _ _=>(u9 (b0 (pv 1) (b0 (pv 0) d9))))) (h7 (j3 (a3o (j9 a1j (j7 (n9 (K:=K)) rfl T.z_len E3 (b0 (pv 3) d9)) g4 (k7 _)) (x9 (F7 (K:=K)) (j7 (a4u (K:=K) (hu1 hr)) rfl T.z_min b2u (b0 (pv 3) d9)) g4 (fun _ _=>rfl)) G0)))),(h9 (a1P (a7a (by decide) (a0A (C3 (v9 (k:=2) (by decide)) (C3 (v9 (k:=2) (by decide)) a0z)) rfl) (p9 (g7 a5H f9 f9)) (D3 (d6 f9 (d6 f9 i1))))) (j5 (a9o (p9 (g7 a1K (J9 G4) d7)) (g7 K0 (J9 a8E) d7) d7)))⟩
def a7f:SF:=(g6 (a0x 3 i9 (aC (eV 2) aN)) (g6 (Y4 (D9 p6 (aC (eV 0) (aC (eV 1) aN)))) (g6 (A6 4 (eL aN)) (g6 (A6 5 (eL aN)) (g6 (r8 6 (eC (.int 0))) (g6 (A6 7 (nB a2q (zN (eL (aC (eC .non) aN))) (D7 A1 1))) (g6 (a3T (i7 w8 (aC (eV 1) aN))  (g8 8) (g6 (a5M (G1 A9 1 (eV 8)) (t4 [(g8 9),(g8 10),(g8 11)])) (g6 (r8 12 (a1W (S0 p7 l7 m7) "pick" (eV 3) (aC (zN (nCV S8 4)) (aC (eV 9) aN)))) (g6 (u3 (bZ (eB (J0 false) (eV 12) (eC .non))) (g6 (r8 12 (D7 A1 4)) (g6 (a09 4 (eV 0)) (g6 (a09 5 (eV 6)) (a2u 6 (fun i j=>i+j) (eV 10))))) u0) (g6 (a5K 7 (eV 8) (eT (aC (eB W6 (eV 0) (G1 A9 4 (eV 12))) (aC (G1 A9 5 (eV 12)) (aC (eC (.bl false)) aN))))) (a1U 4 (eV 12) (fun i j=>i-j) (eV 9))))))) (j4 (eT (aC (eV 6) (aC (eV 7) aN)))))))))))
def B7:List D→Option R1:=fD 13 3 a7f
theorem p8:FnScope ["width","wares","word","shelver","rooms","floors","height","places","k","w","h","turns","number"] ["width","wares","word"] (b9 J2):=⟨rfl,rfl,rfl,by decide +kernel,rfl,by decide +kernel,by decide +kernel⟩
theorem a5T{TB:List (Addr×Str)}{f:Addr}{fd:FuncData}{dT:Addr}(F:FunD K "shelved" "shelved" J2 dT f fd)(T:Txt K mg c)(G_shelver_of:Own P w K mg base 3 "shelver_of" ["word"] (i3 K c i9))(G_check_widths:Own P w K mg base 5 "check_widths" ["width","wares"] (i3 K c p6))(G_by_height:Own P w K mg base 3 "by_height" ["wares"] (L7 TB (i3 K c w8)))(OM_Shelver_pick:OwnM P w K mg base 3 (c "Shelver") "pick" ["self","rooms","w"] (i3 K c p7))(OM_FirstShelver_pick:OwnM P w K mg base 3 (c "FirstShelver") "pick" ["self","rooms","w"] (i3 K c l7))(OM_BestShelver_pick:OwnM P w K mg base 3 (c "BestShelver") "pick" ["self","rooms","w"] (i3 K c m7)):FnOk P w K mg base (n4 P w) 7 f fd ["width","wares","word"] (L7 TB (i3 K c B7)) :=
 F.okT (k:=6) p8 fun A outer s H E hT hr=>⟨_,(g5 (l9 (i:=3) p8.nd rfl (Or.inl rfl) (u4 G_shelver_of hr (by decide) (XAcc.passes P5) (b0 (pv 2) d9))) (g5 (a0p (u4 G_check_widths hr (by decide) (XAcc.passes P5) (b0 (pv 0) (b0 (pv 1) d9)))) (g5 (l9 (i:=4) p8.nd rfl (Or.inl rfl) (a3t d9)) (g5 (l9 (i:=5) p8.nd rfl (Or.inl rfl) (a3t d9)) (g5 (l9 (i:=6) p8.nd rfl (Or.inl rfl) g4) (g5 (l9 (i:=7) p8.nd rfl (Or.inl rfl) (i8 b1Z (a3t (b0 G0 d9)) (j7 (n9 (K:=K)) rfl T.z_len E3 (b0 (pv 1) d9)))) (g5 (a1i PassesOwn.leaving rfl (a17 (P8 hT G_by_height hr (by decide) t6 (b0 (pv 1) d9))) (y4 (i:=8) p8.nd rfl (Or.inl rfl)) (g5 (a55 (x9 (A8 (K:=K)) (pv 1) (pv 8) (fun _ _=>rfl)) (a0u (K:=K) (n:=3) rfl (B9 (y4 (i:=9) p8.nd rfl (Or.inl rfl)) (B9 (y4 (i:=10) p8.nd rfl (Or.inl rfl)) (B9 (y4 (i:=11) p8.nd rfl (Or.inl rfl)) a0q))))) (g5 (l9 (i:=12) p8.nd rfl (Or.inl rfl) (a72 (pv 3) (b1h hr (XAcc.passes P5) ⟨_,_,(by decide),OM_Shelver_pick⟩ ⟨_,_,(by decide),OM_FirstShelver_pick⟩ ⟨_,_,(by decide),OM_BestShelver_pick⟩) (b0 (Z6 (Y1 (K:=K)) rfl T.z_list a4L (b0 (pv 4) d9)) (b0 (pv 9) d9)))) (g5 (t8 (j9 a6b (pv 12) G0 (k7 _)) (g5 (l9 (i:=12) p8.nd rfl (Or.inl rfl) (j7 (n9 (K:=K)) rfl T.z_len E3 (b0 (pv 4) d9))) (g5 (a0p (a3G (K:=K) PySem.F.plainAttrs_list PySem.F.slot_list_append PySem.F.type_list_append Z7 (pv 4) (b0 (pv 0) d9))) (g5 (a0p (a3G (K:=K) PySem.F.plainAttrs_list PySem.F.slot_list_append PySem.F.type_list_append Z7 (pv 5) (b0 (pv 6) d9))) (h7 (b1G (i:=6) p8.nd rfl (Or.inl rfl) (pv 10) b1I))))) k9) (g5 (a55 (u9 (b0 (i8 a3q (pv 0) (x9 (A8 (K:=K)) (pv 4) (pv 12) (fun _ _=>rfl))) (b0 (x9 (A8 (K:=K)) (pv 5) (pv 12) (fun _ _=>rfl)) (b0 a5g d9)))) (b1E (pv 7) (pv 8) a3v)) (h7 (a9I (pv 4) (pv 12) (a6t (K:=K)) (pv 9) b1J a3v))))))) (h7 (j3 (u9 (b0 (pv 6) (b0 (pv 7) d9)))))))))))),(h9 (b0d (d6 f9 i1)) (h9 (a9p (a2r (d6 f9 (d6 f9 i1)))) (h9 (P7 (a8a i1)) (h9 (P7 (a8a i1)) (h9 (z0 d7) (h9 (P7 (b3b b2j (a1H (a8a (d6 d7 i1))) (J9 G4))) (h9 (b2m (n8 (d6 f9 i1)) (v9 (k:=13) (by decide)) (h9 (b2l (G2 G3 f9) (a0A (C3 (v9 (k:=13) (by decide)) (C3 (v9 (k:=13) (by decide)) (C3 (v9 (k:=13) (by decide)) a0z))) rfl)) (h9 (z0 (b0_ f9 (d6 (a1H (a6K a4V)) (d6 f9 i1)))) (h9 (n5 (p9 (g7 a6M f9 d7)) (h9 (z0 (J9 G4)) (h9 (a6O f9) (h9 (a6O f9) (b2v f9)))) t9) (h9 (b2k (D3 (d6 (g7 a3R f9 (G2 G3 f9)) (d6 (G2 G3 f9) (d6 d7 i1)))) f9) (b07 f9 f9)))))) (j5 (D3 (d6 f9 (d6 f9 i1)))))))))))⟩
def a7g:SF:=(j4 (a08 (a1Q 0 "int") (a8b (a1Q 0 "bool"))))
def J4:List D→Option R1:=fD 1 1 a7g
theorem a13:FnScope ["_law_found"] ["_law_found"] (b9 E6):=⟨rfl,rfl,rfl,by decide +kernel,rfl,by decide +kernel,by decide +kernel⟩
theorem a5U{f:Addr}{fd:FuncData}(F:Fun K "_law_whole" "_law_whole" E6 f fd)(T:Txt K mg c)  : FnOk P w K mg base (n4 P w) 3 f fd ["_law_found"] (i3 K c J4) :=
 F.okD (k:=2) a13 fun cdv A outer s H E hr=>⟨_,(h7 (j3 (a1g (j7 (A5 (K:=K)) rfl T.z_isinstance m8 (b0 (pv 0) (b0 (U2 (v:=.ty "int") rfl T.z_int a6n rfl) d9))) (a1f (a53 (j7 (A5 (K:=K)) rfl T.z_isinstance m8 (b0 (pv 0) (b0 (U2 (v:=.ty "bool") rfl T.z_bool a4K rfl) d9)))))))),(j5 (a1I a0D (a6J a0D)))⟩
theorem a4x{f:Addr}{fd:FuncData}(F:Fun K "_law_whole" "_law_whole" E6 f fd)(T:Txt K mg c):FnOkW P w K mg base 3 f fd ["_law_found"] (i3 K c J4) :=
 F.okWD (k:=2) a13 fun cdv A outer s H hr=>⟨_,(h7 (j3 (a1g (j7 (A5 (K:=K)) rfl T.z_isinstance m8 (b0 (pv 0) (b0 (U2 (v:=.ty "int") rfl T.z_int a6n rfl) d9))) (a1f (a53 (j7 (A5 (K:=K)) rfl T.z_isinstance m8 (b0 (pv 0) (b0 (U2 (v:=.ty "bool") rfl T.z_bool a4K rfl) d9)))))))),(j5 (a1I a0D (a6J a0D)))⟩
def a4e:SF:=(g6 (u3 (bZ (eB gLt (eV 1) (D7 A1 0))) (j4 (G1 A9 0 (eV 1))) u0) (j4 (eC (.int 0))))
def k8:List D→Option R1:=fD 2 2 a4e
theorem a7h:FnScope ["_law_script","_law_k"] ["_law_script","_law_k"] (b9 M6):=⟨rfl,rfl,rfl,by decide +kernel,rfl,by decide +kernel,by decide +kernel⟩
theorem a7i{f:Addr}{fd:FuncData}(F:Fun K "_law_cell" "_law_cell" M6 f fd)(T:Txt K mg c)  : FnOk P w K mg base (n4 P w) 3 f fd ["_law_script","_law_k"] (i3 K c k8) :=
 F.okD (k:=2) a7h fun cdv A outer s H E hr=>⟨_,(g5 (t8 (j9 b28 (pv 1) (j7 (n9 (K:=K)) rfl T.z_len E3 (b0 (pv 0) d9)) (k7 _)) (h7 (j3 (x9 (A8 (K:=K)) (pv 0) (pv 1) (fun _ _=>rfl)))) k9) (h7 (j3 g4))),(h9 (n5 (p9 (g7 b3c f9 (J9 G4))) (j5 (G2 G3 f9)) t9) (j5 d7))⟩
def a8M:SF:=(g6 (r8 1 (eC (.str " !\"#$&'()*+,-./0123456789:;<=>?@ABCDEFGHIJKLMNOPQRSTUVWXYZ[\\]^_`"))) (g6 (r8 1 (eB B2 (eV 1) (eC (.str "abcdefghijklmnopqrstuvwxyz{|}~")))) (j4 (eB a5S (eV 1) (eB p5 (eV 0) (eC (.int 94)))))))
def z7:List D→Option R1:=fD 2 1 a8M
theorem a0o:FnScope ["_law_cell_here","_law_some"] ["_law_cell_here"] (b9 M7):=⟨rfl,rfl,rfl,by decide +kernel,rfl,by decide +kernel,by decide +kernel⟩
theorem a7j{f:Addr}{fd:FuncData}(F:Fun K "_law_sign" "_law_sign" M7 f fd)(T:Txt K mg c)  : FnOk P w K mg base (n4 P w) 3 f fd ["_law_cell_here"] (i3 K c z7) :=
 F.okD (k:=2) a0o fun cdv A outer s H E hr=>⟨_,(g5 (l9 (i:=1) a0o.nd rfl (Or.inl rfl) u7) (g5 (l9 (i:=1) a0o.nd rfl (Or.inl rfl) (i8 C0 (pv 1) u7)) (h7 (j3 (x9 b1V (pv 1) (i8 w9 (pv 0) g4) (fun _ _=>rfl)))))),(h9 (z0 d7) (h9 (z0 (g7 M5 f9 d7)) (j5 (g7 b2B f9 (g7 x6 f9 d7)))))⟩
def a8N:SF:=(g6 (x8 1 k8 (aC (eV 0) (aC (eC (.int 0)) aN))) (g6 (r8 2 (eT (aC (eC (.str "next")) (aC (eC (.str "first")) (aC (eC (.str "best")) aN))))) (g6 (r8 3 (eB A0 (eV 2) (eB p5 (eV 1) (eC (.int 3))))) (g6 (r8 4 (eB p5 (i7 k8 (aC (eV 0) (aC (eC (.int 1)) aN))) (eB N9 (S7 (g1 a1L) (aC (eV 3) aN)) (eC (.int 1))))) (g6 (r8 5 (eB p5 (eB z9 (eV 1) (eC (.int 3))) (eC (.int 6)))) (g6 (u3 (bZ (eB (z8 false) (eV 5) (eC (.int 1)))) (j4 (eB B2 (eB B2 (R8 (eV 3) oN (oS (eV 4))) (i7 z7 (aC (eB z9 (i7 k8 (aC (eV 0) (aC (eC (.int 1)) aN))) (eC (.int 6))) aN))) (R8 (eV 3) (oS (eV 4)) oN))) u0) (g6 (u3 (bZ (eB (z8 false) (eV 5) (eC (.int 2)))) (j4 (eB B2 (R8 (eV 3) oN (oS (eV 4))) (R8 (eV 3) (oS (eB N9 (eV 4) (eC (.int 1)))) oN))) u0) (g6 (u3 (bZ (eB (z8 false) (eV 5) (eC (.int 3)))) (j4 (eB B2 (a0m (R8 (eV 3) oN (oS (eV 4)))) (R8 (eV 3) (oS (eV 4)) oN))) u0) (g6 (u3 (bZ (eB (z8 false) (eV 5) (eC (.int 4)))) (j4 (eB B2 (eB B2 (eV 3) (eB a0L (eC (.str " ")) (eB p5 (i7 k8 (aC (eV 0) (aC (eC (.int 1)) aN))) (eC (.int 2))))) (eB A0 (eV 2) (eB p5 (eB z9 (i7 k8 (aC (eV 0) (aC (eC (.int 1)) aN))) (eC (.int 2))) (eC (.int 3)))))) u0) (g6 (u3 (bZ (eB (z8 false) (eV 5) (eC (.int 5)))) (j4 (a3j (eC (.str "")) (zN (T1 1 [] (zN (Q8 0 (oS (eC (.int 4))) (oS (eC (.int 54))))) (g8 0) S9 (i7 z7 (aC (eV 0) aN)))))) u0) (K3 3)))))))))))
def C8:List D→Option R1:=fD 6 1 a8N
theorem J5:FnScope ["_law_script","_law_cell_here","_law_words","_law_word","_law_at","_law_kind"] ["_law_script"] (b9 E7):=⟨rfl,rfl,rfl,by decide +kernel,rfl,by decide +kernel,by decide +kernel⟩
theorem a7k{f:Addr}{fd:FuncData}(F:Fun K "_law_text" "_law_text" E7 f fd)(T:Txt K mg c)(G_l_cell:Own P w K mg base 3 "_law_cell" ["_law_script","_law_k"] (i3 K c k8))(G_l_sign:Own P w K mg base 3 "_law_sign" ["_law_cell_here"] (i3 K c z7)):FnOk P w K mg base (n4 P w) 5 f fd ["_law_script"] (i3 K c C8) :=
 F.okD (k:=4) J5 fun cdv A outer s H E hr=>⟨_,(g5 (l9 (i:=1) J5.nd rfl (Or.inl rfl) (u4 G_l_cell hr (by decide) t6 (b0 (pv 0) (b0 g4 d9)))) (g5 (l9 (i:=2) J5.nd rfl (Or.inl rfl) (u9 (U8 (U8 (U8 d9))))) (g5 (l9 (i:=3) J5.nd rfl (Or.inl rfl) (x9 (F7 (K:=K)) (pv 2) (i8 w9 (pv 1) g4) (fun _ _=>rfl))) (g5 (l9 (i:=4) J5.nd rfl (Or.inl rfl) (i8 w9 (u4 G_l_cell hr (by decide) t6 (b0 (pv 0) (b0 g4 d9))) (i8 U5 (j7 a3z rfl T.z_len E3 (b0 (pv 3) d9)) g4))) (g5 (l9 (i:=5) J5.nd rfl (Or.inl rfl) (i8 w9 (i8 y9 (pv 1) g4) g4)) (g5 (t8 (j9 D5 (pv 5) g4 (k7 _)) (h7 (j3 (i8 C0 (i8 C0 (C1 U7 (pv 3) M1 (B3 (pv 4))) (u4 G_l_sign hr (by decide) t6 (b0 (i8 y9 (u4 G_l_cell hr (by decide) t6 (b0 (pv 0) (b0 g4 d9))) g4) d9))) (C1 U7 (pv 3) (B3 (pv 4)) M1)))) k9) (g5 (t8 (j9 D5 (pv 5) g4 (k7 _)) (h7 (j3 (i8 C0 (C1 U7 (pv 3) M1 (B3 (pv 4))) (C1 U7 (pv 3) (B3 (i8 U5 (pv 4) g4)) M1)))) k9) (g5 (t8 (j9 D5 (pv 5) g4 (k7 _)) (h7 (j3 (i8 C0 (a9W (K:=K) PySem.F.plainAttrs_str PySem.F.slot_str_upper PySem.F.type_str_upper a8K (C1 U7 (pv 3) M1 (B3 (pv 4)))) (C1 U7 (pv 3) (B3 (pv 4)) M1)))) k9) (g5 (t8 (j9 D5 (pv 5) g4 (k7 _)) (h7 (j3 (i8 C0 (i8 C0 (pv 3) (i8 a5B u7 (i8 w9 (u4 G_l_cell hr (by decide) t6 (b0 (pv 0) (b0 g4 d9))) g4))) (x9 (F7 (K:=K)) (pv 2) (i8 w9 (i8 y9 (u4 G_l_cell hr (by decide) t6 (b0 (pv 0) (b0 g4 d9))) g4) g4) (fun _ _=>rfl))))) k9) (g5 (t8 (j9 D5 (pv 5) g4 (k7 _)) (h7 (j3 (a3G (K:=K) PySem.F.plainAttrs_str PySem.F.slot_str_join PySem.F.type_str_join (a7Z (K:=K)) u7 (b0 (a9U (Nc:=["_law_part"]) (k:=1) (js:=[]) rfl ⟨by decide +kernel,rfl,by decide +kernel,(by change ∀y∈Scope.names _,y.2=NameKind.free→(b9 E7).names.lookup y.1=some .cell∨(b9 E7).names.lookup y.1=some .free;decide +kernel),by decide +kernel,rfl,rfl,by decide +kernel⟩ (a17 (C1 (a01 (K:=K)) (pv 0) (B3 g4) (B3 g4))) (fun _ _ _ _ _=>(y4 (i:=0) (by show List.Nodup [("_law_part" : Str)];decide +kernel) rfl (Or.inl rfl))) (fun _ _ _ _ _=>a6o) (fun _ _ _ _ _=>(u4 G_l_sign hr (by decide) t6 (b0 (pv 0) d9)))) d9)))) k9) (h7 (j3 (pv 3))))))))))))),(h9 (a0_ (d6 f9 (d6 d7 i1))) (h9 (z0 (D3 (d6 d7 (d6 d7 (d6 d7 i1))))) (h9 (z0 (g7 K0 f9 (g7 x6 f9 d7))) (h9 (z0 (g7 x6 (n8 (d6 f9 (d6 d7 i1))) (g7 U9 (P3 b0b.cb (d6 f9 i1)) d7))) (h9 (z0 (g7 x6 (g7 E5 f9 d7) d7)) (h9 (n5 (p9 (g7 D8 f9 d7)) (j5 (g7 M5 (g7 M5 (V3 f9 X1 (K5 f9)) (n8 (d6 (g7 E5 (n8 (d6 f9 (d6 d7 i1))) d7) i1))) (V3 f9 (K5 f9) X1))) t9) (h9 (n5 (p9 (g7 D8 f9 d7)) (j5 (g7 M5 (V3 f9 X1 (K5 f9)) (V3 f9 (K5 (g7 U9 f9 d7)) X1))) t9) (h9 (n5 (p9 (g7 D8 f9 d7)) (j5 (g7 M5 (a8L (V3 f9 X1 (K5 f9))) (V3 f9 (K5 f9) X1))) t9) (h9 (n5 (p9 (g7 D8 f9 d7)) (j5 (g7 M5 (g7 M5 f9 (g7 b1f d7 (g7 x6 (n8 (d6 f9 (d6 d7 i1))) d7))) (g7 K0 f9 (g7 x6 (g7 E5 (n8 (d6 f9 (d6 d7 i1))) d7) d7)))) t9) (h9 (n5 (p9 (g7 D8 f9 d7)) (j5 (b1c d7 (a1H (a4X (by decide) (a1H (a3Z (K5 d7) (K5 d7))) (v9 (k:=1) (by decide)) a3W (n8 (d6 f9 i1)))))) t9) a0y))))))))))⟩
def a4f:SF:=(g6 (u3 (bZ (eB (z8 false) (eB p5 (eV 0) (eC (.int 4))) (eC (.int 3)))) (j4 (eB N9 (eC (.int 1)) (eB p5 (eB z9 (eV 0) (eC (.int 4))) (eB W7 (eC (.int 10)) (eC (.int 40)))))) u0) (j4 (eB N9 (eC (.int 1)) (eB p5 (eB z9 (eV 0) (eC (.int 4))) (eC (.int 9))))))
def E8:List D→Option R1:=fD 1 1 a4f
theorem a7l:FnScope ["_law_cell_here"] ["_law_cell_here"] (b9 M8):=⟨rfl,rfl,rfl,by decide +kernel,rfl,by decide +kernel,by decide +kernel⟩
theorem a7m{f:Addr}{fd:FuncData}(F:Fun K "_law_side" "_law_side" M8 f fd)(T:Txt K mg c)  : FnOk P w K mg base (n4 P w) 3 f fd ["_law_cell_here"] (i3 K c E8) :=
 F.okD (k:=2) a7l fun cdv A outer s H E hr=>⟨_,(g5 (t8 (j9 D5 (i8 w9 (pv 0) g4) g4 (k7 _)) (h7 (j3 (i8 U5 g4 (i8 w9 (i8 y9 (pv 0) g4) (i8 a5_ g4 g4))))) k9) (h7 (j3 (i8 U5 g4 (i8 w9 (i8 y9 (pv 0) g4) g4))))),(h9 (n5 (p9 (g7 D8 (g7 x6 f9 d7) d7)) (j5 (g7 U9 d7 (g7 x6 (g7 E5 f9 d7) (g7 a6L d7 d7)))) t9) (j5 (g7 U9 d7 (g7 x6 (g7 E5 f9 d7) d7))))⟩
def a8O:SF:=(j4 (eT (aC (i7 E8 (aC (eV 0) aN)) (aC (i7 E8 (aC (eB N9 (eB z9 (eV 0) (eC (.int 2))) (eC (.int 1))) aN)) (aC (eB (z8 false) (eB p5 (eB z9 (eV 0) (eC (.int 3))) (eC (.int 2))) (eC (.int 0))) aN)))))
def B1:List D→Option R1:=fD 1 1 a8O
theorem a7n:FnScope ["_law_cell_here"] ["_law_cell_here"] (b9 M9):=⟨rfl,rfl,rfl,by decide +kernel,rfl,by decide +kernel,by decide +kernel⟩
theorem a7o{f:Addr}{fd:FuncData}(F:Fun K "_law_ware" "_law_ware" M9 f fd)(T:Txt K mg c)(G_l_side:Own P w K mg base 3 "_law_side" ["_law_cell_here"] (i3 K c E8)):FnOk P w K mg base (n4 P w) 5 f fd ["_law_cell_here"] (i3 K c B1) :=
 F.okD (k:=4) a7n fun cdv A outer s H E hr=>⟨_,(h7 (j3 (u9 (b0 (u4 G_l_side hr (by decide) t6 (b0 (pv 0) d9)) (b0 (u4 G_l_side hr (by decide) t6 (b0 (i8 U5 (i8 y9 (pv 0) g4) g4) d9)) (b0 (U6 D5 (i8 w9 (i8 y9 (pv 0) g4) g4) g4 (k7 _)) d9)))))),(j5 (D3 (d6 (n8 (d6 f9 i1)) (d6 (n8 (d6 (g7 U9 (g7 E5 f9 d7) d7) i1)) (d6 (g7 D8 (g7 x6 (g7 E5 f9 d7) d7) d7) i1)))))⟩
def a7p:SF:=(g6 (u3 (a07 (bZ (eB (z8 false) (eB p5 (eV 0) (eC (.int 2))) (eC (.int 0)))) (bZ (eB gGt (D7 A1 1) (eC (.int 0))))) (j4 (eB W6 (eB A0 (G1 A9 1 (eB p5 (eB z9 (eV 0) (eC (.int 2))) (D7 A1 1))) (eC (.int 0))) (eB p5 (eB z9 (eV 0) (eC (.int 6))) (eC (.int 2))))) u0) (g6 (u3 (bZ (eB (z8 false) (eB p5 (eV 0) (eC (.int 4))) (eC (.int 1)))) (j4 (eB p5 (eB z9 (eV 0) (eC (.int 4))) (eB N9 (eB W7 (eC (.int 10)) (eC (.int 40))) (eC (.int 1))))) u0) (j4 (eB p5 (eB z9 (eV 0) (eC (.int 4))) (eC (.int 10))))))
def B8:List D→Option R1:=fD 2 2 a7p
theorem a5V:FnScope ["_law_cell_here","_law_wares"] ["_law_cell_here","_law_wares"] (b9 J3):=⟨rfl,rfl,rfl,by decide +kernel,rfl,by decide +kernel,by decide +kernel⟩
theorem a5W{f:Addr}{fd:FuncData}(F:Fun K "_law_width" "_law_width" J3 f fd)(T:Txt K mg c)  : FnOk P w K mg base (n4 P w) 3 f fd ["_law_cell_here","_law_wares"] (i3 K c B8) :=
 F.okD (k:=2) a5V fun cdv A outer s H E hr=>⟨_,(g5 (t8 (PW.pt (a3m (j9 D5 (i8 w9 (pv 0) g4) g4 (k7 _)) (a16 (j9 a1j (j7 (n9 (K:=K)) rfl T.z_len E3 (b0 (pv 1) d9)) g4 (k7 _))))) (h7 (j3 (i8 a3q (x9 (F7 (K:=K)) (x9 (A8 (K:=K)) (pv 1) (i8 w9 (i8 y9 (pv 0) g4) (j7 (n9 (K:=K)) rfl T.z_len E3 (b0 (pv 1) d9))) (fun _ _=>rfl)) g4 (fun _ _=>rfl)) (i8 w9 (i8 y9 (pv 0) g4) g4)))) k9) (g5 (t8 (j9 D5 (i8 w9 (pv 0) g4) g4 (k7 _)) (h7 (j3 (i8 w9 (i8 y9 (pv 0) g4) (i8 U5 (i8 a5_ g4 g4) g4)))) k9) (h7 (j3 (i8 w9 (i8 y9 (pv 0) g4) g4))))),(h9 (n5 (a2o (p9 (g7 D8 (g7 x6 f9 d7) d7)) (p9 (g7 a1K (J9 G4) d7))) (j5 (g7 a3R (g7 K0 (G2 G3 (g7 x6 (g7 E5 f9 d7) (J9 G4))) d7) (g7 x6 (g7 E5 f9 d7) d7))) t9) (h9 (n5 (p9 (g7 D8 (g7 x6 f9 d7) d7)) (j5 (g7 x6 (g7 E5 f9 d7) (g7 U9 (g7 a6L d7 d7) d7))) t9) (j5 (g7 x6 (g7 E5 f9 d7) d7))))⟩
def a1e:SF:=(g6 (u3 (bZ (S7 (a3f xT) (aC (eV 0) (aC (eT (aC (eC (.cls "BadPacking")) (aC (eC (.cls "BadPlan")) (aC (eC (.cls "BadSide")) (aC (eC (.cls "BadTurn")) (aC (eC (.cls "Full")) (aC (eC (.cls "Hangs")) (aC (eC (.cls "NoDeed")) (aC (eC (.cls "NoDrawing")) (aC (eC (.cls "NoSheet")) aN)))))))))) aN)))) (j4 (eT (aC (eC (.str "other")) (aC (eC (.int 0)) aN)))) u0) (g6 (u3 (bZ (S7 (a3f xT) (aC (eV 0) (aC (eT (aC (eC (.cls "NoText")) (aC (eC (.cls "NoWare")) (aC (eC (.cls "NothingDone")) (aC (eC (.cls "NoWeighing")) (aC (eC (.cls "Ring")) (aC (eC (.cls "TooMany")) aN))))))) aN)))) (j4 (eT (aC (eC (.str "other")) (aC (eC (.int 0)) aN)))) u0) (g6 (u3 (bOr (a2m (bZ (S7 (a0E x1 x2) (aC (eV 0) (aC (eC (.ty "ValueError")) aN))))) (bZ (eB (z8 false) (S7 (a0E x1 x2) (aC (eV 0) (aC (eC (.cls "NoPicker")) aN))) (S7 (a0E x1 x2) (aC (eV 0) (aC (eC (.cls "TooWide")) aN)))))) (j4 (eT (aC (eC (.str "other")) (aC (eC (.int 0)) aN)))) u0) (g6 (u3 (bZ (S7 (a0E x1 x2) (aC (eV 0) (aC (eC (.cls "NoPicker")) aN)))) (j4 (eT (aC (eC (.str "word")) (aC (eC (.int 0)) aN)))) u0) (g6 (u3 (a2m (bZ (i7 J4 (aC (eU (a2B a1Z "at") (eV 0)) aN)))) (j4 (eT (aC (eC (.str "other")) (aC (eC (.int 0)) aN)))) u0) (j4 (eT (aC (eC (.str "wide")) (aC (eU (a2B a1Z "at") (eV 0)) aN)))))))))
def u5:List D→Option R1:=fD 1 1 a1e
theorem a7q:FnScope ["_law_refusal_here"] ["_law_refusal_here"] (b9 N0):=⟨rfl,rfl,rfl,by decide +kernel,rfl,by decide +kernel,by decide +kernel⟩
theorem a7r{f:Addr}{fd:FuncData}(F:Fun K "_law_told" "_law_told" N0 f fd)(T:Txt K mg c)(GW_l_whole:OwnW P w K mg base 3 "_law_whole" ["_law_found"] (i3 K c J4)):FnOkW P w K mg base 5 f fd ["_law_refusal_here"] (i3 K c u5) :=
 F.okWD (k:=4) a7q fun cdv A outer s H hr=>⟨_,(g5 (t8 (U3 (j7 (a1v (K:=K)) rfl T.z_isinstance m8 (b0 (pv 0) (b0 (u9 (b0 (o6 (v:=.ref (c "BadPacking")) rfl T.m_BadPacking rfl) (b0 (o6 (v:=.ref (c "BadPlan")) rfl T.m_BadPlan rfl) (b0 (o6 (v:=.ref (c "BadSide")) rfl T.m_BadSide rfl) (b0 (o6 (v:=.ref (c "BadTurn")) rfl T.m_BadTurn rfl) (b0 (o6 (v:=.ref (c "Full")) rfl T.m_Full rfl) (b0 (o6 (v:=.ref (c "Hangs")) rfl T.m_Hangs rfl) (b0 (o6 (v:=.ref (c "NoDeed")) rfl T.m_NoDeed rfl) (b0 (o6 (v:=.ref (c "NoDrawing")) rfl T.m_NoDrawing rfl) (b0 (o6 (v:=.ref (c "NoSheet")) rfl T.m_NoSheet rfl) d9)))))))))) d9)))) (h7 (j3 (u9 (b0 u7 (b0 g4 d9))))) k9) (g5 (t8 (U3 (j7 (a1v (K:=K)) rfl T.z_isinstance m8 (b0 (pv 0) (b0 (u9 (b0 (o6 (v:=.ref (c "NoText")) rfl T.m_NoText rfl) (b0 (o6 (v:=.ref (c "NoWare")) rfl T.m_NoWare rfl) (b0 (o6 (v:=.ref (c "NothingDone")) rfl T.m_NothingDone rfl) (b0 (o6 (v:=.ref (c "NoWeighing")) rfl T.m_NoWeighing rfl) (b0 (o6 (v:=.ref (c "Ring")) rfl T.m_Ring rfl) (b0 (o6 (v:=.ref (c "TooMany")) rfl T.m_TooMany rfl) d9))))))) d9)))) (h7 (j3 (u9 (b0 u7 (b0 g4 d9))))) k9) (g5 (t8 (PW.pt (a81 (a3n (U3 (j7 (A5 (K:=K)) rfl T.z_isinstance m8 (b0 (pv 0) (b0 (U2 (v:=.ty "ValueError") rfl T.z_ValueError a26 rfl) d9))))) (a52 (j9 D5 (j7 (A5 (K:=K)) rfl T.z_isinstance m8 (b0 (pv 0) (b0 (o6 (v:=.ref (c "NoPicker")) rfl T.m_NoPicker rfl) d9))) (j7 (A5 (K:=K)) rfl T.z_isinstance m8 (b0 (pv 0) (b0 (o6 (v:=.ref (c "TooWide")) rfl T.m_TooWide rfl) d9))) (k7 _))))) (h7 (j3 (u9 (b0 u7 (b0 g4 d9))))) k9) (g5 (t8 (U3 (j7 (A5 (K:=K)) rfl T.z_isinstance m8 (b0 (pv 0) (b0 (o6 (v:=.ref (c "NoPicker")) rfl T.m_NoPicker rfl) d9)))) (h7 (j3 (u9 (b0 u7 (b0 g4 d9))))) k9) (g5 (t8 (a3n (U3 (a2f GW_l_whole hr (b0 (a6F (pv 0) rfl) d9)))) (h7 (j3 (u9 (b0 u7 (b0 g4 d9))))) k9) (h7 (j3 (u9 (b0 u7 (b0 (a6F (pv 0) rfl) d9)))))))))),(h9 (n5 (W5 (P3 (a4Z (a9w T)) (d6 f9 (d6 (D3 (d6 d7 (d6 d7 (d6 d7 (d6 d7 (d6 d7 (d6 d7 (d6 d7 (d6 d7 (d6 d7 i1)))))))))) i1)))) (j5 (D3 (d6 d7 (d6 d7 i1)))) t9) (h9 (n5 (W5 (P3 (a4Z (a9w T)) (d6 f9 (d6 (D3 (d6 d7 (d6 d7 (d6 d7 (d6 d7 (d6 d7 (d6 d7 i1))))))) i1)))) (j5 (D3 (d6 d7 (d6 d7 i1)))) t9) (h9 (n5 (a6H (a2n (W5 (P3 (a0F (a3k T) (a3l T)) (d6 f9 (d6 d7 i1))))) (p9 (g7 D8 (P3 (a0F (a3k T) (a3l T)) (d6 f9 (d6 d7 i1))) (P3 (a0F (a3k T) (a3l T)) (d6 f9 (d6 d7 i1)))))) (j5 (D3 (d6 d7 (d6 d7 i1)))) t9) (h9 (n5 (W5 (P3 (a0F (a3k T) (a3l T)) (d6 f9 (d6 d7 i1)))) (j5 (D3 (d6 d7 (d6 d7 i1)))) t9) (h9 (n5 (a2n (W5 (a8i (d6 (a7d (a4b T) f9) i1)))) (j5 (D3 (d6 d7 (d6 d7 i1)))) t9) (j5 (D3 (d6 d7 (d6 (a7d (a4b T) f9) i1)))))))))⟩
def a2_:SF:=(g6 (r8 1 (eC .non)) (g6 (a3h i9 (aC (eV 0) aN) (hAs 2 r9 (x8 1 u5 (aC (eV 2) aN)) hN)) (K3 1)))
def u6:List D→Option R1:=fD 3 1 a2_
theorem F8:FnScope ["_law_text_here","_law_told_here","e"] ["_law_text_here"] (b9 A3):=⟨rfl,rfl,rfl,by decide +kernel,rfl,by decide +kernel,by decide +kernel⟩
theorem a2D{f:Addr}{fd:FuncData}(F:Fun K "_law_no_picker" "_law_no_picker" A3 f fd)(T:Txt K mg c)(G_l_told:OwnW P w K mg base 5 "_law_told" ["_law_refusal_here"] (i3 K c u5))(G_shelver_of:Own P w K mg base 3 "shelver_of" ["word"] (i3 K c i9)):FnOk P w K mg base (n4 P w) 7 f fd ["_law_text_here"] (i3 K c u6) :=
 F.okD (k:=6) F8 fun cdv A outer s H E hr=>⟨_,(g5 (l9 (i:=1) F8.nd rfl (Or.inl rfl) G0) (g5 (a90 G_shelver_of hr (by decide) (fun E2 pins=>(b0 (pv 0) d9)) (a9k rfl T.m_CrateError F8.nd (i:=2) rfl (fun a=>(h7 (l9 (i:=1) F8.nd rfl (Or.inl rfl) (a2f G_l_told (hr.w _) (b0 (pv 2) d9))))) a6v)) (h7 (j3 (pv 1))))),(h9 (z0 d7) (h9 (b09 (d6 f9 i1) (a68 (R9 T) (fun a=>(a4Y (d6 f9 i1))) a9u)) a0y))⟩
def a4y:SF:=(g6 (r8 3 (eC .non)) (g6 (X5 5 (Y4 (D9 B7 (aC (eV 0) (aC (eV 1) (aC (eV 2) aN))))) (hAs 4 r9 (x8 3 u5 (aC (eV 4) aN)) hN)) (K3 3)))
def o5:List D→Option R1:=fD 5 3 a4y
theorem L5:FnScope ["_law_width_here","_law_wares","_law_text_here","_law_told_here","e"] ["_law_width_here","_law_wares","_law_text_here"] (b9 D0):=⟨rfl,rfl,rfl,by decide +kernel,rfl,by decide +kernel,by decide +kernel⟩
theorem a4g{TB:List (Addr×Str)}{f:Addr}{fd:FuncData}(F:Fun K "_law_refusal" "_law_refusal" D0 f fd)(T:Txt K mg c)(G_l_told:OwnW P w K mg base 5 "_law_told" ["_law_refusal_here"] (i3 K c u5))(G_shelved:OwnD P w K mg base 7 "shelved" ["width","wares","word"] (L7 TB (i3 K c B7)) (.str "next")):FnOk P w K mg base (n4 P w) 9 f fd ["_law_width_here","_law_wares","_law_text_here"] (L7 TB (i3 K c o5)) :=
 F.okT (k:=8) L5 fun A outer s H E hT hr=>⟨_,(g5 (l9 (i:=3) L5.nd rfl (Or.inl rfl) G0) (g5 (a9Y (fun Eh E2 pins acc po=>(h7 (a0p (P8 hT G_shelved.own hr (by decide) (XAcc.passes acc) (b0 (pv 0) (b0 (pv 1) (b0 (pv 2) d9))))))) (a9k rfl T.m_CrateError L5.nd (i:=4) rfl (fun a=>(h7 (l9 (i:=3) L5.nd rfl (Or.inl rfl) (a2f G_l_told (hr.w _) (b0 (pv 4) d9))))) a6v)) (h7 (j3 (pv 3))))),(h9 (z0 d7) (h9 (b08 (fun Eh=>(a9p (a2r (d6 f9 (d6 f9 (d6 f9 i1)))))) (a68 (R9 T) (fun a=>(a4Y (d6 f9 i1))) a9u)) a0y))⟩
def b3o:SF:=(g6 (x8 1 C8 (aC (eV 0) aN)) (g6 (A6 2 (T1 1 [] (zN (Q8 0 (oS (eC (.int 4))) (oS (eC (.int 64))))) (g8 0) S9 (i7 B1 (aC (eV 0) aN)))) (g6 (A6 2 (Q8 2 oN (oS (eB p5 (i7 k8 (aC (eV 0) (aC (eC (.int 3)) aN))) (eC (.int 61)))))) (g6 (x8 3 B8 (aC (i7 k8 (aC (eV 0) (aC (eC (.int 2)) aN))) (aC (eV 2) aN))) (g6 (A6 4 (nCV S8 2)) (g6 (u3 (bZ (eB (gIn true) (eV 1) (eT (aC (eC (.str "next")) (aC (eC (.str "first")) (aC (eC (.str "best")) aN)))))) (j4 (a08 (eB (L3 false) (i7 u6 (aC (eV 1) aN)) (eT (aC (eC (.str "word")) (aC (eC (.int 0)) aN)))) (eB (L3 false) (i7 o5 (aC (eV 3) (aC (eV 4) (aC (eV 1) aN)))) (eT (aC (eC (.str "word")) (aC (eC (.int 0)) aN)))))) u0) (g6 (r8 5 (eC .non)) (g6 (r8 6 (eC (.int 0))) (g6 (a1O a2s (aC (D7 A1 2) aN) (g8 7) (g6 (u3 (a07 (bZ (eB (J0 false) (eV 5) (eC .non))) (bZ (eB gGt (eB A0 (G1 A9 2 (eV 7)) (eC (.int 0))) (eV 3)))) (r8 5 (eT (aC (eC (.str "wide")) (aC (eV 7) aN)))) u0) (r8 6 (S7 a1T (aC (eV 6) (aC (eB A0 (G1 A9 2 (eV 7)) (eC (.int 0))) aN)))))) (g6 (u3 (bOr (a2m (bZ (S7 (a1X xi) (aC (D9 i9 (aC (eV 1) aN)) (aC (eC (.cls "Shelver")) aN))))) (bZ (eB (L3 true) (i7 o5 (aC (eV 3) (aC (eV 4) (aC (eV 1) aN)))) (eV 5)))) (j4 (eC (.bl false))) u0) (g6 (u3 (bZ (eB (J0 true) (i7 o5 (aC (eV 6) (aC (eV 4) (aC (eV 1) aN)))) (eC .non))) (j4 (eC (.bl false))) u0) (j4 (a08 (eB (L3 false) (i7 o5 (aC (eV 3) (aC (eV 4) (aC (eV 1) aN)))) (eV 5)) (a3O (L3 false) 4 2))))))))))))))
def a9x:List D→Option R1:=fD 8 1 b3o
theorem E9:FnScope ["_law_script","_law_text_here","_law_wares","_law_width_here","_law_handed","_law_due","_law_widest","_law_k"] ["_law_script"] (b9 G8):=⟨rfl,rfl,rfl,by decide +kernel,rfl,by decide +kernel,by decide +kernel⟩
theorem b1i{TB:List (Addr×Str)}{f:Addr}{fd:FuncData}(F:Fun K "law" "law" G8 f fd)(T:Txt K mg c)(G_l_text:Own P w K mg base 5 "_law_text" ["_law_script"] (i3 K c C8))(G_l_ware:Own P w K mg base 5 "_law_ware" ["_law_cell_here"] (i3 K c B1))(G_l_cell:Own P w K mg base 3 "_law_cell" ["_law_script","_law_k"] (i3 K c k8))(G_l_width:Own P w K mg base 3 "_law_width" ["_law_cell_here","_law_wares"] (i3 K c B8))(G_l_refusal:Own P w K mg base 9 "_law_refusal" ["_law_width_here","_law_wares","_law_text_here"] (L7 TB (i3 K c o5)))(G_l_no_picker:Own P w K mg base 7 "_law_no_picker" ["_law_text_here"] (i3 K c u6))(G_shelver_of:Own P w K mg base 3 "shelver_of" ["word"] (i3 K c i9)):FnOk P w K mg base (n4 P w) 11 f fd ["_law_script"] (L7 TB (i3 K c a9x)) :=
 F.okT (k:=10) E9 fun A outer s H E hT hr=>⟨_,(g5 (l9 (i:=1) E9.nd rfl (Or.inl rfl) (u4 G_l_text hr (by decide) t6 (b0 (pv 0) d9))) (g5 (a1u (i:=2) (Nc:=["_law_cell_here"]) (k:=1) (js:=[]) rfl ⟨by decide +kernel,rfl,by decide +kernel,(by change ∀y∈Scope.names _,y.2=NameKind.free→(b9 G8).names.lookup y.1=some .cell∨(b9 G8).names.lookup y.1=some .free;decide +kernel),by decide +kernel,rfl,rfl,by decide +kernel⟩ E9.nd rfl (a17 (C1 (a01 (K:=K)) (pv 0) (B3 g4) (B3 g4))) (fun _ _ _ _ _=>(y4 (i:=0) (by show List.Nodup [("_law_cell_here" : Str)];decide +kernel) rfl (Or.inl rfl))) (fun _ _ _ _ _=>a6o) (fun _ _ _ _ _=>(u4 G_l_ware hr (by decide) t6 (b0 (pv 0) d9)))) (g5 (l9 (i:=2) E9.nd rfl (Or.inl rfl) (C1 (a01 (K:=K)) (pv 2) M1 (B3 (i8 w9 (u4 G_l_cell hr (by decide) t6 (b0 (pv 0) (b0 g4 d9))) g4)))) (g5 (l9 (i:=3) E9.nd rfl (Or.inl rfl) (u4 G_l_width hr (by decide) t6 (b0 (u4 G_l_cell hr (by decide) t6 (b0 (pv 0) (b0 g4 d9))) (b0 (pv 2) d9)))) (g5 (l9 (i:=4) E9.nd rfl (Or.inl rfl) (Z6 (Y1 (K:=K)) rfl T.z_list a4L (b0 (pv 2) d9))) (g5 (t8 (j9 (a6s (K:=K)) (pv 1) (u9 (U8 (U8 (U8 d9)))) (by with_unfolding_all rfl)) (h7 (j3 (a1g (U6 (a0M (K:=K) (cl:=c) (a2w hr)) (u4 G_l_no_picker hr (by decide) t6 (b0 (pv 1) d9)) (u9 (b0 u7 (b0 g4 d9))) (k7 _)) (a1f (U6 (a0M (K:=K) (cl:=c) (a2w hr)) (P8 hT G_l_refusal hr (by decide) t6 (b0 (pv 3) (b0 (pv 4) (b0 (pv 1) d9)))) (u9 (b0 u7 (b0 g4 d9))) (k7 _)))))) k9) (g5 (l9 (i:=5) E9.nd rfl (Or.inl rfl) G0) (g5 (l9 (i:=6) E9.nd rfl (Or.inl rfl) g4) (g5 (a1i PassesOwn.leaving rfl (a57 rfl T.z_range (b0 (j7 (n9 (K:=K)) rfl T.z_len E3 (b0 (pv 2) d9)) d9)) (y4 (i:=7) E9.nd rfl (Or.inl rfl)) (g5 (t8 (PW.pt (a3m (j9 a6b (pv 5) G0 (k7 _)) (a16 (j9 a1j (x9 (F7 (K:=K)) (x9 (A8 (K:=K)) (pv 2) (pv 7) (fun _ _=>rfl)) g4 (fun _ _=>rfl)) (pv 3) (k7 _))))) (h7 (l9 (i:=5) E9.nd rfl (Or.inl rfl) (u9 (b0 u7 (b0 (pv 7) d9))))) k9) (h7 (l9 (i:=6) E9.nd rfl (Or.inl rfl) (j7 (a6c rfl) rfl T.z_max b12 (b0 (pv 6) (b0 (x9 (F7 (K:=K)) (x9 (A8 (K:=K)) (pv 2) (pv 7) (fun _ _=>rfl)) g4 (fun _ _=>rfl)) d9))))))) (g5 (t8 (PW.pt (a81 (a3n (U3 (j7 (A5 (K:=K)) rfl T.z_isinstance m8 (b0 (u4 G_shelver_of hr (by decide) (XAcc.passes P5) (b0 (pv 1) d9)) (b0 (o6 (v:=.ref (c "Shelver")) rfl T.m_Shelver rfl) d9))))) (a52 (j9 (b1g (K:=K) (cl:=c) (a2w hr)) (P8 hT G_l_refusal hr (by decide) t6 (b0 (pv 3) (b0 (pv 4) (b0 (pv 1) d9)))) (pv 5) (k7 _))))) (h7 (j3 a5g)) k9) (g5 (t8 (j9 a9J (P8 hT G_l_refusal hr (by decide) t6 (b0 (pv 6) (b0 (pv 4) (b0 (pv 1) d9)))) G0 (k7 _)) (h7 (j3 a5g)) k9) (h7 (j3 (a1g (U6 (a0M (K:=K) (cl:=c) (a2w hr)) (P8 hT G_l_refusal hr (by decide) t6 (b0 (pv 3) (b0 (pv 4) (b0 (pv 1) d9)))) (pv 5) (k7 _)) (a1f (U6 (a0M (K:=K) (cl:=c) (a2w hr)) (pv 4) (pv 2) (k7 _))))))))))))))))),(h9 (a0_ (d6 f9 i1)) (h9 (a1P (a4X (by decide) (a1H (a3Z (K5 d7) (K5 d7))) (v9 (k:=1) (by decide)) a3W (n8 (d6 f9 i1)))) (h9 (P7 (a3Z X1 (K5 (g7 x6 (n8 (d6 f9 (d6 d7 i1))) d7)))) (h9 (a0_ (d6 (n8 (d6 f9 (d6 d7 i1))) (d6 f9 i1))) (h9 (P7 (a6K a4V)) (h9 (n5 (p9 (g7 b3j f9 (D3 (d6 d7 (d6 d7 (d6 d7 i1)))))) (j5 (a1I (g7 a1Y (n8 (d6 f9 i1)) (D3 (d6 d7 (d6 d7 i1)))) (g7 a1Y (n8 (d6 f9 (d6 f9 (d6 f9 i1)))) (D3 (d6 d7 (d6 d7 i1)))))) t9) (h9 (z0 d7) (h9 (z0 d7) (h9 (a8g (d6 (J9 G4) i1) (v9 (k:=8) (by decide)) (h9 (n5 (a2o (p9 (g7 a6M f9 d7)) (p9 (g7 a1K (g7 K0 (G2 G3 f9) d7) f9))) (z0 (D3 (d6 d7 (d6 f9 i1)))) t9) (z0 (P3 b0Q (d6 f9 (d6 (g7 K0 (G2 G3 f9) d7) i1)))))) (h9 (n5 (a6H (a2n (W5 (P3 (b1a (b3n T)) (d6 (a2r (d6 f9 i1)) (d6 d7 i1))))) (p9 (g7 b2F (n8 (d6 f9 (d6 f9 (d6 f9 i1)))) f9))) (j5 d7) t9) (h9 (n5 (p9 (g7 a9_ (n8 (d6 f9 (d6 f9 (d6 f9 i1)))) d7)) (j5 d7) t9) (j5 (a1I (g7 a1Y (n8 (d6 f9 (d6 f9 (d6 f9 i1)))) f9) (a97 a1Y))))))))))))))⟩
end Law
namespace Law
open PySem L2 PyProof.Rows
variable {P:Program}{w:World}{K:PySem.W.Frag}{mg:Str→Option Value}{base:Heap}{c:Str→Addr}
local macro_rules|`(tactic|walk_at $s:str)=>do
 let t←`(tactic|simp(decide:=true)only[*,b3f,b0j,b0k,b0l,b0m,b0w,b0n,b0o,b0p,b0q,a8j,b0r,b0s,b2p,a8k,a8l,a6S,a6T,a8m,a5N,a5O,a6U,a6V,a6W,a8n,a5P,a5Q,b0t,b0u,b0x,b0v,b0y,a8o,a40,b0z,b0A,b0B,b0D,b0C,a41,a8p,T3,y2,b01,b02,b03,b04,b06,b05,a2T,a6Y,a1S,l3,Q6,T1,a8s,b2w,b2x,a8t,b2y,b2z,a2x,b0W,b0X,b0Y,b0Z,noL,noLs,Q8,oN,oS,G6,unhide,a6X,b0K,b0H,b0I,b0J,b0E,b0F,b0G,a5I,O4,a0g,n6,D4,i2,w4,K6,C5,G7,Nat.max_self,Nat.zero_max,Nat.max_zero,decide_true,Bool.or_true,Bool.true_or,Bool.or_false,List.isEmpty_nil,a1T,gIn,inD,List.any_cons,List.any_nil,a2u,B2,j0,List.all_cons,List.all_nil,Bool.and_self,Bool.and_true,Bool.true_and,beq_self_eq_true,b0L,b0M,b2q,b2r,b2s,b0N,a42,a43,u3,r8,A6,a0x,x8,j4,a5J,K3,u0,a5M,a3S,a0K,a0m,a0L,a2B,XN.nm,XN.d,b0U,b0V,Y4,a09,a1U,a8H,b1d,b1e,a5K,a3T,a1O,a63,a8z,a8A,a8v,a8w,a8x,a8y,a8u,b00,a8B,a64,eC,eV,eB,G1,a3O,eT,eL,zN,aN,aC,D9,i7,a8b,a08,eIf,eU,a0e,S7,D7,nCV,nB,g1,A1,S8,bZ,a2m,a07,bOr,S9,t4,W8,J8,b2a,b2b,a1F,b2c,b2d,W3,W4,look,A0,A9,a98,a99,J0,a1Q,a3e,tyN,seqL,a9q,a9r,List.map_cons,List.map_nil,List.length_cons,List.length_nil,List.cons_append,List.nil_append,List.replicate_succ,List.replicate_zero,List.getElem?_cons_zero,List.getElem?_cons_succ,List.set_cons_zero,List.set_cons_succ,Nat.reduceAdd,Nat.reduceSub,if_true,if_false,Bool.not_true,Bool.not_false,Bool.not_not,Nat.zero_add,Bool.false_eq_true,decide_eq_true_eq,Bool.not_eq_true',decide_eq_false_iff_not,Option.map_some,Option.map_none,ite_self,r9,a1Z])
 return if s.getString=="eh" then t.raw else t.raw.modifyArg 4 (·.modifyArg 1 fun l=>l.setArg 0 l[2])
theorem J6{ns:List Int}{k:Int}(hk:0≤k):k8 [.scr ns,.int k]=some (.ret (.int (m4 ns k))):=by
 rw[← b0P hk]
 unfold k8 a4e
 walk_at "ev"
 split
 ·cases atI ns k<;>rfl
 ·rfl
theorem big:∃B:Int,W7 (.int 10) (.int 40)=some (.int B)∧B=10 ^ 40:=⟨_,a43 (by decide +kernel),rfl⟩
def ra(R:List Int)(k:Nat):Int:=R.getD k 0
theorem a9y{R:List Int}{k:Nat}(h:k<R.length):atI (R.map D.int) (k:Int)=some (.int (ra R k)):=by
 apply a2b
 rw[List.getElem?_map,List.getElem?_eq_getElem h]
 unfold ra
 rw[List.getD_eq_getElem?_getD,List.getElem?_eq_getElem h]
 rfl
theorem b1j{R:List Int}(h:0<R.length):atI (R.map D.int) (-1)=some (.int (ra R (R.length-1))):=by
 have e:D6 (R.map D.int).length (-1)=some (R.length-1):=by
  rw[List.length_map]
  unfold D6
  rw[if_neg (by omega),if_pos (by omega)]
  congr 1
  omega
 unfold atI
 rw[e]
 show(R.map D.int)[R.length-1]? = _
 rw[List.getElem?_map,List.getElem?_eq_getElem (by omega)]
 unfold ra
 rw[List.getD_eq_getElem?_getD,List.getElem?_eq_getElem (by omega)]
 rfl
def En(R:List Int)(w:Int):List Nat:=(List.range R.length).filter fun k=>decide (ra R k≥w)
theorem L6{R:List Int}{w:Int}{k:Nat}:k∈En R w↔k<R.length∧w≤ra R k:=by
 unfold En
 rw[List.mem_filter,List.mem_range,decide_eq_true_iff]
def oD:Option Nat→D | none=>.non | some k=>.int (k:Int)
inductive Wk where | nx | fi | be
def wk:Wk→Str | .nx => "next" | .fi => "first" | .be => "best"
def ck:Wk→Str | .nx => "Shelver" | .fi => "FirstShelver" | .be => "BestShelver"
abbrev Ob(k:Wk):D:=.obj (ck k) [] []
def a4h:Wk→List Int→Int→Option Nat→Prop
 | .nx,R,w,none=>¬(0<R.length∧w≤ra R (R.length-1))
 | .nx,R,w,some k=>k+1=R.length∧w≤ra R k
 | .fi,R,w,none=>En R w=[]
 | .fi,R,w,some k=>k∈En R w∧∀j∈En R w,k≤j
 | .be,R,w,none=>En R w=[]
 | .be,R,w,some k=>k∈En R w∧∀j∈En R w,HT.lexLt [ra R j,(j:Int)] [ra R k,(k:Int)]=false
theorem b3p(R:List Int)(w:Int):∃o,p7 [Ob .nx,.lst (R.map D.int),.int w]=some (.ret (oD o))∧a4h .nx R w o:=by
 unfold p7 V4
 by_cases hn:0<R.length
 ·have c1:(0:Int)<((R.map D.int).length:Int):=by rw[List.length_map];omega
  have a1:=b1j hn
  have e1:((R.map D.int).length:Int)-1=((R.length-1:Nat):Int):=by rw[List.length_map];omega
  by_cases hw:w≤ra R (R.length-1)
  ·refine⟨some (R.length-1),?_,by omega,hw⟩
   show _=some (R1.ret (.int ((R.length-1:Nat):Int)))
   rw[← e1]
   generalize ra R (R.length-1)=x at *
   generalize R.map D.int=L at *
   clear hn e1
   generalize Ob .nx=ob
   walk_at "eh"
  ·refine⟨none,?_,fun z=>hw z.2⟩
   show _=some (R1.ret .non)
   generalize ra R (R.length-1)=x at *
   generalize R.map D.int=L at *
   clear hn e1
   generalize Ob .nx=ob
   walk_at "eh"
 ·have e:R=[]:=List.eq_nil_of_length_eq_zero (by omega)
  subst e
  refine⟨none,?_,fun z=>hn z.1⟩
  show fD 3 3 _ [Ob .nx,.lst [],.int w]=some (R1.ret .non)
  generalize Ob .nx=ob
  walk_at "eh"
abbrev fiB:SF:=(u3 (bZ (eB gGe (eV 4) (eV 2))) (K3 3) u0)
theorem b33(LP:SF)(ob A:D)(w:Int)(r:D)(h:LP [.fz ob,.fz A,.fz (.int w),.no,.no]=some (.rt r)):fD 5 3 (g6 LP (j4 (eC .non))) [ob,A,.int w]=some (.ret r):=by
 walk_at "eh"
theorem b3q(LP:SF)(ob A:D)(w:Int)(e:DE)(h:LP [.fz ob,.fz A,.fz (.int w),.no,.no]=some (.nx e)):fD 5 3 (g6 LP (j4 (eC .non))) [ob,A,.int w]=some (.ret .non):=by
 walk_at "eh"
theorem b2G(ob A:D)(w:Int)(k:Nat)(x:Int)(o3 o4:Option D):t4 [g8 3,g8 4] (.tup [.int (k:Int),.int x]) [.fz ob,.fz A,.fz (.int w),un o3,un o4]=some [.fz ob,.fz A,.fz (.int w),.fz (.int (k:Int)),.fz (.int x)]:=by
 cases o3<;>cases o4<;>rfl
theorem b34(ob A:D)(w:Int)(k:Nat)(x:Int)(h:x≥w):fiB [.fz ob,.fz A,.fz (.int w),.fz (.int (k:Int)),.fz (.int x)]=some (.rt (.int (k:Int))):=by
 unfold fiB
 have h':w≤x:=h
 clear h
 walk_at "eh"
theorem b35(ob A:D)(w:Int)(k:Nat)(x:Int)(h:¬w≤x):fiB [.fz ob,.fz A,.fz (.int w),.fz (.int (k:Int)),.fz (.int x)]=some (.nx [.fz ob,.fz A,.fz (.int w),.fz (.int (k:Int)),.fz (.int x)]):=by
 unfold fiB
 walk_at "eh"
theorem b2H{pre post:List Int}{x:Int}:ra (pre++x::post) pre.length=x:=by
 unfold ra
 rw[List.getD_eq_getElem?_getD,List.getElem?_append_right (Nat.le_refl _)]
 simp
theorem b3r(R:List Int)(w:Int):∃o,l7 [Ob .fi,.lst (R.map D.int),.int w]=some (.ret (oD o))∧a4h .fi R w o:=by
 have lp:(G6 1 (t4 [g8 3,g8 4]) fiB) [.fz (Ob .fi),.fz (.lst (R.map D.int)),.fz (.int w),.no,.no]=m9 (t4 [g8 3,g8 4]) fiB (F9 (fun k x=>.tup [.int (k:Int),D.int x]) 0 R) [.fz (Ob .fi),.fz (.lst (R.map D.int)),.fz (.int w),.no,.no]:=by
  show m9 (t4 [g8 3,g8 4]) fiB (G5 0 (R.map D.int)) _=_
  rw[a0H]
 have noj:∀pre x post,R=pre++x::post→(∀y∈pre,¬w≤y)→∀j∈En R w,pre.length≤j:=by
  intro pre x post hq hp j hj
  have hj':=L6.mp hj
  by_cases z:pre.length≤j
  ·exact z
  ·exfalso
   have lt:j<pre.length:=by omega
   have e:ra R j=pre[j]:=by
    unfold ra
    rw[hq,List.getD_eq_getElem?_getD,List.getElem?_append_left lt,List.getElem?_eq_getElem lt]
    rfl
   exact hp _ (List.getElem_mem lt) (by rw[← e];exact hj'.2)
 rcases a65 (b:=t4 [g8 3,g8 4]) (body:=fiB) (fun k x=>.tup [.int (k:Int),D.int x]) (fun pre e=>(∀y∈pre,¬w≤y)∧∃o3 o4:Option D,e=[.fz (Ob .fi),.fz (.lst (R.map D.int)),.fz (.int w),un o3,un o4]) (fun pre x r=>w≤x∧r=.rt (.int (pre.length:Int))) R [.fz (Ob .fi),.fz (.lst (R.map D.int)),.fz (.int w),.no,.no] ⟨fun y m=>absurd m List.not_mem_nil,none,none,rfl⟩ (by
   rintro pre x post e hq ⟨hp,o3,o4,rfl⟩
   by_cases h:w≤x
   ·refine .inl ⟨.rt (.int (pre.length:Int)),rfl,?_,h,rfl⟩
    rw[b2G,y2,b34 _ _ w _ x h]
    rfl
   ·refine .inr ⟨[.fz (Ob .fi),.fz (.lst (R.map D.int)),.fz (.int w),.fz (.int (pre.length:Int)),.fz (.int x)],?_,fun y m=>?_,some (.int (pre.length:Int)),some (.int x),rfl⟩
    ·rw[b2G,y2,b35 _ _ w _ x h]
     rfl
    ·rcases List.mem_append.mp m with m | m
     ·exact hp y m
     ·rw[List.mem_singleton.mp m];exact h)with⟨pre,x,post,r,hq,_,hf,⟨hx,rfl⟩,e',hp,_⟩ | ⟨e',hf,hp,o3,o4,rfl⟩
 ·refine⟨some pre.length,?_,L6.mpr ⟨by rw[hq];simp,by rw[hq,b2H];exact hx⟩,noj pre x post hq hp⟩
  exact b33 _ _ _ w _ (by rw[lp,hf];rfl)
 ·refine⟨none,b3q _ _ _ w _ (by rw[lp,hf]),?_⟩
  show En R w=[]
  rw[List.eq_nil_iff_forall_not_mem]
  intro j hj
  obtain⟨j1,j2⟩:=L6.mp hj
  have e:ra R j=R[j]:=by
   unfold ra
   rw[List.getD_eq_getElem?_getD,List.getElem?_eq_getElem j1]
   rfl
  exact hp _ (List.getElem_mem j1) (by rw[← e];exact j2)
theorem a8P(R:List Int):G5 0 (R.map D.int)=(List.range R.length).map fun k=>.tup [.int (k:Int),.int (ra R k)]:=by
 apply List.ext_getElem?
 intro i
 by_cases h:i<R.length
 ·have e:(R.map D.int)[i]? = some (.int (ra R i)):=by
   rw[List.getElem?_map,List.getElem?_eq_getElem h]
   unfold ra
   rw[List.getD_eq_getElem?_getD,List.getElem?_eq_getElem h]
   rfl
  rw[a0B e,List.getElem?_map,List.getElem?_range h,Nat.zero_add]
  rfl
 ·rw[List.getElem?_eq_none (by rw[a0C,List.length_map];omega),List.getElem?_eq_none (by rw[List.length_map,List.length_range];omega)]
abbrev beC:NF:=(a0J 1 2 [2] (t4 [(g8 0),(g8 1)]) (bZ (eB gGe (eV 1) (eV 2))) (eT (aC (eV 1) (aC (eV 0) aN))))
theorem b36(w x:Int)(k:Nat):(bZ (eB gGe (eV 1) (eV 2))) [.fz (.int (k:Int)),.fz (.int x),.fz (.int w)]=some (.ok (decide (x≥w)) [.fz (.int (k:Int)),.fz (.int x),.fz (.int w)]):=rfl
theorem a4_(R:List Int)(hl:R.length≤1000)(w:Int)(ob:D):beC [.fz ob,.fz (.lst (R.map D.int)),.fz (.int w),.no]=some (.ok ((En R w).map fun k=>tI [ra R k,(k:Int)]) [.fz ob,.fz (.lst (R.map D.int)),.fz (.int w),.no]):=by
 show r0 (t4 [(g8 0),(g8 1)]) (bZ (eB gGe (eV 1) (eV 2))) (eT (aC (eV 1) (aC (eV 0) aN))) [.no,.no,.fz (.int w)] [.fz ob,.fz (.lst (R.map D.int)),.fz (.int w),.no] (G5 0 (R.map D.int)) []=_
 rw[a8P,R7 (fun k:Nat=>.tup [.int (k:Int),.int (ra R k)]) (fun k=>tI [ra R k,(k:Int)]) (fun k=>decide (ra R k≥w)) (List.range R.length) [] (by rw[List.length_range];show 0+_≤2 ^ 24;omega) (fun k _=>⟨[.fz (.int (k:Int)),.fz (.int (ra R k)),.fz (.int w)],[.fz (.int (k:Int)),.fz (.int (ra R k)),.fz (.int w)],rfl,b36 w (ra R k) k,fun _=>⟨[.fz (.int (k:Int)),.fz (.int (ra R k)),.fz (.int w)],rfl⟩⟩)]
 rfl
theorem b2J(CO:NF)(G:D→Option D)(ob A:D)(w:Int)(L:List D)(h:CO [.fz ob,.fz A,.fz (.int w),.no]=some (.ok L [.fz ob,.fz A,.fz (.int w),.no]))(r:D)(h2:(L=[]∧r=.non)∨((0:Int)<(L.length:Int)∧∃x k:Int,G (.lst L)=some (.tup [.int x,.int k])∧r=.int k)):fD 4 3 (g6 (A6 3 CO) (j4 (eIf (bZ (eB gGt (D7 A1 3) (eC (.int 0)))) (eB A0 (D7 G 3) (eC (.int 1))) (eC .non)))) [ob,A,.int w]=some (.ret r):=by
 rcases h2 with⟨rfl,rfl⟩ | ⟨hl,x,k,hg,rfl⟩<;>walk_at "eh"
theorem b3s(R:List Int)(hl:R.length≤1000)(w:Int):∃o,m7 [Ob .be,.lst (R.map D.int),.int w]=some (.ret (oD o))∧a4h .be R w o:=by
 cases hE:En R w with
 | nil =>
  refine⟨none,b2J beC V1 _ _ w _ (a4_ R hl w _) _ (.inl ⟨by rw[hE];rfl,rfl⟩),hE⟩
 | cons k0 E =>
  have hk:P4 ((En R w).map fun k=>tI [ra R k,(k:Int)])=some ((En R w).map fun k=>[ra R k,(k:Int)]):=by
   have:=a2W (ks:=(En R w).map fun k=>[ra R k,(k:Int)]) (fun l m=>by obtain⟨k,_,rfl⟩:=List.mem_map.mp m;exact List.cons_ne_nil _ _)
   rw[List.map_map]at this
   exact this
  obtain⟨m1,m2,m3⟩:=T5 (E.map fun k=>[ra R k,(k:Int)]) [ra R k0,(k0:Int)]
  have mem:v8 [ra R k0,(k0:Int)] (E.map fun k=>[ra R k,(k:Int)])∈(En R w).map fun k=>[ra R k,(k:Int)]:=by
   rw[hE,List.map_cons]
   rcases m1 with m | m
   ·rw[m];exact List.mem_cons_self
   ·exact List.mem_cons_of_mem _ m
  obtain⟨k,hk1,hk2⟩:=List.mem_map.mp mem
  have hg:V1 (.lst ((En R w).map fun k=>tI [ra R k,(k:Int)]))=some (.tup [.int (ra R k),.int (k:Int)]):=by
   show(match P4 ((En R w).map fun k=>tI [ra R k,(k:Int)])with | some (k::ks)=>some (tI (v8 k ks)) | _=>none)=_
   rw[hk,hE,List.map_cons]
   show some (tI (v8 [ra R k0,(k0:Int)] (E.map fun k=>[ra R k,(k:Int)])))=_
   rw[← hk2]
   rfl
  refine⟨some k,b2J beC V1 _ _ w _ (a4_ R hl w _) _ (.inr ⟨by rw[List.length_map,hE,List.length_cons];omega,ra R k,(k:Int),hg,rfl⟩),hk1,fun j hj=>?_⟩
  rw[hk2]
  rw[hE]at hj
  rcases List.mem_cons.mp hj with rfl | hj
  ·exact m2
  ·exact m3 _ (List.mem_map.mpr ⟨j,hj,rfl⟩)
theorem b2K{n:Nat}(h:n≤1000):a2s [.int (n:Int)]=some (0,n):=by
 unfold a2s
 show(if _ then _ else _)=_
 rw[if_pos (by omega)]
 simp
def pf:Wk→List D→Option R1 | .nx=>p7 | .fi=>l7 | .be=>m7
theorem b2L(K:Wk)(R:List Int)(hl:R.length≤1000)(w:Int):∃o,pf K [Ob K,.lst (R.map D.int),.int w]=some (.ret (oD o))∧a4h K R w o:=by
 cases K
 ·exact b3p R w
 ·exact b3r R w
 ·exact b3s R hl w
theorem b37{tab:Str→Option (List D→Option R1)}{m:Str}{o:ZF}{f:AF}{e e1 e2:DE}{K:Wk}{g:List D→Option R1}{ds:List D}{d:D}(h1:o e=some (.ok (Ob K) e1))(ht:tab (ck K)=some g)(h2:f e1=some (.ok ds e2))(h3:g (Ob K::ds)=some (.ret d)):a1W tab m o f e=some (.ok d e2):=by
 unfold a1W
 rw[h1]
 show(match tab (ck K)with
  | some g=>bnd (f e1) fun ds e2=>Y3 (g (Ob K::ds)) e2
  | none=>none)=_
 rw[ht]
 show(bnd (f e1) fun ds e2=>Y3 (g (Ob K::ds)) e2)=_
 rw[h2]
 show Y3 (g (Ob K::ds)) e2=_
 rw[h3]
 rfl
theorem b1k{rg:List D→Option (Int×Nat)}{f:AF}{b:GF}{body:SF}{e e1:DE}{ds:List D}{lo:Int}{n:Nat}(h:f e=some (.ok ds e1))(hr:rg ds=some (lo,n)):a1O rg f b body e=m9 b body (O0 lo n) e1:=by
 unfold a1O;rw[h,a1F,hr]
def Tl:Wk→List Int→Int→Nat→Option Nat→Prop
 | .nx,R,w,n,o=>(o=none∧¬(n=R.length∧0<n∧w≤ra R (n-1)))∨(o=some (n-1)∧n=R.length∧0<n∧w≤ra R (n-1))
 | .fi,R,w,n,none=>∀j,j<n→¬w≤ra R j
 | .fi,R,w,n,some k=>k<n∧w≤ra R k∧∀j,j<n→w≤ra R j→k≤j
 | .be,R,w,n,none=>∀j,j<n→¬w≤ra R j
 | .be,R,w,n,some k=>k<n∧w≤ra R k∧∀j,j<n→w≤ra R j→ra R k<ra R j∨(ra R k=ra R j∧k≤j)
theorem b38{a b c d:Int}(h:HT.lexLt [c,d] [a,b]=false):a<c∨(a=c∧b≤d):=by
 rw[HT.lexLt_cons]at h
 by_cases e:c=a
 ·rw[if_pos e,HT.lexLt_cons]at h
  by_cases e2:d=b
  ·exact .inr ⟨e.symm,by omega⟩
  ·rw[if_neg e2]at h
   have:=of_decide_eq_false h
   exact .inr ⟨e.symm,by omega⟩
 ·rw[if_neg e]at h
  have:=of_decide_eq_false h
  exact .inl (by omega)
theorem b1l{K:Wk}{R:List Int}{w:Int}{o:Option Nat}(h:a4h K R w o):Tl K R w R.length o:=by
 cases K with
 | nx =>
  cases o with
  | none=>exact .inl ⟨rfl,fun z=>h z.2⟩
  | some k =>
   have h:k+1=R.length∧w≤ra R k:=h
   have e:R.length-1=k:=by omega
   refine .inr ⟨by rw[e],rfl,by omega,by rw[e];exact h.2⟩
 | fi =>
  cases o with
  | none =>
   intro j hj hw
   have:j∈En R w:=L6.mpr ⟨hj,hw⟩
   rw[show En R w=[]from h]at this
   exact absurd this List.not_mem_nil
  | some k =>
   have m:=L6.mp h.1
   exact⟨m.1,m.2,fun j hj hw=>h.2 j (L6.mpr ⟨hj,hw⟩)⟩
 | be =>
  cases o with
  | none =>
   intro j hj hw
   have:j∈En R w:=L6.mpr ⟨hj,hw⟩
   rw[show En R w=[]from h]at this
   exact absurd this List.not_mem_nil
  | some k =>
   have m:=L6.mp h.1
   refine⟨m.1,m.2,fun j hj hw=>?_⟩
   have:=b38 (h.2 j (L6.mpr ⟨hj,hw⟩))
   omega
theorem a9z(K:Wk)(R:List Int)(w:Int)(hl:R.length≤1000):∃o,pf K [Ob K,.lst (R.map D.int),.int w]=some (.ret (oD o))∧Tl K R w R.length o:=by
 obtain⟨o,h1,h2⟩:=b2L K R hl w
 exact⟨o,h1,b1l h2⟩
abbrev Wr:=Int×Int×Bool
def wD(q:Wr):D:=.tup [.int q.1,.int q.2.1,.bl q.2.2]
def gq(L:List Wr)(k:Nat):Wr:=L.getD k (0,0,false)
theorem a5X{L:List Wr}{k:Nat}(hk:k<L.length):atI (L.map wD) (k:Int)=some (wD (gq L k)):=by
 apply a2b
 rw[List.getElem?_map,List.getElem?_eq_getElem hk]
 unfold gq
 rw[List.getD_eq_getElem?_getD,List.getElem?_eq_getElem hk]
 rfl
abbrev elH:ZF:=(eT (aC (eU a0e (eB A0 (G1 A9 1 (eV 0)) (eC (.int 1)))) (aC (eU a0e (eB A0 (G1 A9 1 (eV 0)) (eC (.int 0)))) (aC (eV 0) aN))))
theorem b1m(B:List D)(k w h:Int)(t:Bool)(a1:atI B k=some (.tup [.int w,.int h,.bl t])):elH [.fz (.int k),.fz (.lst B)]=some (.ok (.tup [.int (-h),.int (-w),.int k]) [.fz (.int k),.fz (.lst B)]):=by
 unfold elH
 walk_at "eh"
def S2(L:List Wr)(n:Nat):List (List Int):=(List.range n).map fun(k:Nat)=>[-(gq L k).2.1,-(gq L k).1,(k:Int)]
theorem b2M(L:List Wr)(n:Nat)(hn:n≤L.length):T9 elH [.no,.fz (.lst (L.map wD))] n=some (S2 L n):=by
 induction n with
 | zero=>rfl
 | succ n ih =>
  unfold T9
  rw[ih (by omega)]
  have st:elH (List.set [.no,.fz (.lst (L.map wD))] 0 (.fz (.int (n:Int))))=some (.ok (.tup [.int (-(gq L n).2.1),.int (-(gq L n).1),.int (n:Int)]) [.fz (.int (n:Int)),.fz (.lst (L.map wD))]):=b1m (L.map wD) n _ _ _ (a5X (by omega))
  rw[st]
  unfold S2
  rw[List.range_succ,List.map_append]
  rfl
theorem b2N(L:List Wr)(n:Nat):okK (S2 L n)=true:=by
 unfold okK
 rw[Bool.and_eq_true]
 constructor
 ·refine decide_eq_true ?_
  unfold S2
  rw[List.nodup_iff_pairwise_ne,List.pairwise_map]
  refine List.Pairwise.imp ?_ (List.nodup_range (n:=n))
  intro i j h e
  injection e with _ e
  injection e with _ e
  injection e with e
  omega
 ·rw[List.all_eq_true]
  intro k m
  obtain⟨i,hi,rfl⟩:=List.mem_map.mp m
  have hn:=List.mem_range.mp hi
  unfold S2
  cases n with
  | zero=>omega
  | succ n=>rw[List.range_succ_eq_map,List.map_cons];rfl
theorem a8Q{α β:Type}(f:α→β){a:List β}{b:List β}(h:a.Perm b):∀l:List α,b=l.map f→∃m:List α,m.Perm l∧a=m.map f:=by
 induction h with
 | nil=>intro l e;exact⟨l,.refl _,e⟩
 | cons x p ih =>
  intro l e
  cases l with
  | nil=>cases e
  | cons y l =>
   rw[List.map_cons]at e
   injection e with e1 e2
   obtain⟨m,p1,q1⟩:=ih l e2
   exact⟨y::m,p1.cons y,by rw[List.map_cons,e1,q1]⟩
 | swap x y r =>
  intro l e
  match l,e with
  | a::b::l,e =>
   rw[List.map_cons,List.map_cons]at e
   injection e with e1 e2
   injection e2 with e2 e3
   exact⟨b::a::l,.swap _ _ _,by rw[List.map_cons,List.map_cons,e1,e2,e3]⟩
 | trans p q ih1 ih2 =>
  intro l e
  obtain⟨m1,p1,q1⟩:=ih2 l e
  obtain⟨m2,p2,q2⟩:=ih1 m1 q1
  exact⟨m2,p2.trans p1,q2⟩
theorem b2O(L:List Wr):∃σ:List Nat,σ.Perm (List.range L.length)∧((K8 (K9 (S2 L L.length))).map fun q=>q.2.headD .non)=σ.map fun(k:Nat)=>D.int (k:Int):=by
 have hl:(S2 L L.length).length=L.length:=by unfold S2;rw[List.length_map,List.length_range]
 have hr:K9 (S2 L L.length)=(List.range L.length).map fun(k:Nat)=>(([-(gq L k).2.1,-(gq L k).1,(k:Int)],[D.int (k:Int)]):O6):=by
  unfold K9
  rw[hl]
  refine List.map_congr_left fun k m=>?_
  have hk:=List.mem_range.mp m
  have:(S2 L L.length).getD k []=[-(gq L k).2.1,-(gq L k).1,(k:Int)]:=by
   unfold S2
   rw[List.getD_eq_getElem?_getD,List.getElem?_map,List.getElem?_range hk]
   rfl
  rw[this]
 obtain⟨σ,h1,h2⟩:=a8Q (fun(k:Nat)=>(([-(gq L k).2.1,-(gq L k).1,(k:Int)],[D.int (k:Int)]):O6)) (X7 (K9 (S2 L L.length))) (List.range L.length) hr
 exact⟨σ,h1,by rw[h2,List.map_map];rfl⟩
theorem b39(js:List Nat)(i:Nat)(e:DE)(B R:List D)(ks:List (List Int))(n:Nat)(h0:(aC (D7 A1 i) aN) e=some (.ok [.int (B.length:Int)] e))(hc:l3 1 js e=[.no,.fz (.lst B)])(hB:B.length=n)(h64:n<64)(hk:T9 elH [.no,.fz (.lst B)] n=some ks)(ok:okK ks=true)(hR:((K8 (K9 ks)).map fun q=>q.2.headD .non)=R):a0l js (aC (D7 A1 i) aN) elH e=some (.ok R e):=by
 unfold a0l
 rw[h0,J8]
 show(if 0≤(B.length:Int)∧(B.length:Int)<64 then(match T9 elH (l3 1 js e) (B.length:Int).toNat with
   | some ks=>if okK ks=true then some (L2.R.ok ((K8 (K9 ks)).map fun q=>q.2.headD .non) e)else none
   | none=>none)else none)=_
 rw[if_pos ⟨by omega,by omega⟩,Int.toNat_natCast,hB,hc,hk]
 show(if okK ks=true then _ else _)=_
 rw[if_pos ok,hR]
abbrev oL(σ:List Nat):List D:=σ.map fun(k:Nat)=>D.int (k:Int)
theorem a7s(L:List Wr)(hl:L.length<64)(σ:List Nat)(h:((K8 (K9 (S2 L L.length))).map fun q=>q.2.headD .non)=oL σ):w8 [.lst (L.map wD)]=some (.own (oL σ)):=by
 have e:=b39 [0] 0 [.fz (.lst (L.map wD))] (L.map wD) (oL σ) (S2 L L.length) L.length rfl rfl (by rw[List.length_map]) hl (b2M L _ (Nat.le_refl _)) (b2N L _) h
 have:w8 [.lst (L.map wD)]=O2 (C9 ((a0l [0] (aC (D7 A1 0) aN) elH) [.fz (.lst (L.map wD))]) fun ds _=>some (.ro ds)):=rfl
 rw[this,e]
 rfl
structure S4 where
 R:List Int
 F:List Int
 h:Int
 P:List D
def step(W:Int)(L:List Wr)(s:S4)(k:Nat):Option Nat→S4
 | none=>⟨s.R++[W-(gq L k).1],s.F++[s.h],s.h+(gq L k).2.1,s.P.set k (.tup [.int (W-W),.int s.h,.bl false])⟩
 | some j=>⟨s.R.set j (ra s.R j-(gq L k).1),s.F,s.h,s.P.set k (.tup [.int (W-ra s.R j),.int (ra s.F j),.bl false])⟩
noncomputable def pk(K:Wk)(R:List Int)(w:Int):Option Nat:=if h:R.length≤1000 then(a9z K R w h).choose else none
theorem a9A{K:Wk}{R:List Int}{w:Int}(h:R.length≤1000):pf K [Ob K,.lst (R.map D.int),.int w]=some (.ret (oD (pk K R w)))∧Tl K R w R.length (pk K R w):=by
 unfold pk
 rw[dif_pos h]
 exact(a9z K R w h).choose_spec
theorem b3t{K:Wk}{R:List Int}{w:Int}{n k:Nat}(h:Tl K R w n (some k)):k<n:=by
 cases K with
 | nx =>
  rcases h with⟨h,_⟩ | ⟨h,_,h2,_⟩
  ·cases h
  ·injection h with h;omega
 | fi=>exact h.1
 | be=>exact h.1
noncomputable def nxt(W:Int)(K:Wk)(L:List Wr)(s:S4)(k:Nat):S4:=step W L s k (pk K s.R (gq L k).1)
noncomputable def run(W:Int)(K:Wk)(L:List Wr)(l:List Nat):S4:=l.foldl (nxt W K L) ⟨[],[],0,List.replicate L.length .non⟩
theorem b1n(W:Int)(K:Wk)(L:List Wr)(l:List Nat)(k:Nat):run W K L (l++[k])=nxt W K L (run W K L l) k:=by
 unfold run
 rw[List.foldl_append]
 rfl
def plT(d:D):Prop:=∃a b:Int,d=.tup [.int a,.int b,.bl false]
structure Good(L:List Wr)(l:List Nat)(s:S4):Prop where
 fl:s.F.length=s.R.length
 rl:s.R.length≤l.length
 pl:s.P.length=L.length
 pt:∀k∈l,k<L.length→∃d,s.P[k]? = some d∧plT d
theorem a8R{W:Int}{K:Wk}{L:List Wr}{l:List Nat}{s:S4}{k:Nat}(g:Good L l s):Good L (l++[k]) (nxt W K L s k):=by
 have hs:∀(d:D),plT d→∀j∈l++[k],j<L.length→∃d',(s.P.set k d)[j]? = some d'∧plT d':=by
  intro d hd j hj hn
  by_cases e:k=j
  ·subst e
   exact⟨d,by rw[List.getElem?_set_self (by rw[g.pl];exact hn)],hd⟩
  ·rw[List.getElem?_set_ne e]
   rcases List.mem_append.mp hj with m | m
   ·exact g.pt j m hn
   ·exact absurd (List.mem_singleton.mp m).symm e
 unfold nxt
 cases pk K s.R (gq L k).1 with
 | none =>
  refine⟨?_,?_,?_,hs _ ⟨_,_,rfl⟩⟩
  ·show(s.F++[s.h]).length=(s.R++[_]).length
   rw[List.length_append,List.length_append,g.fl];rfl
  ·show(s.R++[_]).length≤_
   rw[List.length_append,List.length_append,List.length_singleton,List.length_singleton]
   have:=g.rl;omega
  ·show(s.P.set k _).length=_
   rw[List.length_set];exact g.pl
 | some j =>
  refine⟨?_,?_,?_,hs _ ⟨_,_,rfl⟩⟩
  ·show s.F.length=(s.R.set j _).length
   rw[List.length_set];exact g.fl
  ·show(s.R.set j _).length≤_
   rw[List.length_set,List.length_append]
   have:=g.rl;omega
  ·show(s.P.set k _).length=_
   rw[List.length_set];exact g.pl
theorem a8S(W:Int)(K:Wk)(L:List Wr)(l:List Nat):Good L l (run W K L l):=by
 suffices h:∀(l pre:List Nat) (s:S4),Good L pre s→Good L (pre++l) (l.foldl (nxt W K L) s) by
  have:=h l [] ⟨[],[],0,List.replicate L.length .non⟩ ⟨rfl,Nat.le_refl _,List.length_replicate,fun k m=>absurd m List.not_mem_nil⟩
  exact this
 intro l
 induction l with
 | nil=>intro pre s g;rw[List.append_nil];exact g
 | cons k l ih =>
  intro pre s g
  have:=ih (pre++[k]) (nxt W K L s k) (a8R g)
  rw[List.append_assoc]at this
  exact this
abbrev shB(ME:ZF):SF:=(g6 (a5M (G1 A9 1 (eV 8)) (t4 [(g8 9),(g8 10),(g8 11)])) (g6 (r8 12 ME) (g6 (u3 (bZ (eB (J0 false) (eV 12) (eC .non))) (g6 (r8 12 (D7 A1 4)) (g6 (a09 4 (eV 0)) (g6 (a09 5 (eV 6)) (a2u 6 (fun i j=>i+j) (eV 10))))) u0) (g6 (a5K 7 (eV 8) (eT (aC (eB W6 (eV 0) (G1 A9 4 (eV 12))) (aC (G1 A9 5 (eV 12)) (aC (eC (.bl false)) aN))))) (a1U 4 (eV 12) (fun i j=>i-j) (eV 9))))))
theorem b3_(ME:ZF)(W h k w hh:Int)(t:Bool)(B A Fl P:List D)(wd ob:D)(o9 o10 o11 o12:Option D)(kn an:Nat)(hA:(A.length:Int)=an)
  (a0:atI B k=some (.tup [.int w,.int hh,.bl t])) (hm:ME [.fz (.int W),.fz (.lst B),.fz wd,.fz ob,.ow A,.ow Fl,.fz (.int h),.ow P,.fz (.int k),.fz (.int w),.fz (.int hh),.fz (.bl t),un o12]=some (.ok .non [.fz (.int W),.fz (.lst B),.fz wd,.fz ob,.ow A,.ow Fl,.fz (.int h),.ow P,.fz (.int k),.fz (.int w),.fz (.int hh),.fz (.bl t),un o12]))
  (l1:A.length<sizeLine) (l2:Fl.length<sizeLine) (a1:atI (A++[D.int W]) (an:Int)=some (.int W)) (a2:atI (Fl++[D.int h]) (an:Int)=some (.int h)) (x1:D6 P.length k=some kn) (x2:D6 (A++[D.int W]).length (an:Int)=some an) :
  shB ME [.fz (.int W),.fz (.lst B),.fz wd,.fz ob,.ow A,.ow Fl,.fz (.int h),.ow P,.fz (.int k),un o9,un o10,un o11,un o12]=some (.nx [.fz (.int W),.fz (.lst B),.fz wd,.fz ob,.ow ((A++[D.int W]).set an (.int (W-w))),.ow (Fl++[D.int h]),.fz (.int (h+hh)),.ow (P.set kn (.tup [.int (W-W),.int h,.bl false])),.fz (.int k),.fz (.int w),.fz (.int hh),.fz (.bl t),.fz (.int an)]):=by
 unfold shB
 have gz1:t4 [g8 9,g8 10,g8 11] (.tup [.int w,.int hh,.bl t]) [.fz (.int W),.fz (.lst B),.fz wd,.fz ob,.ow A,.ow Fl,.fz (.int h),.ow P,.fz (.int k),un o9,un o10,un o11,un o12]=some [.fz (.int W),.fz (.lst B),.fz wd,.fz ob,.ow A,.ow Fl,.fz (.int h),.ow P,.fz (.int k),.fz (.int w),.fz (.int hh),.fz (.bl t),un o12]:=by
  cases o9<;>cases o10<;>cases o11<;>rfl
 generalize t4 [g8 9,g8 10,g8 11]=BT at *
 generalize un o9=s9 at *
 generalize un o10=s10 at *
 generalize un o11=s11 at *
 cases o12<;>simp only[un]at * <;>walk_at "eh" <;>simp only[a2u,eV,look,List.getElem?_cons_zero,List.getElem?_cons_succ,List.set_cons_zero,List.set_cons_succ,a1F]<;>walk_at "eh"
theorem b4a(ME:ZF)(W h k w hh x y:Int)(t:Bool)(B A Fl P:List D)(wd ob:D)(o9 o10 o11 o12:Option D)(kn j:Nat)
  (a0:atI B k=some (.tup [.int w,.int hh,.bl t])) (hm:ME [.fz (.int W),.fz (.lst B),.fz wd,.fz ob,.ow A,.ow Fl,.fz (.int h),.ow P,.fz (.int k),.fz (.int w),.fz (.int hh),.fz (.bl t),un o12]=some (.ok (.int (j:Int)) [.fz (.int W),.fz (.lst B),.fz wd,.fz ob,.ow A,.ow Fl,.fz (.int h),.ow P,.fz (.int k),.fz (.int w),.fz (.int hh),.fz (.bl t),un o12]))
  (a1:atI A (j:Int)=some (.int x)) (a2:atI Fl (j:Int)=some (.int y)) (x1:D6 P.length k=some kn) (x2:D6 A.length (j:Int)=some j) :
  shB ME [.fz (.int W),.fz (.lst B),.fz wd,.fz ob,.ow A,.ow Fl,.fz (.int h),.ow P,.fz (.int k),un o9,un o10,un o11,un o12]=some (.nx [.fz (.int W),.fz (.lst B),.fz wd,.fz ob,.ow (A.set j (.int (x-w))),.ow Fl,.fz (.int h),.ow (P.set kn (.tup [.int (W-x),.int y,.bl false])),.fz (.int k),.fz (.int w),.fz (.int hh),.fz (.bl t),.fz (.int j)]):=by
 unfold shB
 have gz1:t4 [g8 9,g8 10,g8 11] (.tup [.int w,.int hh,.bl t]) [.fz (.int W),.fz (.lst B),.fz wd,.fz ob,.ow A,.ow Fl,.fz (.int h),.ow P,.fz (.int k),un o9,un o10,un o11,un o12]=some [.fz (.int W),.fz (.lst B),.fz wd,.fz ob,.ow A,.ow Fl,.fz (.int h),.ow P,.fz (.int k),.fz (.int w),.fz (.int hh),.fz (.bl t),un o12]:=by
  cases o9<;>cases o10<;>cases o11<;>rfl
 generalize t4 [g8 9,g8 10,g8 11]=BT at *
 generalize un o9=s9 at *
 generalize un o10=s10 at *
 generalize un o11=s11 at *
 cases o12<;>simp only[un]at * <;>walk_at "eh"
theorem ixn{n k:Nat}(h:k<n):D6 n (k:Int)=some k:=a48 h
theorem b1o(R:List Int)(W w:Int):((R.map D.int)++[D.int W]).set R.length (.int (W-w))=(R++[W-w]).map D.int:=by
 rw[List.set_append_right _ _ (by rw[List.length_map];exact Nat.le_refl _),List.length_map,Nat.sub_self,List.map_append]
 rfl
theorem a7t(R:List Int)(n:Nat)(h:R.length=n)(W:Int):atI ((R.map D.int)++[D.int W]) (n:Int)=some (.int W):=by
 apply a2b
 rw[List.getElem?_append_right (by rw[List.length_map];omega),List.length_map,h,Nat.sub_self]
 rfl
abbrev ME0:ZF:=(a1W (S0 p7 l7 m7) "pick" (eV 3) (aC (zN (nCV S8 4)) (aC (eV 9) aN)))
abbrev shE(W:Int)(L:List Wr)(K:Wk)(s:S4)(o8 o9 o10 o11 o12:Option D):DE:=[.fz (.int W),.fz (.lst (L.map wD)),.fz (.str (wk K)),.fz (Ob K),.ow (s.R.map D.int),.ow (s.F.map D.int),.fz (.int s.h),.ow s.P,un o8,un o9,un o10,un o11,un o12]
theorem b1p(A Fl P:List D)(hl:A.length≤sizeLine)(a b c d h k w x y:D)(s12:Sl):(aC (zN (nCV S8 4)) (aC (eV 9) aN)) [.fz a,.fz b,.fz c,.fz d,.ow A,.ow Fl,.fz h,.ow P,.fz k,.fz w,.fz x,.fz y,s12]=some (.ok [.lst A,w] [.fz a,.fz b,.fz c,.fz d,.ow A,.ow Fl,.fz h,.ow P,.fz k,.fz w,.fz x,.fz y,s12]):=by
 walk_at "eh"
theorem b3u(W:Int)(L:List Wr)(K:Wk)(σ:List Nat)(hσ:∀k∈σ,k<L.length)(hl:σ.length≤1000):∃o8 o9 o10 o11 o12,m9 (g8 8) (shB ME0) (oL σ) (shE W L K ⟨[],[],0,List.replicate L.length .non⟩ none none none none none)=some (.nx (shE W L K (run W K L σ) o8 o9 o10 o11 o12)):=by
 obtain⟨e',h1,o8,o9,o10,o11,o12,rfl⟩:=a46 (b:=g8 8) (body:=shB ME0) (fun(k:Nat)=>D.int (k:Int)) (fun pre e=>∃o8 o9 o10 o11 o12,e=shE W L K (run W K L pre) o8 o9 o10 o11 o12) σ (shE W L K ⟨[],[],0,List.replicate L.length .non⟩ none none none none none) ⟨none,none,none,none,none,rfl⟩ (by
  rintro pre k post e hq ⟨o8,o9,o10,o11,o12,rfl⟩
  have g:=a8S W K L pre
  have hk:k<L.length:=hσ k (by rw[hq];simp)
  have hpre:pre.length≤1000:=by have:=congrArg List.length hq;rw[List.length_append,List.length_cons]at this;omega
  rw[b1n]
  unfold nxt
  generalize run W K L pre=s at g
  have hR:s.R.length≤1000:=by have:=g.rl;omega
  have hp:=(a9A (K:=K) (w:=(gq L k).1) hR).1
  have hT:=(a9A (K:=K) (w:=(gq L k).1) hR).2
  have hb:g8 8 (.int (k:Int)) (shE W L K s o8 o9 o10 o11 o12)=some (shE W L K s (some (.int (k:Int))) o9 o10 o11 o12):=by cases o8<;>rfl
  have a0:=a5X hk
  have hm:=b37 (tab:=S0 p7 l7 m7) (m := "pick") (o:=eV 3) (K:=K) (g:=pf K) (ds:=[.lst (s.R.map D.int),.int (gq L k).1]) (e:=[.fz (.int W),.fz (.lst (L.map wD)),.fz (.str (wk K)),.fz (Ob K),.ow (s.R.map D.int),.ow (s.F.map D.int),.fz (.int s.h),.ow s.P,.fz (.int (k:Int)),.fz (.int (gq L k).1),.fz (.int (gq L k).2.1),.fz (.bl (gq L k).2.2),un o12]) rfl (by cases K<;>rfl) (b1p _ _ _ (by rw[List.length_map];show _≤2 ^ 24;omega) _ _ _ _ _ _ _ _ _ _) hp
  have x1:D6 s.P.length (k:Int)=some k:=ixn (by rw[g.pl];exact hk)
  generalize pk K s.R (gq L k).1=o at *
  cases o with
  | none =>
   refine⟨_,?_,some (.int (k:Int)),some (.int (gq L k).1),some (.int (gq L k).2.1),some (.bl (gq L k).2.2),some (.int (s.R.length:Int)),rfl⟩
   rw[hb,y2]
   refine(congrArg A2 (b3_ ME0 W s.h (k:Int) (gq L k).1 (gq L k).2.1 (gq L k).2.2 (L.map wD) (s.R.map D.int) (s.F.map D.int) s.P _ _ o9 o10 o11 o12 k s.R.length (by rw[List.length_map]) a0 hm (by rw[List.length_map];show _<2 ^ 24;omega) (by rw[List.length_map,g.fl];show _<2 ^ 24;omega) (a7t _ _ rfl _) (a7t _ _ g.fl _) x1 (ixn (by rw[List.length_append,List.length_map];simp)))).trans ?_
   rw[b1o]
   rw[show s.F.map D.int++[D.int s.h]=(s.F++[s.h]).map D.int by rw[List.map_append];rfl]
   rfl
  | some j =>
   have hj:j<s.R.length:=b3t hT
   refine⟨_,?_,some (.int (k:Int)),some (.int (gq L k).1),some (.int (gq L k).2.1),some (.bl (gq L k).2.2),some (.int (j:Int)),rfl⟩
   rw[hb,y2]
   refine(congrArg A2 (b4a ME0 W s.h (k:Int) (gq L k).1 (gq L k).2.1 (ra s.R j) (ra s.F j) (gq L k).2.2 (L.map wD) (s.R.map D.int) (s.F.map D.int) s.P _ _ o9 o10 o11 o12 k j a0 hm (a9y hj) (a9y (by rw[g.fl];exact hj)) x1 (ixn (by rw[List.length_map];exact hj)))).trans ?_
   rw[← List.map_set]
   rfl)
 exact⟨o8,o9,o10,o11,o12,h1⟩
theorem a7v(LP:SF)(SO CW:List D→Option R1)(GR:D→D→Option (List D))(W h:Int)(wd ob:D)(B P0 P A Fl:List D)(o8 o9 o10 o11 o12:Option D)(n:Nat)(hn:B.length=n)(h1:SO [wd]=some (.ret ob))(h2:CW [.int W,.lst B]=some (.ret .non))(h3:GR (.lst [.non]) (.int (n:Int))=some P0)
  (h4:LP [.fz (.int W),.fz (.lst B),.fz wd,.fz ob,.ow [],.ow [],.fz (.int 0),.ow P0,.no,.no,.no,.no,.no]=some (.nx [.fz (.int W),.fz (.lst B),.fz wd,.fz ob,.ow A,.ow Fl,.fz (.int h),.ow P,un o8,un o9,un o10,un o11,un o12])) :
  fD 13 3 (g6 (a0x 3 SO (aC (eV 2) aN)) (g6 (Y4 (D9 CW (aC (eV 0) (aC (eV 1) aN)))) (g6 (A6 4 (eL aN)) (g6 (A6 5 (eL aN)) (g6 (r8 6 (eC (.int 0))) (g6 (A6 7 (nB GR (zN (eL (aC (eC .non) aN))) (D7 A1 1))) (g6 LP (j4 (eT (aC (eV 6) (aC (eV 7) aN))))))))))) [.int W,.lst B,wd]=some (.ret (.tup [.int h,.lst P])):=by
 walk_at "eh"
abbrev O7:SF:=(u3 (bZ (eB gGt (eB A0 (eV 3) (eC (.int 0))) (eV 0))) (a0K "TooWide" "at" (aC (eV 2) aN)) u0)
theorem b2R(W w hh:Int)(t:Bool)(B:D)(k:D)(hw:¬W<w):O7 [.fz (.int W),.fz B,.fz k,.fz (.tup [.int w,.int hh,.bl t])]=some (.nx [.fz (.int W),.fz B,.fz k,.fz (.tup [.int w,.int hh,.bl t])]):=by
 unfold O7
 walk_at "eh"
theorem b3v(W:Int)(L:List Wr)(h:∀q∈L,q.1≤W):p6 [.int W,.lst (L.map wD)]=some (.ret .non):=by
 have lp:∃o2 o3,m9 (t4 [g8 2,g8 3]) O7 (F9 (fun k x=>.tup [.int (k:Int),wD x]) 0 L) [.fz (.int W),.fz (.lst (L.map wD)),.no,.no]=some (.nx [.fz (.int W),.fz (.lst (L.map wD)),un o2,un o3]):=by
  rcases a65 (b:=t4 [g8 2,g8 3]) (body:=O7) (fun k x=>.tup [.int (k:Int),wD x]) (fun pre e=>∃o2 o3:Option D,e=[.fz (.int W),.fz (.lst (L.map wD)),un o2,un o3]) (fun pre x r=>False) L [.fz (.int W),.fz (.lst (L.map wD)),.no,.no] ⟨none,none,rfl⟩ (by
   rintro pre x post e hq ⟨o2,o3,rfl⟩
   refine .inr ⟨[.fz (.int W),.fz (.lst (L.map wD)),.fz (.int (pre.length:Int)),.fz (wD x)],?_,some (.int (pre.length:Int)),some (wD x),rfl⟩
   have hb:t4 [g8 2,g8 3] (.tup [.int (pre.length:Int),wD x]) [.fz (.int W),.fz (.lst (L.map wD)),un o2,un o3]=some [.fz (.int W),.fz (.lst (L.map wD)),.fz (.int (pre.length:Int)),.fz (wD x)]:=by
    cases o2<;>cases o3<;>rfl
   rw[hb,y2]
   refine(congrArg A2 (b2R W x.1 x.2.1 x.2.2 _ _ ?_)).trans rfl
   have:=h x (by rw[hq];simp)
   omega)with⟨_,_,_,_,_,_,_,z,_⟩ | ⟨e',hf,o2,o3,rfl⟩
  ·exact z.elim
  ·exact⟨o2,o3,hf⟩
 obtain⟨o2,o3,lp⟩:=lp
 have e:G6 1 (t4 [g8 2,g8 3]) O7 [.fz (.int W),.fz (.lst (L.map wD)),.no,.no]=some (.nx [.fz (.int W),.fz (.lst (L.map wD)),un o2,un o3]):=by
  show m9 (t4 [g8 2,g8 3]) O7 (G5 0 (L.map wD)) _=_
  rw[a0H]
  exact lp
 show O2 (G6 1 (t4 [g8 2,g8 3]) O7 [.fz (.int W),.fz (.lst (L.map wD)),.no,.no])=_
 rw[e]
 rfl
theorem a5Y(K:Wk):i9 [.str (wk K)]=some (.ret (Ob K)):=by
 cases K<;> (unfold i9 S1;rfl)
theorem b2S(n:Nat)(h:n≤1000):a2q (.lst [.non]) (.int (n:Int))=some (List.replicate n .non):=by
 rw[a2q,if_pos ⟨by omega,by omega,by rw[List.length_singleton,Int.toNat_natCast];show _≤2 ^ 24;omega⟩,Int.toNat_natCast,List.flatten_replicate_singleton]
theorem a5Z(W:Int)(L:List Wr)(K:Wk)(hl:L.length<64)(hw:∀q∈L,q.1≤W)(σ:List Nat)(hp:σ.Perm (List.range L.length))(h:((K8 (K9 (S2 L L.length))).map fun q=>q.2.headD .non)=oL σ):B7 [.int W,.lst (L.map wD),.str (wk K)]=some (.ret (.tup [.int (run W K L σ).h,.lst (run W K L σ).P])):=by
 have hσ:∀k∈σ,k<L.length:=fun k m=>List.mem_range.mp (hp.mem_iff.mp m)
 have hn:σ.length=L.length:=by rw[hp.length_eq,List.length_range]
 obtain⟨o8,o9,o10,o11,o12,lp⟩:=b3u W L K σ hσ (by omega)
 refine a7v _ i9 p6 a2q W _ _ (Ob K) (L.map wD) (List.replicate L.length .non) _ ((run W K L σ).R.map D.int) ((run W K L σ).F.map D.int) o8 o9 o10 o11 o12 L.length (by rw[List.length_map]) (a5Y K) (b3v W L hw) (b2S _ (by omega)) ?_
 have e:i7 w8 (aC (eV 1) aN) (shE W L K ⟨[],[],0,List.replicate L.length .non⟩ none none none none none)=some (.ok (.lst (oL σ)) (shE W L K ⟨[],[],0,List.replicate L.length .non⟩ none none none none none)):=by
  show bnd _ _=_
  show Q3 (w8 [.lst (L.map wD)]) _=_
  rw[a7s L hl σ h]
  rfl
 show a3T (i7 w8 (aC (eV 1) aN)) (g8 8) (shB ME0) (shE W L K ⟨[],[],0,List.replicate L.length .non⟩ none none none none none)=_
 unfold a3T
 rw[e,a1F]
 exact lp
theorem a5a(c:Int):∃r:Int,1≤r∧E8 [.int c]=some (.ret (.int r)):=by
 obtain⟨B,hB,eB⟩:=big
 have m1:p5 (.int (c/4)) (.int B)=some (.int (c/4%B)):=a42 (by omega)
 have p1:0≤c/4%B:=Int.emod_nonneg _ (by omega)
 clear eB
 unfold E8 a4f
 by_cases z:c%4=3
 ·refine⟨1+c/4%B,by omega,?_⟩
  clear p1
  walk_at "eh"
 ·refine⟨1+c/4%9,by omega,?_⟩
  clear p1
  walk_at "eh"
theorem b2T(SI:List D→Option R1)(c a b:Int)(h1:SI [.int c]=some (.ret (.int a)))(h2:SI [.int (c/2+1)]=some (.ret (.int b))):fD 1 1 (j4 (eT (aC (i7 SI (aC (eV 0) aN)) (aC (i7 SI (aC (eB N9 (eB z9 (eV 0) (eC (.int 2))) (eC (.int 1))) aN)) (aC (eB (z8 false) (eB p5 (eB z9 (eV 0) (eC (.int 3))) (eC (.int 2))) (eC (.int 0))) aN))))) [.int c]=some (.ret (.tup [.int a,.int b,.bl (decide (c/3%2=0))])):=by
 walk_at "eh"
theorem a5b(c:Int):∃q:Wr,1≤q.1∧B1 [.int c]=some (.ret (wD q)):=by
 obtain⟨a,ha,h1⟩:=a5a c
 obtain⟨b,hb,h2⟩:=a5a (c/2+1)
 exact⟨(a,b,decide (c/3%2=0)),ha,b2T E8 c a b h1 h2⟩
theorem a8T(L:List Wr):w4 (L.map wD)=true∧C5 (L.map wD)≤2:=by
 refine⟨a4t fun _ _=>rfl,a60 fun _ _=>?_⟩
 exact Nat.le_of_ble_eq_true rfl
theorem b2U(L:List Wr):a0g false (.lst (L.map wD)) (.lst (L.map wD))=some (.bl true):=by
 obtain⟨h1,h2⟩:=a8T L
 refine a2U false ?_ ?_ rfl
 ·simp only[i2,h1]
 ·simp only[K6]
  omega
def fw(W:Int):List Wr→Nat→Option Nat
 | [],_=>none
 | q::l,n=>if W<q.1 then some n else fw W l (n+1)
abbrev xW(k:Nat):XN:=.v "TooWide" "at" (.int (k:Int))
theorem b4b(W w hh:Int)(t:Bool)(B:D)(k:D)(hw:W<w):O7 [.fz (.int W),.fz B,.fz k,.fz (.tup [.int w,.int hh,.bl t])]=some (.ex (.v "TooWide" "at" k)):=by
 unfold O7
 walk_at "eh"
theorem cwl(W:Int)(B:D):∀(l:List Wr) (n:Nat) (o2 o3:Option D),match fw W l n with
  | some k=>m9 (t4 [g8 2,g8 3]) O7 (F9 (fun k x=>.tup [.int (k:Int),wD x]) n l) [.fz (.int W),.fz B,un o2,un o3]=some (.ex (xW k))
  | none=>∃p2 p3,m9 (t4 [g8 2,g8 3]) O7 (F9 (fun k x=>.tup [.int (k:Int),wD x]) n l) [.fz (.int W),.fz B,un o2,un o3]=some (.nx [.fz (.int W),.fz B,un p2,un p3])
 | [],n,o2,o3=>⟨o2,o3,rfl⟩
 | q::l,n,o2,o3=>by
  have hb:t4 [g8 2,g8 3] (.tup [.int (n:Int),wD q]) [.fz (.int W),.fz B,un o2,un o3]=some [.fz (.int W),.fz B,.fz (.int (n:Int)),.fz (wD q)]:=by
   cases o2<;>cases o3<;>rfl
  unfold fw
  rw[show F9 (fun k x=>D.tup [.int (k:Int),wD x]) n (q::l)=.tup [.int (n:Int),wD q]::F9 (fun k x=>.tup [.int (k:Int),wD x]) (n+1) l from rfl,T3,hb,y2]
  by_cases z:W<q.1
  ·rw[if_pos z,show O7 [.fz (.int W),.fz B,.fz (.int (n:Int)),.fz (wD q)]=_ from b4b W q.1 q.2.1 q.2.2 B _ z,a41]
  ·rw[if_neg z,show O7 [.fz (.int W),.fz B,.fz (.int (n:Int)),.fz (wD q)]=_ from b2R W q.1 q.2.1 q.2.2 B _ z,a40]
   exact cwl W B l (n+1) (some (.int (n:Int))) (some (wD q))
theorem b3w(W:Int)(L:List Wr)(k:Nat)(h:fw W L 0=some k):p6 [.int W,.lst (L.map wD)]=some (.ex (xW k)):=by
 have lp:=cwl W (.lst (L.map wD)) L 0 none none
 rw[h]at lp
 have e:G6 1 (t4 [g8 2,g8 3]) O7 [.fz (.int W),.fz (.lst (L.map wD)),.no,.no]=some (.ex (xW k)):=by
  show m9 (t4 [g8 2,g8 3]) O7 (G5 0 (L.map wD)) _=_
  rw[a0H]
  exact lp
 show O2 (G6 1 (t4 [g8 2,g8 3]) O7 [.fz (.int W),.fz (.lst (L.map wD)),.no,.no])=_
 rw[e]
 rfl
theorem a5c(W:Int):∀(L:List Wr) (n:Nat),fw W L n=none→∀q∈L,q.1≤W
 | [],_,_,q,m=>by cases m
 | x::l,n,h,q,m=>by
  unfold fw at h
  by_cases z:W<x.1
  ·rw[if_pos z]at h;cases h
  ·rw[if_neg z]at h
   rcases List.mem_cons.mp m with rfl | m
   ·omega
   ·exact a5c W l (n+1) h q m
theorem a9B(W:Int):∀(L:List Wr) (n:Nat),(∀q∈L,q.1≤W)→fw W L n=none
 | [],_,_=>rfl
 | x::l,n,h=>by
  unfold fw
  rw[if_neg (by have:=h x List.mem_cons_self;omega)]
  exact a9B W l (n+1) fun q m=>h q (List.mem_cons_of_mem _ m)
theorem a7w(t:Str)(h1:¬t = "next")(h2:¬t = "first")(h3:¬t = "best"):i9 [.str t]=some (.ex (.p "NoPicker")):=by
 unfold i9 S1
 have sz:(0+1≤sizeLine):=by show 1≤2 ^ 24;omega
 walk_at "eh"
theorem b3x(SO CW:List D→Option R1)(RE:SF)(a b c:D)(x:XN)(h:SO [c]=some (.ex x)):fD 13 3 (g6 (a0x 3 SO (aC (eV 2) aN)) (g6 (Y4 (D9 CW (aC (eV 0) (aC (eV 1) aN)))) RE)) [a,b,c]=some (.ex x):=by
 walk_at "eh"
theorem b3y(SO CW:List D→Option R1)(RE:SF)(a b c o:D)(x:XN)(h:SO [c]=some (.ret o))(h2:CW [a,b]=some (.ex x)):fD 13 3 (g6 (a0x 3 SO (aC (eV 2) aN)) (g6 (Y4 (D9 CW (aC (eV 0) (aC (eV 1) aN)))) RE)) [a,b,c]=some (.ex x):=by
 walk_at "eh"
theorem a7x:u5 [.exc "NoPicker"]=some (.ret (.tup [.str "word",.int 0])):=by
 unfold u5 a1e
 rfl
theorem b2V(k:Nat):u5 [.exv "TooWide" "at" (.int (k:Int))]=some (.ret (.tup [.str "wide",.int (k:Int)])):=by
 unfold u5 a1e
 rfl
theorem b4c(TR:SF)(t r:D)(h:TR [.fz t,.fz .non,.no]=some (.nx [.fz t,.fz r,.no])):fD 3 1 (g6 (r8 1 (eC .non)) (g6 TR (K3 1))) [t]=some (.ret r):=by
 walk_at "eh"
theorem a8U(TR:SF)(a b c r:D)(s0 s1 s2 s4:Sl)(h:TR [.fz a,.fz b,.fz c,.fz .non,.no]=some (.nx [s0,s1,s2,.fz r,s4])):fD 5 3 (g6 (r8 3 (eC .non)) (g6 TR (K3 3))) [a,b,c]=some (.ret r):=by
 walk_at "eh"
theorem b4d(SO TO:List D→Option R1)(XO:Str→Option Bool)(t:D)(c:Str)(r:D)(h:SO [t]=some (.ex (.p c)))(hx:XO c=some true)(ht:TO [.exc c]=some (.ret r)):a3h SO (aC (eV 0) aN) (hAs 2 XO (x8 1 TO (aC (eV 2) aN)) hN) [.fz t,.fz .non,.no]=some (.nx [.fz t,.fz r,.no]):=by
 show(match SO [t]with | some (.ret _)=>_ | some (.own _)=>_ | some (.ex c)=>hAs 2 XO (x8 1 TO (aC (eV 2) aN)) hN c [.fz t,.fz .non,.no] | _=>none)=_
 rw[h]
 show(match XO c with | some true=>_ | some false=>_ | none=>_)=_
 rw[hx]
 show a0I 2 (Q4 1 (TO [.exc c]) [.fz t,.fz .non,.fz (.exc c)])=_
 rw[ht]
 rfl
theorem b2W(SH:List D→Option R1)(a b c:D):(Y4 (D9 SH (aC (eV 0) (aC (eV 1) (aC (eV 2) aN))))) [.fz a,.fz b,.fz c,.fz .non,.no]=C9 (Y3 (SH [a,b,c]) [.fz a,.fz b,.fz c,.fz .non,.no]) fun _ e1=>some (.nx e1):=rfl
theorem b2X(SH TO:List D→Option R1)(XO:Str→Option Bool)(a b c:D)(x:XN)(r:D)(h:SH [a,b,c]=some (.ex x))(hx:XO x.nm=some true)(ht:TO [x.d]=some (.ret r)):(X5 5 (Y4 (D9 SH (aC (eV 0) (aC (eV 1) (aC (eV 2) aN))))) (hAs 4 XO (x8 3 TO (aC (eV 4) aN)) hN)) [.fz a,.fz b,.fz c,.fz .non,.no]=some (.nx [.no,.no,.no,.fz r,.no]):=by
 have e:(Y4 (D9 SH (aC (eV 0) (aC (eV 1) (aC (eV 2) aN))))) [.fz a,.fz b,.fz c,.fz .non,.no]=some (.ex x):=by rw[b2W,h];rfl
 rw[a38,e]
 show hAs 4 XO (x8 3 TO (aC (eV 4) aN)) hN x [.no,.no,.no,.no,.no]=_
 show(match XO x.nm with | some true=>(match put 4 (.fz x.d) [.no,.no,.no,.no,.no]with | some (.nx e1)=>a0I 4 (x8 3 TO (aC (eV 4) aN) e1) | _=>none) | some false=>_ | none=>_)=_
 rw[hx]
 show a0I 4 (Q4 3 (TO [x.d]) [.no,.no,.no,.no,.fz x.d])=_
 rw[ht]
 rfl
theorem b4e(SH TO:List D→Option R1)(XO:Str→Option Bool)(a b c d:D)(h:SH [a,b,c]=some (.ret d)):(X5 5 (Y4 (D9 SH (aC (eV 0) (aC (eV 1) (aC (eV 2) aN))))) (hAs 4 XO (x8 3 TO (aC (eV 4) aN)) hN)) [.fz a,.fz b,.fz c,.fz .non,.no]=some (.nx [.fz a,.fz b,.fz c,.fz .non,.no]):=by
 have e:(Y4 (D9 SH (aC (eV 0) (aC (eV 1) (aC (eV 2) aN))))) [.fz a,.fz b,.fz c,.fz .non,.no]=some (.nx [.fz a,.fz b,.fz c,.fz .non,.no]):=by rw[b2W,h];rfl
 rw[a38,e]
theorem a4k(t:Str)(h1:¬t = "next")(h2:¬t = "first")(h3:¬t = "best"):u6 [.str t]=some (.ret (.tup [.str "word",.int 0])) :=
 b4c _ _ _ (b4d i9 u5 r9 _ "NoPicker" _ (a7w t h1 h2 h3) rfl a7x)
theorem b1q(W:D)(B:D)(t:Str)(h1:¬t = "next")(h2:¬t = "first")(h3:¬t = "best"):o5 [W,B,.str t]=some (.ret (.tup [.str "word",.int 0])) :=
 a8U _ _ _ _ _ _ _ _ _ (b2X B7 u5 r9 _ _ _ (.p "NoPicker") _ (b3x i9 p6 _ _ _ _ _ (a7w t h1 h2 h3)) rfl a7x)
def U0:Option Nat→D
 | none=>.non
 | some k=>.tup [.str "wide",.int (k:Int)]
theorem a7y(W:Int)(L:List Wr)(K:Wk)(hl:L.length<64):o5 [.int W,.lst (L.map wD),.str (wk K)]=some (.ret (U0 (fw W L 0))):=by
 cases h:fw W L 0 with
 | some k=>exact a8U _ _ _ _ _ _ _ _ _ (b2X B7 u5 r9 _ _ _ (xW k) _ (b3y i9 p6 _ _ _ _ _ _ (a5Y K) (b3w W L k h)) rfl (b2V k))
 | none =>
  obtain⟨σ,hσ,hs⟩:=b2O L
  exact a8U _ _ _ _ _ _ _ _ _ (b4e B7 u5 r9 _ _ _ _ (a5Z W L K hl (a5c W L 0 h) σ hσ hs))
def sg1:Str := " !\"#$&'()*+,-./0123456789:;<=>?@ABCDEFGHIJKLMNOPQRSTUVWXYZ[\\]^_`"
def sg2:Str := "abcdefghijklmnopqrstuvwxyz{|}~"
theorem Y0(a b:Str)(ha:a.length≤1000)(hb:b.length≤1000):B2 (.str a) (.str b)=some (.str (a++b)):=by
 show(if _ then _ else _)=_
 rw[if_pos (by show _≤2 ^ 24;omega)]
theorem b2Y(GA GI:D→D→Option D)(z1 z2 z s:Str)(c:Int)(h1:GA (.str z1) (.str z2)=some (.str z))(h2:GI (.str z) (.int (c%94))=some (.str s)):fD 2 1 (g6 (r8 1 (eC (.str z1))) (g6 (r8 1 (eB GA (eV 1) (eC (.str z2)))) (j4 (eB GI (eV 1) (eB p5 (eV 0) (eC (.int 94))))))) [.int c]=some (.ret (.str s)):=by
 walk_at "eh"
theorem b2Z:(sg1++sg2).cps.toList.length=94:=by decide +kernel
theorem a0N(c:Int):∃s:Str,s.length≤1∧z7 [.int c]=some (.ret (.str s)):=by
 obtain⟨k,hk⟩:∃k:Nat,c%94=(k:Int):=⟨(c%94).toNat,by omega⟩
 have kl:k<(sg1++sg2).cps.toList.length:=by rw[b2Z];omega
 refine⟨⟨#[(sg1++sg2).cps.toList[k]]⟩,Nat.le_refl _,b2Y B2 a5S sg1 sg2 (sg1++sg2) _ c ?_ ?_⟩
 ·exact Y0 sg1 sg2 (by decide +kernel) (by decide +kernel)
 ·show(if(sg1++sg2).length≤sizeLine then(atI (sg1++sg2).cps.toList (c%94)).map (fun c=>D.str ⟨#[c]⟩)else none)=_
  rw[if_pos (by decide +kernel),hk,a8D (List.getElem?_eq_getElem kl)]
  rfl
theorem b20(K:Wk)(a:Int)(h0:0≤a)(h1:a≤5):(Txt.slice (wk K) none (some a)).length≤5∧(Txt.slice (wk K) (some a) none).length≤5∧(Txt.slice (wk K) (some (a+1)) none).length≤5:=by
 have:a=0∨a=1∨a=2∨a=3∨a=4∨a=5:=by omega
 rcases this with rfl | rfl | rfl | rfl | rfl | rfl<;>cases K<;>decide +kernel
theorem b21(CE:List D→Option R1)(GX:D→D→Option D)(GL:D→Option D)(R1 R2 R3 R4 R5:ZF)(ns:List Int)(c0 c1 n a kd:Int)(w t:Str)(e':DE)(k0:CE [.scr ns,.int 0]=some (.ret (.int c0)))(k1:CE [.scr ns,.int 1]=some (.ret (.int c1)))(hx:GX (.tup [.str "next",.str "first",.str "best"]) (.int (c0%3))=some (.str w))(hl:GL (.str w)=some (.int n))(hn:0<n+1)(ha:c1%(n+1)=a)(hk:c0/3%6=kd)
  (hR:(kd=1∧R1 [.fz (.scr ns),.fz (.int c0),.fz (.tup [.str "next",.str "first",.str "best"]),.fz (.str w),.fz (.int a),.fz (.int kd)]=some (.ok (.str t) e'))∨(kd=2∧R2 [.fz (.scr ns),.fz (.int c0),.fz (.tup [.str "next",.str "first",.str "best"]),.fz (.str w),.fz (.int a),.fz (.int kd)]=some (.ok (.str t) e'))∨(kd=3∧R3 [.fz (.scr ns),.fz (.int c0),.fz (.tup [.str "next",.str "first",.str "best"]),.fz (.str w),.fz (.int a),.fz (.int kd)]=some (.ok (.str t) e'))∨(kd=4∧R4 [.fz (.scr ns),.fz (.int c0),.fz (.tup [.str "next",.str "first",.str "best"]),.fz (.str w),.fz (.int a),.fz (.int kd)]=some (.ok (.str t) e'))∨(kd=5∧R5 [.fz (.scr ns),.fz (.int c0),.fz (.tup [.str "next",.str "first",.str "best"]),.fz (.str w),.fz (.int a),.fz (.int kd)]=some (.ok (.str t) e'))∨(kd=0∧t=w)):fD 6 1 (g6 (x8 1 CE (aC (eV 0) (aC (eC (.int 0)) aN))) (g6 (r8 2 (eT (aC (eC (.str "next")) (aC (eC (.str "first")) (aC (eC (.str "best")) aN))))) (g6 (r8 3 (eB GX (eV 2) (eB p5 (eV 1) (eC (.int 3))))) (g6 (r8 4 (eB p5 (i7 CE (aC (eV 0) (aC (eC (.int 1)) aN))) (eB N9 (S7 (g1 GL) (aC (eV 3) aN)) (eC (.int 1))))) (g6 (r8 5 (eB p5 (eB z9 (eV 1) (eC (.int 3))) (eC (.int 6)))) (g6 (u3 (bZ (eB (z8 false) (eV 5) (eC (.int 1)))) (j4 R1) u0) (g6 (u3 (bZ (eB (z8 false) (eV 5) (eC (.int 2)))) (j4 R2) u0) (g6 (u3 (bZ (eB (z8 false) (eV 5) (eC (.int 3)))) (j4 R3) u0) (g6 (u3 (bZ (eB (z8 false) (eV 5) (eC (.int 4)))) (j4 R4) u0) (g6 (u3 (bZ (eB (z8 false) (eV 5) (eC (.int 5)))) (j4 R5) u0) (K3 3))))))))))) [.scr ns]=some (.ret (.str t)):=by
 rcases hR with⟨z,h⟩ | ⟨z,h⟩ | ⟨z,h⟩ | ⟨z,h⟩ | ⟨z,h⟩ | ⟨z,rfl⟩<;>rw[z]at hk<;> (try rw[z]at h)<;>walk_at "eh"
theorem b4f(CE SI:List D→Option R1)(GA:D→D→Option D)(Z1 Z2:ZF)(ns:List Int)(c0 c1 a kd:Int)(w s1 s2 s3 t1 t2:Str)(k1:CE [.scr ns,.int 1]=some (.ret (.int c1)))(z1:Z1 [.fz (.scr ns),.fz (.int c0),.fz (.tup [.str "next",.str "first",.str "best"]),.fz (.str w),.fz (.int a),.fz (.int kd)]=some (.ok (.str s1) [.fz (.scr ns),.fz (.int c0),.fz (.tup [.str "next",.str "first",.str "best"]),.fz (.str w),.fz (.int a),.fz (.int kd)]))(z2:Z2 [.fz (.scr ns),.fz (.int c0),.fz (.tup [.str "next",.str "first",.str "best"]),.fz (.str w),.fz (.int a),.fz (.int kd)]=some (.ok (.str s2) [.fz (.scr ns),.fz (.int c0),.fz (.tup [.str "next",.str "first",.str "best"]),.fz (.str w),.fz (.int a),.fz (.int kd)]))(hs:SI [.int (c1/6)]=some (.ret (.str s3)))(a1:GA (.str s1) (.str s3)=some (.str t1))(a2:GA (.str t1) (.str s2)=some (.str t2)):(eB GA (eB GA Z1 (i7 SI (aC (eB z9 (i7 CE (aC (eV 0) (aC (eC (.int 1)) aN))) (eC (.int 6))) aN))) Z2) [.fz (.scr ns),.fz (.int c0),.fz (.tup [.str "next",.str "first",.str "best"]),.fz (.str w),.fz (.int a),.fz (.int kd)]=some (.ok (.str t2) [.fz (.scr ns),.fz (.int c0),.fz (.tup [.str "next",.str "first",.str "best"]),.fz (.str w),.fz (.int a),.fz (.int kd)]):=by
 walk_at "eh"
theorem b22(GA:D→D→Option D)(Z1 Z3:ZF)(ns:List Int)(c0 a kd:Int)(w s1 s2 t1:Str)(z1:Z1 [.fz (.scr ns),.fz (.int c0),.fz (.tup [.str "next",.str "first",.str "best"]),.fz (.str w),.fz (.int a),.fz (.int kd)]=some (.ok (.str s1) [.fz (.scr ns),.fz (.int c0),.fz (.tup [.str "next",.str "first",.str "best"]),.fz (.str w),.fz (.int a),.fz (.int kd)]))(z2:Z3 [.fz (.scr ns),.fz (.int c0),.fz (.tup [.str "next",.str "first",.str "best"]),.fz (.str w),.fz (.int a),.fz (.int kd)]=some (.ok (.str s2) [.fz (.scr ns),.fz (.int c0),.fz (.tup [.str "next",.str "first",.str "best"]),.fz (.str w),.fz (.int a),.fz (.int kd)]))(a1:GA (.str s1) (.str s2)=some (.str t1)):(eB GA Z1 Z3) [.fz (.scr ns),.fz (.int c0),.fz (.tup [.str "next",.str "first",.str "best"]),.fz (.str w),.fz (.int a),.fz (.int kd)]=some (.ok (.str t1) [.fz (.scr ns),.fz (.int c0),.fz (.tup [.str "next",.str "first",.str "best"]),.fz (.str w),.fz (.int a),.fz (.int kd)]):=by
 walk_at "eh"
theorem b4g(CE:List D→Option R1)(GA GX GR:D→D→Option D)(ns:List Int)(c0 c1 a kd:Int)(w s1 s2 t1 t2:Str)(k1:CE [.scr ns,.int 1]=some (.ret (.int c1)))(hr:GR (.str " ") (.int (c1%2))=some (.str s1))(hx:GX (.tup [.str "next",.str "first",.str "best"]) (.int (c1/2%3))=some (.str s2))(a1:GA (.str w) (.str s1)=some (.str t1))(a2:GA (.str t1) (.str s2)=some (.str t2)):(eB GA (eB GA (eV 3) (eB GR (eC (.str " ")) (eB p5 (i7 CE (aC (eV 0) (aC (eC (.int 1)) aN))) (eC (.int 2))))) (eB GX (eV 2) (eB p5 (eB z9 (i7 CE (aC (eV 0) (aC (eC (.int 1)) aN))) (eC (.int 2))) (eC (.int 3))))) [.fz (.scr ns),.fz (.int c0),.fz (.tup [.str "next",.str "first",.str "best"]),.fz (.str w),.fz (.int a),.fz (.int kd)]=some (.ok (.str t2) [.fz (.scr ns),.fz (.int c0),.fz (.tup [.str "next",.str "first",.str "best"]),.fz (.str w),.fz (.int a),.fz (.int kd)]):=by
 walk_at "eh"
abbrev coS:NF:=(T1 1 [] (zN (Q8 0 (oS (eC (.int 4))) (oS (eC (.int 54))))) (g8 0) S9 (i7 z7 (aC (eV 0) aN)))
theorem a5d:∀R:List Str,X8 (R.map D.str)=some R
 | []=>rfl
 | z::R=>by
  show(X8 (R.map D.str)).map (z :: ·)=_
  rw[a5d R]
  rfl
theorem b3z(ns:List Int)(s1 s2 s3 s4 s5:Sl):∃R:List Str,R.length≤50∧(∀z∈R,z.length≤1)∧coS [.fz (.scr ns),s1,s2,s3,s4,s5]=some (.ok (R.map D.str) [.fz (.scr ns),s1,s2,s3,s4,s5]):=by
 let f:Int→Str:=fun c=>(a0N c).choose
 have hf:∀c,z7 [.int c]=some (.ret (.str (f c))):=fun c=>(a0N c).choose_spec.2
 refine⟨((ns.drop 4).take 50).map f,by rw[List.length_map,List.length_take];omega,fun q m=>?_,?_⟩
 ·obtain⟨c,_,rfl⟩:=List.mem_map.mp m
  exact(a0N c).choose_spec.1
 have hc:M4 (ns.map D.int) (some 4) (some 54)=((ns.drop 4).take 50).map D.int:=by
  rw[a47 (by omega) (by omega),show(4:Int).toNat=4 by omega,show((54:Int)-4).toNat=50 by omega,List.map_take,List.map_drop]
 have e0:(zN (Q8 0 (oS (eC (.int 4))) (oS (eC (.int 54))))) [.fz (.scr ns),s1,s2,s3,s4,s5]=some (.ok (.lst (M4 (ns.map D.int) (some 4) (some 54))) [.fz (.scr ns),s1,s2,s3,s4,s5]):=rfl
 unfold coS T1
 rw[e0,hc,J8]
 show r0 (g8 0) S9 (i7 z7 (aC (eV 0) aN)) [.no] [.fz (.scr ns),s1,s2,s3,s4,s5] (((ns.drop 4).take 50).map D.int) []=_
 rw[R7 D.int (fun c=>D.str (f c)) (fun _=>true) ((ns.drop 4).take 50) [] (by rw[List.length_take];show 0+_≤2 ^ 24;omega) (fun c _=>⟨[.fz (.int c)],[.fz (.int c)],rfl,rfl,fun _=>⟨[.fz (.int c)],by show Q3 (z7 [.int c]) _=_;rw[hf];rfl⟩⟩)]
 rw[List.filter_eq_self.mpr (fun _ _=>rfl),List.map_map]
 rfl
theorem a7z:∀R:List Str,(∀z∈R,z.length≤1)→(R.map (·.length)).sum≤R.length
 | [],_=>Nat.le_refl _
 | z::R,h=>by
  rw[List.map_cons,List.sum_cons,List.length_cons]
  have:=h z List.mem_cons_self
  have:=a7z R fun z m=>h z (List.mem_cons_of_mem _ m)
  omega
theorem b3A(ns:List Int)(c0 a kd:Int)(w:Str):∃t,(a3j (eC (.str "")) (zN coS)) [.fz (.scr ns),.fz (.int c0),.fz (.tup [.str "next",.str "first",.str "best"]),.fz (.str w),.fz (.int a),.fz (.int kd)]=some (.ok (.str t) [.fz (.scr ns),.fz (.int c0),.fz (.tup [.str "next",.str "first",.str "best"]),.fz (.str w),.fz (.int a),.fz (.int kd)]):=by
 obtain⟨R,hl,hz,hc⟩:=b3z ns (.fz (.int c0)) (.fz (.tup [.str "next",.str "first",.str "best"])) (.fz (.str w)) (.fz (.int a)) (.fz (.int kd))
 have hs:=a7z R hz
 refine⟨Txt.join "" R,?_⟩
 have e:(zN coS) [.fz (.scr ns),.fz (.int c0),.fz (.tup [.str "next",.str "first",.str "best"]),.fz (.str w),.fz (.int a),.fz (.int kd)]=some (.ok (.lst (R.map D.str)) [.fz (.scr ns),.fz (.int c0),.fz (.tup [.str "next",.str "first",.str "best"]),.fz (.str w),.fz (.int a),.fz (.int kd)]):=by
  unfold zN
  rw[hc]
  rfl
 have e1:(eC (.str "")) [.fz (.scr ns),.fz (.int c0),.fz (.tup [.str "next",.str "first",.str "best"]),.fz (.str w),.fz (.int a),.fz (.int kd)]=some (.ok (.str "") [.fz (.scr ns),.fz (.int c0),.fz (.tup [.str "next",.str "first",.str "best"]),.fz (.str w),.fz (.int a),.fz (.int kd)]):=rfl
 unfold a3j
 rw[e1,J8]
 dsimp only
 rw[e,J8]
 dsimp only[seqL]
 rw[a5d]
 dsimp only
 have h0:Str.length "" = 0:=by decide +kernel
 rw[if_pos (by rw[h0];omega)]
theorem wd3(c:Int):∃K,A0 (.tup [.str "next",.str "first",.str "best"]) (.int (c%3))=some (.str (wk K)):=by
 have:c%3=0∨c%3=1∨c%3=2:=by omega
 rcases this with z | z | z<;>rw[z]
 ·exact⟨.nx,rfl⟩
 ·exact⟨.fi,rfl⟩
 ·exact⟨.be,rfl⟩
theorem V5(K:Wk):(wk K).length≤5∧4≤(wk K).length:=by cases K<;>decide +kernel
theorem b3B(K:Wk):a1L (.str (wk K))=some (.int ((wk K).length:Int)):=by
 show(if _ then _ else _)=_
 rw[if_pos (by have:=(V5 K).1;show _≤2 ^ 24;omega)]
theorem z_1(ns:List Int)(c0 a kd:Int)(K:Wk):(R8 (eV 3) oN (oS (eV 4))) [.fz (.scr ns),.fz (.int c0),.fz (.tup [.str "next",.str "first",.str "best"]),.fz (.str (wk K)),.fz (.int a),.fz (.int kd)]=some (.ok (.str (Txt.slice (wk K) none (some a))) [.fz (.scr ns),.fz (.int c0),.fz (.tup [.str "next",.str "first",.str "best"]),.fz (.str (wk K)),.fz (.int a),.fz (.int kd)]):=by
 show(if(wk K).length≤sizeLine then _ else none)=_
 rw[if_pos (by have:=(V5 K).1;show _≤2 ^ 24;omega)]
theorem z_2(ns:List Int)(c0 a kd:Int)(K:Wk):(R8 (eV 3) (oS (eV 4)) oN) [.fz (.scr ns),.fz (.int c0),.fz (.tup [.str "next",.str "first",.str "best"]),.fz (.str (wk K)),.fz (.int a),.fz (.int kd)]=some (.ok (.str (Txt.slice (wk K) (some a) none)) [.fz (.scr ns),.fz (.int c0),.fz (.tup [.str "next",.str "first",.str "best"]),.fz (.str (wk K)),.fz (.int a),.fz (.int kd)]):=by
 show(if(wk K).length≤sizeLine then _ else none)=_
 rw[if_pos (by have:=(V5 K).1;show _≤2 ^ 24;omega)]
theorem z_3(ns:List Int)(c0 a kd:Int)(K:Wk):(R8 (eV 3) (oS (eB N9 (eV 4) (eC (.int 1)))) oN) [.fz (.scr ns),.fz (.int c0),.fz (.tup [.str "next",.str "first",.str "best"]),.fz (.str (wk K)),.fz (.int a),.fz (.int kd)]=some (.ok (.str (Txt.slice (wk K) (some (a+1)) none)) [.fz (.scr ns),.fz (.int c0),.fz (.tup [.str "next",.str "first",.str "best"]),.fz (.str (wk K)),.fz (.int a),.fz (.int kd)]):=by
 show(if(wk K).length≤sizeLine then _ else none)=_
 rw[if_pos (by have:=(V5 K).1;show _≤2 ^ 24;omega)]
theorem z_4(ns:List Int)(c0 a kd:Int)(K:Wk)(h:(Txt.slice (wk K) none (some a)).length≤5):(a0m (R8 (eV 3) oN (oS (eV 4)))) [.fz (.scr ns),.fz (.int c0),.fz (.tup [.str "next",.str "first",.str "best"]),.fz (.str (wk K)),.fz (.int a),.fz (.int kd)]=some (.ok (.str (Txt.upper (Txt.slice (wk K) none (some a)))) [.fz (.scr ns),.fz (.int c0),.fz (.tup [.str "next",.str "first",.str "best"]),.fz (.str (wk K)),.fz (.int a),.fz (.int kd)]):=by
 unfold a0m
 rw[z_1,J8]
 dsimp only
 rw[if_pos (by omega)]
theorem b3C(c:Int):∃s:Str,s.length≤1∧a0L (.str " ") (.int (c%2))=some (.str s):=by
 have:c%2=0∨c%2=1:=by omega
 rcases this with z | z<;>rw[z]
 ·exact⟨W0 " " 0,by decide +kernel,by show(if Str.length " "≤1000∧-1000000000≤(0:Int)∧(0:Int)≤10000 then some (D.str (W0 " " 0))else none)=_;rw[if_pos (by decide +kernel)]⟩
 ·exact⟨W0 " " 1,by decide +kernel,by show(if Str.length " "≤1000∧-1000000000≤(1:Int)∧(1:Int)≤10000 then some (D.str (W0 " " 1))else none)=_;rw[if_pos (by decide +kernel)]⟩
theorem a5e(a b:Str):(a++b).length=a.length+b.length:=by
 show(a.cps++b.cps).size=_
 rw[Array.size_append]
 rfl
theorem b1r(ns:List Int):∃t:Str,C8 [.scr ns]=some (.ret (.str t)):=by
 obtain⟨K,hK⟩:=wd3 (m4 ns 0)
 obtain⟨l5,l4⟩:=V5 K
 obtain⟨a,ha⟩:∃a,m4 ns 1%(((wk K).length:Int)+1)=a:=⟨_,rfl⟩
 have a0:0≤a:=by rw[← ha];exact Int.emod_nonneg _ (by omega)
 have a5:a≤5:=by
  have:=Int.emod_lt_of_pos (m4 ns 1) (b:=((wk K).length:Int)+1) (by omega)
  omega
 obtain⟨s1,s2,s3⟩:=b20 K a a0 a5
 obtain⟨kd,hk⟩:∃kd,m4 ns 0/3%6=kd:=⟨_,rfl⟩
 have go:∀(t:Str) (e':DE),_→∃t:Str,C8 [.scr ns]=some (.ret (.str t)):=fun t e' h=>⟨t,b21 k8 A0 a1L _ _ _ _ _ ns (m4 ns 0) (m4 ns 1) _ a kd (wk K) t e' (J6 (by omega)) (J6 (by omega)) hK (b3B K) (by omega) ha hk h⟩
 have:kd=0∨kd=1∨kd=2∨kd=3∨kd=4∨kd=5:=by omega
 rcases this with z | z | z | z | z | z
 ·exact go _ [] (.inr (.inr (.inr (.inr (.inr ⟨z,rfl⟩)))))
 ·obtain⟨s,hs,he⟩:=a0N (m4 ns 1/6)
  exact go _ _ (.inl ⟨z,b4f k8 z7 B2 _ _ ns (m4 ns 0) (m4 ns 1) a kd (wk K) _ _ s _ _ (J6 (by omega)) (z_1 ns _ a kd K) (z_2 ns _ a kd K) he (Y0 _ _ (by omega) (by omega)) (Y0 _ _ (by rw[a5e];omega) (by omega))⟩)
 ·exact go _ _ (.inr (.inl ⟨z,b22 B2 _ _ ns (m4 ns 0) a kd (wk K) _ _ _ (z_1 ns _ a kd K) (z_3 ns _ a kd K) (Y0 _ _ (by omega) (by omega))⟩))
 ·have:=PyProof.Rows.len_upper (Txt.slice (wk K) none (some a))
  exact go _ _ (.inr (.inr (.inl ⟨z,b22 B2 _ _ ns (m4 ns 0) a kd (wk K) _ _ _ (z_4 ns _ a kd K s1) (z_2 ns _ a kd K) (Y0 _ _ (by omega) (by omega))⟩)))
 ·obtain⟨s,hs,he⟩:=b3C (m4 ns 1)
  obtain⟨K2,hK2⟩:=wd3 (m4 ns 1/2)
  have:=(V5 K2).1
  exact go _ _ (.inr (.inr (.inr (.inl ⟨z,b4g k8 B2 A0 a0L ns (m4 ns 0) (m4 ns 1) a kd (wk K) s _ _ _ (J6 (by omega)) he hK2 (Y0 _ _ (by omega) (by omega)) (Y0 _ _ (by rw[a5e];omega) (by omega))⟩))))
 ·obtain⟨t,ht⟩:=b3A ns (m4 ns 0) a kd (wk K)
  exact go _ _ (.inr (.inr (.inr (.inr (.inl ⟨z,ht⟩)))))
abbrev wdB(GP:D→D→Option D):SF:=(g6 (u3 (a07 (bZ (eB (z8 false) (eB p5 (eV 0) (eC (.int 2))) (eC (.int 0)))) (bZ (eB gGt (D7 A1 1) (eC (.int 0))))) (j4 (eB W6 (eB A0 (G1 A9 1 (eB p5 (eB z9 (eV 0) (eC (.int 2))) (D7 A1 1))) (eC (.int 0))) (eB p5 (eB z9 (eV 0) (eC (.int 6))) (eC (.int 2))))) u0) (g6 (u3 (bZ (eB (z8 false) (eB p5 (eV 0) (eC (.int 4))) (eC (.int 1)))) (j4 (eB p5 (eB z9 (eV 0) (eC (.int 4))) (eB N9 (eB GP (eC (.int 10)) (eC (.int 40))) (eC (.int 1))))) u0) (j4 (eB p5 (eB z9 (eV 0) (eC (.int 4))) (eC (.int 10))))))
theorem b4h(GP:D→D→Option D)(c k w h:Int)(t:Bool)(B:List D)(z:c%2=0)(hl:0<(B.length:Int))(hk:c/2%(B.length:Int)=k)(a:atI B k=some (.tup [.int w,.int h,.bl t])):fD 2 2 (wdB GP) [.int c,.lst B]=some (.ret (.int (w-c/6%2))):=by
 unfold wdB
 walk_at "eh"
theorem b4i(GP:D→D→Option D)(c X:Int)(B:List D)(z:¬c%2=0)(z2:c%4=1)(hp:GP (.int 10) (.int 40)=some (.int X))(hX:0<X+1):fD 2 2 (wdB GP) [.int c,.lst B]=some (.ret (.int (c/4%(X+1)))):=by
 unfold wdB
 walk_at "eh"
theorem b4j(GP:D→D→Option D)(c:Int)(B:List D)(z:¬c%2=0)(z2:¬c%4=1):fD 2 2 (wdB GP) [.int c,.lst B]=some (.ret (.int (c/4%10))):=by
 unfold wdB
 walk_at "eh"
theorem b4k(GP:D→D→Option D)(c:Int)(B:List D)(z:c%2=0)(hl:¬0<(B.length:Int))(z2:¬c%4=1):fD 2 2 (wdB GP) [.int c,.lst B]=some (.ret (.int (c/4%10))):=by
 unfold wdB
 walk_at "eh"
theorem a8V(c:Int)(L:List Wr):∃W:Int,B8 [.int c,.lst (L.map wD)]=some (.ret (.int W)):=by
 by_cases z:c%2=0
 ·by_cases hl:0<((L.map wD).length:Int)
  ·obtain⟨k,hk⟩:∃k:Nat,c/2%((L.map wD).length:Int)=(k:Int):=⟨_,(Int.toNat_of_nonneg (Int.emod_nonneg _ (by omega))).symm⟩
   have kl:k<L.length:=by
    have:=Int.emod_lt_of_pos (c/2) hl
    rw[hk,List.length_map]at this
    omega
   exact⟨_,b4h W7 c k _ _ _ _ z hl hk (a5X kl)⟩
  ·exact⟨_,b4k W7 c _ z hl (by omega)⟩
 ·by_cases z2:c%4=1
  ·obtain⟨B,hB,eB⟩:=big
   exact⟨_,b4i W7 c B _ z z2 hB (by omega)⟩
  ·exact⟨_,b4j W7 c _ z z2⟩
theorem a7A(W:Int)(q:Wr):∀(l:List Wr) (n:Nat),fw W (l++[q]) n=match fw W l n with | some k=>some k | none=>if W<q.1 then some (n+l.length)else none
 | [],n=>by show(if W<q.1 then some n else none)=_;rfl
 | x::l,n=>by
  show(if W<x.1 then some n else fw W (l++[q]) (n+1))=match(if W<x.1 then some n else fw W l (n+1))with | some k=>some k | none=>if W<q.1 then some (n+(l.length+1))else none
  by_cases z:W<x.1
  ·rw[if_pos z,if_pos z]
  ·rw[if_neg z,if_neg z,a7A W q l (n+1)]
   cases fw W l (n+1)with
   | some k=>rfl
   | none =>
    show(if W<q.1 then some (n+1+l.length)else none)=if W<q.1 then some (n+(l.length+1))else none
    rw[show n+1+l.length=n+(l.length+1) by omega]
abbrev lpB(GN:D→D→Option D):SF:=(g6 (u3 (a07 (bZ (eB GN (eV 5) (eC .non))) (bZ (eB gGt (eB A0 (G1 A9 2 (eV 7)) (eC (.int 0))) (eV 3)))) (r8 5 (eT (aC (eC (.str "wide")) (aC (eV 7) aN)))) u0) (r8 6 (S7 a1T (aC (eV 6) (aC (eB A0 (G1 A9 2 (eV 7)) (eC (.int 0))) aN)))))
theorem a8W(GN:D→D→Option D)(ns:List Int)(t:D)(B:List D)(W m k w h:Int)(f:Bool)(d d':D)(b:Bool)(a:atI B k=some (.tup [.int w,.int h,.bl f]))(g:GN d .non=some (.bl b))(hd:(b=true∧W<w∧d'=.tup [.str "wide",.int k])∨(b=true∧¬W<w∧d'=d)∨(b=false∧d'=d)):lpB GN [.fz (.scr ns),.fz t,.fz (.lst B),.fz (.int W),.ow B,.fz d,.fz (.int m),.fz (.int k)]=some (.nx [.fz (.scr ns),.fz t,.fz (.lst B),.fz (.int W),.ow B,.fz d',.fz (.int (if w > m then w else m)),.fz (.int k)]):=by
 unfold lpB
 rcases hd with⟨rfl,z,rfl⟩ | ⟨rfl,z,rfl⟩ | ⟨rfl,rfl⟩<;>walk_at "eh"
theorem b3D(ns:List Int)(t:D)(W:Int)(L:List Wr):∃(M:Int) (o7:Option D),(∀q∈L,q.1≤M)∧m9 (g8 7) (lpB (J0 false)) ((List.range L.length).map fun(k:Nat)=>D.int (k:Int)) [.fz (.scr ns),.fz t,.fz (.lst (L.map wD)),.fz (.int W),.ow (L.map wD),.fz .non,.fz (.int 0),.no]=some (.nx [.fz (.scr ns),.fz t,.fz (.lst (L.map wD)),.fz (.int W),.ow (L.map wD),.fz (U0 (fw W L 0)),.fz (.int M),un o7]):=by
 obtain⟨e',f,M,o7,hM,rfl⟩:=a46 (b:=g8 7) (body:=lpB (J0 false)) (fun(k:Nat)=>D.int (k:Int)) (fun pre e=>∃(M:Int) (o7:Option D),(∀q∈L.take pre.length,q.1≤M)∧e=[.fz (.scr ns),.fz t,.fz (.lst (L.map wD)),.fz (.int W),.ow (L.map wD),.fz (U0 (fw W (L.take pre.length) 0)),.fz (.int M),un o7]) (List.range L.length) [.fz (.scr ns),.fz t,.fz (.lst (L.map wD)),.fz (.int W),.ow (L.map wD),.fz .non,.fz (.int 0),.no] ⟨0,none,(fun q m=>by cases m),rfl⟩ (by
  rintro pre k post e hq ⟨M,o7,hM,rfl⟩
  have hk:k=pre.length∧k<L.length:=by
   have e1:(List.range L.length)[pre.length]? = some k:=by rw[hq];simp
   have e2:=List.getElem?_eq_some_iff.mp e1
   obtain⟨h1,h2⟩:=e2
   rw[List.getElem_range]at h2
   rw[List.length_range]at h1
   omega
  obtain⟨hk1,hk2⟩:=hk
  have hb:g8 7 (.int (k:Int)) [.fz (.scr ns),.fz t,.fz (.lst (L.map wD)),.fz (.int W),.ow (L.map wD),.fz (U0 (fw W (L.take pre.length) 0)),.fz (.int M),un o7]=some [.fz (.scr ns),.fz t,.fz (.lst (L.map wD)),.fz (.int W),.ow (L.map wD),.fz (U0 (fw W (L.take pre.length) 0)),.fz (.int M),.fz (.int (k:Int))]:=by cases o7<;>rfl
  rw[hb,y2]
  have tk:L.take (pre++[k]).length=L.take pre.length++[gq L k]:=by
   rw[List.length_append,List.length_singleton,List.take_succ,← hk1,List.getElem?_eq_getElem hk2]
   unfold gq
   rw[List.getD_eq_getElem?_getD,List.getElem?_eq_getElem hk2]
   rfl
  have ln:(L.take pre.length).length=k:=by rw[List.length_take];omega
  rw[tk,a7A,ln]
  have a:=a5X hk2
  have tail:∀M':Int,M'=(if(gq L k).1 > M then(gq L k).1 else M)→∀q∈L.take pre.length++[gq L k],q.1≤M':=by
   intro M' hM' q m
   rcases List.mem_append.mp m with m | m
   ·have:=hM q m
    rw[hM'];split<;>omega
   ·rw[List.mem_singleton.mp m,hM'];split<;>omega
  cases hf:fw W (L.take pre.length) 0 with
  | some j=>exact⟨_,(congrArg A2 (a8W (J0 false) ns t _ W M k _ _ _ _ _ false a rfl (.inr (.inr ⟨rfl,rfl⟩)))).trans rfl,_,some (.int (k:Int)),tail _ rfl,rfl⟩
  | none =>
   by_cases z:W<(gq L k).1
   ·refine⟨_,(congrArg A2 (a8W (J0 false) ns t _ W M k _ _ _ _ _ true a rfl (.inl ⟨rfl,z,rfl⟩))).trans rfl,_,some (.int (k:Int)),tail _ rfl,?_⟩
    show _=[_,_,_,_,_,Sl.fz (U0 (if W<(gq L k).1 then some (0+k)else none)),_,_]
    rw[if_pos z,Nat.zero_add]
    rfl
   ·refine⟨_,(congrArg A2 (a8W (J0 false) ns t _ W M k _ _ _ _ _ true a rfl (.inr (.inl ⟨rfl,z,rfl⟩)))).trans rfl,_,some (.int (k:Int)),tail _ rfl,?_⟩
    show _=[_,_,_,_,_,Sl.fz (U0 (if W<(gq L k).1 then some (0+k)else none)),_,_]
    rw[if_neg z]
    rfl)
 rw[List.length_range,List.take_length]at *
 exact⟨M,o7,hM,f⟩
theorem a9E(TX WI CE NP RF SO:List D→Option R1)(NC NS:NF)(LP:SF)(GO:List D→Option D)(GI GE0 GE1:D→D→Option D)(ns:List Int)(t:Str)(B0 B:List D)(s2:Sl)(c2 W M:Int)(d ob:D)(o7:Option D)(k2:CE [.scr ns,.int 2]=some (.ret (.int c2)))(h1:TX [.scr ns]=some (.ret (.str t)))(h2:NC [.fz (.scr ns),.fz (.str t),.no,.no,.no,.no,.no,.no]=some (.ok B0 [.fz (.scr ns),.fz (.str t),.no,.no,.no,.no,.no,.no]))(h3:NS [.fz (.scr ns),.fz (.str t),.ow B0,.no,.no,.no,.no,.no]=some (.ok B [.fz (.scr ns),.fz (.str t),s2,.no,.no,.no,.no,.no]))(hs2:s2=.ow B0∨s2=.fz (.lst B0))(h4:WI [.int c2,.lst B]=some (.ret (.int W)))(hB:B.length≤sizeLine)
  (hh:(GI (.str t) (.tup [.str "next",.str "first",.str "best"])=some (.bl true)∧NP [.str t]=some (.ret (.tup [.str "word",.int 0]))∧RF [.int W,.lst B,.str t]=some (.ret (.tup [.str "word",.int 0]))∧GE0 (.tup [.str "word",.int 0]) (.tup [.str "word",.int 0])=some (.bl true)) ∨
   (GI (.str t) (.tup [.str "next",.str "first",.str "best"])=some (.bl false)∧LP [.fz (.scr ns),.fz (.str t),.fz (.lst B),.fz (.int W),.ow B,.fz .non,.fz (.int 0),.no]=some (.nx [.fz (.scr ns),.fz (.str t),.fz (.lst B),.fz (.int W),.ow B,.fz d,.fz (.int M),un o7])∧SO [.str t]=some (.ret ob)∧GO [ob,.cls "Shelver"]=some (.bl true)∧RF [.int W,.lst B,.str t]=some (.ret d)∧GE1 d d=some (.bl false)∧RF [.int M,.lst B,.str t]=some (.ret .non)∧GE0 d d=some (.bl true)∧GE0 (.lst B) (.lst B)=some (.bl true))) :
  fD 8 1 (g6 (x8 1 TX (aC (eV 0) aN)) (g6 (A6 2 NC) (g6 (A6 2 NS) (g6 (x8 3 WI (aC (i7 CE (aC (eV 0) (aC (eC (.int 2)) aN))) (aC (eV 2) aN))) (g6 (A6 4 (nCV S8 2)) (g6 (u3 (bZ (eB GI (eV 1) (eT (aC (eC (.str "next")) (aC (eC (.str "first")) (aC (eC (.str "best")) aN)))))) (j4 (a08 (eB GE0 (i7 NP (aC (eV 1) aN)) (eT (aC (eC (.str "word")) (aC (eC (.int 0)) aN)))) (eB GE0 (i7 RF (aC (eV 3) (aC (eV 4) (aC (eV 1) aN)))) (eT (aC (eC (.str "word")) (aC (eC (.int 0)) aN)))))) u0) (g6 (r8 5 (eC .non)) (g6 (r8 6 (eC (.int 0))) (g6 LP (g6 (u3 (bOr (a2m (bZ (S7 GO (aC (D9 SO (aC (eV 1) aN)) (aC (eC (.cls "Shelver")) aN))))) (bZ (eB GE1 (i7 RF (aC (eV 3) (aC (eV 4) (aC (eV 1) aN)))) (eV 5)))) (j4 (eC (.bl false))) u0) (g6 (u3 (bZ (eB (J0 true) (i7 RF (aC (eV 6) (aC (eV 4) (aC (eV 1) aN)))) (eC .non))) (j4 (eC (.bl false))) u0) (j4 (a08 (eB GE0 (i7 RF (aC (eV 3) (aC (eV 4) (aC (eV 1) aN)))) (eV 5)) (a3O GE0 4 2)))))))))))))) [.scr ns]=some (.ret (.bl true)):=by
 rcases hs2 with rfl | rfl<;>rcases hh with⟨a1,a2,a3,a4⟩ | ⟨a1,a2,a3,a4,a5,a6,a7,a8,a9⟩<;> (try cases o7)<;> (try simp only[un]at a2)<;>walk_at "eh"
theorem b3E(m:Nat):O0 0 m=(List.range m).map fun(k:Nat)=>D.int (k:Int):=by
 unfold O0
 refine List.map_congr_left fun k _=>?_
 rw[Int.zero_add]
abbrev ncW:NF:=(T1 1 [] (zN (Q8 0 (oS (eC (.int 4))) (oS (eC (.int 64))))) (g8 0) S9 (i7 B1 (aC (eV 0) aN)))
theorem b3F(ns:List Int)(t:D):∃L:List Wr,L.length≤60∧ncW [.fz (.scr ns),.fz t,.no,.no,.no,.no,.no,.no]=some (.ok (L.map wD) [.fz (.scr ns),.fz t,.no,.no,.no,.no,.no,.no]):=by
 let f:Int→Wr:=fun c=>(a5b c).choose
 have hf:∀c,B1 [.int c]=some (.ret (wD (f c))):=fun c=>(a5b c).choose_spec.2
 refine⟨((ns.drop 4).take 60).map f,by rw[List.length_map,List.length_take];omega,?_⟩
 have hc:M4 (ns.map D.int) (some 4) (some 64)=((ns.drop 4).take 60).map D.int:=by
  rw[a47 (by omega) (by omega),show(4:Int).toNat=4 by omega,show((64:Int)-4).toNat=60 by omega,List.map_take,List.map_drop]
 have e0:(zN (Q8 0 (oS (eC (.int 4))) (oS (eC (.int 64))))) [.fz (.scr ns),.fz t,.no,.no,.no,.no,.no,.no]=some (.ok (.lst (M4 (ns.map D.int) (some 4) (some 64))) [.fz (.scr ns),.fz t,.no,.no,.no,.no,.no,.no]):=rfl
 unfold ncW T1
 rw[e0,hc,J8]
 show r0 (g8 0) S9 (i7 B1 (aC (eV 0) aN)) [.no] [.fz (.scr ns),.fz t,.no,.no,.no,.no,.no,.no] (((ns.drop 4).take 60).map D.int) []=_
 rw[R7 D.int (fun c=>wD (f c)) (fun _=>true) ((ns.drop 4).take 60) [] (by rw[List.length_take];show 0+_≤2 ^ 24;omega) (fun c _=>⟨[.fz (.int c)],[.fz (.int c)],rfl,rfl,fun _=>⟨[.fz (.int c)],by show Q3 (B1 [.int c]) _=_;rw[hf];rfl⟩⟩)]
 rw[List.filter_eq_self.mpr (fun _ _=>rfl),List.map_map]
 rfl
theorem a9F(CE:List D→Option R1)(ns:List Int)(t:D)(c3:Int)(B0 B:List D)(k3:CE [.scr ns,.int 3]=some (.ret (.int c3)))(hB:M4 B0 none (some (c3%61))=B):(Q8 2 oN (oS (eB p5 (i7 CE (aC (eV 0) (aC (eC (.int 3)) aN))) (eC (.int 61))))) [.fz (.scr ns),.fz t,.ow B0,.no,.no,.no,.no,.no]=some (.ok B [.fz (.scr ns),.fz t,.ow B0,.no,.no,.no,.no,.no]):=by
 walk_at "eh"
theorem a5f(neg:Bool)(o:Option Nat):L3 neg (U0 o) (U0 o)=some (.bl (!neg)):=by
 cases o with
 | none=>cases neg<;>rfl
 | some k =>
  show a0g neg (.tup [.str "wide",.int (k:Int)]) (.tup [.str "wide",.int (k:Int)])=_
  exact a2U neg rfl (by simp[K6,C5]) rfl
theorem b3G(t:Str):gIn true (.str t) (.tup [.str "next",.str "first",.str "best"])=some (.bl (!(decide (("next" : Str)=t) || (decide (("first" : Str)=t) || (decide (("best" : Str)=t) || false))))):=rfl
theorem main(ns:List Int)(hl:ns.length≤63)(hb:∀m∈ns,Builtin.Int.intBits m≤2 ^ 20):a9x [.scr ns]=some (.ret (.bl true)):=by
 obtain⟨t,ht⟩:=b1r ns
 obtain⟨L0,hL0,hc⟩:=b3F ns (.str t)
 obtain⟨L,hL⟩:∃L,L=L0.take (m4 ns 3%61).toNat:=⟨_,rfl⟩
 have lL:L.length≤60:=by rw[hL,List.length_take];omega
 have hcut:M4 (L0.map wD) none (some (m4 ns 3%61))=L.map wD:=by
  rw[a8C (by omega),hL,List.map_take]
 obtain⟨W,hW⟩:=a8V (m4 ns 2) L
 have sl:(L.map wD).length≤sizeLine:=by rw[List.length_map];show _≤2 ^ 24;omega
 have gi:=b3G t
 by_cases z:t = "next"∨t = "first"∨t = "best"
 ·obtain⟨K,hK⟩:∃K,t=wk K:=by
   rcases z with z | z | z
   ·exact⟨.nx,z⟩
   ·exact⟨.fi,z⟩
   ·exact⟨.be,z⟩
  obtain⟨M,o7,hM,lp⟩:=b3D ns (.str t) W L
  have e0:(aC (D7 A1 2) aN) [.fz (.scr ns),.fz (.str t),.fz (.lst (L.map wD)),.fz (.int W),.ow (L.map wD),.fz .non,.fz (.int 0),.no]=some (.ok [.int ((L.map wD).length:Int)] [.fz (.scr ns),.fz (.str t),.fz (.lst (L.map wD)),.fz (.int W),.ow (L.map wD),.fz .non,.fz (.int 0),.no]):=rfl
  rw[List.length_map]at e0
  refine a9E C8 B8 k8 u6 o5 i9 _ _ _ (a1X xi) (gIn true) (L3 false) (L3 true) ns t (L0.map wD) (L.map wD) (.ow (L0.map wD)) (m4 ns 2) W M (U0 (fw W L 0)) (Ob K) o7 (J6 (by omega)) ht hc (a9F k8 ns (.str t) (m4 ns 3) _ _ (J6 (by omega)) hcut) (.inl rfl) hW sl (.inr ⟨?_,?_,?_,?_,?_,a5f true _,?_,a5f false _,?_⟩)
  ·rw[gi]
   rcases z with z | z | z<;>subst z<;>exact congrArg (fun b=>some (D.bl b)) (by decide +kernel)
  ·refine(b1k e0 (b2K (by omega))).trans ?_
   rw[b3E]
   exact lp
  ·rw[hK];exact a5Y K
  ·cases K<;>rfl
  ·rw[hK];exact a7y W L K (by omega)
  ·have:=a7y M L K (by omega)
   rw[a9B M L 0 hM]at this
   rw[hK];exact this
  ·exact b2U L
 ·have z1:¬t = "next" := fun e=>z (.inl e)
  have z2:¬t = "first" := fun e=>z (.inr (.inl e))
  have z3:¬t = "best" := fun e=>z (.inr (.inr e))
  refine a9E C8 B8 k8 u6 o5 i9 _ _ _ (a1X xi) (gIn true) (L3 false) (L3 true) ns t (L0.map wD) (L.map wD) (.ow (L0.map wD)) (m4 ns 2) W 0 .non .non none (J6 (by omega)) ht hc (a9F k8 ns (.str t) (m4 ns 3) _ _ (J6 (by omega)) hcut) (.inl rfl) hW sl (.inl ⟨?_,a4k t z1 z2 z3,b1q _ _ t z1 z2 z3,rfl⟩)
  rw[gi,decide_eq_false (fun e=>z1 e.symm),decide_eq_false (fun e=>z2 e.symm),decide_eq_false (fun e=>z3 e.symm)]
  rfl
def a15(K:PySem.W.Frag)(c:Str→Addr):Sp:=fun vs H Q _=>∃a,∃ns:List Int,vs=[.ref a]∧Scr K H a (ns.map V.int)∧(∀m∈ns,Builtin.Int.intBits m≤2 ^ 20)∧ns.length≤63∧∀H',Q (.bl true) H'
theorem b24{TB:List (Addr×Str)}{f:Addr}{fd:FuncData}(F:Fun K "law" "law" G8 f fd)(T:Txt K mg c)(G_l_text:Own P w K mg base 5 "_law_text" ["_law_script"] (i3 K c C8))(G_l_ware:Own P w K mg base 5 "_law_ware" ["_law_cell_here"] (i3 K c B1))(G_l_cell:Own P w K mg base 3 "_law_cell" ["_law_script","_law_k"] (i3 K c k8))(G_l_width:Own P w K mg base 3 "_law_width" ["_law_cell_here","_law_wares"] (i3 K c B8))(G_l_refusal:Own P w K mg base 9 "_law_refusal" ["_law_width_here","_law_wares","_law_text_here"] (L7 TB (i3 K c o5)))(G_l_no_picker:Own P w K mg base 7 "_law_no_picker" ["_law_text_here"] (i3 K c u6))(G_shelver_of:Own P w K mg base 3 "shelver_of" ["word"] (i3 K c i9)):FnOk P w K mg base (n4 P w) 11 f fd ["_law_script"] (L7 TB (a15 K c)) :=
 (b1i F T G_l_text G_l_ware G_l_cell G_l_width G_l_refusal G_l_no_picker G_shelver_of ).imp fun vs H Q E ⟨hT,a,ns,e,h,hb,hl,q⟩=>⟨hT,b0g e h q (main ns hl hb)⟩
def cOf(l:List (Str×Addr))(x:Str):Addr:=(l.lookup x).getD 0
abbrev cL(c0 c1 c2 c3 c4 c5 c6 c7 c8 c9 c10 c11 c12 c13 c14 c15 c16 c17 c18 c19 c20:Addr):=cOf [("BadPacking",c0),("BadPlan",c1),("BadSide",c2),("BadTurn",c3),("BestShelver",c4),("CrateError",c5),("FirstShelver",c6),("Full",c7),("Hangs",c8),("NoDeed",c9),("NoDrawing",c10),("NoPicker",c11),("NoSheet",c12),("NoText",c13),("NoWare",c14),("NoWeighing",c15),("NothingDone",c16),("Ring",c17),("Shelver",c18),("TooMany",c19),("TooWide",c20)]
theorem all_mk{w:World}{K:PySem.W.Frag}{h:Heap}{mg:Str→Option Value}{fa:Addr}(X:K.In h)(G:h.Ns mainGlobals mg)(hfa:mg "law" = some (.ref fa)){q:Program}{loose:List Str}{mean:ExcName→Option Value}{mb:Str→Option Value}(Tp:PyProof.Rows.Top q loose mean mg mb h)
  {c0 c1 c2 c3 c4 c5 c6 c7 c8 c9 c10 c11 c12 c13 c14 c15 c16 c17 c18 c19 c20:Addr} {f_1:Addr} {oc_1 kV_1 dc_1 pm_1 cd_1 ct_1:Value} {od_1 an_1:Option Addr} {sl_1:Array (Option Value)} {f_2:Addr} {oc_2 kV_2 dc_2 pm_2 cd_2 ct_2:Value} {od_2 an_2:Option Addr} {sl_2:Array (Option Value)} {f_3:Addr} {oc_3 kV_3 dc_3 pm_3 cd_3 ct_3:Value} {od_3 an_3:Option Addr} {sl_3:Array (Option Value)} {f_4:Addr} {oc_4 kV_4 dc_4 pm_4 cd_4 ct_4:Value} {od_4 an_4:Option Addr} {sl_4:Array (Option Value)} {f_5:Addr} {oc_5 kV_5 dc_5 pm_5 cd_5 ct_5:Value} {od_5 an_5:Option Addr} {sl_5:Array (Option Value)} {f_6:Addr} {oc_6 kV_6 dc_6 pm_6 cd_6 ct_6:Value} {od_6 an_6:Option Addr} {sl_6:Array (Option Value)} {f_18:Addr} {oc_18 kV_18 dc_18 pm_18 cd_18 ct_18:Value} {od_18 an_18:Option Addr} {sl_18:Array (Option Value)} {dT_shelved:Addr} {doc_shelved:Value} {dod_shelved:Option Addr} {dn_shelved:Nat} {dsl_shelved:Array (Option Value)} {dtok_shelved:Tok} {f_7:Addr} {oc_7 kV_7 dc_7 pm_7 cd_7 ct_7:Value} {od_7 an_7:Option Addr} {sl_7:Array (Option Value)} {f_8:Addr} {oc_8 kV_8 dc_8 pm_8 cd_8 ct_8:Value} {od_8 an_8:Option Addr} {sl_8:Array (Option Value)} {f_9:Addr} {oc_9 kV_9 dc_9 pm_9 cd_9 ct_9:Value} {od_9 an_9:Option Addr} {sl_9:Array (Option Value)} {f_10:Addr} {oc_10 kV_10 dc_10 pm_10 cd_10 ct_10:Value} {od_10 an_10:Option Addr} {sl_10:Array (Option Value)} {f_11:Addr} {oc_11 kV_11 dc_11 pm_11 cd_11 ct_11:Value} {od_11 an_11:Option Addr} {sl_11:Array (Option Value)} {f_12:Addr} {oc_12 kV_12 dc_12 pm_12 cd_12 ct_12:Value} {od_12 an_12:Option Addr} {sl_12:Array (Option Value)} {f_13:Addr} {oc_13 kV_13 dc_13 pm_13 cd_13 ct_13:Value} {od_13 an_13:Option Addr} {sl_13:Array (Option Value)} {f_14:Addr} {oc_14 kV_14 dc_14 pm_14 cd_14 ct_14:Value} {od_14 an_14:Option Addr} {sl_14:Array (Option Value)} {f_15:Addr} {oc_15 kV_15 dc_15 pm_15 cd_15 ct_15:Value} {od_15 an_15:Option Addr} {sl_15:Array (Option Value)} {f_16:Addr} {oc_16 kV_16 dc_16 pm_16 cd_16 ct_16:Value} {od_16 an_16:Option Addr} {sl_16:Array (Option Value)} {f_17:Addr} {oc_17 kV_17 dc_17 pm_17 cd_17 ct_17:Value} {od_17 an_17:Option Addr} {sl_17:Array (Option Value)} {f_0:Addr} {oc_0 kV_0 dc_0 pm_0 cd_0 ct_0:Value} {od_0 an_0:Option Addr} {sl_0:Array (Option Value)} {cc_by_height Pt_by_height:Addr} {oq_by_height:Value} {oe_by_height:Option Addr} {vs_by_height:Array Value} {sm_by_height:Array (Option Value)}
  (a_1:PySem.W.nsIn K mainGlobals "by_height" = some (some (.ref f_1)))
  (l_1:K.lookup f_1=some ⟨oc_1,od_1,.func (PySem.W.fnOf "by_height" "by_height" (j6 y3) (i4 y3) (b9 y3) .none kV_1 dc_1 pm_1 an_1 cd_1 ct_1),sl_1⟩)
  (c_1:PySem.W.codeIn K cd_1 "by_height" = true)
  (k_1:PySem.W.keepIn K (.ref f_1)=true)
  (a_2:PySem.W.nsIn K mainGlobals "shelver_of" = some (some (.ref f_2)))
  (l_2:K.lookup f_2=some ⟨oc_2,od_2,.func (PySem.W.fnOf "shelver_of" "shelver_of" (j6 B5) (i4 B5) (b9 B5) .none kV_2 dc_2 pm_2 an_2 cd_2 ct_2),sl_2⟩)
  (c_2:PySem.W.codeIn K cd_2 "shelver_of" = true)
  (k_2:PySem.W.keepIn K (.ref f_2)=true)
  (a_3:PySem.W.nsIn K mainGlobals "check_widths" = some (some (.ref f_3)))
  (l_3:K.lookup f_3=some ⟨oc_3,od_3,.func (PySem.W.fnOf "check_widths" "check_widths" (j6 y6) (i4 y6) (b9 y6) .none kV_3 dc_3 pm_3 an_3 cd_3 ct_3),sl_3⟩)
  (c_3:PySem.W.codeIn K cd_3 "check_widths" = true)
  (k_3:PySem.W.keepIn K (.ref f_3)=true)
  (a_4:PySem.W.findIn K (.ref c18) "pick" = some (some (.ref f_4)))
  (i_Shelver_pick:PySem.W.isFn K (.ref f_4)=true)
  (l_4:K.lookup f_4=some ⟨oc_4,od_4,.func (PySem.W.fnOf "pick" "Shelver.pick" (j6 y8) (i4 y8) (b9 y8) .none kV_4 dc_4 pm_4 an_4 cd_4 ct_4),sl_4⟩)
  (c_4:PySem.W.codeIn K cd_4 "Shelver.pick" = true)
  (k_4:PySem.W.keepIn K (.ref f_4)=true)
  (a_5:PySem.W.findIn K (.ref c6) "pick" = some (some (.ref f_5)))
  (i_FirstShelver_pick:PySem.W.isFn K (.ref f_5)=true)
  (l_5:K.lookup f_5=some ⟨oc_5,od_5,.func (PySem.W.fnOf "pick" "FirstShelver.pick" (j6 r6) (i4 r6) (b9 r6) .none kV_5 dc_5 pm_5 an_5 cd_5 ct_5),sl_5⟩)
  (c_5:PySem.W.codeIn K cd_5 "FirstShelver.pick" = true)
  (k_5:PySem.W.keepIn K (.ref f_5)=true)
  (a_6:PySem.W.findIn K (.ref c4) "pick" = some (some (.ref f_6)))
  (i_BestShelver_pick:PySem.W.isFn K (.ref f_6)=true)
  (l_6:K.lookup f_6=some ⟨oc_6,od_6,.func (PySem.W.fnOf "pick" "BestShelver.pick" (j6 m5) (i4 m5) (b9 m5) .none kV_6 dc_6 pm_6 an_6 cd_6 ct_6),sl_6⟩)
  (c_6:PySem.W.codeIn K cd_6 "BestShelver.pick" = true)
  (k_6:PySem.W.keepIn K (.ref f_6)=true)
  (a_18:PySem.W.nsIn K mainGlobals "shelved" = some (some (.ref f_18)))
  (l_18:K.lookup f_18=some ⟨oc_18,od_18,.func (PySem.W.fnOf "shelved" "shelved" (j6 J2) (i4 J2) (b9 J2) (.ref dT_shelved) kV_18 dc_18 pm_18 an_18 cd_18 ct_18),sl_18⟩)
  (df_shelved:K.lookup dT_shelved=some ⟨doc_shelved,dod_shelved,.seq [.str "next" dtok_shelved].toArray dn_shelved,dsl_shelved⟩)
  (c_18:PySem.W.codeIn K cd_18 "shelved" = true)
  (k_18:PySem.W.keepIn K (.ref f_18)=true)
  (a_7:PySem.W.nsIn K mainGlobals "_law_whole" = some (some (.ref f_7)))
  (l_7:K.lookup f_7=some ⟨oc_7,od_7,.func (PySem.W.fnOf "_law_whole" "_law_whole" (j6 E6) (i4 E6) (b9 E6) .none kV_7 dc_7 pm_7 an_7 cd_7 ct_7),sl_7⟩)
  (c_7:PySem.W.codeIn K cd_7 "_law_whole" = true)
  (k_7:PySem.W.keepIn K (.ref f_7)=true)
  (a_8:PySem.W.nsIn K mainGlobals "_law_cell" = some (some (.ref f_8)))
  (l_8:K.lookup f_8=some ⟨oc_8,od_8,.func (PySem.W.fnOf "_law_cell" "_law_cell" (j6 M6) (i4 M6) (b9 M6) .none kV_8 dc_8 pm_8 an_8 cd_8 ct_8),sl_8⟩)
  (c_8:PySem.W.codeIn K cd_8 "_law_cell" = true)
  (k_8:PySem.W.keepIn K (.ref f_8)=true)
  (a_9:PySem.W.nsIn K mainGlobals "_law_sign" = some (some (.ref f_9)))
  (l_9:K.lookup f_9=some ⟨oc_9,od_9,.func (PySem.W.fnOf "_law_sign" "_law_sign" (j6 M7) (i4 M7) (b9 M7) .none kV_9 dc_9 pm_9 an_9 cd_9 ct_9),sl_9⟩)
  (c_9:PySem.W.codeIn K cd_9 "_law_sign" = true)
  (k_9:PySem.W.keepIn K (.ref f_9)=true)
  (a_10:PySem.W.nsIn K mainGlobals "_law_text" = some (some (.ref f_10)))
  (l_10:K.lookup f_10=some ⟨oc_10,od_10,.func (PySem.W.fnOf "_law_text" "_law_text" (j6 E7) (i4 E7) (b9 E7) .none kV_10 dc_10 pm_10 an_10 cd_10 ct_10),sl_10⟩)
  (c_10:PySem.W.codeIn K cd_10 "_law_text" = true)
  (k_10:PySem.W.keepIn K (.ref f_10)=true)
  (a_11:PySem.W.nsIn K mainGlobals "_law_side" = some (some (.ref f_11)))
  (l_11:K.lookup f_11=some ⟨oc_11,od_11,.func (PySem.W.fnOf "_law_side" "_law_side" (j6 M8) (i4 M8) (b9 M8) .none kV_11 dc_11 pm_11 an_11 cd_11 ct_11),sl_11⟩)
  (c_11:PySem.W.codeIn K cd_11 "_law_side" = true)
  (k_11:PySem.W.keepIn K (.ref f_11)=true)
  (a_12:PySem.W.nsIn K mainGlobals "_law_ware" = some (some (.ref f_12)))
  (l_12:K.lookup f_12=some ⟨oc_12,od_12,.func (PySem.W.fnOf "_law_ware" "_law_ware" (j6 M9) (i4 M9) (b9 M9) .none kV_12 dc_12 pm_12 an_12 cd_12 ct_12),sl_12⟩)
  (c_12:PySem.W.codeIn K cd_12 "_law_ware" = true)
  (k_12:PySem.W.keepIn K (.ref f_12)=true)
  (a_13:PySem.W.nsIn K mainGlobals "_law_width" = some (some (.ref f_13)))
  (l_13:K.lookup f_13=some ⟨oc_13,od_13,.func (PySem.W.fnOf "_law_width" "_law_width" (j6 J3) (i4 J3) (b9 J3) .none kV_13 dc_13 pm_13 an_13 cd_13 ct_13),sl_13⟩)
  (c_13:PySem.W.codeIn K cd_13 "_law_width" = true)
  (k_13:PySem.W.keepIn K (.ref f_13)=true)
  (a_14:PySem.W.nsIn K mainGlobals "_law_told" = some (some (.ref f_14)))
  (l_14:K.lookup f_14=some ⟨oc_14,od_14,.func (PySem.W.fnOf "_law_told" "_law_told" (j6 N0) (i4 N0) (b9 N0) .none kV_14 dc_14 pm_14 an_14 cd_14 ct_14),sl_14⟩)
  (c_14:PySem.W.codeIn K cd_14 "_law_told" = true)
  (k_14:PySem.W.keepIn K (.ref f_14)=true)
  (a_15:PySem.W.nsIn K mainGlobals "_law_no_picker" = some (some (.ref f_15)))
  (l_15:K.lookup f_15=some ⟨oc_15,od_15,.func (PySem.W.fnOf "_law_no_picker" "_law_no_picker" (j6 A3) (i4 A3) (b9 A3) .none kV_15 dc_15 pm_15 an_15 cd_15 ct_15),sl_15⟩)
  (c_15:PySem.W.codeIn K cd_15 "_law_no_picker" = true)
  (k_15:PySem.W.keepIn K (.ref f_15)=true)
  (a_16:PySem.W.nsIn K mainGlobals "_law_refusal" = some (some (.ref f_16)))
  (l_16:K.lookup f_16=some ⟨oc_16,od_16,.func (PySem.W.fnOf "_law_refusal" "_law_refusal" (j6 D0) (i4 D0) (b9 D0) .none kV_16 dc_16 pm_16 an_16 cd_16 ct_16),sl_16⟩)
  (c_16:PySem.W.codeIn K cd_16 "_law_refusal" = true)
  (k_16:PySem.W.keepIn K (.ref f_16)=true)
  (a_17:PySem.W.nsIn K mainGlobals "law" = some (some (.ref f_17)))
  (l_17:K.lookup f_17=some ⟨oc_17,od_17,.func (PySem.W.fnOf "law" "law" (j6 G8) (i4 G8) (b9 G8) .none kV_17 dc_17 pm_17 an_17 cd_17 ct_17),sl_17⟩)
  (c_17:PySem.W.codeIn K cd_17 "law" = true)
  (k_17:PySem.W.keepIn K (.ref f_17)=true)
  (a_0:PySem.W.findIn K (.ref c20) "__init__" = some (some (.ref f_0)))
  (i_TooWide___init__:PySem.W.isFn K (.ref f_0)=true)
  (l_0:K.lookup f_0=some ⟨oc_0,od_0,.func (PySem.W.fnOf "__init__" "TooWide.__init__" (j6 t7) (i4 t7) (b9 t7) .none kV_0 dc_0 pm_0 an_0 cd_0 ct_0),sl_0⟩)
  (c_0:PySem.W.codeIn K cd_0 "TooWide.__init__" = true)
  (k_0:PySem.W.keepIn K (.ref f_0)=true)
  (tc_by_height:cd_1=.ref cc_by_height)
  (tk_by_height:K.lookup cc_by_height=some ⟨oq_by_height,oe_by_height,.fields vs_by_height,sm_by_height⟩)
  (tp_by_height:vs_by_height.getD 11 .none=.ref Pt_by_height)
  (tn_by_height:K.lookup Pt_by_height=none)
  (tr_by_height:(PyProof.Rows.recsOf q).any (fun d=>d.name == "by_height")=true)
  (z_ValueError:PySem.W.nsIn K mainGlobals "ValueError" = some none)
  (z_bool:PySem.W.nsIn K mainGlobals "bool" = some none)
  (z_enumerate:PySem.W.nsIn K mainGlobals "enumerate" = some none)
  (z_int:PySem.W.nsIn K mainGlobals "int" = some none)
  (z_isinstance:PySem.W.nsIn K mainGlobals "isinstance" = some none)
  (z_len:PySem.W.nsIn K mainGlobals "len" = some none)
  (z_list:PySem.W.nsIn K mainGlobals "list" = some none)
  (z_max:PySem.W.nsIn K mainGlobals "max" = some none)
  (z_min:PySem.W.nsIn K mainGlobals "min" = some none)
  (z_range:PySem.W.nsIn K mainGlobals "range" = some none)
  (z_sorted:PySem.W.nsIn K mainGlobals "sorted" = some none)
  (m_BadPacking:PySem.W.nsIn K mainGlobals "BadPacking" = some (some (.ref c0)))
  (m_BadPlan:PySem.W.nsIn K mainGlobals "BadPlan" = some (some (.ref c1)))
  (m_BadSide:PySem.W.nsIn K mainGlobals "BadSide" = some (some (.ref c2)))
  (m_BadTurn:PySem.W.nsIn K mainGlobals "BadTurn" = some (some (.ref c3)))
  (m_BestShelver:PySem.W.nsIn K mainGlobals "BestShelver" = some (some (.ref c4)))
  (m_CrateError:PySem.W.nsIn K mainGlobals "CrateError" = some (some (.ref c5)))
  (m_FirstShelver:PySem.W.nsIn K mainGlobals "FirstShelver" = some (some (.ref c6)))
  (m_Full:PySem.W.nsIn K mainGlobals "Full" = some (some (.ref c7)))
  (m_Hangs:PySem.W.nsIn K mainGlobals "Hangs" = some (some (.ref c8)))
  (m_NoDeed:PySem.W.nsIn K mainGlobals "NoDeed" = some (some (.ref c9)))
  (m_NoDrawing:PySem.W.nsIn K mainGlobals "NoDrawing" = some (some (.ref c10)))
  (m_NoPicker:PySem.W.nsIn K mainGlobals "NoPicker" = some (some (.ref c11)))
  (m_NoSheet:PySem.W.nsIn K mainGlobals "NoSheet" = some (some (.ref c12)))
  (m_NoText:PySem.W.nsIn K mainGlobals "NoText" = some (some (.ref c13)))
  (m_NoWare:PySem.W.nsIn K mainGlobals "NoWare" = some (some (.ref c14)))
  (m_NoWeighing:PySem.W.nsIn K mainGlobals "NoWeighing" = some (some (.ref c15)))
  (m_NothingDone:PySem.W.nsIn K mainGlobals "NothingDone" = some (some (.ref c16)))
  (m_Ring:PySem.W.nsIn K mainGlobals "Ring" = some (some (.ref c17)))
  (m_Shelver:PySem.W.nsIn K mainGlobals "Shelver" = some (some (.ref c18)))
  (m_TooMany:PySem.W.nsIn K mainGlobals "TooMany" = some (some (.ref c19)))
  (m_TooWide:PySem.W.nsIn K mainGlobals "TooWide" = some (some (.ref c20)))
  (xo_TooWide:a1C K c20=true)
  (xa_TooWide:PySem.W.findIn K (.ref c20) "__setattr__" = some (some (.builtin "object.__setattr__")))
  (xm_TooWide:((PySem.W.clsIn K c20).any fun cd=>PySem.W.onlyVE cd.mro)=true)
  (xq_TooWide:PySem.W.mroIn K c20 (.type "object")=some true)
  (x_NoPicker:PySem.W.excIn K c11 vErr "ValueError.__new__" = true)
  (t_exc_NoPicker1:PySem.W.findIn K (.ref c11) "__getattribute__" = some (some (.builtin "BaseException.__getattribute__")))
  (t_exc_NoPicker2:PySem.W.findIn K (.ref c11) "__getattr__" = some none)
  (t_exc_NoPicker3:PySem.W.findIn K (.ref c11) "__class__" = some (some (.builtin "object.__class__")))
  (t_exc_NoPicker4:PySem.W.mroIn K c11 (.type "object")=some true)
  (t_exc_NoPicker5:PySem.W.subIn K (.ref c11) (.type "BaseException")=some true)
  (t_exc_TooWide1:PySem.W.findIn K (.ref c20) "__getattribute__" = some (some (.builtin "BaseException.__getattribute__")))
  (t_exc_TooWide2:PySem.W.findIn K (.ref c20) "__getattr__" = some none)
  (t_exc_TooWide3:PySem.W.findIn K (.ref c20) "__class__" = some (some (.builtin "object.__class__")))
  (t_exc_TooWide4:PySem.W.mroIn K c20 (.type "object")=some true)
  (t_exc_TooWide5:PySem.W.subIn K (.ref c20) (.type "BaseException")=some true)
  (hd_TooWide:PySem.W.hasDictIn K c20=true)
  (xn_TooWide:PySem.W.findIn K (.ref c20) "at" = some none)
  (t_any_NoPicker_0:PySem.W.kitAny K (.ref c11) [.ref c0,.ref c1,.ref c2,.ref c3,.ref c7,.ref c8,.ref c9,.ref c10,.ref c12]=some false)
  (t_any_NoPicker_1:PySem.W.kitAny K (.ref c11) [.ref c13,.ref c14,.ref c16,.ref c15,.ref c17,.ref c19]=some false)
  (t_one_NoPicker_NoPicker:PySem.W.kitOne K (.ref c11) (.ref c11)=some true)
  (t_one_NoPicker_TooWide:PySem.W.kitOne K (.ref c11) (.ref c20)=some false)
  (t_one_NoPicker_ValueError:PySem.W.kitOne K (.ref c11) (.type "ValueError")=some true)
  (t_exo_NoPicker_CrateError:PySem.W.exmOne K (.ref c11) (.ref c5)=some true)
  (t_any_TooWide_0:PySem.W.kitAny K (.ref c20) [.ref c0,.ref c1,.ref c2,.ref c3,.ref c7,.ref c8,.ref c9,.ref c10,.ref c12]=some false)
  (t_any_TooWide_1:PySem.W.kitAny K (.ref c20) [.ref c13,.ref c14,.ref c16,.ref c15,.ref c17,.ref c19]=some false)
  (t_one_TooWide_NoPicker:PySem.W.kitOne K (.ref c20) (.ref c11)=some false)
  (t_one_TooWide_TooWide:PySem.W.kitOne K (.ref c20) (.ref c20)=some true)
  (t_one_TooWide_ValueError:PySem.W.kitOne K (.ref c20) (.type "ValueError")=some true)
  (t_exo_TooWide_CrateError:PySem.W.exmOne K (.ref c20) (.ref c5)=some true)
  (cl_Shelver1:PySem.W.plainGet K c18 Str.empty=true)
  (cl_Shelver2:PySem.W.hasDictIn K c18=true)
  (cl_Shelver3:PySem.W.plainOver K c18=true)
  (cl_Shelver4:PySem.W.findIn K (.ref c18) "__setattr__" = some (some (.builtin "object.__setattr__")))
  (cl_FirstShelver1:PySem.W.plainGet K c6 Str.empty=true)
  (cl_FirstShelver2:PySem.W.hasDictIn K c6=true)
  (cl_FirstShelver3:PySem.W.plainOver K c6=true)
  (cl_FirstShelver4:PySem.W.findIn K (.ref c6) "__setattr__" = some (some (.builtin "object.__setattr__")))
  (cl_BestShelver1:PySem.W.plainGet K c4 Str.empty=true)
  (cl_BestShelver2:PySem.W.hasDictIn K c4=true)
  (cl_BestShelver3:PySem.W.plainOver K c4=true)
  (cl_BestShelver4:PySem.W.findIn K (.ref c4) "__setattr__" = some (some (.builtin "object.__setattr__")))
  (mk_BestShelver:PySem.W.makesIn K c4=true)
  (in_BestShelver:PySem.W.findIn K (.ref c4) "__init__" = some (some (.builtin "object.__init__")))
  (kc_BestShelver:PySem.W.keepIn K (.ref c4)=true)
  (mk_FirstShelver:PySem.W.makesIn K c6=true)
  (in_FirstShelver:PySem.W.findIn K (.ref c6) "__init__" = some (some (.builtin "object.__init__")))
  (kc_FirstShelver:PySem.W.keepIn K (.ref c6)=true)
  (mk_Shelver:PySem.W.makesIn K c18=true)
  (in_Shelver:PySem.W.findIn K (.ref c18) "__init__" = some (some (.builtin "object.__init__")))
  (kc_Shelver:PySem.W.keepIn K (.ref c18)=true)
  (t_ins_Shelver1:PySem.W.findIn K (.ref c18) "__class__" = some (some (.builtin "object.__class__")))
  (t_ins_Shelver2:PySem.W.specialIn K (.builtin "object.__class__") "__get__" = some (some (.builtin "getset_descriptor.__get__")))
  (t_ins_Shelver3:PySem.W.takesIn K (.builtin "object.__class__")=some true)
  (t_ins_Shelver4:PySem.W.mroIn K c18 (.type "object")=some true)
  (t_iso_Shelver_Shelver:PySem.W.kitOne K (.ref c18) (.ref c18)=some true)
  (t_ins_FirstShelver1:PySem.W.findIn K (.ref c6) "__class__" = some (some (.builtin "object.__class__")))
  (t_ins_FirstShelver2:PySem.W.specialIn K (.builtin "object.__class__") "__get__" = some (some (.builtin "getset_descriptor.__get__")))
  (t_ins_FirstShelver3:PySem.W.takesIn K (.builtin "object.__class__")=some true)
  (t_ins_FirstShelver4:PySem.W.mroIn K c6 (.type "object")=some true)
  (t_iso_FirstShelver_Shelver:PySem.W.kitOne K (.ref c6) (.ref c18)=some true)
  (t_ins_BestShelver1:PySem.W.findIn K (.ref c4) "__class__" = some (some (.builtin "object.__class__")))
  (t_ins_BestShelver2:PySem.W.specialIn K (.builtin "object.__class__") "__get__" = some (some (.builtin "getset_descriptor.__get__")))
  (t_ins_BestShelver3:PySem.W.takesIn K (.builtin "object.__class__")=some true)
  (t_ins_BestShelver4:PySem.W.mroIn K c4 (.type "object")=some true)
  (t_iso_BestShelver_Shelver:PySem.W.kitOne K (.ref c4) (.ref c18)=some true)
  : ∃(fd:FuncData) (TB:List (Addr×Str)),(∀(s:Shared) (v:Value),BindsTo s fd ⟨[v],[]⟩ [("_law_script",v)])∧(∀Pa qq,TB.lookup Pa=some qq→(∃c,h.TableAt c Pa #[])∧K.lookup Pa=none)∧∃c:Str→Addr,∀base:Heap,K.In base→base.Ns mainGlobals mg→(∀b o,h.get? b=some o→o.cls≠.none→o.cls≠.type "list"→base.get? b=some o)→FnOk (PySem.Challenge.rw_cratefit_k50_words_and_wide_wares).prog w K mg base (n4 (PySem.Challenge.rw_cratefit_k50_words_and_wide_wares).prog w) 11 fa fd ["_law_script"] (L7 TB (a15 K c)):=by
 have e:=hfa.symm.trans (PySem.W.mg_of X G a_17)
 cases e
 have T:Txt K mg (cL c0 c1 c2 c3 c4 c5 c6 c7 c8 c9 c10 c11 c12 c13 c14 c15 c16 c17 c18 c19 c20):=⟨PySem.W.mg_none_of X G z_ValueError,PySem.W.mg_none_of X G z_bool,PySem.W.mg_none_of X G z_enumerate,PySem.W.mg_none_of X G z_int,PySem.W.mg_none_of X G z_isinstance,PySem.W.mg_none_of X G z_len,PySem.W.mg_none_of X G z_list,PySem.W.mg_none_of X G z_max,PySem.W.mg_none_of X G z_min,PySem.W.mg_none_of X G z_range,PySem.W.mg_none_of X G z_sorted,PySem.W.mg_of X G m_BadPacking,PySem.W.mg_of X G m_BadPlan,PySem.W.mg_of X G m_BadSide,PySem.W.mg_of X G m_BadTurn,PySem.W.mg_of X G m_BestShelver,PySem.W.mg_of X G m_CrateError,PySem.W.mg_of X G m_FirstShelver,PySem.W.mg_of X G m_Full,PySem.W.mg_of X G m_Hangs,PySem.W.mg_of X G m_NoDeed,PySem.W.mg_of X G m_NoDrawing,PySem.W.mg_of X G m_NoPicker,PySem.W.mg_of X G m_NoSheet,PySem.W.mg_of X G m_NoText,PySem.W.mg_of X G m_NoWare,PySem.W.mg_of X G m_NoWeighing,PySem.W.mg_of X G m_NothingDone,PySem.W.mg_of X G m_Ring,PySem.W.mg_of X G m_Shelver,PySem.W.mg_of X G m_TooMany,PySem.W.mg_of X G m_TooWide,x_NoPicker,⟨t_exc_NoPicker1,t_exc_NoPicker2,t_exc_NoPicker3,t_exc_NoPicker4,t_exc_NoPicker5⟩,⟨t_exc_TooWide1,t_exc_TooWide2,t_exc_TooWide3,t_exc_TooWide4,t_exc_TooWide5⟩,hd_TooWide,xn_TooWide,t_any_NoPicker_0,t_any_NoPicker_1,t_one_NoPicker_NoPicker,t_one_NoPicker_TooWide,t_one_NoPicker_ValueError,t_exo_NoPicker_CrateError,t_any_TooWide_0,t_any_TooWide_1,t_one_TooWide_NoPicker,t_one_TooWide_TooWide,t_one_TooWide_ValueError,t_exo_TooWide_CrateError,⟨cl_Shelver1,cl_Shelver2,cl_Shelver3,cl_Shelver4⟩,⟨cl_FirstShelver1,cl_FirstShelver2,cl_FirstShelver3,cl_FirstShelver4⟩,⟨cl_BestShelver1,cl_BestShelver2,cl_BestShelver3,cl_BestShelver4⟩,mk_BestShelver,in_BestShelver,kc_BestShelver,mk_FirstShelver,in_FirstShelver,kc_FirstShelver,mk_Shelver,in_Shelver,kc_Shelver,⟨⟨cl_Shelver1,cl_Shelver2,cl_Shelver3,cl_Shelver4⟩,t_ins_Shelver1,t_ins_Shelver2,t_ins_Shelver3,t_ins_Shelver4⟩,t_iso_Shelver_Shelver,⟨⟨cl_FirstShelver1,cl_FirstShelver2,cl_FirstShelver3,cl_FirstShelver4⟩,t_ins_FirstShelver1,t_ins_FirstShelver2,t_ins_FirstShelver3,t_ins_FirstShelver4⟩,t_iso_FirstShelver_Shelver,⟨⟨cl_BestShelver1,cl_BestShelver2,cl_BestShelver3,cl_BestShelver4⟩,t_ins_BestShelver1,t_ins_BestShelver2,t_ins_BestShelver3,t_ins_BestShelver4⟩,t_iso_BestShelver_Shelver⟩
 have TT_by_height:=b16 Tp X tr_by_height (PySem.W.mg_of X G a_1) l_1 tc_by_height tk_by_height tp_by_height
 refine⟨PySem.W.fnOf "law" "law" (j6 G8) (i4 G8) (b9 G8) .none kV_17 dc_17 pm_17 an_17 cd_17 ct_17,[(Pt_by_height,("by_height.<locals>.<lambda>" : Str))],fun s v=>.of_eq rfl,fun Pa qq e=>?_,cOf [("BadPacking",c0),("BadPlan",c1),("BadSide",c2),("BadTurn",c3),("BestShelver",c4),("CrateError",c5),("FirstShelver",c6),("Full",c7),("Hangs",c8),("NoDeed",c9),("NoDrawing",c10),("NoPicker",c11),("NoSheet",c12),("NoText",c13),("NoWare",c14),("NoWeighing",c15),("NothingDone",c16),("Ring",c17),("Shelver",c18),("TooMany",c19),("TooWide",c20)],fun base _ _ kp=>?_⟩
 ·simp only[List.lookup]at e
  split at e
  ·rename_i z;have z:=beq_iff_eq.mp z;subst z;exact⟨⟨_,TT_by_height.1⟩,tn_by_height⟩
  ·cases e
 have hL_by_height:List.lookup Pt_by_height [(Pt_by_height,("by_height.<locals>.<lambda>" : Str))]=some "by_height.<locals>.<lambda>" := by simp[List.lookup]
 have F_0:=v3 (st:=t7) l_0 c_0 k_0
 have B_0:=F_0.binds (ps:=["self","at"]) fun _ _ _ _ _ _ us hl=>match us,hl with | [_,_],_=>rfl
 have OI_TooWide___init__:=Y6 (P:=(PySem.Challenge.rw_cratefit_k50_words_and_wide_wares).prog) (w:=w) (mg:=mg) (base:=base) (c:=cOf [("BadPacking",c0),("BadPlan",c1),("BadSide",c2),("BadTurn",c3),("BestShelver",c4),("CrateError",c5),("FirstShelver",c6),("Full",c7),("Hangs",c8),("NoDeed",c9),("NoDrawing",c10),("NoPicker",c11),("NoSheet",c12),("NoText",c13),("NoWare",c14),("NoWeighing",c15),("NothingDone",c16),("Ring",c17),("Shelver",c18),("TooMany",c19),("TooWide",c20)]) F_0 ⟨xa_TooWide,xm_TooWide,xq_TooWide,hd_TooWide,xn_TooWide⟩
 have XI_TooWide:a8I (PySem.Challenge.rw_cratefit_k50_words_and_wide_wares).prog w K mg base 3 "TooWide" ((cL c0 c1 c2 c3 c4 c5 c6 c7 c8 c9 c10 c11 c12 c13 c14 c15 c16 c17 c18 c19 c20) "TooWide") ["self","at"] "at" := ⟨_,_,⟨xo_TooWide,a_0,beq_iff_eq.mp i_TooWide___init__⟩,OI_TooWide___init__,B_0,PySem.W.mg_of X G m_TooWide⟩
 have F_1:=v3 (st:=y3) l_1 c_1 k_1
 have B_1:=F_1.binds (ps:=["wares"]) fun _ _ _ _ _ _ us hl=>match us,hl with | [_],_=>rfl
 have O_1:Own (PySem.Challenge.rw_cratefit_k50_words_and_wide_wares).prog w K mg base 3 "by_height" ["wares"] (L7 [(Pt_by_height,("by_height.<locals>.<lambda>" : Str))] (i3 K (cL c0 c1 c2 c3 c4 c5 c6 c7 c8 c9 c10 c11 c12 c13 c14 c15 c16 c17 c18 c19 c20) w8)):=⟨_,_,a4d F_1 T  (tc_by_height) (TT_by_height.2 base kp).1 (TT_by_height.2 base kp).2 hL_by_height,B_1,k_1,PySem.W.mg_of X G a_1⟩
 have F_2:=v3 (st:=B5) l_2 c_2 k_2
 have B_2:=F_2.binds (ps:=["word"]) fun _ _ _ _ _ _ us hl=>match us,hl with | [_],_=>rfl
 have O_2:Own (PySem.Challenge.rw_cratefit_k50_words_and_wide_wares).prog w K mg base 3 "shelver_of" ["word"] (i3 K (cL c0 c1 c2 c3 c4 c5 c6 c7 c8 c9 c10 c11 c12 c13 c14 c15 c16 c17 c18 c19 c20) i9):=⟨_,_,a29 F_2 T ,B_2,k_2,PySem.W.mg_of X G a_2⟩
 have F_3:=v3 (st:=y6) l_3 c_3 k_3
 have B_3:=F_3.binds (ps:=["width","wares"]) fun _ _ _ _ _ _ us hl=>match us,hl with | [_,_],_=>rfl
 have O_3:Own (PySem.Challenge.rw_cratefit_k50_words_and_wide_wares).prog w K mg base 5 "check_widths" ["width","wares"] (i3 K (cL c0 c1 c2 c3 c4 c5 c6 c7 c8 c9 c10 c11 c12 c13 c14 c15 c16 c17 c18 c19 c20) p6):=⟨_,_,a10 F_3 T XI_TooWide,B_3,k_3,PySem.W.mg_of X G a_3⟩
 have F_4:=v3 (st:=y8) l_4 c_4 k_4
 have B_4:=F_4.binds (ps:=["self","rooms","w"]) fun _ _ _ _ _ _ us hl=>match us,hl with | [_,_,_],_=>rfl
 have OM_Shelver_pick:OwnM (PySem.Challenge.rw_cratefit_k50_words_and_wide_wares).prog w K mg base 3 ((cL c0 c1 c2 c3 c4 c5 c6 c7 c8 c9 c10 c11 c12 c13 c14 c15 c16 c17 c18 c19 c20) "Shelver") "pick" ["self","rooms","w"] (i3 K (cL c0 c1 c2 c3 c4 c5 c6 c7 c8 c9 c10 c11 c12 c13 c14 c15 c16 c17 c18 c19 c20) p7):=⟨⟨_,_,(a12 F_4 T ),B_4,⟨a_4,i_Shelver_pick,k_4⟩⟩,T.cl_Shelver⟩
 have F_5:=v3 (st:=r6) l_5 c_5 k_5
 have B_5:=F_5.binds (ps:=["self","rooms","w"]) fun _ _ _ _ _ _ us hl=>match us,hl with | [_,_,_],_=>rfl
 have OM_FirstShelver_pick:OwnM (PySem.Challenge.rw_cratefit_k50_words_and_wide_wares).prog w K mg base 3 ((cL c0 c1 c2 c3 c4 c5 c6 c7 c8 c9 c10 c11 c12 c13 c14 c15 c16 c17 c18 c19 c20) "FirstShelver") "pick" ["self","rooms","w"] (i3 K (cL c0 c1 c2 c3 c4 c5 c6 c7 c8 c9 c10 c11 c12 c13 c14 c15 c16 c17 c18 c19 c20) l7):=⟨⟨_,_,(X9 F_5 T ),B_5,⟨a_5,i_FirstShelver_pick,k_5⟩⟩,T.cl_FirstShelver⟩
 have F_6:=v3 (st:=m5) l_6 c_6 k_6
 have B_6:=F_6.binds (ps:=["self","rooms","w"]) fun _ _ _ _ _ _ us hl=>match us,hl with | [_,_,_],_=>rfl
 have OM_BestShelver_pick:OwnM (PySem.Challenge.rw_cratefit_k50_words_and_wide_wares).prog w K mg base 3 ((cL c0 c1 c2 c3 c4 c5 c6 c7 c8 c9 c10 c11 c12 c13 c14 c15 c16 c17 c18 c19 c20) "BestShelver") "pick" ["self","rooms","w"] (i3 K (cL c0 c1 c2 c3 c4 c5 c6 c7 c8 c9 c10 c11 c12 c13 c14 c15 c16 c17 c18 c19 c20) m7):=⟨⟨_,_,(Y8 F_6 T ),B_6,⟨a_6,i_BestShelver_pick,k_6⟩⟩,T.cl_BestShelver⟩
 have F_18:=a9T (st:=J2) l_18 c_18 k_18
 have B_18:=F_18.binds (ps:=["width","wares","word"]) (ds:=[]) (items:=[.str "next" dtok_shelved]) df_shelved rfl fun _ _ _ _ _ _ us hl=>match us,(show us.length=3 by simpa using hl)with | [_,_,_],_=>⟨_,rfl,rfl⟩
 have BD_shelved:=F_18.binds (ps:=["width","wares","word"]) (ds:=[.str "next" dtok_shelved]) (items:=[.str "next" dtok_shelved]) df_shelved rfl fun _ _ _ _ _ _ us hl=>match us,(show us.length=2 by simpa using hl)with | [_,_],_=>⟨_,rfl,rfl⟩
 have O_18:OwnD (PySem.Challenge.rw_cratefit_k50_words_and_wide_wares).prog w K mg base 7 "shelved" ["width","wares","word"] (L7 [(Pt_by_height,("by_height.<locals>.<lambda>" : Str))] (i3 K (cL c0 c1 c2 c3 c4 c5 c6 c7 c8 c9 c10 c11 c12 c13 c14 c15 c16 c17 c18 c19 c20) B7)) (.str "next"):=⟨_,_,_,a5T F_18 T O_2 O_3 O_1 OM_Shelver_pick OM_FirstShelver_pick OM_BestShelver_pick,B_18,BD_shelved,⟨_,rfl⟩,k_18,PySem.W.mg_of X G a_18⟩
 have F_7:=v3 (st:=E6) l_7 c_7 k_7
 have B_7:=F_7.binds (ps:=["_law_found"]) fun _ _ _ _ _ _ us hl=>match us,hl with | [_],_=>rfl
 have O_7:Own (PySem.Challenge.rw_cratefit_k50_words_and_wide_wares).prog w K mg base 3 "_law_whole" ["_law_found"] (i3 K (cL c0 c1 c2 c3 c4 c5 c6 c7 c8 c9 c10 c11 c12 c13 c14 c15 c16 c17 c18 c19 c20) J4):=⟨_,_,a5U F_7 T ,B_7,k_7,PySem.W.mg_of X G a_7⟩
 have GW_l_whole:OwnW (PySem.Challenge.rw_cratefit_k50_words_and_wide_wares).prog w K mg base 3 "_law_whole" ["_law_found"] (i3 K (cL c0 c1 c2 c3 c4 c5 c6 c7 c8 c9 c10 c11 c12 c13 c14 c15 c16 c17 c18 c19 c20) J4):=⟨_,_,a4x F_7 T,B_7,k_7,PySem.W.mg_of X G a_7⟩
 have F_8:=v3 (st:=M6) l_8 c_8 k_8
 have B_8:=F_8.binds (ps:=["_law_script","_law_k"]) fun _ _ _ _ _ _ us hl=>match us,hl with | [_,_],_=>rfl
 have O_8:Own (PySem.Challenge.rw_cratefit_k50_words_and_wide_wares).prog w K mg base 3 "_law_cell" ["_law_script","_law_k"] (i3 K (cL c0 c1 c2 c3 c4 c5 c6 c7 c8 c9 c10 c11 c12 c13 c14 c15 c16 c17 c18 c19 c20) k8):=⟨_,_,a7i F_8 T ,B_8,k_8,PySem.W.mg_of X G a_8⟩
 have F_9:=v3 (st:=M7) l_9 c_9 k_9
 have B_9:=F_9.binds (ps:=["_law_cell_here"]) fun _ _ _ _ _ _ us hl=>match us,hl with | [_],_=>rfl
 have O_9:Own (PySem.Challenge.rw_cratefit_k50_words_and_wide_wares).prog w K mg base 3 "_law_sign" ["_law_cell_here"] (i3 K (cL c0 c1 c2 c3 c4 c5 c6 c7 c8 c9 c10 c11 c12 c13 c14 c15 c16 c17 c18 c19 c20) z7):=⟨_,_,a7j F_9 T ,B_9,k_9,PySem.W.mg_of X G a_9⟩
 have F_10:=v3 (st:=E7) l_10 c_10 k_10
 have B_10:=F_10.binds (ps:=["_law_script"]) fun _ _ _ _ _ _ us hl=>match us,hl with | [_],_=>rfl
 have O_10:Own (PySem.Challenge.rw_cratefit_k50_words_and_wide_wares).prog w K mg base 5 "_law_text" ["_law_script"] (i3 K (cL c0 c1 c2 c3 c4 c5 c6 c7 c8 c9 c10 c11 c12 c13 c14 c15 c16 c17 c18 c19 c20) C8):=⟨_,_,a7k F_10 T O_8 O_9,B_10,k_10,PySem.W.mg_of X G a_10⟩
 have F_11:=v3 (st:=M8) l_11 c_11 k_11
 have B_11:=F_11.binds (ps:=["_law_cell_here"]) fun _ _ _ _ _ _ us hl=>match us,hl with | [_],_=>rfl
 have O_11:Own (PySem.Challenge.rw_cratefit_k50_words_and_wide_wares).prog w K mg base 3 "_law_side" ["_law_cell_here"] (i3 K (cL c0 c1 c2 c3 c4 c5 c6 c7 c8 c9 c10 c11 c12 c13 c14 c15 c16 c17 c18 c19 c20) E8):=⟨_,_,a7m F_11 T ,B_11,k_11,PySem.W.mg_of X G a_11⟩
 have F_12:=v3 (st:=M9) l_12 c_12 k_12
 have B_12:=F_12.binds (ps:=["_law_cell_here"]) fun _ _ _ _ _ _ us hl=>match us,hl with | [_],_=>rfl
 have O_12:Own (PySem.Challenge.rw_cratefit_k50_words_and_wide_wares).prog w K mg base 5 "_law_ware" ["_law_cell_here"] (i3 K (cL c0 c1 c2 c3 c4 c5 c6 c7 c8 c9 c10 c11 c12 c13 c14 c15 c16 c17 c18 c19 c20) B1):=⟨_,_,a7o F_12 T O_11,B_12,k_12,PySem.W.mg_of X G a_12⟩
 have F_13:=v3 (st:=J3) l_13 c_13 k_13
 have B_13:=F_13.binds (ps:=["_law_cell_here","_law_wares"]) fun _ _ _ _ _ _ us hl=>match us,hl with | [_,_],_=>rfl
 have O_13:Own (PySem.Challenge.rw_cratefit_k50_words_and_wide_wares).prog w K mg base 3 "_law_width" ["_law_cell_here","_law_wares"] (i3 K (cL c0 c1 c2 c3 c4 c5 c6 c7 c8 c9 c10 c11 c12 c13 c14 c15 c16 c17 c18 c19 c20) B8):=⟨_,_,a5W F_13 T ,B_13,k_13,PySem.W.mg_of X G a_13⟩
 have F_14:=v3 (st:=N0) l_14 c_14 k_14
 have B_14:=F_14.binds (ps:=["_law_refusal_here"]) fun _ _ _ _ _ _ us hl=>match us,hl with | [_],_=>rfl
 have O_14:OwnW (PySem.Challenge.rw_cratefit_k50_words_and_wide_wares).prog w K mg base 5 "_law_told" ["_law_refusal_here"] (i3 K (cL c0 c1 c2 c3 c4 c5 c6 c7 c8 c9 c10 c11 c12 c13 c14 c15 c16 c17 c18 c19 c20) u5):=⟨_,_,a7r F_14 T GW_l_whole,B_14,k_14,PySem.W.mg_of X G a_14⟩
 have F_15:=v3 (st:=A3) l_15 c_15 k_15
 have B_15:=F_15.binds (ps:=["_law_text_here"]) fun _ _ _ _ _ _ us hl=>match us,hl with | [_],_=>rfl
 have O_15:Own (PySem.Challenge.rw_cratefit_k50_words_and_wide_wares).prog w K mg base 7 "_law_no_picker" ["_law_text_here"] (i3 K (cL c0 c1 c2 c3 c4 c5 c6 c7 c8 c9 c10 c11 c12 c13 c14 c15 c16 c17 c18 c19 c20) u6):=⟨_,_,a2D F_15 T O_14 O_2,B_15,k_15,PySem.W.mg_of X G a_15⟩
 have F_16:=v3 (st:=D0) l_16 c_16 k_16
 have B_16:=F_16.binds (ps:=["_law_width_here","_law_wares","_law_text_here"]) fun _ _ _ _ _ _ us hl=>match us,hl with | [_,_,_],_=>rfl
 have O_16:Own (PySem.Challenge.rw_cratefit_k50_words_and_wide_wares).prog w K mg base 9 "_law_refusal" ["_law_width_here","_law_wares","_law_text_here"] (L7 [(Pt_by_height,("by_height.<locals>.<lambda>" : Str))] (i3 K (cL c0 c1 c2 c3 c4 c5 c6 c7 c8 c9 c10 c11 c12 c13 c14 c15 c16 c17 c18 c19 c20) o5)):=⟨_,_,a4g F_16 T O_14 O_18,B_16,k_16,PySem.W.mg_of X G a_16⟩
 have F_17:=v3 (st:=G8) l_17 c_17 k_17
 exact b24 F_17 T O_10 O_12 O_8 O_13 O_16 O_15 O_2
end Law
namespace Law
open PySem L2 PyProof.Rows
theorem walk{q:Program}{loose:List Str}{XP:(Str→Option Value)→Heap→Prop}{YP:World→Heap→Prop}{d:DefRec}{K:Params→PySem.W.Frag}(hdf:d.params.defaults=[])(hY:∀(w:World) (h:Heap),YP w h→(K w.params).In h)
  (F:∀(w:World) (mg mb:Str→Option Value) (fa:Addr) (h:Heap) (mean:ExcName→Option Value),(K w.params).In h→h.Ns mainGlobals mg→mg d.name=some (.ref fa)→PyProof.Rows.Top q (PySem.W.looseW q loose) mean mg mb h →
   ∃(fd:FuncData) (TB:List (Addr×Str)),(∀(s:Shared) (u:Value),BindsTo s fd ⟨[u],[]⟩ [("_law_script",u)])∧(∀Pa qq,TB.lookup Pa=some qq→(∃c,h.TableAt c Pa #[])∧(K w.params).lookup Pa=none)∧∃c:Str→Addr,∀base:Heap,(K w.params).In base→base.Ns mainGlobals mg→(∀b o,h.get? b=some o→o.cls≠.none→o.cls≠.type "list"→base.get? b=some o)→FnOk (PySem.Challenge.rw_cratefit_k50_words_and_wide_wares).prog w (K w.params) mg base (n4 (PySem.Challenge.rw_cratefit_k50_words_and_wide_wares).prog w) 11 fa fd ["_law_script"] (L7 TB (a15 (K w.params) c))) :
  PySem.W.WalkO q loose XP YP (PySem.Challenge.rw_cratefit_k50_words_and_wide_wares).row.toRowW d [] (fun f vs=>PySem.call f vs):=by
 refine L2.walk_ofT (l:=PySem.Challenge.rw_cratefit_k50_words_and_wide_wares) (n:=63) (k:=11) (x := "_law_script") (K:=K) (CX:=fun w=>n4 (PySem.Challenge.rw_cratefit_k50_words_and_wide_wares).prog w) (sp:=fun w vs H Q E=>∀c,a15 (K w.params) c vs H Q E) rfl (by decide) hdf ⟨rfl,by decide,by decide⟩ hY (fun w mg mb fa h mean KX G hm Tp=>?_) (fun w H a ns h1 h2 h3 c=>⟨a,ns,rfl,h3,h2,h1,fun _=>rfl⟩) fun w H s e s' z=>b2_ H s e s' z
 obtain⟨fd,TB,hb,hTb,c,hF⟩:=F w mg mb fa h mean KX G hm Tp
 exact⟨fd,TB,hb,hTb,fun base kb nb kp=>(hF base kb nb kp).imp fun vs H Q E z=>⟨z.1,z.2 c⟩⟩
end Law
local macro_rules|`(#check 0)=>do
 let g:=fun(n:Lean.Name)=>do
  let y:=Lean.mkIdent (.str `PySem.W.Fast s!"tw{n.hash}")
  `(theorem $y:ident : True:=trivial)
 let mut r:=#[←g `PySem.Challenge.pw_cratefit_k50_words_and_wide_wares]
 for x in ["sts_49","sts_64","sts_79","sts_94","sts_109","sts_124","sts_139","sts_154","sts_169","sts_184","sts_199","sts_214","sts_229","sts_244","sts_259","sts_281","sts_303","sts_325","sts_354","sts_377","sts_399","sts_448","tree_47","tree_63","tree_78","tree_93","tree_108","tree_123","tree_138","tree_153","tree_168","tree_183","tree_198","tree_213","tree_228","tree_243","tree_258","tree_280","tree_302","tree_324","tree_353","tree_376","tree_398","tree_447","tree_515","heap_39","heap_46","heap_516","view_39","env_41"]++(List.range 473).map (s!"o_{·+43}") do r:=r.push (←g (.str `PySem.Challenge.cw_cratefit_k50_words_and_wide_wares_holds x))
 return Lean.mkNullNode r
#check 0
open PySem.W
set_option maxRecDepth 100000 in
set_option maxHeartbeats 0 in
theorem PySem.Challenge.cw_cratefit_k50_words_and_wide_wares_holds : PySem.Challenge.rw_cratefit_k50_words_and_wide_wares.Holds := by
 w_on;o_law;k_head; (case hw=>w_witness2)
 k_fill
 refine Law.walk rfl (fun w h Y=>PySem.W.km_in_of Y) ?F
 case F =>
  intro w mg mb fa h mean KX G hmg Tp
  refine' Law.all_mk KX G hmg Tp ?a_by_height ?l_by_height ?c_by_height ?k_by_height ?a_shelver_of ?l_shelver_of ?c_shelver_of ?k_shelver_of ?a_check_widths ?l_check_widths ?c_check_widths ?k_check_widths ?a_Shelver_pick ?i_Shelver_pick ?l_Shelver_pick ?c_Shelver_pick ?k_Shelver_pick ?a_FirstShelver_pick ?i_FirstShelver_pick ?l_FirstShelver_pick ?c_FirstShelver_pick ?k_FirstShelver_pick ?a_BestShelver_pick ?i_BestShelver_pick ?l_BestShelver_pick ?c_BestShelver_pick ?k_BestShelver_pick ?a_shelved ?l_shelved ?df_shelved ?c_shelved ?k_shelved ?a_l_whole ?l_l_whole ?c_l_whole ?k_l_whole ?a_l_cell ?l_l_cell ?c_l_cell ?k_l_cell ?a_l_sign ?l_l_sign ?c_l_sign ?k_l_sign ?a_l_text ?l_l_text ?c_l_text ?k_l_text ?a_l_side ?l_l_side ?c_l_side ?k_l_side ?a_l_ware ?l_l_ware ?c_l_ware ?k_l_ware ?a_l_width ?l_l_width ?c_l_width ?k_l_width ?a_l_told ?l_l_told ?c_l_told ?k_l_told ?a_l_no_picker ?l_l_no_picker ?c_l_no_picker ?k_l_no_picker ?a_l_refusal ?l_l_refusal ?c_l_refusal ?k_l_refusal ?a_law ?l_law ?c_law ?k_law ?a_TooWide___init__ ?i_TooWide___init__ ?l_TooWide___init__ ?c_TooWide___init__ ?k_TooWide___init__ ?tc_by_height ?tk_by_height ?tp_by_height ?tn_by_height ?tr_by_height ?z_ValueError ?z_bool ?z_enumerate ?z_int ?z_isinstance ?z_len ?z_list ?z_max ?z_min ?z_range ?z_sorted ?m_BadPacking ?m_BadPlan ?m_BadSide ?m_BadTurn ?m_BestShelver ?m_CrateError ?m_FirstShelver ?m_Full ?m_Hangs ?m_NoDeed ?m_NoDrawing ?m_NoPicker ?m_NoSheet ?m_NoText ?m_NoWare ?m_NoWeighing ?m_NothingDone ?m_Ring ?m_Shelver ?m_TooMany ?m_TooWide ?xo_TooWide ?xa_TooWide ?xm_TooWide ?xq_TooWide ?x_NoPicker ?t_exc_NoPicker1 ?t_exc_NoPicker2 ?t_exc_NoPicker3 ?t_exc_NoPicker4 ?t_exc_NoPicker5 ?t_exc_TooWide1 ?t_exc_TooWide2 ?t_exc_TooWide3 ?t_exc_TooWide4 ?t_exc_TooWide5 ?hd_TooWide ?xn_TooWide ?t_any_NoPicker_0 ?t_any_NoPicker_1 ?t_one_NoPicker_NoPicker ?t_one_NoPicker_TooWide ?t_one_NoPicker_ValueError ?t_exo_NoPicker_CrateError ?t_any_TooWide_0 ?t_any_TooWide_1 ?t_one_TooWide_NoPicker ?t_one_TooWide_TooWide ?t_one_TooWide_ValueError ?t_exo_TooWide_CrateError ?cl_Shelver1 ?cl_Shelver2 ?cl_Shelver3 ?cl_Shelver4 ?cl_FirstShelver1 ?cl_FirstShelver2 ?cl_FirstShelver3 ?cl_FirstShelver4 ?cl_BestShelver1 ?cl_BestShelver2 ?cl_BestShelver3 ?cl_BestShelver4 ?mk_BestShelver ?in_BestShelver ?kc_BestShelver ?mk_FirstShelver ?in_FirstShelver ?kc_FirstShelver ?mk_Shelver ?in_Shelver ?kc_Shelver ?t_ins_Shelver1 ?t_ins_Shelver2 ?t_ins_Shelver3 ?t_ins_Shelver4 ?t_iso_Shelver_Shelver ?t_ins_FirstShelver1 ?t_ins_FirstShelver2 ?t_ins_FirstShelver3 ?t_ins_FirstShelver4 ?t_iso_FirstShelver_Shelver ?t_ins_BestShelver1 ?t_ins_BestShelver2 ?t_ins_BestShelver3 ?t_ins_BestShelver4 ?t_iso_BestShelver_Shelver
  (case m_BestShelver=>k_is)
  (case m_FirstShelver=>k_is)
  (case m_Shelver=>k_is)
  (case m_TooWide=>k_is)
  (case a_by_height=>k_is)
  (case l_by_height=>k_is)
  (case c_by_height=>k_is)
  (case k_by_height=>k_is)
  (case a_shelver_of=>k_is)
  (case l_shelver_of=>k_is)
  (case c_shelver_of=>k_is)
  (case k_shelver_of=>k_is)
  (case a_check_widths=>k_is)
  (case l_check_widths=>k_is)
  (case c_check_widths=>k_is)
  (case k_check_widths=>k_is)
  (case a_Shelver_pick=>k_is)
  (case i_Shelver_pick=>k_is)
  (case l_Shelver_pick=>k_is)
  (case c_Shelver_pick=>k_is)
  (case k_Shelver_pick=>k_is)
  (case a_FirstShelver_pick=>k_is)
  (case i_FirstShelver_pick=>k_is)
  (case l_FirstShelver_pick=>k_is)
  (case c_FirstShelver_pick=>k_is)
  (case k_FirstShelver_pick=>k_is)
  (case a_BestShelver_pick=>k_is)
  (case i_BestShelver_pick=>k_is)
  (case l_BestShelver_pick=>k_is)
  (case c_BestShelver_pick=>k_is)
  (case k_BestShelver_pick=>k_is)
  (case a_shelved=>k_is)
  (case l_shelved=>k_is)
  (case df_shelved=>k_is)
  (case c_shelved=>k_is)
  (case k_shelved=>k_is)
  (case a_l_whole=>k_is)
  (case l_l_whole=>k_is)
  (case c_l_whole=>k_is)
  (case k_l_whole=>k_is)
  (case a_l_cell=>k_is)
  (case l_l_cell=>k_is)
  (case c_l_cell=>k_is)
  (case k_l_cell=>k_is)
  (case a_l_sign=>k_is)
  (case l_l_sign=>k_is)
  (case c_l_sign=>k_is)
  (case k_l_sign=>k_is)
  (case a_l_text=>k_is)
  (case l_l_text=>k_is)
  (case c_l_text=>k_is)
  (case k_l_text=>k_is)
  (case a_l_side=>k_is)
  (case l_l_side=>k_is)
  (case c_l_side=>k_is)
  (case k_l_side=>k_is)
  (case a_l_ware=>k_is)
  (case l_l_ware=>k_is)
  (case c_l_ware=>k_is)
  (case k_l_ware=>k_is)
  (case a_l_width=>k_is)
  (case l_l_width=>k_is)
  (case c_l_width=>k_is)
  (case k_l_width=>k_is)
  (case a_l_told=>k_is)
  (case l_l_told=>k_is)
  (case c_l_told=>k_is)
  (case k_l_told=>k_is)
  (case a_l_no_picker=>k_is)
  (case l_l_no_picker=>k_is)
  (case c_l_no_picker=>k_is)
  (case k_l_no_picker=>k_is)
  (case a_l_refusal=>k_is)
  (case l_l_refusal=>k_is)
  (case c_l_refusal=>k_is)
  (case k_l_refusal=>k_is)
  (case a_law=>k_is)
  (case l_law=>k_is)
  (case c_law=>k_is)
  (case k_law=>k_is)
  (case a_TooWide___init__=>k_is)
  (case i_TooWide___init__=>k_is)
  (case l_TooWide___init__=>k_is)
  (case c_TooWide___init__=>k_is)
  (case k_TooWide___init__=>k_is)
  (case tc_by_height=>exact rfl)
  (case tk_by_height=>k_is)
  (case tp_by_height=>exact rfl)
  (case tn_by_height=>first | k_is | rfl | decide +kernel)
  (case tr_by_height=>first | rfl | decide +kernel)
  (case z_ValueError=>k_is)
  (case z_bool=>k_is)
  (case z_enumerate=>k_is)
  (case z_int=>k_is)
  (case z_isinstance=>k_is)
  (case z_len=>k_is)
  (case z_list=>k_is)
  (case z_max=>k_is)
  (case z_min=>k_is)
  (case z_range=>k_is)
  (case z_sorted=>k_is)
  (case m_BadPacking=>k_is)
  (case m_BadPlan=>k_is)
  (case m_BadSide=>k_is)
  (case m_BadTurn=>k_is)
  (case m_CrateError=>k_is)
  (case m_Full=>k_is)
  (case m_Hangs=>k_is)
  (case m_NoDeed=>k_is)
  (case m_NoDrawing=>k_is)
  (case m_NoPicker=>k_is)
  (case m_NoSheet=>k_is)
  (case m_NoText=>k_is)
  (case m_NoWare=>k_is)
  (case m_NoWeighing=>k_is)
  (case m_NothingDone=>k_is)
  (case m_Ring=>k_is)
  (case m_TooMany=>k_is)
  (case xo_TooWide=>kernel_rfl)
  (case xa_TooWide=>k_is)
  (case xm_TooWide=>kernel_rfl)
  (case xq_TooWide=>k_is)
  (case x_NoPicker=>kernel_rfl)
  (case t_exc_NoPicker1=>k_is)
  (case t_exc_NoPicker2=>k_is)
  (case t_exc_NoPicker3=>k_is)
  (case t_exc_NoPicker4=>k_is)
  (case t_exc_NoPicker5=>k_is)
  (case t_exc_TooWide1=>k_is)
  (case t_exc_TooWide2=>k_is)
  (case t_exc_TooWide3=>k_is)
  (case t_exc_TooWide4=>k_is)
  (case t_exc_TooWide5=>k_is)
  (case hd_TooWide=>k_is)
  (case xn_TooWide=>k_is)
  (case t_any_NoPicker_0=>kit_is)
  (case t_any_NoPicker_1=>kit_is)
  (case t_one_NoPicker_NoPicker=>kit_is)
  (case t_one_NoPicker_TooWide=>kit_is)
  (case t_one_NoPicker_ValueError=>kit_is)
  (case t_exo_NoPicker_CrateError=>kts_exm)
  (case t_any_TooWide_0=>kit_is)
  (case t_any_TooWide_1=>kit_is)
  (case t_one_TooWide_NoPicker=>kit_is)
  (case t_one_TooWide_TooWide=>kit_is)
  (case t_one_TooWide_ValueError=>kit_is)
  (case t_exo_TooWide_CrateError=>kts_exm)
  (case cl_Shelver1=>k_is)
  (case cl_Shelver2=>k_is)
  (case cl_Shelver3=>k_is)
  (case cl_Shelver4=>k_is)
  (case cl_FirstShelver1=>k_is)
  (case cl_FirstShelver2=>k_is)
  (case cl_FirstShelver3=>k_is)
  (case cl_FirstShelver4=>k_is)
  (case cl_BestShelver1=>k_is)
  (case cl_BestShelver2=>k_is)
  (case cl_BestShelver3=>k_is)
  (case cl_BestShelver4=>k_is)
  (case mk_BestShelver=>k_is)
  (case in_BestShelver=>k_is)
  (case kc_BestShelver=>k_is)
  (case mk_FirstShelver=>k_is)
  (case in_FirstShelver=>k_is)
  (case kc_FirstShelver=>k_is)
  (case mk_Shelver=>k_is)
  (case in_Shelver=>k_is)
  (case kc_Shelver=>k_is)
  (case t_ins_Shelver1=>k_is)
  (case t_ins_Shelver2=>k_is)
  (case t_ins_Shelver3=>k_is)
  (case t_ins_Shelver4=>k_is)
  (case t_iso_Shelver_Shelver=>kit_is)
  (case t_ins_FirstShelver1=>k_is)
  (case t_ins_FirstShelver2=>k_is)
  (case t_ins_FirstShelver3=>k_is)
  (case t_ins_FirstShelver4=>k_is)
  (case t_iso_FirstShelver_Shelver=>kit_is)
  (case t_ins_BestShelver1=>k_is)
  (case t_ins_BestShelver2=>k_is)
  (case t_ins_BestShelver3=>k_is)
  (case t_ins_BestShelver4=>k_is)
  (case t_iso_BestShelver_Shelver=>kit_is)
