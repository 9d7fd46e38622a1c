import PyProof.Rows.All
import Wide.All
import OpenK.AllK
import Wide.FinOn
import Lean
import PyProof.EqAt
import PyProof.EqKinds
import PyProof.TupleCall
import PyProof.EnumMake
import PyProof.Draws
import PyProof.ZipIter
import PyProof.ConsumeWalk
import PyProof.NeKinds
import PyProof.ListRange
import PyProof.ReprRoads
import PyProof.ReprBulk
import PyProof.CallStr
import PyProof.Rows.SeqMore
import KE.KMinBuiltin
import PyProof.MinMaxWalk
import PyProof.DictRoadsH
import PySem.Challenge.RW_huedties_k19_fans
import PyProof.SumWalkG
import PyProof.MeetsSeq
import PyProof.StationsW
import PyProof.ExcClass3
import OpenK.KOwn
import PyProof.ExcBaseAll.ValueError
import PyProof.RulesAs
import PyProof.RulesDel
import PyProof.Rows.CatchOwn
import KE.KIsNot
import PyProof.ExcArgsOwn
import PyProof.ExcAttrAll.ValueError
import PyProof.WalkInts
set_option Elab.async false
set_option linter.all false
set_option maxRecDepth 100000
namespace L2
open PySem PySem.Spec PyProof.Rows
noncomputable abbrev Key:=Sum Int Str
noncomputable def IN:Key→Value→Bool
 | .inl k,v=>Value.isInt k v
 | .inr x,v=>Value.isStrOf x v
noncomputable def KB (w:World):Key→Int
 | .inl k=>hashInt k
 | .inr x=>hashStr w x
theorem u6:∀ {k:Key} {v:Value},IN k v=true→(∃ i t,k=Sum.inl i∧v=Value.int i t)∨(∃ x t,k=Sum.inr x∧v=Value.str x t)
 | .inl i,v,h=>by
   obtain ⟨t,e⟩:=Value.isInt_shape (k:=i) (v:=v) h
   exact .inl ⟨i,t,rfl,e⟩
 | .inr x,v,h=>by
   obtain ⟨t,e⟩:=Value.isStrOf_shape (x:=x) (v:=v) h
   exact .inr ⟨x,t,rfl,e⟩
theorem Ig (a b:Int):decide ((Sum.inl a:Key)=Sum.inl b)=(a == b):=by
 by_cases e:a=b
 ·subst e;simp
 ·have h:¬ (Sum.inl a:Key)=Sum.inl b:=fun q=>e (Sum.inl.inj q)
  rw [decide_eq_false h]
  exact (beq_eq_false_iff_ne.mpr e).symm
theorem Ih (a b:Str):decide ((Sum.inr a:Key)=Sum.inr b)=decide (a=b):=by
 by_cases e:a=b
 ·subst e;simp
 ·have h:¬ (Sum.inr a:Key)=Sum.inr b:=fun q=>e (Sum.inr.inj q)
  rw [decide_eq_false h,decide_eq_false e]
theorem Ii (a:Int) (b:Str):decide ((Sum.inl a:Key)=Sum.inr b)=false:=decide_eq_false (fun q=>nomatch q)
theorem Ij (a:Str) (b:Int):decide ((Sum.inr a:Key)=Sum.inl b)=false:=decide_eq_false (fun q=>nomatch q)
noncomputable def Eo (prog:Program) (w:World):PySem.KeyKind prog w Key where
 is:=IN
 hash:=KB w
 inj:=fun v a b ha hb=>by
  rcases u6 ha with ⟨i,t,rfl,rfl⟩ | ⟨x,t,rfl,rfl⟩
  ·rcases u6 hb with ⟨j,u,rfl,e⟩ | ⟨y,u,rfl,e⟩
   ·injection e with e1 _;rw [e1]
   ·exact nomatch e
  ·rcases u6 hb with ⟨j,u,rfl,e⟩ | ⟨y,u,rfl,e⟩
   ·exact nomatch e
   ·injection e with e1 _;rw [e1]
 byValue:=fun k v h=>by
   rcases u6 h with ⟨i,t,rfl,rfl⟩ | ⟨x,t,rfl,rfl⟩<;>rfl
 pyHash:=fun hv h=>by
  rcases u6 hv with ⟨i,t,rfl,rfl⟩ | ⟨x,t,rfl,rfl⟩
  ·exact wpAny_pyHash_int h
  ·exact wpAny_pyHash_str h
 eqBool:=fun hu hv h=>by
  rcases u6 hu with ⟨i,t,rfl,rfl⟩ | ⟨x,t,rfl,rfl⟩
  ·rcases u6 hv with ⟨j,u,rfl,rfl⟩ | ⟨y,u,rfl,rfl⟩
   ·rw [Ig] at h;exact wpAny_eqBool_int h
   ·rw [Ii] at h;exact SeqAt.EqAt.int_str i t y u _ _ _ _ h
  ·rcases u6 hv with ⟨j,u,rfl,rfl⟩ | ⟨y,u,rfl,rfl⟩
   ·rw [Ij] at h;exact SeqAt.EqAt.str_int x t j u _ _ _ _ h
   ·rw [Ih] at h;exact wpAny_eqBool_str h
 «strs»:=fun k x t v h=>by
  rcases u6 h with ⟨i,u,rfl,e⟩ | ⟨y,u,rfl,e⟩
  ·exact nomatch e
  ·injection e with e1 _
   subst e1
   cases v<;>rfl
open PySem PySem.Spec PyProof.Rows
inductive V where
 | non | bl (b:Bool) | int (i:Int) | str (x:Str) | byt (b:Array UInt8) | flt (b:UInt64) | ref (a:Addr) | ty (n:String)
 deriving DecidableEq
noncomputable def RelV:V→Value→Prop
 | .non,u=>u=Value.none
 | .bl b,u=>u=Value.bool b
 | .int i,u=>∃ t,u=Value.int i t
 | .str x,u=>∃ t,u=Value.str x t
 | .byt b,u=>∃ t,u=Value.bytes b t
 | .flt b,u=>∃ t,u=Value.float b t
 | .ref a,u=>u=Value.ref a
 | .ty n,u=>u=Value.type n
noncomputable abbrev Vals:List V→List Value→Prop:=Paired RelV
theorem Vals.length {xs:List V} {us:List Value} (r:Vals xs us):xs.length=us.length:=Paired.length r
theorem Vals.get:∀ {xs:List V} {us:List Value} {i:Nat} {x:V},Vals xs us→xs[i]?=some x→∃ u,us[i]?=some u∧RelV x u
 | _,_,_,_,.nil,e=>by simp at e
 | _,_,0,_,.cons r _,e=>by simp at e;subst e;exact ⟨_,rfl,r⟩
 | _,_,i+1,x,.cons _ t,e=>by
   obtain ⟨u,h1,h2⟩:=Vals.get (i:=i) (x:=x) t (by simpa using e)
   exact ⟨u,by simpa using h1,h2⟩
theorem Vals.set {x:V} {u:Value} (r:RelV x u):∀ {xs:List V} {us:List Value} (i:Nat),Vals xs us→Vals (xs.set i x) (us.set i u)
 | _,_,_,.nil => .nil
 | _,_,0,.cons _ t => .cons r t
 | _,_,i+1,.cons q t => .cons q (Vals.set r i t)
theorem Vals.append:∀ {xs ys:List V} {us ws:List Value},Vals xs us→Vals ys ws→Vals (xs++ys) (us++ws)
 | _,_,_,_,.nil,s=>s
 | _,_,_,_,.cons r t,s => .cons r (Vals.append t s)
theorem Vals.take:∀ {xs:List V} {us:List Value} (n:Nat),Vals xs us→Vals (xs.take n) (us.take n)
 | _,_,0,_ => .nil
 | _,_,_+1,.nil => .nil
 | _,_,n+1,.cons r t => .cons r (Vals.take n t)
theorem Vals.drop:∀ {xs:List V} {us:List Value} (n:Nat),Vals xs us→Vals (xs.drop n) (us.drop n)
 | _,_,0,r=>r
 | _,_,_+1,.nil => .nil
 | _,_,n+1,.cons _ t=>Vals.drop n t
noncomputable def Ik:Option V→Option Value→Prop
 | some v,some u=>RelV v u
 | none,none=>True
 | _,_=>False
noncomputable def KV {κ:Type}:List (κ×V)→List (κ×Value)→Prop:=Paired fun (p:κ×V) (q:κ×Value)=>p.1=q.1∧RelV p.2 q.2
noncomputable def kV:Key→V
 | .inl i => .int i
 | .inr x => .str x
inductive HO where
 /-- a list -/
 | lst (xs:List V)
 /-- a tuple (never changes) -/
 | tup (xs:List V)
 /-- a dict whose keys are ints and texts;one whose keys are tuples of ints and texts (the empty one is both) -/
 | dK (kvs:List (Key×V)) | dT (kvs:List (List Key×V))
 /-- a set of ints: its members,its size -/
 | set (S:Int→Bool) (n:Nat)
 /-- an instance of the class at C,its dict at dx,its attributes -/
 | ins (C dx:Addr) (fs:List (Str×V))
 /-- the dict of the instance at x -/
 | own (x:Addr)
 /-- the dict of an exception -/
 | xd (fs:List (Str×V))
 /-- a bound method,f of x -/
 | met (f x:Addr)
 /-- a range object lo,lo+1,.. below hi -/
 | rng (lo hi:Int)
 /-- a thing that is known to the object (the script;a dict while a loop walks it): read,never written while it is so -/
 | frz (o:Obj) (u:HO)
 /-- a code object's table -/
 | tbl (ps:Array Value)
 /-- any other thing,by what is true of its one object (a def of one's own: SetO a S n:=HO.ext fun h => ..) -/
 | ext (φ:Heap→Prop)
noncomputable abbrev Hp:=Addr→Option HO
noncomputable def upd (H:Hp) (a:Addr) (o:HO):Hp:=fun b=>if b=a then some o else H b
theorem b9 {H:Hp} {a:Addr} {o:HO}:upd H a o a=some o:=by unfold upd;rw [if_pos rfl]
theorem j2 {H:Hp} {a b:Addr} {o:HO} (h:b≠a):upd H a o b=H b:=by unfold upd;rw [if_neg h]
theorem IO {H:Hp} {a b:Addr} {o u:HO} (h:H a=some o) (h':H b=some u) (d:o≠u):a≠b:=by
 intro e;subst e;rw [h] at h';exact d (Option.some.inj h')
theorem d7 {H:Hp} {a b:Addr} {o:HO} (h:H a=some o) (h':H b=none):a≠b:=by
 intro e;subst e;rw [h] at h';cases h'
section
variable (P:Program) (w:World)
noncomputable def ObjOk (H:Hp) (h:Heap) (a:Addr):HO→Prop
 | .lst xs=>xs.length≤sizeLine∧∃ (its:List Value) (n:Nat),Vals xs its∧h.get? a=some {cls := .type "list",data := .seq its.toArray n}
 | .tup xs=>xs.length≤sizeLine∧∃ its:List Value,Vals xs its∧IsTup h a its.toArray
 | .dK kvs=>kvs.length≤sizeLine∧(a == sysModules)=false∧∃ vs,KV kvs vs∧h.DictOf (Eo P w) a vs
 | .dT kvs=>kvs.length≤sizeLine∧(a == sysModules)=false∧∃ xs:List (List Key×Addr×Value),
    Paired (fun (p:List Key×V) (q:List Key×Addr×Value)=>p.1=q.1∧H q.2.1=some (.tup (p.1.map kV))∧RelV p.2 q.2.2) kvs xs∧
    ∃ o es ep,h.get? a=some o∧o.ExactDict∧o.data = .dict es ep∧es.toList=xs.map (entryOfKey (tupleKind (Eo P w)))∧(xs.map (·.1)).Nodup
 | .set S n=>h.SetOf (intKind P w) a S n
 | .ins C dx fs=>H dx=some (.own a)∧fs.length≤1000∧dx≠a∧h.get? a=some (PySem.W.instObj C dx)∧
    ∃ mA,h.Ns1 dx mA∧(∀ f,Ik (fs.lookup f) (mA f))∧PySem.Within mA (fs.map (·.1))
 | .own _=>∃ o,h.get? a=some o
 | .xd fs=>∃ mA,h.Ns1 a mA∧∀ f,Ik (fs.lookup f) (mA f)
 | .rng lo hi=>∃ t u v,h.get? a=some {cls := .type "range",data := .fields #[.int lo t,.int hi u,.int 1 v]}
 | .frz o u=>h.get? a=some o∧ObjOk H h a u
 | .tbl ps=>h.get? a=some {cls := .none,data := .fields ps}
 | .met f x=>h.get? a=some (PySem.W.methodObj (.ref f) (.ref x))
 | .ext φ=>φ h∧(∃ o,h.get? a=some o)∧∀ h1 h2:Heap,φ h1→(∀ o,h1.get? a=some o→h2.get? a=some o)→φ h2
noncomputable def HOk (H:Hp) (h:Heap):Prop:=∀ a o,H a=some o→ObjOk P w H h a o
end
section
variable {P:Program} {w:World} {H H':Hp} {h h':Heap} {a:Addr} {o:HO}
theorem ObjOk.lt (x:ObjOk P w H h a o):a<h.objs.size:=by
 cases o with
 | lst xs=>obtain ⟨_,_,_,_,e⟩:=x;exact Heap.lt_size e
 | tup xs=>obtain ⟨_,_,_,p⟩:=x;exact p.lt
 | dK kvs=>obtain ⟨_,_,_,_,o,_,_,e,_⟩:=x;exact Heap.lt_size e
 | dT kvs=>obtain ⟨_,_,_,_,o,_,_,e,_⟩:=x;exact Heap.lt_size e
 | set S n=>obtain ⟨o,_,_,_,e,_⟩:=x;exact Heap.lt_size e
 | ins C dx fs=>obtain ⟨_,_,_,e,_⟩:=x;exact Heap.lt_size e
 | own y=>obtain ⟨_,e⟩:=x;exact Heap.lt_size e
 | xd fs=>obtain ⟨_,⟨_,_,_,e,_⟩,_⟩:=x;exact Heap.lt_size e
 | rng lo hi=>obtain ⟨_,_,_,e⟩:=x;exact Heap.lt_size e
 | frz ob u=>obtain ⟨e,_⟩:=x;exact Heap.lt_size e
 | tbl ps=>exact Heap.lt_size (show h.get? a=some _ from x)
 | met f y=>exact Heap.lt_size (show h.get? a=some _ from x)
 | ext φ=>obtain ⟨_,⟨_,e⟩,_⟩:=x;exact Heap.lt_size e
theorem Paired.mapP {α β:Type} {F G:α→β→Prop}:∀ {l₁:List α} {l₂:List β},Paired F l₁ l₂→(∀ a b,F a b→G a b)→Paired G l₁ l₂
 | _,_,.nil,_ => .nil
 | _,_,.cons r t,f => .cons (f _ _ r) (Paired.mapP t f)
theorem ObjOk.stay (x:ObjOk P w H h a o) (k:∀ b u,(b=a∨H b=some (.own a))→h.get? b=some u→h'.get? b=some u)
 (ho:∀ b,H b=some (.own a)→H' b=some (.own a)) (ht:∀ b xs,H b=some (.tup xs)→H' b=some (.tup xs)):ObjOk P w H' h' a o:=by
 induction o with
 | lst xs=>obtain ⟨z,its,n,r,e⟩:=x;exact ⟨z,its,n,r,k _ _ (.inl rfl) e⟩
 | tup xs=>obtain ⟨z,its,r,ob,e,c⟩:=x;exact ⟨z,its,r,ob,k _ _ (.inl rfl) e,c⟩
 | dK kvs=>obtain ⟨z,y,vs,r,ob,es,ep,e,c⟩:=x;exact ⟨z,y,vs,r,ob,es,ep,k _ _ (.inl rfl) e,c⟩
 | dT kvs=>
   obtain ⟨z,y,xs,r,ob,es,ep,e,c⟩:=x
   exact ⟨z,y,xs,Paired.mapP r fun p q z=>⟨z.1,ht _ _ z.2.1,z.2.2⟩,ob,es,ep,k _ _ (.inl rfl) e,c⟩
 | set S n=>obtain ⟨ob,es,ep,t,e,c⟩:=x;exact ⟨ob,es,ep,t,k _ _ (.inl rfl) e,c⟩
 | ins C dx fs=>
   obtain ⟨d,z,ne,e,mA,⟨od,es,ep,e2,c⟩,r⟩:=x
   exact ⟨ho _ d,z,ne,k _ _ (.inl rfl) e,mA,⟨od,es,ep,k _ _ (.inr d) e2,c⟩,r⟩
 | own y=>obtain ⟨ob,e⟩:=x;exact ⟨ob,k _ _ (.inl rfl) e⟩
 | xd fs=>obtain ⟨mA,⟨od,es,ep,e,c⟩,r⟩:=x;exact ⟨mA,⟨od,es,ep,k _ _ (.inl rfl) e,c⟩,r⟩
 | rng lo hi=>obtain ⟨t,u,v,e⟩:=x;exact ⟨t,u,v,k _ _ (.inl rfl) e⟩
 | frz ob u ih=>obtain ⟨e,q⟩:=x;exact ⟨k _ _ (.inl rfl) e,ih q⟩
 | tbl ps=>
   have e:h.get? a=some {cls := .none,data := .fields ps}:=x
   show h'.get? a=some {cls := .none,data := .fields ps}
   exact k a _ (.inl rfl) e
 | met f y=>
   have e:h.get? a=some (PySem.W.methodObj (.ref f) (.ref y)):=x
   show h'.get? a=some (PySem.W.methodObj (.ref f) (.ref y))
   exact k a _ (.inl rfl) e
 | ext φ=>obtain ⟨p,⟨o,e⟩,st⟩:=x;exact ⟨st _ _ p fun o q=>k _ _ (.inl rfl) q,⟨o,k _ _ (.inl rfl) e⟩,st⟩
theorem HOk.lt (x:HOk P w H h) (e:H a=some o):a<h.objs.size:=(x a o e).lt
theorem HOk.fresh (x:HOk P w H h) (e:h.objs.size≤a):H a=none:=by
 cases q:H a with
 | none=>rfl
 | some u=>exact absurd (Nat.lt_of_lt_of_le (x.lt q) e) (Nat.lt_irrefl _)
theorem HOk.kept (x:HOk P w H h) (k:∀ b u,h.get? b=some u→h'.get? b=some u):HOk P w H h':=fun a o e=>
 (x a o e).stay (fun b u _ q=>k b u q) (fun _ q=>q) fun _ _ q=>q
theorem HOk.laid (x:HOk P w H h) (k:∀ b u,h.get? b=some u→h'.get? b=some u) (hp:h.objs.size≤a) (new:ObjOk P w (upd H a o) h' a o):HOk P w (upd H a o) h':=fun b u e=>by
 have hn:=x.fresh hp
 by_cases hb:b=a
 ·subst hb;rw [b9] at e;cases e;exact new
 ·rw [j2 hb] at e
  exact (x b u e).stay (fun c v _ q=>k c v q) (fun c q=>by rw [j2 (d7 q hn)];exact q) fun c xs q=>by rw [j2 (d7 q hn)];exact q
end
noncomputable def Rd (H:Hp) (a:Addr) (u:HO):Prop:=H a=some u∨∃ o,H a=some (.frz o u)
theorem Rd.ok {P:Program} {w:World} {H:Hp} {h:Heap} {a:Addr} {u:HO} (r:Rd H a u) (x:HOk P w H h):ObjOk P w H h a u:=by
 rcases r with r | ⟨o,r⟩
 ·exact x a u r
 ·obtain ⟨_,q⟩:=x a _ r
  exact q
noncomputable def Mut:Option HO→Prop
 | some (.lst _)=>True
 | some (.dK _)=>True
 | some (.dT _)=>True
 | some (.set _ _)=>True
 | some (.ins _ _ _)=>True
 | some (.ext _)=>True
 | _=>False
section
variable {P:Program} {w:World} {H:Hp} {h h':Heap} {x e:Addr} {o':HO}
theorem HOk.write (ok:HOk P w H h) (mu:Mut (H x)) (he:e=x∨H e=some (.own x)) (k:∀ b u,b≠e→h.get? b=some u→h'.get? b=some u) (heo:∃ u,h'.get? e=some u)
 (new:ObjOk P w (upd H x o') h' x o'):HOk P w (upd H x o') h':=fun b u q=>by
 have nown:∀ c y,H c=some (.own y)→c≠x:=fun c y r z=>by subst z;rw [r] at mu;exact mu
 have ntup:∀ c xs,H c=some (.tup xs)→c≠x:=fun c xs r z=>by subst z;rw [r] at mu;exact mu
 by_cases hb:b=x
 ·subst hb;rw [b9] at q;cases q;exact new
 ·rw [j2 hb] at q
  by_cases hbe:b=e
  ·have q':H b=some (.own x):=by
    rcases he with z | z
    ·exact absurd (hbe.trans z) hb
    ·rw [hbe];exact z
   rw [q] at q';cases q'
   obtain ⟨v,hv⟩:=heo
   exact ⟨v,by rw [hbe];exact hv⟩
  ·refine (ok b u q).stay (fun c v hc r=>k c v ?_ r) (fun c r=>by rw [j2 (nown c b r)];exact r) fun c xs r=>by rw [j2 (ntup c xs r)];exact r
   rcases hc with rfl | hc
   ·exact hbe
   ·rintro rfl
    rcases he with z | z
    ·exact nown c b hc z
    ·rw [hc] at z;cases z;exact hb rfl
end
structure Un (fs ex:List Addr) (H H':Hp) (h h':Heap):Prop where
 keep:∀ b o,h.get? b=some o→H b=none→b∉fs→b∉ex→h'.get? b=some o
 slot:∀ b o,h.get? b=some o→H b=none→b∈fs→b∉ex→∃ sl,h'.get? b=some {o with slots:=sl}
 free:∀ b o,h.get? b=some o→H b=none→b∉ex→H' b=none
 there:∀ b o,h.get? b=some o→b∉ex→∃ o',h'.get? b=some o'
 tups:∀ b xs,H b=some (.tup xs)→H' b=some (.tup xs)
 frzs:∀ b o u,H b=some (.frz o (.lst u))→H' b=some (.frz o (.lst u))
 tbls:∀ b ps,H b=some (.tbl ps)→∃ more,H' b=some (.tbl (ps++more))
section
variable {fs fs' ex ex':List Addr} {H H1 H2:Hp} {h h1 h2 h':Heap} {a x e:Addr} {o:HO}
theorem Un.any (u:Un fs ex H H1 h h1) {b:Addr} {ob:Obj} (q:h.get? b=some ob) (n:H b=none) (hx:b∉ex):∃ sl,h1.get? b=some {ob with slots:=sl}:=by
 by_cases hb:b∈fs
 ·exact u.slot b ob q n hb hx
 ·exact ⟨ob.slots,u.keep b ob q n hb hx⟩
theorem Un.kept (k:∀ b u,h.get? b=some u→h'.get? b=some u):Un fs ex H H h h':=
 ⟨fun b ob q _ _ _=>k b ob q,fun b ob q _ _ _=>⟨ob.slots,k b ob q⟩,fun _ _ _ n _=>n,fun b ob q _=>⟨ob,k b ob q⟩,fun _ _ q=>q,fun _ _ _ q=>q,fun _ ps q=>⟨#[],by rw [q];simp⟩⟩
theorem Un.refl:Un fs ex H H h h:=Un.kept fun _ _ q=>q
theorem Un.laid (k:∀ b u,h.get? b=some u→h'.get? b=some u) (hp:h.objs.size≤a) (hn:H a=none):Un fs ex H (upd H a o) h h' where
 keep:=fun b u q _ _ _=>k b u q
 slot:=fun b u q _ _ _=>⟨u.slots,k b u q⟩
 free:=fun b u q n _=>by rw [j2 (Nat.ne_of_lt (Nat.lt_of_lt_of_le (Heap.lt_size q) hp))];exact n
 there:=fun b u q _=>⟨u,k b u q⟩
 tups:=fun b xs q=>by rw [j2 (d7 q hn)];exact q
 frzs:=fun b u xs q=>by rw [j2 (d7 q hn)];exact q
 tbls:=fun b ps q=>⟨#[],by rw [j2 (d7 q hn),q];simp⟩
theorem Un.write (mu:Mut (H x)) (he:e=x∨H e=some (.own x)) (k:∀ b u,b≠e→h.get? b=some u→h'.get? b=some u) (heo:∃ u,h'.get? e=some u):Un fs ex H (upd H x o) h h':=by
 have hx:∀ b,H b=none→b≠x:=fun b n z=>by subst z;rw [n] at mu;exact mu
 have hb:∀ b,H b=none→b≠e:=fun b n z=>by
  subst z
  rcases he with r | r
  ·exact hx b n r
  ·rw [n] at r;cases r
 have hm:∀ b u,H b=some u→¬ Mut (some u)→b≠x:=fun b u q nm z=>by subst z;rw [q] at mu;exact nm mu
 refine ⟨fun b u q n _ _=>k b u (hb b n) q,fun b u q n _ _=>⟨u.slots,k b u (hb b n) q⟩,fun b u q n _=>by rw [j2 (hx b n)];exact n,fun b u q _=>?_,
  fun b xs q=>by rw [j2 (hm b _ q fun z=>z)];exact q,fun b u xs q=>by rw [j2 (hm b _ q fun z=>z)];exact q,fun b ps q=>⟨#[],by rw [j2 (hm b _ q fun z=>z),q];simp⟩⟩
 by_cases hbe:b=e
 ·subst hbe;exact heo
 ·exact ⟨u,k b u hbe q⟩
end
noncomputable def trk (h:Heap) (H:Hp):List Addr:=(List.range h.objs.size).filter fun a=>(H a).isSome
noncomputable def DP (h:Heap) (H:Hp):Heap:=PySem.W.hideAll h (trk h H)
theorem FU (h:Heap) (H:Hp):(DP h H).objs.size=h.objs.size:=PySem.W.hideAll_size _ _
theorem GA {h:Heap} {H:Hp} {b:Addr} {o:Obj} (e:h.get? b=some o) (n:H b=none):(DP h H).get? b=some o:=
 PySem.W.hideAll_get _ e fun hm=>by
  have q:(H b).isSome=true:=(List.mem_filter.mp hm).2
  rw [n] at q;simp at q
theorem HP {h:Heap} {H:Hp} {b:Addr} {o:Obj} (e:(DP h H).get? b=some o):h.get? b=some o∧H b=none:=by
 have e':h.get? b=some o:=PySem.W.of_hideAll (trk h H) e
 refine ⟨e',?_⟩
 cases q:H b with
 | none=>rfl
 | some x=>
   have hm:b∈trk h H:=List.mem_filter.mpr ⟨List.mem_range.mpr (Heap.lt_size e'),by simp [q]⟩
   have z:(DP h H).get? b=none:=PySem.W.hideAll_none (trk h H) hm
   rw [z] at e;cases e
open PySem PySem.Spec PyProof.Rows
structure Mod (K:PySem.W.Frag) (mg:Str→Option Value) (base:Heap):Prop where
 kin:K.In base
 glob:base.Ns mainGlobals mg
 blt:∃ mb,base.Ns builtinsNs mb∧∀ x:Str,x≠"__name__"→mb x=bootBuiltins x
 nolimit:base.NoLimit
structure Cx where
 prog:Program
 w:World
 K:PySem.W.Frag
 mg:Str→Option Value
 base:Heap
 A:Around
 N:List Str
 s₀:Shared
 H₀:Hp
 env:Env
 outer:List Env
 stack:List Env
 ex:List Addr
 fn:Str→Bool
 calm:Bool
 pn:List (Addr×Obj)
 xe:Value→Shared→Prop
noncomputable def frs (l:List Env):List Addr:=l.filterMap (·.frame)
noncomputable abbrev Cx.fs (X:Cx):List Addr:=frs X.outer
noncomputable def Vis (sc:Scope) (x:Str):Prop:=sc.names.lookup x=some .local∨sc.names.lookup x=some .cell∨sc.names.lookup x=some .free
noncomputable def Loc (sc:Scope) (x:Str):Prop:=sc.names.lookup x=some .local∨sc.names.lookup x=some .cell
noncomputable def Look (env:Env) (h:Heap) (m:Str→Option Value) (x:Str) (u:Value):Prop:=
 (env.kindOf x=some .local∧m x=some u)∨((env.kindOf x=some .cell∨env.kindOf x=some .free)∧∃ c,env.cells.lookup x=some c∧h.IsCell c (some u))
structure Cx.Ok (X:Cx):Prop where
 mod:Mod X.K X.mg X.base
 kind:X.env.scope.kind = .function
 glob:X.env.globals=mainGlobals
 blt:X.env.builtins=builtinsNs
 above:X.s₀.heap.objs.size≤X.env.locals
 inj:∀ x y c,X.env.cells.lookup x=some c→X.env.cells.lookup y=some c→x=y
 has:∀ x,(X.env.kindOf x=some .cell∨X.env.kindOf x=some .free)→∃ c,X.env.cells.lookup x=some c
 cab:∀ x c,X.fn x=true→X.env.cells.lookup x=some c→X.s₀.heap.objs.size≤c
 hd:X.calm=true→X.A.handled=none
 frames:X.A.frames=some X.stack
 stk:X.stack=X.outer∨(X.stack=X.env::X.outer∧X.env.frame=some X.env.locals)
 exf:∀ b∈X.ex,b≠X.env.locals∧∀ x c,X.env.cells.lookup x=some c→c≠b
 bs:∀ b o,X.base.get? b=some o→X.s₀.heap.get? b=some o∧X.H₀ b=none
 bsz:X.base.objs.size≤X.s₀.heap.objs.size
 noex:∀ b o,X.base.get? b=some o→b∉X.ex
 exfs:∀ b∈X.ex,b∉X.fs
 funs:X.s₀.heap.FunFrames X.base X.outer
 frf:∀ b∈X.fs,X.H₀ b=none
structure Inv (X:Cx) (pins:List (Addr×Obj)) (σ:List (Option V)) (H:Hp) (s:Shared):Prop where
 ok:X.Ok
 os:s.os=X.s₀.os
 bare:AllBare s.gens
 base:Un X.fs X.ex X.H₀ H X.s₀.heap s.heap
 loc:∃ m,s.heap.Ns X.env.locals m∧∀ (i:Nat) (x:Str) (v:V),X.N[i]?=some x→σ[i]?=some (some v)→Vis X.env.scope x→∃ u,RelV v u∧Look X.env s.heap m x u
 cell:∀ x c,X.env.cells.lookup x=some c→∃ v,s.heap.IsCell c v
 free:H X.env.locals=none
 freeC:∀ x c,X.env.cells.lookup x=some c→H c=none
 pin:∀ p∈X.pn++pins,s.heap.get? p.1=some p.2∧H p.1=none∧p.1≠X.env.locals∧p.1∉X.fs∧∀ v,p.2.data ≠ .cell v
 hok:HOk X.prog X.w H s.heap
 len:σ.length=X.N.length
section
variable {X:Cx} {pins:List (Addr×Obj)} {σ:List (Option V)} {H H':Hp} {s:Shared} {h':Heap}
theorem Cx.Ok.nofr (ok:X.Ok) {b:Addr} {o:Obj} (e:X.base.get? b=some o):b∉X.fs:=fun hb=>by
 have:=(ok.funs.mem hb).1
 rw [e] at this;cases this
theorem Inv.bs (I:Inv X pins σ H s):∀ b o,X.base.get? b=some o→s.heap.get? b=some o∧H b=none:=fun b o e=>
 ⟨I.base.keep b o (I.ok.bs b o e).1 (I.ok.bs b o e).2 (I.ok.nofr e) (I.ok.noex b o e),I.base.free b o (I.ok.bs b o e).1 (I.ok.bs b o e).2 (I.ok.noex b o e)⟩
theorem Inv.bk (I:Inv X pins σ H s):∀ b o,X.base.get? b=some o→s.heap.get? b=some o:=fun b o e=>(I.bs b o e).1
theorem Inv.mod (I:Inv X pins σ H s):Mod X.K X.mg X.base:=I.ok.mod
theorem Inv.kIn (I:Inv X pins σ H s):X.K.In s.heap:=I.ok.mod.kin.keeps I.bk
theorem Inv.fr (I:Inv X pins σ H s):∃ m,Fr X.base X.env.locals s.heap m:=
 let ⟨m,hn,_⟩:=I.loc
 ⟨m,hn,I.bk,Nat.le_trans I.ok.bsz I.ok.above⟩
theorem Inv.lt (I:Inv X pins σ H s):X.env.locals<s.heap.objs.size:=let ⟨_,hn,_⟩:=I.loc;hn.lt
theorem Inv.sz (I:Inv X pins σ H s):X.s₀.heap.objs.size≤s.heap.objs.size:=Nat.le_trans I.ok.above (Nat.le_of_lt I.lt)
theorem Inv.nofs (I:Inv X pins σ H s) {a:Addr} (h:s.heap.objs.size≤a):a∉X.fs:=fun hb=>by
 obtain ⟨_,o,ho,_⟩:=I.ok.funs.mem hb
 exact absurd (Nat.lt_of_lt_of_le (Heap.lt_size ho) (Nat.le_trans I.sz h)) (Nat.lt_irrefl _)
theorem Inv.cne (I:Inv X pins σ H s):∀ x c,X.env.cells.lookup x=some c→c≠X.env.locals:=fun x c e z=>by
 obtain ⟨v,o,ho,hd⟩:=I.cell x c e
 obtain ⟨m,⟨o',es,ep,ho',hd',_⟩,_⟩:=I.loc
 rw [z,ho'] at ho;cases ho;rw [hd'] at hd;cases hd
theorem Inv.funs (I:Inv X pins σ H s):s.heap.FunFrames X.base X.outer:=by
 have all:∀ (l:List Env),(∀ b∈frs l,b∈X.fs)→X.s₀.heap.FunFrames X.base l→s.heap.FunFrames X.base l:=by
  intro l
  induction l with
  | nil=>intro _ _;trivial
  | cons env r ih=>
    intro hs hl
    obtain ⟨hk,⟨L,o,hf,hn,ho,hd⟩,hr⟩:=hl
    have hL:L∈X.fs:=hs L (by unfold frs;rw [List.filterMap_cons,hf];exact List.mem_cons_self)
    obtain ⟨sl,e⟩:=I.base.slot L o ho (I.ok.frf L hL) hL fun z=>I.ok.exfs L z hL
    exact ⟨hk,⟨L,_,hf,hn,e,hd⟩,ih (fun b hb=>hs b (by unfold frs;rw [List.filterMap_cons,hf];exact List.mem_cons_of_mem _ hb)) hr⟩
 exact all X.outer (fun _ hb=>hb) I.ok.funs
theorem Inv.stack (I:Inv X pins σ H s):s.heap.FunFrames X.base X.stack:=by
 rcases I.ok.stk with e | ⟨e,hf⟩
 ·rw [e];exact I.funs
 ·rw [e]
  obtain ⟨m,hn,_⟩:=I.loc
  refine .cons (by rw [I.ok.kind];decide) hf hn ?_ I.funs
  exact Heap.get?_none_of_le (Nat.le_trans I.ok.bsz I.ok.above)
theorem Inv.stkSub (I:Inv X pins σ H s):∀ b∈frs X.stack,b∈X.env.locals::X.fs:=fun b hb=>by
 rcases I.ok.stk with e | ⟨e,hf⟩
 ·rw [e] at hb;exact List.mem_cons_of_mem _ hb
 ·rw [e] at hb
  unfold frs at hb
  rw [List.filterMap_cons,hf] at hb
  exact hb
theorem Inv.stkFree (I:Inv X pins σ H s):∀ b∈frs X.stack,H b=none:=fun b hb=>by
 rcases List.mem_cons.mp (I.stkSub b hb) with e | hb
 ·rw [e];exact I.free
 ·obtain ⟨_,o,ho,_⟩:=I.ok.funs.mem hb
  exact I.base.free b o ho (I.ok.frf b hb) fun z=>I.ok.exfs b z hb
theorem Inv.step {g':Array GenState} {t':Nat} {d':Drawn} {ch:List Addr} (I:Inv X pins σ H s)
 (hch:∀ b∈ch,(b∈X.ex∨X.s₀.heap.objs.size≤b)∧b≠X.env.locals∧(∀ x c,X.env.cells.lookup x=some c→c≠b)∧∀ p∈X.pn++pins,p.1≠b)
 (keep:∀ b o,b≠X.env.locals→b∉X.fs→b∉ch→s.heap.get? b=some o→H b=none→h'.get? b=some o)
 (slot:∀ b o,b≠X.env.locals→b∈X.fs→b∉ch→s.heap.get? b=some o→H b=none→∃ sl,h'.get? b=some {o with slots:=sl}) (free:∀ b o,b∉ch→s.heap.get? b=some o→H b=none→H' b=none)
 (there:∀ b o,b∉ch→s.heap.get? b=some o→∃ o',h'.get? b=some o')
 (tups:∀ b xs,H b=some (.tup xs)→H' b=some (.tup xs)) (frzs:∀ b o u,H b=some (.frz o (.lst u))→H' b=some (.frz o (.lst u))) (tbls:∀ b ps,H b=some (.tbl ps)→∃ more,H' b=some (.tbl (ps++more)))
 (ns:∀ m,s.heap.Ns X.env.locals m→h'.Ns X.env.locals m) (hok:HOk X.prog X.w H' h') (hg:AllBare g'):
 Inv X pins σ H' {s with heap:=h',gens:=g',drawn:=d',toks:=t'}:=by
 have neL:∀ b o,X.s₀.heap.get? b=some o→b≠X.env.locals:=fun b o e=>Nat.ne_of_lt (Nat.lt_of_lt_of_le (Heap.lt_size e) I.ok.above)
 have neC:∀ b o,X.s₀.heap.get? b=some o→b∉X.ex→b∉ch:=fun b o e hx hb=>by
  rcases (hch b hb).1 with z | z
  ·exact hx z
  ·exact absurd (Nat.lt_of_lt_of_le (Heap.lt_size e) z) (Nat.lt_irrefl _)
 have cellK:∀ x c,X.env.cells.lookup x=some c→∀ v,s.heap.IsCell c v→h'.IsCell c v:=fun x c e v ⟨o,ho,hd⟩=>by
  have nch:c∉ch:=fun z=>(hch c z).2.2.1 x c e rfl
  by_cases hc:c∈X.fs
  ·obtain ⟨sl,q⟩:=slot c o (I.cne x c e) hc nch ho (I.freeC x c e)
   exact ⟨_,q,hd⟩
  ·exact ⟨o,keep c o (I.cne x c e) hc nch ho (I.freeC x c e),hd⟩
 refine ⟨I.ok,I.os,hg,⟨fun b o e n hb hx=>?_,fun b o e n hb hx=>?_,fun b o e n hx=>?_,fun b o e hx=>?_,fun b xs e=>tups b xs (I.base.tups b xs e),fun b o xs e=>frzs b o xs (I.base.frzs b o xs e),fun b ps e=>?_⟩,?_,fun x c e=>?_,?_,fun x c e=>?_,fun p hp=>?_,hok,I.len⟩
 ·exact keep b o (neL b o e) hb (neC b o e hx) (I.base.keep b o e n hb hx) (I.base.free b o e n hx)
 ·obtain ⟨sl,e1⟩:=I.base.slot b o e n hb hx
  obtain ⟨sl',e2⟩:=slot b _ (neL b o e) hb (neC b o e hx) e1 (I.base.free b o e n hx)
  exact ⟨sl',e2⟩
 ·obtain ⟨o',e1⟩:=I.base.there b o e hx
  exact free b o' (neC b o e hx) e1 (I.base.free b o e n hx)
 ·obtain ⟨o',e1⟩:=I.base.there b o e hx
  exact there b o' (neC b o e hx) e1
 ·obtain ⟨m1,e1⟩:=I.base.tbls b ps e
  obtain ⟨m2,e2⟩:=tbls b _ e1
  exact ⟨m1++m2,by rw [e2,Array.append_assoc]⟩
 ·obtain ⟨m,hn,hl⟩:=I.loc
  refine ⟨m,ns m hn,fun i x v e1 e2 e3=>?_⟩
  obtain ⟨u,r,l⟩:=hl i x v e1 e2 e3
  refine ⟨u,r,?_⟩
  rcases l with l | ⟨k,c,e,z⟩
  ·exact .inl l
  ·exact .inr ⟨k,c,e,cellK x c e _ z⟩
 ·obtain ⟨v,z⟩:=I.cell x c e
  exact ⟨v,cellK x c e v z⟩
 ·obtain ⟨m,⟨o,_,_,ho,_⟩,_⟩:=I.loc
  exact free _ o (fun z=>(hch _ z).2.1 rfl) ho I.free
 ·obtain ⟨v,o,ho,hd⟩:=I.cell x c e
  exact free c o (fun z=>(hch c z).2.2.1 x c e rfl) ho (I.freeC x c e)
 ·obtain ⟨e,n,ne,nf,d⟩:=I.pin p hp
  have nch:p.1∉ch:=fun z=>(hch p.1 z).2.2.2 p hp rfl
  exact ⟨keep p.1 p.2 ne nf nch e n,free p.1 p.2 nch e n,ne,nf,d⟩
theorem Inv.un {t':Nat} (I:Inv X pins σ H s) (u:Un X.fs [] H H' s.heap h') (hok:HOk X.prog X.w H' h'):Inv X pins σ H' {s with heap:=h',toks:=t'}:=by
 obtain ⟨m,⟨o,es,ep,ho,r⟩,_⟩:=id I.loc
 obtain ⟨sl,hL⟩:=u.any ho I.free (by simp)
 exact I.step (g':=s.gens) (d':=s.drawn) (ch:=[]) (fun _ z=>nomatch z) (fun b o _ hb _ e n=>u.keep b o e n hb (by simp)) (fun b o _ hb _ e n=>u.slot b o e n hb (by simp)) (fun b o _ e n=>u.free b o e n (by simp)) (fun b o _ e=>u.there b o e (by simp)) u.tups u.frzs u.tbls (fun m' hm=>by
  obtain ⟨o',es',ep',ho',r'⟩:=hm
  rw [ho] at ho';cases ho'
  exact ⟨_,es',ep',hL,r'⟩) hok I.bare
theorem Inv.call {g':Array GenState} {t':Nat} {d':Drawn} {ch:List Addr} (I:Inv X pins σ H s) (u:Un (frs X.stack) ch H H' s.heap h') (hok:HOk X.prog X.w H' h') (hg:AllBare g')
 (hch:∀ b∈ch,(b∈X.ex∨X.s₀.heap.objs.size≤b)∧b≠X.env.locals∧(∀ x c,X.env.cells.lookup x=some c→c≠b)∧∀ p∈X.pn++pins,p.1≠b):
 Inv X pins σ H' {s with heap:=h',gens:=g',drawn:=d',toks:=t'}:=by
 obtain ⟨m,⟨o,es,ep,ho,r⟩,_⟩:=id I.loc
 obtain ⟨sl,hL⟩:=u.any ho I.free fun z=>(hch _ z).2.1 rfl
 exact I.step (ch:=ch) hch (fun b o hL hb hc e n=>u.keep b o e n (fun z=>(List.mem_cons.mp (I.stkSub b z)).elim hL hb) hc) (fun b o _ _ hc e n=>u.any e n hc) (fun b o hc e n=>u.free b o e n hc) (fun b o hc e=>u.there b o e hc) u.tups u.frzs u.tbls (fun m' hm=>by
  obtain ⟨o',es',ep',ho',r'⟩:=hm
  rw [ho] at ho';cases ho'
  exact ⟨_,es',ep',hL,r'⟩) hok hg
theorem Inv.turned {t':Nat} {it:Addr} (I:Inv X pins σ H s) (k:∀ b o,b≠it→s.heap.get? b=some o→h'.get? b=some o) (hn:H it=none) (hL:it≠X.env.locals)
 (h1:it∈X.ex∨X.s₀.heap.objs.size≤it) (h2:∀ x c,X.env.cells.lookup x=some c→c≠it) (h3:∀ p∈X.pn++pins,p.1≠it):Inv X pins σ H {s with heap:=h',toks:=t'}:=by
 have nit:∀ b u,H b=some u→b≠it:=fun b u e z=>by rw [z,hn] at e;cases e
 refine I.step (g':=s.gens) (d':=s.drawn) (ch:=[it]) (fun b hb=>?_) (fun b o _ _ hc e _=>k b o (fun z=>hc (by simp [z])) e) (fun b o _ _ hc e _=>⟨o.slots,k b o (fun z=>hc (by simp [z])) e⟩) (fun _ _ _ _ n=>n)
  (fun b o hc e=>⟨o,k b o (fun z=>hc (by simp [z])) e⟩) (fun _ _ e=>e) (fun _ _ _ e=>e) (fun b ps e=>⟨#[],by rw [e];simp⟩) (fun m hm=>?_) (fun b u e=>?_) I.bare
 ·have e:b=it:=by simpa using hb
  subst e
  exact ⟨h1,hL,h2,h3⟩
 ·obtain ⟨o,es,ep,ho,r⟩:=hm
  exact ⟨o,es,ep,k _ o (Ne.symm hL) ho,r⟩
 ·refine (I.hok b u e).stay (fun c v hc q=>k c v ?_ q) (fun _ q=>q) fun _ _ q=>q
  rcases hc with z | z
  ·rw [z];exact nit b u e
  ·exact nit c _ z
theorem Inv.tok (I:Inv X pins σ H s) (t:Nat):Inv X pins σ H {s with toks:=t}:=I.un (h':=s.heap) (t':=t) Un.refl I.hok
theorem Inv.kept {t':Nat} (I:Inv X pins σ H s) (k:∀ b u,s.heap.get? b=some u→h'.get? b=some u):Inv X pins σ H {s with heap:=h',toks:=t'}:=I.un (Un.kept k) (I.hok.kept k)
theorem Inv.laid {a:Addr} {o:HO} {t':Nat} (I:Inv X pins σ H s) (k:∀ b u,s.heap.get? b=some u→h'.get? b=some u) (hp:s.heap.objs.size≤a) (new:ObjOk X.prog X.w (upd H a o) h' a o):
 Inv X pins σ (upd H a o) {s with heap:=h',toks:=t'}:=I.un (Un.laid k hp (I.hok.fresh hp)) (I.hok.laid k hp new)
theorem Inv.write {x e:Addr} {o:HO} {t':Nat} (I:Inv X pins σ H s) (mu:Mut (H x)) (he:e=x∨H e=some (.own x)) (k:∀ b u,b≠e→s.heap.get? b=some u→h'.get? b=some u) (heo:∃ u,h'.get? e=some u)
 (new:ObjOk X.prog X.w (upd H x o) h' x o):Inv X pins σ (upd H x o) {s with heap:=h',toks:=t'}:=I.un (Un.write mu he k heo) (I.hok.write mu he k heo new)
theorem Inv.weak {σ':List (Option V)} (I:Inv X pins σ H s) (hl:σ'.length=σ.length) (w:∀ (i:Nat) v,σ'[i]?=some (some v)→σ[i]?=some (some v)):Inv X pins σ' H s:=
 ⟨I.ok,I.os,I.bare,I.base,let ⟨m,hn,hl'⟩:=I.loc;⟨m,hn,fun i x v e1 e2 e3=>hl' i x v e1 (w i v e2) e3⟩,I.cell,I.free,I.freeC,I.pin,I.hok,hl.trans I.len⟩
theorem Inv.pins_of {pins':List (Addr×Obj)} (I:Inv X pins σ H s) (h:∀ p∈pins',s.heap.get? p.1=some p.2∧H p.1=none∧p.1≠X.env.locals∧p.1∉X.fs∧∀ v,p.2.data ≠ .cell v):Inv X pins' σ H s:=
 ⟨I.ok,I.os,I.bare,I.base,I.loc,I.cell,I.free,I.freeC,fun p hp=>(List.mem_append.mp hp).elim (fun z=>I.pin p (List.mem_append_left _ z)) (h p),I.hok,I.len⟩
theorem CJ {N:List Str} (hN:N.Nodup) {i j:Nat} {x:Str} (a:N[i]?=some x) (b:N[j]?=some x):i=j:=by
 obtain ⟨h1,e1⟩:=List.getElem?_eq_some_iff.mp a
 obtain ⟨h2,e2⟩:=List.getElem?_eq_some_iff.mp b
 exact (List.getElem_inj hN).mp (e1.trans e2.symm)
theorem Cn {M:Model} {A:Around} {E:Value→Shared→Prop} {i:Nat} {x:Str} {v:V} {u:Value} {Q:Unit→Shared→Prop} (I:Inv X pins σ H s) (hN:X.N.Nodup) (hi:X.N[i]?=some x) (hx:Loc X.env.scope x) (r:RelV v u)
 (h:∀ s',Inv X pins (σ.set i (some v)) H s'→(∃ a,Heap.SameBut a s.heap s'.heap∧(a=X.env.locals∨X.env.cells.lookup x=some a))→Q () s') (hf:X.fn x=true∨X.env.scope.names.lookup x=some .local:=by first | exact .inl rfl | exact .inr rfl | assumption):wpAny M A (storeName X.env x u) Q E s:=by
 obtain ⟨m,hn,hl⟩:=id I.loc
 have hcls:(X.env.scope.kind == .class||(X.env.scope.kind == .module&&X.env.locals != X.env.globals))=false:=by rw [I.ok.kind];rfl
 have hiσ:i<σ.length:=by rw [I.len];exact (List.getElem?_eq_some_iff.mp hi).1
 have cne:=I.cne
 have tracked:∀ {a:Addr} {h':Heap},(∃ o,s.heap.get? a=some o∧H a=none)→Heap.SameBut a s.heap h'→HOk X.prog X.w H h':=fun {a h'} ha hs b ob e=>by
  obtain ⟨_,_,hfree⟩:=ha
  refine (I.hok b ob e).stay (fun c w' hc q=>(hs.2 c ?_).trans q) (fun _ q=>q) fun _ _ q=>q
  rintro rfl
  rcases hc with rfl | hc
  ·rw [hfree] at e;cases e
  ·rw [hfree] at hc;cases hc
 rcases hx with hk | hk
 ·refine wpAny_storeName_local hk hn (fun h' hn' hs=>?_) hcls
  obtain ⟨oL,_,_,hoL,_⟩:=id hn
  refine h _ ⟨I.ok,I.os,I.bare,⟨fun b o e n hb hx=>?_,fun b o e n hb hx=>?_,I.base.free,fun b o e hx=>?_,I.base.tups,I.base.frzs,I.base.tbls⟩,⟨_,hn',fun j y v' e1 e2 e3=>?_⟩,fun y c e=>?_,I.free,I.freeC,fun p hp=>?_,tracked ⟨oL,hoL,I.free⟩ hs,by simpa using I.len⟩ ⟨_,hs,.inl rfl⟩
  ·exact (hs.2 b (Nat.ne_of_lt (Nat.lt_of_lt_of_le (Heap.lt_size e) I.ok.above))).trans (I.base.keep b o e n hb hx)
  ·obtain ⟨sl,e1⟩:=I.base.slot b o e n hb hx
   exact ⟨sl,(hs.2 b (Nat.ne_of_lt (Nat.lt_of_lt_of_le (Heap.lt_size e) I.ok.above))).trans e1⟩
  ·obtain ⟨o',e1⟩:=I.base.there b o e hx
   exact ⟨o',(hs.2 b (Nat.ne_of_lt (Nat.lt_of_lt_of_le (Heap.lt_size e) I.ok.above))).trans e1⟩
  ·by_cases hj:j=i
   ·subst hj
    rw [hi] at e1;cases e1
    rw [List.getElem?_set_self hiσ] at e2
    cases e2
    exact ⟨u,r,.inl ⟨hk,by simp⟩⟩
   ·rw [List.getElem?_set_ne (Ne.symm hj)] at e2
    obtain ⟨u',r',q⟩:=hl j y v' e1 e2 e3
    refine ⟨u',r',?_⟩
    rcases q with ⟨k,e⟩ | ⟨k,c,e,z⟩
    ·refine .inl ⟨k,?_⟩
     have:y≠x:=fun e=>hj (CJ hN e1 (e▸hi))
     simp [this,e]
    ·exact .inr ⟨k,c,e,z.sameBut hs (cne y c e)⟩
  ·obtain ⟨w',z⟩:=I.cell y c e
   exact ⟨w',z.sameBut hs (cne y c e)⟩
  ·obtain ⟨e,n,ne,nf,d⟩:=I.pin p hp
   exact ⟨(hs.2 p.1 ne).trans e,n,ne,nf,d⟩
 ·have hfn:X.fn x=true:=by
   rcases hf with z | z
   ·exact z
   ·rw [z] at hk;cases hk
  obtain ⟨c,hc⟩:=I.ok.has x (.inl hk)
  obtain ⟨w',z⟩:=I.cell x c hc
  refine wpAny_storeName_cell I.ok.kind hk hc z (fun h' hc' hs=>?_)
  obtain ⟨oc,hoc,hocd⟩:=id z
  refine h {s with heap:=h'} ⟨I.ok,I.os,I.bare,⟨fun b o e n hb hx=>?_,fun b o e n hb hx=>?_,I.base.free,fun b o e hx=>?_,I.base.tups,I.base.frzs,I.base.tbls⟩,⟨m,hn.sameBut hs (Ne.symm (cne x c hc)),fun j y v' e1 e2 e3=>?_⟩,fun y c' e=>?_,I.free,I.freeC,fun p hp=>?_,tracked ⟨oc,hoc,I.freeC x c hc⟩ hs,by simpa using I.len⟩ ⟨c,hs,.inr hc⟩
  ·exact (hs.2 b (Nat.ne_of_lt (Nat.lt_of_lt_of_le (Heap.lt_size e) (I.ok.cab x c hfn hc)))).trans (I.base.keep b o e n hb hx)
  ·obtain ⟨sl,e1⟩:=I.base.slot b o e n hb hx
   exact ⟨sl,(hs.2 b (Nat.ne_of_lt (Nat.lt_of_lt_of_le (Heap.lt_size e) (I.ok.cab x c hfn hc)))).trans e1⟩
  ·obtain ⟨o',e1⟩:=I.base.there b o e hx
   exact ⟨o',(hs.2 b (Nat.ne_of_lt (Nat.lt_of_lt_of_le (Heap.lt_size e) (I.ok.cab x c hfn hc)))).trans e1⟩
  ·by_cases hj:j=i
   ·subst hj
    rw [hi] at e1;cases e1
    rw [List.getElem?_set_self hiσ] at e2
    cases e2
    exact ⟨u,r,.inr ⟨.inl hk,c,hc,hc'⟩⟩
   ·rw [List.getElem?_set_ne (Ne.symm hj)] at e2
    obtain ⟨u',r',q⟩:=hl j y v' e1 e2 e3
    refine ⟨u',r',?_⟩
    rcases q with q | ⟨k,c',e,z'⟩
    ·exact .inl q
    ·refine .inr ⟨k,c',e,z'.sameBut hs ?_⟩
     rintro rfl
     exact hj (CJ hN e1 (I.ok.inj _ _ _ e hc▸hi))
  ·by_cases hcc:c'=c
   ·subst hcc;exact ⟨_,hc'⟩
   ·obtain ⟨w2,z2⟩:=I.cell y c' e
    exact ⟨w2,z2.sameBut hs hcc⟩
  ·obtain ⟨e,n,ne,nf,d⟩:=I.pin p hp
   refine ⟨(hs.2 p.1 ?_).trans e,n,ne,nf,d⟩
   intro q
   rw [q,hoc] at e
   have q':oc=p.2:=Option.some.inj e
   exact d w' (by rw [← q'];exact hocd)
theorem Ax {M:Model} {A:Around} {E:Value→Shared→Prop} {i:Nat} {x:Str} {v:V} {u:Value} {Q:Unit→Shared→Prop} (I:Inv X pins σ H s) (hN:X.N.Nodup) (hi:X.N[i]?=some x) (hx:Loc X.env.scope x) (r:RelV v u)
 (h:∀ s',Inv X pins (σ.set i (some v)) H s'→Q () s') (hf:X.fn x=true∨X.env.scope.names.lookup x=some .local:=by first | exact .inl rfl | exact .inr rfl | assumption):wpAny M A (storeName X.env x u) Q E s:=
 Cn I hN hi hx r (fun s' I' _=>h s' I') hf
theorem Inv.call' {s':Shared} {ch:List Addr} (I:Inv X pins σ H s) (ho:s'.os=s.os) (u:Un (frs X.stack) ch H H' s.heap s'.heap) (hok:HOk X.prog X.w H' s'.heap) (hg:AllBare s'.gens)
 (hch:∀ b∈ch,(b∈X.ex∨X.s₀.heap.objs.size≤b)∧b≠X.env.locals∧(∀ x c,X.env.cells.lookup x=some c→c≠b)∧∀ p∈X.pn++pins,p.1≠b):Inv X pins σ H' s':=by
 obtain ⟨h',g',d',t',o'⟩:=s'
 have e:o'=s.os:=ho
 subst e
 exact I.call (g':=g') (t':=t') (d':=d') u hok hg hch
end
noncomputable abbrev XK:=Value→Option Addr→Hp→Prop
noncomputable abbrev St:=List (Option V)
noncomputable abbrev VK:=V→Hp→Prop
noncomputable abbrev TE:=St→Hp→VK→Prop
noncomputable abbrev TT:=St→Hp→(Bool→Hp→Prop)→Prop
noncomputable abbrev TA:=St→Hp→(List V→Hp→Prop)→Prop
structure Ends where
 nx:St→Hp→Prop
 rt:VK
 bk:St→Hp→Prop:=fun _ _=>False
 ct:St→Hp→Prop:=fun _ _=>False
noncomputable abbrev TS:=Ends→St→Hp→Prop
noncomputable def EP (X:Cx) (pins:List (Addr×Obj)) (σ:St) (Q:VK) (u:Value) (s':Shared):Prop:=∃ v H',Inv X pins σ H' s'∧RelV v u∧Q v H'
noncomputable def TP (X:Cx) (pins:List (Addr×Obj)) (σ:St) (Q:Bool→Hp→Prop) (b:Bool) (s':Shared):Prop:=∃ H',Inv X pins σ H' s'∧Q b H'
noncomputable def AP (X:Cx) (pins:List (Addr×Obj)) (σ:St) (Q:List V→Hp→Prop) (us:List Value) (s':Shared):Prop:=∃ vs H',Inv X pins σ H' s'∧Vals vs us∧Q vs H'
noncomputable def SP (X:Cx) (pins:List (Addr×Obj)) (D:Ends) (f:Flow) (s':Shared):Prop:=
 match f with
 | .next=>∃ σ' H',Inv X pins σ' H' s'∧D.nx σ' H'
 | .brk=>∃ σ' H',Inv X pins σ' H' s'∧D.bk σ' H'
 | .cont=>∃ σ' H',Inv X pins σ' H' s'∧D.ct σ' H'
 | .ret u=>∃ v σ' H',Inv X pins σ' H' s'∧RelV v u∧D.rt v H'
noncomputable def PE (X:Cx) (e:Expr) (t:TE):Prop:=
 ∀ (pins:List (Addr×Obj)) (s:Shared) (σ:St) (H:Hp) (Q:VK),Inv X pins σ H s→t σ H Q→wpAny (model X.prog X.w) X.A (eval e X.env) (EP X pins σ Q) X.xe s
noncomputable def PT (X:Cx) (e:Expr) (t:TT):Prop:=
 ∀ (pins:List (Addr×Obj)) (s:Shared) (σ:St) (H:Hp) (Q:Bool→Hp→Prop),Inv X pins σ H s→t σ H Q→wpAny (model X.prog X.w) X.A (isTrue e X.env (eval e X.env)) (TP X pins σ Q) X.xe s
noncomputable def PW (X:Cx) (e:Expr) (t:TT):Prop:=
 ∀ (whole:Sem Value) (pins:List (Addr×Obj)) (s:Shared) (σ:St) (H:Hp) (Q:Bool→Hp→Prop),Inv X pins σ H s→t σ H Q→wpAny (model X.prog X.w) X.A (isTrue e X.env whole) (TP X pins σ Q) X.xe s
theorem PW.pt {X:Cx} {e:Expr} {t:TT} (h:PW X e t):PT X e t:=h _
noncomputable def PA (X:Cx) (es:List Expr) (t:TA):Prop:=
 ∀ (pos:Pos) (pins:List (Addr×Obj)) (s:Shared) (σ:St) (H:Hp) (Q:List V→Hp→Prop),Inv X pins σ H s→t σ H Q→wpAny (model X.prog X.w) X.A (spliced (backTo pos (starEach es X.env))) (AP X pins σ Q) X.xe s
noncomputable def PS (X:Cx) (st:Stmt) (t:TS):Prop:=
 ∀ (pins:List (Addr×Obj)) (s:Shared) (σ:St) (H:Hp) (D:Ends),Inv X pins σ H s→t D σ H→wpAny (model X.prog X.w) X.A (exec st X.env) (SP X pins D) X.xe s
noncomputable def PSs (X:Cx) (st:List Stmt) (t:TS):Prop:=
 ∀ (pins:List (Addr×Obj)) (s:Shared) (σ:St) (H:Hp) (D:Ends),Inv X pins σ H s→t D σ H→wpAny (model X.prog X.w) X.A (execs st X.env) (SP X pins D) X.xe s
theorem thn {α:Type} {t:Sem α} {Q Q':α→Shared→Prop} {M:Model} {A:Around} {E:Value→Shared→Prop} {s:Shared} (h:wpAny M A t Q E s) (hQ:∀ a s,Q a s→Q' a s):wpAny M A t Q' E s:=wpAny_mono h hQ fun _ _ x=>x
open PySem PySem.Spec PyProof.Rows
section
variable {X:Cx}
noncomputable def JY (i:Nat):TE:=fun σ H Q=>∃ v,σ[i]?=some (some v)∧Q v H
noncomputable def tC (v:V):TE:=fun _ H Q=>Q v H
theorem Il {i:Nat} {x:Str} {pos:Pos} (hN:X.N[i]?=some x) (hv:Vis X.env.scope x) (hd:(x == ("__debug__":Str))=false:=by decide) (hcd:(x == ("__classdict__":Str))=false:=by decide):PE X (.Name x pos) (JY i):=by
 intro pins s σ H Q I h
 obtain ⟨v,e,h⟩:=h
 obtain ⟨m,hn,hl⟩:=I.loc
 obtain ⟨u,r,l⟩:=hl i x v hN e hv
 have fin:EP X pins σ Q u s:=⟨v,H,I,r,h⟩
 rcases l with ⟨hk,hm⟩ | ⟨hk,c,hc,hcell⟩
 ·exact wpAny_Name (wpAny_loadName_local I.ok.kind hk hn hm fin) hd
 ·rcases hk with hk | hk
  ·exact wpAny_Name (wpAny_loadName_cell I.ok.kind hk hc hcell fin) hd
  ·exact wpAny_Name (wpAny_loadName_free I.ok.kind hk hc hcell fin hcd) hd
theorem d0 {i j pos}:PE X (.Constant (.int i) j pos) (tC (.int i)):=fun _ _ _ H _ I h=>wpAny_Constant_int ⟨.int i,H,I.tok _,⟨_,rfl⟩,h⟩
theorem Ep {b j pos}:PE X (.Constant (.bool b) j pos) (tC (.bl b)):=fun _ _ _ H _ I h=>Constant_bool ⟨.bl b,H,I,rfl,h⟩
theorem BO {j pos}:PE X (.Constant .none j pos) (tC .non):=fun _ _ _ H _ I h=>Constant_none ⟨.non,H,I,rfl,h⟩
theorem x6 {x j pos}:PE X (.Constant (.str x) j pos) (tC (.str x)):=fun _ _ _ H _ I h=>Calls.Constant_str ⟨.str x,H,I.tok _,⟨_,rfl⟩,h⟩
noncomputable def Gl (X:Cx) (x:Str):Prop:=X.env.kindOf x=some .globalImplicit
theorem BX {E:Value→Shared→Prop} {pins:List (Addr×Obj)} {s:Shared} {σ:St} {H:Hp} {x:Str} {u:Value} {pos:Pos} {Q:Value→Shared→Prop} (I:Inv X pins σ H s) (hg:Gl X x) (hm:X.mg x=some u) (h:Q u s)
 (hd:(x == ("__debug__":Str))=false:=by decide):wpAny (model X.prog X.w) X.A (eval (.Name x pos) X.env) Q E s:=
 Calls.Name_function_global I.ok.kind hg (Calls.loadGlobal_global (by rw [I.ok.glob];exact I.mod.glob.keeps I.bk) hm h) hd
theorem Ay {E:Value→Shared→Prop} {pins:List (Addr×Obj)} {s:Shared} {σ:St} {H:Hp} {x:Str} {u:Value} {pos:Pos} {Q:Value→Shared→Prop} (I:Inv X pins σ H s) (hg:Gl X x) (hm:X.mg x=none) (hv:bootBuiltins x=some u) (h:Q u s)
 (hn:x≠"__name__":=by decide) (hd:(x == ("__debug__":Str))=false:=by decide):wpAny (model X.prog X.w) X.A (eval (.Name x pos) X.env) Q E s:=by
 obtain ⟨mb,h1,h2⟩:=I.mod.blt
 exact Calls.Name_function_global I.ok.kind hg (Calls.loadGlobal_builtin (by rw [I.ok.glob];exact I.mod.glob.keeps I.bk) hm (by rw [I.ok.blt];exact h1.keeps I.bk) ((h2 x hn).trans hv) h) hd
theorem AR {x:Str} {v:V} {u:Value} {pos:Pos} (hg:Gl X x) (hm:X.mg x=some u) (r:RelV v u) (hd:(x == ("__debug__":Str))=false:=by decide):PE X (.Name x pos) (tC v):=
 fun _ _ _ H _ I h=>BX I hg hm ⟨v,H,I,r,h⟩ hd
theorem j4 {x:Str} {v:V} {u:Value} {pos:Pos} (hg:Gl X x) (hm:X.mg x=none) (hv:bootBuiltins x=some u) (r:RelV v u) (hn:x≠"__name__":=by decide) (hd:(x == ("__debug__":Str))=false:=by decide):PE X (.Name x pos) (tC v):=
 fun _ _ _ H _ I h=>Ay I hg hm hv ⟨v,H,I,r,h⟩ hn hd
variable {a b:Expr} {ta tb:TE} {pos:Pos}
noncomputable def PC (X:Cx) (op:CmpOp) (a b:Expr) (t:TE):Prop:=
 ∀ (pins:List (Addr×Obj)) (s:Shared) (σ:St) (H:Hp) (Q:VK),Inv X pins σ H s→t σ H Q→
  wpAny (model X.prog X.w) X.A (eval a X.env) (fun v s₁=>wpAny (model X.prog X.w) X.A (eval b X.env) (fun u s₂=>wpAny (model X.prog X.w) X.A (compareOp op v u) (EP X pins σ Q) X.xe s₂) X.xe s₁) X.xe s
theorem Dh (b:Expr) {op:CmpOp} (h:op ≠ .In) (h2:op ≠ .NotIn):behindInMarks op b=false:=by
 have e1:(op == CmpOp.In)=false:=by cases op<;>first | rfl | exact absurd rfl h
 have e2:(op == CmpOp.NotIn)=false:=by cases op<;>first | rfl | exact absurd rfl h2
 cases b<;>simp [behindInMarks,e1,e2]
noncomputable def KC (ta:TE):TE:=fun σ H Q=>ta σ H fun x H1=>Q (.bl (decide (x = .non))) H1
noncomputable def JZ (ta:TE):TE:=fun σ H Q=>ta σ H fun x H1=>Q (.bl (!decide (x = .non))) H1
theorem RelV.none_iff {x:V} {v:Value} (r:RelV x v):(v == Value.none)=decide (x = .non):=by
 cases x with
 | non=>cases r;rfl
 | bl _=>cases r;rfl
 | int _=>obtain ⟨t,rfl⟩:=r;rfl
 | str _=>obtain ⟨t,rfl⟩:=r;rfl
 | byt _=>obtain ⟨t,rfl⟩:=r;rfl
 | flt _=>obtain ⟨t,rfl⟩:=r;rfl
 | ref _=>cases r;rfl
 | ty _=>cases r;rfl
theorem A1 {j pos'} (ha:PE X a ta):PC X .Is a (.Constant .none j pos') (KC ta):=by
 intro pins s σ H Q I h
 refine thn (ha pins s σ H _ I h) fun v s1 ⟨x,H1,I1,r1,q1⟩=>?_
 exact Constant_none (is_none_gen ⟨.bl _,H1,I1,by rw [r1.none_iff];rfl,q1⟩)
theorem B5 {j pos'} (ha:PE X a ta):PC X .IsNot a (.Constant .none j pos') (JZ ta):=by
 intro pins s σ H Q I h
 refine thn (ha pins s σ H _ I h) fun v s1 ⟨x,H1,I1,r1,q1⟩=>?_
 exact Constant_none (isnot_none_gen ⟨.bl _,H1,I1,by rw [r1.none_iff];rfl,q1⟩)
noncomputable def tB (t:TE):TT:=fun σ H Q=>t σ H fun x H1=>∃ c,x = .bl c∧Q c H1
theorem GB {op:CmpOp} {t:TE} (h:PC X op a b t) (h1:behindInMarks op b=false:=by first | exact Dh _ (by decide) (by decide) | rfl):PE X (.Compare a [op] [b] pos) t:=fun pins s σ H Q I hw=>wpAny_Compare1 (h pins s σ H Q I hw) h1
theorem v5 {op:CmpOp} {t:TE} (h:PC X op a b t) (h1:behindInMarks op b=false:=by first | exact Dh _ (by decide) (by decide) | rfl):PT X (.Compare a [op] [b] pos) (tB t):=by
 intro pins s σ H Q I hw
 refine wpAny_isTrue_Compare1 (thn (h pins s σ H _ I hw) fun v s1 h1=>thn h1 fun u s2 h2=>thn h2 fun c s3 ⟨x,H1,I1,r1,q1⟩=>?_) h1
 obtain ⟨d,rfl,q⟩:=q1
 cases r1
 exact wpAny_truthy_bool ⟨H1,I1,q⟩
theorem u9 {e:Expr} {t:TE} (h:PE X e t) (he:∀ whole,isTrue e X.env whole=(do let v ← whole;standAt e.pos;holding [v] (truthy v)):=by intro _;rfl):PT X e (tB t):=by
 intro pins s σ H Q I hw
 refine isTrue_plain (thn (h pins s σ H _ I hw) fun v s1 ⟨x,H1,I1,r1,q1⟩=>?_) (he _)
 obtain ⟨d,rfl,q⟩:=q1
 cases r1
 exact wpAny_truthy_bool ⟨H1,I1,q⟩
variable {tA tB':TT} {rest:List Expr}
noncomputable def KD (t u:TT):TT:=fun σ H Q=>t σ H fun c H1=>if c=true then u σ H1 Q else Q false H1
noncomputable def tOr (t u:TT):TT:=fun σ H Q=>t σ H fun c H1=>if c=true then Q true H1 else u σ H1 Q
noncomputable def KG (t:TT):TT:=fun σ H Q=>t σ H fun c H1=>Q (!c) H1
theorem Aa (ha:PT X a tA):PW X (.BoolOp .And [a] pos) tA:=by
 intro wh pins s σ H Q I h
 refine isTrue_and (thn (ha pins s σ H Q I h) fun c s1 e=>?_)
 cases c with
 | true=>exact isTrue_and_nil e
 | false=>exact e
theorem Az (ha:PT X a tA):PW X (.BoolOp .Or [a] pos) tA:=by
 intro wh pins s σ H Q I h
 refine isTrue_or (thn (ha pins s σ H Q I h) fun c s1 e=>?_)
 cases c with
 | false=>exact isTrue_or_nil e
 | true=>exact e
theorem B0 (ha:PT X a tA) (hb:PW X (.BoolOp .And (b::rest) pos) tB'):PW X (.BoolOp .And (a::b::rest) pos) (KD tA tB'):=by
 intro wh pins s σ H Q I h
 refine isTrue_and (thn (ha pins s σ H _ I h) fun c s1 ⟨H1,I1,q1⟩=>?_)
 cases c with
 | true=>exact hb wh pins s1 σ H1 Q I1 q1
 | false=>exact ⟨H1,I1,q1⟩
theorem C5 (ha:PT X a tA) (hb:PW X (.BoolOp .Or (b::rest) pos) tB'):PW X (.BoolOp .Or (a::b::rest) pos) (tOr tA tB'):=by
 intro wh pins s σ H Q I h
 refine isTrue_or (thn (ha pins s σ H _ I h) fun c s1 ⟨H1,I1,q1⟩=>?_)
 cases c with
 | true=>exact ⟨H1,I1,q1⟩
 | false=>exact hb wh pins s1 σ H1 Q I1 q1
theorem CK (ha:PT X a tA):PT X (.UnaryOp .Not a pos) (KG tA):=by
 intro pins s σ H Q I h
 exact isTrue_not (ha pins s σ H (fun c H1=>Q (!c) H1) I h)
noncomputable def Ja (ta tb:TE):TE:=fun σ H Q=>ta σ H fun x H1=>∃ c,x = .bl c∧if c=true then tb σ H1 Q else Q (.bl false) H1
noncomputable def KH (ta tb:TE):TE:=fun σ H Q=>ta σ H fun x H1=>∃ c,x = .bl c∧if c=true then Q (.bl true) H1 else tb σ H1 Q
noncomputable def Jb (ta:TE):TE:=fun σ H Q=>ta σ H fun x H1=>∃ c,x = .bl c∧Q (.bl (!c)) H1
theorem AU {op} {t:TE} (h:PE X a t):PE X (.BoolOp op [a] pos) t:=fun pins s σ H Q I hw=>BoolOp_one (h pins s σ H Q I hw)
theorem AM (ha:PE X a ta) (hb:PE X (.BoolOp .And (b::rest) pos) tb):PE X (.BoolOp .And (a::b::rest) pos) (Ja ta tb):=by
 intro pins s σ H Q I h
 refine BoolOp_and (thn (ha pins s σ H _ I h) fun v s1 ⟨x,H1,I1,r1,q1⟩=>?_)
 obtain ⟨c,rfl,q1⟩:=q1
 cases r1
 refine wpAny_truthy_bool ?_
 cases c with
 | true=>exact hb pins s1 σ H1 Q I1 q1
 | false=>exact ⟨.bl false,H1,I1,rfl,q1⟩
theorem Jc (ha:PE X a ta) (hb:PE X (.BoolOp .Or (b::rest) pos) tb):PE X (.BoolOp .Or (a::b::rest) pos) (KH ta tb):=by
 intro pins s σ H Q I h
 refine BoolOp_or (thn (ha pins s σ H _ I h) fun v s1 ⟨x,H1,I1,r1,q1⟩=>?_)
 obtain ⟨c,rfl,q1⟩:=q1
 cases r1
 refine wpAny_truthy_bool ?_
 cases c with
 | false=>exact hb pins s1 σ H1 Q I1 q1
 | true=>exact ⟨.bl true,H1,I1,rfl,q1⟩
theorem EK (ha:PE X a ta):PE X (.UnaryOp .Not a pos) (Jb ta):=by
 intro pins s σ H Q I h
 refine UnaryOp_ (thn (ha pins s σ H _ I h) fun v s1 ⟨x,H1,I1,r1,q1⟩=>?_)
 obtain ⟨c,rfl,q1⟩:=q1
 cases r1
 exact not_of (wpAny_truthy_bool ⟨.bl (!c),H1,I1,rfl,q1⟩)
noncomputable def tIf (t:TT) (ta tb:TE):TE:=fun σ H Q=>t σ H fun c H1=>if c=true then ta σ H1 Q else tb σ H1 Q
theorem GC {c:Expr} (hc:PT X c tA) (ha:PE X a ta) (hb:PE X b tb):PE X (.IfExp c a b pos) (tIf tA ta tb):=by
 intro pins s σ H Q I h
 refine wpAny_IfExp (thn (hc pins s σ H _ I h) fun d s1 ⟨H1,I1,q1⟩=>?_)
 cases d with
 | true=>exact ha pins s1 σ H1 Q I1 q1
 | false=>exact hb pins s1 σ H1 Q I1 q1
end
open PySem PySem.Spec PyProof.Rows
noncomputable def SqL (K:PySem.W.Frag) (H:Hp) (a:Addr) (xs:List V):Prop:=
 Rd H a (.lst xs)∨
  ∃ (o:Obj) (its:Array Value) (n:Nat),K.lookup a=some o∧o.cls = .type "list"∧o.dict=none∧o.data = .seq its n∧its.size≤sizeLine∧Vals xs its.toList
noncomputable def SqT (K:PySem.W.Frag) (H:Hp) (a:Addr) (xs:List V):Prop:=
 Rd H a (.tup xs)∨
  ∃ (o:Obj) (its:Array Value) (n:Nat),K.lookup a=some o∧o.cls = .type "tuple"∧o.data = .seq its n∧its.size≤sizeLine∧Vals xs its.toList
noncomputable def KI:Value→Option V
 | .none=>some .non
 | .bool b=>some (.bl b)
 | .int i _=>some (.int i)
 | .str x _=>some (.str x)
 | .bytes b _=>some (.byt b)
 | .float b _=>some (.flt b)
 | .ref a=>some (.ref a)
 | .type n=>some (.ty n)
 | _=>none
theorem RelV.abs {x:V} {u:Value} (r:RelV x u):KI u=some x:=by
 cases x with
 | non=>cases r;rfl
 | bl _=>cases r;rfl
 | int _=>obtain ⟨t,rfl⟩:=r;rfl
 | str _=>obtain ⟨t,rfl⟩:=r;rfl
 | byt _=>obtain ⟨t,rfl⟩:=r;rfl
 | flt _=>obtain ⟨t,rfl⟩:=r;rfl
 | ref _=>cases r;rfl
 | ty _=>cases r;rfl
theorem RelV.inj {x y:V} {u:Value} (r:RelV x u) (q:RelV y u):x=y:=Option.some.inj (r.abs.symm.trans q.abs)
theorem Vals.inj:∀ {xs ys:List V} {us:List Value},Vals xs us→Vals ys us→xs=ys
 | _,_,_,.nil,.nil=>rfl
 | _,_,_,.cons r t,.cons r' t'=>by rw [r.inj r',Vals.inj t t']
section
variable {X:Cx} {pins:List (Addr×Obj)} {σ:St} {H:Hp} {s:Shared} {a:Addr} {xs ys:List V}
theorem SqL.of {K:PySem.W.Frag} (h:H a=some (.lst xs)):SqL K H a xs := .inl (.inl h)
theorem SqT.of {K:PySem.W.Frag} (h:H a=some (.tup xs)):SqT K H a xs := .inl (.inl h)
theorem Inv.list (I:Inv X pins σ H s) (h:SqL X.K H a xs):∃ its:List Value,Vals xs its∧PlainL s.heap a its.toArray∧xs.length≤sizeLine:=by
 rcases h with h | ⟨o,its,n,hk,hc,hd,hs,hz,r⟩
 ·obtain ⟨z,its,n,r,e⟩:=h.ok I.hok
  exact ⟨its,r,⟨_,n,e,rfl,rfl,rfl⟩,z⟩
 ·refine ⟨its.toList,r,⟨o,n,I.kIn a o hk,hc,hd,by simpa using hs⟩,?_⟩
  have e:=r.length
  simp only [Array.length_toList] at e
  omega
theorem Inv.tuple (I:Inv X pins σ H s) (h:SqT X.K H a xs):∃ its:List Value,Vals xs its∧IsTup s.heap a its.toArray∧xs.length≤sizeLine:=by
 rcases h with h | ⟨o,its,n,hk,hc,hs,hz,r⟩
 ·obtain ⟨z,its,r,p⟩:=h.ok I.hok
  exact ⟨its,r,p,z⟩
 ·refine ⟨its.toList,r,⟨o,I.kIn a o hk,hc,n,by simpa using hs⟩,?_⟩
  have e:=r.length
  simp only [Array.length_toList] at e
  omega
theorem Inv.list_inj (I:Inv X pins σ H s) (h:SqL X.K H a xs) (h':SqL X.K H a ys):xs=ys:=by
 obtain ⟨its,r,⟨o,n,e,_,_,d⟩,_⟩:=I.list h
 obtain ⟨its',r',⟨o',n',e',_,_,d'⟩,_⟩:=I.list h'
 rw [e] at e';cases e'
 rw [d] at d'
 injection d' with d1 _
 have:its=its':=by simpa using congrArg Array.toList d1
 subst this
 exact r.inj r'
theorem Inv.tuple_inj (I:Inv X pins σ H s) (h:SqT X.K H a xs) (h':SqT X.K H a ys):xs=ys:=by
 obtain ⟨its,r,⟨o,e,_,n,d⟩,_⟩:=I.tuple h
 obtain ⟨its',r',⟨o',e',_,n',d'⟩,_⟩:=I.tuple h'
 rw [e] at e';cases e'
 rw [d] at d'
 injection d' with d1 _
 have:its=its':=by simpa using congrArg Array.toList d1
 subst this
 exact r.inj r'
end
noncomputable abbrev Cx.wish (X:Cx) (E:Value→Shared→Prop):Cx:={X with xe:=E}
noncomputable abbrev Cx.nox (X:Cx):Cx:=X.wish fun _ _=>False
theorem Cx.Ok.wish {X:Cx} (ok:X.Ok) (E:Value→Shared→Prop):(X.wish E).Ok:=
 ⟨ok.mod,ok.kind,ok.glob,ok.blt,ok.above,ok.inj,ok.has,ok.cab,ok.hd,ok.frames,ok.stk,ok.exf,ok.bs,ok.bsz,ok.noex,ok.exfs,ok.funs,ok.frf⟩
theorem Cx.Ok.unwish {X:Cx} {E:Value→Shared→Prop} (ok:(X.wish E).Ok):X.Ok:=
 ⟨ok.mod,ok.kind,ok.glob,ok.blt,ok.above,ok.inj,ok.has,ok.cab,ok.hd,ok.frames,ok.stk,ok.exf,ok.bs,ok.bsz,ok.noex,ok.exfs,ok.funs,ok.frf⟩
section
variable {X:Cx} {pins:List (Addr×Obj)} {σ:St} {H:Hp} {s:Shared} {E:Value→Shared→Prop}
theorem Inv.wish (I:Inv X pins σ H s) (E:Value→Shared→Prop):Inv (X.wish E) pins σ H s:=⟨I.ok.wish E,I.os,I.bare,I.base,I.loc,I.cell,I.free,I.freeC,I.pin,I.hok,I.len⟩
theorem Inv.unwish (I:Inv (X.wish E) pins σ H s):Inv X pins σ H s:=⟨I.ok.unwish,I.os,I.bare,I.base,I.loc,I.cell,I.free,I.freeC,I.pin,I.hok,I.len⟩
theorem SP.unwish {D:Ends} {f:Flow} {s':Shared} (h:SP (X.wish E) pins D f s'):SP X pins D f s':=by
 cases f with
 | next=>obtain ⟨σ',H',I,q⟩:=h;exact ⟨σ',H',I.unwish,q⟩
 | brk=>obtain ⟨σ',H',I,q⟩:=h;exact ⟨σ',H',I.unwish,q⟩
 | cont=>obtain ⟨σ',H',I,q⟩:=h;exact ⟨σ',H',I.unwish,q⟩
 | ret u=>obtain ⟨v,σ',H',I,r,q⟩:=h;exact ⟨v,σ',H',I.unwish,r,q⟩
theorem PSs.nox {st:List Stmt} {t:TS} (h:PSs X.nox st t):PSs X st t:=fun pins s σ H D I hw=>
 wpAny_mono (h pins s σ H D (I.wish _) hw) (fun _ _ q=>q.unwish) fun _ _ z=>False.elim z
end
section
variable {X:Cx} {st:Stmt} {rest:List Stmt} {t u:TS} {e:Expr} {te:TE} {pos:Pos}
noncomputable def Jd:TS:=fun D σ H=>D.nx σ H
noncomputable def KJ (t u:TS):TS:=fun D σ H=>t {D with nx:=u D} σ H
theorem i8:PSs X [] Jd:=fun _ _ σ H _ I h=>wpAny_execs_nil ⟨σ,H,I,h⟩
theorem c9 (h1:PS X st t) (h2:PSs X rest u):PSs X (st::rest) (KJ t u):=by
 intro pins s σ H D I h
 refine wpAny_execs_cons (thn (h1 pins s σ H {D with nx:=u D} I h) fun f s1 q=>?_)
 cases f with
 | next=>
   obtain ⟨σ',H',I',q⟩:=q
   exact h2 pins s1 σ' H' D I' q
 | ret v=>exact q
 | brk=>exact q
 | cont=>exact q
theorem g9 (h1:PS X st t):PSs X [st] t:=by
 intro pins s σ H D I h
 refine wpAny_execs_cons (thn (h1 pins s σ H D I h) fun f s1 q=>?_)
 cases f with
 | next=>exact wpAny_execs_nil q
 | ret v=>exact q
 | brk=>exact q
 | cont=>exact q
theorem Inv.quiet {pins:List (Addr×Obj)} {σ:St} {H:Hp} {s:Shared} (I:Inv X pins σ H s):interactive X.env=false:=by simp [interactive,I.ok.kind]
noncomputable def Je (te:TE):TS:=fun D σ H=>te σ H fun _ H1=>D.nx σ H1
theorem v6 (he:PE X e te) (hs:swapsWith e none pos.line X.env=pure false:=by rfl):PS X (.Expr e pos) (Je te):=by
 intro pins s σ H D I h
 exact wpAny_Expr_any (thn (he pins s σ H _ I h) fun v s1 ⟨x,H1,I1,r1,q1⟩=>⟨σ,H1,I1,q1⟩) I.quiet hs
noncomputable def KK (te:TE):TS:=fun D σ H=>te σ H D.rt
theorem l8 (he:PE X e te):PS X (.Return (some e) pos) (KK te):=by
 intro pins s σ H D I h
 exact wpAny_Return_some (thn (he pins s σ H _ I h) fun v s1 ⟨x,H1,I1,r1,q1⟩=>⟨x,σ,H1,I1,r1,q1⟩)
noncomputable def KL (c:TT) (t u:TS):TS:=fun D σ H=>c σ H fun b H1=>if b=true then t D σ H1 else u D σ H1
theorem n6 {c:Expr} {a b:List Stmt} {tc:TT} (hc:PT X c tc) (ha:PSs X a t) (hb:PSs X b u):PS X (.If c a b pos) (KL tc t u):=by
 intro pins s σ H D I h
 refine wpAny_If (thn (hc pins s σ H _ I h) fun d s1 ⟨H1,I1,q1⟩=>?_)
 cases d with
 | true=>exact ha pins s1 σ H1 D I1 q1
 | false=>exact hb pins s1 σ H1 D I1 q1
end
noncomputable abbrev TG:=V→St→Hp→(St→Hp→Prop)→Prop
noncomputable abbrev TGs:=List V→St→Hp→(St→Hp→Prop)→Prop
noncomputable def PG (X:Cx) (target:Expr) (t:TG):Prop:=
 ∀ (pins:List (Addr×Obj)) (s:Shared) (σ:St) (H:Hp) (v:V) (u:Value) (Q:St→Hp→Prop),Inv X pins σ H s→RelV v u→t v σ H Q→
  wpAny (model X.prog X.w) X.A (assign target X.env u) (fun _ s'=>∃ σ' H',Inv X pins σ' H' s'∧Q σ' H') X.xe s
noncomputable def PGs (X:Cx) (ts:List Expr) (t:TGs):Prop:=
 ∀ (pins:List (Addr×Obj)) (s:Shared) (σ:St) (H:Hp) (vs:List V) (us:List Value) (Q:St→Hp→Prop),Inv X pins σ H s→Vals vs us→t vs σ H Q→
  wpAny (model X.prog X.w) X.A (assignInOrder ((assignEach ts X.env).map (·.2)) us) (fun _ s'=>∃ σ' H',Inv X pins σ' H' s'∧Q σ' H') X.xe s
noncomputable abbrev Im:=V→V→V→Hp→(Hp→Prop)→Prop
noncomputable def Jf (X:Cx) (t:Im):Prop:=
 ∀ (pins:List (Addr×Obj)) (s:Shared) (σ:St) (H:Hp) (o i v:V) (ov iv u:Value) (Q:Hp→Prop),Inv X pins σ H s→RelV o ov→RelV i iv→RelV v u→t o i v H Q→
  wpAny (model X.prog X.w) X.A (setItem ov iv u) (fun _ s'=>∃ H',Inv X pins σ H' s'∧Q H') X.xe s
section
variable {X:Cx} {pos:Pos}
noncomputable def Co (i:Nat):TG:=fun v σ H Q=>Q (σ.set i (some v)) H
theorem i7 {i:Nat} {x:Str} (hN:X.N.Nodup) (hi:X.N[i]?=some x) (hx:Loc X.env.scope x) (hf:X.fn x=true∨X.env.scope.names.lookup x=some .local:=by first | exact .inl rfl | exact .inr rfl | assumption):PG X (.Name x pos) (Co i):=by
 intro pins s σ H v u Q I r h
 exact wpAny_assign_Name (Ax I hN hi hx r (fun s' I'=>⟨_,H,I',h⟩) hf)
noncomputable def KM:TGs:=fun vs σ H Q=>vs=[]∧Q σ H
noncomputable def Jg (t:TG) (u:TGs):TGs:=fun vs σ H Q=>∃ v r,vs=v::r∧t v σ H fun σ' H'=>u r σ' H' Q
theorem w6:PGs X [] KM:=by
 intro pins s σ H vs us Q I r h
 obtain ⟨e,h⟩:=h
 subst e
 cases r
 exact assignInOrder_nil ⟨σ,H,I,h⟩
theorem l9 {e:Expr} {es:List Expr} {t:TG} {u:TGs} (h1:PG X e t) (h2:PGs X es u)
 (hs:(assignEach (e::es) X.env).map (·.2)=assign e X.env::(assignEach es X.env).map (·.2):=by rfl):PGs X (e::es) (Jg t u):=by
 intro pins s σ H vs us Q I r h
 obtain ⟨v,vr,e1,h⟩:=h
 subst e1
 cases r with
 | cons r rr=>
   rw [hs]
   refine assignInOrder_cons (thn (h1 pins s σ H _ _ _ I r h) fun _ s1 ⟨σ1,H1,I1,q1⟩=>?_)
   exact h2 pins s1 σ1 H1 _ _ Q I1 rr q1
noncomputable def Jh (K:PySem.W.Frag) (n:Nat) (t:TGs):TG:=fun v σ H Q=>∃ a xs,v = .ref a∧SqT K H a xs∧xs.length=n∧t xs σ H Q
theorem BP {es:List Expr} {k:Nat} {t:TGs} {n:Nat} (hc:X.calm=true) (h:PGs X es t)
 (hn:(assignEach es X.env).length=n:=by rfl) (hst:(assignEach es X.env).findIdx? (·.1)=none:=by rfl):PG X (.Tuple es k pos) (Jh X.K n t):=by
 intro pins s σ H v u Q I r hw
 obtain ⟨a,xs,e1,hq,hl,hw⟩:=hw
 subst e1
 cases r
 obtain ⟨its,rv,ht,hz⟩:=I.tuple hq
 refine assign_Tuple_tuple (I.ok.hd hc) ht (by simp [hn,← hl,rv.length]) hst fun h' hx=>?_
 have I1:Inv X pins σ H {s with heap:=h'}:=I.kept (t':=s.toks) fun b o e=>hx b o (Nat.ne_of_lt (Heap.lt_size e)) e
 exact h pins _ σ H xs _ Q I1 (by simpa using rv) hw
noncomputable def KN (to ti:TE) (t:Im):TG:=fun v σ H Q=>to σ H fun o H1=>ti σ H1 fun i H2=>t o i v H2 fun H3=>Q σ H3
theorem GD {o i:Expr} {to ti:TE} {t:Im} (ho:PE X o to) (hi:PE X i ti) (hs:Jf X t)
 (ha:∀ v,assign (.Subscript o i pos) X.env v=(do
   let ov ← holding [v] (eval o X.env)
   let iv ← holding [v,ov] (eval i X.env)
   standAt pos
   holding [v,ov,iv] (setItem ov iv v)
   release [v,ov,iv] []):=by intro _;rfl):PG X (.Subscript o i pos) (KN to ti t):=by
 intro pins s σ H v u Q I r h
 rw [ha]
 refine wpAny_bind (wpAny_holding (thn (ho pins s σ H _ I h) fun ov s1 ⟨x,H1,I1,r1,q1⟩=>?_))
 refine wpAny_bind (wpAny_holding (thn (hi pins s1 σ H1 _ I1 q1) fun iv s2 ⟨y,H2,I2,r2,q2⟩=>?_))
 refine wpAny_bind (wpAny_standAt (wpAny_bind (wpAny_holding (thn (hs pins s2 σ H2 x y v ov iv u _ I2 r1 r2 r q2) fun _ s3 ⟨H3,I3,q3⟩=>?_))))
 exact wpAny_release ⟨σ,H3,I3,q3⟩
noncomputable def HQ (te:TE) (g:TG):TS:=fun D σ H=>te σ H fun x H1=>g x σ H1 D.nx
theorem Bk {tg e:Expr} {te:TE} {g:TG} (he:PE X e te) (hg:PG X tg g) (hs:swapsWithSole [tg] e pos.line X.env=pure false:=by rfl) (hw:swappedStores [tg] e X.env=pure none:=by rfl)
 (h1:(assignEach [tg] X.env).map (·.2)=[assign tg X.env]:=by rfl):PS X (.Assign [tg] e pos) (HQ te g):=by
 intro pins s σ H D I h
 refine wpAny_Assign_stores (thn (he pins s σ H _ I h) fun v s1 ⟨x,H1,I1,r1,q1⟩=>?_) hs hw
 rw [h1]
 exact thn (hg pins s1 σ H1 x v _ I1 r1 q1) fun _ s2 q=>q
theorem j8 {i:Nat} {x:Str} {e:Expr} {te:TE} {pos':Pos} (hN:X.N.Nodup) (hi:X.N[i]?=some x) (hx:Loc X.env.scope x) (he:PE X e te) (hs:swapsWith e (some (.Name x pos')) pos.line X.env=pure false:=by rfl) (hf:X.fn x=true∨X.env.scope.names.lookup x=some .local:=by first | exact .inl rfl | exact .inr rfl | assumption):
 PS X (.Assign [.Name x pos'] e pos) (HQ te (Co i)):=by
 intro pins s σ H D I h
 refine wpAny_Assign_Name (thn (he pins s σ H _ I h) fun v s1 ⟨y,H1,I1,r1,q1⟩=>?_) hs
 exact Ax I1 hN hi hx r1 (fun s2 I2=>⟨_,H1,I2,q1⟩) hf
end
section
variable {X:Cx} {pos:Pos}
noncomputable def GE (c:TT) (tb:TS):TS:=fun D σ H=>∃ W:Nat→St→Hp→Prop,(∃ m,W m σ H)∧∀ m σ H,W m σ H→
 c σ H fun b H1=>if b=true then ∃ N:St→Hp→Prop,(∀ σ' H',N σ' H'→∃ m',m'<m∧W m' σ' H')∧tb {D with nx:=N,ct:=N,bk:=D.nx} σ H1 else D.nx σ H1
theorem GF {c:Expr} {body:List Stmt} {tc:TT} {tb:TS} (hp:PassesOwn (model X.prog X.w) X.A X.env X.xe) (hc:PT X c tc) (hb:PSs X body tb):PS X (.While c body [] pos) (GE tc tb):=by
 intro pins s σ H D I h
 obtain ⟨W,⟨m0,w0⟩,turn⟩:=h
 refine wpAny_While (codeAny_whileLoop (fun n s'=>∃ σ' H',Inv X pins σ' H' s'∧W n σ' H') ?_ m0 ⟨σ,H,I,w0⟩)
 rintro n s1 ⟨σ1,H1,I1,w1⟩
 refine wpAny_passesOwn hp (thn (hc pins s1 σ1 H1 _ I1 (turn n σ1 H1 w1)) fun b s2 ⟨H2,I2,q2⟩=>?_)
 cases b with
 | true=>
   obtain ⟨N,hN,q2⟩:=q2
   rw [if_pos rfl]
   refine wpAny_passesOwn hp (thn (hb pins s2 σ1 H2 _ I2 q2) fun f s3 q3=>?_)
   cases f with
   | next=>
     obtain ⟨σ3,H3,I3,n3⟩:=q3
     obtain ⟨m',hm,w3⟩:=hN σ3 H3 n3
     exact ⟨m',hm,σ3,H3,I3,w3⟩
   | cont=>
     obtain ⟨σ3,H3,I3,n3⟩:=q3
     obtain ⟨m',hm,w3⟩:=hN σ3 H3 n3
     exact ⟨m',hm,σ3,H3,I3,w3⟩
   | brk=>exact q3
   | ret v=>exact q3
 | false=>
   rw [if_neg Bool.false_ne_true]
   exact wpAny_execs_nil ⟨σ1,H2,I2,q2⟩
end
structure It where
 go:Nat→Hp→Prop
 yld:Nat→Hp→V→Hp→Prop
 stop:Nat→Hp→Prop
noncomputable def FpOk (X:Cx) (pins:List (Addr×Obj)) (H:Hp) (b:Addr):Prop:=
 H b=none∧b≠X.env.locals∧b∉X.fs∧(b∈X.ex∨X.s₀.heap.objs.size≤b)∧(∀ x c,X.env.cells.lookup x=some c→c≠b)∧∀ p∈X.pn++pins,p.1≠b
theorem Inv.fpOk {X:Cx} {pins:List (Addr×Obj)} {σ:St} {H H':Hp} {s:Shared} {b:Addr} (I:Inv X pins σ H s) (hb:s.heap.objs.size≤b) (hn:H' b=none):FpOk X pins H' b:=by
 refine ⟨hn,Nat.ne_of_gt (Nat.lt_of_lt_of_le I.lt hb),I.nofs hb,.inr (Nat.le_trans I.sz hb),fun x c e z=>?_,fun p hp z=>?_⟩
 ·obtain ⟨v,q⟩:=I.cell x c e
  exact absurd (Nat.lt_of_lt_of_le q.lt (by rw [z];exact hb)) (Nat.lt_irrefl _)
 ·exact absurd (Nat.lt_of_lt_of_le (Heap.lt_size (I.pin p hp).1) (by rw [z];exact hb)) (Nat.lt_irrefl _)
structure Turn (P:Program) (w:World) (K:PySem.W.Frag) (tg:Expr) (J:It) (fp:List Addr) (it:Addr) (tn:Nat→Heap→Prop):Prop where
 mem:it∈fp
 obj:∀ i h,tn i h→∀ b∈fp,∃ o,h.get? b=some o∧∀ v,o.data ≠ .cell v
 keep:∀ i h h',tn i h→(∀ b∈fp,∀ o,h.get? b=some o→h'.get? b=some o)→tn i h'
 item:∀ (X:Cx),X.prog=P→X.w=w→X.K=K→X.calm=true→∀ (i:Nat) (pins:List (Addr×Obj)) (s:Shared) (σ:St) (H:Hp) (E:Value→Shared→Prop),Inv X pins σ H s→(∀ b∈fp,FpOk X pins H b)→tn i s.heap→J.go i H→
  wpAny (model P w) X.A (pyNext (.ref it)) (fun r s1=>∃ u,r=some u∧
   wpAny (model P w) X.A (letOwnedTupleGo tg (.ref it) u) (fun _ s2=>∃ x H',Inv X pins σ H' s2∧RelV x u∧J.yld i H x H'∧tn (i+1) s2.heap∧∀ b∈fp,H' b=none) E s1) E s
 done:∀ (X:Cx),X.prog=P→X.w=w→X.K=K→X.calm=true→∀ (i:Nat) (pins:List (Addr×Obj)) (s:Shared) (σ:St) (H:Hp) (E:Value→Shared→Prop),Inv X pins σ H s→(∀ b∈fp,FpOk X pins H b)→tn i s.heap→J.stop i H→
   wpAny (model P w) X.A (pyNext (.ref it)) (fun r s1=>r=none∧Inv X pins σ H s1) E s
 self:∀ (A:Around) (i:Nat) (s:Shared) (Q:Value→Shared→Prop) (E:Value→Shared→Prop),tn i s.heap→Q (.ref it) s→wpAny (model P w) A (pyIter (.ref it)) Q E s
noncomputable abbrev TI:=St→Hp→(It→Hp→Prop)→Prop
noncomputable def PIE (X:Cx) (pins:List (Addr×Obj)) (σ:St) (tg:Expr) (R:It→Hp→Prop) (itv:Value) (s2:Shared):Prop:=
 ∃ (it:Addr) (fp:List Addr) (tn:Nat→Heap→Prop) (J:It) (H':Hp),itv = .ref it∧Inv X pins σ H' s2∧Turn X.prog X.w X.K tg J fp it tn∧tn 0 s2.heap∧(∀ b∈fp,FpOk X pins H' b)∧R J H'
noncomputable def PI (X:Cx) (tg iter:Expr) (wi:TI):Prop:=
 ∀ (pins:List (Addr×Obj)) (s:Shared) (σ:St) (H:Hp) (R:It→Hp→Prop),Inv X pins σ H s→wi σ H R→
  wpAny (model X.prog X.w) X.A (eval iter X.env) (fun v s1=>wpAny (model X.prog X.w) X.A (pyIter v) (PIE X pins σ tg R) X.xe s1) X.xe s
theorem GG {M:Model} {A:Around} {E:Value→Shared→Prop} {s:Shared} {tg:Expr} {it:Addr} {u:Value} {o:Obj} {n:String} {vs:Array Value} {Q:Unit→Shared→Prop} (ho:s.heap.get? it=some o) (hc:o.cls = .type n) (hd:o.data = .fields vs)
 (hn:["enumerate","zip","dict_itemiterator","dict_reverseitemiterator","odict_iterator","itertools.zip_longest","itertools.pairwise"].contains n=false) (hQ:Q () s):wpAny M A (letOwnedTupleGo tg (.ref it) u) Q E s:=by
 unfold letOwnedTupleGo
 cases tg<;>first
  | exact wpAny_pure hQ
  | (cases u<;>first
      | exact wpAny_pure hQ
      | (refine wpAny_bind (wpAny_load ho ?_)
         rw [hc,hd]
         show wpAny M A (if (["enumerate","zip","dict_itemiterator","dict_reverseitemiterator","odict_iterator","itertools.zip_longest","itertools.pairwise"].contains n&&vs[0]? == some (rawInt _))=true then _ else _) Q E s
         rw [if_neg (by intro h;rw [hn,Bool.false_and] at h;cases h)]
         exact wpAny_pure hQ))
noncomputable def Itl (K:PySem.W.Frag) (a:Addr):It:=
 ⟨fun i H=>∃ xs x,SqL K H a xs∧xs[i]?=some x,fun i H x H'=>H'=H∧∀ xs,SqL K H a xs→xs[i]?=some x,fun i H=>∃ xs,SqL K H a xs∧xs.length≤i⟩
noncomputable def Itt (K:PySem.W.Frag) (a:Addr):It:=
 ⟨fun i H=>∃ xs x,SqT K H a xs∧xs[i]?=some x,fun i H x H'=>H'=H∧∀ xs,SqT K H a xs→xs[i]?=some x,fun i H=>∃ xs,SqT K H a xs∧xs.length≤i⟩
noncomputable def Itr (lo:Int) (n:Nat):It:=⟨fun i _=>i<n,fun i H x H'=>H'=H∧x = .int (lo+i),fun i _=>n≤i⟩
theorem FV {P:Program} {w:World} {K:PySem.W.Frag} {tg:Expr} (a it:Addr):Turn P w K tg (Itl K a) [it] it (fun i h=>h.IsListIter it a i) where
 mem:=by simp
 obj:=fun i h st b hb=>by
  have e:b=it:=by simpa using hb
  subst e
  obtain ⟨o,e,c,d⟩:=st
  exact ⟨o,e,fun v z=>by rw [d] at z;cases z⟩
 keep:=fun i h h' st k=>st.at fun o e=>k it (by simp) o e
 item:=by
  intro X hP hw hK hc i pins s σ H E I hf st hg
  subst hP hw hK
  obtain ⟨xs,x,hq,hx⟩:=hg
  obtain ⟨its,rv,p,hz⟩:=I.list hq
  obtain ⟨u,hu,ru⟩:=rv.get hx
  obtain ⟨f0,f1,f2,f3,f4,f5⟩:=hf it (by simp)
  refine wpAny_pyNext_list_item st p.isList (x:=u) (by simpa using hu) fun h' st' sb=>?_
  have I1:Inv X pins σ H {s with heap:=h'}:=I.turned (t':=s.toks) (fun b o hb e=>(sb.2 b hb).trans e) f0 f1 f3 f4 f5
  obtain ⟨o,e,c,d⟩:=id st'
  exact ⟨u,rfl,GG (s:={s with heap:=h'}) e c d (by decide) ⟨x,H,I1,ru,⟨rfl,fun ys hy=>by rw [I.list_inj hy hq];exact hx⟩,st',fun b hb=>(hf b hb).1⟩⟩
 done:=by
   intro X hP hw hK hc i pins s σ H E I hf st hg
   subst hP hw hK
   obtain ⟨xs,hq,hx⟩:=hg
   obtain ⟨its,rv,p,hz⟩:=I.list hq
   obtain ⟨f0,f1,f2,f3,f4,f5⟩:=hf it (by simp)
   have hl:=rv.length
   exact wpAny_pyNext_list_end (I.ok.hd hc) st p.isList (by simp;omega) fun h' eb=>⟨rfl,I.turned (t':=s.toks) (fun b o hb e=>eb b o hb e) f0 f1 f3 f4 f5⟩
 self:=fun _ _ _ _ _ st h=>wpAny_pyIter_listiter st h
theorem EL {P:Program} {w:World} {K:PySem.W.Frag} {tg:Expr} (a it:Addr):Turn P w K tg (Itt K a) [it] it (fun i h=>h.IsTupleIter it a i) where
 mem:=by simp
 obj:=fun i h st b hb=>by
  have e:b=it:=by simpa using hb
  subst e
  obtain ⟨o,e,c,d⟩:=st
  exact ⟨o,e,fun v z=>by rw [d] at z;cases z⟩
 keep:=fun i h h' st k=>st.at fun o e=>k it (by simp) o e
 item:=by
  intro X hP hw hK hc i pins s σ H E I hf st hg
  subst hP hw hK
  obtain ⟨xs,x,hq,hx⟩:=hg
  obtain ⟨its,rv,p,hz⟩:=I.tuple hq
  obtain ⟨u,hu,ru⟩:=rv.get hx
  obtain ⟨f0,f1,f2,f3,f4,f5⟩:=hf it (by simp)
  refine wpAny_pyNext_tuple_item st (show s.heap.IsTuple a its.toArray from p) (x:=u) (by simpa using hu) fun h' st' sb=>?_
  have I1:Inv X pins σ H {s with heap:=h'}:=I.turned (t':=s.toks) (fun b o hb e=>(sb.2 b hb).trans e) f0 f1 f3 f4 f5
  obtain ⟨o,e,c,d⟩:=id st'
  exact ⟨u,rfl,GG (s:={s with heap:=h'}) e c d (by decide) ⟨x,H,I1,ru,⟨rfl,fun ys hy=>by rw [I.tuple_inj hy hq];exact hx⟩,st',fun b hb=>(hf b hb).1⟩⟩
 done:=by
   intro X hP hw hK hc i pins s σ H E I hf st hg
   subst hP hw hK
   obtain ⟨xs,hq,hx⟩:=hg
   obtain ⟨its,rv,p,hz⟩:=I.tuple hq
   obtain ⟨f0,f1,f2,f3,f4,f5⟩:=hf it (by simp)
   have hl:=rv.length
   exact wpAny_pyNext_tuple_end (I.ok.hd hc) st (show s.heap.IsTuple a its.toArray from p) (by simp;omega) fun h' eb=>⟨rfl,I.turned (t':=s.toks) (fun b o hb e=>eb b o hb e) f0 f1 f3 f4 f5⟩
 self:=fun _ _ _ _ _ st h=>wpAny_pyIter_tupleiter st h
theorem EM {P:Program} {w:World} {K:PySem.W.Frag} {tg:Expr} (it:Addr) (lo:Int) (n:Nat):Turn P w K tg (Itr lo n) [it] it (fun i h=>IsRangeIter h it (lo+(i:Nat) * 1) ((n:Int) - (i:Nat)) 1) where
 mem:=by simp
 obj:=fun i h st b hb=>by
  have e:b=it:=by simpa using hb
  subst e
  exact ⟨_,st,fun v z=>by
   have z':Data.fields _=Data.cell v:=z
   cases z'⟩
 keep:=fun i h h' st k=>k it (by simp) _ st
 item:=by
  intro X hP hw hK hc i pins s σ H E I hf st hg
  subst hP hw hK
  obtain ⟨f0,f1,f2,f3,f4,f5⟩:=hf it (by simp)
  have W:=Walks.range (prog:=X.prog) (w:=X.w) (I.ok.hd hc) it lo 1 n
  refine W.item i s _ _ hg st fun v h' tk hv st' kk=>?_
  obtain ⟨t,rfl⟩:=hv
  have I1:Inv X pins σ H {s with heap:=h',toks:=tk}:=I.turned (fun b o hb e=>kk b o (by simpa using hb) e) f0 f1 f3 f4 f5
  refine ⟨_,rfl,GG (s:={s with heap:=h',toks:=tk}) (n:="range_iterator") st' rfl rfl (by decide) ⟨.int (lo+i),H,I1,⟨t,?_⟩,⟨rfl,rfl⟩,st',fun b hb=>(hf b hb).1⟩⟩
  rw [Int.mul_one]
 done:=by
   intro X hP hw hK hc i pins s σ H E I hf st hg
   subst hP hw hK
   obtain ⟨f0,f1,f2,f3,f4,f5⟩:=hf it (by simp)
   exact wpAny_pyNext_range_end (I.ok.hd hc) st (by have:n≤i:=hg;omega) fun h' eb=>⟨rfl,I.turned (t':=s.toks) (fun b o hb e=>eb b o hb e) f0 f1 f3 f4 f5⟩
 self:=fun _ _ _ _ _ st h=>wpAny_pyIter_rangeiter st h
open PySem PySem.Spec PyProof.Rows
section
variable {X:Cx} {tg:Expr}
noncomputable def Ji (K:PySem.W.Frag) (tl:TE):TI:=fun σ H R=>tl σ H fun x H1=>∃ a,x = .ref a∧(∃ xs,SqL K H1 a xs)∧R (Itl K a) H1
noncomputable def Jj (K:PySem.W.Frag) (tl:TE):TI:=fun σ H R=>tl σ H fun x H1=>∃ a,x = .ref a∧(∃ xs,SqT K H1 a xs)∧R (Itt K a) H1
theorem An {l:Expr} {tl:TE} (hl:PE X l tl):PI X tg l (Ji X.K tl):=by
 intro pins s σ H R I h
 refine thn (hl pins s σ H _ I h) fun v s1 ⟨x,H1,I1,r1,q1⟩=>?_
 obtain ⟨a,e,⟨xs,hq⟩,q⟩:=q1
 subst e
 cases r1
 obtain ⟨its,rv,p,hz⟩:=I1.list hq
 refine wpAny_pyIter_list p.isList ?_
 refine ⟨s1.heap.objs.size,[s1.heap.objs.size],_,_,H1,rfl,I1.kept (t':=s1.toks) fun b o e=>Heap.get?_push_of_some _ e,FV a _,⟨_,Heap.get?_push_size _ rfl,rfl,rfl⟩,fun b hb=>?_,q⟩
 have e:b=s1.heap.objs.size:=by simpa using hb
 subst e
 exact I1.fpOk (Nat.le_refl _) (I1.hok.fresh (Nat.le_refl _))
theorem EN {l:Expr} {tl:TE} (hl:PE X l tl):PI X tg l (Jj X.K tl):=by
 intro pins s σ H R I h
 refine thn (hl pins s σ H _ I h) fun v s1 ⟨x,H1,I1,r1,q1⟩=>?_
 obtain ⟨a,e,⟨xs,hq⟩,q⟩:=q1
 subst e
 cases r1
 obtain ⟨its,rv,p,hz⟩:=I1.tuple hq
 refine wpAny_pyIter_tuple (show s1.heap.IsTuple a its.toArray from p) ?_
 refine ⟨s1.heap.objs.size,[s1.heap.objs.size],_,_,H1,rfl,I1.kept (t':=s1.toks) fun b o e=>Heap.get?_push_of_some _ e,EL a _,⟨_,Heap.get?_push_size _ rfl,rfl,rfl⟩,fun b hb=>?_,q⟩
 have e:b=s1.heap.objs.size:=by simpa using hb
 subst e
 exact I1.fpOk (Nat.le_refl _) (I1.hok.fresh (Nat.le_refl _))
theorem Di {pins:List (Addr×Obj)} {σ:St} {H:Hp} {s:Shared} {R:It→Hp→Prop} {E:Value→Shared→Prop} {lo hi:Int} {t u v:Tok} {tk:Nat} (I:Inv X pins σ H s) (h1:-(2 ^ 62)≤lo) (h2:lo<2 ^ 62) (h3:-(2 ^ 62)≤hi) (h4:hi<2 ^ 62)
 (q:R (Itr lo (hi - lo).toNat) H):wpAny (model X.prog X.w) X.A (pyIter (.ref s.heap.objs.size)) (PIE X pins σ tg R) E {s with heap:=s.heap.push {cls := .type "range",data := .fields #[.int lo t,.int hi u,.int 1 v]},toks:=tk}:=by
 refine wpAny_pyIter_range (IsRange.new ..) (small_one h1 h2 h3 h4) ?_
 have I1:Inv X pins σ H {s with heap:=s.heap.push {cls := .type "range",data := .fields #[.int lo t,.int hi u,.int 1 v]},toks:=tk}:=I.kept fun b o e=>Heap.get?_push_of_some _ e
 refine ⟨(s.heap.push {cls := .type "range",data := .fields #[.int lo t,.int hi u,.int 1 v]}).objs.size,[(s.heap.push {cls := .type "range",data := .fields #[.int lo t,.int hi u,.int 1 v]}).objs.size],_,_,H,rfl,
  I1.kept (t':=tk) fun b o e=>Heap.get?_push_of_some _ e,EM _ lo (hi - lo).toNat,?_,fun b hb=>?_,q⟩
 ·have e1:lo+((0:Nat):Int) * 1=lo:=by simp
  have e2:(((hi - lo).toNat:Nat):Int) - ((0:Nat):Int)=Builtin.Range.rangeSize lo hi 1:=by rw [rangeSize_one];split<;>omega
  show IsRangeIter _ _ (lo+((0:Nat):Int) * 1) ((((hi - lo).toNat:Nat):Int) - ((0:Nat):Int)) 1
  rw [e1,e2]
  exact Heap.get?_push_size _ rfl
 ·have e:b=(s.heap.push {cls := .type "range",data := .fields #[.int lo t,.int hi u,.int 1 v]}).objs.size:=by simpa using hb
  subst e
  exact I1.fpOk (Nat.le_refl _) (I1.hok.fresh (Nat.le_refl _))
noncomputable def Jk (ta:TA):TI:=fun σ H R=>ta σ H fun vs H1=>∃ j:Int,vs=[.int j] ∧ -(2 ^ 62)≤j∧j<2 ^ 62∧R (Itr 0 j.toNat) H1
noncomputable def Jl (ta:TA):TI:=fun σ H R=>ta σ H fun vs H1=>∃ i j:Int,vs=[.int i,.int j]∧(-(2 ^ 62)≤i∧i<2 ^ 62 ∧ -(2 ^ 62)≤j∧j<2 ^ 62)∧R (Itr i (j - i).toNat) H1
theorem t7 {a:Expr} {ta:TA} {p pos:Pos} (hg:Gl X "range") (hm:X.mg "range"=none) (ha:PA X [a] ta) (hs:starEach [a] X.env=[(false,eval a X.env)]:=by rfl):PI X tg (.Call (.Name "range" p) [a] [] pos) (Jk ta):=by
 intro pins s σ H R I h
 refine Call_ (Ay I hg hm boot_range (PyProof.Rows.callWith_type1 (thn (ha pos pins s σ H _ I h) fun us s1 ⟨vs,H1,I1,r1,q1⟩=>?_) hs rfl))
 obtain ⟨j,e,q1,q2,q⟩:=q1
 subst e
 cases r1 with
 | cons r rr=>
   cases rr
   obtain ⟨t,rfl⟩:=r
   exact call_range_1 (Di I1 (by omega) (by omega) q1 q2 (by simpa using q))
theorem Bl {a b:Expr} {ta:TA} {p pos:Pos} (hg:Gl X "range") (hm:X.mg "range"=none) (ha:PA X [a,b] ta) (hs:starEach [a,b] X.env=[(false,eval a X.env),(false,eval b X.env)]:=by rfl) (hs2:starEach [b] X.env=[(false,eval b X.env)]:=by rfl):
 PI X tg (.Call (.Name "range" p) [a,b] [] pos) (Jl ta):=by
 intro pins s σ H R I h
 refine Call_ (Ay I hg hm boot_range (PyProof.Rows.callWith_type1 (thn (ha pos pins s σ H _ I h) fun us s1 ⟨vs,H1,I1,r1,q1⟩=>?_) (by rw [hs,hs2]) (by rw [hs2];rfl)))
 obtain ⟨i,j,e,⟨q1,q2,q3,q4⟩,q⟩:=q1
 subst e
 cases r1 with
 | cons r rr=>
   cases rr with
   | cons r' rr=>
     cases rr
     obtain ⟨t,rfl⟩:=r
     obtain ⟨t',rfl⟩:=r'
     exact call_range_2 (Di I1 q1 q2 q3 q4 q)
noncomputable def KO (wi:TI) (g:TG) (tb:TS):TS:=fun D σ H=>wi σ H fun J H1=>∃ W:Nat→Nat→St→Hp→Prop,(∃ m,W 0 m σ H1)∧∀ i m σ H,W i m σ H→
 (J.stop i H∧D.nx σ H)∨(J.go i H∧∃ N:St→Hp→Prop,(∀ σ' H',N σ' H'→∃ m',m'<m∧W (i+1) m' σ' H')∧∀ x H',J.yld i H x H'→g x σ H' fun σ2 H2=>tb {D with nx:=N,ct:=N,bk:=D.nx} σ2 H2)
noncomputable def BQ (fp:List Addr) (h:Heap):List (Addr×Obj):=fp.filterMap fun b=>(h.get? b).map fun o=>(b,o)
theorem Ao {fp:List Addr} {h:Heap} {b:Addr} {o:Obj} (hb:b∈fp) (e:h.get? b=some o):(b,o)∈BQ fp h:=List.mem_filterMap.mpr ⟨b,hb,by rw [e];rfl⟩
theorem FW {fp:List Addr} {h:Heap} {p:Addr×Obj} (hp:p∈BQ fp h):p.1∈fp∧h.get? p.1=some p.2:=by
 obtain ⟨b,hb,e⟩:=List.mem_filterMap.mp hp
 cases q:h.get? b with
 | none=>rw [q] at e;cases e
 | some o=>
   rw [q] at e
   have e':(b,o)=p:=Option.some.inj e
   subst e'
   exact ⟨hb,q⟩
theorem Inv.pinned {pins:List (Addr×Obj)} {σ:St} {H:Hp} {s:Shared} {fp:List Addr} (I:Inv X pins σ H s) (hf:∀ b∈fp,FpOk X pins H b) (ho:∀ b∈fp,∃ o,s.heap.get? b=some o∧∀ v,o.data ≠ .cell v):Inv X (pins++BQ fp s.heap) σ H s:=
 I.pins_of fun p hp=>(List.mem_append.mp hp).elim (fun z=>I.pin p (List.mem_append_right _ z)) fun z=>by
  obtain ⟨hb,e⟩:=FW z
  obtain ⟨f0,f1,f2,_⟩:=hf p.1 hb
  obtain ⟨o,e',d⟩:=ho p.1 hb
  rw [e] at e';cases e'
  exact ⟨e,f0,f1,f2,d⟩
theorem Inv.unpinned {pins pl:List (Addr×Obj)} {σ:St} {H:Hp} {s:Shared} (I:Inv X (pins++pl) σ H s):Inv X pins σ H s:=I.pins_of fun p hp=>I.pin p (List.mem_append_right _ (List.mem_append_left _ hp))
theorem AH {iter:Expr} {body:List Stmt} {wi:TI} {g:TG} {tb:TS} {pos:Pos} (hp:PassesOwn (model X.prog X.w) X.A X.env X.xe) (hc:X.calm=true) (hi:PI X tg iter wi) (hg:PG X tg g) (hb:PSs X body tb)
 (hs:∀ x,foldedSetIterable iter X.env x=pure x:=by intro _;rfl):PS X (.For tg iter body [] pos) (KO wi g tb):=by
 intro pins s σ H D I h
 refine wpAny_For (thn (hi pins s σ H _ I h) fun v s1 h1=>thn h1 fun itv s2 h2=>?_) hs
 obtain ⟨it,fp,tn,J,H2,e,I2,T,st2,f2,W,⟨m0,w0⟩,turn⟩:=h2
 subst e
 -- what stays true of the iterator's objects through the loop
 have stat:∀ {H':Hp},(∀ b∈fp,H' b=none)→∀ b∈fp,FpOk X pins H' b:=fun hn b hb=>⟨hn b hb,(f2 b hb).2⟩
 refine codeAny_forLoop_any (fun n s'=>∃ i σ' H',Inv X pins σ' H' s'∧tn i s'.heap∧(∀ b∈fp,H' b=none)∧W i n σ' H') ?_ m0 ⟨0,σ,H2,I2,st2,fun b hb=>(f2 b hb).1,w0⟩
 rintro n s3 ⟨i,σ3,H3,I3,st3,fr3,w3⟩
 rcases turn i n σ3 H3 w3 with ⟨stop,qn⟩ | ⟨go,N,hN,step⟩
 ·refine wpAny_passesOwn hp (thn (T.done X rfl rfl rfl hc i pins s3 σ3 H3 X.xe I3 (stat fr3) st3 stop) fun r s4 ⟨hr,I4⟩=>?_)
  subst hr
  exact wpAny_execs_nil ⟨σ3,H3,I4,qn⟩
 ·refine wpAny_passesOwn hp (thn (T.item X rfl rfl rfl hc i pins s3 σ3 H3 X.xe I3 (stat fr3) st3 go) fun r s4 ⟨u,hr,h4⟩=>?_)
  subst hr
  refine wpAny_passesOwn hp (thn h4 fun _ s5 ⟨x,H5,I5,r5,y5,st5,fr5⟩=>?_)
  have I5':=I5.pinned (stat fr5) (T.obj _ _ st5)
  refine wpAny_passesOwn hp (thn (hg _ s5 σ3 H5 x u _ I5' r5 (step x H5 y5)) fun _ s6 ⟨σ6,H6,I6,q6⟩=>?_)
  refine wpAny_passesOwn hp (thn (hb _ s6 σ6 H6 _ I6 q6) fun f s7 q7=>?_)
  have again:∀ {σ7:St} {H7:Hp},Inv X (pins++BQ fp s5.heap) σ7 H7 s7→N σ7 H7→∃ m,m<n∧∃ i σ' H',Inv X pins σ' H' s7∧tn i s7.heap∧(∀ b∈fp,H' b=none)∧W i m σ' H':=fun {σ7 H7} I7 n7=>by
   obtain ⟨m',hm,w7⟩:=hN σ7 H7 n7
   refine ⟨m',hm,i+1,σ7,H7,I7.unpinned,T.keep _ _ _ st5 fun b hb o e=>(I7.pin (b,o) (List.mem_append_right _ (List.mem_append_right _ (Ao hb e)))).1,fun b hb=>?_,w7⟩
   obtain ⟨o,e,d⟩:=T.obj _ _ st5 b hb
   exact (I7.pin (b,o) (List.mem_append_right _ (List.mem_append_right _ (Ao hb e)))).2.1
  cases f with
  | next=>obtain ⟨σ7,H7,I7,n7⟩:=q7;exact again I7 n7
  | cont=>obtain ⟨σ7,H7,I7,n7⟩:=q7;exact again I7 n7
  | brk=>obtain ⟨σ7,H7,I7,q7⟩:=q7;exact ⟨σ7,H7,I7.unpinned,q7⟩
  | ret v=>obtain ⟨x7,σ7,H7,I7,r7,q7⟩:=q7;exact ⟨x7,σ7,H7,I7.unpinned,r7,q7⟩
end
theorem BY {K:PySem.W.Frag} {a:Addr} {xs:List V} {g:TG} {tb:TS} {D:Ends} {σ:St} {H:Hp} (Pv:Nat→St→Hp→Prop) (h0:Pv 0 σ H) (hl:∀ i σ H,i≤xs.length→Pv i σ H→SqL K H a xs)
 (hs:∀ i x σ H,xs[i]?=some x→Pv i σ H→g x σ H fun σ2 H2=>tb {D with nx:=Pv (i+1),ct:=Pv (i+1),bk:=D.nx} σ2 H2) (hd:∀ σ H,Pv xs.length σ H→D.nx σ H):
 ∃ W:Nat→Nat→St→Hp→Prop,(∃ m,W 0 m σ H)∧∀ i m σ H,W i m σ H→
  ((Itl K a).stop i H∧D.nx σ H)∨((Itl K a).go i H∧∃ N:St→Hp→Prop,(∀ σ' H',N σ' H'→∃ m',m'<m∧W (i+1) m' σ' H')∧∀ x H',(Itl K a).yld i H x H'→g x σ H' fun σ2 H2=>tb {D with nx:=N,ct:=N,bk:=D.nx} σ2 H2):=by
 refine ⟨fun i m σ H=>m=xs.length - i∧i≤xs.length∧Pv i σ H,⟨xs.length,by simp,Nat.zero_le _,h0⟩,?_⟩
 rintro i m σ H ⟨rfl,hi,p⟩
 have q:=hl i σ H hi p
 by_cases hlt:i<xs.length
 ·refine .inr ⟨⟨xs,xs[i],q,by simp [hlt]⟩,Pv (i+1),fun σ' H' p'=>⟨xs.length - (i+1),by omega,rfl,hlt,p'⟩,fun x H' y=>?_⟩
  obtain ⟨e,y⟩:=y
  subst e
  exact hs i x σ _ (y xs q) p
 ·have e:i=xs.length:=by omega
  subst e
  exact .inl ⟨⟨xs,q,Nat.le_refl _⟩,hd σ H p⟩
theorem y9 {lo:Int} {n:Nat} {g:TG} {tb:TS} {D:Ends} {σ:St} {H:Hp} (Pv:Nat→St→Hp→Prop) (h0:Pv 0 σ H)
 (hs:∀ i σ H,i<n→Pv i σ H→g (.int (lo+i)) σ H fun σ2 H2=>tb {D with nx:=Pv (i+1),ct:=Pv (i+1),bk:=D.nx} σ2 H2) (hd:∀ σ H,Pv n σ H→D.nx σ H):
 ∃ W:Nat→Nat→St→Hp→Prop,(∃ m,W 0 m σ H)∧∀ i m σ H,W i m σ H→
  ((Itr lo n).stop i H∧D.nx σ H)∨((Itr lo n).go i H∧∃ N:St→Hp→Prop,(∀ σ' H',N σ' H'→∃ m',m'<m∧W (i+1) m' σ' H')∧∀ x H',(Itr lo n).yld i H x H'→g x σ H' fun σ2 H2=>tb {D with nx:=N,ct:=N,bk:=D.nx} σ2 H2):=by
 refine ⟨fun i m σ H=>m=n - i∧i≤n∧Pv i σ H,⟨n,by simp,Nat.zero_le _,h0⟩,?_⟩
 rintro i m σ H ⟨rfl,hi,p⟩
 by_cases hlt:i<n
 ·refine .inr ⟨hlt,Pv (i+1),fun σ' H' p'=>⟨n - (i+1),by omega,rfl,hlt,p'⟩,fun x H' y=>?_⟩
  obtain ⟨e,y⟩:=y
  subst e y
  exact hs i σ _ hlt p
 ·have e:i=n:=by omega
  subst e
  exact .inl ⟨Nat.le_refl _,hd σ H p⟩
theorem GH {c:TT} {tb:TS} {D:Ends} {σ:St} {H:Hp} (Pv:St→Hp→Prop) (μ:St→Hp→Nat) (h0:Pv σ H)
 (hs:∀ σ H,Pv σ H→c σ H fun b H1=>if b=true then tb {D with nx:=fun σ' H'=>Pv σ' H'∧μ σ' H'<μ σ H,ct:=fun σ' H'=>Pv σ' H'∧μ σ' H'<μ σ H,bk:=D.nx} σ H1 else D.nx σ H1)
 (mono:∀ σ H Q Q',(∀ b H1,Q b H1→Q' b H1)→c σ H Q→c σ H Q'):GE c tb D σ H:=by
 refine ⟨fun m σ H=>m=μ σ H∧Pv σ H,⟨_,rfl,h0⟩,?_⟩
 rintro m σ H ⟨rfl,p⟩
 refine mono σ H _ _ (fun b H1 q=>?_) (hs σ H p)
 cases b with
 | true=>exact ⟨_,fun σ' H' ⟨p',l⟩=>⟨_,l,rfl,p'⟩,q⟩
 | false=>exact q
open PySem PySem.Spec PyProof.Rows
noncomputable abbrev R2:=V→V→Hp→VK→Prop
noncomputable def OpR (X:Cx) (f:Value→Value→Sem Value) (r:R2):Prop:=
 ∀ (pins:List (Addr×Obj)) (s:Shared) (σ:St) (H:Hp) (x y:V) (v u:Value) (Q:VK),Inv X pins σ H s→RelV x v→RelV y u→r x y H Q→
  wpAny (model X.prog X.w) X.A (f v u) (EP X pins σ Q) X.xe s
noncomputable def UnR (X:Cx) (f:Value→Sem Value) (r:V→Hp→VK→Prop):Prop:=
 ∀ (pins:List (Addr×Obj)) (s:Shared) (σ:St) (H:Hp) (x:V) (v:Value) (Q:VK),Inv X pins σ H s→RelV x v→r x H Q→
  wpAny (model X.prog X.w) X.A (f v) (EP X pins σ Q) X.xe s
noncomputable def A2 (X:Cx) (f:Value) (r:List V→Hp→VK→Prop):Prop:=
 ∀ (pins:List (Addr×Obj)) (s:Shared) (σ:St) (H:Hp) (xs:List V) (us:List Value) (Q:VK),Inv X pins σ H s→Vals xs us→r xs H Q→
  wpAny (model X.prog X.w) X.A (call f us) (EP X pins σ Q) X.xe s
noncomputable def tOp (r:R2) (ta tb:TE):TE:=fun σ H Q=>ta σ H fun x H1=>tb σ H1 fun y H2=>r x y H2 Q
noncomputable def tUn (r:V→Hp→VK→Prop) (ta:TE):TE:=fun σ H Q=>ta σ H fun x H1=>r x H1 Q
noncomputable def rI (C:Int→Int→Prop) (g:Int→Int→V):R2:=fun x y H Q=>∃ i j,x = .int i∧y = .int j∧C i j∧Q (g i j) H
noncomputable def rI0 (g:Int→Int→V):R2:=fun x y H Q=>∃ i j,x = .int i∧y = .int j∧Q (g i j) H
noncomputable def rU (g:Int→V):V→Hp→VK→Prop:=fun x H Q=>∃ i,x = .int i∧Q (g i) H
section
variable {X:Cx} {a b c:Expr} {ta tb tc:TE} {pos:Pos}
theorem Io (ha:PE X a ta) (hb:PE X b tb) {pins:List (Addr×Obj)} {s:Shared} {σ:St} {H:Hp} {R:V→V→Hp→Prop} (I:Inv X pins σ H s)
 (h:ta σ H fun x H1=>tb σ H1 fun y H2=>R x y H2) {Q:Value→Shared→Prop} {f:Value→Value→Sem Value}
 (hf:∀ v u s2 x y H2,Inv X pins σ H2 s2→RelV x v→RelV y u→R x y H2→wpAny (model X.prog X.w) X.A (f v u) Q X.xe s2):
 wpAny (model X.prog X.w) X.A (eval a X.env) (fun v s₁=>wpAny (model X.prog X.w) X.A (eval b X.env) (fun u s₂=>wpAny (model X.prog X.w) X.A (f v u) Q X.xe s₂) X.xe s₁) X.xe s:=by
 refine thn (ha pins s σ H _ I h) fun v s1 ⟨x,H1,I1,r1,q1⟩=>?_
 refine thn (hb pins s1 σ H1 _ I1 q1) fun u s2 ⟨y,H2,I2,r2,q2⟩=>?_
 exact hf v u s2 x y H2 I2 r1 r2 q2
theorem l6 {op:Operator} {r:R2} (ho:OpR X (binaryOp op) r) (ha:PE X a ta) (hb:PE X b tb):PE X (.BinOp a op b pos) (tOp r ta tb):=by
 intro pins s σ H Q I h
 exact wpAny_BinOp (Io ha hb I h fun v u s2 x y H2 I2 rx ry q=>ho pins s2 σ H2 x y v u Q I2 rx ry q)
theorem IP {op:UnaryOp} {r:V→Hp→VK→Prop} (ho:UnR X (unaryOp op) r) (ha:PE X a ta):PE X (.UnaryOp op a pos) (tUn r ta):=by
 intro pins s σ H Q I h
 exact UnaryOp_ (thn (ha pins s σ H _ I h) fun v s1 ⟨x,H1,I1,r1,q1⟩=>ho pins s1 σ H1 x v Q I1 r1 q1)
theorem opI {f:Value→Value→Sem Value} {C:Int→Int→Prop} {g:Int→Int→Int}
 (rule:∀ (i j:Int) (t u:Tok) (s:Shared) (Q:Value→Shared→Prop) (E:Value→Shared→Prop),C i j→Q (.int (g i j) s.toks) {s with toks:=s.toks+1}→wpAny (model X.prog X.w) X.A (f (.int i t) (.int j u)) Q E s):
 OpR X f (rI C fun i j => .int (g i j)):=by
 intro pins s σ H x y v u Q I rx ry h
 obtain ⟨i,j,rfl,rfl,hc,q⟩:=h
 obtain ⟨t,rfl⟩:=rx
 obtain ⟨t',rfl⟩:=ry
 exact rule i j t t' s _ _ hc ⟨.int (g i j),H,I.tok _,⟨_,rfl⟩,q⟩
theorem Jm {f:Value→Value→Sem Value} {g:Int→Int→Int}
 (rule:∀ (i j:Int) (t u:Tok) (s:Shared) (Q:Value→Shared→Prop) (E:Value→Shared→Prop),Q (.int (g i j) s.toks) {s with toks:=s.toks+1}→wpAny (model X.prog X.w) X.A (f (.int i t) (.int j u)) Q E s):
 OpR X f (rI0 fun i j => .int (g i j)):=by
 intro pins s σ H x y v u Q I rx ry h
 obtain ⟨i,j,rfl,rfl,q⟩:=h
 obtain ⟨t,rfl⟩:=rx
 obtain ⟨t',rfl⟩:=ry
 exact rule i j t t' s _ _ ⟨.int (g i j),H,I.tok _,⟨_,rfl⟩,q⟩
theorem HR {f:Value→Value→Sem Value} {g:Int→Int→Bool}
 (rule:∀ (i j:Int) (t u:Tok) (s:Shared) (Q:Value→Shared→Prop) (E:Value→Shared→Prop),Q (.bool (g i j)) s→wpAny (model X.prog X.w) X.A (f (.int i t) (.int j u)) Q E s):
 OpR X f (rI0 fun i j => .bl (g i j)):=by
 intro pins s σ H x y v u Q I rx ry h
 obtain ⟨i,j,rfl,rfl,q⟩:=h
 obtain ⟨t,rfl⟩:=rx
 obtain ⟨t',rfl⟩:=ry
 exact rule i j t t' s _ _ ⟨.bl (g i j),H,I,rfl,q⟩
noncomputable def KP (i j:Int):Prop:=0<j∧j<1073741824
noncomputable def KQ (i j:Int):Prop:=0≤j∧j≤1000000∧i.natAbs<2 ^ 64
noncomputable def CMul (i j:Int):Prop:=(-(2 ^ 64)<i∧i<2 ^ 64)∨(-(2 ^ 64)<j∧j<2 ^ 64)
theorem CMul.ok {i j:Int} (h:CMul i j):IntMulOk i j:=by
 rcases h with ⟨h1,h2⟩ | ⟨h1,h2⟩
 ·exact .of_left (intBits_le_64 h1 h2)
 ·exact .of_right (intBits_le_64 h1 h2)
theorem t9:OpR X (binaryOp .Add) (rI0 fun i j => .int (i+j)):=Jm fun _ _ _ _ _ _ _ q=>add_int q
theorem EO:OpR X (binaryOp .Sub) (rI0 fun i j => .int (i - j)):=Jm fun _ _ _ _ _ _ _ q=>sub_int q
theorem BR:OpR X (binaryOp .Mult) (rI CMul fun i j => .int (i * j)):=opI fun _ _ _ _ _ _ _ hc q=>mul_int q hc.ok
theorem DQ:OpR X (binaryOp .FloorDiv) (rI KP fun i j => .int (i / j)):=opI fun i j _ _ _ _ _ hc q=>by
 have h1:(0:Int)<j:=hc.1
 have h2:j<1073741824:=hc.2
 exact floordiv_int (by omega) (by rw [Int.fdiv_eq_ediv_of_nonneg i (by omega)];exact q) (.inl (PyProof.noPylong_small (by omega)))
theorem AN:OpR X (binaryOp .Mod) (rI (fun _ j=>0<j) fun i j => .int (i % j)):=opI fun i j _ _ _ _ _ hc q=>by
 have h1:(0:Int)<j:=hc
 exact mod_int' (by omega) (by rw [Int.fmod_eq_emod_of_nonneg i (by omega)];exact q)
theorem Ip:OpR X (binaryOp .Pow) (rI KQ fun i j => .int (i ^ j.toNat)):=opI fun _ _ _ _ _ _ _ hc q=>pow_int_small hc.1 hc.2.1 hc.2.2 q
theorem unI {f:Value→Sem Value} {g:Int→Int}
 (rule:∀ (i:Int) (t:Tok) (s:Shared) (Q:Value→Shared→Prop) (E:Value→Shared→Prop),Q (.int (g i) s.toks) {s with toks:=s.toks+1}→wpAny (model X.prog X.w) X.A (f (.int i t)) Q E s):
 UnR X f (rU fun i => .int (g i)):=by
 intro pins s σ H x v Q I rx h
 obtain ⟨i,rfl,q⟩:=h
 obtain ⟨t,rfl⟩:=rx
 exact rule i t s _ _ ⟨.int (g i),H,I.tok _,⟨_,rfl⟩,q⟩
theorem GI:UnR X (unaryOp .USub) (rU fun i => .int (-i)):=unI fun _ _ _ _ _ q=>neg_int q
end
noncomputable def Jn:V→V→Bool
 | .non,.non=>true | .non,.int _=>true | .int _,.non=>true | .non,.bl _=>true | .bl _,.non=>true | .non,.str _=>true | .str _,.non=>true
 | .int _,.int _=>true | .bl _,.bl _=>true | .str _,.str _=>true | .byt _,.byt _=>true
 | .int _,.str _=>true | .str _,.int _=>true | .bl _,.str _=>true | .str _,.bl _=>true
 | _,_=>false
noncomputable def rEq:R2:=fun x y H Q=>Jn x y=true∧Q (.bl (decide (x=y))) H
noncomputable def rNe:R2:=fun x y H Q=>Jn x y=true∧Q (.bl (!decide (x=y))) H
theorem Er {i j:Int}:decide (V.int i=V.int j)=(i == j):=by
 rw [Bool.eq_iff_iff]
 simp
theorem GJ {i j:Bool}:decide (V.bl i=V.bl j)=(i == j):=by
 rw [Bool.eq_iff_iff]
 simp
theorem Es {i j:Str}:decide (V.str i=V.str j)=(i == j):=by
 rw [Bool.eq_iff_iff]
 simp
theorem Et {i j:Array UInt8}:decide (V.byt i=V.byt j)=(i.toList == j.toList):=by
 rw [Bool.eq_iff_iff]
 cases i
 cases j
 simp
section
variable {X:Cx} {a b c:Expr} {ta tb tc:TE} {pos:Pos}
theorem p8 {pins:List (Addr×Obj)} {σ:St} {H:Hp} {s:Shared} {Q:VK} {k k':Bool} (I:Inv X pins σ H s) (q:Q (.bl k) H) (e:k=k'):EP X pins σ Q (.bool k') s:=by
 subst e
 exact ⟨.bl k,H,I,rfl,q⟩
theorem AE:OpR X (compareOp .Eq) rEq:=by
 intro pins s σ H x y v u Q I rx ry h
 obtain ⟨hs,q⟩:=h
 cases x with
 | non=>
   cases rx
   cases y with
   | non=>cases ry;exact PySem.EqNone.eq_none_none (p8 I q (by simp))
   | bl j=>cases ry;exact PySem.EqNone.eq_none_bool (p8 I q (by simp))
   | int j=>obtain ⟨t',rfl⟩:=ry;exact PySem.EqNone.eq_none_int (p8 I q (by simp))
   | str j=>obtain ⟨t',rfl⟩:=ry;exact PySem.EqNone.eq_none_str (p8 I q (by simp))
   | _=>exact absurd (show false=true from hs) Bool.false_ne_true
 | bl i=>
   cases rx
   cases y with
   | non=>cases ry;exact PySem.EqNone.eq_bool_none (p8 I q (by simp))
   | bl j=>cases ry;exact eq_bool (p8 I q GJ)
   | str j=>obtain ⟨t',rfl⟩:=ry;exact PySem.EqMixed.eq_bool_str (p8 I q (by simp))
   | _=>exact absurd (show false=true from hs) Bool.false_ne_true
 | int i=>
   obtain ⟨t,rfl⟩:=rx
   cases y with
   | non=>cases ry;exact PySem.EqNone.eq_int_none (p8 I q (by simp))
   | int j=>obtain ⟨t',rfl⟩:=ry;exact eq_int (p8 I q Er)
   | str j=>obtain ⟨t',rfl⟩:=ry;exact PySem.EqMixed.eq_int_str (p8 I q (by simp))
   | _=>exact absurd (show false=true from hs) Bool.false_ne_true
 | str i=>
   obtain ⟨t,rfl⟩:=rx
   cases y with
   | non=>cases ry;exact PySem.EqNone.eq_str_none (p8 I q (by simp))
   | bl j=>cases ry;exact PySem.EqMixed.eq_str_bool (p8 I q (by simp))
   | int j=>obtain ⟨t',rfl⟩:=ry;exact PySem.EqMixed.eq_str_int (p8 I q (by simp))
   | str j=>obtain ⟨t',rfl⟩:=ry;exact eq_str (p8 I q Es)
   | _=>exact absurd (show false=true from hs) Bool.false_ne_true
 | byt i=>
   obtain ⟨t,rfl⟩:=rx
   cases y with
   | byt j=>obtain ⟨t',rfl⟩:=ry;exact PySem.W.eq_bytes (p8 I q Et)
   | _=>exact absurd (show false=true from hs) Bool.false_ne_true
 | _=>cases y<;>exact absurd (show false=true from hs) Bool.false_ne_true
theorem Dj:OpR X (compareOp .NotEq) rNe:=by
 intro pins s σ H x y v u Q I rx ry h
 obtain ⟨hs,q⟩:=h
 cases x with
 | non=>
   cases rx
   cases y with
   | non=>cases ry;exact PySem.EqNone.ne_none_none (p8 I q (by simp))
   | bl j=>cases ry;exact PySem.EqNone.ne_none_bool (p8 I q (by simp))
   | int j=>obtain ⟨t',rfl⟩:=ry;exact PySem.EqNone.ne_none_int (p8 I q (by simp))
   | str j=>obtain ⟨t',rfl⟩:=ry;exact PySem.EqNone.ne_none_str (p8 I q (by simp))
   | _=>exact absurd (show false=true from hs) Bool.false_ne_true
 | bl i=>
   cases rx
   cases y with
   | non=>cases ry;exact PySem.EqNone.ne_bool_none (p8 I q (by simp))
   | bl j=>cases ry;exact ne_bool (p8 I q (congrArg not GJ))
   | str j=>obtain ⟨t',rfl⟩:=ry;exact PySem.EqMixed.ne_bool_str (p8 I q (by simp))
   | _=>exact absurd (show false=true from hs) Bool.false_ne_true
 | int i=>
   obtain ⟨t,rfl⟩:=rx
   cases y with
   | non=>cases ry;exact PySem.EqNone.ne_int_none (p8 I q (by simp))
   | int j=>obtain ⟨t',rfl⟩:=ry;exact ne_int (p8 I q (congrArg not Er))
   | str j=>obtain ⟨t',rfl⟩:=ry;exact PySem.EqMixed.ne_int_str (p8 I q (by simp))
   | _=>exact absurd (show false=true from hs) Bool.false_ne_true
 | str i=>
   obtain ⟨t,rfl⟩:=rx
   cases y with
   | non=>cases ry;exact PySem.EqNone.ne_str_none (p8 I q (by simp))
   | bl j=>cases ry;exact PySem.EqMixed.ne_str_bool (p8 I q (by simp))
   | int j=>obtain ⟨t',rfl⟩:=ry;exact PySem.EqMixed.ne_str_int (p8 I q (by simp))
   | str j=>obtain ⟨t',rfl⟩:=ry;exact ne_str (p8 I q (congrArg not Es))
   | _=>exact absurd (show false=true from hs) Bool.false_ne_true
 | byt i=>
   obtain ⟨t,rfl⟩:=rx
   cases y with
   | byt j=>obtain ⟨t',rfl⟩:=ry;exact PySem.W.ne_bytes (p8 I q (congrArg not Et))
   | _=>exact absurd (show false=true from hs) Bool.false_ne_true
 | _=>cases y<;>exact absurd (show false=true from hs) Bool.false_ne_true
theorem CL:OpR X (compareOp .Lt) (rI0 fun i j => .bl (decide (i<j))):=HR fun _ _ _ _ _ _ _ q=>lt_int q
theorem Eu:OpR X (compareOp .LtE) (rI0 fun i j => .bl (decide (i≤j))):=HR fun _ _ _ _ _ _ _ q=>le_int q
theorem Dk:OpR X (compareOp .Gt) (rI0 fun i j => .bl (decide (j<i))):=HR fun _ _ _ _ _ _ _ q=>gt_int q
theorem Jo:OpR X (compareOp .GtE) (rI0 fun i j => .bl (decide (j≤i))):=HR fun _ _ _ _ _ _ _ q=>ge_int q
theorem m7 (b:Expr) {op:CmpOp} (h:op ≠ .In:=by decide) (h2:op ≠ .NotIn:=by decide):behindInMarks op b=false:=by
 have e1:(op == CmpOp.In)=false:=by cases op<;>first | rfl | exact absurd rfl h
 have e2:(op == CmpOp.NotIn)=false:=by cases op<;>first | rfl | exact absurd rfl h2
 cases b<;>simp [behindInMarks,e1,e2]
theorem w9 {op:CmpOp} {r:R2} (ho:OpR X (compareOp op) r) (ha:PE X a ta) (hb:PE X b tb) (hm:behindInMarks op b=false):PE X (.Compare a [op] [b] pos) (tOp r ta tb):=by
 intro pins s σ H Q I h
 exact wpAny_Compare1 (Io ha hb I h fun v u s2 x y H2 I2 rx ry q=>ho pins s2 σ H2 x y v u Q I2 rx ry q) hm
noncomputable def IQ (t:TE):TT:=fun σ H Q=>t σ H fun x H'=>∃ k,x = .bl k∧Q k H'
theorem j7 {op:CmpOp} {r:R2} (ho:OpR X (compareOp op) r) (ha:PE X a ta) (hb:PE X b tb) (hm:behindInMarks op b=false):PT X (.Compare a [op] [b] pos) (IQ (tOp r ta tb)):=by
 intro pins s σ H Q I h
 refine wpAny_isTrue_Compare1 (thn (ha pins s σ H _ I h) fun v s1 ⟨x,H1,I1,r1,q1⟩=>thn (hb pins s1 σ H1 _ I1 q1) fun u s2 ⟨y,H2,I2,r2,q2⟩=>
  thn (ho pins s2 σ H2 x y v u _ I2 r1 r2 q2) fun c s3 ⟨z,H3,I3,r3,k,e,q3⟩=>?_) hm
 subst e
 cases r3
 exact wpAny_truthy_bool ⟨H3,I3,q3⟩
noncomputable def GK (r r':R2) (ta tb tc:TE):TE:=fun σ H Q=>ta σ H fun x H1=>tb σ H1 fun y H2=>r x y H2 fun z H3=>∃ k,z = .bl k∧
 (if k=true then tc σ H3 fun w' H4=>r' y w' H4 Q else Q (.bl false) H3)
theorem Dm {op op':CmpOp} {r r':R2} (ho:OpR X (compareOp op) r) (ho':OpR X (compareOp op') r') (ha:PE X a ta) (hb:PE X b tb) (hc:PE X c tc)
 (hm:lastMarks [op,op'] [b,c]=false:=by with_unfolding_all rfl):PE X (.Compare a [op,op'] [b,c] pos) (GK r r' ta tb tc):=by
 intro pins s σ H Q I h
 refine Compare_chain (thn (ha pins s σ H _ I h) fun v s1 ⟨x,H1,I1,r1,q1⟩=>chain_link (thn (hb pins s1 σ H1 _ I1 q1) fun u s2 ⟨y,H2,I2,r2,q2⟩=>
  thn (ho pins s2 σ H2 x y v u _ I2 r1 r2 q2) fun d s3 ⟨z,H3,I3,r3,k,e,q3⟩=>?_)) hm
 subst e
 cases r3
 refine wpAny_truthy_bool ?_
 cases k with
 | false=>exact ite_ff ⟨.bl false,H3,I3,rfl,q3⟩
 | true=>exact ite_tt (chain_last (thn (hc pins s3 σ H3 _ I3 q3) fun w' s4 ⟨z',H4,I4,r4,q4⟩=>ho' pins s4 σ H4 y z' u w' Q I4 r2 r4 q4))
theorem Dn {op op':CmpOp} {r r':R2} (ho:OpR X (compareOp op) r) (ho':OpR X (compareOp op') r') (ha:PE X a ta) (hb:PE X b tb) (hc:PE X c tc)
 (hm:lastMarks [op,op'] [b,c]=false:=by with_unfolding_all rfl):PT X (.Compare a [op,op'] [b,c] pos) (IQ (GK r r' ta tb tc)):=by
 intro pins s σ H Q I h
 refine isTrue_chain (thn (ha pins s σ H _ I h) fun v s1 ⟨x,H1,I1,r1,q1⟩=>test_link (thn (hb pins s1 σ H1 _ I1 q1) fun u s2 ⟨y,H2,I2,r2,q2⟩=>
  thn (ho pins s2 σ H2 x y v u _ I2 r1 r2 q2) fun d s3 ⟨z,H3,I3,r3,k,e,q3⟩=>?_)) hm
 subst e
 cases r3
 refine wpAny_truthy_bool ?_
 cases k with
 | false=>
   obtain ⟨k',e',q'⟩:=q3
   cases e'
   exact ite_ff ⟨H3,I3,q'⟩
 | true=>
   refine ite_tt (test_last (thn (hc pins s3 σ H3 _ I3 q3) fun w' s4 ⟨z',H4,I4,r4,q4⟩=>thn (ho' pins s4 σ H4 y z' u w' _ I4 r2 r4 q4) fun d' s5 ⟨z2,H5,I5,r5,k2,e2,q5⟩=>?_))
   subst e2
   cases r5
   exact wpAny_truthy_bool ⟨H5,I5,q5⟩
theorem Bm:(sizeLine:Nat)<2 ^ 63:=by rw [sizeLine_eq];decide
theorem B1 {x:V} {us:List Value} (r:Vals [x] us):∃ u,us=[u]∧RelV x u:=by
 cases r with
 | cons r1 r2=>cases r2;exact ⟨_,rfl,r1⟩
theorem IR {x y:V} {us:List Value} (r:Vals [x,y] us):∃ u w',us=[u,w']∧RelV x u∧RelV y w':=by
 cases r with
 | cons r1 r2=>
   cases r2 with
   | cons r3 r4=>cases r4;exact ⟨_,_,rfl,r1,r3⟩
theorem Do:A2 X (.builtin "abs") (fun xs H Q=>∃ i,xs=[.int i]∧Q (.int (if i<0 then -i else i)) H):=by
 intro pins s σ H xs us Q I r h
 obtain ⟨i,rfl,q⟩:=h
 obtain ⟨u,rfl,t,rfl⟩:=B1 r
 exact call_abs_int fun u tk=>⟨.int (if i<0 then -i else i),H,I.tok _,⟨_,rfl⟩,q⟩
theorem FX (hc:X.calm=true):A2 X (.builtin "max") (fun xs H Q=>∃ i j,xs=[.int i,.int j]∧Q (.int (if j>i then j else i)) H):=by
 intro pins s σ H xs us Q I r h
 obtain ⟨i,j,rfl,q⟩:=h
 obtain ⟨u,w',rfl,⟨t,rfl⟩,⟨t',rfl⟩⟩:=IR r
 refine max_two_ints (I.ok.hd hc) fun h' tk k=>⟨_,H,I.kept k,?_,q⟩
 by_cases hj:j>i
 ·rw [if_pos hj,if_pos hj];exact ⟨_,rfl⟩
 ·rw [if_neg hj,if_neg hj];exact ⟨_,rfl⟩
theorem B6 (hc:X.calm=true):A2 X (.builtin "min") (fun xs H Q=>∃ i j,xs=[.int i,.int j]∧Q (.int (if j<i then j else i)) H):=by
 intro pins s σ H xs us Q I r h
 obtain ⟨i,j,rfl,q⟩:=h
 obtain ⟨u,w',rfl,⟨t,rfl⟩,⟨t',rfl⟩⟩:=IR r
 refine min_two_ints (I.ok.hd hc) fun h' tk k=>⟨_,H,I.kept k,?_,q⟩
 by_cases hj:j<i
 ·rw [if_pos hj,if_pos hj];exact ⟨_,rfl⟩
 ·rw [if_neg hj,if_neg hj];exact ⟨_,rfl⟩
theorem B7:A2 X (.type "int") (fun xs H Q=>(∃ i,xs=[.int i]∧Q (.int i) H)∨∃ k,xs=[.bl k]∧Q (.int (if k then 1 else 0)) H):=by
 intro pins s σ H xs us Q I r h
 rcases h with ⟨i,rfl,q⟩ | ⟨k,rfl,q⟩
 ·obtain ⟨u,rfl,t,rfl⟩:=B1 r
  exact call_int_int ⟨.int i,H,I,⟨_,rfl⟩,q⟩
 ·obtain ⟨u,rfl,r1⟩:=B1 r
  cases r1
  exact call_int_bool ⟨.int (if k then 1 else 0),H,I.tok _,⟨_,rfl⟩,q⟩
end
open PySem PySem.Spec PyProof.Rows
structure ObjM (h:Heap) (x dx C:Addr) (mA:Str→Option Value):Prop where
 obj:h.get? x=some (PySem.W.instObj C dx)
 ns:h.Ns1 dx mA
 ne:dx≠x
theorem FY {h:Heap} {dx:Addr} {mA:Str→Option Value} (n:h.Ns1 dx mA):∃ od,h.get? dx=some od∧∀ name,PySem.W.lookIn name od=some (mA name):=by
 obtain ⟨o,es,ep,ho,hd,hk,_,hm⟩:=n
 refine ⟨o,ho,fun name=>?_⟩
 have e:=hm name
 unfold nsFind findBy at e
 rw [← Array.find?_toList] at e
 unfold PySem.W.lookIn
 rw [hd]
 dsimp only
 split
 ·rename_i y q
  rw [q] at e
  exact congrArg some e
 ·rename_i q
  rw [q] at e
  have a:es.toList.any (·.refKey)=false:=by
   rw [List.any_eq_false]
   intro y hy
   obtain ⟨z,t,hkey⟩:=hk y (Array.mem_toList_iff.mp hy)
   simp [DictEntry.refKey,hkey]
  have a':¬ es.toList.any (·.refKey)=true:=by rw [a];exact Bool.false_ne_true
  rw [if_neg a']
  exact congrArg some e
theorem ObjM.look {h:Heap} {x dx C:Addr} {mA:Str→Option Value} (I:ObjM h x dx C mA):∃ od,PySem.W.InstAt h x (PySem.W.instObj C dx) C (some od)∧∀ name,PySem.W.lookIn name od=some (mA name):=
 let ⟨od,ho,hl⟩:=FY I.ns
 ⟨od,⟨I.obj,rfl,rfl,ho⟩,hl⟩
section
variable {P:Program} {w:World} {H H':Hp} {h h':Heap} {a C dx:Addr} {fs fs':List (Str×V)}
theorem Ev (hok:HOk P w H h) (e:H a=some (.ins C dx fs)):∃ mA,ObjM h a dx C mA∧(∀ f,Ik (fs.lookup f) (mA f))∧PySem.Within mA (fs.map (·.1))∧fs.length≤1000∧H dx=some (.own a):=by
 obtain ⟨d,z,ne,ob,mA,n,r,q⟩:=(show ObjOk P w H h a (.ins C dx fs) from hok a _ e)
 exact ⟨mA,⟨ob,n,ne⟩,r,q,z,d⟩
end
structure Cls (K:PySem.W.Frag) (C:Addr):Prop where
 pg:PySem.W.plainGet K C Str.empty=true
 hd:PySem.W.hasDictIn K C=true
 po:PySem.W.plainOver K C=true
 sa:PySem.W.findIn K (.ref C) "__setattr__"=some (some (.builtin "object.__setattr__"))
theorem Cls.get {K:PySem.W.Frag} {C:Addr} (c:Cls K C) (f:Str):PySem.W.plainGet K C f=true:=c.pg
section
variable {X:Cx} {pins:List (Addr×Obj)} {σ:St} {H:Hp} {s:Shared} {A:Around} {E:Value→Shared→Prop} {Q:Value→Shared→Prop} {c:Value} {b:Bool}
inductive TyOf (K:PySem.W.Frag) (H:Hp):V→Value→Prop where
 | non:TyOf K H .non (.type "NoneType")
 | bl (x:Bool):TyOf K H (.bl x) (.type "bool")
 | int (i:Int):TyOf K H (.int i) (.type "int")
 | str (x:Str):TyOf K H (.str x) (.type "str")
 | flt (x:UInt64):TyOf K H (.flt x) (.type "float")
 | lst {a:Addr} {xs:List V} (e:H a=some (.lst xs)):TyOf K H (.ref a) (.type "list")
 | frz {a:Addr} {o:Obj} {xs:List V} (e:H a=some (.frz o (.lst xs))):TyOf K H (.ref a) (.type "list")
 | tup {a:Addr} {xs:List V} (e:H a=some (.tup xs)):TyOf K H (.ref a) (.type "tuple")
 | dK {a:Addr} {kvs:List (Key×V)} (e:H a=some (.dK kvs)):TyOf K H (.ref a) (.type "dict")
 | dT {a:Addr} {kvs:List (List Key×V)} (e:H a=some (.dT kvs)):TyOf K H (.ref a) (.type "dict")
 | ins {a C dx:Addr} {fs:List (Str×V)} (e:H a=some (.ins C dx fs)) (cl:Cls K C) (ha:PySem.W.findIn K (.ref C) "__class__"=some (some (.builtin "object.__class__")))
    (hn:PySem.W.specialIn K (.builtin "object.__class__") "__get__"=some (some (.builtin "getset_descriptor.__get__"))) (htk:PySem.W.takesIn K (.builtin "object.__class__")=some true)
    (hm:PySem.W.mroIn K C (.type "object")=some true):TyOf K H (.ref a) (.ref C)
theorem Cp {x:V} {u t:Value} (I:Inv X pins σ H s) (rx:RelV x u) (ty:TyOf X.K H x t) (e:PySem.W.kitOne X.K t c=some b) (h:∀ tk,Q (.bool b) {s with toks:=tk}):
 wpAny (model X.prog X.w) A (call (.builtin "isinstance") [u,c]) Q E s:=by
 cases ty with
 | non=>cases (show u=Value.none from rx);exact PySem.W.kia_one PySem.W.kitx_none I.kIn True.intro e (fun z=>nomatch z) h
 | bl y=>cases (show u=Value.bool y from rx);exact PySem.W.kia_one PySem.W.kitx_bool I.kIn True.intro e (fun z=>nomatch z) h
 | int i=>obtain ⟨t,q⟩:=(show ∃ t,u=Value.int i t from rx);cases q;exact PySem.W.kia_one PySem.W.kitx_int I.kIn True.intro e (fun z=>nomatch z) h
 | str y=>obtain ⟨t,q⟩:=(show ∃ t,u=Value.str y t from rx);cases q;exact PySem.W.kia_one PySem.W.kitx_str I.kIn True.intro e (fun z=>nomatch z) h
 | flt y=>obtain ⟨t,q⟩:=(show ∃ t,u=Value.float y t from rx);cases q;exact PySem.W.kia_one PySem.W.kitx_float I.kIn True.intro e (fun z=>nomatch z) h
 | @lst a xs ea=>
   cases (show u=Value.ref a from rx)
   obtain ⟨_,_,n,_,h1⟩:=(show ObjOk X.prog X.w H s.heap a (.lst xs) from I.hok a _ ea)
   exact PySem.W.kia_one PySem.W.kitx_list I.kIn ⟨_,h1,rfl⟩ e (fun z=>nomatch z) h
 | @frz a ob xs ea=>
   cases (show u=Value.ref a from rx)
   obtain ⟨_,_,_,n,_,h1⟩:=(show ObjOk X.prog X.w H s.heap a (.frz ob (.lst xs)) from I.hok a _ ea)
   exact PySem.W.kia_one PySem.W.kitx_list I.kIn ⟨_,h1,rfl⟩ e (fun z=>nomatch z) h
 | @tup a xs ea=>
   cases (show u=Value.ref a from rx)
   obtain ⟨_,_,_,p⟩:=(show ObjOk X.prog X.w H s.heap a (.tup xs) from I.hok a _ ea)
   obtain ⟨o,h1,h2,_⟩:=p
   exact PySem.W.kia_one PySem.W.kitx_tuple I.kIn ⟨o,h1,h2⟩ e (fun z=>nomatch z) h
 | @dK a kvs ea=>
   cases (show u=Value.ref a from rx)
   obtain ⟨_,_,vs,_,p⟩:=(show ObjOk X.prog X.w H s.heap a (.dK kvs) from I.hok a _ ea)
   obtain ⟨o,es,ep,h1,h2,_⟩:=p
   exact PySem.W.kia_one PySem.W.kitx_dict I.kIn ⟨o,h1,h2.1⟩ e (fun z=>nomatch z) h
 | @dT a kvs ea=>
   cases (show u=Value.ref a from rx)
   obtain ⟨_,_,xs,_,o,es,ep,h1,h2,_⟩:=(show ObjOk X.prog X.w H s.heap a (.dT kvs) from I.hok a _ ea)
   exact PySem.W.kia_one PySem.W.kitx_dict I.kIn ⟨o,h1,h2.1⟩ e (fun z=>nomatch z) h
 | @ins a C dx fs ea cl ha hn htk hm=>
   cases (show u=Value.ref a from rx)
   obtain ⟨mA,O,_⟩:=Ev I.hok ea
   obtain ⟨od,J,_⟩:=O.look
   exact PySem.W.kia_one (PySem.W.kitx_own (cl.get _) cl.hd ha hn htk hm) I.kIn J e (fun z=>nomatch z) h
end
open PySem PySem.Spec PyProof.Rows
structure Room (k:Nat) (A:Around):Prop where
 hd:A.handled=none
 dp:A.depth+3 * k+5<recursionLimit
 un:A.units+16 * k+200<cLine
 gd:A.guards=some []
theorem Room.mono {j k:Nat} {A:Around} (r:Room k A) (h:j≤k):Room j A:=⟨r.hd,by have:=r.dp;omega,by have:=r.un;omega,r.gd⟩
theorem Room.deeper {k:Nat} {A:Around} (r:Room (k+1) A) (env:Env):Room k (A.deeper env):=
 ⟨r.hd,by have:=r.dp;show A.depth+1+3 * k+5<_;omega,by have:=r.un;show A.units+3+16 * k+200<_;omega,r.gd⟩
theorem Room.depth {k:Nat} {A:Around} (r:Room k A):A.depth<recursionLimit:=by have:=r.dp;omega
theorem Room.units0 {k:Nat} {A:Around} (r:Room k A):A.units<cLine:=by have:=r.un;omega
noncomputable def KR:TA:=fun _ H Q=>Q [] H
noncomputable def Jp (ta:TE) (tr:TA):TA:=fun σ H Q=>ta σ H fun x H1=>tr σ H1 fun xs H2=>Q (x::xs) H2
section
variable {X:Cx} {e:Expr} {es:List Expr} {te:TE} {t:TA} {pos:Pos}
theorem b8:PA X [] KR:=fun _ _ _ _ H Q I h=>Calls.spliced_nil ⟨[],H,I,.nil,h⟩
theorem b7 (ha:PE X e te) (hr:PA X es t) (hs:starEach (e::es) X.env=(false,eval e X.env)::starEach es X.env:=by rfl):PA X (e::es) (Jp te t):=by
 intro pos pins s σ H Q I h
 rw [hs]
 show wpAny _ _ (spliced ((false,eval e X.env)::backTo pos (starEach es X.env))) _ _ s
 refine Calls.spliced_cons (thn (ha pins s σ H _ I h) fun u s1 ⟨x,H1,I1,r1,q1⟩=>?_)
 exact thn (hr pos pins s1 σ H1 _ I1 q1) fun us s2 ⟨xs,H2,I2,r2,q2⟩=>⟨x::xs,H2,I2,.cons r1 r2,q2⟩
noncomputable def KS (t:TA):TE:=fun σ H Q=>t σ H fun xs H1=>xs.length≤sizeLine∧∀ p,H1 p=none→Q (.ref p) (upd H1 p (.tup xs))
noncomputable def Jq (t:TA):TE:=fun σ H Q=>t σ H fun xs H1=>xs.length≤sizeLine∧∀ p,H1 p=none→Q (.ref p) (upd H1 p (.lst xs))
theorem u7 {x1} (h:PA X es t):PE X (.Tuple es x1 pos) (KS t):=by
 intro pins s σ H Q I hq
 refine wpAny_Tuple_spliced (thn (h pos pins s σ H _ I hq) fun us s1 ⟨xs,H1,I1,r,z,q⟩=>⟨by rw [← r.length];exact z,?_⟩)
 have hf:H1 s1.heap.objs.size=none:=I1.hok.fresh (Nat.le_refl _)
 refine ⟨.ref s1.heap.objs.size,upd H1 s1.heap.objs.size (.tup xs),I1.laid (t':=s1.toks) (fun b u e=>Heap.get?_push_of_some _ e) (Nat.le_refl _) ?_,rfl,q _ hf⟩
 exact ⟨z,us,r,⟨_,Heap.get?_push_size _ rfl,rfl,_,rfl⟩⟩
theorem t5 (h:PA X es t):PE X (.List es pos) (Jq t):=by
 intro pins s σ H Q I hq
 refine wpAny_List_spliced (thn (h pos pins s σ H _ I hq) fun us s1 ⟨xs,H1,I1,r,z,q⟩=>⟨by rw [← r.length];exact z,?_⟩)
 have hf:H1 s1.heap.objs.size=none:=I1.hok.fresh (Nat.le_refl _)
 refine ⟨.ref s1.heap.objs.size,upd H1 s1.heap.objs.size (.lst xs),I1.laid (t':=s1.toks) (fun b u e=>Heap.get?_push_of_some _ e) (Nat.le_refl _) ?_,rfl,q _ hf⟩
 exact ⟨z,us,0,r,Heap.get?_push_size _ rfl⟩
end
noncomputable abbrev Sp:=List V→Hp→VK→XK→Prop
noncomputable abbrev CXT:=List Env→Hp→Shared→XK→Value→Shared→Prop
structure Env0 (P:Program) (w:World) (K:PySem.W.Frag) (mg:Str→Option Value) (base:Heap) (A:Around) (outer:List Env) (s:Shared) (H:Hp):Prop where
 frames:A.frames=some outer
 mod:Mod K mg base
 bs:∀ b o,base.get? b=some o→s.heap.get? b=some o∧H b=none
 bsz:base.objs.size≤s.heap.objs.size
 funs:s.heap.FunFrames base outer
 frf:∀ b∈frs outer,H b=none
 hok:HOk P w H s.heap
 bare:AllBare s.gens
noncomputable def CE (outer:List Env) (P:Program) (w:World) (H:Hp) (s:Shared) (Q:VK) (u:Value) (s':Shared):Prop:=
 ∃ v H',s'.os=s.os∧AllBare s'.gens∧Un (frs outer) [] H H' s.heap s'.heap∧HOk P w H' s'.heap∧RelV v u∧Q v H'
noncomputable def CR (CX:CXT) (outer:List Env) (P:Program) (w:World) (H:Hp) (s:Shared) (Q:VK) (E:XK) (r:Result) (s':Shared):Prop:=
 match r with
 | .ok (.ret u)=>CE outer P w H s Q u s'
 | .ok _=>False
 | .error e=>CX outer H s E e s'
structure FnOk (P:Program) (w:World) (K:PySem.W.Frag) (mg:Str→Option Value) (base:Heap) (CX:CXT) (k:Nat) (f:Addr) (fd:FuncData) (ps:List Str) (sp:Sp):Prop where
 len:∀ vs H Q E,sp vs H Q E→vs.length=ps.length
 run:∀ (A:Around) (outer:List Env) (s:Shared) (H:Hp) (args:Args) (us:List Value) (vs:List V) (Q:VK) (E:XK),Room k A→Env0 P w K mg base A outer s H→BindsTo s fd args (ps.zip us)→Vals vs us→sp vs H Q E→
  codeAny (model P w) A (.call (.ref f) args) (CR CX outer P w H s Q E) s
section
variable {X:Cx} {pins:List (Addr×Obj)} {σ:St} {H:Hp} {s s':Shared}
theorem Inv.env0 (I:Inv X pins σ H s):Env0 X.prog X.w X.K X.mg X.base X.A X.stack s H:=
 ⟨I.ok.frames,I.ok.mod,I.bs,Nat.le_trans I.ok.bsz I.sz,I.stack,I.stkFree,I.hok,I.bare⟩
theorem Inv.after {Q:VK} {u:Value} (I:Inv X pins σ H s) (h:CE X.stack X.prog X.w H s Q u s'):EP X pins σ Q u s':=by
 obtain ⟨v,H',os,bare,un,hok,r,q⟩:=h
 obtain ⟨hh,g,d,t,os'⟩:=s'
 obtain rfl:os'=s.os:=os
 exact ⟨v,H',I.call (h':=hh) (g':=g) (d':=d) (t':=t) (ch:=[]) un hok bare (fun b z=>absurd z (by simp)),r,q⟩
end
noncomputable def GL (sp:Sp) (dvs:List V) (E:XK) (t:TA):TE:=fun σ H Q=>t σ H fun vs H1=>sp (vs++dvs) H1 Q E
noncomputable def Binds (K:PySem.W.Frag) (fd:FuncData) (ps:List Str) (ds:List Value):Prop:=
 ∀ (s:Shared) (us:List Value),K.In s.heap→(us++ds).length=ps.length→BindsTo s fd ⟨us,[]⟩ (ps.zip (us++ds))
theorem Binds.all {K:PySem.W.Frag} {fd:FuncData} {ps:List Str} (h:∀ us:List Value,us.length=ps.length→bindArgs fd ⟨us,[]⟩=pure (ps.zip us)):Binds K fd ps []:=fun s us _ hl=>by
 rw [List.append_nil] at hl ⊢
 exact .of_eq (h us hl)
noncomputable def DR (CX:CXT) (X:Cx) (E:XK):Prop:=∀ (pins:List (Addr×Obj)) (σ:St) (H:Hp) (s:Shared) (e:Value) (s':Shared),Inv X pins σ H s→CX X.stack H s E e s'→X.xe e s'
section
variable {X:Cx} {CX:CXT} {k:Nat} {f C:Addr} {fd:FuncData} {ps:List Str} {sp:Sp} {dvs:List V} {ds:List Value} {E:XK} {x m:Str} {p pos apos:Pos} {e o:Expr} {es:List Expr} {ta:TE} {t:TA}
theorem Iq {pins:List (Addr×Obj)} {σ:St} {H:Hp} {s:Shared} {Q:VK} {us:List Value} {vs:List V} (F:FnOk X.prog X.w X.K X.mg X.base CX k f fd ps sp) (hr:Room k X.A) (hb:Binds X.K fd ps ds) (hd:Vals dvs ds) (hx:DR CX X E)
 (I:Inv X pins σ H s) (r:Vals vs us) (h:sp (vs++dvs) H Q E):wpAny (model X.prog X.w) X.A (call (.ref f) us) (EP X pins σ Q) X.xe s:=by
 have r2:Vals (vs++dvs) (us++ds):=r.append hd
 have hl:(us++ds).length=ps.length:=by rw [← r2.length];exact F.len _ _ _ _ h
 refine wpAny_call (codeAny_mono (F.run X.A X.stack s H ⟨us,[]⟩ (us++ds) (vs++dvs) Q E hr I.env0 (hb s us I.kIn hl) r2 h) fun r s' hq=>?_)
 cases r with
 | error e=>exact hx pins σ H s e s' I hq
 | ok fl=>
   cases fl with
   | ret u=>exact I.after hq
   | next=>exact False.elim hq
   | brk=>exact False.elim hq
   | cont=>exact False.elim hq
theorem Ew (F:FnOk X.prog X.w X.K X.mg X.base CX k f fd ps sp) (hr:Room k X.A) (hg:Gl X x) (hm:X.mg x=some (.ref f)) (hk:PySem.W.keepIn X.K (.ref f)=true) (hb:Binds X.K fd ps ds) (hd:Vals dvs ds) (hx:DR CX X E)
 (ha:PA X (e::es) t) (hdb:(x == ("__debug__":Str))=false:=by decide) (he:starEach (e::es) X.env=(false,eval e X.env)::starEach es X.env:=by rfl) (hpl:(backTo pos (starEach es X.env)).any (·.1)=false:=by rfl):
 PE X (.Call (.Name x p) (e::es) [] pos) (GL sp dvs E t):=by
 intro pins s σ H Q I h
 refine wpAny_Call_Name_kw (BX I hg hm ?_ hdb)
 refine PySem.W.callWith_K (h₀:=X.base) I.ok.mod.kin hk (thn (ha pos pins s σ H _ I h) fun us s1 ⟨vs,H1,I1,r,q⟩=>⟨I1.kIn,?_⟩) he hpl
 exact Iq F hr hb hd hx I1 r q
end
structure FnScope (N P:List Str) (sc:Scope):Prop where
 kind:sc.kind = .function
 co:sc.isCoroutine=false
 gen:sc.isGenerator=false
 nd:N.Nodup
 pre:N.take P.length=P
 par:∀ x∈P,sc.names.lookup x=some .local∨sc.names.lookup x=some .cell
 nofree:∀ y∈sc.names,y.2 ≠ .free
theorem Cq {kindOf:Str→Option NameKind} {x:Str}:∀ {binds:List (Str×Value)} {m:Str→Option Value},(∀ v,(x,v)∉binds)→bindL kindOf binds m x=m x
 | [],_,_=>rfl
 | (n,v)::r,m,h=>by
   unfold bindL
   rw [Cq fun w hw=>h w (List.mem_cons_of_mem _ hw)]
   split
   ·have:x≠n:=by rintro rfl;exact h v List.mem_cons_self
    simp [this]
   ·rfl
theorem Cr {kindOf:Str→Option NameKind} {x:Str}:∀ {binds:List (Str×Value)} {m:Str→Option Value},(∀ v,(x,v)∉binds)→bindC kindOf binds m x=m x
 | [],_,_=>rfl
 | (n,v)::r,m,h=>by
   unfold bindC
   rw [Cr fun w hw=>h w (List.mem_cons_of_mem _ hw)]
   split
   ·rfl
   ·have:x≠n:=by rintro rfl;exact h v List.mem_cons_self
    simp [this]
theorem Cs {kindOf:Str→Option NameKind} {x:Str} {v:Value}:∀ {P:List Str} {vs:List Value} {i:Nat} {m:Str→Option Value},P.Nodup→P[i]?=some x→vs[i]?=some v→kindOf x=some .local→
 bindL kindOf (P.zip vs) m x=some v
 | [],_,_,_,_,h,_,_=>by simp at h
 | _::_,[],_,_,_,_,h,_=>by simp at h
 | p::P,w::vs,0,m,nd,h1,h2,hk=>by
   simp at h1 h2;subst h1;subst h2
   show bindL kindOf ((p,w)::P.zip vs) m p=_
   unfold bindL
   rw [Cq fun v hv=>(List.nodup_cons.mp nd).1 (List.of_mem_zip hv).1,if_pos hk]
   simp
 | p::P,w::vs,i+1,m,nd,h1,h2,hk=>by
   show bindL kindOf ((p,w)::P.zip vs) m x=_
   unfold bindL
   exact Cs (i:=i) (List.nodup_cons.mp nd).2 (by simpa using h1) (by simpa using h2) hk
theorem Ct {kindOf:Str→Option NameKind} {x:Str} {v:Value}:∀ {P:List Str} {vs:List Value} {i:Nat} {m:Str→Option Value},P.Nodup→P[i]?=some x→vs[i]?=some v→kindOf x≠some .local→
 bindC kindOf (P.zip vs) m x=some v
 | [],_,_,_,_,h,_,_=>by simp at h
 | _::_,[],_,_,_,_,h,_=>by simp at h
 | p::P,w::vs,0,m,nd,h1,h2,hk=>by
   simp at h1 h2;subst h1;subst h2
   show bindC kindOf ((p,w)::P.zip vs) m p=_
   unfold bindC
   rw [Cr fun v hv=>(List.nodup_cons.mp nd).1 (List.of_mem_zip hv).1,if_neg hk]
   simp
 | p::P,w::vs,i+1,m,nd,h1,h2,hk=>by
   show bindC kindOf ((p,w)::P.zip vs) m x=_
   unfold bindC
   exact Ct (i:=i) (List.nodup_cons.mp nd).2 (by simpa using h1) (by simpa using h2) hk
noncomputable def start (N:List Str) (vs:List V):St:=vs.map some++List.replicate (N.length - vs.length) none
noncomputable def Cj (CX:CXT) (P:Program) (w:World) (K:PySem.W.Frag) (mg:Str→Option Value) (base:Heap) (N:List Str) (qual:Str) (scope:Scope) (f:Addr) (cd:Value) (A:Around) (outer:List Env) (s:Shared) (H:Hp) (E:XK):Cx where
 prog:=P
 w:=w
 K:=K
 mg:=mg
 base:=base
 A:=A.deeper (envOfC qual scope s.heap.objs.size f cd)
 N:=N
 s₀:=s
 H₀:=H
 env:=envOfC qual scope s.heap.objs.size f cd
 outer:=outer
 stack:=envOfC qual scope s.heap.objs.size f cd::outer
 ex:=[]
 calm:=true
 fn:=fun _=>true
 pn:=[]
 xe:=fun e s'=>wpAny (model P w) (A.deeper (envOfC qual scope s.heap.objs.size f cd)) (leaving (envOfC qual scope s.heap.objs.size f cd) e) (fun _ s''=>CX outer H s E e s'') (fun e' s''=>CX outer H s E e' s'') s'
theorem Dp {sc:Scope} {n:Nat} {x:Str} (h:sc.names.lookup x=some .cell):∃ c,(cellsFrom n sc.names []).lookup x=some c:=by
 have q:=PySem.W.cellsFrom_some sc.names n [] (.inl h)
 exact Option.isSome_iff_exists.mp q
theorem FZ {CX:CXT} {P:Program} {w:World} {K:PySem.W.Frag} {mg:Str→Option Value} {base:Heap} {N ps:List Str} {qual:Str} {scope:Scope} {f:Addr} {cd:Value} {A:Around} {outer:List Env} {s s1:Shared} {H:Hp} {E:XK} {us:List Value} {vs:List V}
 (S:FnScope N ps scope) (hd:A.handled=none) (e0:Env0 P w K mg base A outer s H) (hl:vs.length=ps.length) (r:Vals vs us)
 (x:InCallC s s.heap.objs.size (bindL (envOfC qual scope s.heap.objs.size f cd).kindOf (ps.zip us) fun _=>none) (cellsFrom (s.heap.objs.size+1) scope.names []) (bindC (envOfC qual scope s.heap.objs.size f cd).kindOf (ps.zip us) fun _=>none) s1):
 Inv (Cj CX P w K mg base N qual scope f cd A outer s H E) [] (start N vs) H s1:=by
 have hpl:ps.length≤N.length:=by have:=congrArg List.length S.pre;rw [List.length_take] at this;omega
 obtain ⟨h1,tk,rfl,hk⟩:=x.done
 have noA:∀ b:Addr,b∉(Cj CX P w K mg base N qual scope f cd A outer s H E).ex:=fun b z=>absurd (show b∈([]:List Addr) from z) (by simp)
 refine ⟨⟨e0.mod,S.kind,rfl,rfl,Nat.le_refl _,fun y z c h1 h2=>?_,fun y hy=>?_,fun y c _ h=>?_,fun _=>hd,Around.frames_deeper e0.frames,.inr ⟨rfl,rfl⟩,fun b z=>absurd z (noA b),e0.bs,e0.bsz,fun b _ _=>noA b,fun b z=>absurd z (noA b),e0.funs,e0.frf⟩,
  rfl,e0.bare,Un.kept hk,⟨_,x.toInCall.ns,fun i y v h1 h2 h3=>?_⟩,fun y c h=>⟨_,x.cell y c h⟩,e0.hok.fresh (Nat.le_refl _),fun y c h=>?_,fun p hp=>absurd (show p∈([]:List (Addr×Obj)) from hp) (by simp),e0.hok.kept hk,?_⟩
 ·exact name_of_addr x.apart (PySem.mem_of_lookup h1) (PySem.mem_of_lookup h2)
 ·have hy:scope.names.lookup y=some .cell∨scope.names.lookup y=some .free:=hy
  rcases hy with hy | hy
  ·exact Dp hy
  ·exact absurd rfl (S.nofree _ (PySem.mem_of_lookup hy))
 ·exact Nat.le_of_lt (x.above y c (PySem.mem_of_lookup h))
 ·have hi:i<vs.length:=by
   unfold start at h2
   by_cases hi:i<vs.length
   ·exact hi
   ·rw [List.getElem?_append_right (by simpa using hi)] at h2
    rw [List.getElem?_replicate] at h2
    split at h2<;>cases h2
  have ha:vs[i]?=some v:=by
   unfold start at h2
   rw [List.getElem?_append_left (by simpa using hi),List.getElem?_map] at h2
   cases e:vs[i]? with
   | none=>rw [e] at h2;cases h2
   | some a=>rw [e] at h2;cases h2;rfl
  obtain ⟨u,hu,rv⟩:=r.get ha
  have hp:ps[i]?=some y:=by
   rw [← S.pre,List.getElem?_take_of_lt (by omega)];exact h1
  have ndP:ps.Nodup:=by rw [← S.pre];exact S.nd.sublist (List.take_sublist _ _)
  refine ⟨u,rv,?_⟩
  rcases S.par y (List.mem_of_getElem? hp) with k | k
  ·exact .inl ⟨k,Cs ndP hp hu k⟩
  ·obtain ⟨c,e⟩:=Dp (n:=s.heap.objs.size+1) k
   refine .inr ⟨.inl k,c,e,?_⟩
   have q:=x.cell y c e
   rw [Ct ndP hp hu (by show scope.names.lookup y≠_;rw [k];decide)] at q
   exact q
 ·exact e0.hok.fresh (Nat.le_of_lt (x.above y c (PySem.mem_of_lookup h)))
 ·unfold start
  show _=N.length
  rw [List.length_append,List.length_map,List.length_replicate]
  omega
theorem IS {CX:CXT} {P:Program} {w:World} {K:PySem.W.Frag} {mg:Str→Option Value} {base:Heap} {k:Nat} {f:Addr} {name qual:Str} {params:Arguments} {body:List Stmt} {scope:Scope} {dV kV doc pm cdv ct oc:Value} {an od:Option Addr}
 {osl:Array (Option Value)} {N ps:List Str} {sp:Sp} (lk:K.lookup f=some ⟨oc,od,.func (PySem.W.fnOf name qual params body scope dV kV doc pm an cdv ct),osl⟩) (hcd:PySem.W.codeIn K cdv qual=true) (S:FnScope N ps scope)
 (len:∀ vs H Q E,sp vs H Q E→vs.length=ps.length)
 (hbody:∀ (A:Around) (outer:List Env) (s:Shared) (H:Hp) (vs:List V) (Q:VK) (E:XK),Room k (A.deeper (envOfC qual scope s.heap.objs.size f cdv))→sp vs H Q E→
   ∃ t,PSs (Cj CX P w K mg base N qual scope f cdv A outer s H E) body t∧t {nx:=fun _ H'=>Q .non H',rt:=Q} (start N vs) H):
 FnOk P w K mg base CX (k+1) f (PySem.W.fnOf name qual params body scope dV kV doc pm an cdv ct) ps sp:=by
 refine ⟨len,fun A outer s H args us vs Q E hr e0 hb r hsp=>?_⟩
 have hl:=len _ _ _ _ hsp
 have KX:K.In s.heap:=e0.mod.kin.keeps fun b o e=>(e0.bs b o e).1
 have lim:s.heap.NoLimit:=e0.mod.nolimit.keeps fun b o e=>(e0.bs b o e).1
 have hkind:∀ y∈ps.zip us,scope.names.lookup y.1=some .local∨(scope.names.lookup y.1=some .cell∧((cellsFrom (s.heap.objs.size+1) scope.names []).lookup y.1).isSome=true):=fun ⟨n,v⟩ hy=>by
  rcases S.par n (List.of_mem_zip hy).1 with q | q
  ·exact .inl q
  ·exact .inr ⟨q,PySem.W.cellsFrom_some _ _ _ (.inl q)⟩
 refine codeAny_call_function hr.depth (KX _ _ lk) rfl S.co S.gen rfl (PySem.W.codeRec_of KX hcd) (hb _ _ _ _ ?_)
 refine wpAny_newFunctionEnv_cells S.kind hkind fun env he s1 x=>?_
 subst he
 refine ⟨lim.keeps x.toInCall.keep,codeAny_func ?_⟩
 obtain ⟨t,ht,hq⟩:=hbody A outer s H vs Q E (hr.deeper _) hsp
 have I:Inv (Cj CX P w K mg base N qual scope f cdv A outer s H E) [] (start N vs) H s1:=FZ S hr.hd e0 hl r x
 refine wpAny_mono (ht [] s1 (start N vs) H _ I hq) (fun fl s' hs=>?_) fun e s' hs=>hs
 have fin:∀ {σ':St} {H':Hp} {v:V} {u:Value},Inv (Cj CX P w K mg base N qual scope f cdv A outer s H E) [] σ' H' s'→RelV v u→Q v H'→CE outer P w H s Q u s':=
  fun {σ' H' v u} J rv q=>⟨v,H',J.os,J.bare,J.base,J.hok,rv,q⟩
 cases fl with
 | ret u=>
   obtain ⟨v,σ',H',J,rv,q⟩:=hs
   exact fin J rv q
 | next=>
   obtain ⟨σ',H',J,q⟩:=hs
   exact fin (v:=V.non) (u:=Value.none) J rfl q
 | brk=>
   obtain ⟨_,_,_,q⟩:=hs
   exact False.elim q
 | cont=>
   obtain ⟨_,_,_,q⟩:=hs
   exact False.elim q
open PySem PySem.Spec PyProof.Rows
section
variable {X:Cx} {x:Str} {p pos:Pos} {e:Expr} {es:List Expr} {t:TA} {id T:String} {r:List V→Hp→VK→Prop}
noncomputable def tCB (r:List V→Hp→VK→Prop) (t:TA):TE:=fun σ H Q=>t σ H fun vs H1=>r vs H1 Q
theorem d4 (hc:A2 X (.builtin id) r) (hg:Gl X x) (hm:X.mg x=none) (hv:bootBuiltins x=some (.builtin id)) (ha:PA X (e::es) t) (hn:x≠"__name__":=by decide) (hdb:(x == ("__debug__":Str))=false:=by decide)
 (he:starEach (e::es) X.env=(false,eval e X.env)::starEach es X.env:=by rfl) (hpl:(backTo pos (starEach es X.env)).any (·.1)=false:=by rfl):PE X (.Call (.Name x p) (e::es) [] pos) (tCB r t):=by
 intro pins s σ H Q I h
 refine wpAny_Call_Name_kw (Ay I hg hm hv ?_ hn hdb)
 exact PyProof.Rows.callWith_builtin1 (thn (ha pos pins s σ H _ I h) fun us s1 ⟨vs,H1,I1,r1,q1⟩=>hc pins s1 σ H1 vs us Q I1 r1 q1) he hpl
theorem x0 (hc:A2 X (.type T) r) (hg:Gl X x) (hm:X.mg x=none) (hv:bootBuiltins x=some (.type T)) (ha:PA X (e::es) t) (hn:x≠"__name__":=by decide) (hdb:(x == ("__debug__":Str))=false:=by decide)
 (he:starEach (e::es) X.env=(false,eval e X.env)::starEach es X.env:=by rfl) (hpl:(backTo pos (starEach es X.env)).any (·.1)=false:=by rfl):PE X (.Call (.Name x p) (e::es) [] pos) (tCB r t):=by
 intro pins s σ H Q I h
 refine wpAny_Call_Name_kw (Ay I hg hm hv ?_ hn hdb)
 exact PyProof.Rows.callWith_type1 (thn (ha pos pins s σ H _ I h) fun us s1 ⟨vs,H1,I1,r1,q1⟩=>hc pins s1 σ H1 vs us Q I1 r1 q1) he hpl
end
open PySem PySem.Spec PyProof.Rows
noncomputable def ixN (n:Nat) (i:Int):Option Nat:=if 0≤i then (if i<n then some i.toNat else none) else if -(n:Int)≤i then some (i+n).toNat else none
noncomputable def atI {α:Type} (xs:List α) (i:Int):Option α:=(ixN xs.length i).bind fun j=>xs[j]?
theorem Ey {n:Nat} {i:Int} {j:Nat} (h:ixN n i=some j):seqIndex? i n=some j∧j<n ∧ -(n:Int)≤i∧i<n:=by
 unfold ixN at h
 by_cases h0:0≤i
 ·rw [if_pos h0] at h
  by_cases h1:i<n
  ·rw [if_pos h1] at h
   have e:i.toNat=j:=Option.some.inj h
   exact ⟨by rw [seqIndex_of h0 h1,e],by omega,by omega,h1⟩
  ·rw [if_neg h1] at h;cases h
 ·rw [if_neg h0] at h
  by_cases h1:-(n:Int)≤i
  ·rw [if_pos h1] at h
   have e:(i+n).toNat=j:=Option.some.inj h
   exact ⟨by rw [seqIndex_neg (by omega) h1,e],by omega,h1,by omega⟩
  ·rw [if_neg h1] at h;cases h
theorem Ez {α:Type} {xs:List α} {i:Int} {v:α} (h:atI xs i=some v):∃ j,seqIndex? i xs.length=some j∧xs[j]?=some v∧j<xs.length ∧ -(xs.length:Int)≤i∧i<xs.length:=by
 unfold atI at h
 cases e:ixN xs.length i with
 | none=>rw [e] at h;cases h
 | some j=>
   rw [e] at h
   obtain ⟨h1,h2,h3,h4⟩:=Ey e
   exact ⟨j,h1,h,h2,h3,h4⟩
theorem p7 {α:Type} {xs:List α} {j:Nat} {v:α} (h:xs[j]?=some v):atI xs (j:Int)=some v:=by
 have hj:j<xs.length:=(List.getElem?_eq_some_iff.mp h).1
 have e:ixN xs.length (j:Int)=some j:=by
  unfold ixN
  rw [if_pos (by omega),if_pos (by omega)];simp
 unfold atI;rw [e];exact h
noncomputable def F1 (b:Expr):Prop:=∀ o i,subscripted b false o i=operate [o,i] (getItem o i)
noncomputable def IxR (X:Cx) (r:R2):Prop:=
 ∀ (value slice:Expr) (pins:List (Addr×Obj)) (s:Shared) (σ:St) (H:Hp) (x y:V) (v u:Value) (Q:VK),Inv X pins σ H s→RelV x v→RelV y u→r x y H Q→
  subscripted slice false v u=operate [v,u] (getItem v u)→wpAny (model X.prog X.w) X.A (subscriptTail value slice v u) (EP X pins σ Q) X.xe s
noncomputable def MtR (X:Cx) (id:String) (r:V→List V→Hp→VK→Prop):Prop:=
 ∀ (pins:List (Addr×Obj)) (s:Shared) (σ:St) (H:Hp) (x:V) (xs:List V) (v:Value) (us:List Value) (Q:VK),Inv X pins σ H s→RelV x v→Vals xs us→r x xs H Q→
  wpAny (model X.prog X.w) X.A (call (.builtin id) (v::us)) (EP X pins σ Q) X.xe s
section
variable {X:Cx} {a b:Expr} {ta tb:TE} {pos:Pos}
theorem j5 {r:R2} (hr:IxR X r) (ha:PE X a ta) (hb:PE X b tb) (hs:F1 b):PE X (.Subscript a b pos) (tOp r ta tb):=by
 intro pins s σ H Q I h
 exact Subscript_ (Io ha hb I h fun v u s2 x y H2 I2 rx ry q=>hr a b pins s2 σ H2 x y v u Q I2 rx ry q (hs _ _))
noncomputable def Ir (K:PySem.W.Frag):R2:=fun x y H Q=>∃ p xs i v,x = .ref p∧y = .int i∧SqL K H p xs∧atI xs i=some v∧Q v H
noncomputable def Jr (K:PySem.W.Frag):R2:=fun x y H Q=>∃ p xs i v,x = .ref p∧y = .int i∧SqT K H p xs∧atI xs i=some v∧Q v H
theorem u5:IxR X (Ir X.K):=by
 intro value slice pins s σ H x y v u Q I rx ry h hs
 obtain ⟨p,xs,i,z,rfl,rfl,hq,he,q⟩:=h
 cases rx
 obtain ⟨t,rfl⟩:=ry
 obtain ⟨its,r,pl,hz⟩:=I.list hq
 obtain ⟨j,h1,h2,h3,h4,h5⟩:=Ez he
 obtain ⟨w,ew,rw'⟩:=r.get h2
 have hl:=r.length
 have hn:=Bm
 have fin:EP X pins σ Q w s:=⟨z,H,I,rw',q⟩
 by_cases h0:0≤i
 ·have hj:i.toNat=j:=by
   rw [seqIndex_of h0 h5] at h1
   exact Option.some.inj h1
  exact item_listR pl.isList h0 (by omega) (by rw [hj];simpa using ew) fin hs
 ·have hj:(i+(its.toArray.size:Int)).toNat=j:=by
   rw [seqIndex_neg (by omega) h4] at h1
   rw [List.size_toArray,← hl]
   exact Option.some.inj h1
  exact subscriptTail_builtinR (x:=w) pl.isList.typeIs slot_list_getitem.lookup
   (wpAny_getItem_list_neg (Q:=fun r s'=>r=w∧EP X pins σ Q r s') pl.isList (by omega) (by rw [List.size_toArray]<;>omega) (by omega) (by rw [hj];simpa using ew) ⟨rfl,fin⟩) hs
theorem m8:IxR X (Jr X.K):=by
 intro value slice pins s σ H x y v u Q I rx ry h hs
 obtain ⟨p,xs,i,z,rfl,rfl,hq,he,q⟩:=h
 cases rx
 obtain ⟨t,rfl⟩:=ry
 obtain ⟨its,r,pl,hz⟩:=I.tuple hq
 obtain ⟨j,h1,h2,h3,h4,h5⟩:=Ez he
 obtain ⟨w,ew,rw'⟩:=r.get h2
 have hl:=r.length
 have hn:=Bm
 have fin:EP X pins σ Q w s:=⟨z,H,I,rw',q⟩
 exact subscriptTail_builtinR (x:=w) pl.typeIs slot_tuple_getitem.lookup
  (getItem_tuple (j:=j) (Q:=fun r s'=>r=w∧EP X pins σ Q r s') pl (by omega) (by omega) (by rw [List.size_toArray,← hl];exact h1) (by simpa using ew) ⟨rfl,fin⟩) hs
theorem EQ (its:List Value) (n j:Nat) (u:Value):Obj.mapSeq (·.setIfInBounds j u) {cls := .type "list",data := .seq its.toArray n}={cls := .type "list",data := .seq (its.set j u).toArray n}:=by
 simp [Obj.mapSeq]
theorem Inv.lst {pins:List (Addr×Obj)} {σ:St} {H:Hp} {s:Shared} {p:Addr} {xs:List V} (I:Inv X pins σ H s) (h:H p=some (.lst xs)):
 ∃ (its:List Value) (n:Nat),Vals xs its∧s.heap.get? p=some {cls := .type "list",data := .seq its.toArray n}∧xs.length≤sizeLine:=by
 obtain ⟨z,its,n,r,e⟩:=I.hok p _ h
 exact ⟨its,n,r,e,z⟩
theorem Inv.lstUpd {pins:List (Addr×Obj)} {σ:St} {H:Hp} {s:Shared} {p:Addr} {xs ys:List V} {its its':List Value} {n n':Nat} {f:Obj→Obj} (I:Inv X pins σ H s) (h:H p=some (.lst xs))
 (ho:s.heap.get? p=some {cls := .type "list",data := .seq its.toArray n}) (hf:f {cls := .type "list",data := .seq its.toArray n}={cls := .type "list",data := .seq its'.toArray n'}) (r:Vals ys its') (hz:ys.length≤sizeLine) (t:Nat):
 Inv X pins σ (upd H p (.lst ys)) {s with heap:=s.heap.update p f,toks:=t}:=by
 have e:(s.heap.update p f).get? p=some {cls := .type "list",data := .seq its'.toArray n'}:=by
  rw [Heap.get?_update_self f ho (by rw [hf]<;>rfl),hf]
 refine I.write (x:=p) (e:=p) (by rw [h];trivial) (.inl rfl) (fun b u hb q=>(Heap.get?_update_other _ _ (Ne.symm hb)).trans q) ⟨_,e⟩ ?_
 exact ⟨hz,its',n',r,e⟩
noncomputable def Js:V→V→V→Hp→(Hp→Prop)→Prop:=fun o i v H Q=>∃ p xs k j,o = .ref p∧i = .int k∧H p=some (.lst xs)∧ixN xs.length k=some j∧Q (upd H p (.lst (xs.set j v)))
theorem Dq:Jf X Js:=by
 intro pins s σ H o i v ov iv u Q I ro ri rv h
 obtain ⟨p,xs,k,j,rfl,rfl,hp,hj,q⟩:=h
 cases ro
 obtain ⟨t,rfl⟩:=ri
 obtain ⟨its,n,r,ho,hz⟩:=I.lst hp
 obtain ⟨h1,h2,h3,h4⟩:=Ey hj
 have hl:=r.length
 have hn:=Bm
 have I':Inv X pins σ (upd H p (.lst (xs.set j v))) {s with heap:=s.heap.update p (Obj.mapSeq (·.setIfInBounds j u))}:=
  I.lstUpd hp ho (EQ its n j u) (r.set rv j) (by rw [List.length_set];exact hz) s.toks
 by_cases h0:0≤k
 ·have hk:k.toNat=j:=by
   rw [seqIndex_of h0 h4] at h1
   exact Option.some.inj h1
  exact PySem.W.ki_setAt ho h0 (by omega) (by rw [List.size_toArray,← hl];exact h4) (by rw [hk];exact ⟨_,I',q⟩)
 ·have hk:(k+(its.toArray.size:Int)).toNat=j:=by
   rw [seqIndex_neg (by omega) h3] at h1
   rw [List.size_toArray,← hl]
   exact Option.some.inj h1
  exact PySem.W.ki_setBack ho (by omega) (by rw [List.size_toArray,← hl];exact h3) (by omega) (by rw [hk];exact ⟨_,I',q⟩)
noncomputable def u8:V→Bool
 | .non=>true
 | .bl _=>true
 | .int _=>true
 | .str _=>true
 | _=>false
noncomputable def eqV:V→V→Bool
 | .non,.non=>true
 | .bl a,.bl b=>a == b
 | .bl a,.int b=>(if a then 1 else 0) == b
 | .int a,.bl b=>a == (if b then 1 else 0)
 | .int a,.int b=>a == b
 | .str a,.str b=>a == b
 | _,_=>false
theorem GM {A:Around} {s:Shared} {y x:V} {u v:Value} (ry:RelV y u) (rx:RelV x v) (fy:u8 y=true) (fx:u8 x=true):SeqAt.EqAt A s u v (eqV y x):=by
 cases y with
 | non=>
   cases ry
   cases x with
   | non=>cases rx;exact SeqAt.EqAt.same _
   | bl b=>cases rx;exact SeqAt.EqAt.none_bool b
   | int b=>obtain ⟨t,rfl⟩:=rx;exact SeqAt.EqAt.none_int b t
   | str b=>obtain ⟨t,rfl⟩:=rx;exact SeqAt.EqAt.none_str b t
   | _=>exact absurd (show false=true from fx) Bool.false_ne_true
 | bl a=>
   cases ry
   cases x with
   | non=>cases rx;exact SeqAt.EqAt.bool_none a
   | bl b=>cases rx;exact SeqAt.EqAt.bool_bool a b
   | int b=>obtain ⟨t,rfl⟩:=rx;exact SeqAt.EqAt.bool_int a b t
   | str b=>obtain ⟨t,rfl⟩:=rx;exact SeqAt.EqAt.bool_str a b t
   | _=>exact absurd (show false=true from fx) Bool.false_ne_true
 | int a=>
   obtain ⟨t',rfl⟩:=ry
   cases x with
   | non=>cases rx;exact SeqAt.EqAt.int_none a t'
   | bl b=>cases rx;exact SeqAt.EqAt.int_bool a t' b
   | int b=>obtain ⟨t,rfl⟩:=rx;exact SeqAt.EqAt.int_int a t' b t
   | str b=>obtain ⟨t,rfl⟩:=rx;exact SeqAt.EqAt.int_str a t' b t
   | _=>exact absurd (show false=true from fx) Bool.false_ne_true
 | str a=>
   obtain ⟨t',rfl⟩:=ry
   cases x with
   | non=>cases rx;exact SeqAt.EqAt.str_none a t'
   | bl b=>cases rx;exact SeqAt.EqAt.str_bool a t' b
   | int b=>obtain ⟨t,rfl⟩:=rx;exact SeqAt.EqAt.str_int a t' b t
   | str b=>obtain ⟨t,rfl⟩:=rx;exact SeqAt.EqAt.str_str a t' b t
   | _=>exact absurd (show false=true from fx) Bool.false_ne_true
 | _=>exact absurd (show false=true from fy) Bool.false_ne_true
noncomputable def eqU (x:V) (u:Value):Bool:=match u with
 | .none=>eqV .non x
 | .bool b=>eqV (.bl b) x
 | .int i _=>eqV (.int i) x
 | .str z _=>eqV (.str z) x
 | _=>false
theorem Bn {x y:V} {u:Value} (r:RelV y u) (f:u8 y=true):eqU x u=eqV y x:=by
 cases y with
 | non=>cases r;rfl
 | bl b=>cases r;rfl
 | int i=>obtain ⟨t,rfl⟩:=r;rfl
 | str z=>obtain ⟨t,rfl⟩:=r;rfl
 | _=>exact absurd (show false=true from f) Bool.false_ne_true
theorem BZ {x:V}:∀ {xs:List V} {us:List Value},Vals xs us→xs.all u8=true→us.any (eqU x)=xs.any fun y=>eqV y x
 | _,_,.nil,_=>rfl
 | y::xs,u::us,.cons r t,f=>by
   rw [List.all_cons,Bool.and_eq_true] at f
   rw [List.any_cons,List.any_cons,Bn r f.1,BZ t f.2]
theorem AV {A:Around} {s:Shared} {x:V} {v:Value} (rx:RelV x v) (fx:u8 x=true):∀ {xs:List V} {us:List Value},Vals xs us→xs.all u8=true→∀ u∈us,SeqAt.EqAt A s u v (eqU x u)
 | _,_,.nil,_=>fun u hu=>by cases hu
 | y::xs,u::us,.cons r t,f=>fun u' hu=>by
   rw [List.all_cons,Bool.and_eq_true] at f
   rcases List.mem_cons.mp hu with rfl | hu
   ·rw [Bn r f.1];exact GM r rx f.1 fx
   ·exact AV rx fx t f.2 u' hu
noncomputable def inV (x:V) (xs:List V):Bool:=xs.any fun y=>eqV y x
noncomputable def rIn (K:PySem.W.Frag) (neg:Bool):R2:=fun x y H Q=>∃ p xs,y = .ref p∧(SqL K H p xs∨SqT K H p xs)∧u8 x=true∧xs.all u8=true∧Q (.bl (if neg then !inV x xs else inV x xs)) H
theorem B8:OpR X (compareOp .In) (rIn X.K false):=by
 intro pins s σ H x y v u Q I rx ry h
 obtain ⟨p,xs,rfl,hq,fx,fs,q⟩:=h
 cases ry
 rcases hq with hq | hq
 ·obtain ⟨its,r,pl,hz⟩:=I.list hq
  refine SeqAt.in_listAt (eqU x) pl.isList (fun w hw=>AV rx fx r fs w (by simpa using hw)) ⟨.bl _,H,I,rfl,?_⟩
  rw [show its.toArray.any (eqU x)=its.any (eqU x) by simp,BZ r fs]
  exact q
 ·obtain ⟨its,r,pl,hz⟩:=I.tuple hq
  refine SeqAt.in_tupleAt (eqU x) pl (fun w hw=>AV rx fx r fs w (by simpa using hw)) ⟨.bl _,H,I,rfl,?_⟩
  rw [show its.toArray.any (eqU x)=its.any (eqU x) by simp,BZ r fs]
  exact q
theorem Ap:OpR X (compareOp .NotIn) (rIn X.K true):=by
 intro pins s σ H x y v u Q I rx ry h
 obtain ⟨p,xs,rfl,hq,fx,fs,q⟩:=h
 cases ry
 rcases hq with hq | hq
 ·obtain ⟨its,r,pl,hz⟩:=I.list hq
  refine SeqAt.notIn_listAt (eqU x) pl.isList (fun w hw=>AV rx fx r fs w (by simpa using hw)) ⟨.bl _,H,I,rfl,?_⟩
  rw [show its.toArray.any (eqU x)=its.any (eqU x) by simp,BZ r fs]
  exact q
 ·obtain ⟨its,r,pl,hz⟩:=I.tuple hq
  refine SeqAt.notIn_tupleAt (eqU x) pl (fun w hw=>AV rx fx r fs w (by simpa using hw)) ⟨.bl _,H,I,rfl,?_⟩
  rw [show its.toArray.any (eqU x)=its.any (eqU x) by simp,BZ r fs]
  exact q
theorem l7:A2 X (.builtin "len") (fun xs H Q=>∃ p ys,xs=[.ref p]∧(SqL X.K H p ys∨SqT X.K H p ys)∧Q (.int ys.length) H):=by
 intro pins s σ H xs us Q I r h
 obtain ⟨p,ys,rfl,hq,q⟩:=h
 obtain ⟨u,rfl,rx⟩:=B1 r
 cases rx
 have hn:=Bm
 rcases hq with hq | hq
 ·obtain ⟨its,r',pl,hz⟩:=I.list hq
  have hlen:=r'.length
  exact Calls.call_len_list pl.isList (by simp only [List.size_toArray]<;>omega) ⟨.int ys.length,H,I.tok _,⟨s.toks+1,by rw [List.size_toArray,hlen]⟩,q⟩
 ·obtain ⟨its,r',pl,hz⟩:=I.tuple hq
  have hlen:=r'.length
  exact len_tuple pl (by simp only [List.size_toArray]<;>omega) ⟨.int ys.length,H,I.tok _,⟨s.toks+1,by rw [List.size_toArray,hlen]⟩,q⟩
theorem Ba:A2 X (.type "list") (fun xs H Q=>∃ p ys,xs=[.ref p]∧(SqL X.K H p ys∨SqT X.K H p ys)∧∀ l,H l=none→Q (.ref l) (upd H l (.lst ys))):=by
 intro pins s σ H xs us Q I r h
 obtain ⟨p,ys,rfl,hq,q⟩:=h
 obtain ⟨u,rfl,rx⟩:=B1 r
 cases rx
 have fin:∀ (its:List Value),Vals ys its→ys.length≤sizeLine→∀ (h':Heap) (c':Nat),(∀ b o',s.heap.get? b=some o'→h'.get? b=some o')→
  h'.get? s.heap.objs.size=some {cls := .type "list",dict:=none,data := .seq its.toArray c',slots:=#[]}→EP X pins σ Q (.ref s.heap.objs.size) {s with heap:=h'}:=fun its r' hz h' c' kp e=>
  ⟨.ref s.heap.objs.size,_,I.laid (t':=s.toks) kp (Nat.le_refl _) (show ObjOk X.prog X.w _ h' _ (.lst ys) from ⟨hz,its,c',r',e⟩),rfl,q _ (I.hok.fresh (Nat.le_refl _))⟩
 rcases hq with hq | hq
 ·obtain ⟨its,r',pl,hz⟩:=I.list hq
  have hlen:=r'.length
  obtain ⟨o,ho,hc,n,hd⟩:=pl.isList
  exact call_list_seq p (.inl rfl) ho hc hd (fun h' c' kp e=>fin its r' hz h' c' kp e) (by simp only [List.size_toArray]<;>omega)
 ·obtain ⟨its,r',pl,hz⟩:=I.tuple hq
  have hlen:=r'.length
  obtain ⟨o,ho,hc,n,hd⟩:=pl
  exact call_list_seq p (.inr rfl) ho hc hd (fun h' c' kp e=>fin its r' hz h' c' kp e) (by simp only [List.size_toArray]<;>omega)
theorem Ck:A2 X (.type "tuple") (fun xs H Q=>∃ p ys,xs=[.ref p]∧((SqL X.K H p ys∧∀ l,H l=none→Q (.ref l) (upd H l (.tup ys)))∨(SqT X.K H p ys∧Q (.ref p) H))):=by
 intro pins s σ H xs us Q I r h
 obtain ⟨p,ys,rfl,h⟩:=h
 obtain ⟨u,rfl,rx⟩:=B1 r
 cases rx
 rcases h with ⟨hq,q⟩ | ⟨hq,q⟩
 ·obtain ⟨its,r',pl,hz⟩:=I.list hq
  have hlen:=r'.length
  refine call_tuple_list pl.isList (fun h' kp=>?_) (by simp only [List.size_toArray]<;>omega)
  have I1:Inv X pins σ H {s with heap:=h'}:=I.kept (t':=s.toks) kp
  have I2:Inv X pins σ (upd H h'.objs.size (.tup ys)) {s with heap:=h'.push {cls := .type "tuple",data := .seq its.toArray}}:=
   I1.laid (t':=s.toks) (fun b o e=>Heap.get?_push_of_some _ e) (Nat.le_refl _) (show ObjOk X.prog X.w _ _ _ (.tup ys) from ⟨hz,its,r',IsTup.new _ _⟩)
  exact ⟨.ref h'.objs.size,_,I2,rfl,q _ (I1.hok.fresh (Nat.le_refl _))⟩
 ·obtain ⟨its,r',pl,hz⟩:=I.tuple hq
  exact call_tuple_same pl ⟨.ref p,H,I,rfl,q⟩
noncomputable def tyV (K:PySem.W.Frag) (T:String) (x:V) (H:Hp):Prop:=match x with
 | .str _=>T="str"
 | .int _=>T="int"
 | .ref p=>(T="list"∧∃ xs,SqL K H p xs)∨(T="tuple"∧∃ o,K.lookup p=some o∧o.cls = .type "tuple"∧o.dict=none)∨
    (T="dict"∧((∃ kvs,H p=some (.dK kvs))∨∃ kvs,H p=some (.dT kvs)))∨(T="set"∧∃ S n,H p=some (.set S n))
 | _=>False
theorem Iu {pins:List (Addr×Obj)} {σ:St} {H:Hp} {s:Shared} {T:String} {x:V} {v:Value} (I:Inv X pins σ H s) (r:RelV x v) (ty:tyV X.K T x H):
 s.TypeIs v T∧∀ a,v = .ref a→∃ ob,s.heap.get? a=some ob∧ob.dict=none:=by
 cases x with
 | str z=>
   obtain ⟨t,rfl⟩:=r
   cases (show T="str" from ty)
   exact ⟨typeIs_str s z t,fun _ e=>nomatch e⟩
 | int i=>
   obtain ⟨t,rfl⟩:=r
   cases (show T="int" from ty)
   exact ⟨typeIs_int s i t,fun _ e=>nomatch e⟩
 | ref p=>
   cases r
   rcases ty with ⟨rfl,xs,hq⟩ | ⟨rfl,o,hk,hc,hd⟩ | ⟨rfl,hk⟩ | ⟨rfl,S,n,hk⟩
   ·obtain ⟨its,_,pl,_⟩:=I.list hq
    refine ⟨pl.isList.typeIs,fun a e=>?_⟩
    cases e
    obtain ⟨o,n,e,c,hd,_⟩:=pl
    exact ⟨o,e,hd⟩
   ·refine ⟨⟨o,I.kIn p o hk,hc⟩,fun a e=>?_⟩
    cases e
    exact ⟨o,I.kIn _ o hk,hd⟩
   ·have z:∃ o,s.heap.get? p=some o∧o.ExactDict:=by
     rcases hk with ⟨kvs,hk⟩ | ⟨kvs,hk⟩
     ·obtain ⟨_,_,_,_,o,_,_,e,ex,_⟩:=I.hok p _ hk
      exact ⟨o,e,ex⟩
     ·obtain ⟨_,_,_,_,o,_,_,e,ex,_⟩:=I.hok p _ hk
      exact ⟨o,e,ex⟩
    obtain ⟨o,e,ex⟩:=z
    refine ⟨⟨o,e,ex.1⟩,fun a e2=>?_⟩
    cases e2
    exact ⟨o,e,ex.2.1⟩
   ·obtain ⟨o,_,_,_,e,ex,_⟩:=I.hok p _ hk
    refine ⟨⟨o,e,ex.1⟩,fun a e2=>?_⟩
    cases e2
    exact ⟨o,e,ex.2.1⟩
 | _=>exact False.elim ty
noncomputable def tBM (K:PySem.W.Frag) (T:String) (r:V→List V→Hp→VK→Prop) (to:TE) (t:TA):TE:=fun σ H Q=>to σ H fun x H1=>tyV K T x H1∧t σ H1 fun xs H2=>r x xs H2 Q
variable {o e:Expr} {es:List Expr} {to:TE} {t:TA} {name:Str} {apos cpos:Pos} {T id:String} {r:V→List V→Hp→VK→Prop}
theorem Af (pa:PlainAttrs T) (slot:Slot T name id) (hty:typeOf (.builtin id)=pure (.type "method_descriptor")) (hm:MtR X id r) (ho:PE X o to) (ha:PA X (e::es) t)
 (hbase:attributeBase o name X.env (eval o X.env)=eval o X.env:=by rfl)
 (hfew:((backTo cpos (starEach (e::es) X.env)).all (fun x=>!x.1)&&(backToKw cpos (keywordEach [] X.env)).all (fun x=>x.1.isSome)
   && decide ((e::es).length+([]:List Keyword).length+(if ([]:List Keyword).isEmpty then 0 else 1)<30))=true:=by rfl)
 (hline:(apos.endLine == cpos.line)=true:=by rfl) (hs:starEach (e::es) X.env=(false,eval e X.env)::starEach es X.env:=by rfl) (hplain:(backTo cpos (starEach es X.env)).any (·.1)=false:=by rfl):
 PE X (.Call (.Attribute o name apos) (e::es) [] cpos) (tBM X.K T r to t):=by
 intro pins s σ H Q I h
 refine wpAny_Call_method_late hbase hfew hline rfl (thn (ho pins s σ H _ I h) fun v s1 ⟨x,H1,I1,r1,ty,q1⟩=>?_)
 obtain ⟨h1,h2⟩:=Iu I1 r1 ty
 refine ⟨T,id,pa,slot,hty,h1,h2,?_⟩
 have hA:=ha cpos pins s1 σ H1 _ I1 q1
 rw [hs] at hA ⊢
 refine Calls.callWith_builtin (by show (false||(backTo cpos (starEach es X.env)).any (·.1))=false;rw [hplain]<;>rfl) (Calls.evalArgs_plain ?_)
 exact thn hA fun us s2 ⟨vs,H2,I2,r2,q2⟩=>hm pins s2 σ H2 x vs v us Q I2 r1 r2 q2
/- xs.append(e),list.index on a module's tuple .. are MtR facts of 06m -/
end
open PySem PySem.Spec PyProof.Rows
noncomputable def MtM (X:Cx) (id:String) (r:V→List V→Hp→VK→Prop):Prop:=
 ∀ (pins:List (Addr×Obj)) (s:Shared) (σ:St) (H:Hp) (x:V) (xs:List V) (v:Value) (us:List Value) (Q:VK),Inv X pins σ H s→RelV x v→Vals xs us→r x xs H Q→
  wpAny (model X.prog X.w) X.A (call (.builtin id) (v::us)) (EP X pins σ Q) X.xe s
theorem Vals.one:∀ {x:V} {us:List Value},Vals [x] us→∃ u,us=[u]∧RelV x u
 | _,_,.cons r .nil=>⟨_,rfl,r⟩
theorem Vals.two:∀ {x y:V} {us:List Value},Vals [x,y] us→∃ u v,us=[u,v]∧RelV x u∧RelV y v
 | _,_,_,.cons r (.cons q .nil)=>⟨_,_,rfl,r,q⟩
theorem Vals.eraseIdx:∀ {xs:List V} {us:List Value} (i:Nat),Vals xs us→Vals (xs.eraseIdx i) (us.eraseIdx i)
 | _,_,_,.nil => .nil
 | _,_,0,.cons _ t=>t
 | _,_,i+1,.cons r t => .cons r (Vals.eraseIdx i t)
theorem Vals.rep {xs:List V} {us:List Value} (h:Vals xs us):∀ k:Nat,Vals (List.replicate k xs).flatten (List.replicate k us).flatten
 | 0 => .nil
 | k+1=>by
   rw [List.replicate_succ,List.replicate_succ,List.flatten_cons,List.flatten_cons]
   exact Vals.append h (Vals.rep h k)
theorem Cu {α:Type}:∀ (l:List α) (i:Nat),(l.eraseIdx i).length≤l.length
 | [],_=>Nat.le_refl _
 | _::_,0=>Nat.le_succ _
 | _::r,i+1=>Nat.succ_le_succ (Cu r i)
theorem Cv (its:List Value):∀ (k:Nat) (acc:List Value),
 List.foldl (fun x1 x2=>x1++x2) acc.toArray (List.replicate k its.toArray)=(acc++(List.replicate k its).flatten).toArray
 | 0,acc=>by simp
 | k+1,acc=>by
   have e:acc.toArray++its.toArray=(acc++its).toArray:=by simp
   have e2:(acc++its)++(List.replicate k its).flatten=acc++(List.replicate (k+1) its).flatten:=by
    rw [List.replicate_succ,List.flatten_cons,List.append_assoc]
   rw [← e2,← Cv its k (acc++its),← e,List.replicate_succ,List.foldl_cons]
section
variable {X:Cx} {pins:List (Addr×Obj)} {σ:St} {H:Hp} {s:Shared} {l b:Addr} {xs ys zs:List V}
theorem Inv.lset {its its':List Value} {n:Nat} {f:Array Value→Array Value} {t':Nat} (I:Inv X pins σ H s) (hH:H l=some (.lst xs))
 (e:s.heap.get? l=some {cls := .type "list",data := .seq its.toArray n}) (hf:f its.toArray=its'.toArray) (hv:Vals ys its') (hz:ys.length≤sizeLine):
 Inv X pins σ (upd H l (.lst ys)) {s with heap:=s.heap.update l (Obj.mapSeq f),toks:=t'}:=by
 have q:=PySem.IsL.update e f
 rw [hf] at q
 refine I.write (x:=l) (e:=l) (by rw [hH];exact trivial) (.inl rfl) (fun b' u hb hu=>(Heap.get?_update_other s.heap (Obj.mapSeq f) (Ne.symm hb)).trans hu) ⟨_,q⟩ ?_
 exact ⟨hz,its',_,hv,q⟩
theorem Inv.lnew {its:List Value} {t':Nat} (I:Inv X pins σ H s) (hv:Vals ys its) (hz:ys.length≤sizeLine):
 Inv X pins σ (upd H s.heap.objs.size (.lst ys)) {s with heap:=s.heap.push {cls := .type "list",data := .seq its.toArray},toks:=t'}:=
 I.laid (fun _ _ q=>Heap.get?_push_of_some _ q) (Nat.le_refl _) ⟨hz,its,0,hv,Heap.get?_push_size _ rfl⟩
theorem Inv.fresh (I:Inv X pins σ H s):H s.heap.objs.size=none:=I.hok.fresh (Nat.le_refl _)
theorem Inv.lstM (I:Inv X pins σ H s) (hH:H l=some (.lst xs)):xs.length≤sizeLine∧∃ (its:List Value) (n:Nat),Vals xs its∧xs.length=its.length∧s.heap.get? l=some {cls := .type "list",data := .seq its.toArray n}:=by
 obtain ⟨z,its,n,r,e⟩:=I.hok l _ hH
 exact ⟨z,its,n,r,r.length,e⟩
theorem Dr {n:Nat} (h:n≤sizeLine):Builtin.List.listTooLong n=false:=by
 unfold Builtin.List.listTooLong
 exact decide_eq_false (by omega)
end
section
variable {X:Cx}
noncomputable def HS:V→List V→Hp→VK→Prop:=fun x vs H Q=>∃ l xs y,x = .ref l∧vs=[y]∧H l=some (.lst xs)∧xs.length<sizeLine∧Q .non (upd H l (.lst (xs++[y])))
theorem AI:MtM X "list.append" HS:=by
 intro pins s σ H x vs v us Q I rx rv h
 obtain ⟨l,xs,y,rfl,rfl,hH,hz,q⟩:=h
 cases rx
 obtain ⟨u,rfl,ru⟩:=rv.one
 obtain ⟨z,its,n,r,hl,e⟩:=I.lstM hH
 refine call_meets F.slot_list_append ⟨_,e,rfl⟩ F.entry_list_append (F.args_list_append_2 _ _) (PySem.list_append l its.toArray n u (by rw [List.size_toArray];omega)) ⟨e,?_⟩
 refine ⟨.non,_,I.lset (its':=its++[u]) hH e (by simp) (r.append (.cons ru .nil)) ?_,rfl,q⟩
 rw [List.length_append,List.length_singleton]
 omega
noncomputable def HU:V→List V→Hp→VK→Prop:=fun x vs H Q=>∃ l b xs zs,x = .ref l∧vs=[.ref b]∧H l=some (.lst xs)∧H b=some (.lst zs)∧xs.length+zs.length≤sizeLine∧Q .non (upd H l (.lst (xs++zs)))
theorem Bo:MtM X "list.extend" HU:=by
 intro pins s σ H x vs v us Q I rx rv h
 obtain ⟨l,b,xs,zs,rfl,rfl,hH,hB,hz,q⟩:=h
 cases rx
 obtain ⟨u,rfl,ru⟩:=rv.one
 cases ru
 obtain ⟨z,its,n,r,hl,e⟩:=I.lstM hH
 obtain ⟨z2,its2,n2,r2,hl2,e2⟩:=I.lstM hB
 have hsz:its.toArray.size+its2.toArray.size≤sizeLine:=by rw [List.size_toArray,List.size_toArray];omega
 have hlong:¬ (!its.toArray.isEmpty&&Builtin.List.listTooLong (its.toArray.size+its2.toArray.size))=true:=by
  rw [Dr hsz,Bool.and_false]
  exact Bool.false_ne_true
 refine call_meets F.slot_list_extend ⟨_,e,rfl⟩ F.entry_list_extend (F.args_list_extend_2 _ _)
  (AutoSeq1.list_extend_list_list_0 l its.toArray n b its2.toArray n2 hlong (by rw [List.size_toArray];omega) (by omega)) ⟨e,e2,?_⟩
 refine ⟨.non,_,I.lset (its':=its++its2) hH e (by simp) (r.append r2) ?_,rfl,q⟩
 rw [List.length_append]
 omega
noncomputable def KT:R2:=fun x y H Q=>∃ l b xs zs,x = .ref l∧y = .ref b∧H l=some (.lst xs)∧H b=some (.lst zs)∧xs.length+zs.length≤sizeLine∧∀ p,H p=none→Q (.ref p) (upd H p (.lst (xs++zs)))
theorem Aq:OpR X (binaryOp .Add) KT:=by
 intro pins s σ H x y v u Q I rx ry h
 obtain ⟨l,b,xs,zs,rfl,rfl,hH,hB,hz,q⟩:=h
 cases rx
 cases ry
 obtain ⟨z,its,n,r,hl,e⟩:=I.lstM hH
 obtain ⟨z2,its2,n2,r2,hl2,e2⟩:=I.lstM hB
 refine PySem.P.add_list e e2 ?_ (by rw [List.size_toArray,List.size_toArray];omega)
 have ea:its.toArray++its2.toArray=(its++its2).toArray:=by simp
 rw [ea]
 exact ⟨.ref _,_,I.lnew (t':=s.toks) (r.append r2) (by rw [List.length_append];omega),rfl,q _ I.fresh⟩
noncomputable def KU:R2:=fun x y H Q=>∃ l k xs,x = .ref l∧y = .int k∧H l=some (.lst xs) ∧ -(2 ^ 63)≤k∧k<2 ^ 63∧xs.length * k.toNat≤sizeLine∧
 ∀ p,H p=none→Q (.ref p) (upd H p (.lst (List.replicate k.toNat xs).flatten))
theorem F2 {α:Type} (xs:List α) (k:Nat):(List.replicate k xs).flatten.length=k * xs.length:=by
 induction k with
 | zero=>simp
 | succ k ih=>rw [List.replicate_succ,List.flatten_cons,List.length_append,ih,Nat.succ_mul,Nat.add_comm]
theorem Iv:OpR X (binaryOp .Mult) KU:=by
 intro pins s σ H x y v u Q I rx ry h
 obtain ⟨l,k,xs,rfl,rfl,hH,h1,h2,hz,q⟩:=h
 cases rx
 obtain ⟨t,rfl⟩:=ry
 obtain ⟨z,its,n,r,hl,e⟩:=I.lstM hH
 have hlen:its.toArray.size * k.toNat≤sizeLine:=by rw [List.size_toArray,← hl];exact hz
 have hcap:¬ its.toArray.size * k.toNat>(2 ^ 63 - 1) / 8:=by
  have:(sizeLine:Nat)≤(2 ^ 63 - 1) / 8:=by decide
  omega
 have hfit:¬ (!Builtin.List.listFitsIndex k)=true:=by
  rw [fitsIndex_both h1 h2]
  exact Bool.false_ne_true
 have hlong:¬ Builtin.List.listTooLong (its.toArray.size * k.toNat)=true:=by
  rw [Dr hlen]
  exact Bool.false_ne_true
 have hnew:List.foldl (fun x1 x2=>x1++x2) #[] (List.replicate (if its.toArray.isEmpty=true then 0 else k.toNat) its.toArray)=(List.replicate k.toNat its).flatten.toArray:=by
  have f0:∀ m:Nat,List.foldl (fun x1 x2=>x1++x2) #[] (List.replicate m its.toArray)=(List.replicate m its).flatten.toArray:=fun m=>by
   have:=Cv its m []
   rw [List.nil_append] at this
   exact this
  rw [f0]
  cases its with
  | nil=>simp
  | cons a r'=>rw [if_neg (by simp)]
 refine wpAny_binaryOp_repeat_ref (T:="list") (U:="int") (by decide) ⟨_,e,rfl⟩ (fun s'=>typeIs_int s' k t) noFill_list_mul F.fills_int_mul F.slot_int_rmul repeat_list F.slot_int_index.lookup
  (call_meets F.slot_int_rmul (typeIs_int s k t) F.entry_int_rmul (F.args_int_rmul_2 _ _) (int___rmul___int_list k t l its.toArray n)
    ⟨e,rfl,⟨_,e,rfl⟩,call_meets F.slot_list_mul ⟨_,e,rfl⟩ F.entry_list_mul (F.args_list_mul_2 _ _) (AutoListH.list___mul___list_int_3 l its.toArray n k t hfit hcap hlong) ⟨e,?_⟩⟩)
 rw [hnew]
 exact ⟨.ref _,_,I.lnew (t':=s.toks) (r.rep k.toNat) (by rw [F2,Nat.mul_comm];exact hz),rfl,q _ I.fresh⟩
end
end L2
namespace Att
open PySem PySem.W PySem.Calls PyProof.Rows
theorem C9 {P:Params} {h:Heap}:∀ (ns:List Int) (vs:List Value),WellAll P h vs (ns.map WData.int)→IntsAre vs ns:=by
 intro ns
 induction ns with
 | nil=>
   intro vs w
   rw [List.map_nil] at w
   cases w
   exact .nil
 | cons n ns ih=>
   intro vs w
   rw [List.map_cons] at w
   cases w with
   | cons a b=>
     cases a
     exact .cons _ _ (ih _ b)
theorem Fb {l:OpenLaw} {n:Nat} (hn:l.most=some n) {P:Params} {h:Heap} {args:List WData} {vals:List Value}
 (hpre:l.row.toRowW.claim.pre args=true) (hwl:WellAll P h vals args):
 ∃ a vs ns,vals=[Value.ref a]∧args=[WData.list (ns.map WData.int)]∧h.get? a=some {cls := .type "list",data := .seq vs.toArray}∧IntsAre vs ns∧ns.length≤n:=by
 have hsh:WShape.hasAll [] args [.list .int]=true:=(pre_splitW hpre).1
 have hc:l.pre.holds [] {args:=args}=true:=(pre_splitW hpre).2
 obtain ⟨d,r,rfl,h1,h2⟩:=hasAllW_cons hsh
 obtain rfl:=hasAllW_nil h2
 obtain ⟨xs,rfl,h3⟩:=hasW_list h1
 obtain ⟨ns,rfl⟩:=items_int h3
 have hlen:ns.length≤n:=by
  unfold OpenLaw.pre at hc
  have h4:(WTm.not (.lt (.lit (.int (n:Int))) (.len (.arg 0)))).holds [] {args:=[.list (ns.map .int)]}=true:=by
   have h4:=(holds_andW hc).1
   rw [hn] at h4
   exact h4
  have h5:=condW_of h4 (w_not (w_lt w_lit (w_len_list (w_arg rfl))))
  rw [List.length_map] at h5
  refine Nat.le_of_not_lt fun q=>?_
  have q':(n:Int)<((ns.length:Nat):Int):=by omega
  first
   | (rw [decide_eq_true q'] at h5;exact absurd h5 (by decide))
   | (simp at h5;omega)
 cases hwl with
 | cons w1 w2=>
   cases w2
   cases w1 with
   | list ho hall=>exact ⟨_,_,ns,rfl,rfl,ho,C9 ns _ hall,hlen⟩
theorem Fd (l:OpenLaw) (args:List WData):l.row.toRowW.claim.post args (.bool true) args=true:=
 postW_of (r:=l.row.toRowW) (X:=(true == true))
  (show WShape.has [] (.bool true) .bool=true by first | rfl | decide | simp [WShape.has,WShape.arms,WShape.armsAll])
  (show (WTm.eq .res (.lit (.bool true))).value [] {args:=args,res:=some (.bool true),after:=args}=some (.bool (true == true)) from w_eq_bool (w_res rfl) w_lit) rfl
theorem attach_call {l:OpenLaw} {n:Nat} {q:Program} {loose:List Str} {XP:(Str→Option Value)→Heap→Prop} {YP:World→Heap→Prop} {d:DefRec}
 (hn:l.most=some n) (hdf:d.params.defaults=[])
 (call:∀ (w:World) (s₀ s₁:Shared) (mg mb:Str→Option Value) (fa:Addr) (o:Obj) (pm cd doc:Value) (a:Addr) (vs:List Value) (ns:List Int),
   Ground q loose [] XP w s₀ mg mb s₁.heap→YP w s₁.heap→
   s₁.heap.get? fa=some o→o.data = .func (docDef d.name d.params d.body d.scope pm cd doc)→s₁.heap.CodeRec cd d.name→mg d.name=some (.ref fa)→
   s₁.heap.get? a=some {cls := .type "list",data := .seq vs.toArray}→IntsAre vs ns→ns.length≤n→s₁.gens=#[]→
   codeAny (model l.prog w) callerA (.call (.ref fa) ⟨[.ref a],[]⟩) (fun r s'=>r = .ok (.ret (.bool true))∧OldK s₁.heap s'.heap∧s'.os=s₁.os∧AllBare s'.gens) s₁):
 WalkO q loose XP YP l.row.toRowW d [] (fun f vs=>PySem.call f vs):=by
 intro w s₀ s₁ mg mb G Y fa o pm cd doc dV kV ho hd hcd hD hmg hg args vals as hpre hlay hrd hwl hlo
 obtain rfl:dV = .none:=Dflts.none hD hdf
 obtain rfl:kV = .none:=Dflts.noKw hD
 obtain ⟨a,vs,ns,rfl,rfl,hobj,hints,hlen⟩:=Fb hn hpre hwl
 refine enter_call (codeAny_mono (call w s₀ s₁ mg mb fa o pm cd doc a vs ns G Y ho (fd_plain hd) hcd hmg hobj hints hlen hg) fun r s' hq=>?_)
 obtain ⟨rfl,h2,h3,h4⟩:=hq
 exact ⟨.inl ⟨.bool true,.bool true,[],rfl,fun _=>rfl,.bool true,Fd l _,fun _=>⟨List.Pairwise.nil,fun _ hm=>(nomatch hm)⟩⟩,h2,h3,h4⟩
end Att
namespace L2
open PySem PySem.Spec PyProof.Rows
theorem Cw:∀ {vs:List Value} {ns:List Int},IntsAre vs ns→Vals (ns.map V.int) vs
 | _,_,.nil => .nil
 | _,_,.cons n t h => .cons ⟨t,rfl⟩ (Cw h)
noncomputable def Iw (H:Hp):Prop:=∀ b,H b=none∨∃ o xs,H b=some (.frz o (.lst xs))
theorem GN {P:Program} {w:World} {K:PySem.W.Frag} {mg mb:Str→Option Value} {CX:CXT} {k:Nat} {fa a:Addr} {fd:FuncData} {x:Str} {sp:Sp} {s₁:Shared} {vs:List Value} {ns:List Int}
 (KX:K.In s₁.heap) (hns:s₁.heap.Ns mainGlobals mg) (hb:s₁.heap.Ns builtinsNs mb) (hbb:∀ x:Str,x≠"__name__"→mb x=bootBuiltins x) (hlim:s₁.heap.NoLimit) (hg:s₁.gens=#[])
 (ha:s₁.heap.get? a=some {cls := .type "list",data := .seq vs.toArray}) (hi:IntsAre vs ns) (hl:ns.length≤sizeLine) (hr:Room k callerA)
 (F:∀ base:Heap,K.In base→base.Ns mainGlobals mg→FnOk P w K mg base CX k fa fd [x] sp) (hbind:∀ (s:Shared) (u:Value),BindsTo s fd ⟨[u],[]⟩ [(x,u)])
 (hsp:∀ H:Hp,Iw H→SqL K H a (ns.map V.int)→sp [.ref a] H (fun v _=>v = .bl true) fun _ _ _=>False)
 (hCX:∀ H e s',CX [] H s₁ (fun _ _ _=>False) e s'→False):
 codeAny (model P w) callerA (.call (.ref fa) ⟨[.ref a],[]⟩) (fun r s'=>r = .ok (.ret (.bool true))∧OldK s₁.heap s'.heap∧s'.os=s₁.os∧AllBare s'.gens) s₁:=by
 have rv:=Cw hi
 have lenV:=hi.length
 -- from an abstract heap in which nothing but the script may be tracked
 have core:∀ H:Hp,Iw H→SqL K H a (ns.map V.int)→HOk P w H s₁.heap→(∀ b,H b≠none→b=a)→(H a≠none→K.lookup a=none)→
  codeAny (model P w) callerA (.call (.ref fa) ⟨[.ref a],[]⟩) (fun r s'=>r = .ok (.ret (.bool true))∧OldK s₁.heap s'.heap∧s'.os=s₁.os∧AllBare s'.gens) s₁:=by
  intro H hO hS hok hA hK
  have base_of:∀ {b:Addr} {o:Obj},s₁.heap.get? b=some o→H b=none→(DP s₁.heap H).get? b=some o:=fun e n=>GA e n
  have noA:∀ {b:Addr} {o:Obj} {es:Array DictEntry} {ep:Nat},s₁.heap.get? b=some o→o.data = .dict es ep→H b=none:=fun {b o es ep} e d=>by
   cases q:H b with
   | none=>rfl
   | some u=>
     have e':b=a:=hA b (by rw [q];simp)
     subst e'
     rw [ha] at e;cases e
     have d':Data.seq vs.toArray _=Data.dict es ep:=d
     cases d'
  have nsK:∀ {b:Addr} {m:Str→Option Value},s₁.heap.Ns b m→(DP s₁.heap H).Ns b m:=fun {b m} ⟨o,es,ep,e,d,r⟩=>⟨o,es,ep,base_of e (noA e d),d,r⟩
  have hKb:K.In (DP s₁.heap H):=fun b o e=>base_of (KX b o e) (by
   cases q:H b with
   | none=>rfl
   | some u=>
     have e':b=a:=hA b (by rw [q];simp)
     subst e'
     rw [hK (by rw [q];simp)] at e;cases e)
  have hM:Mod K mg (DP s₁.heap H):=⟨hKb,nsK hns,⟨mb,nsK hb,hbb⟩,let ⟨mc,h1,h2⟩:=hlim;⟨mc,nsK h1,h2⟩⟩
  have e0:Env0 P w K mg (DP s₁.heap H) callerA [] s₁ H:=⟨rfl,hM,fun b o e=>HP e,Nat.le_of_eq (FU _ _),trivial,fun b hb=>absurd (show b∈([]:List Addr) from hb) (by simp),hok,.of_eq hg⟩
  refine codeAny_mono ((F _ hKb (nsK hns)).run callerA [] s₁ H ⟨[.ref a],[]⟩ [.ref a] [.ref a] _ _ hr e0 (hbind s₁ (.ref a)) (.cons rfl .nil) (hsp H hO hS)) fun r s' h=>?_
  cases r with
  | error e=>exact (hCX H e s' h).elim
  | ok fl=>
    cases fl with
    | next=>exact False.elim h
    | brk=>exact False.elim h
    | cont=>exact False.elim h
    | ret u=>
      obtain ⟨v,H',os,bare,un,hok',r',q⟩:=h
      have q':v = .bl true:=q
      subst q'
      obtain rfl:u=Value.bool true:=r'
      refine ⟨rfl,OldK.of_keep fun b o e=>?_,os,bare⟩
      cases q:H b with
      | none=>exact un.keep b o e q (by intro z;exact absurd (show b∈([]:List Addr) from z) (by simp)) (by simp)
      | some u=>
        rcases hO b with z | ⟨ob,xs,z⟩
        ·rw [q] at z;cases z
        ·have z2:=un.frzs b ob _ z
         obtain ⟨e1,_⟩:=hok b _ z
         obtain ⟨e2,_⟩:=hok' b _ z2
         rw [e] at e1;cases e1
         exact e2
 cases hk:K.lookup a with
 | some o=>
   -- the script is one of the module's own objects
   have e:=KX a o hk
   rw [ha] at e
   cases e
   refine core (fun _=>none) (fun _ => .inl rfl) (.inr ⟨_,vs.toArray,_,hk,rfl,rfl,rfl,by rw [List.size_toArray,lenV];exact hl,by simpa using rv⟩) (fun b u z=>by have z':(none:Option HO)=some u:=z;cases z') (fun b z=>absurd rfl z) fun z=>absurd rfl z
 | none=>
   refine core (fun b=>if b=a then some (.frz {cls := .type "list",data := .seq vs.toArray} (.lst (ns.map V.int))) else none) (fun b=>?_) (.inl (.inr ⟨{cls := .type "list",data := .seq vs.toArray},if_pos rfl⟩)) (fun b u z=>?_) (fun b z=>?_) fun _=>hk
   ·by_cases hb:b=a
    ·exact .inr ⟨_,_,if_pos hb⟩
    ·exact .inl (if_neg hb)
   ·by_cases hb:b=a
    ·have z':=(if_pos hb).symm.trans z
     cases z'
     subst hb
     exact ⟨ha,by rw [List.length_map];exact hl,vs,_,rv,ha⟩
    ·have z':=(if_neg hb).symm.trans z
     cases z'
   ·by_cases hb:b=a
    ·exact hb
    ·exact absurd (if_neg hb) z
open PySem PySem.Spec PyProof.Rows
theorem walk_of {l:PySem.W.OpenLaw} {n k:Nat} {q:Program} {loose:List Str} {XP:(Str→Option Value)→Heap→Prop} {YP:World→Heap→Prop} {d:DefRec} {K:Params→PySem.W.Frag} {CX:World→CXT} {sp:World→Sp} {x:Str}
 (hn:l.most=some n) (hn2:n≤sizeLine) (hdf:d.params.defaults=[]) (hr:Room k callerA)
 (hY:∀ (w:World) (h:Heap),YP w h→(K w.params).In h)
 (F:∀ (w:World) (mg:Str→Option Value) (fa:Addr) (h:Heap),(K w.params).In h→h.Ns mainGlobals mg→mg d.name=some (.ref fa)→
   ∃ fd:FuncData,(∀ (s:Shared) (u:Value),BindsTo s fd ⟨[u],[]⟩ [(x,u)])∧
    ∀ base:Heap,(K w.params).In base→base.Ns mainGlobals mg→FnOk l.prog w (K w.params) mg base (CX w) k fa fd [x] (sp w))
 (hsp:∀ (w:World) (H:Hp) (a:Addr) (ns:List Int),ns.length≤n→Iw H→SqL (K w.params) H a (ns.map V.int)→sp w [.ref a] H (fun v _=>v = .bl true) fun _ _ _=>False)
 (hCX:∀ (w:World) (H:Hp) (s:Shared) (e:Value) (s':Shared),CX w [] H s (fun _ _ _=>False) e s'→False):
 PySem.W.WalkO q loose XP YP l.row.toRowW d [] (fun f vs=>PySem.call f vs):=by
 refine Att.attach_call hn hdf fun w s₀ s₁ mg mb fa o pm cd doc a vs ns G Y ho hd hcd hmg hobj hints hlen hg=>?_
 have KX:=hY w _ Y
 obtain ⟨fd,hb,hF⟩:=F w mg fa _ KX G.T.g hmg
 exact GN KX G.T.g G.T.b G.T.builtins G.T.nolimit hg hobj hints (Nat.le_trans hlen hn2) hr hF hb (fun H hO hS=>hsp w H a ns hlen hO hS) fun H e s'=>hCX w H s₁ e s'
end L2
/- THE LAST THEOREM (shape;LID,My.* are yours):
 My.Adr: a structure of the addresses that your layer names (classes,functions);My.Txt K t: a structure (Prop) of the equations over K;
 My.txt_mk:{K} {implicit addresses ..} (e1:nsIn K mainGlobals "law"=some (some (.ref f))) (e2:K.lookup f=some ⟨oc,od,.func (fnOf "law" "law" params body scope dV kV doc pm an cdv ct),sl⟩) (e3:codeIn K cdv "law"=true) ..:∃ t,My.Txt K t
set_option maxRecDepth 100000 in
set_option maxHeartbeats 0 in
theorem PySem.Challenge.cw_LID_holds:PySem.Challenge.rw_LID.Holds:=by
 w_on;o_law;k_head;(case hw=>w_witness2)
 k_fill
 refine L2.walk_of (l:=PySem.Challenge.rw_LID) (n:=63) (k:=40) (x:="script") (CX:=fun w => ..) (sp:=fun _=>My.sp_law) rfl (by decide) rfl ⟨rfl,by decide,by decide⟩ (fun w h Y=>PySem.W.kIn_of Y) ?F ?S ?C
 case F=>
  intro w mg fa h KX G hmg
  have T:∃ t,My.Txt (L2.KOf KX) t:=by
   dsimp only [L2.KOf]                          -- K must stand as «<heap const> w.params» for k_is
   refine' My.txt_mk ?e1 ?e2 ?e3 ..
   (case e1=>PySem.W.k_is)                    -- in the order: a name -> its address -> its object -> its parts
   (case e2=>PySem.W.k_is)
   ..
  obtain ⟨t,T⟩:=T
  have e0:=hmg.symm.trans (PySem.W.mg_of KX G T.law)
  cases e0                                       -- fa is the law's own address
  exact ⟨_,fun s u => .of_eq rfl,fun base kb nb=>My.law_fn T kb nb⟩     -- if «.of_eq rfl» comes too early: refine' ⟨_,?b,fun base kb nb=>My.law_fn T kb nb⟩;exact fun s u => .of_eq rfl
 case S=>exact fun w H a ns hl hO hS => ..
 case C=>exact ..
(the tactic k_is has no namespace: write k_is) -/
namespace L2
open PySem PySem.Spec PyProof.Rows
noncomputable def defArgs (s:Stmt):Arguments:=match s with
 | .FunctionDef _ a _ _ _ _ _ _ _ _=>a
 | _=>{posonlyargs:=[],args:=[],vararg:=none,kwonlyargs:=[],kw_defaults:=[],kwarg:=none,defaults:=[]}
noncomputable def defBody (s:Stmt):List Stmt:=match s with
 | .FunctionDef _ _ b _ _ _ _ _ _ _=>b
 | _=>[]
noncomputable def defScope (s:Stmt):Scope:=match s with
 | .FunctionDef _ _ _ _ _ _ sc _ _ _=>sc
 | _=>{kind := .function,names:=[],isGenerator:=false,isCoroutine:=false}
noncomputable abbrev CX0:CXT:=fun _ _ _ _ _ _=>False
noncomputable abbrev E0:XK:=fun _ _ _=>False
theorem Jt {X:Cx}:DR CX0 X E0:=fun _ _ _ _ _ _ _ h=>h.elim
structure Fun (K:PySem.W.Frag) (x qual:Str) (st:Stmt) (f:Addr) (fd:FuncData):Prop where
 ex:∃ (oc:Value) (od:Option Addr) (kV doc pm:Value) (an:Option Addr) (cdv ct:Value) (osl:Array (Option Value)),
  fd=PySem.W.fnOf x qual (defArgs st) (defBody st) (defScope st) .none kV doc pm an cdv ct∧K.lookup f=some ⟨oc,od,.func fd,osl⟩∧PySem.W.codeIn K cdv qual=true
 kp:PySem.W.keepIn K (.ref f)=true
section
variable {P:Program} {w:World} {K:PySem.W.Frag} {mg:Str→Option Value} {base:Heap}
theorem Fun.ok {x qual:Str} {st:Stmt} {f:Addr} {fd:FuncData} {N ps:List Str} {k:Nat} {sp:Sp} (F:Fun K x qual st f fd) (S:FnScope N ps (defScope st)) (len:∀ vs H Q E,sp vs H Q E→vs.length=ps.length)
 (hbody:∀ (cdv:Value) (A:Around) (outer:List Env) (s:Shared) (H:Hp) (vs:List V) (Q:VK) (E:XK),Room k (A.deeper (envOfC qual (defScope st) s.heap.objs.size f cdv))→sp vs H Q E→
   ∃ t,PSs (Cj CX0 P w K mg base N qual (defScope st) f cdv A outer s H E).nox (defBody st) t∧t {nx:=fun _ H'=>Q .non H',rt:=Q} (start N vs) H):FnOk P w K mg base CX0 (k+1) f fd ps sp:=by
 obtain ⟨oc,od,kV,doc,pm,an,cdv,ct,osl,rfl,lk,hcd⟩:=F.ex
 refine IS lk hcd S len fun A outer s H vs Q E hr hsp=>?_
 obtain ⟨t,h,q⟩:=hbody cdv A outer s H vs Q E hr hsp
 exact ⟨t,h.nox,q⟩
theorem Fun.binds {x qual:Str} {st:Stmt} {f:Addr} {fd:FuncData} {ps:List Str} (F:Fun K x qual st f fd)
 (h:∀ (kV doc pm:Value) (an:Option Addr) (cdv ct:Value) (us:List Value),us.length=ps.length→bindArgs (PySem.W.fnOf x qual (defArgs st) (defBody st) (defScope st) .none kV doc pm an cdv ct) ⟨us,[]⟩=pure (ps.zip us)):Binds K fd ps []:=by
 obtain ⟨oc,od,kV,doc,pm,an,cdv,ct,osl,rfl,lk,hcd⟩:=F.ex
 exact .all (h kV doc pm an cdv ct)
theorem r6 {x qual:Str} {st:Stmt} {f:Addr} {oc:Value} {od an:Option Addr} {osl:Array (Option Value)} {kV doc pm cdv ct:Value} (l:K.lookup f=some ⟨oc,od,.func (PySem.W.fnOf x qual (defArgs st) (defBody st) (defScope st) .none kV doc pm an cdv ct),osl⟩)
 (c:PySem.W.codeIn K cdv qual=true) (k:PySem.W.keepIn K (.ref f)=true):Fun K x qual st f (PySem.W.fnOf x qual (defArgs st) (defBody st) (defScope st) .none kV doc pm an cdv ct):=⟨⟨oc,od,kV,doc,pm,an,cdv,ct,osl,rfl,l,c⟩,k⟩
end
theorem i9 {n:Nat} (h:n≤1000):n<sizeLine:=Nat.lt_of_le_of_lt h (by decide)
section
variable {X:Cx}
theorem pv (i:Nat) {x:Str} {pos:Pos} (hN:X.N[i]?=some x:=by rfl) (hv:Vis X.env.scope x:=by first | exact Or.inl rfl | exact Or.inr (Or.inl rfl) | exact Or.inr (Or.inr rfl)) (hd:(x == ("__debug__":Str))=false:=by decide)
 (hcd:(x == ("__classdict__":Str))=false:=by decide):PE X (.Name x pos) (JY i):=Il hN hv hd hcd
end
theorem z0 {A B:Prop} (h:B):if false=true then A else B:=by
 rw [if_neg Bool.false_ne_true]
 exact h
theorem AZ {A B:Prop} (h:A):if true=true then A else B:=by
 rw [if_pos rfl]
 exact h
theorem x8 {c A B:Prop} [Decidable c] (h1:c→A) (h2:¬ c→B):if c then A else B:=by
 by_cases h:c
 ·rw [if_pos h]
  exact h1 h
 ·rw [if_neg h]
  exact h2 h
theorem Av {c A B:Prop} [Decidable c] (hc:c) (h:B):if (!decide c)=true then A else B:=by
 rw [decide_eq_true hc]
 exact z0 h
noncomputable def Same (H H':Hp):Prop:=∀ b o,H b=some o→H' b=some o
theorem Same.refl (H:Hp):Same H H:=fun _ _ h=>h
theorem Same.trans {H H1 H2:Hp} (a:Same H H1) (b:Same H1 H2):Same H H2:=fun c o h=>b c o (a c o h)
theorem Same.free {H H':Hp} (e:Same H H') {l:Addr} (h:H' l=Option.none):H l=Option.none:=by
 cases q:H l with
 | none=>rfl
 | some o=>
   rw [e l o q] at h
   cases h
theorem Same.seq {K:PySem.W.Frag} {H H':Hp} {a:Addr} {xs:List V} (e:Same H H') (h:SqL K H a xs):SqL K H' a xs:=by
 rcases h with (h | ⟨o,h⟩) | h
 ·exact .inl (.inl (e _ _ h))
 ·exact .inl (.inr ⟨o,e _ _ h⟩)
 ·exact .inr h
end L2
set_option maxHeartbeats 4000000
namespace L2
open PySem PySem.Spec PyProof.Rows
noncomputable def A6 (env:Env):List (Str×NameKind)→List (Str×Addr)→List (Str×Addr)
 | [],acc=>acc
 | (n,k)::r,acc=>if k == .free then A6 env r ((n,(env.cells.lookup n).getD 0)::acc) else A6 env r acc
theorem Ag {env:Env} {scope:Scope} (h:∀ x∈scope.names,x.2 = .free→∃ c,env.cells.lookup x.1=some c):closureFor scope env=pure (A6 env scope.names []):=by
 unfold closureFor
 have go:∀ (names:List (Str×NameKind)) (acc:List (Str×Addr)),(∀ x∈names,x.2 = .free→∃ c,env.cells.lookup x.1=some c)→
  (forIn names acc fun x r=>match x with
    | (name,kind)=>if (kind == NameKind.free)=true then do let __do_lift ← cellOf env name;pure (ForInStep.yield ((name,__do_lift)::r)) else pure (ForInStep.yield r):Sem (List (Str×Addr)))=pure (A6 env names acc):=by
  intro names
  induction names with
  | nil=>intro acc _;rfl
  | cons x r ih=>
    intro acc hx
    obtain ⟨n,k⟩:=x
    rw [List.forIn_cons]
    have hr:=fun y hy=>hx y (List.mem_cons_of_mem _ hy)
    by_cases hk:k = .free
    ·subst hk
     obtain ⟨c,hc⟩:=hx (n,.free) List.mem_cons_self rfl
     have hc':env.cells.lookup n=some c:=hc
     unfold A6
     simp only [beq_self_eq_true,if_true,cellOf,hc',Option.getD_some,pure_bind]
     exact ih _ hr
    ·have hb:(k == NameKind.free)=false:=by simpa using hk
     unfold A6
     simp only [hb,Bool.false_eq_true,if_false,pure_bind]
     exact ih _ hr
 have:=go scope.names [] h
 simp only [this]
 first | rfl | simp
theorem Bp {env:Env}:∀ (names:List (Str×NameKind)) (acc:List (Str×Addr)),(∀ x∈names,x.2 = .free→∃ c,env.cells.lookup x.1=some c)→(∀ p∈acc,env.cells.lookup p.1=some p.2)→
 ∀ p∈A6 env names acc,env.cells.lookup p.1=some p.2
 | [],_,_,ha,p,hp=>ha p hp
 | (n,k)::r,acc,h,ha,p,hp=>by
   unfold A6 at hp
   have hr:=fun y hy=>h y (List.mem_cons_of_mem _ hy)
   split at hp
   ·rename_i hk
    have hk:k = .free:=by simpa using hk
    obtain ⟨c,hc⟩:=h (n,k) List.mem_cons_self hk
    have hc':env.cells.lookup n=some c:=hc
    refine Bp r _ hr (fun q hq=>?_) p hp
    rcases List.mem_cons.mp hq with rfl | hq
    ·show env.cells.lookup n=some ((env.cells.lookup n).getD 0)
     rw [hc'];rfl
    ·exact ha q hq
   ·exact Bp r acc hr ha p hp
theorem Bq {env:Env}:∀ (names:List (Str×NameKind)) (acc:List (Str×Addr)),∀ p∈acc,p∈A6 env names acc
 | [],_,_,hp=>hp
 | (n,k)::r,acc,p,hp=>by
   unfold A6
   split
   ·exact Bq r _ p (List.mem_cons_of_mem _ hp)
   ·exact Bq r acc p hp
theorem Br {env:Env}:∀ (names:List (Str×NameKind)) (acc:List (Str×Addr)) (n:Str),(n,NameKind.free)∈names→∃ c,(n,c)∈A6 env names acc
 | (m,k)::r,acc,n,hn=>by
   unfold A6
   rcases List.mem_cons.mp hn with e | hn
   ·cases e
    simp only [beq_self_eq_true,if_true]
    exact ⟨_,Bq r _ _ List.mem_cons_self⟩
   ·split
    ·exact Br r _ n hn
    ·exact Br r _ n hn
theorem B2 {env:Env}:∀ (names:List (Str×NameKind)) (acc:List (Str×Addr)),∀ p∈A6 env names acc,p∈acc∨(p.1,NameKind.free)∈names
 | [],_,_,hp => .inl hp
 | (n,k)::r,acc,p,hp=>by
   unfold A6 at hp
   split at hp
   ·rename_i hk
    have hk:k = .free:=by simpa using hk
    subst hk
    rcases B2 r _ p hp with z | z
    ·rcases List.mem_cons.mp z with rfl | z
     ·exact .inr List.mem_cons_self
     ·exact .inl z
    ·exact .inr (List.mem_cons_of_mem _ z)
   ·rcases B2 r _ p hp with z | z
    ·exact .inl z
    ·exact .inr (List.mem_cons_of_mem _ z)
theorem AK:∀ (names:List (Str×NameKind)) (n:Nat) (acc:List (Str×Addr)),∀ p∈cellsFrom n names acc,p∈acc∨(n≤p.2∧(p.1,NameKind.cell)∈names)
 | [],_,_,_,hp => .inl hp
 | (x,k)::r,n,acc,p,hp=>by
   unfold cellsFrom at hp
   split at hp
   ·rename_i hk
    have hk:k = .cell:=by simpa using hk
    subst hk
    rcases AK r (n+1) _ p hp with z | ⟨z,w⟩
    ·rcases List.mem_cons.mp z with rfl | z
     ·exact .inr ⟨Nat.le_refl _,List.mem_cons_self⟩
     ·exact .inl z
    ·exact .inr ⟨Nat.le_of_succ_le z,List.mem_cons_of_mem _ w⟩
   ·rcases AK r n acc p hp with z | ⟨z,w⟩
    ·exact .inl z
    ·exact .inr ⟨z,List.mem_cons_of_mem _ w⟩
theorem AL:∀ (names:List (Str×NameKind)) (n:Nat) (acc:List (Str×Addr)),∀ p∈acc,p∈cellsFrom n names acc
 | [],_,_,_,hp=>hp
 | (x,k)::r,n,acc,p,hp=>by
   unfold cellsFrom
   split
   ·exact AL r _ _ p (List.mem_cons_of_mem _ hp)
   ·exact AL r _ _ p hp
theorem Ac:∀ (names:List (Str×NameKind)) (n:Nat) (acc:List (Str×Addr)) (x:Str),(x,NameKind.cell)∈names→∃ c,(x,c)∈cellsFrom n names acc
 | (y,k)::r,n,acc,x,hx=>by
   unfold cellsFrom
   rcases List.mem_cons.mp hx with e | hx
   ·cases e
    simp only [beq_self_eq_true,if_true]
    exact ⟨_,AL r _ _ _ List.mem_cons_self⟩
   ·split
    ·exact Ac r _ _ x hx
    ·exact Ac r _ _ x hx
theorem Ad:∀ (names:List (Str×NameKind)) (h:Heap) (acc:List (Str×Addr)),∀ p∈cellsFrom h.objs.size names acc,p∈acc∨(pushCells h names).IsCell p.2 none
 | [],_,_,_,hp => .inl hp
 | (x,k)::r,h,acc,p,hp=>by
   unfold cellsFrom at hp
   unfold pushCells
   split at hp
   ·rename_i hk
    rw [if_pos hk]
    have:=Ad r (h.push {cls := .type "cell",data := .cell none}) ((x,h.objs.size)::acc) p (by rw [Heap.size_push];exact hp)
    rcases this with z | z
    ·rcases List.mem_cons.mp z with rfl | z
     ·exact .inr ⟨_,pushCells_keeps _ _ _ _ (Heap.get?_push_size _ rfl),rfl⟩
     ·exact .inl z
    ·exact .inr z
   ·rename_i hk
    rw [if_neg hk]
    exact Ad r h acc p hp
theorem AO:∀ (names:List (Str×NameKind)) (n:Nat) (acc:List (Str×Addr)),(acc.Pairwise fun x y=>x.2≠y.2)→(∀ p∈acc,p.2<n)→(cellsFrom n names acc).Pairwise fun x y=>x.2≠y.2
 | [],_,_,h,_=>h
 | (x,k)::r,n,acc,h,hl=>by
   unfold cellsFrom
   split
   ·refine AO r (n+1) _ (List.pairwise_cons.mpr ⟨fun y hy e=>?_,h⟩) fun p hp=>?_
    ·have h1:=hl y hy
     have e':n=y.2:=e
     exact absurd h1 (by rw [← e'];exact Nat.lt_irrefl _)
    ·rcases List.mem_cons.mp hp with rfl | hp
     ·exact Nat.lt_succ_self _
     ·exact Nat.lt_succ_of_lt (hl p hp)
   ·exact AO r n acc h hl
theorem B3 {env:Env} (inj:∀ x y c,env.cells.lookup x=some c→env.cells.lookup y=some c→x=y):∀ (names:List (Str×NameKind)) (acc:List (Str×Addr)),(names.map (·.1)).Nodup→
 (∀ x∈names,x.2 = .free→∃ c,env.cells.lookup x.1=some c)→(acc.Pairwise fun x y=>x.2≠y.2)→(∀ p∈acc,env.cells.lookup p.1=some p.2∧p.1∉names.map (·.1))→(A6 env names acc).Pairwise fun x y=>x.2≠y.2
 | [],_,_,_,h,_=>h
 | (n,k)::r,acc,nd,hf,h,ha=>by
   unfold A6
   have nd':=List.nodup_cons.mp nd
   have hr:=fun y hy=>hf y (List.mem_cons_of_mem _ hy)
   split
   ·rename_i hk
    have hk:k = .free:=by simpa using hk
    obtain ⟨c,hc⟩:=hf (n,k) List.mem_cons_self hk
    have hc':env.cells.lookup n=some c:=hc
    refine B3 inj r _ nd'.2 hr (List.pairwise_cons.mpr ⟨fun y hy e=>?_,h⟩) fun p hp=>?_
    ·have e':(env.cells.lookup n).getD 0=y.2:=e
     rw [hc'] at e'
     have e2:c=y.2:=e'
     have q:=(ha y hy).1
     have:=inj n y.1 c hc' (by rw [e2];exact q)
     exact (ha y hy).2 (by rw [← this];exact List.mem_cons_self)
    ·rcases List.mem_cons.mp hp with rfl | hp
     ·refine ⟨?_,nd'.1⟩
      show env.cells.lookup n=some ((env.cells.lookup n).getD 0)
      rw [hc'];rfl
     ·exact ⟨(ha p hp).1,fun z=>(ha p hp).2 (List.mem_cons_of_mem _ z)⟩
   ·exact B3 inj r acc nd'.2 hr h fun p hp=>⟨(ha p hp).1,fun z=>(ha p hp).2 (List.mem_cons_of_mem _ z)⟩
theorem A8 {env:Env}:∀ (names:List (Str×NameKind)) (x:Str),
 (names.map fun (n,k)=>if (k == NameKind.free&&env.scope.kind == .function&&env.kindOf n == some .cell) then (n,NameKind.cell) else (n,k)).lookup x=
   (names.lookup x).map fun k=>if (k == NameKind.free&&env.scope.kind == .function&&env.kindOf x == some .cell) then NameKind.cell else k
 | [],x=>rfl
 | (n,k)::r,x=>by
   have ih:=A8 (env:=env) r x
   rw [List.map_cons]
   show List.lookup x ((if (k == NameKind.free&&env.scope.kind == .function&&env.kindOf n == some .cell)=true then (n,NameKind.cell) else (n,k))::_)=_
   split
   ·rename_i hc
    rw [List.lookup_cons,List.lookup_cons]
    cases hx:x == n with
    | false=>exact ih
    | true=>
      have e:x=n:=by simpa using hx
      subst e
      simp only [Option.map_some]
      rw [if_pos hc]
   ·rename_i hc
    rw [List.lookup_cons,List.lookup_cons]
    cases hx:x == n with
    | false=>exact ih
    | true=>
      have e:x=n:=by simpa using hx
      subst e
      simp only [Option.map_some]
      rw [if_neg hc]
theorem t8 {α:Type}:∀ {l:List (Str×α)} {n:Str} {c:α},(l.map (·.1)).Nodup→(n,c)∈l→l.lookup n=some c
 | (k,v)::r,n,c,nd,h=>by
   have nd':=List.nodup_cons.mp nd
   rw [List.lookup_cons]
   rcases List.mem_cons.mp h with e | h2
   ·cases e;simp
   ·cases hb:n == k with
    | true=>
      have e:n=k:=by simpa using hb
      exact absurd (List.mem_map.mpr ⟨(n,c),h2,e⟩:k∈r.map (·.1)) nd'.1
    | false=>exact t8 nd'.2 h2
theorem BJ {α:Type}:∀ {l:List (Str×α)} {n:Str} {c:α},(n,c)∈l→∃ d,l.lookup n=some d
 | (k,v)::r,n,c,h=>by
   rw [List.lookup_cons]
   cases hb:n == k with
   | true=>exact ⟨v,rfl⟩
   | false=>
     rcases List.mem_cons.mp h with e | h
     ·cases e;simp at hb
     ·exact BJ h
noncomputable abbrev t6 (X:Cx) (scope:Scope) (N':List Str) (s2:Shared) (H2:Hp) (cs:List (Str×Addr)) (C:Addr) (fp:List Addr):Cx where
 prog:=X.prog
 w:=X.w
 K:=X.K
 mg:=X.mg
 base:=X.base
 A:=X.A
 N:=N'
 s₀:=s2
 H₀:=H2
 env:=compEnvC scope cs C X.env
 outer:=X.stack
 stack:=X.stack
 ex:=fp
 fn:=fun x=>scope.names.lookup x == some .cell
 calm:=X.calm
 pn:=X.pn
 xe:=fun _ _=>False
noncomputable def BS (sc0 sc:Scope) (own cn N:List Str) (js:List Nat):Bool:=
 (decide (sc.kind = .function))&&(sc.names.all fun x=>!decide (x.2 = .free)||decide (sc0.names.lookup x.1=some .cell)||decide (sc0.names.lookup x.1=some .free))
 && decide ((sc.names.map (·.1)).Nodup)&&(own.all fun x=>decide (sc.names.lookup x=some .local)||decide (sc.names.lookup x=some .cell))&&(cn.all fun x=>decide (sc.names.lookup x=some .free))
 && decide ((own++cn).Nodup)&&decide (js.map (fun j=>N[j]?)=cn.map some)
noncomputable def Bb (k:Nat) (js:List Nat) (σ:St):St:=List.replicate k none++js.map fun j=>(σ[j]?).join
noncomputable def Fe (X:Cx) (ifs:List Expr) (t:TT):Prop:=
 ∀ (pins:List (Addr×Obj)) (s:Shared) (σ:St) (H:Hp) (Q:Bool→Hp→Prop),Inv X pins σ H s→t σ H Q→
  wpAny (model X.prog X.w) X.A (forIn ifs true fun c r=>if r=true then do let ok ← isTrue c X.env (eval c X.env);pure (ForInStep.yield ok) else pure (ForInStep.yield r)) (TP X pins σ Q) X.xe s
theorem A9 {X:Cx}:Fe X [] (fun _ H Q=>Q true H):=fun _ _ _ H _ I h=>wpAny_tests_nil ⟨H,I,h⟩
theorem v7 {X:Cx} {c:Expr} {t:TT} (h:PT X c t):Fe X [c] t:=fun pins s σ H Q I hw=>wpAny_tests_one (h pins s σ H Q I hw)
theorem GO {M:Model} {A:Around} {E:Value→Shared→Prop} {s:Shared} {scope:Scope} {env:Env} {cl:List (Str×Addr)} {Q:Env→Shared→Prop}
 (h:Q (newEnv scope s.heap.objs.size env.globals (cellsFrom (s.heap.objs.size+1) scope.names cl) env.qual none .none (some env) builtinsNs) {s with heap:=pushCells (s.heap.push {cls := .type "dict",data := .dict #[]}) scope.names}):
 wpAny M A (newFunctionEnv scope env.globals cl [] env.qual none .none (some env)) Q E s:=by
 simp only [newFunctionEnv,Option.isSome_some,if_true]
 refine wpAny_bind (wpAny_alloc ?_)
 refine wpAny_bind (wpAny_layCells _ (fun name kind cells=>by cases hkc:kind == NameKind.cell<;>simp [hkc]) _ _ _ _ ?_)
 rw [show ({s with heap:=s.heap.push {cls := .type "dict",data := .dict #[]}}:Shared).heap.objs.size=s.heap.objs.size+1 from Heap.size_push ..]
 refine wpAny_bind ?_
 rw [List.forIn_nil]
 exact wpAny_pure (wpAny_pure h)
structure CForm (prog:Program) (w:World) (A:Around) (E tg iter:Expr) (ifs:List Expr) (emit:Value→Env→Sem Unit):Prop where
 turn:∀ (it:Value) (D:Addr) (env:Env),compTurn E 0 it (.ref D) env=(do
  standAt iter.pos
  match ← pyNext it with
  | none=>pure (.done .next)
  | some v=>
    letOwnedTupleGo tg it v
    assign tg env v
    let mut ok:=true
    for c in ifs do
     if ok then ok ← isTrue c env (eval c env)
    if ok then emit (.ref D) env
    again (.compLoop E 0 it (.ref D) env))
 und:∀ (it acc:Value) (env:Env),A.under (.compLoop E 0 it acc env)=A
 den:∀ (it acc:Value) (env:Env),(model prog w).den (.compLoop E 0 it acc env)=(compTurn E 0 it acc env).onRaise (fun x=>do noteFrame x env;theTreesLotGoes x)
 start:∀ {R:Result→Shared→Prop} {s:Shared} {it acc:Value} {env:Env},codeAny (model prog w) A (.compLoop E 0 it acc env) R s→wpAny (model prog w) A (pyIter it) (fun it' s'=>codeAny (model prog w) A (.compLoop E 0 it' acc env) R s') (notedBy (model prog w) A env fun x s'=>R (.error x) s') s→
  codeAny (model prog w) A (.compStart E 0 it acc env) R s
theorem CForm.loop {prog:Program} {w:World} {A:Around} {E tg iter:Expr} {ifs:List Expr} {emit:Value→Env→Sem Unit} (F:CForm prog w A E tg iter ifs emit) {R:Result→Shared→Prop} {s:Shared} {it:Value} {D:Addr} {env:Env} (I:Nat→Shared→Prop)
 (turn:∀ n s,I n s→wpAny (model prog w) A (pyNext it) (fun r s₁=>match r with
   | none=>R (.ok .next) s₁
   | some v=>wpAny (model prog w) A (letOwnedTupleGo tg it v) (fun _ s₁'=>wpAny (model prog w) A (assign tg env v) (fun _ s₂=>
      wpAny (model prog w) A (forIn ifs true fun c r=>if r=true then do let ok ← isTrue c env (eval c env);pure (ForInStep.yield ok) else pure (ForInStep.yield r)) (fun ok s₃=>
       if ok=true then wpAny (model prog w) A (emit (.ref D) env) (fun _ s₅=>∃ m,m<n∧I m s₅) (fun _ _=>False) s₃
       else ∃ m,m<n∧I m s₃) (fun _ _=>False) s₂) (fun _ _=>False) s₁') (fun _ _=>False) s₁) (fun _ _=>False) s)
 (n:Nat) (h:I n s):
 codeAny (model prog w) A (.compLoop E 0 it (.ref D) env) R s:=by
 refine codeAny_loop rfl I (fun n s hI=>?_) n h
 rw [F.und,F.den]
 refine wpAny_noted ?_
 rw [F.turn]
 refine wpAny_bind (wpAny_standAt (wpAny_bind (wpAny_mono (turn n s hI) (fun r s₁ h₁=>?_) fun _ _ h'=>False.elim h')))
 cases r with
 | none=>exact wpAny_pure h₁
 | some v=>
   refine wpAny_bind (wpAny_mono h₁ (fun _ s₁' h₁'=>?_) fun _ _ h'=>False.elim h')
   refine wpAny_bind (wpAny_mono h₁' (fun _ s₂ h₂=>wpAny_bind (wpAny_mono h₂ (fun ok s₃ h₃=>?_) fun _ _ h'=>False.elim h')) fun _ _ h'=>False.elim h')
   cases ok with
   | false=>exact wpAny_pure ⟨rfl,h₃⟩
   | true=>exact wpAny_bind (wpAny_mono h₃ (fun _ s₅ h₅=>wpAny_pure ⟨rfl,h₅⟩) fun _ _ h'=>False.elim h')
noncomputable def Ix {α:Type} (J:It) (g:TG) (tt:TT) (tem:α→St→Hp→(α→Hp→Prop)→Prop) (σ':St) (Q:Hp→Prop) (W:Nat→Nat→α→Hp→Prop):Prop:=
 ∀ i m a H,W i m a H→(J.stop i H∧Q H)∨(J.go i H∧∃ N:α→Hp→Prop,(∀ a' H',N a' H'→∃ m',m'<m∧W (i+1) m' a' H')∧∀ x H',J.yld i H x H'→g x σ' H' fun σ2 H2=>tt σ2 H2 fun b H3=>if b=true then tem a σ2 H3 N else N a H3)
noncomputable def Ju (elt:Expr) (acc:Value) (env:Env):Sem Unit:=do
 let x ← eval elt env
 let _ ← call (.builtin "list.append") [acc,x]
theorem ER {prog:Program} {w:World} {A:Around} {elt tg iter:Expr} {ifs:List Expr} {scope:Scope} {pos:Pos}:CForm prog w A (.ListComp elt [⟨tg,iter,ifs,0⟩] scope pos) tg iter ifs (Ju elt) where
 turn:=fun _ _ _=>compTurn_list ..
 und:=fun _ _ _=>rfl
 den:=fun _ _ _=>rfl
 start:=fun h0 h=>codeAny_compStart_list h0 h
noncomputable def KW (te:TE) (D:Addr) (ys:List V) (σ:St) (H:Hp) (N:List V→Hp→Prop):Prop:=te σ H fun v H4=>H4 D=some (.lst ys)∧ys.length<sizeLine∧N (ys++[v]) (upd H4 D (.lst (ys++[v])))
noncomputable def Bc (J:It) (g:TG) (tt:TT) (te:TE) (D:Addr) (σ':St) (Q:List V→Hp→Prop) (W:Nat→Nat→List V→Hp→Prop):Prop:=
 ∀ i m ys H,W i m ys H→(J.stop i H∧Q ys H)∨(J.go i H∧∃ N:List V→Hp→Prop,(∀ ys' H',N ys' H'→∃ m',m'<m∧W (i+1) m' ys' H')∧∀ x H',J.yld i H x H'→g x σ' H' fun σ2 H2=>tt σ2 H2 fun b H3=>
  if b=true then te σ2 H3 fun v H4=>H4 D=some (.lst ys)∧ys.length<sizeLine∧N (ys++[v]) (upd H4 D (.lst (ys++[v]))) else N ys H3)
noncomputable def IT (wi:TI) (g:TG) (tt:TT) (te:TE) (k:Nat) (js:List Nat):TE:=fun σ H Q=>wi σ H fun J H1=>∀ D,H1 D=none→
 ∃ W:Nat→Nat→List V→Hp→Prop,(∃ m,W 0 m [] (upd H1 D (.lst [])))∧Bc J g tt te D (Bb k js σ) (fun _ H=>Q (.ref D) H) W
section
variable {X:Cx} {pins:List (Addr×Obj)} {σ:St} {H2:Hp} {s2:Shared} {tg elt iter:Expr} {ifs:List Expr} {scope:Scope} {pos:Pos} {own cn:List Str} {js:List Nat} {g:TG} {tt:TT} {te:TE}
theorem Ds {α:Type} {E:Expr} {emit:Value→Env→Sem Unit} {mk:Sem Value} {o0:Obj} {u0:HO} {a0:α} {tem:Addr→α→St→Hp→(α→Hp→Prop)→Prop} (F:CForm X.prog X.w X.A E tg iter ifs emit) (hmk:∀ {Q:Value→Shared→Prop},Q (.ref s2.heap.objs.size) {s2 with heap:=s2.heap.push o0}→wpAny (model X.prog X.w) X.A mk Q X.xe s2) (nf0:o0.isFreed=false) (new0:∀ (H:Hp) (h:Heap),h.get? s2.heap.objs.size=some o0→ObjOk X.prog X.w H h s2.heap.objs.size u0) (hok:BS X.env.scope scope own cn X.N js=true) (hc:X.calm=true)
 (hg:∀ s2 H2 cs C fp,PG (t6 X scope (own++cn) s2 H2 cs C fp) tg g) (ht:∀ s2 H2 cs C fp,Fe (t6 X scope (own++cn) s2 H2 cs C fp) ifs tt) (hem:∀ D s2 H2 cs C fp pins s σ H (a:α) (N:α→Hp→Prop),Inv (t6 X scope (own++cn) s2 H2 cs C fp) pins σ H s→tem D a σ H N→wpAny (model X.prog X.w) X.A (emit (.ref D) (compEnvC scope cs C X.env)) (fun _ s1=>∃ a1 H1,Inv (t6 X scope (own++cn) s2 H2 cs C fp) pins σ H1 s1∧N a1 H1) (fun _ _=>False) s)
 (I2:Inv X pins σ H2 s2) {it:Addr} {fp:List Addr} {tn:Nat→Heap→Prop} {J:It} (T:Turn X.prog X.w X.K tg J fp it tn) (st2:tn 0 s2.heap) (f2:∀ b∈fp,FpOk X pins H2 b)
 {Qe:Hp→Prop} (hW:∃ W:Nat→Nat→α→Hp→Prop,(∃ m,W 0 m a0 (upd H2 s2.heap.objs.size u0))∧Ix J g tt (tem s2.heap.objs.size) (Bb own.length js σ) Qe W)
 {RR:Value→Addr→Result→Shared→Prop}
 (hRR:∀ C H' s',Inv X pins σ H' s'→FpOk X pins H' C→(∃ m,s'.heap.Ns C m)→Qe H'→RR (.ref s2.heap.objs.size) C (.ok .next) s'):
 wpAny (model X.prog X.w) X.A mk (fun acc s₃=>wpAny (model X.prog X.w) X.A (newFunctionEnv scope X.env.globals (A6 X.env scope.names []) [] X.env.qual none .none (some X.env)) (fun cenv s₄=>
  codeAny (model X.prog X.w) X.A (.compStart E 0 (.ref it) acc {cenv with scope:=relabel scope X.env}) (RR acc cenv.locals) s₄) X.xe s₃) X.xe s2:=by
 unfold BS at hok
 simp only [Bool.and_eq_true,decide_eq_true_eq,List.all_eq_true,Bool.or_eq_true,Bool.not_eq_true',decide_eq_false_iff_not] at hok
 obtain ⟨⟨⟨⟨⟨⟨k1,k2⟩,k3⟩,k4⟩,k5⟩,k6⟩,k7⟩:=hok
 have hfreeK:∀ x∈scope.names,x.2 = .free→X.env.kindOf x.1=some .cell∨X.env.kindOf x.1=some .free:=fun x hx hf=>by
  rcases k2 x hx with (z | z) | z
  ·exact absurd hf z
  ·exact .inl z
  ·exact .inr z
 have hfree:∀ x∈scope.names,x.2 = .free→∃ c,X.env.cells.lookup x.1=some c:=fun x hx hf=>I2.ok.has x.1 (hfreeK x hx hf)
 -- the heap behind the making
 refine hmk (GO ?_)
 have hsz3:(s2.heap.push o0).objs.size=s2.heap.objs.size+1:=Heap.size_push ..
 dsimp only
 generalize hh3:s2.heap.push o0=h3 at hsz3 ⊢
 have old3:∀ b o,s2.heap.get? b=some o→h3.get? b=some o:=fun b o e=>hh3▸Heap.get?_push_of_some _ e
 have hD3:h3.get? s2.heap.objs.size=some o0:=hh3▸Heap.get?_push_size _ nf0
 generalize hcs:cellsFrom (h3.objs.size+1) scope.names (A6 X.env scope.names [])=cs
 generalize hh4:pushCells (h3.push {cls := .type "dict",data := .dict #[]}) scope.names=h4
 have old4:∀ b o,h3.get? b=some o→h4.get? b=some o:=fun b o e=>hh4▸pushCells_keeps _ _ b o (Heap.get?_push_of_some _ e)
 have old:∀ b o,s2.heap.get? b=some o→h4.get? b=some o:=fun b o e=>old4 b o (old3 b o e)
 have hD4:h4.get? s2.heap.objs.size=some o0:=old4 _ _ hD3
 have hNs:h4.Ns h3.objs.size (fun _=>none):=hh4▸(Heap.Ns.new h3 (.type "dict")).keeps (pushCells_keeps _ _)
 generalize hC:h3.objs.size=C at hNs hcs ⊢
 have hCD:@Eq Nat C (s2.heap.objs.size+1):=by rw [← hC];exact hsz3
 have clM:=Bp (env:=X.env) scope.names [] hfree (fun p hp=>absurd hp (by simp))
 have cellLt:∀ x c,X.env.cells.lookup x=some c→@LT.lt Nat _ c s2.heap.objs.size:=fun x c e=>by obtain ⟨v,z⟩:=I2.cell x c e;exact z.lt
 have apart:cs.Pairwise fun x y=>x.2≠y.2:=by
  rw [← hcs]
  refine AO _ _ _ (B3 I2.ok.inj scope.names [] k3 hfree List.Pairwise.nil fun p hp=>absurd hp (by simp)) fun p hp=>?_
  have:=cellLt _ _ (clM p hp)
  show @LT.lt Nat _ p.2 (C+1)
  omega
 have csM:∀ p∈cs,X.env.cells.lookup p.1=some p.2∨(C+1≤p.2∧(p.1,NameKind.cell)∈scope.names∧h4.IsCell p.2 none):=fun p hp=>by
  have hp0:=hp
  rw [← hcs] at hp
  rcases AK _ _ _ p hp with z | ⟨z,y⟩
  ·exact .inl (clM p z)
  ·have e:h3.objs.size+1=(h3.push {cls := .type "dict",data := .dict #[]}).objs.size:=by rw [Heap.size_push]
   have hp':=hp
   rw [← hC,e] at hp'
   rcases Ad _ _ _ p hp' with q | q
   ·exact .inl (clM p q)
   ·exact .inr ⟨z,y,hh4▸q⟩
 -- facts of the block's context
 have hX:(t6 X scope (own++cn) s2 H2 cs C fp).Ok:=by
  refine ⟨I2.ok.mod,k1,I2.ok.glob,I2.ok.blt,by show @LE.le Nat _ s2.heap.objs.size C;omega,fun x y c h1 h2=>name_of_addr apart (PySem.mem_of_lookup h1) (PySem.mem_of_lookup h2),fun x hx=>?_,fun x c hf hx=>?_,I2.ok.hd,I2.ok.frames,.inl rfl,fun b hb=>?_,I2.bs,Nat.le_trans I2.ok.bsz I2.sz,fun b o e hb=>?_,fun b hb hf=>?_,I2.stack,I2.stkFree⟩
  ·have hx':(relabel scope X.env).names.lookup x=some .cell∨(relabel scope X.env).names.lookup x=some .free:=hx
   have hl:scope.names.lookup x=some .cell∨scope.names.lookup x=some .free:=by
    unfold relabel at hx'
    dsimp only at hx'
    rw [A8] at hx'
    cases e:scope.names.lookup x with
    | none=>rw [e] at hx';simp at hx'
    | some k=>
      rw [e] at hx'
      cases k<;>simp_all
   have:∃ c,(x,c)∈cs:=by
    rw [← hcs]
    rcases hl with hl | hl
    ·exact Ac _ _ _ x (PySem.mem_of_lookup hl)
    ·obtain ⟨c,hc'⟩:=Br (env:=X.env) scope.names [] x (PySem.mem_of_lookup hl)
     exact ⟨c,AL _ _ _ _ hc'⟩
   obtain ⟨c,hm⟩:=this
   exact BJ hm
  ·have hf':scope.names.lookup x=some .cell:=by simpa using hf
   have hm:=PySem.mem_of_lookup (show cs.lookup x=some c from hx)
   rcases csM _ hm with z | ⟨z,_⟩
   ·-- own cells are not captured ones: the captured of that name would be free in the scope
    rw [← hcs] at hm
    rcases AK _ _ _ _ hm with q | ⟨q,_⟩
    ·rcases B2 (env:=X.env) scope.names [] _ q with q' | q'
     ·exact absurd q' (by simp)
     ·have:=t8 k3 q'
      have h2:scope.names.lookup x=some .free:=this
      rw [hf'] at h2;cases h2
    ·show @LE.le Nat _ s2.heap.objs.size c
     have q2:@LE.le Nat _ (C+1) c:=q
     omega
   ·show @LE.le Nat _ s2.heap.objs.size c
    have z2:@LE.le Nat _ (C+1) c:=z
    omega
  ·obtain ⟨f0,f1,f2',f3,f4,f5⟩:=f2 b hb
   obtain ⟨o,ho,_⟩:=T.obj 0 _ st2 b hb
   have hb2:@LT.lt Nat _ b s2.heap.objs.size:=Heap.lt_size ho
   refine ⟨?_,fun x c e=>?_⟩
   ·show @Ne Nat b C
    omega
   ·rcases csM _ (PySem.mem_of_lookup (show cs.lookup x=some c from e)) with z | ⟨z,_⟩
    ·exact f4 x c z
    ·have z2:@LE.le Nat _ (C+1) c:=z
     show @Ne Nat c b
     omega
  ·obtain ⟨f0,f1,f2',f3,f4,f5⟩:=f2 b hb
   rcases f3 with z | z
   ·exact I2.ok.noex b o e z
   ·exact absurd (Nat.lt_of_lt_of_le (Heap.lt_size e) (Nat.le_trans I2.ok.bsz z)) (Nat.lt_irrefl _)
  ·obtain ⟨f0,f1,f2',_⟩:=f2 b hb
   rcases List.mem_cons.mp (I2.stkSub b hf) with z | z
   ·exact f1 z
   ·exact f2' z
 have hDn:H2 s2.heap.objs.size=none:=I2.fresh
 have hCn:H2 C=none:=I2.hok.fresh (show @LE.le Nat _ s2.heap.objs.size C by omega)
 have stkNe:∀ b,b≠X.env.locals→b∉X.fs→b∉frs X.stack:=fun b h1 h2 hb=>by
  rcases List.mem_cons.mp (I2.stkSub b hb) with z | z
  ·exact h1 z
  ·exact h2 z
 have I4:Inv (t6 X scope (own++cn) s2 H2 cs C fp) pins (Bb own.length js σ) (upd H2 s2.heap.objs.size u0) {s2 with heap:=h4}:=by
  refine ⟨hX,rfl,I2.bare,Un.laid old (Nat.le_refl _) hDn,⟨fun _=>none,hNs,fun i x v e1 e2 e3=>?_⟩,fun x c e=>?_,?_,fun x c e=>?_,fun p hp=>?_,I2.hok.laid old (Nat.le_refl _) (new0 _ _ hD4),?_⟩
  ·-- a captured name
   have hi:own.length≤i:=by
    rcases Nat.lt_or_ge i own.length with z | z
    ·exfalso
     unfold Bb at e2
     rw [List.getElem?_append_left (by simpa using z),List.getElem?_replicate,if_pos z] at e2
     cases e2
    ·exact z
   have e1':cn[i - own.length]?=some x:=by
    have:(own++cn)[i]?=some x:=e1
    rw [List.getElem?_append_right hi] at this
    exact this
   have e2':(js.map fun j=>(σ[j]?).join)[i - own.length]?=some (some v):=by
    unfold Bb at e2
    rw [List.getElem?_append_right (by simpa using hi)] at e2
    simpa using e2
   rw [List.getElem?_map] at e2'
   cases hj:js[i - own.length]? with
   | none=>rw [hj] at e2';cases e2'
   | some j=>
     rw [hj] at e2'
     have e2'':(σ[j]?).join=some v:=by simpa using e2'
     have hσ:σ[j]?=some (some v):=by
      cases q:σ[j]? with
      | none=>rw [q] at e2'';cases e2''
      | some z=>rw [q] at e2'';simp at e2'';rw [e2'']
     have hNx:X.N[j]?=some x:=by
      have:=congrArg (fun l=>l[i - own.length]?) k7
      simp only [List.getElem?_map,hj,e1',Option.map_some] at this
      exact Option.some.inj this
     have hfx:scope.names.lookup x=some .free:=k5 x (List.mem_of_getElem? e1')
     have hK:=hfreeK (x,.free) (PySem.mem_of_lookup hfx) rfl
     have hK':X.env.kindOf x=some .cell∨X.env.kindOf x=some .free:=hK
     obtain ⟨m,hn,hl⟩:=I2.loc
     have hvis:Vis X.env.scope x:=by
      rcases hK' with z | z
      ·exact .inr (.inl z)
      ·exact .inr (.inr z)
     obtain ⟨u,r,l⟩:=hl j x v hNx hσ hvis
     refine ⟨u,r,.inr ?_⟩
     rcases l with ⟨l1,_⟩ | ⟨l1,c,l2,l3⟩
     ·rcases hK' with z | z
      ·rw [z] at l1;cases l1
      ·rw [z] at l1;cases l1
     ·have hrl:(compEnvC scope cs C X.env).kindOf x=some .cell∨(compEnvC scope cs C X.env).kindOf x=some .free:=by
       show (relabel scope X.env).names.lookup x=_∨(relabel scope X.env).names.lookup x=_
       unfold relabel
       dsimp only
       rw [A8,hfx]
       simp only [Option.map_some]
       split
       ·exact .inl rfl
       ·exact .inr rfl
      refine ⟨hrl,c,?_,l3.keeps fun b o e=>old b o e⟩
      show cs.lookup x=some c
      obtain ⟨c',hc'⟩:=hX.has x hrl
      have hc2:cs.lookup x=some c':=hc'
      rw [hc2]
      have hm:=PySem.mem_of_lookup hc2
      have:X.env.cells.lookup x=some c':=by
       rcases csM _ hm with z | ⟨_,z,_⟩
       ·exact z
       ·have:=t8 k3 z
        have h2:scope.names.lookup x=some .cell:=this
        rw [hfx] at h2;cases h2
      rw [l2] at this
      exact this.symm
  ·rcases csM _ (PySem.mem_of_lookup (show cs.lookup x=some c from e)) with z | ⟨_,_,z⟩
   ·obtain ⟨v,q⟩:=I2.cell _ _ z
    exact ⟨v,q.keeps fun b o e=>old b o e⟩
   ·exact ⟨none,z⟩
  ·show upd H2 s2.heap.objs.size u0 C=none
   rw [j2 (show @Ne Nat C s2.heap.objs.size by omega)];exact hCn
  ·have hne:c≠s2.heap.objs.size∧H2 c=none:=by
    rcases csM _ (PySem.mem_of_lookup (show cs.lookup x=some c from e)) with z | ⟨z,_,_⟩
    ·exact ⟨Nat.ne_of_lt (cellLt _ _ z),I2.freeC _ _ z⟩
    ·have z2:@LE.le Nat _ (C+1) c:=z
     exact ⟨show @Ne Nat c s2.heap.objs.size by omega,I2.hok.fresh (show @LE.le Nat _ s2.heap.objs.size c by omega)⟩
   rw [j2 hne.1];exact hne.2
  ·obtain ⟨e,n,ne,nf,d⟩:=I2.pin p hp
   have hlt:@LT.lt Nat _ p.1 s2.heap.objs.size:=Heap.lt_size e
   refine ⟨old _ _ e,?_,?_,stkNe _ ne nf,d⟩
   ·rw [j2 (Nat.ne_of_lt hlt)];exact n
   ·show @Ne Nat p.1 C
    omega
  ·show (Bb own.length js σ).length=(own++cn).length
   unfold Bb
   have hl:=congrArg List.length k7
   simp only [List.length_map] at hl
   simp [hl]
 have stat:∀ {H':Hp},(∀ b∈fp,H' b=none)→∀ b∈fp,FpOk (t6 X scope (own++cn) s2 H2 cs C fp) pins H' b:=fun hn b hb=>by
  obtain ⟨f0,f1,f2',f3,f4,f5⟩:=f2 b hb
  exact ⟨hn b hb,(hX.exf b hb).1,stkNe b f1 f2',.inl hb,fun x c e=>(hX.exf b hb).2 x c e,f5⟩
 have back:∀ {σ':St} {H':Hp} {s':Shared},Inv (t6 X scope (own++cn) s2 H2 cs C fp) pins σ' H' s'→Inv X pins σ H' s':=fun {σ' H' s'} J'=>
  I2.call' (ch:=fp) J'.os J'.base J'.hok J'.bare fun b hb=>by
   obtain ⟨f0,f1,f2',f3,f4,f5⟩:=f2 b hb
   exact ⟨f3,f1,f4,f5⟩
 obtain ⟨W,⟨m0,w0⟩,turn⟩:=hW
 have loop:codeAny (model X.prog X.w) X.A (.compLoop E 0 (.ref it) (.ref s2.heap.objs.size) (compEnvC scope cs C X.env)) (RR (.ref s2.heap.objs.size) C) {s2 with heap:=h4}:=by
  refine F.loop (fun n s'=>∃ i ys H',Inv (t6 X scope (own++cn) s2 H2 cs C fp) pins (Bb own.length js σ) H' s'∧tn i s'.heap∧(∀ b∈fp,H' b=none)∧W i n ys H') ?_ m0
   ⟨0,a0,_,I4,T.keep _ _ _ st2 fun b hb o e=>old b o e,fun b hb=>?_,w0⟩
  ·rintro n s3 ⟨i,ys,H3,I3,st3,fr3,w3⟩
   rcases turn i n ys H3 w3 with ⟨stop,q⟩ | ⟨go,N,hN,step⟩
   ·refine thn (T.done (t6 X scope (own++cn) s2 H2 cs C fp) rfl rfl rfl hc i pins s3 _ H3 _ I3 (stat fr3) st3 stop) fun r s4 ⟨hr,I5⟩=>?_
    subst hr
    obtain ⟨m,hn,_⟩:=I5.loc
    exact hRR C H3 s4 (back I5) (I2.fpOk (show @LE.le Nat _ s2.heap.objs.size C by omega) I5.free) ⟨m,hn⟩ q
   ·refine thn (T.item (t6 X scope (own++cn) s2 H2 cs C fp) rfl rfl rfl hc i pins s3 _ H3 _ I3 (stat fr3) st3 go) fun r s4 ⟨u,hr,h4'⟩=>?_
    subst hr
    refine thn h4' fun _ s5 ⟨x,H5,I5,r5,y5,st5,fr5⟩=>?_
    have I5':=I5.pinned (stat fr5) (T.obj _ _ st5)
    refine thn (hg s2 H2 cs C fp _ s5 _ H5 x u _ I5' r5 (step x H5 y5)) fun _ s6 ⟨σ6,H6,I6,q6⟩=>?_
    refine thn (ht s2 H2 cs C fp _ s6 σ6 H6 _ I6 q6) fun b s7 ⟨H7,I7,q7⟩=>?_
    have again:∀ {σ8:St} {H8:Hp} {s8:Shared} {ys8:α},Inv (t6 X scope (own++cn) s2 H2 cs C fp) (pins++BQ fp s5.heap) σ8 H8 s8→(∀ (j:Nat) v,(Bb own.length js σ)[j]?=some (some v)→σ8[j]?=some (some v))→(∃ m',m'<n∧W (i+1) m' ys8 H8)→
     ∃ m,m<n∧∃ i ys H',Inv (t6 X scope (own++cn) s2 H2 cs C fp) pins (Bb own.length js σ) H' s8∧tn i s8.heap∧(∀ b∈fp,H' b=none)∧W i m ys H':=fun {σ8 H8 s8 ys8} I8 hw8 ⟨m',hm,w8⟩=>by
     refine ⟨m',hm,i+1,ys8,H8,I8.unpinned.weak (by rw [I8.len,I4.len]) hw8,T.keep _ _ _ st5 fun b hb o e=>(I8.pin (b,o) (List.mem_append_right _ (List.mem_append_right _ (Ao hb e)))).1,fun b hb=>?_,w8⟩
     obtain ⟨o,e,d⟩:=T.obj _ _ st5 b hb
     exact (I8.pin (b,o) (List.mem_append_right _ (List.mem_append_right _ (Ao hb e)))).2.1
    -- the captured slots outlive the turn: what they said ahead of it is said of the cells
    have capK:∀ {σ8:St} {H8:Hp} {s8:Shared},Inv (t6 X scope (own++cn) s2 H2 cs C fp) (pins++BQ fp s5.heap) σ8 H8 s8→Inv (t6 X scope (own++cn) s2 H2 cs C fp) (pins++BQ fp s5.heap) (Bb own.length js σ) H8 s8:=fun {σ8 H8 s8} I8=>by
     have IX:=back I8.unpinned
     refine ⟨I8.ok,I8.os,I8.bare,I8.base,?_,I8.cell,I8.free,I8.freeC,I8.pin,I8.hok,I4.len⟩
     obtain ⟨m,hn,_⟩:=I8.loc
     refine ⟨m,hn,fun i x v e1 e2 e3=>?_⟩
     obtain ⟨mx,hnx,hlx⟩:=IX.loc
     have hi:own.length≤i:=by
      rcases Nat.lt_or_ge i own.length with z | z
      ·exfalso
       unfold Bb at e2
       rw [List.getElem?_append_left (by simpa using z),List.getElem?_replicate,if_pos z] at e2
       cases e2
      ·exact z
     have e1':cn[i - own.length]?=some x:=by
      have:(own++cn)[i]?=some x:=e1
      rw [List.getElem?_append_right hi] at this
      exact this
     have e2':(js.map fun j=>(σ[j]?).join)[i - own.length]?=some (some v):=by
      unfold Bb at e2
      rw [List.getElem?_append_right (by simpa using hi)] at e2
      simpa using e2
     rw [List.getElem?_map] at e2'
     cases hj:js[i - own.length]? with
     | none=>rw [hj] at e2';cases e2'
     | some j=>
       rw [hj] at e2'
       have e2'':(σ[j]?).join=some v:=by simpa using e2'
       have hσ:σ[j]?=some (some v):=by
        cases q:σ[j]? with
        | none=>rw [q] at e2'';cases e2''
        | some z=>rw [q] at e2'';simp at e2'';rw [e2'']
       have hNx:X.N[j]?=some x:=by
        have:=congrArg (fun l=>l[i - own.length]?) k7
        simp only [List.getElem?_map,hj,e1',Option.map_some] at this
        exact Option.some.inj this
       have hfx:scope.names.lookup x=some .free:=k5 x (List.mem_of_getElem? e1')
       have hK':X.env.kindOf x=some .cell∨X.env.kindOf x=some .free:=hfreeK (x,.free) (PySem.mem_of_lookup hfx) rfl
       have hvis:Vis X.env.scope x:=by
        rcases hK' with z | z
        ·exact .inr (.inl z)
        ·exact .inr (.inr z)
       obtain ⟨u,r,l⟩:=hlx j x v hNx hσ hvis
       refine ⟨u,r,.inr ?_⟩
       rcases l with ⟨l1,_⟩ | ⟨l1,c,l2,l3⟩
       ·rcases hK' with z | z
        ·rw [z] at l1;cases l1
        ·rw [z] at l1;cases l1
       ·have hrl:(compEnvC scope cs C X.env).kindOf x=some .cell∨(compEnvC scope cs C X.env).kindOf x=some .free:=by
         show (relabel scope X.env).names.lookup x=_∨(relabel scope X.env).names.lookup x=_
         unfold relabel
         dsimp only
         rw [A8,hfx]
         simp only [Option.map_some]
         split
         ·exact .inl rfl
         ·exact .inr rfl
        refine ⟨hrl,c,?_,l3⟩
        show cs.lookup x=some c
        obtain ⟨c',hc'⟩:=hX.has x hrl
        have hc2:cs.lookup x=some c':=hc'
        rw [hc2]
        have hm:=PySem.mem_of_lookup hc2
        have:X.env.cells.lookup x=some c':=by
         rcases csM _ hm with z | ⟨_,z,_⟩
         ·exact z
         ·have:=t8 k3 z
          have h2:scope.names.lookup x=some .cell:=this
          rw [hfx] at h2;cases h2
        rw [l2] at this
        exact this.symm
    cases b with
    | false=>
      rw [if_neg Bool.false_ne_true]
      rw [if_neg Bool.false_ne_true] at q7
      exact again (capK I7) (fun _ _ e=>e) (hN _ _ q7)
    | true=>
      rw [if_pos rfl]
      rw [if_pos rfl] at q7
      exact thn (hem _ s2 H2 cs C fp _ s7 σ6 H7 _ _ I7 q7) fun _ s9 ⟨a9,H9,I9,q9⟩=>again (capK I9) (fun _ _ e=>e) (hN _ _ q9)
  ·obtain ⟨f0,_⟩:=f2 b hb
   obtain ⟨o,ho,_⟩:=T.obj 0 _ st2 b hb
   rw [j2 (Nat.ne_of_lt (Heap.lt_size ho))];exact f0
 exact F.start loop (T.self _ 0 _ _ _ (T.keep _ _ _ st2 fun b hb o e=>old b o e) loop)
theorem CO (hok:BS X.env.scope scope own cn X.N js=true) (hc:X.calm=true)
 (hg:∀ s2 H2 cs C fp,PG (t6 X scope (own++cn) s2 H2 cs C fp) tg g) (ht:∀ s2 H2 cs C fp,Fe (t6 X scope (own++cn) s2 H2 cs C fp) ifs tt) (he:∀ s2 H2 cs C fp,PE (t6 X scope (own++cn) s2 H2 cs C fp) elt te)
 (I2:Inv X pins σ H2 s2) {it:Addr} {fp:List Addr} {tn:Nat→Heap→Prop} {J:It} (T:Turn X.prog X.w X.K tg J fp it tn) (st2:tn 0 s2.heap) (f2:∀ b∈fp,FpOk X pins H2 b)
 {Qe:Hp→Prop} (hW:∃ W:Nat→Nat→List V→Hp→Prop,(∃ m,W 0 m [] (upd H2 s2.heap.objs.size (.lst [])))∧Bc J g tt te s2.heap.objs.size (Bb own.length js σ) (fun _ H=>Qe H) W)
 {RR:Value→Addr→Result→Shared→Prop}
 (hRR:∀ C H' s',Inv X pins σ H' s'→FpOk X pins H' C→(∃ m,s'.heap.Ns C m)→Qe H'→RR (.ref s2.heap.objs.size) C (.ok .next) s'):
 wpAny (model X.prog X.w) X.A (newList []) (fun acc s₃=>wpAny (model X.prog X.w) X.A (newFunctionEnv scope X.env.globals (A6 X.env scope.names []) [] X.env.qual none .none (some X.env)) (fun cenv s₄=>
  codeAny (model X.prog X.w) X.A (.compStart (.ListComp elt [⟨tg,iter,ifs,0⟩] scope pos) 0 (.ref it) acc {cenv with scope:=relabel scope X.env}) (RR acc cenv.locals) s₄) X.xe s₃) X.xe s2:=by
 obtain ⟨W,w0,hw⟩:=hW
 refine Ds (RR:=RR) (a0:=[]) (o0:={cls := .type "list",dict:=none,data := .seq ([]:List Value).toArray}) (u0 := .lst []) (tem:=KW te) ER (fun hq=>wpAny_newObj_type hq) rfl (fun _ _ hD=>⟨Nat.zero_le _,[],0,.nil,hD⟩) hok hc hg ht (fun D s2 H2 cs C fp pins s σ H ys N I h=>?_) I2 T st2 f2 ⟨W,w0,hw⟩ hRR
 refine wpAny_bind (thn (he s2 H2 cs C fp _ s σ H _ I h) fun y s8 ⟨v,H8,I8,r8,hD8,hz8,q8⟩=>?_)
 refine wpAny_bind (thn (AI (X:=t6 X scope (own++cn) s2 H2 cs C fp) _ s8 σ H8 (.ref D) [v] (.ref D) [y] (fun _ H9=>H9=upd H8 D (.lst (ys++[v]))) I8 rfl (.cons r8 .nil) ⟨_,ys,v,rfl,rfl,hD8,hz8,rfl⟩) fun _ s9 ⟨z,H9,I9,r9,e9⟩=>?_)
 subst e9
 exact wpAny_pure ⟨_,_,I9,q8⟩
theorem v0 {wi:TI} (own cn:List Str) (js:List Nat) (hi:PI X tg iter wi) (hg:∀ s2 H2 cs C fp,PG (t6 X scope (own++cn) s2 H2 cs C fp) tg g) (ht:∀ s2 H2 cs C fp,Fe (t6 X scope (own++cn) s2 H2 cs C fp) ifs tt)
 (he:∀ s2 H2 cs C fp,PE (t6 X scope (own++cn) s2 H2 cs C fp) elt te) (hc:X.calm=true:=by rfl) (hok:BS X.env.scope scope own cn X.N js=true:=by kernel_rfl)
 (hs:∀ x,foldedSetIterable iter X.env x=pure x:=by intro _;rfl):PE X (.ListComp elt [⟨tg,iter,ifs,0⟩] scope pos) (IT wi g tt te own.length js):=by
 intro pins s σ H Q I h
 have hok':=hok
 unfold BS at hok'
 simp only [Bool.and_eq_true,decide_eq_true_eq,List.all_eq_true,Bool.or_eq_true,Bool.not_eq_true',decide_eq_false_iff_not] at hok'
 obtain ⟨⟨⟨⟨⟨⟨k1,k2⟩,k3⟩,k4⟩,k5⟩,k6⟩,k7⟩:=hok'
 have hfree:∀ x∈scope.names,x.2 = .free→∃ c,X.env.cells.lookup x.1=some c:=fun x hx hf=>I.ok.has x.1 (by
  rcases k2 x hx with (z | z) | z
  ·exact absurd hf z
  ·exact .inl z
  ·exact .inr z)
 rw [eval_ListComp]
 refine wpAny_comprehension_free (use:=none) rfl hs (Ag hfree) k1 (fun x hx hl=>?_) (thn (hi pins s σ H _ I h) fun v s1 h1=>thn h1 fun itv s2 h2=>?_)
 ·have:=t8 k3 (show (x.1,x.2)∈scope.names from hx)
  rw [this,hl]
 ·obtain ⟨it,fp,tn,J,H2,e,I2,T,st2,f2,q⟩:=h2
  subst e
  refine CO (RR:=fun acc C=>compPost (model X.prog X.w) X.A X.xe none (EP X pins σ Q) acc C) hok hc hg ht he I2 T st2 f2 (q _ I2.fresh) ?_
  intro C H' s' I' fC ⟨m,hn⟩ q'
  obtain ⟨f0,f1,f2',f3,f4,f5⟩:=fC
  refine ⟨m,hn,fun h' hs'=>⟨.ref s2.heap.objs.size,H',?_,rfl,q'⟩⟩
  exact I'.turned (t':=s'.toks) (fun b o hb e=>(hs'.2 b hb).trans e) f0 f1 f3 f4 f5
theorem AW {wi:TI} {i:Nat} {x:Str} {px spos:Pos} (own cn:List Str) (js:List Nat) (hN:X.N.Nodup) (hix:X.N[i]?=some x) (hx:X.env.scope.names.lookup x=some .local) (hi:PI X tg iter wi)
 (hg:∀ s2 H2 cs C fp,PG (t6 X scope (own++cn) s2 H2 cs C fp) tg g) (ht:∀ s2 H2 cs C fp,Fe (t6 X scope (own++cn) s2 H2 cs C fp) ifs tt)
 (he:∀ s2 H2 cs C fp,PE (t6 X scope (own++cn) s2 H2 cs C fp) elt te) (hc:X.calm=true:=by rfl) (hok:BS X.env.scope scope own cn X.N js=true:=by kernel_rfl)
 (hsw:swapsWith (.ListComp elt [⟨tg,iter,ifs,0⟩] scope pos) (some (.Name x px)) spos.line X.env=pure true:=by rfl)
 (hs:∀ x,foldedSetIterable iter X.env x=pure x:=by intro _;rfl):PS X (.Assign [.Name x px] (.ListComp elt [⟨tg,iter,ifs,0⟩] scope pos) spos) (HQ (IT wi g tt te own.length js) (Co i)):=by
 intro pins s σ H D I h
 have hok':=hok
 unfold BS at hok'
 simp only [Bool.and_eq_true,decide_eq_true_eq,List.all_eq_true,Bool.or_eq_true,Bool.not_eq_true',decide_eq_false_iff_not] at hok'
 obtain ⟨⟨⟨⟨⟨⟨k1,k2⟩,k3⟩,k4⟩,k5⟩,k6⟩,k7⟩:=hok'
 have hfree:∀ x∈scope.names,x.2 = .free→∃ c,X.env.cells.lookup x.1=some c:=fun x hx hf=>I.ok.has x.1 (by
  rcases k2 x hx with (z | z) | z
  ·exact absurd hf z
  ·exact .inl z
  ·exact .inr z)
 rw [exec_Assign_Name_used _ _ _ _ hsw]
 refine wpAny_bind (wpAny_standAt (wpAny_bind ?_))
 show wpAny _ X.A (do let _ ← comprehension (.ListComp elt [⟨tg,iter,ifs,0⟩] scope pos) scope X.env _ (newList []) false (eval iter X.env) (some (assign (.Name x px) X.env))) _ _ s
 refine wpAny_bind (wpAny_mono (wpAny_comprehension_free (use:=some (assign (.Name x px) X.env)) (Q:=fun _ s'=>SP X pins D .next s') rfl hs (Ag hfree) k1 (fun x hx hl=>?_)
  (thn (hi pins s σ H _ I h) fun v s1 h1=>thn h1 fun itv s2 h2=>?_)) (fun _ s' hq=>wpAny_pure (wpAny_pure hq)) fun _ _ e=>e)
 ·have:=t8 k3 (show (x.1,x.2)∈scope.names from hx)
  rw [this,hl]
 ·obtain ⟨it,fp,tn,J,H2,e,I2,T,st2,f2,q⟩:=h2
  subst e
  refine CO (RR:=fun acc C=>compPost (model X.prog X.w) X.A X.xe (some (assign (.Name x px) X.env)) (fun _ s'=>SP X pins D .next s') acc C) hok hc hg ht he I2 T st2 f2 (q _ I2.fresh) ?_
  intro C H' s' I' fC ⟨m,hn⟩ q'
  obtain ⟨f0,f1,f2',f3,f4,f5⟩:=fC
  show wpAny _ X.A (assign (.Name x px) X.env (.ref s2.heap.objs.size)) _ _ _
  refine wpAny_assign_Name (Cn I' hN hix (.inl hx) (v := .ref s2.heap.objs.size) rfl (fun s3 I3 hch=>?_) (.inr hx))
  obtain ⟨a,hsb,ha⟩:=hch
  have hCa:C≠a:=by
   rcases ha with z | z
   ·rw [z];exact f1
   ·exact fun e=>f4 x a z e.symm
  refine ⟨m,hn.sameBut hsb hCa,fun h' hs'=>?_⟩
  exact ⟨_,H',I3.turned (t':=s3.toks) (fun b o hb e=>(hs'.2 b hb).trans e) f0 f1 f3 f4 f5,q'⟩
end
section
variable {g:TG} {tt:TT} {te:TE} {D:Addr} {σ':St} {Q:List V→Hp→Prop} {H1:Hp}
noncomputable abbrev AA (g:TG) (tt:TT) (te:TE) (D:Addr) (σ':St) (ys:List V) (N:List V→Hp→Prop) (x:V) (H:Hp):Prop:=
 g x σ' H fun σ2 H2=>tt σ2 H2 fun b H3=>if b=true then te σ2 H3 fun v H4=>H4 D=some (.lst ys)∧ys.length<sizeLine∧N (ys++[v]) (upd H4 D (.lst (ys++[v]))) else N ys H3
theorem v9 {lo:Int} {n:Nat} (Pv:Nat→List V→Hp→Prop) (h0:Pv 0 [] (upd H1 D (.lst [])))
 (hs:∀ i ys H,i<n→Pv i ys H→AA g tt te D σ' ys (Pv (i+1)) (.int (lo+i)) H) (hd:∀ ys H,Pv n ys H→Q ys H):
 ∃ W:Nat→Nat→List V→Hp→Prop,(∃ m,W 0 m [] (upd H1 D (.lst [])))∧Bc (Itr lo n) g tt te D σ' Q W:=by
 refine ⟨fun i m ys H=>m=n - i∧i≤n∧Pv i ys H,⟨n,by simp,Nat.zero_le _,h0⟩,?_⟩
 rintro i m ys H ⟨rfl,hi,p⟩
 by_cases hlt:i<n
 ·refine .inr ⟨hlt,Pv (i+1),fun ys' H' p'=>⟨n - (i+1),by omega,rfl,hlt,p'⟩,fun x H' y=>?_⟩
  obtain ⟨e,y⟩:=y
  subst e y
  exact hs i ys _ hlt p
 ·have e:i=n:=by omega
  subst e
  exact .inl ⟨Nat.le_refl _,hd ys H p⟩
theorem Bs {K:PySem.W.Frag} {a:Addr} {xs:List V} (Pv:Nat→List V→Hp→Prop) (h0:Pv 0 [] (upd H1 D (.lst []))) (hl:∀ i ys H,i≤xs.length→Pv i ys H→SqL K H a xs)
 (hs:∀ i x ys H,xs[i]?=some x→Pv i ys H→AA g tt te D σ' ys (Pv (i+1)) x H) (hd:∀ ys H,Pv xs.length ys H→Q ys H):
 ∃ W:Nat→Nat→List V→Hp→Prop,(∃ m,W 0 m [] (upd H1 D (.lst [])))∧Bc (Itl K a) g tt te D σ' Q W:=by
 refine ⟨fun i m ys H=>m=xs.length - i∧i≤xs.length∧Pv i ys H,⟨xs.length,by simp,Nat.zero_le _,h0⟩,?_⟩
 rintro i m ys H ⟨rfl,hi,p⟩
 have q:=hl i ys H hi p
 by_cases hlt:i<xs.length
 ·refine .inr ⟨⟨xs,xs[i],q,by simp [hlt]⟩,Pv (i+1),fun ys' H' p'=>⟨xs.length - (i+1),by omega,rfl,hlt,p'⟩,fun x H' y=>?_⟩
  obtain ⟨e,y⟩:=y
  subst e
  exact hs i x ys _ (y xs q) p
 ·have e:i=xs.length:=by omega
  subst e
  exact .inl ⟨⟨xs,q,Nat.le_refl _⟩,hd ys H p⟩
theorem CQ {K:PySem.W.Frag} {a:Addr} {xs:List V} (Pv:Nat→List V→Hp→Prop) (h0:Pv 0 [] (upd H1 D (.lst []))) (hl:∀ i ys H,i≤xs.length→Pv i ys H→SqT K H a xs)
 (hs:∀ i x ys H,xs[i]?=some x→Pv i ys H→AA g tt te D σ' ys (Pv (i+1)) x H) (hd:∀ ys H,Pv xs.length ys H→Q ys H):
 ∃ W:Nat→Nat→List V→Hp→Prop,(∃ m,W 0 m [] (upd H1 D (.lst [])))∧Bc (Itt K a) g tt te D σ' Q W:=by
 refine ⟨fun i m ys H=>m=xs.length - i∧i≤xs.length∧Pv i ys H,⟨xs.length,by simp,Nat.zero_le _,h0⟩,?_⟩
 rintro i m ys H ⟨rfl,hi,p⟩
 have q:=hl i ys H hi p
 by_cases hlt:i<xs.length
 ·refine .inr ⟨⟨xs,xs[i],q,by simp [hlt]⟩,Pv (i+1),fun ys' H' p'=>⟨xs.length - (i+1),by omega,rfl,hlt,p'⟩,fun x H' y=>?_⟩
  obtain ⟨e,y⟩:=y
  subst e
  exact hs i x ys _ (y xs q) p
 ·have e:i=xs.length:=by omega
  subst e
  exact .inl ⟨⟨xs,q,Nat.le_refl _⟩,hd ys H p⟩
end
end L2
namespace PySem
open AutoSeq1 (wpAny_loadPart')
section
variable {prog:Program} {w:World} {A:Around} {E:Value→Shared→Prop} {s:Shared}
theorem Aw {it l:Addr} {i:Nat} {items} {x:Value} {Q:Value→Shared→Prop} (hit:s.heap.IsTupleIter it l i)
 (hl:s.heap.IsTuple l items) (hx:items[i]?=some x)
 (hQ:∀ h',h'.IsTupleIter it l (i+1)→Heap.SameBut it s.heap h'→Q x {s with heap:=h'}):
 wpAny (model prog w) A (Builtin.SmallTypes.nextOf (.ref it)) Q E s:=by
 obtain ⟨o,ho,hc,hd⟩:=id hit
 obtain ⟨ol,hol,_,nl,hdl⟩:=hl
 unfold Builtin.SmallTypes.nextOf
 refine wpAny_bind (wpAny_callSpecial?_slot (name:=Str.ofString "__next__") hit.typeIs F.slot_tuple_iterator_next
  (wpAny_call_entry F.slot_tuple_iterator_next hit.typeIs F.entry_tuple_iterator_next ?_ (F.args_tuple_iterator_next_1 _)))
 show wpAny _ _ (field (.ref it) 0 >>= _) _ _ s
 refine wpAny_bind (wpAny_field ho hd (x := .ref l) rfl ?_)
 show wpAny _ _ (if (Value.ref l == Value.none)=true then _ else _) _ _ s
 rw [if_neg (show ¬ ((Value.ref l == Value.none)=true) from Bool.false_ne_true)]
 show wpAny _ _ (field (.ref it) 1 >>= _) _ _ s
 refine wpAny_bind (wpAny_field ho hd (x := .int i 0) rfl ?_)
 show wpAny _ _ (seqItems? (.ref l) >>= _) _ _ s
 refine wpAny_bind (wpAny_seqItems hol hdl ?_)
 simp only [Int.toNat_natCast,hx]
 refine wpAny_bind (wpAny_setField ho hd (by simp) (wpAny_pure ⟨x,rfl,wpAny_pure (hQ _ ?_ (Heap.SameBut.update ..))⟩))
 exact ⟨_,Heap.get?_update_self _ ho (Obj.isFreed_of_fields (Obj.data_mapFields hd _)),(Obj.cls_mapFields ..).trans hc,by
  rw [Obj.data_mapFields hd];simp [rawInt]⟩
theorem B4 {it l:Addr} {i:Nat} {items} {Q:Value→Shared→Prop} (hh:A.handled=none)
 (hit:s.heap.IsTupleIter it l i) (hl:s.heap.IsTuple l items) (hx:items[i]?=none)
 (hE:∀ h' e,Heap.ExtBut it s.heap h'→(∃ o,h'.get? e=some o∧o.cls = .type "StopIteration")→E (.ref e) {s with heap:=h'}):
 wpAny (model prog w) A (Builtin.SmallTypes.nextOf (.ref it)) Q E s:=by
 obtain ⟨o,ho,hc,hd⟩:=id hit
 obtain ⟨ol,hol,_,nl,hdl⟩:=hl
 unfold Builtin.SmallTypes.nextOf
 refine wpAny_bind (wpAny_callSpecial?_slot (name:=Str.ofString "__next__") hit.typeIs F.slot_tuple_iterator_next
  (wpAny_call_entry F.slot_tuple_iterator_next hit.typeIs F.entry_tuple_iterator_next ?_ (F.args_tuple_iterator_next_1 _)))
 show wpAny _ _ (field (.ref it) 0 >>= _) _ _ s
 refine wpAny_bind (wpAny_field ho hd (x := .ref l) rfl ?_)
 show wpAny _ _ (if (Value.ref l == Value.none)=true then _ else _) _ _ s
 rw [if_neg (show ¬ ((Value.ref l == Value.none)=true) from Bool.false_ne_true)]
 show wpAny _ _ (field (.ref it) 1 >>= _) _ _ s
 refine wpAny_bind (wpAny_field ho hd (x := .int i 0) rfl ?_)
 show wpAny _ _ (seqItems? (.ref l) >>= _) _ _ s
 refine wpAny_bind (wpAny_seqItems hol hdl ?_)
 simp only [Int.toNat_natCast,hx]
 refine wpAny_bind (wpAny_rule (wpAny_bind (wpAny_setField ho hd (by simp) ?_)))
 first
  | refine wpAny_bind (wpAny_letGo ?_)
  | skip
 show wpAny _ _ (newExc (.type "StopIteration") [] >>= _) _ _ _
 refine wpAny_bind ?_
 simp only [newExc,newTuple]
 refine wpAny_bind (wpAny_newObj_type ?_ (by size_fits))
 refine wpAny_bind (m:=firstArgMember _ _) (wpAny_of_eq (a:=Value.none) (by first | rfl | (simp only [firstArgMember];rfl)) ?_)
 refine wpAny_newObj_type ?_ (by size_fits)
 simp only [raiseNew]
 refine wpAny_bind (wpAny_handled ?_)
 first | rw [show A.in1.handled=none from hh] | rw [hh]
 refine wpAny_bind (wpAny_pure (wpAny_throw ?_))
 exact hE _ _ (((Heap.SameBut.update ..).extBut.push _).push _) ⟨_,Heap.get?_push_size _ rfl,rfl⟩
end
theorem v3 {prog:Program} {w:World} {A:Around} (hh:A.handled=none) (it l:Addr) (hne:l≠it) (items:Array Value):
 Draws prog w A it [it,l] items.size (fun i v=>items[i]?=some v) (fun i h=>h.IsTupleIter it l i∧h.IsTuple l items) where
 live:=fun _ _ st=>let ⟨o,ho,_⟩:=st.1;⟨o,ho⟩
 frame:=fun _ _ _ st hk=>⟨st.1.at fun o e=>hk it (by simp) o e,let ⟨o,ho,r⟩:=st.2;⟨o,hk l (by simp) o ho,r⟩⟩
 item:=fun i s Q E hi st hQ=>by
  refine Aw st.1 st.2 (x:=items[i]) (by simp [hi]) fun h' hit' hs'=>?_
  exact hQ _ h' s.toks (by simp [hi]) ⟨hit',st.2.extBut hs'.extBut hne⟩ hs'
 done:=fun s Q E st hE=>B4 hh st.1 st.2 (by simp) hE
theorem BT (l:Addr) (items:Array Value) (n:Nat) (dct:Option Addr) (sl:Array (Option Value)):
 Meets (Builtin.«enumerate.__new__» ⟨[.type "enumerate",.ref l],[]⟩) (fun _ R s=>s.heap.get? l=some {cls := .type "tuple",dict:=dct,data := .seq items n,slots:=sl}∧
  R (.ok (.ret (.ref (s.heap.push {cls := .type "tuple_iterator",data := .fields #[.ref l,.int 0 0]}).objs.size)))
   {s with heap:=(s.heap.push {cls := .type "tuple_iterator",data := .fields #[.ref l,.int 0 0]}).push {cls := .type "enumerate",data := .fields #[.none,.bool false,.ref s.heap.objs.size,rawInt 0,.none,.none]}}):=
 .of_wp fun prog w A R s h=>by
  obtain ⟨hp,g,d,tk,os⟩:=s;obtain ⟨hl,h⟩:=h
  have hsub:=sub_enumerate
  have hL:Heap.IsTuple (Shared.heap ⟨hp,g,d,tk,os⟩) l items:=⟨_,hl,rfl,n,rfl⟩
  wp_walk using wpAny_loadPart' hl
  refine wpAny_stack_any fun st=>wpAny_pure ?_
  split
  ·rename_i c _ _ _ _ _
   cases (c == Value.type "enumerate")
   ·wp_walk using wpAny_loadPart' hl,wpAny_pyIter_tuple hL
    exact ⟨_,rfl,h⟩
   ·wp_walk using wpAny_loadPart' hl,wpAny_pyIter_tuple hL
    exact ⟨_,rfl,h⟩
  ·wp_walk using wpAny_loadPart' hl,wpAny_pyIter_tuple hL
   exact ⟨_,rfl,h⟩
section
variable {prog:Program} {w:World} {A:Around} {E:Value→Shared→Prop} {s:Shared}
theorem Ae {l:Addr} {items:Array Value} {Q:Value→Shared→Prop} (hL:s.heap.IsTuple l items)
 (h:∀ h',IsEnum h' (s.heap.objs.size+1) s.heap.objs.size 0 .none→h'.IsTupleIter s.heap.objs.size l 0→h'.objs.size=s.heap.objs.size+2→
   (∀ b o,s.heap.get? b=some o→h'.get? b=some o)→Q (.ref (s.heap.objs.size+1)) {s with heap:=h'}):
 wpAny (model prog w) A (call (.type "enumerate") [.ref l]) Q E s:=by
 obtain ⟨⟨c,dct,dt,sl⟩,hl,hc,n,hd⟩:=hL
 replace hc:c = .type "tuple":=hc
 replace hd:dt = .seq items n:=hd
 subst hc hd
 refine callType_new F.called_enumerate (by decide) (F.typeCall_enumerate_1 _) (F.newCall_enumerate_1 _) (fun obj=>F.args_object_init_2 obj _) F.entry_enumerate_new
  (BT l items n dct sl) ⟨hl,?_⟩
 have hz:(s.heap.push {cls := .type "tuple_iterator",data := .fields #[.ref l,.int 0 0]}).objs.size=s.heap.objs.size+1:=Heap.size_push ..
 show _∧_
 rw [hz]
 have he:IsEnum ((s.heap.push {cls := .type "tuple_iterator",data := .fields #[.ref l,.int 0 0]}).push
  {cls := .type "enumerate",data := .fields #[.none,.bool false,.ref s.heap.objs.size,rawInt 0,.none,.none]}) (s.heap.objs.size+1) s.heap.objs.size 0 .none:=by
  have:=Heap.get?_push_size (s.heap.push {cls := .type "tuple_iterator",data := .fields #[.ref l,.int 0 0]})
   (o:={cls := .type "enumerate",data := .fields #[.none,.bool false,.ref s.heap.objs.size,rawInt 0,.none,.none]}) rfl
  rw [hz] at this;exact this
 refine ⟨⟨_,he,rfl⟩,h _ he ⟨_,Heap.get?_push_of_some _ (Heap.get?_push_size _ rfl),rfl,rfl⟩ (by rw [Heap.size_push,hz]) fun b o x=>Heap.get?_push_of_some _ (Heap.get?_push_of_some _ x)⟩
end
end PySem
namespace L2
open PySem PySem.Spec PyProof.Rows
section
variable {X:Cx} {pins:List (Addr×Obj)} {σ:St} {H:Hp} {s:Shared} {h':Heap}
theorem Inv.turnedL {t':Nat} {ch:List Addr} (I:Inv X pins σ H s) (k:∀ b o,b∉ch→s.heap.get? b=some o→h'.get? b=some o) (hf:∀ b∈ch,FpOk X pins H b):Inv X pins σ H {s with heap:=h',toks:=t'}:=by
 have nit:∀ b u,H b=some u→b∉ch:=fun b u e z=>by rw [(hf b z).1] at e;cases e
 refine I.step (g':=s.gens) (d':=s.drawn) (ch:=ch) (fun b hb=>?_) (fun b o _ _ hc e _=>k b o hc e) (fun b o _ _ hc e _=>⟨o.slots,k b o hc e⟩) (fun _ _ _ _ n=>n)
  (fun b o hc e=>⟨o,k b o hc e⟩) (fun _ _ e=>e) (fun _ _ _ e=>e) (fun b ps e=>⟨#[],by rw [e];simp⟩) (fun m hm=>?_) (fun b u e=>?_) I.bare
 ·obtain ⟨f0,f1,f2,f3,f4,f5⟩:=hf b hb
  exact ⟨f3,f1,f4,f5⟩
 ·obtain ⟨o,es,ep,ho,r⟩:=hm
  exact ⟨o,es,ep,k _ o (fun z=>(hf _ z).2.1 rfl) ho,r⟩
 ·refine (I.hok b u e).stay (fun c v hc q=>k c v ?_ q) (fun _ q=>q) fun _ _ q=>q
  rcases hc with z | z
  ·rw [z];exact nit b u e
  ·exact nit c _ z
theorem Inv.turnLay {t':Nat} {ch:List Addr} {o:HO} (I:Inv X pins σ H s) (k:∀ b u,b∉ch→s.heap.get? b=some u→h'.get? b=some u) (hf:∀ b∈ch,FpOk X pins H b)
 (new:ObjOk X.prog X.w (upd H s.heap.objs.size o) h' s.heap.objs.size o):Inv X pins σ (upd H s.heap.objs.size o) {s with heap:=h',toks:=t'}:=by
 have hT:H s.heap.objs.size=none:=I.fresh
 have nit:∀ b u,H b=some u→b∉ch:=fun b u e z=>by rw [(hf b z).1] at e;cases e
 have lt:∀ b u,s.heap.get? b=some u→b≠s.heap.objs.size:=fun b u e=>Nat.ne_of_lt (Heap.lt_size e)
 refine I.step (g':=s.gens) (d':=s.drawn) (ch:=ch) (fun b hb=>?_) (fun b o _ _ hc e _=>k b o hc e) (fun b o _ _ hc e _=>⟨o.slots,k b o hc e⟩) (fun b u _ e n=>by rw [j2 (lt b u e)];exact n)
  (fun b o hc e=>⟨o,k b o hc e⟩) (fun b xs e=>by rw [j2 (d7 e hT)];exact e) (fun b u xs e=>by rw [j2 (d7 e hT)];exact e) (fun b ps e=>⟨#[],by rw [j2 (d7 e hT),e];simp⟩) (fun m hm=>?_) (fun b u e=>?_) I.bare
 ·obtain ⟨f0,f1,f2,f3,f4,f5⟩:=hf b hb
  exact ⟨f3,f1,f4,f5⟩
 ·obtain ⟨o,es,ep,ho,r⟩:=hm
  exact ⟨o,es,ep,k _ o (fun z=>(hf _ z).2.1 rfl) ho,r⟩
 ·by_cases hb:b=s.heap.objs.size
  ·subst hb;rw [b9] at e;cases e;exact new
  ·rw [j2 hb] at e
   refine (I.hok b u e).stay (fun c v hc q=>k c v ?_ q) (fun c q=>by rw [j2 (d7 q hT)];exact q) fun c xs q=>by rw [j2 (d7 q hT)];exact q
   rcases hc with z | z
   ·rw [z];exact nit b u e
   ·exact nit c _ z
end
noncomputable def Ff (K:PySem.W.Frag) (a:Addr):It:=
 ⟨fun i H=>∃ xs x,SqL K H a xs∧xs[i]?=some x,fun i H x H'=>∃ p v,H p=none∧x = .ref p∧(∀ xs,SqL K H a xs→xs[i]?=some v)∧H'=upd H p (.tup [.int i,v]),fun i H=>∃ xs,SqL K H a xs∧xs.length=i⟩
noncomputable def Iy (K:PySem.W.Frag) (a:Addr):It:=
 ⟨fun i H=>∃ xs x,SqT K H a xs∧xs[i]?=some x,fun i H x H'=>∃ p v,H p=none∧x = .ref p∧(∀ xs,SqT K H a xs→xs[i]?=some v)∧H'=upd H p (.tup [.int i,v]),fun i H=>∃ xs,SqT K H a xs∧xs.length=i⟩
theorem DS:2≤sizeLine:=by decide
theorem ES {P:Program} {w:World} {K:PySem.W.Frag} {elts:List Expr} {kx:Nat} {tp:Pos} (a e it:Addr) (hei:e≠it) (hae:a≠e) (hai:a≠it):Turn P w K (.Tuple elts kx tp) (Ff K a) [e,it] e (fun i h=>(∃ old,IsEnum h e it i old)∧h.IsListIter it a i) where
 mem:=by simp
 obj:=fun i h st b hb=>by
  rcases List.mem_cons.mp hb with rfl | hb
  ·obtain ⟨⟨old,z⟩,_⟩:=st
   exact ⟨_,z,fun v q=>by cases q⟩
  ·have e':b=it:=by simpa using hb
   subst e'
   obtain ⟨o,q,c,d⟩:=st.2
   exact ⟨o,q,fun v z=>by rw [d] at z;cases z⟩
 keep:=fun i h h' st k=>⟨let ⟨old,z⟩:=st.1;⟨old,k e (by simp) _ z⟩,st.2.at fun o q=>k it (by simp) o q⟩
 item:=by
  intro X hP hw hK hc i pins s σ H E I hf st hg
  subst hP hw hK
  obtain ⟨xs,x,hq,hx⟩:=hg
  obtain ⟨its,rv,p,hz⟩:=I.list hq
  obtain ⟨u,hu,ru⟩:=rv.get hx
  obtain ⟨⟨old,he⟩,hli⟩:=st
  have hil:i<its.toArray.size:=by
   have:=(List.getElem?_eq_some_iff.mp hu).1
   simpa using this
  refine wpAny_pyNext_enum_itemD (Draws.list (prog:=X.prog) (w:=X.w) (A:=X.A.in1) (show X.A.in1.handled=none from I.ok.hd hc) it a hai its.toArray) he ⟨hli,p.isList⟩ hil hei (by simp [hei,Ne.symm hae]) fun y h' tk hy ho hs' hT hsz hk=>?_
  have hyu:y=u:=by
   have:its.toArray[i]?=some u:=by simpa using hu
   rw [this] at hy;exact (Option.some.inj hy).symm
  subst hyu
  refine ⟨_,rfl,?_⟩
  have I1:Inv X pins σ (upd H s.heap.objs.size (.tup [.int i,x])) {s with heap:=h',toks:=tk+1}:=
   I.turnLay (ch:=[e,it]) (fun b o hb q=>hk b o (fun z=>hb (by simp [z])) (fun z=>hb (by simp [z])) q) hf ⟨DS,[.int i tk,y],.cons ⟨tk,rfl⟩ (.cons ru .nil),⟨_,hT,rfl,_,rfl⟩⟩
  refine wpAny_letOwnedTupleGo_enum ho fun h2 he2 hs2=>?_
  have hfp1:∀ b∈[e,it],FpOk X pins (upd H s.heap.objs.size (.tup [.int i,x])) b:=fun b hb=>by
   obtain ⟨f0,f1⟩:=hf b hb
   have hbl:b≠s.heap.objs.size:=by
    rcases List.mem_cons.mp hb with rfl | hb
    ·exact Nat.ne_of_lt (Heap.lt_size he)
    ·have e':b=it:=by simpa using hb
     subst e'
     obtain ⟨o,q,_⟩:=hli
     exact Nat.ne_of_lt (Heap.lt_size q)
   exact ⟨by rw [j2 hbl];exact f0,f1⟩
  have I2:Inv X pins σ (upd H s.heap.objs.size (.tup [.int i,x])) {s with heap:=h2,toks:=tk+1}:=
   Inv.turnedL (s:={s with heap:=h',toks:=tk+1}) (t':=tk+1) (ch:=[e,it]) I1 (fun b o hb q=>(hs2.2 b (fun z=>hb (by simp [z]))).trans q) hfp1
  refine ⟨.ref s.heap.objs.size,_,I2,rfl,⟨_,x,I.fresh,rfl,fun ys hy=>by rw [I.list_inj hy hq];exact hx,rfl⟩,⟨⟨y,by simpa using he2⟩,hs'.1.extBut hs2.extBut (Ne.symm hei)⟩,fun b hb=>(hfp1 b hb).1⟩
 done:=by
   intro X hP hw hK hc i pins s σ H E I hf st hg
   subst hP hw hK
   obtain ⟨xs,hq,hx⟩:=hg
   obtain ⟨its,rv,p,hz⟩:=I.list hq
   obtain ⟨⟨old,he⟩,hli⟩:=st
   have hl:=rv.length
   have hn:its.toArray.size=i:=by simp;omega
   refine wpAny_pyNext_enum_endD (Draws.list (prog:=X.prog) (w:=X.w) (A:=X.A.in1) (show X.A.in1.handled=none from I.ok.hd hc) it a hai its.toArray) he (by rw [hn];exact ⟨hli,p.isList⟩) fun h' eb=>⟨rfl,I.turnedL (t':=s.toks) (ch:=[e,it]) (fun b o hb q=>eb b o (fun z=>hb (by simp [z])) q) hf⟩
 self:=fun _ _ _ _ _ st h=>let ⟨old,z⟩:=st.1;wpAny_pyIter_enum z h
theorem ET {P:Program} {w:World} {K:PySem.W.Frag} {elts:List Expr} {kx:Nat} {tp:Pos} (a e it:Addr) (hei:e≠it) (hae:a≠e) (hai:a≠it):Turn P w K (.Tuple elts kx tp) (Iy K a) [e,it] e (fun i h=>(∃ old,IsEnum h e it i old)∧h.IsTupleIter it a i) where
 mem:=by simp
 obj:=fun i h st b hb=>by
  rcases List.mem_cons.mp hb with rfl | hb
  ·obtain ⟨⟨old,z⟩,_⟩:=st
   exact ⟨_,z,fun v q=>by cases q⟩
  ·have e':b=it:=by simpa using hb
   subst e'
   obtain ⟨o,q,c,d⟩:=st.2
   exact ⟨o,q,fun v z=>by rw [d] at z;cases z⟩
 keep:=fun i h h' st k=>⟨let ⟨old,z⟩:=st.1;⟨old,k e (by simp) _ z⟩,st.2.at fun o q=>k it (by simp) o q⟩
 item:=by
  intro X hP hw hK hc i pins s σ H E I hf st hg
  subst hP hw hK
  obtain ⟨xs,x,hq,hx⟩:=hg
  obtain ⟨its,rv,p,hz⟩:=I.tuple hq
  obtain ⟨u,hu,ru⟩:=rv.get hx
  obtain ⟨⟨old,he⟩,hli⟩:=st
  have hil:i<its.toArray.size:=by
   have:=(List.getElem?_eq_some_iff.mp hu).1
   simpa using this
  refine wpAny_pyNext_enum_itemD (v3 (prog:=X.prog) (w:=X.w) (A:=X.A.in1) (show X.A.in1.handled=none from I.ok.hd hc) it a hai its.toArray) he ⟨hli,p⟩ hil hei (by simp [hei,Ne.symm hae]) fun y h' tk hy ho hs' hT hsz hk=>?_
  have hyu:y=u:=by
   have:its.toArray[i]?=some u:=by simpa using hu
   rw [this] at hy;exact (Option.some.inj hy).symm
  subst hyu
  refine ⟨_,rfl,?_⟩
  have I1:Inv X pins σ (upd H s.heap.objs.size (.tup [.int i,x])) {s with heap:=h',toks:=tk+1}:=
   I.turnLay (ch:=[e,it]) (fun b o hb q=>hk b o (fun z=>hb (by simp [z])) (fun z=>hb (by simp [z])) q) hf ⟨DS,[.int i tk,y],.cons ⟨tk,rfl⟩ (.cons ru .nil),⟨_,hT,rfl,_,rfl⟩⟩
  refine wpAny_letOwnedTupleGo_enum ho fun h2 he2 hs2=>?_
  have hfp1:∀ b∈[e,it],FpOk X pins (upd H s.heap.objs.size (.tup [.int i,x])) b:=fun b hb=>by
   obtain ⟨f0,f1⟩:=hf b hb
   have hbl:b≠s.heap.objs.size:=by
    rcases List.mem_cons.mp hb with rfl | hb
    ·exact Nat.ne_of_lt (Heap.lt_size he)
    ·have e':b=it:=by simpa using hb
     subst e'
     obtain ⟨o,q,_⟩:=hli
     exact Nat.ne_of_lt (Heap.lt_size q)
   exact ⟨by rw [j2 hbl];exact f0,f1⟩
  have I2:Inv X pins σ (upd H s.heap.objs.size (.tup [.int i,x])) {s with heap:=h2,toks:=tk+1}:=
   Inv.turnedL (s:={s with heap:=h',toks:=tk+1}) (t':=tk+1) (ch:=[e,it]) I1 (fun b o hb q=>(hs2.2 b (fun z=>hb (by simp [z]))).trans q) hfp1
  refine ⟨.ref s.heap.objs.size,_,I2,rfl,⟨_,x,I.fresh,rfl,fun ys hy=>by rw [I.tuple_inj hy hq];exact hx,rfl⟩,⟨⟨y,by simpa using he2⟩,hs'.1.extBut hs2.extBut (Ne.symm hei)⟩,fun b hb=>(hfp1 b hb).1⟩
 done:=by
   intro X hP hw hK hc i pins s σ H E I hf st hg
   subst hP hw hK
   obtain ⟨xs,hq,hx⟩:=hg
   obtain ⟨its,rv,p,hz⟩:=I.tuple hq
   obtain ⟨⟨old,he⟩,hli⟩:=st
   have hl:=rv.length
   have hn:its.toArray.size=i:=by simp;omega
   refine wpAny_pyNext_enum_endD (v3 (prog:=X.prog) (w:=X.w) (A:=X.A.in1) (show X.A.in1.handled=none from I.ok.hd hc) it a hai its.toArray) he (by rw [hn];exact ⟨hli,p⟩) fun h' eb=>⟨rfl,I.turnedL (t':=s.toks) (ch:=[e,it]) (fun b o hb q=>eb b o (fun z=>hb (by simp [z])) q) hf⟩
 self:=fun _ _ _ _ _ st h=>let ⟨old,z⟩:=st.1;wpAny_pyIter_enum z h
section
variable {X:Cx}
noncomputable def Jv (K:PySem.W.Frag) (ta:TA):TI:=fun σ H R=>ta σ H fun vs H1=>∃ a,vs=[.ref a]∧(((∃ xs,SqL K H1 a xs)∧R (Ff K a) H1)∨((∃ xs,SqT K H1 a xs)∧R (Iy K a) H1))
theorem CV:bootBuiltins "enumerate"=some (.type "enumerate"):=by decide +kernel
theorem Dt:bootBuiltins "zip"=some (.type "zip"):=by decide +kernel
theorem Bd {a:Expr} {ta:TA} {p pos:Pos} {elts:List Expr} {kx:Nat} {tp:Pos} (hg:Gl X "enumerate") (hm:X.mg "enumerate"=none) (ha:PA X [a] ta) (hs:starEach [a] X.env=[(false,eval a X.env)]:=by rfl):
 PI X (.Tuple elts kx tp) (.Call (.Name "enumerate" p) [a] [] pos) (Jv X.K ta):=by
 intro pins s σ H R I h
 refine Call_ (Ay I hg hm CV (PyProof.Rows.callWith_type1 (thn (ha pos pins s σ H _ I h) fun us s1 ⟨vs,H1,I1,r1,q1⟩=>?_) hs rfl))
 obtain ⟨l,e,q1⟩:=q1
 subst e
 cases r1 with
 | cons r rr=>
   cases rr
   cases r
   rcases q1 with ⟨⟨xs,hq⟩,q⟩ | ⟨⟨xs,hq⟩,q⟩
   ·obtain ⟨its,rv,pl,hz⟩:=I1.list hq
    have hlt:@LT.lt Nat _ l s1.heap.objs.size:=by obtain ⟨o,n,e,_⟩:=pl;exact Heap.lt_size e
    refine call_enumerate_list pl.isList fun h' he hli hsz hk=>?_
    refine wpAny_pyIter_enum he ?_
    have I2:Inv X pins σ H1 {s1 with heap:=h'}:=I1.kept (t':=s1.toks) hk
    refine ⟨s1.heap.objs.size+1,[s1.heap.objs.size+1,s1.heap.objs.size],_,_,H1,rfl,I2,ES l _ s1.heap.objs.size (show @Ne Nat _ _ by omega) (show @Ne Nat _ _ by omega) (show @Ne Nat _ _ by omega),⟨⟨_,he⟩,hli⟩,fun b hb=>?_,q⟩
    have hb2:@LE.le Nat _ s1.heap.objs.size b:=by
     rcases List.mem_cons.mp hb with rfl | hb
     ·exact Nat.le_succ _
     ·have e:b=s1.heap.objs.size:=by simpa using hb
      rw [e];exact Nat.le_refl _
    exact I1.fpOk hb2 (I1.hok.fresh hb2)
   ·obtain ⟨its,rv,pl,hz⟩:=I1.tuple hq
    have hlt:@LT.lt Nat _ l s1.heap.objs.size:=by obtain ⟨o,e,_⟩:=pl;exact Heap.lt_size e
    refine Ae (show s1.heap.IsTuple l its.toArray from pl) fun h' he hli hsz hk=>?_
    refine wpAny_pyIter_enum he ?_
    have I2:Inv X pins σ H1 {s1 with heap:=h'}:=I1.kept (t':=s1.toks) hk
    refine ⟨s1.heap.objs.size+1,[s1.heap.objs.size+1,s1.heap.objs.size],_,_,H1,rfl,I2,ET l _ s1.heap.objs.size (show @Ne Nat _ _ by omega) (show @Ne Nat _ _ by omega) (show @Ne Nat _ _ by omega),⟨⟨_,he⟩,hli⟩,fun b hb=>?_,q⟩
    have hb2:@LE.le Nat _ s1.heap.objs.size b:=by
     rcases List.mem_cons.mp hb with rfl | hb
     ·exact Nat.le_succ _
     ·have e:b=s1.heap.objs.size:=by simpa using hb
      rw [e];exact Nat.le_refl _
    exact I1.fpOk hb2 (I1.hok.fresh hb2)
end
noncomputable def Itz (K:PySem.W.Frag) (a b:Addr):It:=
 ⟨fun i H=>∃ xs ys x y,SqL K H a xs∧SqL K H b ys∧xs[i]?=some x∧ys[i]?=some y,
  fun i H x H'=>∃ p v u,H p=none∧x = .ref p∧(∀ xs,SqL K H a xs→xs[i]?=some v)∧(∀ ys,SqL K H b ys→ys[i]?=some u)∧H'=upd H p (.tup [v,u]),
  fun i H=>∃ xs ys,SqL K H a xs∧SqL K H b ys∧(xs.length≤i∨ys.length≤i)⟩
theorem GP {P:Program} {w:World} {K:PySem.W.Frag} {elts:List Expr} {kx:Nat} {tp:Pos} (z TI TO i1 i2 l1 l2:Addr) (D:ZipApart z TI TO i1 i2 l1 l2):Turn P w K (.Tuple elts kx tp) (Itz K l1 l2) [z,TI,TO,i1,i2] z
 (fun i h=>IsZip h z TI TO .none∧IsPair h TI (.ref i1) (.ref i2)∧(∃ a b,IsPair h TO a b)∧h.IsListIter i1 l1 i∧h.IsListIter i2 l2 i) where
 mem:=by simp
 obj:=fun i h st b hb=>by
  obtain ⟨hz,hTI,⟨a',b',hTO⟩,⟨o1,e1,c1,d1⟩,⟨o2,e2,c2,d2⟩⟩:=st
  simp only [List.mem_cons,List.not_mem_nil,or_false] at hb
  rcases hb with rfl | rfl | rfl | rfl | rfl
  ·exact ⟨_,hz,fun v q=>by cases q⟩
  ·exact ⟨_,hTI,fun v q=>by cases q⟩
  ·exact ⟨_,hTO,fun v q=>by cases q⟩
  ·exact ⟨o1,e1,fun v q=>by rw [d1] at q;cases q⟩
  ·exact ⟨o2,e2,fun v q=>by rw [d2] at q;cases q⟩
 keep:=fun i h h' st k=>by
  obtain ⟨hz,hTI,⟨a',b',hTO⟩,h1,h2⟩:=st
  exact ⟨k z (by simp) _ hz,k TI (by simp) _ hTI,⟨a',b',k TO (by simp) _ hTO⟩,h1.at fun o q=>k i1 (by simp) o q,h2.at fun o q=>k i2 (by simp) o q⟩
 item:=by
  intro X hP hw hK hc i pins s σ H E I hf st hg
  subst hP hw hK
  obtain ⟨xs,ys,x,y,hq1,hq2,hx,hy⟩:=hg
  obtain ⟨its1,rv1,p1,hz1⟩:=I.list hq1
  obtain ⟨its2,rv2,p2,hz2⟩:=I.list hq2
  obtain ⟨u1,hu1,ru1⟩:=rv1.get hx
  obtain ⟨u2,hu2,ru2⟩:=rv2.get hy
  obtain ⟨hz,hTI,⟨a',b',hTO⟩,h1,h2⟩:=st
  refine wpAny_pyNext_zip_item D hz hTI hTO h1 h2 p1.isList p2.isList (x:=u1) (y:=u2) (by simpa using hu1) (by simpa using hu2) fun h' b1 b2 b3 b4 b5 b6 hk=>?_
  refine ⟨_,rfl,?_⟩
  have I1:Inv X pins σ (upd H s.heap.objs.size (.tup [x,y])) {s with heap:=h'}:=
   I.turnLay (t':=s.toks) (ch:=[z,TI,TO,i1,i2]) (fun b o hb q=>hk b o (fun e=>hb (by simp [e])) (fun e=>hb (by simp [e])) (fun e=>hb (by simp [e])) (fun e=>hb (by simp [e])) q) hf ⟨DS,[u1,u2],.cons ru1 (.cons ru2 .nil),⟨_,b5,rfl,_,rfl⟩⟩
  have lt1:i1<s.heap.objs.size:=by obtain ⟨_,q,_⟩:=h1;exact Heap.lt_size q
  have lt2:i2<s.heap.objs.size:=by obtain ⟨_,q,_⟩:=h2;exact Heap.lt_size q
  have hfp1:∀ b∈[z,TI,TO,i1,i2],FpOk X pins (upd H s.heap.objs.size (.tup [x,y])) b:=fun b hb=>by
   obtain ⟨f0,f1⟩:=hf b hb
   have hbl:b≠s.heap.objs.size:=by
    simp only [List.mem_cons,List.not_mem_nil,or_false] at hb
    rcases hb with rfl | rfl | rfl | rfl | rfl
    ·exact Nat.ne_of_lt (Heap.lt_size hz)
    ·exact Nat.ne_of_lt (Heap.lt_size hTI)
    ·exact Nat.ne_of_lt (Heap.lt_size hTO)
    ·exact Nat.ne_of_lt lt1
    ·exact Nat.ne_of_lt lt2
   exact ⟨by rw [j2 hbl];exact f0,f1⟩
  refine wpAny_letOwnedTupleGo_zip b1 fun h2' hz' hs'=>?_
  have I2:Inv X pins σ (upd H s.heap.objs.size (.tup [x,y])) {s with heap:=h2'}:=
   Inv.turnedL (s:={s with heap:=h'}) (t':=s.toks) (ch:=[z,TI,TO,i1,i2]) I1 (fun b o hb q=>(hs'.2 b (fun e=>hb (by simp [e]))).trans q) hfp1
  refine ⟨.ref s.heap.objs.size,_,I2,rfl,⟨_,x,y,I.fresh,rfl,fun zs hy'=>by rw [I.list_inj hy' hq1];exact hx,fun zs hy'=>by rw [I.list_inj hy' hq2];exact hy,rfl⟩,
   ⟨hz',hs'.extBut _ _ D.TIz (hk _ _ D.TIz D.TITO D.TIi1 D.TIi2 hTI),⟨_,_,hs'.extBut _ _ D.TOz b2⟩,b3.extBut hs'.extBut D.i1z,b4.extBut hs'.extBut D.i2z⟩,fun b hb=>(hfp1 b hb).1⟩
 done:=by
   intro X hP hw hK hc i pins s σ H E I hf st hg
   subst hP hw hK
   obtain ⟨xs,ys,hq1,hq2,hx⟩:=hg
   obtain ⟨its1,rv1,p1,hz1⟩:=I.list hq1
   obtain ⟨its2,rv2,p2,hz2⟩:=I.list hq2
   obtain ⟨hz,hTI,⟨a',b',hTO⟩,h1,h2⟩:=st
   have hl1:=rv1.length
   have hl2:=rv2.length
   have hend:its1.toArray[i]?=none∨its2.toArray[i]?=none:=by
    rcases hx with h | h
    ·exact .inl (by simp;omega)
    ·exact .inr (by simp;omega)
   exact wpAny_pyNext_zip_end (I.ok.hd hc) D hz hTI hTO h1 h2 p1.isList p2.isList hend fun h' hk=>⟨rfl,I.turnedL (t':=s.toks) (ch:=[z,TI,TO,i1,i2]) (fun b o hb q=>hk b o (fun e=>hb (by simp [e])) (fun e=>hb (by simp [e])) (fun e=>hb (by simp [e])) (fun e=>hb (by simp [e])) q) hf⟩
 self:=fun _ _ _ _ _ st h=>wpAny_pyIter_zip st.1 h
section
variable {X:Cx}
noncomputable def KY (K:PySem.W.Frag) (ta:TA):TI:=fun σ H R=>ta σ H fun vs H1=>∃ a b,vs=[.ref a,.ref b]∧(∃ xs,SqL K H1 a xs)∧(∃ ys,SqL K H1 b ys)∧R (Itz K a b) H1
theorem Iz {a b:Expr} {ta:TA} {p pos:Pos} {elts:List Expr} {kx:Nat} {tp:Pos} (hg:Gl X "zip") (hm:X.mg "zip"=none) (ha:PA X [a,b] ta) (hs:starEach [a,b] X.env=[(false,eval a X.env),(false,eval b X.env)]:=by rfl)
 (hs2:starEach [b] X.env=[(false,eval b X.env)]:=by rfl):PI X (.Tuple elts kx tp) (.Call (.Name "zip" p) [a,b] [] pos) (KY X.K ta):=by
 intro pins s σ H R I h
 refine Call_ (Ay I hg hm Dt (PyProof.Rows.callWith_type1 (thn (ha pos pins s σ H _ I h) fun us s1 ⟨vs,H1,I1,r1,q1⟩=>?_) (by rw [hs,hs2]) (by rw [hs2];rfl)))
 obtain ⟨l1,l2,e,⟨xs,hq1⟩,⟨ys,hq2⟩,q⟩:=q1
 subst e
 obtain ⟨u1,u2,rfl,r1',r2'⟩:=Vals.two r1
 cases r1'
 cases r2'
 obtain ⟨its1,rv1,p1,hz1⟩:=I1.list hq1
 obtain ⟨its2,rv2,p2,hz2⟩:=I1.list hq2
 have hl1:@LT.lt Nat _ l1 s1.heap.objs.size:=by obtain ⟨o,n,e,_⟩:=p1;exact Heap.lt_size e
 have hl2:@LT.lt Nat _ l2 s1.heap.objs.size:=by obtain ⟨o,n,e,_⟩:=p2;exact Heap.lt_size e
 refine call_zip_2 p1.isList p2.isList fun h' c1 c2 c3 c4 c5 c6 hk=>?_
 refine wpAny_pyIter_zip c1 ?_
 have I2:Inv X pins σ H1 {s1 with heap:=h'}:=I1.kept (t':=s1.toks) hk
 refine ⟨s1.heap.objs.size+4,[s1.heap.objs.size+4,s1.heap.objs.size+2,s1.heap.objs.size+3,s1.heap.objs.size,s1.heap.objs.size+1],_,_,H1,rfl,I2,GP _ _ _ _ _ l1 l2 ?_,⟨c1,c2,⟨_,_,c3⟩,c4,c5⟩,fun b hb=>?_,q⟩
 ·constructor<;>(show @Ne Nat _ _)<;>omega
 ·have hb2:@LE.le Nat _ s1.heap.objs.size b:=by
   simp only [List.mem_cons,List.not_mem_nil,or_false] at hb
   rcases hb with rfl | rfl | rfl | rfl | rfl
   ·exact Nat.le_add_right _ _
   ·exact Nat.le_add_right _ _
   ·exact Nat.le_add_right _ _
   ·exact Nat.le_refl _
   ·exact Nat.le_add_right _ _
  exact I1.fpOk hb2 (I1.hok.fresh hb2)
end
theorem Fg (its:List Value) (k:Nat) (y:Value):(its.toArray.extract 0 k).push y++its.toArray.extract k=(its.take k++y::its.drop k).toArray:=by
 apply Array.toList_inj.mp
 simp
 first
  | done
  | exact List.take_of_length_le (by simp)
section
variable {X:Cx}
noncomputable def HV:V→List V→Hp→VK→Prop:=fun x vs H Q=>∃ l xs i y,x = .ref l∧vs=[.int i,y]∧H l=some (.lst xs)∧0≤i∧i≤xs.length∧xs.length<sizeLine∧Q .non (upd H l (.lst (xs.take i.toNat++y::xs.drop i.toNat)))
theorem Fh:MtM X "list.insert" HV:=by
 intro pins s σ H x vs v us Q I rx rv h
 obtain ⟨l,xs,i,y,rfl,rfl,hH,h0,h1,hz,q⟩:=h
 cases rx
 obtain ⟨u1,u2,rfl,⟨t,rfl⟩,ru⟩:=Vals.two rv
 obtain ⟨z,its,n,r,hl,e⟩:=I.lstM hH
 have hn:=Bm
 refine call_meets F.slot_list_insert ⟨_,e,rfl⟩ F.entry_list_insert (F.args_list_insert_3 _ _ _) (AutoSeq1.list_insert_list_int_val_1 l its.toArray n i t u2 (by rw [fitsIndex_both (by omega) (by omega)];exact Bool.false_ne_true) (by rw [List.size_toArray];omega)) ⟨e,?_⟩
 refine ⟨.non,_,I.lset (its':=its.take i.toNat++u2::its.drop i.toNat) hH e ?_ (Vals.append (r.take _) (.cons ru (r.drop _))) ?_,rfl,q⟩
 ·have hk:(if i<0 then (i+(its.toArray.size:Int)).toNat else min i.toNat its.toArray.size)=i.toNat:=by
   rw [if_neg (by omega),List.size_toArray];omega
  show (let k:=if i<0 then (i+(its.toArray.size:Int)).toNat else min i.toNat its.toArray.size;(its.toArray.extract 0 k).push u2++its.toArray.extract k)=_
  rw [hk]
  exact Fg its i.toNat u2
 ·rw [List.length_append,List.length_take,List.length_cons,List.length_drop]
  omega
noncomputable def AS (xs ys:List V):Bool:=xs.length == ys.length&&(xs.zip ys).all fun p=>eqV p.1 p.2
noncomputable def Jw (K:PySem.W.Frag) (neg:Bool):R2:=fun x y H Q=>∃ a b xs ys,x = .ref a∧y = .ref b∧SqL K H a xs∧SqL K H b ys∧((xs.all u8=true∧ys.all u8=true)∨xs=[]∨ys=[])∧Q (.bl (if neg then !AS xs ys else AS xs ys)) H
theorem CY {xs ys:List V} (hl:xs.length=ys.length):(List.range xs.length).all (fun j=>eqV (xs.getD j .non) (ys.getD j .non))=AS xs ys:=by
 have e1:AS xs ys=(xs.zip ys).all fun p=>eqV p.1 p.2:=by unfold AS;simp [hl]
 rw [e1,Bool.eq_iff_iff,List.all_eq_true,List.all_eq_true]
 constructor
 ·intro h p hp
  obtain ⟨j,hj,e⟩:=List.mem_iff_getElem.mp hp
  have hj1:j<xs.length:=by simp at hj;omega
  have hj2:j<ys.length:=by omega
  have:=h j (List.mem_range.mpr hj1)
  rw [← e]
  simpa [List.getD,hj1,hj2] using this
 ·intro h j hj
  have hj1:j<xs.length:=List.mem_range.mp hj
  have hj2:j<ys.length:=by omega
  have:=h (xs[j],ys[j]) (List.mem_iff_getElem.mpr ⟨j,by simp;omega,by simp⟩)
  simpa [List.getD,hj1,hj2] using this
theorem BU {xs ys:List V} {us ws:List Value} {A:Around} {s:Shared} (r1:Vals xs us) (r2:Vals ys ws) (f:(xs.all u8=true∧ys.all u8=true)∨xs=[]∨ys=[]):
 ∀ j (h1:j<us.toArray.size) (h2:j<ws.toArray.size),SeqAt.EqAt A s us.toArray[j] ws.toArray[j] (eqV (xs.getD j .non) (ys.getD j .non)):=by
 intro j h1 h2
 have l1:=r1.length
 have l2:=r2.length
 simp only [List.size_toArray] at h1 h2
 have hj1:j<xs.length:=by omega
 have hj2:j<ys.length:=by omega
 obtain ⟨f1,f2⟩:xs.all u8=true∧ys.all u8=true:=by
  rcases f with f | f | f
  ·exact f
  ·subst f;simp at hj1
  ·subst f;simp at hj2
 obtain ⟨u,eu,ru⟩:=r1.get (i:=j) (x:=xs[j]) (by simp [hj1])
 obtain ⟨w',ew,rw'⟩:=r2.get (i:=j) (x:=ys[j]) (by simp [hj2])
 have e1:us.toArray[j]=u:=by
  have:=List.getElem?_eq_some_iff.mp eu
  obtain ⟨_,q⟩:=this
  simpa using q
 have e2:ws.toArray[j]=w':=by
  obtain ⟨_,q⟩:=List.getElem?_eq_some_iff.mp ew
  simpa using q
 rw [e1,e2]
 have g1:xs.getD j .non=xs[j]:=by simp [List.getD,hj1]
 have g2:ys.getD j .non=ys[j]:=by simp [List.getD,hj2]
 rw [g1,g2]
 exact GM ru rw' (List.all_eq_true.mp f1 _ (List.getElem_mem hj1)) (List.all_eq_true.mp f2 _ (List.getElem_mem hj2))
theorem J0 (hu:X.A.units<cLine):OpR X (compareOp .Eq) (Jw X.K false):=by
 intro pins s σ H x y v u Q I rx ry h
 obtain ⟨a,b,xs,ys,rfl,rfl,h1,h2,f,q⟩:=h
 cases rx
 cases ry
 obtain ⟨its1,r1,p1,_⟩:=I.list h1
 obtain ⟨its2,r2,p2,_⟩:=I.list h2
 have l1:=r1.length
 have l2:=r2.length
 by_cases hl:xs.length=ys.length
 ·refine SeqAt.eq_listAt p1.isList p2.isList (by simp;omega) hu (BU r1 r2 f) ⟨.bl _,H,I,rfl,?_⟩
  rw [List.size_toArray,← l1,CY hl]
  exact q
 ·refine SeqAt.eq_list_lengthsAt p1.isList p2.isList (by simp;omega) hu ⟨.bl false,H,I,rfl,?_⟩
  have e:AS xs ys=false:=by unfold AS;simp [hl]
  rw [show (if false=true then !AS xs ys else AS xs ys)=AS xs ys from rfl,e] at q
  exact q
theorem EU (hu:X.A.units<cLine):OpR X (compareOp .NotEq) (Jw X.K true):=by
 intro pins s σ H x y v u Q I rx ry h
 obtain ⟨a,b,xs,ys,rfl,rfl,h1,h2,f,q⟩:=h
 cases rx
 cases ry
 obtain ⟨its1,r1,p1,_⟩:=I.list h1
 obtain ⟨its2,r2,p2,_⟩:=I.list h2
 have l1:=r1.length
 have l2:=r2.length
 by_cases hl:xs.length=ys.length
 ·refine (SeqAt.RcNeAt.lists p1.isList p2.isList (by simp;omega) hu (BU r1 r2 f)) _ _ _ _ ?_
  refine ⟨.bl _,H,I,rfl,?_⟩
  rw [List.size_toArray,← l1,CY hl]
  exact q
 ·refine (SeqAt.RcNeAt.lists_lengths p1.isList p2.isList (by simp;omega) hu) _ _ _ _ ?_
  refine ⟨.bl true,H,I,rfl,?_⟩
  have e:AS xs ys=false:=by unfold AS;simp [hl]
  rw [show (if true=true then !AS xs ys else AS xs ys)=!AS xs ys from rfl,e] at q
  exact q
theorem j6:A2 X (.builtin "isinstance") (fun xs H Q=>∃ x T t b,xs=[x,.ty T]∧TyOf X.K H x t∧PySem.W.kitOne X.K t (.type T)=some b∧Q (.bl b) H):=by
 intro pins s σ H xs us Q I r h
 obtain ⟨x,T,t,b,rfl,ty,e,q⟩:=h
 obtain ⟨u1,u2,rfl,r1,r2⟩:=Vals.two r
 cases r2
 exact Cp I r1 ty e fun tk=>⟨.bl b,H,I.tok tk,rfl,q⟩
theorem EV {pins:List (Addr×Obj)} {σ:St} {H:Hp} {s:Shared} {A:Around} {E:Value→Shared→Prop} {Q:Value→Shared→Prop} {b:Bool} {x:V} {u t:Value} {tp:Addr} {dd:Option Addr} {its:List Value} {n:Nat} {sl:Array (Option Value)} (I:Inv X pins σ H s) (rx:RelV x u) (ty:TyOf X.K H x t)
 (htp:s.heap.get? tp=some ⟨.type "tuple",dd,.seq its.toArray n,sl⟩) (e:PySem.W.kitAny X.K t its=some b) (h:∀ tk,Q (.bool b) {s with toks:=tk}):
 wpAny (model X.prog X.w) A (call (.builtin "isinstance") [u,.ref tp]) Q E s:=by
 cases ty with
 | non=>cases (show u=Value.none from rx);exact PySem.W.kia_tup PySem.W.kitx_none I.kIn True.intro htp e (fun z=>nomatch z) h
 | bl y=>cases (show u=Value.bool y from rx);exact PySem.W.kia_tup PySem.W.kitx_bool I.kIn True.intro htp e (fun z=>nomatch z) h
 | int i=>obtain ⟨t,q⟩:=(show ∃ t,u=Value.int i t from rx);cases q;exact PySem.W.kia_tup PySem.W.kitx_int I.kIn True.intro htp e (fun z=>nomatch z) h
 | str y=>obtain ⟨t,q⟩:=(show ∃ t,u=Value.str y t from rx);cases q;exact PySem.W.kia_tup PySem.W.kitx_str I.kIn True.intro htp e (fun z=>nomatch z) h
 | flt y=>obtain ⟨t,q⟩:=(show ∃ t,u=Value.float y t from rx);cases q;exact PySem.W.kia_tup PySem.W.kitx_float I.kIn True.intro htp e (fun z=>nomatch z) h
 | @lst a xs ea=>
   cases (show u=Value.ref a from rx)
   obtain ⟨_,_,n,_,h1⟩:=(show ObjOk X.prog X.w H s.heap a (.lst xs) from I.hok a _ ea)
   exact PySem.W.kia_tup PySem.W.kitx_list I.kIn ⟨_,h1,rfl⟩ htp e (fun z=>nomatch z) h
 | @frz a ob xs ea=>
   cases (show u=Value.ref a from rx)
   obtain ⟨_,_,_,n,_,h1⟩:=(show ObjOk X.prog X.w H s.heap a (.frz ob (.lst xs)) from I.hok a _ ea)
   exact PySem.W.kia_tup PySem.W.kitx_list I.kIn ⟨_,h1,rfl⟩ htp e (fun z=>nomatch z) h
 | @tup a xs ea=>
   cases (show u=Value.ref a from rx)
   obtain ⟨_,_,_,p⟩:=(show ObjOk X.prog X.w H s.heap a (.tup xs) from I.hok a _ ea)
   obtain ⟨o,h1,h2,_⟩:=p
   exact PySem.W.kia_tup PySem.W.kitx_tuple I.kIn ⟨o,h1,h2⟩ htp e (fun z=>nomatch z) h
 | @dK a kvs ea=>
   cases (show u=Value.ref a from rx)
   obtain ⟨_,_,vs,_,p⟩:=(show ObjOk X.prog X.w H s.heap a (.dK kvs) from I.hok a _ ea)
   obtain ⟨o,es,ep,h1,h2,_⟩:=p
   exact PySem.W.kia_tup PySem.W.kitx_dict I.kIn ⟨o,h1,h2.1⟩ htp e (fun z=>nomatch z) h
 | @dT a kvs ea=>
   cases (show u=Value.ref a from rx)
   obtain ⟨_,_,xs,_,o,es,ep,h1,h2,_⟩:=(show ObjOk X.prog X.w H s.heap a (.dT kvs) from I.hok a _ ea)
   exact PySem.W.kia_tup PySem.W.kitx_dict I.kIn ⟨o,h1,h2.1⟩ htp e (fun z=>nomatch z) h
 | @ins a C dx fs ea cl ha hn htk hm=>
   cases (show u=Value.ref a from rx)
   obtain ⟨mA,O,_⟩:=Ev I.hok ea
   obtain ⟨od,J,_⟩:=O.look
   exact PySem.W.kia_tup (PySem.W.kitx_own (cl.get _) cl.hd ha hn htk hm) I.kIn J htp e (fun z=>nomatch z) h
theorem F3:∀ (Ts:List String) {us:List Value},Vals (Ts.map V.ty) us→us=Ts.map Value.type
 | [],_,.nil=>rfl
 | T::r,_,.cons h t=>by cases h;rw [F3 r t];rfl
theorem AT:A2 X (.builtin "isinstance") (fun xs H Q=>∃ (x:V) (p:Addr) (Ts:List String) (t:Value) (b:Bool),xs=[x,.ref p]∧H p=some (.tup (Ts.map V.ty))∧TyOf X.K H x t∧PySem.W.kitAny X.K t (Ts.map Value.type)=some b∧Q (.bl b) H):=by
 intro pins s σ H xs us Q I r h
 obtain ⟨x,p,Ts,t,b,rfl,hp,ty,e,q⟩:=h
 obtain ⟨u1,u2,rfl,r1,r2⟩:=Vals.two r
 cases r2
 obtain ⟨_,its,rv,⟨⟨c,dd,dt,sl⟩,h1,h2,n,h3⟩⟩:=(show ObjOk X.prog X.w H s.heap p (.tup (Ts.map V.ty)) from I.hok p _ hp)
 have ei:=F3 Ts rv
 subst ei
 replace h2:c = .type "tuple":=h2
 replace h3:dt = .seq (Ts.map Value.type).toArray n:=h3
 subst h2 h3
 exact EV I r1 ty h1 e fun tk=>⟨.bl b,H,I.tok tk,rfl,q⟩
theorem Cz (hc:X.calm=true):A2 X (.builtin "all") (fun xs H Q=>∃ (a:Addr) (bs:List Bool),xs=[.ref a]∧SqL X.K H a (bs.map V.bl)∧Q (.bl (bs.all id)) H):=by
 intro pins s σ H xs us Q I r h
 obtain ⟨a,bs,rfl,hq,q⟩:=h
 obtain ⟨u,rfl,ru⟩:=B1 r
 cases ru
 obtain ⟨its,rv,pl,hz⟩:=I.list hq
 have hl:=rv.length
 rw [List.length_map] at hl
 refine call_all_walk (wpAny_pyIter_list pl.isList ?_)
 have hlt:a<s.heap.objs.size:=by obtain ⟨o,n,e,_⟩:=pl;exact Heap.lt_size e
 refine ⟨s.heap.objs.size,_,_,_,_,_,fun i=>bs.getD i false,rfl,Walks.list (by exact I.ok.hd hc) s.heap.objs.size a (Nat.ne_of_lt hlt) its.toArray,⟨⟨_,Heap.get?_push_size _ rfl,rfl,rfl⟩,pl.isList.push _⟩,?_,fun h' tk hk=>?_⟩
 ·intro i v s' Q' E' hv hQ'
  have hv':its[i]?=some v:=by simpa using hv
  have hi:i<its.length:=(List.getElem?_eq_some_iff.mp hv').1
  have hb:(bs.map V.bl)[i]?=some (.bl (bs[i]'(by omega))):=by simp
  obtain ⟨u',eu,ru'⟩:=rv.get hb
  rw [hv'] at eu
  cases eu
  cases ru'
  have hg:bs.getD i false=bs[i]'(by omega):=by simp [List.getD,show i<bs.length by omega]
  have hQ2:Q' (bs.getD i false) s':=hQ'
  rw [hg] at hQ2
  exact wpAny_truthy_bool hQ2
 ·have I1:Inv X pins σ H {s with heap:=h',toks:=tk}:=I.kept fun b o e=>hk b o (by simp;exact Nat.ne_of_lt (Heap.lt_size e)) (Heap.get?_push_of_some _ e)
  refine ⟨.bl _,H,I1,rfl,?_⟩
  have e:(List.range its.toArray.size).all (fun i=>bs.getD i false)=bs.all id:=by
   rw [List.size_toArray,← hl,Bool.eq_iff_iff,List.all_eq_true,List.all_eq_true]
   constructor
   ·intro h b hb
    obtain ⟨j,hj,e⟩:=List.mem_iff_getElem.mp hb
    have:=h j (List.mem_range.mpr hj)
    simpa [List.getD,hj,e] using this
   ·intro h j hj
    have hj1:j<bs.length:=List.mem_range.mp hj
    have:=h bs[j] (List.getElem_mem hj1)
    simpa [List.getD,hj1] using this
  rw [e]
  exact q
theorem Fi:A2 X (.type "range") (fun xs H Q=>∃ a b,xs=[.int a,.int b]∧∀ p,H p=none→Q (.ref p) (upd H p (.rng a b))):=by
 intro pins s σ H xs us Q I r h
 obtain ⟨a,b,rfl,q⟩:=h
 obtain ⟨u1,u2,rfl,⟨t,rfl⟩,⟨t',rfl⟩⟩:=Vals.two r
 refine call_range_2 ⟨.ref s.heap.objs.size,_,I.laid (o := .rng a b) (fun b o e=>Heap.get?_push_of_some _ e) (Nat.le_refl _) ⟨_,_,_,Heap.get?_push_size _ rfl⟩,rfl,q _ I.fresh⟩
noncomputable def BV (lo:Int) (n:Nat):List V:=(List.range n).map fun (i:Nat)=>V.int (lo+(i:Int))
theorem C6 (lo:Int) (n:Nat):(BV lo n).length=n:=by unfold BV;simp
theorem DT (hc:X.calm=true):A2 X (.type "list") (fun xs H Q=>∃ p a b,xs=[.ref p]∧H p=some (.rng a b) ∧ -(2 ^ 62)≤a∧a<2 ^ 62 ∧ -(2 ^ 62)≤b∧b<2 ^ 62∧(b - a).toNat≤100000∧∀ l,H l=none→Q (.ref l) (upd H l (.lst (BV a (b - a).toNat)))):=by
 intro pins s σ H xs us Q I r h
 obtain ⟨p,a,b,rfl,hp,h1,h2,h3,h4,h5,q⟩:=h
 obtain ⟨u,rfl,ru⟩:=B1 r
 cases ru
 obtain ⟨t,u',v,ho⟩:=(show ObjOk X.prog X.w H s.heap p (.rng a b) from I.hok p _ hp)
 have hn:Builtin.Range.rangeSize a b 1=(((b - a).toNat:Nat):Int):=by rw [rangeSize_one];split<;>omega
 refine call_list_range (I.ok.hd hc) (show IsRange s.heap p a b 1 t u' v from ho) (small_one h1 h2 h3 h4) hn (by omega) fun h' tk acc c' kp e hi=>?_
 have hz:(b - a).toNat≤sizeLine:=Nat.le_trans h5 (by decide)
 refine ⟨.ref s.heap.objs.size,_,I.laid kp (Nat.le_refl _) (show ObjOk X.prog X.w _ h' _ (.lst (BV a (b - a).toNat)) from ⟨by rw [C6];exact hz,acc.toList,c',?_,by simpa using e⟩),rfl,q _ I.fresh⟩
 obtain ⟨hs,hv⟩:=hi
 have key:∀ (n:Nat) (l:List Value) (lo:Int),l.length=n→(∀ (j:Nat) (v:Value),l[j]?=some v→∃ t,v=Value.int (lo+(j:Int)) t)→Vals ((List.range n).map fun (i:Nat)=>V.int (lo+(i:Int))) l:=by
  intro n
  induction n with
  | zero=>intro l lo hl _;cases l with | nil=>exact .nil | cons _ _=>simp at hl
  | succ n ih=>
    intro l lo hl hv
    cases l with
    | nil=>simp at hl
    | cons x r=>
      rw [List.range_succ_eq_map,List.map_cons,List.map_map]
      refine .cons ?_ ?_
      ·obtain ⟨t,e⟩:=hv 0 x (by simp)
       exact ⟨t,e⟩
      ·have:=ih r (lo+1) (by simpa using hl) fun j v hj=>by
        obtain ⟨t,e⟩:=hv (j+1) v (by simpa using hj)
        refine ⟨t,?_⟩
        rw [e]
        congr 1
        omega
       have e2:((fun (i:Nat)=>V.int (lo+(i:Int)))∘Nat.succ)=fun (i:Nat)=>V.int (lo+1+(i:Int)):=by
        funext i
        show V.int (lo+((i+1:Nat):Int))=V.int (lo+1+(i:Int))
        congr 1
        omega
       rw [e2]
       exact this
 refine key _ _ a (by simpa using hs) fun j v hj=>?_
 obtain ⟨t,e⟩:=hv j v (by simpa using hj)
 exact ⟨t,by rw [e];congr 1;omega⟩
end
theorem EW {K:PySem.W.Frag} {a:Addr} {xs:List V} {g:TG} {tt:TT} {te:TE} {D:Addr} {σ':St} {Q:List V→Hp→Prop} {H1:Hp} (Pv:Nat→List V→Hp→Prop) (h0:Pv 0 [] (upd H1 D (.lst []))) (hl:∀ i ys H,i≤xs.length→Pv i ys H→SqL K H a xs)
 (hs:∀ i x ys H p,xs[i]?=some x→Pv i ys H→H p=none→AA g tt te D σ' ys (Pv (i+1)) (.ref p) (upd H p (.tup [.int i,x]))) (hd:∀ ys H,Pv xs.length ys H→Q ys H):
 ∃ W:Nat→Nat→List V→Hp→Prop,(∃ m,W 0 m [] (upd H1 D (.lst [])))∧Bc (Ff K a) g tt te D σ' Q W:=by
 refine ⟨fun i m ys H=>m=xs.length - i∧i≤xs.length∧Pv i ys H,⟨xs.length,by simp,Nat.zero_le _,h0⟩,?_⟩
 rintro i m ys H ⟨rfl,hi,p⟩
 have q:=hl i ys H hi p
 by_cases hlt:i<xs.length
 ·refine .inr ⟨⟨xs,xs[i],q,by simp [hlt]⟩,Pv (i+1),fun ys' H' p'=>⟨xs.length - (i+1),by omega,rfl,hlt,p'⟩,fun x H' y=>?_⟩
  obtain ⟨pp,v,hp,e1,hv,e2⟩:=y
  subst e1 e2
  exact hs i v ys _ pp (hv xs q) p hp
 ·have e:i=xs.length:=by omega
  subst e
  exact .inl ⟨⟨xs,q,rfl⟩,hd ys H p⟩
theorem BW {K:PySem.W.Frag} {a:Addr} {xs:List V} {g:TG} {tt:TT} {te:TE} {D:Addr} {σ':St} {Q:List V→Hp→Prop} {H1:Hp} (Pv:Nat→List V→Hp→Prop) (h0:Pv 0 [] (upd H1 D (.lst []))) (hl:∀ i ys H,i≤xs.length→Pv i ys H→SqT K H a xs)
 (hs:∀ i x ys H p,xs[i]?=some x→Pv i ys H→H p=none→AA g tt te D σ' ys (Pv (i+1)) (.ref p) (upd H p (.tup [.int i,x]))) (hd:∀ ys H,Pv xs.length ys H→Q ys H):
 ∃ W:Nat→Nat→List V→Hp→Prop,(∃ m,W 0 m [] (upd H1 D (.lst [])))∧Bc (Iy K a) g tt te D σ' Q W:=by
 refine ⟨fun i m ys H=>m=xs.length - i∧i≤xs.length∧Pv i ys H,⟨xs.length,by simp,Nat.zero_le _,h0⟩,?_⟩
 rintro i m ys H ⟨rfl,hi,p⟩
 have q:=hl i ys H hi p
 by_cases hlt:i<xs.length
 ·refine .inr ⟨⟨xs,xs[i],q,by simp [hlt]⟩,Pv (i+1),fun ys' H' p'=>⟨xs.length - (i+1),by omega,rfl,hlt,p'⟩,fun x H' y=>?_⟩
  obtain ⟨pp,v,hp,e1,hv,e2⟩:=y
  subst e1 e2
  exact hs i v ys _ pp (hv xs q) p hp
 ·have e:i=xs.length:=by omega
  subst e
  exact .inl ⟨⟨xs,q,rfl⟩,hd ys H p⟩
theorem Fj {K:PySem.W.Frag} {a:Addr} {xs:List V} {g:TG} {tb:TS} {D:Ends} {σ:St} {H:Hp} (Pv:Nat→St→Hp→Prop) (h0:Pv 0 σ H) (hl:∀ i σ H,i≤xs.length→Pv i σ H→SqL K H a xs)
 (hs:∀ i x σ H p,xs[i]?=some x→Pv i σ H→H p=none→g (.ref p) σ (upd H p (.tup [.int i,x])) fun σ2 H2=>tb {D with nx:=Pv (i+1),ct:=Pv (i+1),bk:=D.nx} σ2 H2) (hd:∀ σ H,Pv xs.length σ H→D.nx σ H):
 ∃ W:Nat→Nat→St→Hp→Prop,(∃ m,W 0 m σ H)∧∀ i m σ H,W i m σ H→
  ((Ff K a).stop i H∧D.nx σ H)∨((Ff K a).go i H∧∃ N:St→Hp→Prop,(∀ σ' H',N σ' H'→∃ m',m'<m∧W (i+1) m' σ' H')∧∀ x H',(Ff K a).yld i H x H'→g x σ H' fun σ2 H2=>tb {D with nx:=N,ct:=N,bk:=D.nx} σ2 H2):=by
 refine ⟨fun i m σ H=>m=xs.length - i∧i≤xs.length∧Pv i σ H,⟨xs.length,by simp,Nat.zero_le _,h0⟩,?_⟩
 rintro i m σ H ⟨rfl,hi,p⟩
 have q:=hl i σ H hi p
 by_cases hlt:i<xs.length
 ·refine .inr ⟨⟨xs,xs[i],q,by simp [hlt]⟩,Pv (i+1),fun σ' H' p'=>⟨xs.length - (i+1),by omega,rfl,hlt,p'⟩,fun x H' y=>?_⟩
  obtain ⟨pp,v,hp,e1,hv,e2⟩:=y
  subst e1 e2
  exact hs i v σ _ pp (hv xs q) p hp
 ·have e:i=xs.length:=by omega
  subst e
  exact .inl ⟨⟨xs,q,rfl⟩,hd σ H p⟩
theorem GQ {K:PySem.W.Frag} {a b:Addr} {xs zs:List V} {g:TG} {tt:TT} {te:TE} {D:Addr} {σ':St} {Q:List V→Hp→Prop} {H1:Hp} (hlen:xs.length=zs.length) (Pv:Nat→List V→Hp→Prop) (h0:Pv 0 [] (upd H1 D (.lst [])))
 (hl:∀ i ys H,i≤xs.length→Pv i ys H→SqL K H a xs∧SqL K H b zs)
 (hs:∀ i x z ys H p,xs[i]?=some x→zs[i]?=some z→Pv i ys H→H p=none→AA g tt te D σ' ys (Pv (i+1)) (.ref p) (upd H p (.tup [x,z]))) (hd:∀ ys H,Pv xs.length ys H→Q ys H):
 ∃ W:Nat→Nat→List V→Hp→Prop,(∃ m,W 0 m [] (upd H1 D (.lst [])))∧Bc (Itz K a b) g tt te D σ' Q W:=by
 refine ⟨fun i m ys H=>m=xs.length - i∧i≤xs.length∧Pv i ys H,⟨xs.length,by simp,Nat.zero_le _,h0⟩,?_⟩
 rintro i m ys H ⟨rfl,hi,p⟩
 obtain ⟨q1,q2⟩:=hl i ys H hi p
 by_cases hlt:i<xs.length
 ·refine .inr ⟨⟨xs,zs,xs[i],zs[i]'(by omega),q1,q2,by simp [hlt],by simp⟩,Pv (i+1),fun ys' H' p'=>⟨xs.length - (i+1),by omega,rfl,hlt,p'⟩,fun x H' y=>?_⟩
  obtain ⟨pp,v,u,hp,e1,hv,hu,e2⟩:=y
  subst e1 e2
  exact hs i v u ys _ pp (hv xs q1) (hu zs q2) p hp
 ·have e:i=xs.length:=by omega
  subst e
  exact .inl ⟨⟨xs,zs,q1,q2,.inl (Nat.le_refl _)⟩,hd ys H p⟩
end L2
namespace Hue
open PySem L2
noncomputable def top (i:Nat):Stmt:=PySem.Challenge.pw_huedties_k19_fans.main.body.getD i (.Pass ⟨0,0,0,0⟩)
noncomputable abbrev D0:Stmt:=top 27
noncomputable abbrev D1:Stmt:=top 28
noncomputable abbrev Bt:Stmt:=top 29
noncomputable abbrev Fk:Stmt:=top 30
theorem IU:bootBuiltins "abs"=some (.builtin "abs"):=by decide +kernel
theorem F6:bootBuiltins "min"=some (.builtin "min"):=by decide +kernel
theorem GR:bootBuiltins "max"=some (.builtin "max"):=by decide +kernel
theorem AF:bootBuiltins "len"=some (.builtin "len"):=by decide +kernel
theorem IV:bootBuiltins "all"=some (.builtin "all"):=by decide +kernel
theorem p0:bootBuiltins "isinstance"=some (.builtin "isinstance"):=by decide +kernel
theorem CZ:bootBuiltins "int"=some (.type "int"):=by decide +kernel
theorem AJ:bootBuiltins "list"=some (.type "list"):=by decide +kernel
theorem AB:bootBuiltins "tuple"=some (.type "tuple"):=by decide +kernel
theorem F7:bootBuiltins "str"=some (.type "str"):=by decide +kernel
theorem AX:bootBuiltins "bool"=some (.type "bool"):=by decide +kernel
theorem HW:bootBuiltins "range"=some (.type "range"):=by decide +kernel
theorem As {X:Cx} {st:Stmt} {t:TS} (t':TS) (h:PS X st t) (imp:∀ D σ H,t' D σ H→t D σ H):PS X st t':=fun pins s σ H D I hw=>h pins s σ H D I (imp D σ H hw)
theorem b01 (b:Bool):-(2 ^ 64)<(if b=true then (1:Int) else 0)∧(if b=true then (1:Int) else 0)<2 ^ 64:=by cases b<;>decide
noncomputable def Ext (t:Addr) (H H':Hp):Prop:=∀ b o,b≠t→H b=some o→H' b=some o
theorem Ext.refl (t:Addr) (H:Hp):Ext t H H:=fun _ _ _ h=>h
theorem Ext.trans {t:Addr} {H H1 H2:Hp} (a:Ext t H H1) (b:Ext t H1 H2):Ext t H H2:=fun c o n h=>b c o n (a c o n h)
theorem Ext.new {t p:Addr} {H H1:Hp} {o:HO} (a:Ext t H H1) (n:H1 p=none):Ext t H (upd H1 p o):=fun c u ne h=>by
 have h1:=a c u ne h
 rw [j2 (d7 h1 n)];exact h1
theorem Ext.free {t p:Addr} {H H1:Hp} (a:Ext t H H1) (n:H1 p=none) (ne:p≠t):H p=none:=by
 cases q:H p with
 | none=>rfl
 | some o=>rw [a p o ne q] at n;cases n
noncomputable def Tape (H:Hp) (t:Addr):Prop:=∃ d e:Int,H t=some (.lst [.int d,.int e])∧0≤d∧0≤e∧e<2147483647
theorem Tape.some {H:Hp} {t:Addr} (h:Tape H t):∃ o,H t=Option.some o:=let ⟨_,_,h,_⟩:=h;⟨_,h⟩
theorem Tape.keep {H H':Hp} {t:Addr} (h:Tape H t) (k:∀ o,H t=Option.some o→H' t=Option.some o):Tape H' t:=let ⟨d,e,h,r⟩:=h;⟨d,e,k _ h,r⟩
theorem Tape.new {H:Hp} {t p:Addr} {o:HO} (h:Tape H t) (n:H p=none):Tape (upd H p o) t:=h.keep fun u q=>by rw [j2 (d7 q n)];exact q
theorem Tape.ne {H:Hp} {t p:Addr} (h:Tape H t) (n:H p=none):p≠t:=by
 obtain ⟨o,e⟩:=h.some
 exact (d7 e n).symm
noncomputable def EX (K:PySem.W.Frag):Sp:=fun vs H Q _=>∃ (a:Addr) (ns:List Int) (k:Int),vs=[.ref a,.int k]∧SqL K H a (ns.map V.int)∧0≤k∧ns.length≤63∧
 ∀ (t:Addr) (H':Hp),H t=none→Tape H' t→Same H H'→Q (.ref t) H'
noncomputable def EY:Sp:=fun vs H Q _=>∃ (t:Addr) (m:Int),vs=[.ref t,.int m]∧Tape H t∧0<m∧m<1073741824∧
 ∀ (r:Int) (H':Hp),0≤r→r<m→Tape H' t→Ext t H H'→Q (.int r) H'
structure Txt (K:PySem.W.Frag) (mg:Str→Option Value):Prop where
 len:mg "len"=none
 abs:mg "abs"=none
 int:mg "int"=none
 min:mg "min"=none
 max:mg "max"=none
 range:mg "range"=none
 tuple:mg "tuple"=none
 list:mg "list"=none
 enum:mg "enumerate"=none
 zip:mg "zip"=none
 isi:mg "isinstance"=none
 all:mg "all"=none
 str:mg "str"=none
 bool:mg "bool"=none
section
variable {P:Program} {w:World} {K:PySem.W.Frag} {mg:Str→Option Value} {base:Heap}
theorem scTape:FnScope ["_law_script","_law_k","_law_cell","_law_digits"] ["_law_script","_law_k"] (defScope D0):=⟨rfl,rfl,rfl,by decide +kernel,rfl,by decide +kernel,by decide +kernel⟩
theorem HX {f:Addr} {fd:FuncData} (F:Fun K "_law_tape" "_law_tape" D0 f fd) (T:Txt K mg):FnOk P w K mg base CX0 1 f fd ["_law_script","_law_k"] (EX K):=by
 refine F.ok scTape (fun vs H Q E h=>?_) (fun cdv A outer s H vs Q E hr h=>?_)
 ·obtain ⟨a,ns,k,rfl,_⟩:=h;rfl
 ·obtain ⟨a,ns,k,rfl,hS,hk,hn,q⟩:=h
  refine ⟨_,c9 (j8 (i:=2) scTape.nd rfl (Or.inl rfl) d0)
   (c9 (n6 (j7 CL (pv 1) (d4 l7 (by rfl) T.len AF (b7 (pv 0) b8)) (m7 _))
     (g9 (j8 (i:=2) scTape.nd rfl (Or.inl rfl) (j5 u5 (pv 0) (pv 1) (fun _ _=>rfl)))) i8)
   (c9 (j8 (i:=3) scTape.nd rfl (Or.inl rfl) (l6 BR (d4 Do (by rfl) T.abs IU (b7 (pv 2) b8))
     (x0 B7 (by rfl) T.int CZ (b7 (w9 Jo (d4 Do (by rfl) T.abs IU (b7 (pv 2) b8)) (l6 Ip d0 d0) (m7 _)) b8))))
   (g9 (l8 (t5 (b7 (pv 3) (b7 (l6 AN (l6 BR (l6 AN (l6 t9 (l6 t9 (pv 2) (l6 BR d0 (pv 1))) d0) d0) d0) d0) b8))))))),?_⟩
  have rest:∀ c:Int,∀ b:Bool,∀ p,H p=none→Q (.ref p) (upd H p (.lst [.int ((if c<0 then -c else c) * (if b then 1 else 0)),.int ((c+7919 * k+1) % 2147483647 * 48271 % 2147483647)])):=by
   intro c b p hp
   refine q p _ hp ⟨_,_,b9,?_,?_,?_⟩ fun x o e=>?_
   ·split<;>split<;>omega
   ·omega
   ·omega
   ·rw [j2 (d7 e hp)];exact e
  refine ⟨_,rfl,_,rfl,a,_,rfl,.inl hS,_,_,rfl,rfl,_,rfl,?_⟩
  refine x8 (fun hlt=>?_) (fun hlt=>?_)
  ·have hlt':k<((ns.map V.int).length:Nat):=of_decide_eq_true hlt
   rw [List.length_map] at hlt'
   have hg:(ns.map V.int)[k.toNat]?=some (V.int (ns.getD k.toNat 0)):=by
    rw [List.getElem?_map]
    have:k.toNat<ns.length:=by omega
    simp [List.getD,this]
   refine ⟨_,rfl,_,rfl,a,_,_,_,rfl,rfl,hS,(by have:=p7 hg;rwa [Int.toNat_of_nonneg hk] at this),?_⟩
   refine ⟨_,rfl,_,rfl,_,rfl,_,rfl,_,_,rfl,rfl,⟨by decide,by decide,by decide⟩,_,_,rfl,rfl,.inr ⟨_,rfl,?_⟩⟩
   refine ⟨_,_,rfl,rfl,.inr (b01 _),?_⟩
   refine ⟨_,rfl,_,rfl,_,rfl,_,_,rfl,rfl,.inl ⟨by decide,by decide⟩,_,_,rfl,rfl,_,_,rfl,rfl,_,_,rfl,rfl,(by show (0:Int)<2147483647;decide),_,_,rfl,rfl,.inr ⟨by decide,by decide⟩,_,_,rfl,rfl,(by show (0:Int)<2147483647;decide),?_⟩
   exact ⟨by show 2≤sizeLine;decide,fun p hp=>rest _ _ p hp⟩
  ·refine ⟨_,rfl,_,rfl,_,rfl,_,rfl,_,_,rfl,rfl,⟨by decide,by decide,by decide⟩,_,_,rfl,rfl,.inr ⟨_,rfl,?_⟩⟩
   refine ⟨_,_,rfl,rfl,.inr (b01 _),?_⟩
   refine ⟨_,rfl,_,rfl,_,rfl,_,_,rfl,rfl,.inl ⟨by decide,by decide⟩,_,_,rfl,rfl,_,_,rfl,rfl,_,_,rfl,rfl,(by show (0:Int)<2147483647;decide),_,_,rfl,rfl,.inr ⟨by decide,by decide⟩,_,_,rfl,rfl,(by show (0:Int)<2147483647;decide),?_⟩
   exact ⟨by show 2≤sizeLine;decide,fun p hp=>rest _ _ p hp⟩
theorem scDraw:FnScope ["_law_tape_here","_law_many","_law_found","_law_once"] ["_law_tape_here","_law_many"] (defScope D1):=⟨rfl,rfl,rfl,by decide +kernel,rfl,by decide +kernel,by decide +kernel⟩
theorem HY {f:Addr} {fd:FuncData} (F:Fun K "_law_draw" "_law_draw" D1 f fd) (T:Txt K mg):FnOk P w K mg base CX0 1 f fd ["_law_tape_here","_law_many"] EY:=by
 refine F.ok scDraw (fun vs H Q E h=>?_) (fun cdv A outer s H vs Q E hr h=>?_)
 ·obtain ⟨t,m,rfl,_⟩:=h;rfl
 ·obtain ⟨t,m,rfl,⟨d,e,ht,hd,he0,he1⟩,hm,hm2,q⟩:=h
  refine ⟨_,c9 (n6 (j7 Dk (j5 u5 (pv 0) d0 (fun _ _=>rfl)) d0 (m7 _))
   (c9 (j8 (i:=2) scDraw.nd rfl (Or.inl rfl) (l6 AN (j5 u5 (pv 0) d0 (fun _ _=>rfl)) (pv 1)))
   (c9 (Bk (l6 DQ (j5 u5 (pv 0) d0 (fun _ _=>rfl)) (pv 1)) (GD (pv 0) d0 Dq))
   (g9 (l8 (pv 2))))) i8)
   (c9 (Bk (l6 AN (l6 t9 (l6 BR (j5 u5 (pv 0) d0 (fun _ _=>rfl)) d0) d0) d0) (GD (pv 0) d0 Dq))
   (c9 (j8 (i:=3) scDraw.nd rfl (Or.inl rfl) (l6 AN (l6 BR (j5 u5 (pv 0) d0 (fun _ _=>rfl)) (l6 t9 (l6 AN (j5 u5 (pv 0) d0 (fun _ _=>rfl)) d0) d0)) d0))
   (g9 (l8 (l6 AN (l6 AN (l6 BR (pv 3) (l6 t9 (l6 AN (pv 3) d0) d0)) d0) (pv 1)))))),?_⟩
  have fin:∀ (r d' e':Int),0≤r→r<m→0≤d'→0≤e'→e'<2147483647→Q (.int r) (upd H t (.lst [.int d',.int e'])):=fun r d' e' h1 h2 h3 h4 h5=>
   q r _ h1 h2 ⟨d',e',b9,h3,h4,h5⟩ fun b o hb z=>by rw [j2 hb];exact z
  refine ⟨_,rfl,t,_,_,_,rfl,rfl,SqL.of ht,(rfl:atI [V.int d,V.int e] 0=some (.int d)),_,_,rfl,rfl,_,rfl,?_⟩
  refine x8 (fun hlt=>?_) (fun hlt=>?_)
  ·refine ⟨_,rfl,t,_,_,_,rfl,rfl,SqL.of ht,(rfl:atI [V.int d,V.int e] 0=some (.int d)),_,rfl,_,_,rfl,rfl,hm,?_⟩
   refine ⟨_,rfl,t,_,_,_,rfl,rfl,SqL.of ht,(rfl:atI [V.int d,V.int e] 0=some (.int d)),_,rfl,_,_,rfl,rfl,⟨hm,hm2⟩,?_⟩
   refine ⟨_,rfl,t,_,0,0,rfl,rfl,ht,rfl,_,rfl,?_⟩
   exact fin _ _ _ (Int.emod_nonneg _ (by omega)) (Int.emod_lt_of_pos _ hm) (Int.ediv_nonneg hd (by omega)) he0 he1
  ·refine ⟨_,rfl,t,_,_,_,rfl,rfl,SqL.of ht,(rfl:atI [V.int d,V.int e] 1=some (.int e)),_,_,rfl,rfl,.inr ⟨by decide,by decide⟩,_,_,rfl,rfl,_,_,rfl,rfl,(by show (0:Int)<2147483647;decide),?_⟩
   refine ⟨_,rfl,t,_,1,1,rfl,rfl,ht,rfl,?_⟩
   have h5:(0:Int)≤(e * 48271+12345) % 2147483647:=by omega
   have h6:(e * 48271+12345) % 2147483647<2147483647:=by omega
   have ht2:(upd H t (.lst ([V.int d,V.int e].set 1 (.int ((e * 48271+12345) % 2147483647))))) t=some (.lst [.int d,.int ((e * 48271+12345) % 2147483647)]):=b9
   refine ⟨_,rfl,t,_,_,_,rfl,rfl,SqL.of ht2,(rfl:atI [V.int d,V.int ((e * 48271+12345) % 2147483647)] 1=some (.int ((e * 48271+12345) % 2147483647))),_,rfl,t,_,_,_,rfl,rfl,SqL.of ht2,(rfl:atI [V.int d,V.int ((e * 48271+12345) % 2147483647)] 1=some (.int ((e * 48271+12345) % 2147483647))),_,_,rfl,rfl,(by show (0:Int)<1009;decide),_,_,rfl,rfl,_,_,rfl,rfl,.inl ⟨by omega,by omega⟩,_,_,rfl,rfl,(by show (0:Int)<2147483629;decide),?_⟩
   have hz0:∃ z,((e * 48271+12345) % 2147483647) * (((e * 48271+12345) % 2147483647) % 1009+3) % 2147483629=z:=⟨_,rfl⟩
   obtain ⟨z,hz⟩:=hz0
   have hz1:0≤z:=by rw [← hz];exact Int.emod_nonneg _ (by decide)
   have hz2:z<2147483629:=by rw [← hz];exact Int.emod_lt_of_pos _ (by decide)
   refine ⟨_,rfl,_,rfl,_,_,rfl,rfl,(by show (0:Int)<997;decide),_,_,rfl,rfl,_,_,rfl,rfl,.inl (by rw [hz];omega),_,_,rfl,rfl,(by show (0:Int)<998244353;decide),_,rfl,_,_,rfl,rfl,hm,?_⟩
   exact fin _ _ _ (Int.emod_nonneg _ (by omega)) (Int.emod_lt_of_pos _ hm) hd h5 h6
end
open PySem L2
structure Callee (P:Program) (w:World) (K:PySem.W.Frag) (mg:Str→Option Value) (base:Heap) (k:Nat) (x:Str) (ps:List Str) (sp:Sp):Prop where
 ex:∃ f fd,FnOk P w K mg base CX0 k f fd ps sp∧mg x=some (.ref f)∧PySem.W.keepIn K (.ref f)=true∧Binds K fd ps []
theorem j9 {X:Cx} {k:Nat} {x:Str} {ps:List Str} {sp:Sp} {e:Expr} {es:List Expr} {t:TA} {p pos:Pos} (C:Callee X.prog X.w X.K X.mg X.base k x ps sp) (hr:Room k X.A) (hg:Gl X x) (ha:PA X (e::es) t)
 (hdb:(x == ("__debug__":Str))=false:=by decide) (he:starEach (e::es) X.env=(false,eval e X.env)::starEach es X.env:=by rfl) (hpl:(backTo pos (starEach es X.env)).any (·.1)=false:=by rfl):
 PE X (.Call (.Name x p) (e::es) [] pos) (GL sp [] E0 t):=by
 obtain ⟨f,fd,F,hm,hk,hb⟩:=C.ex
 exact Ew F hr hg hm hk hb .nil Jt ha hdb he hpl
noncomputable def tTo (S S':St→Hp→Prop):TS:=fun D σ H=>S σ H∧∀ σ' H',S' σ' H'→D.nx σ' H'
noncomputable def KeepT (H H':Hp):Prop:=∀ b xs,H b=some (.tup xs)→H' b=some (.tup xs)
theorem KeepT.trans {H H1 H2:Hp} (a:KeepT H H1) (b:KeepT H1 H2):KeepT H H2:=fun c xs h=>b c xs (a c xs h)
theorem KeepT.new {H:Hp} {p:Addr} {o:HO} (n:H p=none):KeepT H (upd H p o):=fun c xs h=>by rw [j2 (d7 h n)];exact h
theorem KeepT.lst {H:Hp} {l:Addr} {xs:List V} {o:HO} (n:H l=some (.lst xs)):KeepT H (upd H l o):=fun c ys h=>by rw [j2 (IO h n (by intro z;cases z))];exact h
theorem Ext.keepT {t:Addr} {H H':Hp} (a:Ext t H H') (T:Tape H t):KeepT H H':=fun b xs h=>by
 obtain ⟨d,e,ht,_⟩:=T
 exact a b _ (IO h ht (by intro z;cases z)) h
theorem Ext.own {t l:Addr} {H0 H:Hp} {o:HO} (a:Ext t H0 H) (n:H0 l=none):Ext t H0 (upd H l o):=fun b u ne h=>by
 rw [j2 (d7 h n)];exact a b u ne h
theorem Tape.upd {t l:Addr} {H:Hp} {o:HO} (h:Tape H t) (ne:t≠l):Tape (upd H l o) t:=h.keep fun u q=>by rw [j2 ne];exact q
noncomputable def PairAt (H:Hp) (m:Int) (v:V):Prop:=∃ q i j,v = .ref q∧H q=some (.tup [.int i,.int j])∧0≤i∧i<m∧0≤j∧j<m∧i≠j
noncomputable def Pairs (H:Hp) (m:Int) (vs:List V):Prop:=∀ v∈vs,PairAt H m v
theorem PairAt.mono {H H':Hp} {m:Int} {v:V} (h:PairAt H m v) (k:KeepT H H'):PairAt H' m v:=let ⟨q,i,j,e,h,r⟩:=h;⟨q,i,j,e,k _ _ h,r⟩
theorem Pairs.mono {H H':Hp} {m:Int} {vs:List V} (h:Pairs H m vs) (k:KeepT H H'):Pairs H' m vs:=fun v hv=>(h v hv).mono k
theorem Pairs.nil {H:Hp} {m:Int}:Pairs H m []:=fun _ h=>nomatch h
theorem Pairs.app {H:Hp} {m:Int} {xs ys:List V} (a:Pairs H m xs) (b:Pairs H m ys):Pairs H m (xs++ys):=fun v hv=>(List.mem_append.mp hv).elim (a v) (b v)
theorem Pairs.one {H:Hp} {m:Int} {v:V} (a:PairAt H m v):Pairs H m [v]:=fun u hu=>by rw [List.mem_singleton.mp hu];exact a
theorem y7 {H:Hp} {m i j:Int} {p:Addr} (h1:0≤i) (h2:i<m) (h3:0≤j) (h4:j<m) (h5:i≠j):PairAt (upd H p (.tup [.int i,.int j])) m (.ref p):=⟨p,i,j,rfl,b9,h1,h2,h3,h4,h5⟩
structure FS (t:Addr) (H0 H:Hp) (l:Addr) (ps:List V) (m:Int):Prop where
 tape:Tape H t
 ext:Ext t H0 H
 fr:H0 l=none
 ne:t≠l
 at':H l=some (.lst ps)
 prs:Pairs H m ps
section
variable {t l:Addr} {H0 H H':Hp} {ps:List V} {m:Int}
theorem FS.draw (h:FS t H0 H l ps m) (T:Tape H' t) (e:Ext t H H'):FS t H0 H' l ps m:=⟨T,h.ext.trans e,h.fr,h.ne,e _ _ h.ne.symm h.at',h.prs.mono (e.keepT h.tape)⟩
theorem FS.new {p:Addr} {o:HO} (h:FS t H0 H l ps m) (n:H p=none):FS t H0 (upd H p o) l ps m:=
 ⟨h.tape.new n,h.ext.new n,h.fr,h.ne,by rw [j2 (d7 h.at' n)];exact h.at',h.prs.mono (.new n)⟩
theorem FS.set {qs:List V} (h:FS t H0 H l ps m) (q:Pairs H m qs):FS t H0 (upd H l (.lst qs)) l qs m:=
 ⟨h.tape.upd h.ne,h.ext.own h.fr,h.fr,h.ne,b9,q.mono (.lst h.at')⟩
theorem FS.lay {p:Addr} {qs:List V} (T:Tape H t) (e:Ext t H0 H) (T0:Tape H0 t) (n:H p=none) (q:Pairs H m qs):FS t H0 (upd H p (.lst qs)) p qs m:=
 ⟨T.new n,e.new n,e.free n (T.ne n),(T.ne n).symm,b9,q.mono (.new n)⟩
end
theorem FS.oth {t l D:Addr} {H0 H:Hp} {ps xs:List V} {m:Int} {o:HO} (h:FS t H0 H l ps m) (hD:H D=some (.lst xs)) (n0:H0 D=none) (hne:l≠D) (tne:t≠D):FS t H0 (upd H D o) l ps m:=
 ⟨h.tape.upd tne,h.ext.own n0,h.fr,h.ne,by rw [j2 hne];exact h.at',h.prs.mono (.lst hD)⟩
theorem FS.none {t l:Addr} {H0 H:Hp} {m m':Int} (h:FS t H0 H l [] m):FS t H0 H l [] m':=⟨h.tape,h.ext,h.fr,h.ne,h.at',.nil⟩
theorem Jx {x m:Int} (h0:0≤x) (h1:x<2 * m):x % m=if x<m then x else x - m:=by
 split
 ·exact Int.emod_eq_of_lt h0 (by assumption)
 ·have e:x=(x - m)+m * 1:=by omega
  have:x % m=(x - m) % m:=by
   conv=>lhs;rw [e]
   rw [Int.add_mul_emod_self_left]
  rw [this]
  exact Int.emod_eq_of_lt (by omega) (by omega)
theorem Jy:((["_law_k"]:List Str)++(["_law_many"]:List Str)).Nodup:=by decide +kernel
theorem KZ:((["_law_k"]:List Str)++([]:List Str)).Nodup:=by decide +kernel
theorem Jz:((["_law_j"]:List Str)++(["_law_k"]:List Str)).Nodup:=by decide +kernel
theorem J1:((["_law_j"]:List Str)++(["_law_k","_law_tape_here"]:List Str)).Nodup:=by decide +kernel
theorem eqI {a b:Int} (h:decide (V.int a=V.int b)=true):a=b:=by
 have:=of_decide_eq_true h
 injection this
theorem neI {a b:Int} (h:¬ decide (V.int a=V.int b)=true):a≠b:=fun e=>h (by rw [e];simp)
theorem sl3 {n:Nat} (h:n≤1000):n≤sizeLine:=Nat.le_of_lt (i9 h)
theorem D3 {i:Nat} {te:TE} {D:Addr} {x:V} {σ':St} {ys:List V} {N:List V→Hp→Prop} {H:Hp} (h:te (σ'.set i (some x)) H fun v H4=>H4 D=some (.lst ys)∧ys.length<sizeLine∧N (ys++[v]) (upd H4 D (.lst (ys++[v])))):
 AA (Co i) (fun _ H Q=>Q true H) te D σ' ys N x H:=by
 unfold AA Co
 simp only [if_true]
 exact h
noncomputable def DU:Sp:=fun vs H Q _=>∃ (t:Addr) (g:Bool),vs=[.ref t,.bl g]∧Tape H t∧
 ∀ (p l:Addr) (m:Int) (ps:List V) (H':Hp),H p=none→H' p=some (.tup [.int m,.ref l])→FS t H H' l ps m→ps.length≤58→0≤m→m≤12→Q (.ref p) H'
section
variable {P:Program} {w:World} {K:PySem.W.Frag} {mg:Str→Option Value} {base:Heap}
noncomputable abbrev Du (P:Program) (w:World) (K:PySem.W.Frag) (mg:Str→Option Value) (base:Heap):Prop:=Callee P w K mg base 1 "_law_draw" ["_law_tape_here","_law_many"] EY
theorem scPairs:FnScope ["_law_tape_here","_law_great","_law_way","_law_many","_law_found","_law_turn","_law_one","_law_k","_law_sides"] ["_law_tape_here","_law_great"] (defScope Bt):=⟨rfl,rfl,rfl,by decide +kernel,rfl,by decide +kernel,by decide +kernel⟩
noncomputable def PSt (t:Addr) (g:Bool) (H0:Hp) (j:Int) (σ:St) (H:Hp):Prop:=∃ (way m:Int) (l:Addr) (ps:List V) (o5 o6 o7 o8:Option V),
 σ=[some (.ref t),some (.bl g),some (.int way),some (.int m),some (.ref l),o5,o6,o7,o8]∧FS t H0 H l ps m∧ps.length≤58∧0≤m∧m≤12∧0≤way∧way<8∧(j≤way→ps=[])
theorem GT {f:Addr} {fd:FuncData} (F:Fun K "_law_pairs_by" "_law_pairs_by" Bt f fd) (T:Txt K mg) (CD:Du P w K mg base):FnOk P w K mg base CX0 2 f fd ["_law_tape_here","_law_great"] DU:=by
 refine F.ok scPairs (fun vs H Q E h=>?_) (fun cdv A outer s H vs Q E hr h=>?_)
 ·obtain ⟨t,g,rfl,_⟩:=h;rfl
 ·obtain ⟨t,g,rfl,T0,q⟩:=h
  refine ⟨_,c9 (j8 (i:=2) scPairs.nd rfl (Or.inl rfl) (j9 CD hr (by rfl) (b7 (pv 0) (b7 d0 b8))))
   (c9 (j8 (i:=3) scPairs.nd rfl (Or.inr rfl) (j5 u5 (t5 (b7 (j9 CD hr (by rfl) (b7 (pv 0) (b7 d0 b8))) (b7 (l6 t9 d0 (j9 CD hr (by rfl) (b7 (pv 0) (b7 d0 b8)))) b8)))
     (x0 B7 (by rfl) T.int CZ (b7 (pv 1) b8)) (fun _ _=>rfl)))
   (c9 (j8 (i:=4) scPairs.nd rfl (Or.inl rfl) (t5 b8))
   (c9 (As (tTo (PSt t g H 0) (PSt t g H 3)) (n6 (B0 (j7 CL (pv 2) d0 (m7 _)) (Aa (j7 Dk (pv 3) d0 (m7 _)))).pt
     (g9 (AH PassesOwn.never rfl (t7 (by rfl) T.range (b7 (j9 CD hr (by rfl) (b7 (pv 0) (b7 (l6 t9 (l6 BR d0 (pv 3)) d0) b8))) b8)) (i7 (i:=5) scPairs.nd rfl (Or.inl rfl))
       (c9 (j8 (i:=6) scPairs.nd rfl (Or.inl rfl) (j9 CD hr (by rfl) (b7 (pv 0) (b7 (pv 3) b8))))
       (g9 (v6 (Af PySem.F.plainAttrs_list PySem.F.slot_list_append PySem.F.type_list_append AI (pv 4) (b7 (u7 (b7 (pv 6) (b7 (l6 AN (l6 t9 (l6 t9 (pv 6) d0) (j9 CD hr (by rfl) (b7 (pv 0) (b7 (l6 EO (pv 3) d0) b8)))) (pv 3)) b8))) b8))))))) i8) ?i1)
   (c9 (As (tTo (PSt t g H 3) (PSt t g H 4)) (n6 (B0 (j7 AE (pv 2) d0 (m7 _)) (Aa (j7 Dk (pv 3) d0 (m7 _)))).pt
     (g9 (j8 (i:=4) scPairs.nd rfl (Or.inl rfl) (l6 Aq (v0 ["_law_k"] ["_law_many"] [3] (t7 (by rfl) T.range (b7 (pv 3) b8)) (fun _ _ _ _ _=>i7 (i:=0) Jy rfl (Or.inl rfl)) (fun _ _ _ _ _=>A9)
       (fun _ _ _ _ _=>u7 (b7 (pv 0) (b7 (l6 AN (l6 t9 (pv 0) d0) (pv 1)) b8))))
       (t5 (b7 (u7 (b7 d0 (b7 (l6 t9 (j9 CD hr (by rfl) (b7 (pv 0) (b7 (l6 EO (pv 3) d0) b8))) d0) b8))) b8))))) i8) ?i2)
   (c9 (As (tTo (PSt t g H 4) (PSt t g H 5)) (n6 (B0 (j7 AE (pv 2) d0 (m7 _)) (Aa (j7 Dk (pv 3) d0 (m7 _)))).pt
     (g9 (AW (i:=4) ["_law_k"] [] [] scPairs.nd rfl rfl (Bl (by rfl) T.range (b7 d0 (b7 (pv 3) b8))) (fun _ _ _ _ _=>i7 (i:=0) KZ rfl (Or.inl rfl)) (fun _ _ _ _ _=>A9)
       (fun _ _ _ _ _=>u7 (b7 d0 (b7 (pv 0) b8))))) i8) ?i3)
   (c9 (As (tTo (PSt t g H 5) (PSt t g H 6)) (n6 (j7 AE (pv 2) d0 (m7 _))
     (c9 (j8 (i:=3) scPairs.nd rfl (Or.inr rfl) (d4 (B6 rfl) (by rfl) T.min F6 (b7 (pv 3) (b7 (l6 t9 d0 (x0 B7 (by rfl) T.int CZ (b7 (pv 1) b8))) b8))))
     (g9 (AH PassesOwn.never rfl (t7 (by rfl) T.range (b7 (pv 3) b8)) (i7 (i:=7) scPairs.nd rfl (Or.inr rfl))
       (g9 (v6 (Af PySem.F.plainAttrs_list PySem.F.slot_list_extend PySem.F.type_list_extend Bo (pv 4) (b7 (v0 ["_law_j"] ["_law_k"] [7] (t7 (by rfl) T.range (b7 (pv 7) b8)) (fun _ _ _ _ _=>i7 (i:=0) Jz rfl (Or.inl rfl)) (fun _ _ _ _ _=>A9)
         (fun _ _ _ _ _=>u7 (b7 (pv 0) (b7 (pv 1) b8)))) b8))))))) i8) ?i4)
   (c9 (As (tTo (PSt t g H 6) (PSt t g H 7)) (n6 (j7 AE (pv 2) d0 (m7 _))
     (c9 (j8 (i:=8) scPairs.nd rfl (Or.inl rfl) (l6 t9 d0 (l6 DQ (pv 3) d0)))
     (g9 (AH PassesOwn.never rfl (t7 (by rfl) T.range (b7 (pv 8) b8)) (i7 (i:=7) scPairs.nd rfl (Or.inr rfl))
       (g9 (v6 (Af PySem.F.plainAttrs_list PySem.F.slot_list_extend PySem.F.type_list_extend Bo (pv 4) (b7 (v0 ["_law_j"] ["_law_k","_law_tape_here"] [7,0] (Bl (by rfl) T.range (b7 (pv 8) (b7 (pv 3) b8))) (fun _ _ _ _ _=>i7 (i:=0) J1 rfl (Or.inl rfl))
         (fun _ _ _ _ _=>v7 (j7 Dk (j9 CD hr (by rfl) (b7 (pv 2) (b7 d0 b8))) d0 (m7 _)))
         (fun _ _ _ _ _=>u7 (b7 (pv 1) (b7 (pv 0) b8)))) b8))))))) i8) ?i5)
   (c9 (As (tTo (PSt t g H 7) (PSt t g H 8)) (n6 (j7 AE (pv 2) d0 (m7 _))
     (c9 (j8 (i:=3) scPairs.nd rfl (Or.inr rfl) (l6 t9 d0 (l6 DQ (pv 3) d0)))
     (g9 (AH PassesOwn.never rfl (t7 (by rfl) T.range (b7 d0 b8)) (i7 (i:=7) scPairs.nd rfl (Or.inr rfl))
       (g9 (v6 (Af PySem.F.plainAttrs_list PySem.F.slot_list_extend PySem.F.type_list_extend Bo (pv 4) (b7 (l6 Iv (t5 (b7 (u7 (b7 (pv 7) (b7 (l6 AN (l6 t9 (pv 7) d0) d0) b8))) b8))
         (l6 t9 d0 (j9 CD hr (by rfl) (b7 (pv 0) (b7 d0 b8))))) b8))))))) i8) ?i6)
   (g9 (l8 (u7 (b7 (pv 3) (b7 (pv 4) b8))))))))))))),?_⟩
  case i1=>
   rintro D σ Hx ⟨⟨way,m,l,ps,o5,o6,o7,o8,rfl,fs,hl,hm0,hm1,hw0,hw1,hj⟩,kn⟩
   obtain rfl:ps=[]:=hj hw0
   have out:D.nx [some (.ref t),some (.bl g),some (.int way),some (.int m),some (.ref l),o5,o6,o7,o8] Hx:=kn _ _ ⟨way,m,l,[],_,_,_,_,rfl,fs,hl,hm0,hm1,hw0,hw1,fun _=>rfl⟩
   refine ⟨_,rfl,_,_,rfl,rfl,_,rfl,?_⟩
   refine x8 (fun h1=>?_) (fun h1=>z0 out)
   have h1:=of_decide_eq_true h1
   refine ⟨_,rfl,_,_,rfl,rfl,_,rfl,?_⟩
   refine x8 (fun h2=>?_) (fun h2=>out)
   have h2:=of_decide_eq_true h2
   refine ⟨_,rfl,_,rfl,_,_,rfl,rfl,.inl ⟨by decide,by decide⟩,_,_,rfl,rfl,t,_,rfl,fs.tape,by omega,by omega,fun r H1 hr0 hr1 T1 E1=>?_⟩
   refine ⟨r,rfl,by omega,by omega,y9 (lo:=0) (n:=r.toNat) (fun i σ H2=>∃ (ps':List V) (o5 o6:Option V),σ=[some (.ref t),some (.bl g),some (.int way),some (.int m),some (.ref l),o5,o6,o7,o8]∧FS t H H2 l ps' m∧ps'.length≤i)
    ⟨[],o5,o6,rfl,fs.draw T1 E1,Nat.le_refl _⟩ ?_ ?_⟩
   ·rintro i σ H2 hi ⟨ps',o5',o6',rfl,fs',hl'⟩
    refine ⟨_,rfl,_,rfl,t,_,rfl,fs'.tape,by omega,by omega,fun a H3 ha0 ha1 T3 E3=>?_⟩
    have fs3:=fs'.draw T3 E3
    refine ⟨_,rfl,.inl ⟨rfl,_,SqL.of fs3.at'⟩,_,rfl,_,rfl,_,_,rfl,rfl,_,rfl,_,rfl,_,_,rfl,rfl,t,_,rfl,fs3.tape,by omega,by omega,fun b H4 hb0 hb1 T4 E4=>?_⟩
    have fs4:=fs3.draw T4 E4
    refine ⟨_,_,rfl,rfl,_,rfl,_,_,rfl,rfl,(show (0:Int)<m by omega),by show 2≤sizeLine;decide,fun p hp=>?_⟩
    have fs5:=fs4.new (o := .tup [.int a,.int ((a+1+b) % m)]) hp
    have e:=Jx (x:=a+1+b) (m:=m) (by omega) (by omega)
    have pr:PairAt (upd H4 p (.tup [.int a,.int ((a+1+b) % m)])) m (.ref p):=y7 ha0 ha1 (by rw [e];split<;>omega) (by rw [e];split<;>omega) (by rw [e];split<;>omega)
    refine ⟨l,ps',_,rfl,rfl,fs5.at',i9 (by omega),?_⟩
    exact ⟨ps'++[.ref p],_,_,rfl,fs5.set (fs5.prs.app (.one pr)),by rw [List.length_append,List.length_singleton];omega⟩
   ·rintro σ H2 ⟨ps',o5',o6',rfl,fs',hl'⟩
    exact kn _ _ ⟨way,m,l,ps',_,_,_,_,rfl,fs',by omega,hm0,hm1,hw0,hw1,fun h=>absurd h (by omega)⟩
  case i2=>
   rintro D σ Hx ⟨⟨way,m,l,ps,o5,o6,o7,o8,rfl,fs,hl,hm0,hm1,hw0,hw1,hj⟩,kn⟩
   have out:¬ way=3∨ps=[]→D.nx [some (.ref t),some (.bl g),some (.int way),some (.int m),some (.ref l),o5,o6,o7,o8] Hx:=fun hn=>kn _ _ ⟨way,m,l,ps,_,_,_,_,rfl,fs,hl,hm0,hm1,hw0,hw1,fun h=>by
    rcases hn with hn | hn
    ·exact hj (by omega)
    ·exact hn⟩
   refine ⟨_,rfl,rfl,_,rfl,?_⟩
   refine x8 (fun h1=>?_) (fun h1=>z0 (out (.inl (neI h1))))
   have h1:=eqI h1
   refine ⟨_,rfl,_,_,rfl,rfl,_,rfl,?_⟩
   refine x8 (fun h2=>?_) (fun h2=>out (.inr (hj (by omega))))
   have h2:=of_decide_eq_true h2
   refine ⟨_,rfl,m,rfl,by omega,by omega,fun Dl hD=>v9 (lo:=0) (n:=m.toNat) (fun i ys H2=>FS t H H2 Dl ys m∧ys.length≤i) ⟨FS.lay fs.tape fs.ext T0 hD .nil,Nat.le_refl _⟩ ?_ ?_⟩
   ·rintro i ys H2 hi ⟨fs',hl'⟩
    refine D3 ?_
    refine ⟨_,rfl,_,rfl,_,_,rfl,rfl,_,rfl,_,_,rfl,rfl,(show (0:Int)<m by omega),by show 2≤sizeLine;decide,fun p hp=>?_⟩
    have fs5:=fs'.new (o := .tup [.int (0+(i:Int)),.int ((0+(i:Int)+1) % m)]) hp
    have e:=Jx (x:=0+(i:Int)+1) (m:=m) (by omega) (by omega)
    have pr:PairAt (upd H2 p (.tup [.int (0+(i:Int)),.int ((0+(i:Int)+1) % m)])) m (.ref p):=y7 (by omega) (by omega) (by rw [e];split<;>omega) (by rw [e];split<;>omega) (by rw [e];split<;>omega)
    exact ⟨fs5.at',i9 (by omega),fs5.set (fs5.prs.app (.one pr)),by rw [List.length_append,List.length_singleton];omega⟩
   ·rintro ys H2 ⟨fs',hl'⟩
    refine ⟨_,rfl,_,rfl,_,_,rfl,rfl,t,_,rfl,fs'.tape,by omega,by omega,fun b H4 hb0 hb1 T4 E4=>?_⟩
    have fs4:=fs'.draw T4 E4
    refine ⟨_,_,rfl,rfl,by show 2≤sizeLine;decide,fun p hp=>?_⟩
    have fs5:=fs4.new (o := .tup [.int 0,.int (b+1)]) hp
    have pr:PairAt (upd H4 p (.tup [.int 0,.int (b+1)])) m (.ref p):=y7 (by omega) (by omega) (by omega) (by omega) (by omega)
    refine ⟨by show 1≤sizeLine;decide,fun l2 hl2=>?_⟩
    have fs6:=fs5.new (o := .lst [.ref p]) hl2
    refine ⟨Dl,l2,ys,[.ref p],rfl,rfl,fs6.at',b9,sl3 (by show ys.length+1≤1000;omega),fun q2 hq2=>?_⟩
    refine kn _ _ ⟨way,m,q2,ys++[.ref p],_,_,_,_,rfl,FS.lay fs6.tape fs6.ext T0 hq2 (fs6.prs.app (.one (pr.mono (.new hl2)))),by rw [List.length_append,List.length_singleton];omega,hm0,hm1,hw0,hw1,fun h=>absurd h (by omega)⟩
  case i3=>
   rintro D σ Hx ⟨⟨way,m,l,ps,o5,o6,o7,o8,rfl,fs,hl,hm0,hm1,hw0,hw1,hj⟩,kn⟩
   have out:¬ way=4∨ps=[]→D.nx [some (.ref t),some (.bl g),some (.int way),some (.int m),some (.ref l),o5,o6,o7,o8] Hx:=fun hn=>kn _ _ ⟨way,m,l,ps,_,_,_,_,rfl,fs,hl,hm0,hm1,hw0,hw1,fun h=>by
    rcases hn with hn | hn
    ·exact hj (by omega)
    ·exact hn⟩
   refine ⟨_,rfl,rfl,_,rfl,?_⟩
   refine x8 (fun h1=>?_) (fun h1=>z0 (out (.inl (neI h1))))
   have h1:=eqI h1
   refine ⟨_,rfl,_,_,rfl,rfl,_,rfl,?_⟩
   refine x8 (fun h2=>?_) (fun h2=>out (.inr (hj (by omega))))
   have h2:=of_decide_eq_true h2
   refine ⟨_,rfl,1,m,rfl,⟨by decide,by decide,by omega,by omega⟩,fun Dl hD=>v9 (lo:=1) (n:=(m - 1).toNat) (fun i ys H2=>FS t H H2 Dl ys m∧ys.length≤i) ⟨FS.lay fs.tape fs.ext T0 hD .nil,Nat.le_refl _⟩ ?_ ?_⟩
   ·rintro i ys H2 hi ⟨fs',hl'⟩
    refine D3 ?_
    refine ⟨_,rfl,by show 2≤sizeLine;decide,fun p hp=>?_⟩
    have fs5:=fs'.new (o := .tup [.int 0,.int (1+(i:Int))]) hp
    have pr:PairAt (upd H2 p (.tup [.int 0,.int (1+(i:Int))])) m (.ref p):=y7 (by omega) (by omega) (by omega) (by omega) (by omega)
    exact ⟨fs5.at',i9 (by omega),fs5.set (fs5.prs.app (.one pr)),by rw [List.length_append,List.length_singleton];omega⟩
   ·rintro ys H2 ⟨fs',hl'⟩
    exact kn _ _ ⟨way,m,Dl,ys,_,_,_,_,rfl,fs',by omega,hm0,hm1,hw0,hw1,fun h=>absurd h (by omega)⟩
  case i4=>
   rintro D σ Hx ⟨⟨way,m,l,ps,o5,o6,o7,o8,rfl,fs,hl,hm0,hm1,hw0,hw1,hj⟩,kn⟩
   refine ⟨_,rfl,rfl,_,rfl,?_⟩
   refine x8 (fun h1=>?_) (fun h1=>kn _ _ ⟨way,m,l,ps,_,_,_,_,rfl,fs,hl,hm0,hm1,hw0,hw1,fun h=>hj (by have:=neI h1;omega)⟩)
   have h1:=eqI h1
   obtain rfl:ps=[]:=hj (by omega)
   refine ⟨_,rfl,_,rfl,.inr ⟨g,rfl,_,_,rfl,rfl,m,_,rfl,?_⟩⟩
   obtain ⟨m',em,hm'0,hm'1⟩:∃ m':Int,(if (5+if g=true then (1:Int) else 0)<m then (5+if g=true then (1:Int) else 0) else m)=m'∧0≤m'∧m'≤6:=⟨_,rfl,by split<;>(try split)<;>omega,by split<;>(try split)<;>omega⟩
   rw [em]
   refine ⟨_,rfl,m',rfl,by omega,by omega,y9 (lo:=0) (n:=m'.toNat) (fun i σ H2=>∃ (ps':List V) (o7:Option V),σ=[some (.ref t),some (.bl g),some (.int way),some (.int m'),some (.ref l),o5,o6,o7,o8]∧FS t H H2 l ps' m'∧ps'.length≤6 * i)
    ⟨[],o7,rfl,fs.none,Nat.zero_le _⟩ ?_ ?_⟩
   ·rintro i σ H2 hi ⟨ps',o7',rfl,fs',hl'⟩
    refine ⟨_,rfl,.inl ⟨rfl,_,SqL.of fs'.at'⟩,_,rfl,0+(i:Int),rfl,by omega,by omega,fun Dl hD=>v9 (lo:=0) (n:=(0+(i:Int)).toNat) (fun k ys H3=>FS t H H3 l ps' m'∧FS t H H3 Dl ys m'∧ys.length≤k∧l≠Dl)
     ⟨fs'.new hD,FS.lay fs'.tape fs'.ext T0 hD .nil,Nat.le_refl _,d7 fs'.at' hD⟩ ?_ ?_⟩
    ·rintro k ys H3 hk ⟨fl,fd',hly,hne⟩
     refine D3 ?_
     refine ⟨_,rfl,_,rfl,by show 2≤sizeLine;decide,fun p hp=>?_⟩
     have f5:=fd'.new (o := .tup [.int (0+(k:Int)),.int (0+(i:Int))]) hp
     have g5:=fl.new (o := .tup [.int (0+(k:Int)),.int (0+(i:Int))]) hp
     have pr:PairAt (upd H3 p (.tup [.int (0+(k:Int)),.int (0+(i:Int))])) m' (.ref p):=y7 (by omega) (by omega) (by omega) (by omega) (by omega)
     exact ⟨f5.at',i9 (by omega),g5.oth f5.at' f5.fr hne f5.ne,f5.set (f5.prs.app (.one pr)),by rw [List.length_append,List.length_singleton];omega,hne⟩
    ·rintro ys H3 ⟨fl,fd',hly,hne⟩
     refine ⟨l,Dl,ps',ys,rfl,rfl,fl.at',fd'.at',sl3 (by omega),?_⟩
     exact ⟨ps'++ys,_,rfl,fl.set (fl.prs.app fd'.prs),by rw [List.length_append];omega⟩
   ·rintro σ H2 ⟨ps',o7',rfl,fs',hl'⟩
    exact kn _ _ ⟨way,m',l,ps',_,_,_,_,rfl,fs',by omega,hm'0,by omega,hw0,hw1,fun h=>absurd h (by omega)⟩
  case i5=>
   rintro D σ Hx ⟨⟨way,m,l,ps,o5,o6,o7,o8,rfl,fs,hl,hm0,hm1,hw0,hw1,hj⟩,kn⟩
   refine ⟨_,rfl,rfl,_,rfl,?_⟩
   refine x8 (fun h1=>?_) (fun h1=>kn _ _ ⟨way,m,l,ps,_,_,_,_,rfl,fs,hl,hm0,hm1,hw0,hw1,fun h=>hj (by have:=neI h1;omega)⟩)
   have h1:=eqI h1
   obtain rfl:ps=[]:=hj (by omega)
   refine ⟨_,rfl,_,_,rfl,rfl,⟨by decide,by decide⟩,_,_,rfl,rfl,?_⟩
   obtain ⟨sd,es,hs0,hs1⟩:∃ sd:Int,1+m / 2=sd∧1≤sd∧sd≤7:=⟨_,rfl,by omega,by omega⟩
   refine ⟨_,rfl,sd,congrArg (fun z=>[V.int z]) es,by omega,by omega,y9 (lo:=0) (n:=sd.toNat) (fun i σ H2=>∃ (ps':List V) (o7:Option V),σ=[some (.ref t),some (.bl g),some (.int way),some (.int m),some (.ref l),o5,o6,o7,some (.int sd)]∧FS t H H2 l ps' m∧ps'.length≤5 * i)
    ⟨[],o7,by rw [← es];rfl,fs,Nat.zero_le _⟩ ?_ ?_⟩
   ·rintro i σ H2 hi ⟨ps',o7',rfl,fs',hl'⟩
    refine ⟨_,rfl,.inl ⟨rfl,_,SqL.of fs'.at'⟩,_,rfl,_,rfl,sd,m,rfl,⟨by omega,by omega,by omega,by omega⟩,fun Dl hD=>v9 (lo:=sd) (n:=(m - sd).toNat) (fun k ys H3=>FS t H H3 l ps' m∧FS t H H3 Dl ys m∧ys.length≤k∧l≠Dl)
     ⟨fs'.new hD,FS.lay fs'.tape fs'.ext T0 hD .nil,Nat.le_refl _,d7 fs'.at' hD⟩ ?_ ?_⟩
    ·rintro k ys H3 hk ⟨fl,fd',hly,hne⟩
     refine ⟨_,rfl,t,3,rfl,fd'.tape,by decide,by decide,fun r H4 hr0 hr1 T4 E4=>?_⟩
     have fl4:=fl.draw T4 E4
     have fd4:=fd'.draw T4 E4
     refine ⟨_,_,rfl,rfl,_,rfl,?_⟩
     refine x8 (fun _=>?_) (fun _=>⟨fl4,fd4,by omega,hne⟩)
     refine ⟨_,rfl,_,rfl,by show 2≤sizeLine;decide,fun p hp=>?_⟩
     have f5:=fd4.new (o := .tup [.int (0+(i:Int)),.int (sd+(k:Int))]) hp
     have g5:=fl4.new (o := .tup [.int (0+(i:Int)),.int (sd+(k:Int))]) hp
     have pr:PairAt (upd H4 p (.tup [.int (0+(i:Int)),.int (sd+(k:Int))])) m (.ref p):=y7 (by omega) (by omega) (by omega) (by omega) (by omega)
     exact ⟨f5.at',i9 (by omega),g5.oth f5.at' f5.fr hne f5.ne,f5.set (f5.prs.app (.one pr)),by rw [List.length_append,List.length_singleton];omega,hne⟩
    ·rintro ys H3 ⟨fl,fd',hly,hne⟩
     refine ⟨l,Dl,ps',ys,rfl,rfl,fl.at',fd'.at',sl3 (by omega),?_⟩
     exact ⟨ps'++ys,_,rfl,fl.set (fl.prs.app fd'.prs),by rw [List.length_append];omega⟩
   ·rintro σ H2 ⟨ps',o7',rfl,fs',hl'⟩
    exact kn _ _ ⟨way,m,l,ps',_,_,_,_,rfl,fs',by omega,hm0,hm1,hw0,hw1,fun h=>absurd h (by omega)⟩
  case i6=>
   rintro D σ Hx ⟨⟨way,m,l,ps,o5,o6,o7,o8,rfl,fs,hl,hm0,hm1,hw0,hw1,hj⟩,kn⟩
   refine ⟨_,rfl,rfl,_,rfl,?_⟩
   refine x8 (fun h1=>?_) (fun h1=>kn _ _ ⟨way,m,l,ps,_,_,_,_,rfl,fs,hl,hm0,hm1,hw0,hw1,fun h=>hj (by omega)⟩)
   have h1:=eqI h1
   obtain rfl:ps=[]:=hj (by omega)
   refine ⟨_,rfl,_,_,rfl,rfl,⟨by decide,by decide⟩,_,_,rfl,rfl,?_⟩
   obtain ⟨m',em,hm'0,hm'1⟩:∃ m':Int,3+m / 3=m'∧3≤m'∧m'≤12:=⟨_,rfl,by omega,by omega⟩
   refine ⟨3,rfl,by decide,by decide,y9 (lo:=0) (n:=3) (fun i σ H2=>∃ (ps':List V) (o7:Option V),σ=[some (.ref t),some (.bl g),some (.int way),some (.int m'),some (.ref l),o5,o6,o7,o8]∧FS t H H2 l ps' m'∧ps'.length≤3 * i)
    ⟨[],o7,by rw [← em];rfl,fs.none,Nat.zero_le _⟩ ?_ ?_⟩
   ·rintro i σ H2 hi ⟨ps',o7',rfl,fs',hl'⟩
    refine ⟨_,rfl,.inl ⟨rfl,_,SqL.of fs'.at'⟩,_,rfl,_,rfl,_,_,rfl,rfl,_,_,rfl,rfl,(by show (0:Int)<3;decide),by show 2≤sizeLine;decide,fun p hp=>?_⟩
    have f5:=fs'.new (o := .tup [.int (0+(i:Int)),.int ((0+(i:Int)+1) % 3)]) hp
    have pr:PairAt (upd H2 p (.tup [.int (0+(i:Int)),.int ((0+(i:Int)+1) % 3)])) m' (.ref p):=y7 (by omega) (by omega) (by omega) (by omega) (by omega)
    refine ⟨by show 1≤sizeLine;decide,fun l2 hl2=>?_⟩
    have f6:=f5.new (o := .lst [.ref p]) hl2
    refine ⟨_,rfl,t,3,rfl,f6.tape,by decide,by decide,fun b H4 hb0 hb1 T4 E4=>?_⟩
    have f7:=f6.draw T4 E4
    have hl2':H4 l2=some (.lst [.ref p]):=E4 _ _ (f5.tape.ne hl2) b9
    have pr7:PairAt H4 m' (.ref p):=(pr.mono (.new hl2)).mono (E4.keepT f6.tape)
    refine ⟨_,_,rfl,rfl,l2,1+b,[.ref p],rfl,rfl,hl2',by omega,by omega,sl3 (by show 1 * (1+b).toNat≤1000;omega),fun q2 hq2=>?_⟩
    have f8:=f7.new (o := .lst (List.replicate (1+b).toNat [V.ref p]).flatten) hq2
    have hlen:(List.replicate (1+b).toNat [V.ref p]).flatten.length=(1+b).toNat:=by rw [F2];simp
    refine ⟨l,q2,ps',_,rfl,rfl,f8.at',b9,sl3 (by rw [hlen];omega),?_⟩
    refine ⟨_,_,rfl,f8.set (f8.prs.app fun v hv=>?_),by rw [List.length_append,hlen];omega⟩
    obtain ⟨x,hx,hvx⟩:=List.mem_flatten.mp hv
    have ex:=List.eq_of_mem_replicate hx
    subst ex
    rw [List.mem_singleton.mp hvx]
    exact pr7.mono (.new hq2)
   ·rintro σ H2 ⟨ps',o7',rfl,fs',hl'⟩
    exact kn _ _ ⟨way,m',l,ps',_,_,_,_,rfl,fs',by omega,by omega,hm'1,hw0,hw1,fun h=>absurd h (by omega)⟩
  -- the whole
  refine ⟨_,rfl,t,8,rfl,T0,by decide,by decide,fun way H1 hw0 hw1 T1 E1=>?_⟩
  refine ⟨_,rfl,t,7,rfl,T1,by decide,by decide,fun a H2 ha0 ha1 T2 E2=>?_⟩
  refine ⟨_,rfl,t,6,rfl,T2,by decide,by decide,fun b H3 hb0 hb1 T3 E3=>?_⟩
  refine ⟨_,_,rfl,rfl,by show 2≤sizeLine;decide,fun p hp=>?_⟩
  have E4:Ext t H (upd H3 p (.lst [.int a,.int (7+b)])):=((E1.trans E2).trans E3).new hp
  have T4:Tape (upd H3 p (.lst [.int a,.int (7+b)])) t:=T3.new hp
  refine ⟨_,rfl,.inr ⟨g,rfl,?_⟩⟩
  obtain ⟨m,hm,hm0,hm1⟩:∃ m:Int,atI [V.int a,V.int (7+b)] (if g=true then 1 else 0)=some (.int m)∧0≤m∧m≤12:=by
   cases g
   ·exact ⟨a,rfl,by omega,by omega⟩
   ·exact ⟨7+b,rfl,by omega,by omega⟩
  refine ⟨p,_,_,_,rfl,rfl,SqL.of b9,hm,?_⟩
  refine ⟨by show 0≤sizeLine;decide,fun l hl=>?_⟩
  refine ⟨⟨way,m,l,[],none,none,none,none,rfl,FS.lay T4 E4 T0 hl .nil,Nat.zero_le _,hm0,hm1,hw0,hw1,fun _=>rfl⟩,fun _ _ h=>⟨h,fun _ _ h=>⟨h,fun _ _ h=>⟨h,fun _ _ h=>⟨h,fun _ _ h=>⟨h,?_⟩⟩⟩⟩⟩⟩
  rintro σ H5 ⟨way,m,l,ps,o5,o6,o7,o8,rfl,fs,hl,hm0,hm1,_,_,_⟩
  refine ⟨_,rfl,_,rfl,by show 2≤sizeLine;decide,fun p5 hp5=>?_⟩
  exact q p5 l m ps _ (fs.ext.free hp5 (fs.tape.ne hp5)) b9 (fs.new hp5) hl hm0 hm1
end
open PySem L2
section
variable {X:Cx} {K:PySem.W.Frag}
theorem AC (hK:X.K=K):IxR X (Ir K):=hK▸u5
theorem HZ (hK:X.K=K):IxR X (Jr K):=hK▸m8
theorem D4 (hK:X.K=K):A2 X (.builtin "len") (fun xs H Q=>∃ p ys,xs=[.ref p]∧(SqL K H p ys∨SqT K H p ys)∧Q (.int ys.length) H):=hK▸l7
theorem DV (hK:X.K=K):OpR X (compareOp .In) (rIn K false):=hK▸B8
theorem Bu (hK:X.K=K):OpR X (compareOp .NotIn) (rIn K true):=hK▸Ap
end
noncomputable abbrev D5:Stmt:=top 31
noncomputable abbrev B9:Stmt:=top 32
structure GS (t:Addr) (H0 H:Hp) (l:Addr) (vs:List V):Prop where
 tape:Tape H t
 ext:Ext t H0 H
 fr:H0 l=none
 ne:t≠l
 at':H l=some (.lst vs)
section
variable {t l:Addr} {H0 H H':Hp} {ps:List V}
theorem GS.draw (h:GS t H0 H l ps) (T:Tape H' t) (e:Ext t H H'):GS t H0 H' l ps:=⟨T,h.ext.trans e,h.fr,h.ne,e _ _ h.ne.symm h.at'⟩
theorem GS.new {p:Addr} {o:HO} (h:GS t H0 H l ps) (n:H p=none):GS t H0 (upd H p o) l ps:=
 ⟨h.tape.new n,h.ext.new n,h.fr,h.ne,by rw [j2 (d7 h.at' n)];exact h.at'⟩
theorem GS.set {qs:List V} (h:GS t H0 H l ps):GS t H0 (upd H l (.lst qs)) l qs:=⟨h.tape.upd h.ne,h.ext.own h.fr,h.fr,h.ne,b9⟩
theorem GS.oth {D:Addr} {xs:List V} {o:HO} (h:GS t H0 H l ps) (n0:H0 D=none) (hne:l≠D) (tne:t≠D):GS t H0 (upd H D o) l ps:=
 ⟨h.tape.upd tne,h.ext.own n0,h.fr,h.ne,by rw [j2 hne];exact h.at'⟩
theorem GS.lay {p:Addr} {qs:List V} (T:Tape H t) (e:Ext t H0 H) (n:H p=none):GS t H0 (upd H p (.lst qs)) p qs:=⟨T.new n,e.new n,e.free n (T.ne n),(T.ne n).symm,b9⟩
theorem FS.up {H1:Hp} {m:Int} (h:FS t H H' l ps m) (e:Ext t H0 H):FS t H0 H' l ps m:=⟨h.tape,e.trans h.ext,e.free h.fr h.ne.symm,h.ne,h.at',h.prs⟩
end
noncomputable def TieAt (H:Hp) (m:Int) (v:V):Prop:=∃ q i j,v = .ref q∧H q=some (.tup [.int i,.int j])∧0≤i∧i<j∧j<m
noncomputable def Ties (H:Hp) (m:Int) (vs:List V):Prop:=∀ v∈vs,TieAt H m v
theorem TieAt.mono {H H':Hp} {m:Int} {v:V} (h:TieAt H m v) (k:KeepT H H'):TieAt H' m v:=let ⟨q,i,j,e,h,r⟩:=h;⟨q,i,j,e,k _ _ h,r⟩
theorem Ties.mono {H H':Hp} {m:Int} {vs:List V} (h:Ties H m vs) (k:KeepT H H'):Ties H' m vs:=fun v hv=>(h v hv).mono k
noncomputable def WebAt (H:Hp) (w:Addr) (m:Int) (vs:List V):Prop:=∃ ts,H w=some (.tup [.int m,.ref ts])∧H ts=some (.tup vs)∧Ties H m vs∧vs.length≤61∧0≤m∧m≤12
noncomputable def GU:Sp:=fun vs H Q _=>∃ (t:Addr) (g:Bool),vs=[.ref t,.bl g]∧Tape H t∧∀ (w:Addr) (m:Int) (vs:List V) (H':Hp),WebAt H' w m vs→Tape H' t→Ext t H H'→Q (.ref w) H'
noncomputable def HueV (v:V):Prop:=v = .non∨∃ n:Int,v = .int n∧0≤n
theorem HueV.flat {v:V} (h:HueV v):u8 v=true:=by
 rcases h with rfl | ⟨n,rfl,_⟩<;>rfl
theorem Bv {vs:List V} (h:∀ v∈vs,HueV v):vs.all u8=true:=List.all_eq_true.mpr fun v hv=>(h v hv).flat
theorem Ha {n:Int} {vs:List V} (h:∀ v∈vs,HueV v) (e:inV (.int n) vs=true):V.int n∈vs:=by
 unfold inV at e
 obtain ⟨y,hy,e⟩:=List.any_eq_true.mp e
 rcases h y hy with rfl | ⟨k,rfl,_⟩
 ·cases e
 ·have:k=n:=by simpa [eqV] using e
  rw [← this];exact hy
theorem GV:∀ (n:Nat) (lo:Int) (ys:List V),ys.length≤n→∃ i:Nat,i≤n∧V.int (lo+i)∉ys
 | 0,lo,ys,h=>⟨0,Nat.le_refl _,by
    have:ys=[]:=List.length_eq_zero_iff.mp (by omega)
    rw [this];simp⟩
 | n+1,lo,ys,h=>by
   by_cases hm:V.int lo∈ys
   ·have hl:(ys.erase (.int lo)).length≤n:=by rw [List.length_erase_of_mem hm];omega
    obtain ⟨i,hi,hn⟩:=GV n (lo+1) (ys.erase (.int lo)) hl
    refine ⟨i+1,by omega,fun hx=>hn ?_⟩
    have e:lo+((i+1:Nat):Int)=lo+1+(i:Int):=by omega
    rw [e] at hx
    exact (List.mem_erase_of_ne (by intro z;injection z with z;omega)).mpr hx
   ·exact ⟨0,Nat.zero_le _,by simpa using hm⟩
theorem J2:((["_law_turn"]:List Str)++(["_law_pairs","_law_tape_here"]:List Str)).Nodup:=by decide +kernel
theorem Hb:((["_law_k"]:List Str)++(["_law_found","_law_tie","_law_web_here"]:List Str)).Nodup:=by decide +kernel
theorem K0:((["_law_hue"]:List Str)++(["_law_taken"]:List Str)).Nodup:=by decide +kernel
section
variable {P:Program} {w:World} {K:PySem.W.Frag} {mg:Str→Option Value} {base:Heap}
noncomputable abbrev J3 (P:Program) (w:World) (K:PySem.W.Frag) (mg:Str→Option Value) (base:Heap):Prop:=Callee P w K mg base 2 "_law_pairs_by" ["_law_tape_here","_law_great"] DU
theorem scWeb:FnScope ["_law_tape_here","_law_great","_law_many","_law_pairs","_law_ties","_law_one","_law_other"] ["_law_tape_here","_law_great"] (defScope Fk):=⟨rfl,rfl,rfl,by decide +kernel,rfl,by decide +kernel,by decide +kernel⟩
noncomputable def WSt (t:Addr) (g:Bool) (H0:Hp) (B:Nat) (σ:St) (H:Hp):Prop:=∃ (m:Int) (l:Addr) (ps:List V),σ=[some (.ref t),some (.bl g),some (.int m),some (.ref l),none,none,none]∧FS t H0 H l ps m∧ps.length≤B∧0≤m∧m≤12
theorem J4 {f:Addr} {fd:FuncData} (F:Fun K "_law_web" "_law_web" Fk f fd) (T:Txt K mg) (CD:Du P w K mg base) (CP:J3 P w K mg base):FnOk P w K mg base CX0 3 f fd ["_law_tape_here","_law_great"] GU:=by
 refine F.ok scWeb (fun vs H Q E h=>?_) (fun cdv A outer s H vs Q E hr h=>?_)
 ·obtain ⟨t,g,rfl,_⟩:=h;rfl
 ·obtain ⟨t,g,rfl,T0,q⟩:=h
  have hr1:Room 1 _:=hr.mono (by decide)
  have hu:=hr.units0
  refine ⟨_,c9 (Bk (j9 CP hr (by rfl) (b7 (pv 0) (b7 (pv 1) b8))) (BP rfl (l9 (i7 (i:=2) scWeb.nd rfl (Or.inl rfl)) (l9 (i7 (i:=3) scWeb.nd rfl (Or.inr rfl)) w6))))
   (c9 (As (tTo (WSt t g H 58) (WSt t g H 58)) (n6 (j7 (J0 hu) (pv 3) (t5 b8) (m7 _))
     (g9 (Bk (j9 CP hr (by rfl) (b7 (pv 0) (b7 (pv 1) b8))) (BP rfl (l9 (i7 (i:=2) scWeb.nd rfl (Or.inl rfl)) (l9 (i7 (i:=3) scWeb.nd rfl (Or.inr rfl)) w6))))) i8) ?i1)
   (c9 (As (tTo (WSt t g H 58) (WSt t g H 61)) (n6 (B0 (j7 (EU hu) (pv 3) (t5 b8) (m7 _)) (Aa (j7 AE (j9 CD hr1 (by rfl) (b7 (pv 0) (b7 d0 b8))) d0 (m7 _)))).pt
     (g9 (j8 (i:=3) scWeb.nd rfl (Or.inr rfl) (l6 Aq (pv 3) (v0 ["_law_turn"] ["_law_pairs","_law_tape_here"] [3,0] (t7 (by rfl) T.range (b7 (l6 t9 d0 (j9 CD hr1 (by rfl) (b7 (pv 0) (b7 d0 b8)))) b8)) (fun _ _ _ _ _=>i7 (i:=0) J2 rfl (Or.inl rfl)) (fun _ _ _ _ _=>A9)
       (fun _ _ _ _ _=>j5 (AC (K:=K) rfl) (pv 1) (j9 CD hr1 (by rfl) (b7 (pv 2) (b7 (d4 (D4 (K:=K) rfl) (by rfl) T.len AF (b7 (pv 1) b8)) b8))) (fun _ _=>rfl)))))) i8) ?i2)
   (c9 (j8 (i:=4) scWeb.nd rfl (Or.inl rfl) (t5 b8))
   (c9 (AH PassesOwn.never rfl (An (pv 3)) (BP rfl (l9 (i7 (i:=5) scWeb.nd rfl (Or.inl rfl)) (l9 (i7 (i:=6) scWeb.nd rfl (Or.inl rfl)) w6)))
     (g9 (v6 (Af PySem.F.plainAttrs_list PySem.F.slot_list_insert PySem.F.type_list_insert Fh (pv 4) (b7 (j9 CD hr1 (by rfl) (b7 (pv 0) (b7 (l6 t9 (d4 l7 (by rfl) T.len AF (b7 (pv 4) b8)) d0) b8)))
       (b7 (u7 (b7 (d4 (B6 rfl) (by rfl) T.min F6 (b7 (pv 5) (b7 (pv 6) b8))) (b7 (d4 (FX rfl) (by rfl) T.max GR (b7 (pv 5) (b7 (pv 6) b8))) b8))) b8))))))
   (g9 (l8 (u7 (b7 (pv 2) (b7 (x0 Ck (by rfl) T.tuple AB (b7 (pv 4) b8)) b8))))))))),?_⟩
  case i1=>
   rintro D σ Hx ⟨⟨m,l,ps,rfl,fs,hl,hm0,hm1⟩,kn⟩
   refine ⟨_,rfl,by show 0≤sizeLine;decide,fun p hp=>?_⟩
   have f1:=fs.new (o := .lst []) hp
   refine ⟨l,p,ps,[],rfl,rfl,SqL.of f1.at',SqL.of b9,.inr (.inr rfl),_,rfl,?_⟩
   refine x8 (fun _=>?_) (fun _=>kn _ _ ⟨m,l,ps,rfl,f1,hl,hm0,hm1⟩)
   refine ⟨_,rfl,_,rfl,t,g,rfl,f1.tape,fun p2 l2 m2 ps2 H2 hp2 hH2 fs2 hl2 h0 h1=>?_⟩
   refine ⟨p2,_,rfl,SqT.of hH2,rfl,_,_,rfl,_,_,rfl,rfl,?_⟩
   exact kn _ _ ⟨m2,l2,ps2,rfl,FS.up (H1:=H) fs2 f1.ext,hl2,h0,h1⟩
  case i2=>
   rintro D σ Hx ⟨⟨m,l,ps,rfl,fs,hl,hm0,hm1⟩,kn⟩
   refine ⟨_,rfl,by show 0≤sizeLine;decide,fun p hp=>?_⟩
   have f1:=fs.new (o := .lst []) hp
   refine ⟨l,p,ps,[],rfl,rfl,SqL.of f1.at',SqL.of b9,.inr (.inr rfl),_,rfl,?_⟩
   refine x8 (fun hne=>?_) (fun _=>z0 (kn _ _ ⟨m,l,ps,rfl,f1,by omega,hm0,hm1⟩))
   have hps:0<ps.length:=by
    cases ps with
    | nil=>exact absurd hne (by decide)
    | cons _ _=>simp
   refine ⟨_,rfl,t,4,rfl,f1.tape,by decide,by decide,fun r H2 hr0 hr1' T2 E2=>?_⟩
   have f2:=f1.draw T2 E2
   refine ⟨rfl,_,rfl,?_⟩
   refine x8 (fun _=>?_) (fun _=>kn _ _ ⟨m,l,ps,rfl,f2,by omega,hm0,hm1⟩)
   refine ⟨_,rfl,_,rfl,t,3,rfl,f2.tape,by decide,by decide,fun b H3 hb0 hb1 T3 E3=>?_⟩
   have f3:=f2.draw T3 E3
   refine ⟨_,_,rfl,rfl,1+b,rfl,by omega,by omega,fun Dl hD=>v9 (lo:=0) (n:=(1+b).toNat) (fun k ys H4=>FS t H H4 l ps m∧FS t H H4 Dl ys m∧ys.length≤k∧l≠Dl)
    ⟨f3.new hD,FS.lay f3.tape f3.ext T0 hD .nil,Nat.le_refl _,d7 f3.at' hD⟩ ?_ ?_⟩
   ·rintro k ys H4 hk ⟨fl,fd',hly,hne⟩
    refine D3 ?_
    refine ⟨_,rfl,_,rfl,_,rfl,l,ps,rfl,.inl (SqL.of fl.at'),t,_,rfl,fl.tape,by omega,by omega,fun c H5 hc0 hc1 T5 E5=>?_⟩
    have fl5:=fl.draw T5 E5
    have fd5:=fd'.draw T5 E5
    have hget:ps[c.toNat]?=some (ps[c.toNat]'(by omega)):=by simp
    refine ⟨l,ps,c,_,rfl,rfl,SqL.of fl5.at',(by have:=p7 hget;rwa [Int.toNat_of_nonneg hc0] at this),?_⟩
    exact ⟨fd5.at',i9 (by omega),fl5.oth fd5.at' fd5.fr hne fd5.ne,fd5.set (fd5.prs.app (.one (fl5.prs _ (List.getElem_mem _)))),by rw [List.length_append,List.length_singleton];omega,hne⟩
   ·rintro ys H4 ⟨fl,fd',hly,hne⟩
    refine ⟨l,Dl,ps,ys,rfl,rfl,fl.at',fd'.at',sl3 (by omega),fun q2 hq2=>?_⟩
    exact kn _ _ ⟨m,q2,ps++ys,rfl,FS.lay fl.tape fl.ext T0 hq2 (fl.prs.app fd'.prs),by rw [List.length_append];omega,hm0,hm1⟩
  -- the whole
  refine ⟨_,rfl,_,rfl,t,g,rfl,T0,fun p2 l2 m2 ps2 H2 hp2 hH2 fs2 hl2 h0 h1=>?_⟩
  refine ⟨p2,_,rfl,SqT.of hH2,rfl,_,_,rfl,_,_,rfl,rfl,?_⟩
  refine ⟨⟨m2,l2,ps2,rfl,fs2,hl2,h0,h1⟩,fun _ _ h=>⟨h,?_⟩⟩
  rintro σ H3 ⟨m,l,ps,rfl,fs,hl,hm0,hm1⟩
  refine ⟨by show 0≤sizeLine;decide,fun d hd=>?_⟩
  have f4:=fs.new (o := .lst []) hd
  refine ⟨_,rfl,l,rfl,⟨_,SqL.of f4.at'⟩,BY (K:=K) (a:=l) (xs:=ps) (fun i σ H4=>∃ (vs:List V) (o5 o6:Option V),σ=[some (.ref t),some (.bl g),some (.int m),some (.ref l),some (.ref d),o5,o6]∧FS t H H4 l ps m∧GS t H H4 d vs∧Ties H4 m vs∧vs.length=i)
   ⟨[],none,none,rfl,f4,GS.lay fs.tape fs.ext hd,(fun _ h=>nomatch h),rfl⟩ (fun i σ H4 _ ⟨_,_,_,_,f,_⟩=>SqL.of f.at') ?_ ?_⟩
  ·rintro i x σ H4 hx ⟨vs,o5,o6,rfl,fl,gs,ts,hvl⟩
   have hil:i<ps.length:=(List.getElem?_eq_some_iff.mp hx).1
   obtain ⟨qa,a,b,rfl,hqa,ha0,ha1,hb0,hb1,hab⟩:=fl.prs x (List.mem_of_getElem? hx)
   have hne:l≠d:=d7 fs.at' hd
   refine ⟨qa,_,rfl,SqT.of hqa,rfl,_,_,rfl,_,_,rfl,rfl,?_⟩
   refine ⟨_,rfl,.inl ⟨rfl,_,SqL.of gs.at'⟩,_,rfl,_,rfl,d,vs,rfl,.inl (SqL.of gs.at'),_,_,rfl,rfl,t,_,rfl,gs.tape,by omega,by omega,fun c H5 hc0 hc1 T5 E5=>?_⟩
   have fl5:=fl.draw T5 E5
   have gs5:=gs.draw T5 E5
   have ts5:=ts.mono (E5.keepT gs.tape)
   refine ⟨_,rfl,_,rfl,a,b,rfl,_,rfl,_,rfl,a,b,rfl,by show 2≤sizeLine;decide,fun p hp=>?_⟩
   have gs6:=gs5.new (o := .tup [.int (if b<a then b else a),.int (if b>a then b else a)]) hp
   have fl6:=fl5.new (o := .tup [.int (if b<a then b else a),.int (if b>a then b else a)]) hp
   have tn:TieAt (upd H5 p (.tup [.int (if b<a then b else a),.int (if b>a then b else a)])) m (.ref p):=⟨p,_,_,rfl,b9,by split<;>omega,by split<;>split<;>omega,by split<;>omega⟩
   refine ⟨d,vs,c,_,rfl,rfl,gs6.at',hc0,by omega,i9 (by omega),?_⟩
   refine ⟨vs.take c.toNat ++ .ref p::vs.drop c.toNat,_,_,rfl,fl6.oth gs6.at' gs6.fr hne gs6.ne,gs6.set,fun v hv=>?_,?_⟩
   ·refine TieAt.mono ?_ (.lst gs6.at')
    rcases List.mem_append.mp hv with hv | hv
    ·exact (ts5 v (List.mem_of_mem_take hv)).mono (.new hp)
    ·rcases List.mem_cons.mp hv with rfl | hv
     ·exact tn
     ·exact (ts5 v (List.mem_of_mem_drop hv)).mono (.new hp)
   ·rw [List.length_append,List.length_cons,List.length_take,List.length_drop];omega
  ·rintro σ H4 ⟨vs,o5,o6,rfl,fl,gs,ts,hvl⟩
   refine ⟨_,rfl,_,rfl,d,vs,rfl,.inl ⟨SqL.of gs.at',fun l3 hl3=>?_⟩⟩
   refine ⟨by show 2≤sizeLine;decide,fun p3 hp3=>?_⟩
   have g3:=(gs.new (o := .tup vs) hl3).new (o := .tup [.int m,.ref l3]) hp3
   refine q p3 m vs _ ⟨l3,b9,?_,(ts.mono (.new hl3)).mono (.new hp3),by omega,hm0,hm1⟩ g3.tape g3.ext
   rw [j2 (d7 (b9 (H:=H4) (a:=l3) (o := .tup vs)) hp3)]
   exact b9
theorem J5:FnScope ["_law_web_here","_law_one","_law_other"] ["_law_web_here","_law_one","_law_other"] (defScope D5):=⟨rfl,rfl,rfl,by decide +kernel,rfl,by decide +kernel,by decide +kernel⟩
end
end Hue
set_option maxHeartbeats 1500000
namespace Hue
open PySem L2
theorem j3 {H:Hp} {b p:Addr} {o u:HO} (h:H b=some o) (n:H p=none):(upd H p u) b=some o:=by rw [j2 (d7 h n)];exact h
theorem AG {H:Hp} {b p:Addr} {o u:HO} (h:H b=some o) (n:b≠p):(upd H p u) b=some o:=by rw [j2 n];exact h
noncomputable def ktn (t c:String):Option Bool:=if (Value.type t == Value.type c)=true then some true else if PySem.W.kitMeta c=true then (fastBuiltinMro t).map (·.contains (.type c)) else none
theorem u3 {K:PySem.W.Frag} (t c:String):PySem.W.kitOne K (.type t) (.type c)=ktn t c:=rfl
theorem GW:ktn "list" "list"=some true:=by decide +kernel
theorem IW:ktn "list" "tuple"=some false:=by decide +kernel
theorem IY:ktn "int" "list"=some false:=by decide +kernel
theorem IZ:ktn "int" "tuple"=some false:=by decide +kernel
theorem Ia:ktn "int" "str"=some false:=by decide +kernel
theorem GX:ktn "int" "int"=some true:=by decide +kernel
theorem Dv:ktn "int" "bool"=some false:=by decide +kernel
theorem GY:ktn "tuple" "list"=some false:=by decide +kernel
theorem GZ:ktn "tuple" "tuple"=some true:=by decide +kernel
theorem Hc {K:PySem.W.Frag}:PySem.W.kitAny K (.type "list") (["list","tuple"].map Value.type)=some true:=by
 show (match PySem.W.kitOne K (.type "list") (.type "list") with | some true=>some true | some false=>PySem.W.kitAny K (.type "list") [.type "tuple"] | none=>none)=some true
 rw [u3,GW]
theorem BA {K:PySem.W.Frag} {t:String} (h1:ktn t "list"=some false) (h2:ktn t "tuple"=some false):PySem.W.kitAny K (.type t) (["list","tuple"].map Value.type)=some false:=by
 show (match PySem.W.kitOne K (.type t) (.type "list") with | some true=>some true | some false=>(match PySem.W.kitOne K (.type t) (.type "tuple") with | some true=>some true | some false=>some false | none=>none) | none=>none)=some false
 rw [u3,h1]
 show (match PySem.W.kitOne K (.type t) (.type "tuple") with | some true=>some true | some false=>some false | none=>none)=some false
 rw [u3,h2]
theorem u4 {X:Cx} {sts:List Stmt}:PSs X sts (fun _ _ _=>False):=fun _ _ _ _ _ _ h=>h.elim
theorem At {X:Cx} {K:PySem.W.Frag} {es:List Expr} {k:Nat} {t:TGs} {n:Nat} {pos:Pos} (hK:X.K=K) (hc:X.calm=true) (h:PGs X es t)
 (hn:(assignEach es X.env).length=n:=by rfl) (hst:(assignEach es X.env).findIdx? (·.1)=none:=by rfl):PG X (.Tuple es k pos) (Jh K n t):=hK▸BP hc h hn hst
theorem Fl {Q:VK} {c:Prop} [Decidable c] {H:Hp} (h:c) (q:Q (.bl true) H):Q (.bl (decide c)) H:=by rw [decide_eq_true h];exact q
theorem Cl {c A B:Prop} [Decidable c] (h:c) (a:A):if decide c=true then A else B:=by rw [if_pos (decide_eq_true h)];exact a
theorem Ah {c A B:Prop} [Decidable c] (h:¬ c) (a:B):if decide c=true then A else B:=by rw [if_neg (by rw [decide_eq_true_eq];exact h)];exact a
theorem h7 {H H':Hp} {p:Addr} {o:HO} (s:Same H H') (n:H' p=none):Same H (upd H' p o):=fun b u e=>j3 (s b u e) n
theorem t0 {H H':Hp} {p:Addr} {o:HO} (s:Same H H') (n:H p=none):Same H (upd H' p o):=fun b u e=>AG (s b u e) (d7 e n)
end Hue
namespace L2
open PySem PySem.Spec PyProof.Rows
noncomputable def srt (ns:List Int):List Int:=ns.mergeSort (fun a b=>decide (a≤b))
theorem Dw (ns:List Int):(srt ns).Perm ns:=List.mergeSort_perm _ _
theorem J6 (ns:List Int):(srt ns).Pairwise (·≤·):=by
 have h:=List.pairwise_mergeSort (le:=fun (a b:Int)=>decide (a≤b)) (fun a b c h1 h2=>by simp only [decide_eq_true_eq] at *;omega) (fun a b=>by simp only [Bool.or_eq_true,decide_eq_true_eq];omega) ns
 exact h.imp fun h=>of_decide_eq_true h
theorem J7 {ns ns':List Int} (hp:ns'.Perm ns) (hs:ns'.Pairwise (·≤·)):ns'=srt ns:=
 List.Perm.eq_of_pairwise (fun _ _ _ _ a b=>Int.le_antisymm a b) hs (J6 ns) (hp.trans (Dw ns).symm)
theorem Au:∀ {ns:List Int} {us:List Value},Vals (ns.map V.int) us→IntsAre us ns
 | [],_,.nil => .nil
 | _::_,_,.cons ⟨_,e⟩ t=>by subst e;exact .cons _ _ (Au t)
theorem D6:∀ {ns:List Int} {us:List Value},IntsAre us ns→Vals (ns.map V.int) us
 | _,_,.nil => .nil
 | _,_,.cons _ _ t => .cons ⟨_,rfl⟩ (D6 t)
theorem Ga:bootBuiltins "sorted"=some (.builtin "sorted"):=by decide +kernel
section
variable {X:Cx}
theorem Dx:A2 X (.builtin "sorted") (fun xs H Q=>∃ p ns,xs=[.ref p]∧SqL X.K H p (ns.map V.int)∧ns.length<64∧∀ l,H l=none→Q (.ref l) (upd H l (.lst ((srt ns).map V.int)))):=by
 intro pins s σ H xs us Q I r h
 obtain ⟨p,ns,rfl,hq,h64,q⟩:=h
 obtain ⟨u,rfl,rx⟩:=B1 r
 cases rx
 obtain ⟨its,r',pl,hz⟩:=I.list hq
 have hlen:=r'.length
 rw [List.length_map] at hlen
 refine sorted_ints pl.isList (Au r') (by omega) fun out ns' a1 a2 a3=>?_
 obtain ⟨e,he⟩:=sortedAll_at s.heap its out
 have en:=J7 a2 a3
 subst en
 refine ⟨.ref (s.heap.objs.size+1),_,I.laid (t':=s.toks) (fun b o h=>sortedAll_old h) (Nat.le_succ _) (show ObjOk X.prog X.w _ _ _ (.lst ((srt ns).map V.int)) from ⟨?_,out.toList,e,D6 a1,by simpa using he⟩),rfl,q _ (I.hok.fresh (Nat.le_succ _))⟩
 rw [List.length_map,a2.length_eq]
 exact Nat.le_trans (Nat.le_of_lt h64) (by decide)
end
open PySem PySem.Spec PyProof.Rows
theorem BK:∀ (ls:List Int) (k:Nat),(ls.map V.int).eraseIdx k=(ls.eraseIdx k).map V.int
 | [],k=>by simp
 | x::ls,0=>by simp
 | x::ls,k+1=>by simp [BK ls k]
section
variable {X:Cx}
theorem K1:bootBuiltins "sum"=some (.builtin "sum"):=by decide +kernel
section
variable {X:Cx}
theorem Fm (hc:X.calm=true):A2 X (.builtin "sum") (fun xs H Q=>∃ (p:Addr) (a b:Int),xs=[.ref p]∧SqT X.K H p [.int a,.int b]∧Q (.int (a+b)) H):=by
 intro pins s σ H xs us Q I r h
 obtain ⟨p,a,b,rfl,hq,q⟩:=h
 obtain ⟨u,rfl,ru⟩:=B1 r
 cases ru
 obtain ⟨its,rv,pt,hz⟩:=I.tuple hq
 have hI:=Au (ns:=[a,b]) rv
 have hl:=rv.length
 have hlt:p<s.heap.objs.size:=by obtain ⟨o,e,_⟩:=pt;exact Heap.lt_size e
 have hpt:s.heap.IsTuple p its.toArray:=pt
 refine call_sum_walkG (wpAny_pyIter_tuple hpt ?_)
 refine ⟨s.heap.objs.size,_,_,_,_,_,fun i=>[a,b].getD i 0,rfl,Walks.tuple (by exact I.ok.hd hc) s.heap.objs.size p (Nat.ne_of_lt hlt) its.toArray,⟨⟨_,Heap.get?_push_size _ rfl,rfl,rfl⟩,hpt.at fun o e=>Heap.get?_push_of_some _ e⟩,?_,?_,?_⟩
 ·intro b hb
  rw [Heap.size_push]
  rcases List.mem_cons.mp hb with z | z
  ·rw [z];exact Nat.lt_succ_self _
  ·rw [List.mem_singleton.mp z];exact Nat.lt_succ_of_lt hlt
 ·intro i v hv
  exact IntsAre.int_at hI i v (by simpa using hv)
 ·intro h' tk t' hk
  have I1:Inv X pins σ H {s with heap:=h',toks:=tk}:=I.kept fun b o e=>hk b o (by simp;exact Nat.ne_of_lt (Heap.lt_size e)) (Heap.get?_push_of_some _ e)
  refine ⟨.int (a+b),H,I1,⟨t',?_⟩,q⟩
  have e:its.toArray.size=2:=by rw [List.size_toArray,← hl];rfl
  rw [e]
  show Value.int (0+a+b) t'=_
  rw [Int.zero_add]
noncomputable def Hd:V→List V→Hp→VK→Prop:=fun x vs H Q=>∃ (l:Addr) (ns:List Int) (n:Int) (j:Nat),x = .ref l∧vs=[.int n]∧H l=some (.lst (ns.map V.int))∧ns[j]?=some n∧(∀ m,m<j→ns[m]?≠some n)∧Q .non (upd H l (.lst ((ns.eraseIdx j).map V.int)))
theorem Fn:MtM X "list.remove" Hd:=by
 intro pins s σ H x vs v us Q I rx rv h
 obtain ⟨l,ns,n,j,rfl,rfl,hH,hj,hno,q⟩:=h
 cases rx
 obtain ⟨u,rfl,ru⟩:=rv.one
 obtain ⟨z,its,k,r,hl,e⟩:=I.lstM hH
 have hlen:=hl
 rw [List.length_map] at hlen z
 have hjl:j<ns.length:=(List.getElem?_eq_some_iff.mp hj).1
 have hjs:j<its.toArray.size:=by rw [List.size_toArray];omega
 have fl:(ns.map V.int).all u8=true:=List.all_eq_true.mpr fun v hv=>by
  obtain ⟨n,_,rfl⟩:=List.mem_map.mp hv
  rfl
 have at':∀ m (hm:m<its.toArray.size),eqU (.int n) its.toArray[m]=(ns[m]'(by rw [List.size_toArray] at hm;omega) == n):=fun m hm=>by
  have hm':m<ns.length:=by rw [List.size_toArray] at hm;omega
  obtain ⟨u',hu',ru'⟩:=r.get (show (ns.map V.int)[m]?=some (V.int ns[m]) by simp [hm'])
  have e2:its.toArray[m]=u':=by
   have:its[m]?=some its.toArray[m]:=by simp
   rw [hu'] at this
   exact (Option.some.inj this).symm
  rw [e2,Bn ru' rfl]
  rfl
 refine call_meets F.slot_list_remove ⟨_,e,rfl⟩ F.entry_list_remove (F.args_list_remove_2 _ _)
  (MeetsSeq.list_remove l its.toArray k u (eqU (.int n)) ?_ j hjs ?_ ?_ (by rw [List.size_toArray];omega)) ⟨e,?_⟩
 ·intro y hy
  obtain ⟨m,hm,rfl⟩:=Array.mem_iff_getElem.mp hy
  have hm':m<ns.length:=by rw [List.size_toArray] at hm;omega
  obtain ⟨u',hu',ru'⟩:=r.get (show (ns.map V.int)[m]?=some (V.int ns[m]) by simp [hm'])
  have e2:its.toArray[m]=u':=by
   have:its[m]?=some its.toArray[m]:=by simp
   rw [hu'] at this
   exact (Option.some.inj this).symm
  rw [e2,Bn ru' rfl]
  obtain ⟨t1,rfl⟩:=ru'
  obtain ⟨t2,rfl⟩:=ru
  exact MeetsSeq.EqGives.int _ _ _ _
 ·rw [at' j hjs]
  have:=(List.getElem?_eq_some_iff.mp hj).2
  simp [this]
 ·intro m hm hmj
  rw [at' m hm]
  have hm':m<ns.length:=by rw [List.size_toArray] at hm;omega
  have:=hno m hmj
  simpa [hm'] using this
 ·refine ⟨.non,_,I.lset (its':=its.eraseIdx j) hH e ?_ (?_:Vals ((ns.eraseIdx j).map V.int) (its.eraseIdx j)) ?_,rfl,q⟩
  ·show its.toArray.eraseIdxIfInBounds j=(its.eraseIdx j).toArray
   rw [List.eraseIdxIfInBounds_toArray]
  ·rw [← BK];exact r.eraseIdx j
  ·rw [List.length_map]
   have:=Cu ns j
   omega
end
end
end L2
namespace Hue
open PySem L2
theorem Cb {c A B:Prop} [Decidable c] (h:¬ c) (a:A):if (!decide c)=true then A else B:=by
 rw [decide_eq_false h]
 exact AZ a
noncomputable def WebE (H:Hp) (w:Addr) (m:Int) (es:List (Int×Int)):Prop:=∃ (ta:Addr) (ts:List V),H w=some (.tup [.int m,.ref ta])∧H ta=some (.tup ts)∧ts.length=es.length∧
 (∀ (k:Nat) v,ts[k]?=some v→∃ q e,v = .ref q∧es[k]?=some e∧H q=some (.tup [.int e.1,.int e.2]))∧(∀ e∈es,0≤e.1∧e.1<e.2∧e.2<m)∧es.length≤61∧0≤m∧m≤12
theorem WebE.mono {H H':Hp} {w:Addr} {m:Int} {es:List (Int×Int)} (h:WebE H w m es) (k:KeepT H H'):WebE H' w m es:=
 let ⟨ta,ts,a,b,c,d,r⟩:=h
 ⟨ta,ts,k _ _ a,k _ _ b,c,fun i v hv=>let ⟨q,e,e1,e2,e3⟩:=d i v hv;⟨q,e,e1,e2,k _ _ e3⟩,r⟩
theorem D7 {H:Hp} {m:Int}:∀ (ts:List V),Ties H m ts→∃ es:List (Int×Int),ts.length=es.length∧(∀ (k:Nat) v,ts[k]?=some v→∃ q e,v = .ref q∧es[k]?=some e∧H q=some (.tup [.int e.1,.int e.2]))∧(∀ e∈es,0≤e.1∧e.1<e.2∧e.2<m)
 | [],_=>⟨[],rfl,fun k v h=>by simp at h,fun _ h=>nomatch h⟩
 | v::ts,h=>by
   obtain ⟨es,h1,h2,h3⟩:=D7 ts (fun u hu=>h u (List.mem_cons_of_mem _ hu))
   obtain ⟨q,i,j,e1,e2,e3⟩:=h v (List.mem_cons_self ..)
   refine ⟨(i,j)::es,by simp [h1],fun k u hu=>?_,fun e he=>?_⟩
   ·cases k with
    | zero=>
      simp at hu
      subst hu
      exact ⟨q,(i,j),e1,rfl,e2⟩
    | succ k=>exact h2 k u (by simpa using hu)
   ·rcases List.mem_cons.mp he with rfl | he
    ·exact e3
    ·exact h3 e he
theorem WebAt.pure {H:Hp} {w:Addr} {m:Int} {ts:List V} (h:WebAt H w m ts):∃ es,WebE H w m es∧es.length=ts.length:=by
 obtain ⟨ta,a,b,c,d,r⟩:=h
 obtain ⟨es,h1,h2,h3⟩:=D7 ts c
 exact ⟨es,⟨ta,ts,a,b,h1,h2,h3,by omega,r⟩,h1.symm⟩
theorem y8 {H H':Hp} (s:Same H H'):KeepT H H':=fun b xs h=>s b _ h
noncomputable def atE (p:Int) (e:Int×Int):Bool:=e.1 == p||e.2 == p
theorem Ai (p:Int) (e:Int×Int):inV (.int p) [.int e.1,.int e.2]=atE p e:=by simp [inV,eqV,atE]
open PySem L2
theorem Dy {n:Int} (h:0≤n):HueV (.int n) := .inr ⟨n,rfl,h⟩
noncomputable def Cc:Expr→Option Int
 | .Constant (.int i) _ _=>some i
 | _=>none
theorem Fo {e:Expr} {i:Int} (h:Cc e=some i):∃ j pos,e = .Constant (.int i) j pos:=by
 unfold Cc at h
 split at h
 ·cases h;exact ⟨_,_,rfl⟩
 ·cases h
theorem He {X:Cx} (ns:List Int):∀ {es:List Expr},es.map Cc=ns.map some→PA X es (fun _ H Q=>Q (ns.map V.int) H):=by
 induction ns with
 | nil=>
   intro es h
   have:es=[]:=by simpa using h
   subst this
   exact b8
 | cons n ns ih=>
   intro es h
   cases es with
   | nil=>cases h
   | cons e es=>
     simp only [List.map_cons,List.cons.injEq] at h
     obtain ⟨j,pos,rfl⟩:=Fo h.1
     exact b7 d0 (ih h.2)
noncomputable def BB:Expr→Option (List (Option Int))
 | .List es _=>some (es.map Cc)
 | _=>none
theorem DW {e:Expr} {ns:List (Option Int)} (h:BB e=some ns):∃ es pos,e = .List es pos∧es.map Cc=ns:=by
 unfold BB at h
 split at h
 ·cases h;exact ⟨_,_,rfl,rfl⟩
 ·cases h
noncomputable def EZ:List (List Int)→Hp→(List V→Hp→Prop)→Prop
 | [],H,Q=>Q [] H
 | ns::r,H,Q=>(ns.map V.int).length≤sizeLine∧∀ p,H p=none→EZ r (upd H p (.lst (ns.map V.int))) fun vs H'=>Q (.ref p::vs) H'
theorem Fp {X:Cx} (xs:List Expr) (pos:Pos) (es:List Expr):starEach (.List xs pos::es) X.env=(false,eval (.List xs pos) X.env)::starEach es X.env:=by rfl
theorem Dz {X:Cx} (nss:List (List Int)):∀ {es:List Expr},es.map BB=nss.map (fun ns=>some (ns.map some))→PA X es (fun _ H Q=>EZ nss H Q):=by
 induction nss with
 | nil=>
   intro es h
   have:es=[]:=by simpa using h
   subst this
   exact b8
 | cons n ns ih=>
   intro es h
   cases es with
   | nil=>cases h
   | cons e es=>
     simp only [List.map_cons,List.cons.injEq] at h
     obtain ⟨xs,pos,rfl,hx⟩:=DW h.1
     exact b7 (t5 (He n hx)) (ih h.2) (Fp xs pos es)
theorem Hg {X:Cx} (i:Nat) {x:Str} {es:List Expr} {idx:Expr} {px p1 p2 p3:Pos} {ti:TE} (nss:List (List Int)) (hN:X.N.Nodup) (hi:X.N[i]?=some x) (hx:Loc X.env.scope x) (h:es.map BB=nss.map (fun ns=>some (ns.map some))) (hidx:PE X idx ti) (hpl:F1 idx)
 (hs:swapsWith (.Subscript (.List es p1) idx p2) (some (.Name x px)) p3.line X.env=pure false) (hf:X.fn x=true∨X.env.scope.names.lookup x=some .local):
 PS X (.Assign [.Name x px] (.Subscript (.List es p1) idx p2) p3) (HQ (tOp (Ir X.K) (Jq (fun _ H Q=>EZ nss H Q)) ti) (Co i)):=j8 hN hi hx (j5 u5 (t5 (Dz nss h)) hidx hpl) hs hf
theorem Hh (lo:Int) (n i:Nat) (h:i<n):(BV lo n)[i]?=some (.int (lo+i)):=by unfold BV;simp [h]
noncomputable def mtE (e f:Int×Int):Bool:=atE e.1 f||atE e.2 f
noncomputable def mtI (es:List (Int×Int)) (a b:Nat):Bool:=match es[a]?,es[b]? with
 | some e,some f=>mtE e f
 | _,_=>false
noncomputable def DX:Sp:=fun vs H Q _=>∃ (w:Addr) (m:Int) (es:List (Int×Int)) (a b:Nat),vs=[.ref w,.int a,.int b]∧WebE H w m es∧a<es.length∧b<es.length∧Q (.bl (mtI es a b)) H
noncomputable def Prop2 (es:List (Int×Int)) (row:List V):Prop:=∀ a b,a<b→b<row.length→mtI es a b=true→∀ n:Int,row[a]?=some (.int n)→row[b]?≠some (.int n)
noncomputable def Ea:Sp:=fun vs H Q _=>∃ (t w:Addr) (b:Bool) (m:Int) (es:List (Int×Int)),vs=[.ref t,.ref w,.bl b]∧Tape H t∧WebE H w m es∧
 ∀ (l:Addr) (row:List V) (H':Hp),GS t H H' l row→row.length=es.length→(∀ v∈row,HueV v)→Prop2 es row→Q (.ref l) H'
theorem Hi {v:V} {ys:List V} (hv:HueV v) (hy:∀ u∈ys,HueV u) (h:inV v ys=false):v∉ys:=by
 intro hm
 have:inV v ys=true:=by
  unfold inV
  refine List.any_eq_true.mpr ⟨v,hm,?_⟩
  rcases hv with rfl | ⟨n,rfl,_⟩<;>simp [eqV]
 rw [h] at this
 cases this
theorem Prop2.non {es:List (Int×Int)} {row:List V} (h:Prop2 es row):Prop2 es (row++[.non]):=by
 intro a b hab hb hm n ha hb'
 by_cases q:b<row.length
 ·rw [List.getElem?_append_left (by omega)] at ha
  rw [List.getElem?_append_left q] at hb'
  exact h a b hab q hm n ha hb'
 ·rw [List.getElem?_append_right (by omega)] at hb'
  have:b - row.length=0:=by simp at hb;omega
  rw [this] at hb'
  cases hb'
theorem Prop2.add {es:List (Int×Int)} {row ys:List V} {v:V} (h:Prop2 es row) (hy:∀ j,j<row.length→mtI es j row.length=true→∀ u,row[j]?=some u→u∈ys) (hv:v∉ys):Prop2 es (row++[v]):=by
 intro a b hab hb hm n ha hb'
 by_cases q:b<row.length
 ·rw [List.getElem?_append_left (by omega)] at ha
  rw [List.getElem?_append_left q] at hb'
  exact h a b hab q hm n ha hb'
 ·have hbl:b=row.length:=by simp at hb;omega
  subst hbl
  rw [List.getElem?_append_left (by omega)] at ha
  rw [List.getElem?_append_right (Nat.le_refl _),Nat.sub_self] at hb'
  have e:v = .int n:=by simpa using hb'
  exact hv (e▸hy a (by omega) hm _ ha)
section
variable {P:Program} {w:World} {K:PySem.W.Frag} {mg:Str→Option Value} {base:Heap}
theorem Gb {f:Addr} {fd:FuncData} (F:Fun K "_law_meet" "_law_meet" D5 f fd):FnOk P w K mg base CX0 1 f fd ["_law_web_here","_law_one","_law_other"] DX:=by
 refine F.ok J5 (fun vs H Q E h=>?_) (fun cdv A outer s H vs Q E hr h=>?_)
 ·obtain ⟨_,_,_,_,_,rfl,_⟩:=h;rfl
 ·obtain ⟨w0,m,es,a,b,rfl,⟨tt,ts,hw,htt,htl,hts,_⟩,ha,hb,q⟩:=h
  refine ⟨_,g9 (l8 (Jc (w9 B8 (j5 m8 (j5 m8 (j5 m8 (pv 0) d0 (fun _ _=>rfl)) (pv 1) (fun _ _=>rfl)) d0 (fun _ _=>rfl)) (j5 m8 (j5 m8 (pv 0) d0 (fun _ _=>rfl)) (pv 2) (fun _ _=>rfl)) (by with_unfolding_all rfl))
   (AU (w9 B8 (j5 m8 (j5 m8 (j5 m8 (pv 0) d0 (fun _ _=>rfl)) (pv 1) (fun _ _=>rfl)) d0 (fun _ _=>rfl)) (j5 m8 (j5 m8 (pv 0) d0 (fun _ _=>rfl)) (pv 2) (fun _ _=>rfl)) (by with_unfolding_all rfl))))),?_⟩
  have ea:ts[a]?=some (ts[a]'(by omega)):=by simp
  have eb:ts[b]?=some (ts[b]'(by omega)):=by simp
  obtain ⟨qa,e,e1,ee,h1⟩:=hts a _ ea
  obtain ⟨qb,g,e2,eg,h2⟩:=hts b _ eb
  rw [e1] at ea
  rw [e2] at eb
  have w1:atI [V.int m,V.ref tt] 1=some (.ref tt):=rfl
  have k0:atI [V.int e.1,V.int e.2] 0=some (.int e.1):=rfl
  have k1:atI [V.int e.1,V.int e.2] 1=some (.int e.2):=rfl
  have mi:mtI es a b=(atE e.1 g||atE e.2 g):=by unfold mtI;rw [ee,eg];rfl
  rw [mi] at q
  refine ⟨_,rfl,w0,_,_,_,rfl,rfl,SqT.of hw,w1,_,rfl,tt,ts,_,_,rfl,rfl,SqT.of htt,p7 ea,qa,_,_,_,rfl,rfl,SqT.of h1,k0,_,rfl,w0,_,_,_,rfl,rfl,SqT.of hw,w1,_,rfl,tt,ts,_,_,rfl,rfl,SqT.of htt,p7 eb,qb,_,rfl,.inr (SqT.of h2),rfl,rfl,_,rfl,?_⟩
  show if inV (.int e.1) [.int g.1,.int g.2]=true then _ else _
  rw [Ai]
  refine x8 (fun z=>by rw [z] at q;exact q) (fun z=>?_)
  refine ⟨_,rfl,w0,_,_,_,rfl,rfl,SqT.of hw,w1,_,rfl,tt,ts,_,_,rfl,rfl,SqT.of htt,p7 ea,qa,_,_,_,rfl,rfl,SqT.of h1,k1,_,rfl,w0,_,_,_,rfl,rfl,SqT.of hw,w1,_,rfl,tt,ts,_,_,rfl,rfl,SqT.of htt,p7 eb,qb,_,rfl,.inr (SqT.of h2),rfl,rfl,?_⟩
  show Q (.bl (inV (.int e.2) [.int g.1,.int g.2])) H
  rw [Ai]
  have z':atE e.1 g=false:=by simpa using z
  rw [z',Bool.false_or] at q
  exact q
noncomputable abbrev J8 (P:Program) (w:World) (K:PySem.W.Frag) (mg:Str→Option Value) (base:Heap):Prop:=Callee P w K mg base 1 "_law_meet" ["_law_web_here","_law_one","_law_other"] DX
theorem scHueing:FnScope ["_law_tape_here","_law_web_here","_law_bare","_law_some","_law_found","_law_tie","_law_taken","_law_hue","_law_free"] ["_law_tape_here","_law_web_here","_law_bare"] (defScope B9):=⟨rfl,rfl,rfl,by decide +kernel,rfl,by decide +kernel,by decide +kernel⟩
theorem Fq {f:Addr} {fd:FuncData} (F:Fun K "_law_hueing" "_law_hueing" B9 f fd) (T:Txt K mg) (CD:Du P w K mg base) (CM:J8 P w K mg base):FnOk P w K mg base CX0 2 f fd ["_law_tape_here","_law_web_here","_law_bare"] Ea:=by
 refine F.ok scHueing (fun vs H Q E h=>?_) (fun cdv A outer s H vs Q E hr h=>?_)
 ·obtain ⟨t,w0,b,m,es,rfl,_⟩:=h;rfl
 ·obtain ⟨t,w0,b,m,es,rfl,T0,W0,q⟩:=h
  refine ⟨_,@c9 _ _ _ _ _ (@Hg _ 3 _ _ _ _ _ _ _ _ [[0,1,2,3,4,5],[0,1,7,40],[2,0,1,5,9],[99,3,0,11,4,2]] scHueing.nd rfl (Or.inl rfl) (by rfl) (j9 CD hr (by rfl) (b7 (pv 0) (b7 d0 b8))) (fun _ _=>rfl) (by rfl) (Or.inl rfl))
   (c9 (j8 (i:=4) scHueing.nd rfl (Or.inr rfl) (t5 b8))
   (c9 (AH PassesOwn.never rfl (t7 (by rfl) T.range (b7 (d4 l7 (by rfl) T.len AF (b7 (j5 m8 (pv 1) d0 (fun _ _=>rfl)) b8)) b8)) (i7 (i:=5) scHueing.nd rfl (Or.inr rfl))
     (c9 (j8 (i:=6) scHueing.nd rfl (Or.inr rfl) (v0 ["_law_k"] ["_law_found","_law_tie","_law_web_here"] [4,5,1] (t7 (by rfl) T.range (b7 (pv 5) b8)) (fun _ _ _ _ _=>i7 (i:=0) Hb rfl (Or.inl rfl))
       (fun _ _ _ _ _=>v7 (u9 (j9 CM hr (by rfl) (b7 (pv 3) (b7 (pv 0) (b7 (pv 2) b8)))))) (fun _ _ _ _ _=>j5 (AC (K:=K) rfl) (pv 1) (pv 0) (fun _ _=>rfl))))
     (c9 (AW (i:=8) ["_law_hue"] ["_law_taken"] [6] scHueing.nd rfl rfl (An (l6 Aq (pv 3) (x0 (DT rfl) (by rfl) T.list AJ (b7 (x0 Fi (by rfl) T.range HW (b7 d0 (b7 (l6 t9 (l6 t9 d0 (d4 l7 (by rfl) T.len AF (b7 (pv 6) b8))) d0) b8))) b8))))
       (fun _ _ _ _ _=>i7 (i:=0) K0 rfl (Or.inl rfl)) (fun _ _ _ _ _=>v7 (j7 (Bu (K:=K) rfl) (pv 0) (pv 1) (by with_unfolding_all rfl))) (fun _ _ _ _ _=>pv 0))
     (c9 (j8 (i:=7) scHueing.nd rfl (Or.inl rfl) (j5 u5 (pv 8) (j9 CD hr (by rfl) (b7 (pv 0) (b7 (d4 (B6 rfl) (by rfl) T.min F6 (b7 d0 (b7 (d4 l7 (by rfl) T.len AF (b7 (pv 8) b8)) b8))) b8))) (fun _ _=>rfl)))
     (g9 (v6 (Af PySem.F.plainAttrs_list PySem.F.slot_list_append PySem.F.type_list_append AI (pv 4) (b7 (j5 u5 (t5 (b7 (pv 7) (b7 BO b8)))
       (x0 B7 (by rfl) T.int CZ (b7 (AM (pv 2) (AU (w9 AE (j9 CD hr (by rfl) (b7 (pv 0) (b7 d0 b8))) d0 (m7 _)))) b8)) (fun _ _=>rfl)) b8))))))))
   (g9 (l8 (pv 4))))),?_⟩
  have hI:∀ ns:List Int,(∀ n∈ns,0≤n)→∀ v∈ns.map V.int,HueV v:=fun ns hn v hv=>by
   obtain ⟨n,hn',rfl⟩:=List.mem_map.mp hv
   exact Dy (hn n hn')
  refine ⟨by show 6≤sizeLine;decide,fun p1 h1=>⟨by show 4≤sizeLine;decide,fun p2 h2=>⟨by show 5≤sizeLine;decide,fun p3 h3=>⟨by show 6≤sizeLine;decide,fun p4 h4=>⟨by show 4≤sizeLine;decide,fun p5 h5=>?_⟩⟩⟩⟩⟩
  have T5:=((((T0.new (o := .lst [.int 0,.int 1,.int 2,.int 3,.int 4,.int 5]) h1).new (o := .lst [.int 0,.int 1,.int 7,.int 40]) h2).new (o := .lst [.int 2,.int 0,.int 1,.int 5,.int 9]) h3).new (o := .lst [.int 99,.int 3,.int 0,.int 11,.int 4,.int 2]) h4).new (o := .lst [.ref p1,.ref p2,.ref p3,.ref p4]) h5
  have E5:=(((((Ext.refl t H).new (o := .lst [.int 0,.int 1,.int 2,.int 3,.int 4,.int 5]) h1).new (o := .lst [.int 0,.int 1,.int 7,.int 40]) h2).new (o := .lst [.int 2,.int 0,.int 1,.int 5,.int 9]) h3).new (o := .lst [.int 99,.int 3,.int 0,.int 11,.int 4,.int 2]) h4).new (o := .lst [.ref p1,.ref p2,.ref p3,.ref p4]) h5
  refine ⟨_,rfl,t,4,rfl,T5,by decide,by decide,fun r H6 hr0 hr1 T6 E6=>?_⟩
  have n1:p1≠t:=T0.ne h1
  have n2:p2≠t:=(T0.new h1).ne h2
  have n3:p3≠t:=((T0.new h1).new h2).ne h3
  have n4:p4≠t:=(((T0.new h1).new h2).new h3).ne h4
  have n5:p5≠t:=((((T0.new h1).new h2).new h3).new h4).ne h5
  obtain ⟨so,xs,hso,hxs,hxh,hxl,son⟩:∃ (so:Addr) (xs:List V),atI [V.ref p1,V.ref p2,V.ref p3,V.ref p4] r=some (.ref so)∧H6 so=some (.lst xs)∧(∀ v∈xs,HueV v)∧xs.length≤6∧so≠t:=by
   rcases (show r=0∨r=1∨r=2∨r=3 by omega) with rfl | rfl | rfl | rfl
   ·exact ⟨p1,_,rfl,E6 _ _ n1 (j3 (j3 (j3 (j3 b9 h2) h3) h4) h5),hI [0,1,2,3,4,5] (by decide),by decide,n1⟩
   ·exact ⟨p2,_,rfl,E6 _ _ n2 (j3 (j3 (j3 b9 h3) h4) h5),hI [0,1,7,40] (by decide),by decide,n2⟩
   ·exact ⟨p3,_,rfl,E6 _ _ n3 (j3 (j3 b9 h4) h5),hI [2,0,1,5,9] (by decide),by decide,n3⟩
   ·exact ⟨p4,_,rfl,E6 _ _ n4 (j3 b9 h5),hI [99,3,0,11,4,2] (by decide),by decide,n4⟩
  refine ⟨p5,_,r,_,rfl,rfl,SqL.of (E6 _ _ n5 b9),hso,?_⟩
  refine ⟨by show 0≤sizeLine;decide,fun l hl=>?_⟩
  have E7:Ext t H H6:=E5.trans E6
  have g7:GS t H (upd H6 l (.lst [])) l []:=GS.lay T6 E7 hl
  have sol:so≠l:=d7 hxs hl
  obtain ⟨tt,ts,hw,htt,htl,hts,hbb,hlen,hm0,hm1⟩:=id (W0.mono (g7.ext.keepT T0))
  refine ⟨_,rfl,w0,_,_,_,rfl,rfl,SqT.of hw,(rfl:atI [V.int m,V.ref tt] 1=some (.ref tt)),tt,ts,rfl,.inr (SqT.of htt),ts.length,rfl,by omega,by omega,y9 (lo:=0) (n:=((ts.length:Nat):Int).toNat)
   (fun i σ H7=>∃ (row:List V) (o5 o6 o7 o8:Option V),σ=[some (.ref t),some (.ref w0),some (.bl b),some (.ref so),some (.ref l),o5,o6,o7,o8]∧GS t H H7 l row∧H7 so=some (.lst xs)∧row.length=i∧(∀ v∈row,HueV v)∧Prop2 es row)
   ⟨[],none,none,none,none,rfl,g7,j3 hxs hl,rfl,(fun _ h=>nomatch h),(fun a b _ hb=>absurd hb (Nat.not_lt_zero _))⟩ ?_ ?_⟩
  ·rintro i σ H7 hi ⟨row,o5,o6,o7,o8,rfl,gs,hs7,hrl,hrh,hpp⟩
   have hi':i<ts.length:=by simpa using hi
   -- taken
   refine ⟨_,rfl,0+(i:Int),rfl,by omega,by omega,fun Dl hD=>v9 (lo:=0) (n:=(0+(i:Int)).toNat) (fun k ys H8=>GS t H H8 l row∧GS t H H8 Dl ys∧H8 so=some (.lst xs)∧ys.length≤k∧(∀ v∈ys,HueV v)∧l≠Dl∧so≠Dl∧(∀ j,j<k→mtI es j i=true→∀ u,row[j]?=some u→u∈ys))
    ⟨gs.new hD,GS.lay gs.tape gs.ext hD,j3 hs7 hD,Nat.le_refl _,(fun _ h=>nomatch h),d7 gs.at' hD,d7 hs7 hD,(fun j hj=>absurd hj (Nat.not_lt_zero _))⟩ ?_ ?_⟩
   ·rintro k ys H8 hk ⟨gl,gd,hs8,hyl,hyh,hld,hsd,hmt⟩
    have hk':k<i:=by omega
    refine ⟨_,rfl,_,rfl,_,rfl,w0,m,es,k,i,by simp,W0.mono (gl.ext.keepT T0),by omega,by omega,_,rfl,?_⟩
    refine x8 (fun _=>?_) (fun hf=>⟨gl,gd,hs8,by omega,hyh,hld,hsd,fun j hj hm u hu=>hmt j (Nat.lt_of_le_of_ne (Nat.le_of_lt_succ hj) (fun z=>hf (z▸hm))) hm u hu⟩)
    have hget:row[k]?=some (row[k]'(by omega)):=by simp
    refine ⟨_,rfl,_,rfl,l,row,0+(k:Int),row[k]'(by omega),rfl,rfl,SqL.of gl.at',(by rw [Int.zero_add];exact p7 hget),?_⟩
    refine ⟨gd.at',i9 (by omega),gl.oth (xs:=[]) gd.fr hld gd.ne,gd.set,AG hs8 hsd,by rw [List.length_append,List.length_singleton];omega,fun v hv=>?_,hld,hsd,fun j hj hm u hu=>?_⟩
    ·rcases List.mem_append.mp hv with hv | hv
     ·exact hyh v hv
     ·rw [List.mem_singleton.mp hv];exact hrh _ (List.getElem_mem _)
    ·by_cases z:j=k
     ·subst z
      rw [hget] at hu
      cases hu
      exact List.mem_append_right _ (List.mem_singleton.mpr rfl)
     ·exact List.mem_append_left _ (hmt j (by omega) hm u hu)
   ·rintro ys H8 ⟨gl,gd,hs8,hyl,hyh,hld,hsd,hmt⟩
    have hmt':∀ j,j<row.length→mtI es j row.length=true→∀ u,row[j]?=some u→u∈ys:=fun j hj hm u hu=>hmt j (by omega) (by rw [← hrl];exact hm) u hu
    have hyl':ys.length≤300:=by omega
    refine ⟨_,rfl,_,rfl,Dl,ys,rfl,.inl (SqL.of gd.at'),_,_,rfl,rfl,_,_,rfl,rfl,100,_,rfl,fun pr hpr=>?_⟩
    refine ⟨pr,100,_,rfl,b9,by decide,by decide,by omega,by omega,by omega,fun lr hlr=>?_⟩
    have hs9:=j3 (u := .lst (BV 100 (100+(ys.length:Int)+1 - 100).toNat)) (j3 (u := .rng 100 (100+(ys.length:Int)+1)) hs8 hpr) hlr
    have hRl:(BV 100 (100+(ys.length:Int)+1 - 100).toNat).length=ys.length+1:=by rw [C6];omega
    refine ⟨so,lr,xs,_,rfl,rfl,hs9,b9,sl3 (by rw [hRl];omega),fun lc hlc=>?_⟩
    obtain ⟨R,hR⟩:∃ R,BV 100 (100+(ys.length:Int)+1 - 100).toNat=R:=⟨_,rfl⟩
    rw [hR] at hRl
    refine ⟨lc,rfl,⟨_,SqL.of b9⟩,fun D2 hD2=>?_⟩
    have gl2:=((gl.new hpr).new hlr).new (o := .lst (xs++BV 100 (100+(ys.length:Int)+1 - 100).toNat)) hlc
    have hy2:=j3 (u := .lst (xs++BV 100 (100+(ys.length:Int)+1 - 100).toNat)) (j3 (j3 gd.at' hpr) hlr) hlc
    have hs2:=j3 (u := .lst (xs++BV 100 (100+(ys.length:Int)+1 - 100).toNat)) hs9 hlc
    refine Bs (K:=K) (a:=lc) (xs:=xs++BV 100 (100+(ys.length:Int)+1 - 100).toNat) (fun k zs H13=>GS t H H13 l row∧H13 Dl=some (.lst ys)∧H13 so=some (.lst xs)∧H13 lc=some (.lst (xs++BV 100 (100+(ys.length:Int)+1 - 100).toNat))∧GS t H H13 D2 zs∧zs.length≤k∧(∀ v∈zs,HueV v)∧
     (∀ j v,j<k→(xs++BV 100 (100+(ys.length:Int)+1 - 100).toNat)[j]?=some v→inV v ys=false→v∈zs)∧(∀ v∈zs,v∉ys)∧l≠D2∧Dl≠D2∧so≠D2∧lc≠D2)
     ⟨gl2.new hD2,j3 hy2 hD2,j3 hs2 hD2,j3 b9 hD2,GS.lay gl2.tape gl2.ext hD2,Nat.le_refl _,(fun _ h=>nomatch h),(fun _ _ h=>absurd h (Nat.not_lt_zero _)),(fun _ h=>nomatch h),d7 gl2.at' hD2,d7 hy2 hD2,d7 hs2 hD2,d7 b9 hD2⟩
     (fun k zs H13 _ h=>SqL.of h.2.2.2.1) ?_ ?_
    ·rintro k v zs H13 hv ⟨g1,y1,s1,c1,d1,zl,zh,zi,zn,e1,e2,e3,e4⟩
     rw [hR] at hv
     have hk:k<(xs++R).length:=(List.getElem?_eq_some_iff.mp hv).1
     have hk2:k≤400:=by rw [List.length_append,hRl] at hk;omega
     have hvh:HueV v:=by
      rcases List.mem_append.mp (List.mem_of_getElem? hv) with h | h
      ·exact hxh v h
      ·rw [← hR] at h
       obtain ⟨n,_,rfl⟩:=List.mem_map.mp (show v∈(List.range _).map (fun (i:Nat)=>V.int (100+(i:Int))) from h)
       exact Dy (by omega)
     refine ⟨_,rfl,_,rfl,Dl,ys,rfl,.inl (SqL.of y1),hvh.flat,Bv hyh,_,rfl,?_⟩
     refine x8 (fun hn=>?_) (fun hn=>⟨g1,y1,s1,c1,d1,by omega,zh,fun j u hj hu hin=>?_,zn,e1,e2,e3,e4⟩)
     ·refine ⟨_,rfl,d1.at',i9 (by omega),g1.oth (xs:=[]) d1.fr e1 d1.ne,AG y1 e2,AG s1 e3,AG c1 e4,d1.set,by rw [List.length_append,List.length_singleton];omega,fun u hu=>?_,fun j u hj hu hin=>?_,fun u hu=>?_,e1,e2,e3,e4⟩
      ·rcases List.mem_append.mp hu with hu | hu
       ·exact zh u hu
       ·rw [List.mem_singleton.mp hu];exact hvh
      ·by_cases hjk:j=k
       ·subst hjk
        rw [hR,hv] at hu
        cases hu
        exact List.mem_append_right _ (List.mem_singleton.mpr rfl)
       ·exact List.mem_append_left _ (zi j u (by omega) hu hin)
      ·rcases List.mem_append.mp hu with hu | hu
       ·exact zn u hu
       ·rw [List.mem_singleton.mp hu];exact Hi hvh hyh (by simpa using hn)
     ·by_cases hjk:j=k
      ·subst hjk
       rw [hR,hv] at hu
       cases hu
       exact absurd (by simpa using hin) (by simpa using hn)
      ·exact zi j u (by omega) hu hin
    ·rintro zs H13 ⟨g1,y1,s1,c1,d1,zl,zh,zi,zn,e1,e2,e3,e4⟩
     have hzpos:0<zs.length:=by
      obtain ⟨i0,hi0,hni⟩:=GV ys.length 100 ys (Nat.le_refl _)
      have hin:inV (.int (100+(i0:Int))) ys=false:=by
       cases q0:inV (.int (100+(i0:Int))) ys with
       | false=>rfl
       | true=>exact absurd (Ha hyh q0) hni
      have hm:=zi (xs.length+i0) (.int (100+(i0:Int))) (by rw [List.length_append,hR,hRl];omega) (by rw [List.getElem?_append_right (Nat.le_add_right _ _),Nat.add_sub_cancel_left];exact Hh _ _ _ (by omega)) hin
      exact List.length_pos_of_mem hm
     have hzl:zs.length≤400:=by rw [List.length_append,hR,hRl] at zl;omega
     refine ⟨_,rfl,_,rfl,_,rfl,D2,zs,rfl,.inl (SqL.of d1.at'),2,zs.length,rfl,t,_,rfl,g1.tape,by split<;>omega,by split<;>omega,fun c H14 hc0 hc1 T14 E14=>?_⟩
     have hcz:c.toNat<zs.length:=by split at hc1<;>omega
     have g14:=g1.draw T14 E14
     have d14:=d1.draw T14 E14
     have s14:H14 so=some (.lst xs):=E14 _ _ son s1
     have hget:zs[c.toNat]?=some zs[c.toNat]:=by simp
     refine ⟨D2,zs,c,_,rfl,rfl,SqL.of d14.at',(by have:=p7 hget;rwa [Int.toNat_of_nonneg hc0] at this),?_⟩
     have hhue:HueV zs[c.toNat]:=zh _ (List.getElem_mem _)
     have done:∀ (H17:Hp) (v:V),GS t H H17 l row→H17 so=some (.lst xs)→HueV v∧(v = .non∨v∉ys)→GS t H (upd H17 l (.lst (row++[v]))) l (row++[v])∧(upd H17 l (.lst (row++[v]))) so=some (.lst xs)∧(row++[v]).length=i+1∧(∀ u∈row++[v],HueV u)∧Prop2 es (row++[v]):=fun H17 v g17 s17 hv=>⟨g17.set,AG s17 sol,by rw [List.length_append,List.length_singleton,hrl],fun u hu=>by
      rcases List.mem_append.mp hu with hu | hu
      ·exact hrh u hu
      ·rw [List.mem_singleton.mp hu];exact hv.1,by
      rcases hv.2 with rfl | hv2
      ·exact hpp.non
      ·exact hpp.add hmt' hv2⟩
     refine ⟨_,rfl,.inl ⟨rfl,_,SqL.of g14.at'⟩,_,rfl,by show 2≤sizeLine;decide,fun pl hpl=>?_⟩
     have g15:=g14.new (o := .lst [zs[c.toNat],.non]) hpl
     have s15:=j3 (u := .lst [zs[c.toNat],.non]) s14 hpl
     refine ⟨_,rfl,b,rfl,?_⟩
     have ix:∀ k:Bool,∃ v,atI [zs[c.toNat],V.non] (if k=true then 1 else 0)=some v∧HueV v∧(v = .non∨v∉ys):=fun k=>by
      cases k
      ·exact ⟨_,rfl,hhue,.inr (zn _ (List.getElem_mem _))⟩
      ·exact ⟨_,rfl,.inl rfl,.inl rfl⟩
     refine x8 (fun _=>?_) (fun _=>?_)
     ·refine ⟨_,rfl,t,4,rfl,g15.tape,by decide,by decide,fun d H16 hd0 hd1 T16 E16=>?_⟩
      have g16:=g15.draw T16 E16
      obtain ⟨v,hv,hvh⟩:=ix (decide (V.int d=V.int 0))
      refine ⟨rfl,.inr ⟨_,rfl,pl,_,_,v,rfl,rfl,SqL.of (E16 _ _ (g14.tape.ne hpl) b9),hv,l,row,v,rfl,rfl,g16.at',i9 (by omega),?_⟩⟩
      exact ⟨row++[v],_,_,_,_,rfl,done H16 v g16 (E16 _ _ son s15) hvh⟩
     ·obtain ⟨v,hv,hvh⟩:=ix false
      refine .inr ⟨false,rfl,pl,_,_,v,rfl,rfl,SqL.of b9,hv,l,row,v,rfl,rfl,g15.at',i9 (by omega),?_⟩
      exact ⟨row++[v],_,_,_,_,rfl,done _ v g15 s15 hvh⟩
  ·rintro σ H7 ⟨row,o5,o6,o7,o8,rfl,gs,hs7,hrl,hrh,hpp⟩
   exact ⟨_,rfl,q l row _ gs (by rw [hrl];simpa using htl) hrh hpp⟩
end
end Hue
set_option maxHeartbeats 1000000
namespace Hue
open PySem L2
noncomputable def natV (n:Nat):V := .int (n:Int)
noncomputable def Gc:Option Nat→V
 | none => .non
 | some k=>natV k
noncomputable def atH (es:List (Int×Int)) (row:List V) (p h:Int) (k:Nat):Bool:=match es[k]? with
 | some e=>atE p e&&decide (row[k]?=some (.int h))
 | none=>false
theorem atE_iff {p:Int} {e:Int×Int}:atE p e=true↔p=e.1∨p=e.2:=by
 unfold atE
 rw [Bool.or_eq_true,beq_iff_eq,beq_iff_eq]
 exact ⟨fun h=>h.imp Eq.symm Eq.symm,fun h=>h.imp Eq.symm Eq.symm⟩
theorem atH_iff {es:List (Int×Int)} {row:List V} {p h:Int} {k:Nat}:atH es row p h k=true↔∃ e,es[k]?=some e∧(p=e.1∨p=e.2)∧row[k]?=some (.int h):=by
 unfold atH
 cases q:es[k]? with
 | none=>simp
 | some e=>simp [atE_iff]
noncomputable def farI (es:List (Int×Int)) (k:Nat) (p:Int):Int:=match es[k]? with
 | some e=>e.1+e.2 - p
 | none=>p
noncomputable def Be (row:List V) (k:Nat):Option Int:=match row[k]? with
 | some (.int h)=>some h
 | _=>none
theorem hueO_iff {row:List V} {k:Nat} {h:Int}:Be row k=some h↔row[k]?=some (.int h):=by
 unfold Be
 split
 ·rename_i e;rw [e];simp
 ·rename_i e
  constructor
  ·intro z;cases z
  ·intro z;exact absurd z (e h)
noncomputable def hsL (es:List (Int×Int)) (row:List V) (q:Int):Nat→List V
 | 0=>[]
 | n+1=>hsL es row q n++(match es[n]?,Be row n with
   | some e,some h=>if atE q e=true then [.int h] else []
   | _,_=>[])
theorem F8 (es:List (Int×Int)) (row:List V) (q:Int):∀ n,(hsL es row q n).length≤n
 | 0=>Nat.le_refl _
 | n+1=>by
   have:=F8 es row q n
   rw [hsL,List.length_append]
   split
   ·split<;>simp<;>omega
   ·simp;omega
theorem FG {es:List (Int×Int)} {row:List V} {q h:Int}:∀ {n:Nat},V.int h∈hsL es row q n↔∃ k,k<n∧atH es row q h k=true
 | 0=>by simp [hsL]
 | n+1=>by
   have ih:=FG (es:=es) (row:=row) (q:=q) (h:=h) (n:=n)
   have key:V.int h∈(match es[n]?,Be row n with
    | some e,some h=>if atE q e=true then [V.int h] else []
    | _,_=>[])↔atH es row q h n=true:=by
    unfold atH
    cases e1:es[n]? with
    | none=>simp
    | some e=>
      cases e2:Be row n with
      | none=>
        constructor
        ·intro z;cases z
        ·intro z
         simp only [Bool.and_eq_true,decide_eq_true_eq] at z
         rw [hueO_iff.mpr z.2] at e2;cases e2
      | some g=>
        have e3:=hueO_iff.mp e2
        simp only [e3]
        by_cases za:atE q e=true
        ·simp [za];exact eq_comm
        ·simp [za]
   rw [hsL,List.mem_append,ih,key]
   constructor
   ·rintro (⟨k,hk,ha⟩ | ha)
    ·exact ⟨k,by omega,ha⟩
    ·exact ⟨n,by omega,ha⟩
   ·rintro ⟨k,hk,ha⟩
    by_cases z:k=n
    ·exact .inr (z▸ha)
    ·exact .inl ⟨k,by omega,ha⟩
theorem DY {es:List (Int×Int)} {row:List V} {q:Int}:∀ {n:Nat} {v:V},v∈hsL es row q n→∃ h,v = .int h
 | 0,v,h=>by cases h
 | n+1,v,h=>by
   rw [hsL,List.mem_append] at h
   rcases h with h | h
   ·exact DY h
   ·split at h
    ·split at h
     ·exact ⟨_,by simpa using h⟩
     ·cases h
    ·cases h
theorem Gd (es:List (Int×Int)) (row:List V) (q:Int) (n:Nat):(hsL es row q n).all u8=true:=List.all_eq_true.mpr fun v hv=>by obtain ⟨h,rfl⟩:=DY hv;rfl
theorem Ge {ys:List V} {h:Int} (hy:∀ v∈ys,∃ n,v=V.int n):inV (.int h) ys=true↔V.int h∈ys:=by
 unfold inV
 rw [List.any_eq_true]
 constructor
 ·rintro ⟨v,hv,e⟩
  obtain ⟨n,rfl⟩:=hy v hv
  have:n=h:=by simpa [eqV] using e
  rw [← this];exact hv
 ·intro z;exact ⟨_,z,by simp [eqV]⟩
theorem J9 {es:List (Int×Int)} {row:List V} {q h:Int} {k:Nat} (a:atH es row q h k=true):k<es.length:=by
 obtain ⟨e,h1,_⟩:=atH_iff.mp a
 exact (List.getElem?_eq_some_iff.mp h1).1
theorem noH_iff {es:List (Int×Int)} {row:List V} {q h:Int}:inV (.int h) (hsL es row q es.length)=false↔∀ k,atH es row q h k=false:=by
 rw [← Bool.not_eq_true,Ge fun v hv=>DY hv,FG]
 constructor
 ·intro z k
  cases e:atH es row q h k with
  | false=>rfl
  | true=>exact absurd ⟨k,J9 e,e⟩ z
 ·rintro z ⟨k,_,e⟩
  rw [z k] at e;cases e
noncomputable abbrev Fan:=List (Nat×Option Nat)
noncomputable def okB (es:List (Int×Int)) (row:List V) (p hh:Int) (F:Fan) (o i:Nat):Bool:=match Be row o,F[i]? with
 | some h,some f=>decide (h<hh)&&!inV (.int h) (hsL es row (farI es f.1 p) es.length)
 | _,_=>false
noncomputable def y6 (es:List (Int×Int)) (row:List V) (p hh:Int) (F:Fan) (o:Nat):Nat→List Nat
 | 0=>[]
 | n+1=>y6 es row p hh F o n++(if okB es row p hh F o n=true then [n] else [])
noncomputable def AQ (es:List (Int×Int)) (row:List V) (p hh:Int) (F:Fan):List Nat→Option (Nat×Nat)
 | []=>none
 | o::near=>match y6 es row p hh F o F.length with
   | []=>AQ es row p hh F near
   | b::_=>some (o,b)
noncomputable def Aj (es:List (Int×Int)) (row:List V) (p hh:Int):Nat→Fan→List Nat→Fan
 | 0,F,_=>F
 | n+1,F,near=>match AQ es row p hh F near with
   | none=>F
   | some (o,b)=>Aj es row p hh n (F++[(o,some b)]) (near.erase o)
noncomputable def Hued (es:List (Int×Int)) (row:List V) (p:Int) (t:Nat):Prop:=(∃ e,es[t]?=some e∧(p=e.1∨p=e.2))∧∃ h,row[t]?=some (.int h)
structure FanOk (es:List (Int×Int)) (row:List V) (p:Int) (F:Fan):Prop where
 z:∃ t,F[0]?=some (t,none)∧row[t]?=some .non
 s:∀ i f,F[i+1]?=some f→∃ b h g,f.2=some b∧b<i+1∧row[f.1]?=some (.int h)∧F[b]?=some g∧∀ k,atH es row (farI es g.1 p) h k=false
 a:∀ f∈F,∃ e,es[f.1]?=some e∧(p=e.1∨p=e.2)
 n:(F.map (·.1)).Nodup
structure NearOk (es:List (Int×Int)) (row:List V) (p:Int) (F:Fan) (near:List Nat):Prop where
 h:∀ o∈near,Hued es row p o
 o:∀ o∈near,o∉F.map (·.1)
 n:near.Nodup
theorem D8 {es:List (Int×Int)} {row:List V} {p hh:Int} {F:Fan} {o:Nat}:∀ {n i:Nat},i∈y6 es row p hh F o n→i<n∧okB es row p hh F o i=true
 | 0,i,h=>by cases h
 | n+1,i,h=>by
   rw [y6,List.mem_append] at h
   rcases h with h | h
   ·obtain ⟨h1,h2⟩:=D8 h
    exact ⟨by omega,h2⟩
   ·split at h
    ·rename_i z
     have:i=n:=by simpa using h
     subst this
     exact ⟨by omega,z⟩
    ·cases h
theorem D9 (es:List (Int×Int)) (row:List V) (p hh:Int) (F:Fan) (o:Nat):∀ n,(y6 es row p hh F o n).length≤n
 | 0=>Nat.le_refl _
 | n+1=>by
   have:=D9 es row p hh F o n
   rw [y6,List.length_append]
   split<;>simp<;>omega
theorem AY {es:List (Int×Int)} {row:List V} {p hh:Int} {F:Fan} {o b:Nat}:∀ {near:List Nat},AQ es row p hh F near=some (o,b)→o∈near∧b<F.length∧okB es row p hh F o b=true
 | [],h=>by cases h
 | x::near,h=>by
   unfold AQ at h
   split at h
   ·obtain ⟨h1,h2⟩:=AY h
    exact ⟨List.mem_cons_of_mem _ h1,h2⟩
   ·rename_i c r e
    cases h
    have:=D8 (es:=es) (row:=row) (p:=p) (hh:=hh) (F:=F) (o:=o) (n:=F.length) (i:=b) (by rw [e];exact List.mem_cons_self ..)
    exact ⟨List.mem_cons_self ..,this⟩
theorem Hj {es:List (Int×Int)} {row:List V} {p hh:Int} {F:Fan} {o i:Nat} (h:okB es row p hh F o i=true):∃ c f,row[o]?=some (.int c)∧F[i]?=some f∧∀ k,atH es row (farI es f.1 p) c k=false:=by
 unfold okB at h
 split at h
 ·rename_i c f e1 e2
  simp only [Bool.and_eq_true,Bool.not_eq_true'] at h
  exact ⟨c,f,hueO_iff.mp e1,e2,noH_iff.mp h.2⟩
 ·cases h
theorem FH {es:List (Int×Int)} {row:List V} {p hh:Int}:∀ {n:Nat} {F:Fan} {near:List Nat},FanOk es row p F→NearOk es row p F near→FanOk es row p (Aj es row p hh n F near)
 | 0,F,near,h,_=>h
 | n+1,F,near,h,g=>by
   unfold Aj
   split
   ·exact h
   ·rename_i o b e
    obtain ⟨h1,h2,h3⟩:=AY e
    obtain ⟨c,f,c1,c2,c3⟩:=Hj h3
    refine FH ⟨?_,?_,?_,?_⟩ ⟨?_,?_,?_⟩
    ·obtain ⟨t,t1,t2⟩:=h.z
     exact ⟨t,by rw [List.getElem?_append_left (List.getElem?_eq_some_iff.mp t1).1];exact t1,t2⟩
    ·intro i f' hf
     by_cases hi:i+1<F.length
     ·rw [List.getElem?_append_left hi] at hf
      obtain ⟨b',h',g',x1,x2,x3,x4,x5⟩:=h.s i f' hf
      exact ⟨b',h',g',x1,x2,x3,by rw [List.getElem?_append_left (List.getElem?_eq_some_iff.mp x4).1];exact x4,x5⟩
     ·have hl:=(List.getElem?_eq_some_iff.mp hf).1
      rw [List.length_append] at hl
      have hi':i+1=F.length:=by simp at hl;omega
      rw [hi',List.getElem?_append_right (Nat.le_refl _)] at hf
      have:f'=(o,some b):=by simpa using hf.symm
      subst this
      exact ⟨b,c,f,rfl,by omega,c1,by rw [List.getElem?_append_left h2];exact c2,c3⟩
    ·intro f' hf
     rcases List.mem_append.mp hf with hf | hf
     ·exact h.a f' hf
     ·rw [List.mem_singleton.mp hf];exact (g.h o h1).1
    ·rw [List.map_append,List.nodup_append]
     refine ⟨h.n,by simp,fun x hx y hy=>?_⟩
     have:y=o:=by simpa using hy
     subst this
     intro z;subst z
     exact g.o _ h1 hx
    ·intro x hx;exact g.h x (List.mem_of_mem_erase hx)
    ·intro x hx
     rw [List.map_append,List.mem_append]
     rintro (z | z)
     ·exact g.o x (List.mem_of_mem_erase hx) z
     ·have:x=o:=by simpa using z
      subst this
      exact (List.Nodup.not_mem_erase g.n) hx
    ·exact g.n.erase _
theorem E8 {es:List (Int×Int)} {row:List V} {p hh:Int}:∀ {n:Nat} {F:Fan} {near:List Nat},(Aj es row p hh n F near).length≤F.length+n
 | 0,F,near=>Nat.le_refl _
 | n+1,F,near=>by
   unfold Aj
   split
   ·omega
   ·refine Nat.le_trans E8 ?_
    simp;omega
end Hue
set_option maxHeartbeats 2000000
namespace Hue
open PySem L2
noncomputable def PrF (H:Hp) (vs:List V) (F:Fan):Prop:=vs.length=F.length∧∀ (i:Nat) v,vs[i]?=some v→∃ q f,v = .ref q∧F[i]?=some f∧H q=some (.tup [natV f.1,Gc f.2])
noncomputable def FanAt (H:Hp) (L:Addr) (F:Fan):Prop:=∃ vs,H L=some (.lst vs)∧PrF H vs F
theorem PrF.mono {H H':Hp} {vs:List V} {F:Fan} (h:PrF H vs F) (k:KeepT H H'):PrF H' vs F:=⟨h.1,fun i v hv=>let ⟨q,f,a,b,c⟩:=h.2 i v hv;⟨q,f,a,b,k _ _ c⟩⟩
theorem FanAt.same {H H':Hp} {L:Addr} {F:Fan} (h:FanAt H L F) (s:Same H H'):FanAt H' L F:=let ⟨vs,a,b⟩:=h;⟨vs,s _ _ a,b.mono (y8 s)⟩
noncomputable def FI (L:Addr) (H:Hp):Nat:=match H L with
 | some (.lst xs)=>xs.length
 | _=>0
theorem at0 (b:Nat) (ac:List Nat):atI ((b::ac).map natV) 0=some (natV b):=p7 (j:=0) rfl
noncomputable def LRow (H:Hp) (a:Addr) (es:List (Int×Int)) (row:List V):Prop:=H a=some (.lst row)∧row.length=es.length∧∀ v∈row,HueV v
theorem LRow.same {H H':Hp} {a:Addr} {es:List (Int×Int)} {row:List V} (h:LRow H a es row) (s:Same H H'):LRow H' a es row:=⟨s _ _ h.1,h.2⟩
open PySem L2
noncomputable abbrev DA:Stmt:=top 36
noncomputable abbrev DB:Stmt:=top 39
noncomputable abbrev Fs:Stmt:=top 40
noncomputable def Eb:Sp:=fun vs H Q _=>∃ (w a:Addr) (m:Int) (es:List (Int×Int)) (row:List V) (p:Int),vs=[.ref w,.ref a,.int p]∧WebE H w m es∧LRow H a es row∧
 ∀ l H',H l=none→Same H H'→H' l=some (.lst (hsL es row p es.length))→Q (.ref l) H'
noncomputable def Ec:Sp:=fun vs H Q _=>∃ (w:Addr) (m:Int) (es:List (Int×Int)) (k:Nat) (p:Int),vs=[.ref w,.int k,.int p]∧WebE H w m es∧k<es.length∧Q (.int (farI es k p)) H
noncomputable def huB (es:List (Int×Int)) (row:List V) (p:Int) (k:Nat):Bool:=match es[k]?,Be row k with
 | some e,some _=>atE p e
 | _,_=>false
noncomputable def w4 (es:List (Int×Int)) (row:List V) (p:Int):Nat→List Nat
 | 0=>[]
 | n+1=>w4 es row p n++(if huB es row p n=true then [n] else [])
theorem Ak {es:List (Int×Int)} {row:List V} {p:Int}:∀ {n k:Nat},k∈w4 es row p n→k<n∧Hued es row p k
 | 0,k,h=>by cases h
 | n+1,k,h=>by
   rw [w4,List.mem_append] at h
   rcases h with h | h
   ·obtain ⟨h1,h2⟩:=Ak h
    exact ⟨by omega,h2⟩
   ·split at h
    ·rename_i z
     have:k=n:=by simpa using h
     subst this
     refine ⟨by omega,?_⟩
     unfold huB at z
     split at z
     ·rename_i e c e1 e2
      exact ⟨⟨e,e1,atE_iff.mp z⟩,c,hueO_iff.mp e2⟩
     ·cases z
    ·cases h
theorem E9 {es:List (Int×Int)} {row:List V} {p:Int}:∀ n,(w4 es row p n).Nodup
 | 0=>by simp [w4]
 | n+1=>by
   rw [w4,List.nodup_append]
   refine ⟨E9 n,by split<;>simp,fun x hx y hy z=>?_⟩
   subst z
   have:=(Ak hx).1
   split at hy
   ·have:x=n:=by simpa using hy
    omega
   ·cases hy
theorem BC {es:List (Int×Int)} {row:List V} {p:Int}:∀ n,(w4 es row p n).length≤n
 | 0=>Nat.le_refl _
 | n+1=>by
   have:=BC (es:=es) (row:=row) (p:=p) n
   rw [w4,List.length_append]
   split<;>simp<;>omega
theorem Hk {es:List (Int×Int)} {row:List V} {p:Int} {k:Nat} (hk:row[k]?=some .non) (n:Nat):NearOk es row p [(k,none)] (w4 es row p n):=
 ⟨fun o ho=>(Ak ho).2,(fun o ho z=>by
   have:o=k:=by simpa using z
   subst this
   obtain ⟨_,h,e⟩:=(Ak ho).2
   rw [hk] at e
   cases e),E9 n⟩
theorem Hl {es:List (Int×Int)} {row:List V} {p:Int} {k:Nat} {e:Int×Int} (hk:row[k]?=some .non) (he:es[k]?=some e) (hp:p=e.1∨p=e.2):FanOk es row p [(k,none)]:=
 ⟨⟨k,rfl,hk⟩,fun i f hf=>by simp at hf,fun f hf=>by rw [List.mem_singleton.mp hf];exact ⟨e,he,hp⟩,by simp⟩
noncomputable def BL (es:List (Int×Int)) (row:List V) (p hh:Int) (k:Nat):Fan:=Aj es row p hh (w4 es row p es.length).length [(k,none)] (w4 es row p es.length)
noncomputable def Gf:Sp:=fun vs H Q _=>∃ (w a:Addr) (m:Int) (es:List (Int×Int)) (row:List V) (k:Nat) (p hh:Int) (e:Int×Int),vs=[.ref w,.ref a,.int k,.int p,.int hh]∧WebE H w m es∧LRow H a es row∧row[k]?=some .non∧es[k]?=some e∧(p=e.1∨p=e.2)∧
 ∀ l H',Same H H'→H l=none→FanAt H' l (BL es row p hh k)→Q (.ref l) H'
noncomputable def RowsAt (H:Hp) (R fa na:Addr) (es:List (Int×Int)) (row:List V) (p:Int) (F:Fan):Prop:=∃ rs,H R=some (.lst rs)∧rs.length=F.length∧∀ (i:Nat) v,rs[i]?=some v→∃ q f,v = .ref q∧F[i]?=some f∧H q=some (.lst (hsL es row (farI es f.1 p) es.length))∧q≠fa∧q≠na∧q≠R
theorem RowsAt.same {H H':Hp} {R fa na:Addr} {es:List (Int×Int)} {row:List V} {p:Int} {F:Fan} (h:RowsAt H R fa na es row p F) (s:Same H H'):RowsAt H' R fa na es row p F:=
 let ⟨rs,a,b,c⟩:=h;⟨rs,s _ _ a,b,fun i v hv=>let ⟨q,f,e1,e2,e3,r⟩:=c i v hv;⟨q,f,e1,e2,s _ _ e3,r⟩⟩
theorem Hm {x:V} {xs:List V}:AS (x::xs) []=false:=by simp [AS]
theorem Hn:AS [] []=true:=by simp [AS]
theorem Gg {ls:List Nat} {o:Nat} (h:o∈ls):∃ j,ls[j]?=some o∧(∀ m,m<j→ls[m]?≠some o)∧ls.erase o=ls.eraseIdx j:=by
 refine ⟨ls.idxOf o,?_,fun m hm z=>?_,List.erase_eq_eraseIdx_of_idxOf rfl⟩
 ·have:=List.idxOf_lt_length_of_mem h
  rw [List.getElem?_eq_getElem this,List.getElem_idxOf]
 ·obtain ⟨h1,h2⟩:=List.getElem?_eq_some_iff.mp z
  have:=List.not_of_lt_findIdx (p:=(· == o)) (xs:=ls) (i:=m) hm
  rw [h2] at this
  simp at this
theorem BM {α β:Type} (f:α→β):∀ (ls:List α) (k:Nat),(ls.map f).eraseIdx k=(ls.eraseIdx k).map f
 | [],k=>by simp
 | x::ls,0=>by simp
 | x::ls,k+1=>by simp [BM f ls k]
theorem Cd (ls:List Nat):ls.map natV=(ls.map (fun (n:Nat)=>(n:Int))).map V.int:=by rw [List.map_map];rfl
theorem FJ:((["_law_tie","_law_pair"]:List Str)++(["_law_hueing_here","_law_place"]:List Str)).Nodup:=by decide +kernel
theorem FK:((["_law_one","_law_pair"]:List Str)++(["_law_hueing_here","_law_place"]:List Str)).Nodup:=by decide +kernel
theorem EB:((["_law_at","_law_row"]:List Str)++(["_law_hueing_here","_law_hues_here","_law_other"]:List Str)).Nodup:=by decide +kernel
section
variable {P:Program} {w:World} {K:PySem.W.Frag} {mg:Str→Option Value} {base:Heap}
theorem JA:FnScope ["_law_web_here","_law_hueing_here","_law_place"] ["_law_web_here","_law_hueing_here","_law_place"] (defScope DA):=⟨rfl,rfl,rfl,by decide +kernel,rfl,by decide +kernel,by decide +kernel⟩
theorem Ho {f:Addr} {fd:FuncData} (F:Fun K "_law_hues" "_law_hues" DA f fd) (T:Txt K mg):FnOk P w K mg base CX0 1 f fd ["_law_web_here","_law_hueing_here","_law_place"] Eb:=by
 refine F.ok JA (fun vs H Q E h=>?_) (fun cdv A outer s H vs Q E hr h=>?_)
 ·obtain ⟨_,_,_,_,_,_,rfl,_⟩:=h;rfl
 ·obtain ⟨w0,a,m,es,row,p,rfl,W,R,q⟩:=h
  refine ⟨_,g9 (l8 (v0 ["_law_tie","_law_pair"] ["_law_hueing_here","_law_place"] [1,2] (Bd (by rfl) T.enum (b7 (j5 m8 (pv 0) d0 (fun _ _=>rfl)) b8))
   (fun _ _ _ _ _=>At (K:=K) (n:=2) rfl rfl (l9 (i7 (i:=0) FJ rfl (Or.inl rfl)) (l9 (i7 (i:=1) FJ rfl (Or.inl rfl)) w6)))
   (fun _ _ _ _ _=>v7 (B0 (j7 (DV (K:=K) rfl) (pv 3) (pv 1) (by with_unfolding_all rfl)) (Aa (v5 (B5 (j5 (AC (K:=K) rfl) (pv 2) (pv 0) (fun _ _=>rfl)))))).pt)
   (fun _ _ _ _ _=>j5 (AC (K:=K) rfl) (pv 2) (pv 0) (fun _ _=>rfl)))),?_⟩
  obtain ⟨ta,ts,hw,ht,htl,he,hb,h61,hm⟩:=W
  refine ⟨_,rfl,w0,_,_,_,rfl,rfl,SqT.of hw,(rfl:atI [V.int m,V.ref ta] 1=some (.ref ta)),ta,rfl,.inr ⟨⟨_,SqT.of ht⟩,fun D hD=>BW (K:=K) (a:=ta) (xs:=ts)
   (fun i ys H2=>Same H H2∧H2 D=some (.lst ys)∧ys=hsL es row p i) ⟨h7 (Same.refl _) hD,b9,rfl⟩ (fun i ys H2 _ h=>SqT.of (h.1 _ _ ht)) ?_ ?_⟩⟩
  ·rintro i v ys H2 pp hv ⟨s2,d2,rfl⟩ hpp
   obtain ⟨qv,e,rfl,ee,hq⟩:=he i v hv
   have hi:i<ts.length:=(List.getElem?_eq_some_iff.mp hv).1
   have hir:i<row.length:=by rw [R.2.1];omega
   have hri:row[i]?=some (row[i]'hir):=by simp
   have s3:Same H (upd H2 pp (.tup [.int (i:Int),.ref qv])):=h7 s2 hpp
   have d3:=j3 (u := .tup [.int (i:Int),.ref qv]) d2 hpp
   generalize hH3:(upd H2 pp (.tup [.int (i:Int),.ref qv]))=H3 at s3 d3
   have p3:H3 pp=some (.tup [.int (i:Int),.ref qv]):=by rw [← hH3];exact b9
   refine ⟨pp,_,rfl,SqT.of p3,rfl,_,_,rfl,_,_,rfl,rfl,?_⟩
   refine ⟨_,rfl,_,rfl,qv,_,rfl,.inr (SqT.of (s3 _ _ hq)),rfl,rfl,_,rfl,?_⟩
   show if inV (.int p) [.int e.1,.int e.2]=true then _ else _
   rw [Ai]
   have no:(∀ h,Be row i=some h→atE p e=true→False)→hsL es row p i=hsL es row p (i+1):=fun z=>by
    rw [hsL,ee]
    cases eh:Be row i with
    | none=>simp
    | some h=>
      have:¬ atE p e=true:=fun y=>z h eh y
      simp [this]
   refine x8 (fun z=>?_) (fun z=>z0 ⟨s3,d3,no fun h _ y=>z y⟩)
   refine ⟨_,rfl,_,rfl,a,row,_,_,rfl,rfl,SqL.of (s3 _ _ R.1),p7 hri,_,rfl,?_⟩
   rcases R.2.2 _ (List.getElem_mem hir) with e1 | ⟨n,e1,_⟩
   ·rw [e1] at hri ⊢
    exact Av rfl ⟨s3,d3,no fun h eh _=>by rw [hueO_iff,hri] at eh;cases eh⟩
   ·rw [e1] at hri ⊢
    refine Cb (fun z=>nomatch z) ⟨_,rfl,_,rfl,a,row,_,_,rfl,rfl,SqL.of (s3 _ _ R.1),p7 hri,d3,i9 (by have:=F8 es row p i;omega),t0 s3 hD,b9,?_⟩
    rw [hsL,ee,hueO_iff.mpr hri]
    simp [z]
  ·rintro ys H2 ⟨s2,d2,rfl⟩
   rw [htl] at d2
   exact q D H2 hD s2 d2
theorem JB:FnScope ["_law_web_here","_law_tie","_law_place"] ["_law_web_here","_law_tie","_law_place"] (defScope DB):=⟨rfl,rfl,rfl,by decide +kernel,rfl,by decide +kernel,by decide +kernel⟩
theorem Hq {f:Addr} {fd:FuncData} (F:Fun K "_law_far" "_law_far" DB f fd) (zu:mg "sum"=none):FnOk P w K mg base CX0 1 f fd ["_law_web_here","_law_tie","_law_place"] Ec:=by
 refine F.ok JB (fun vs H Q E h=>?_) (fun cdv A outer s H vs Q E hr h=>?_)
 ·obtain ⟨_,_,_,_,_,rfl,_⟩:=h;rfl
 ·obtain ⟨w0,m,es,k,p,rfl,W,hk,q⟩:=h
  refine ⟨_,g9 (l8 (l6 EO (d4 (Fm rfl) (by rfl) zu K1 (b7 (j5 m8 (j5 m8 (pv 0) d0 (fun _ _=>rfl)) (pv 1) (fun _ _=>rfl)) b8)) (pv 2))),?_⟩
  obtain ⟨ta,ts,hw,ht,htl,he,hb,h61,hm⟩:=W
  have hk':k<ts.length:=by omega
  obtain ⟨qv,e,ev,ee,hq⟩:=he k _ (List.getElem?_eq_getElem hk')
  refine ⟨_,rfl,w0,_,_,_,rfl,rfl,SqT.of hw,(rfl:atI [V.int m,V.ref ta] 1=some (.ref ta)),_,rfl,ta,ts,_,_,rfl,rfl,SqT.of ht,p7 (by rw [List.getElem?_eq_getElem hk',ev]),?_⟩
  refine ⟨qv,e.1,e.2,rfl,SqT.of hq,_,rfl,_,_,rfl,rfl,?_⟩
  unfold farI at q
  rw [ee] at q
  exact q
end
theorem PrF.add {H:Hp} {vs:List V} {F:Fan} {q:Addr} {f:Nat×Option Nat} (h:PrF H vs F) (hq:H q=some (.tup [natV f.1,Gc f.2])):PrF H (vs++[.ref q]) (F++[f]):=by
 refine ⟨by simp [h.1],fun i v hv=>?_⟩
 by_cases z:i<vs.length
 ·rw [List.getElem?_append_left z] at hv
  obtain ⟨q',f',a,b,c⟩:=h.2 i v hv
  exact ⟨q',f',a,by rw [List.getElem?_append_left (by rw [← h.1];exact z)];exact b,c⟩
 ·have hl:=(List.getElem?_eq_some_iff.mp hv).1
  rw [List.length_append] at hl
  have:i=vs.length:=by simp at hl;omega
  subst this
  rw [List.getElem?_append_right (Nat.le_refl _)] at hv
  have:v = .ref q:=by simpa using hv.symm
  subst this
  exact ⟨q,f,rfl,by rw [h.1,List.getElem?_append_right (Nat.le_refl _)];simp,hq⟩
noncomputable def RowsV (H:Hp) (rs:List V) (R fa na:Addr) (es:List (Int×Int)) (row:List V) (p:Int) (F:Fan):Prop:=rs.length=F.length∧∀ (i:Nat) v,rs[i]?=some v→∃ q f,v = .ref q∧F[i]?=some f∧H q=some (.lst (hsL es row (farI es f.1 p) es.length))∧q≠fa∧q≠na∧q≠R
theorem RowsV.add {H:Hp} {rs:List V} {R fa na:Addr} {es:List (Int×Int)} {row:List V} {p:Int} {F:Fan} {q:Addr} {f:Nat×Option Nat} (h:RowsV H rs R fa na es row p F) (hq:H q=some (.lst (hsL es row (farI es f.1 p) es.length))) (d1:q≠fa) (d2:q≠na) (d3:q≠R):RowsV H (rs++[.ref q]) R fa na es row p (F++[f]):=by
 refine ⟨by simp [h.1],fun i v hv=>?_⟩
 by_cases z:i<rs.length
 ·rw [List.getElem?_append_left z] at hv
  obtain ⟨q',f',a,b,c⟩:=h.2 i v hv
  exact ⟨q',f',a,by rw [List.getElem?_append_left (by rw [← h.1];exact z)];exact b,c⟩
 ·have hl:=(List.getElem?_eq_some_iff.mp hv).1
  rw [List.length_append] at hl
  have:i=rs.length:=by simp at hl;omega
  subst this
  rw [List.getElem?_append_right (Nat.le_refl _)] at hv
  have:v = .ref q:=by simpa using hv.symm
  subst this
  exact ⟨q,f,rfl,by rw [h.1,List.getElem?_append_right (Nat.le_refl _)];simp,hq,d1,d2,d3⟩
theorem RowsV.same {H H':Hp} {rs:List V} {R fa na:Addr} {es:List (Int×Int)} {row:List V} {p:Int} {F:Fan} (h:RowsV H rs R fa na es row p F) (s:Same H H'):RowsV H' rs R fa na es row p F:=
 ⟨h.1,fun i v hv=>let ⟨q,f,e1,e2,e3,r⟩:=h.2 i v hv;⟨q,f,e1,e2,s _ _ e3,r⟩⟩
theorem RowsV.upd {H:Hp} {rs:List V} {R fa na x:Addr} {o:HO} {es:List (Int×Int)} {row:List V} {p:Int} {F:Fan} (h:RowsV H rs R fa na es row p F) (hx:x=fa∨x=na∨x=R):RowsV (upd H x o) rs R fa na es row p F:=
 ⟨h.1,fun i v hv=>let ⟨q,f,e1,e2,e3,r1,r2,r3⟩:=h.2 i v hv;⟨q,f,e1,e2,AG e3 (by rcases hx with rfl | rfl | rfl;exact r1;exact r2;exact r3),r1,r2,r3⟩⟩
structure FSt (H H2:Hp) (fa ra na:Addr) (es:List (Int×Int)) (row:List V) (p:Int) (F:Fan) (near:List Nat) (vs rs:List V):Prop where
 s:Same H H2
 f:H2 fa=some (.lst vs)
 pf:PrF H2 vs F
 r:H2 ra=some (.lst rs)
 pr:RowsV H2 rs ra fa na es row p F
 n:H2 na=some (.lst (near.map natV))
theorem FSt.same {H H2 H3:Hp} {fa ra na:Addr} {es:List (Int×Int)} {row:List V} {p:Int} {F:Fan} {near:List Nat} {vs rs:List V} (h:FSt H H2 fa ra na es row p F near vs rs) (s:Same H2 H3):FSt H H3 fa ra na es row p F near vs rs:=
 ⟨h.s.trans s,s _ _ h.f,h.pf.mono (y8 s),s _ _ h.r,h.pr.same s,s _ _ h.n⟩
noncomputable def Ka (H:Hp):Option (Nat×Nat)→V→Prop
 | none,v=>v = .non
 | some ob,v=>∃ q,v = .ref q∧H q=some (.tup [natV ob.1,natV ob.2])
theorem Ed {ls:List Nat} {i:Nat} {x:V} (hx:(ls.map natV)[i]?=some x):∃ c,ls[i]?=some c∧natV c=x:=by
 rw [List.getElem?_map] at hx
 cases e:ls[i]? with
 | none=>rw [e] at hx;cases hx
 | some c=>rw [e] at hx;exact ⟨c,rfl,by simpa using hx⟩
section
variable {P:Program} {w:World} {K:PySem.W.Frag} {mg:Str→Option Value} {base:Heap}
theorem scFan:FnScope ["_law_web_here","_law_hueing_here","_law_tie","_law_place","_law_hues_here","_law_fan_here","_law_rows","_law_near","_law_turn","_law_further","_law_other","_law_backs"] ["_law_web_here","_law_hueing_here","_law_tie","_law_place","_law_hues_here"] (defScope Fs):=⟨rfl,rfl,rfl,by decide +kernel,rfl,by decide +kernel,by decide +kernel⟩
theorem JC {f:Addr} {fd:FuncData} (F0:Fun K "_law_fan" "_law_fan" Fs f fd) (T:Txt K mg) (CH:Callee P w K mg base 1 "_law_hues" ["_law_web_here","_law_hueing_here","_law_place"] Eb) (CF:Callee P w K mg base 1 "_law_far" ["_law_web_here","_law_tie","_law_place"] Ec):FnOk P w K mg base CX0 2 f fd ["_law_web_here","_law_hueing_here","_law_tie","_law_place","_law_hues_here"] Gf:=by
 refine F0.ok scFan (fun vs H Q E h=>?_) (fun cdv A outer s H vs Q E hr h=>?_)
 ·obtain ⟨_,_,_,_,_,_,_,_,_,rfl,_⟩:=h;rfl
 ·obtain ⟨w0,a,m,es,row,k,p,hh,e0,rfl,W,R,hk,hek,hpe,q⟩:=h
  have hu:=hr.units0
  refine ⟨_,c9 (j8 (i:=5) scFan.nd rfl (Or.inl rfl) (t5 (b7 (u7 (b7 (pv 2) (b7 BO b8))) b8)))
   (c9 (j8 (i:=6) scFan.nd rfl (Or.inl rfl) (t5 (b7 (j9 CH hr (by rfl) (b7 (pv 0) (b7 (pv 1) (b7 (j9 CF hr (by rfl) (b7 (pv 0) (b7 (pv 2) (b7 (pv 3) b8)))) b8)))) b8)))
   (c9 (AW (i:=7) ["_law_one","_law_pair"] ["_law_hueing_here","_law_place"] [1,3] scFan.nd rfl rfl (Bd (by rfl) T.enum (b7 (j5 m8 (pv 0) d0 (fun _ _=>rfl)) b8))
     (fun _ _ _ _ _=>At (K:=K) (n:=2) rfl rfl (l9 (i7 (i:=0) FK rfl (Or.inl rfl)) (l9 (i7 (i:=1) FK rfl (Or.inl rfl)) w6)))
     (fun _ _ _ _ _=>v7 (B0 (j7 (DV (K:=K) rfl) (pv 3) (pv 1) (by with_unfolding_all rfl)) (Aa (v5 (B5 (j5 (AC (K:=K) rfl) (pv 2) (pv 0) (fun _ _=>rfl)))))).pt) (fun _ _ _ _ _=>pv 0))
   (c9 (AH PassesOwn.never rfl (t7 (by rfl) T.range (b7 (d4 l7 (by rfl) T.len AF (b7 (pv 7) b8)) b8)) (i7 (i:=8) scFan.nd rfl (Or.inl rfl))
     (c9 (j8 (i:=9) scFan.nd rfl (Or.inl rfl) BO)
     (c9 (AH PassesOwn.never rfl (An (pv 7)) (i7 (i:=10) scFan.nd rfl (Or.inr rfl))
       (c9 (AW (i:=11) ["_law_at","_law_row"] ["_law_hueing_here","_law_hues_here","_law_other"] [1,4,10] scFan.nd rfl rfl (Bd (by rfl) T.enum (b7 (pv 6) b8))
         (fun _ _ _ _ _=>At (K:=K) (n:=2) rfl rfl (l9 (i7 (i:=0) EB rfl (Or.inl rfl)) (l9 (i7 (i:=1) EB rfl (Or.inl rfl)) w6)))
         (fun _ _ _ _ _=>v7 (B0 (j7 CL (j5 (AC (K:=K) rfl) (pv 2) (pv 4) (fun _ _=>rfl)) (pv 3) (m7 _)) (Aa (j7 (Bu (K:=K) rfl) (j5 (AC (K:=K) rfl) (pv 2) (pv 4) (fun _ _=>rfl)) (pv 1) (by with_unfolding_all rfl)))).pt) (fun _ _ _ _ _=>pv 0))
       (g9 (n6 (B0 (v5 (A1 (pv 9))) (Aa (j7 (EU hu) (pv 11) (t5 b8) (m7 _)))).pt (g9 (j8 (i:=9) scFan.nd rfl (Or.inl rfl) (u7 (b7 (pv 10) (b7 (j5 u5 (pv 11) d0 (fun _ _=>rfl)) b8))))) i8))))
     (c9 (n6 (v5 (A1 (pv 9))) (g9 (l8 (pv 5))) i8)
     (c9 (v6 (Af PySem.F.plainAttrs_list PySem.F.slot_list_remove PySem.F.type_list_remove Fn (pv 7) (b7 (j5 m8 (pv 9) d0 (fun _ _=>rfl)) b8)))
     (c9 (v6 (Af PySem.F.plainAttrs_list PySem.F.slot_list_append PySem.F.type_list_append AI (pv 5) (b7 (pv 9) b8)))
     (g9 (v6 (Af PySem.F.plainAttrs_list PySem.F.slot_list_append PySem.F.type_list_append AI (pv 6) (b7 (j9 CH hr (by rfl) (b7 (pv 0) (b7 (pv 1) (b7 (j9 CF hr (by rfl) (b7 (pv 0) (b7 (j5 m8 (pv 9) d0 (fun _ _=>rfl)) (b7 (pv 3) b8)))) b8)))) b8))))))))))
   (g9 (l8 (pv 5)))))),?_⟩
  have hkl:k<es.length:=(List.getElem?_eq_some_iff.mp hek).1
  obtain ⟨ta,ts,hw,ht,htl,he,hbd,h61,hm⟩:=id W
  refine ⟨_,rfl,by show 2≤sizeLine;decide,fun q0 hq0=>⟨by show 1≤sizeLine;decide,fun fa hfa=>?_⟩⟩
  have s2:Same H (upd (upd H q0 (.tup [.int (k:Int),.non])) fa (.lst [.ref q0])):=h7 (h7 (Same.refl _) hq0) hfa
  have f2:(upd (upd H q0 (.tup [.int (k:Int),.non])) fa (.lst [.ref q0])) fa=some (.lst [.ref q0]):=b9
  have t2:(upd (upd H q0 (.tup [.int (k:Int),.non])) fa (.lst [.ref q0])) q0=some (.tup [.int (k:Int),.non]):=j3 b9 hfa
  have nfa:H fa=none:=(h7 (o := .tup [.int (k:Int),.non]) (Same.refl H) hq0).free hfa
  generalize (upd (upd H q0 (.tup [.int (k:Int),.non])) fa (.lst [.ref q0]))=H2 at s2 f2 t2
  refine ⟨_,rfl,_,rfl,_,rfl,_,rfl,_,rfl,w0,m,es,k,p,rfl,W.mono (y8 s2),hkl,w0,a,m,es,row,farI es k p,rfl,W.mono (y8 s2),R.same s2,fun l H3 nl s3 hl=>⟨by show 1≤sizeLine;decide,fun ra hra=>?_⟩⟩
  have lfa:l≠fa:=fun z=>by subst z;rw [f2] at nl;cases nl
  have s4:Same H2 (upd H3 ra (.lst [.ref l])):=h7 s3 hra
  have r4:(upd H3 ra (.lst [.ref l])) ra=some (.lst [.ref l]):=b9
  have l4:(upd H3 ra (.lst [.ref l])) l=some (.lst (hsL es row (farI es k p) es.length)):=j3 hl hra
  have fra:fa≠ra:=d7 (s3 _ _ f2) hra
  have lra:l≠ra:=d7 hl hra
  have nra:H ra=none:=(s2.trans s3).free hra
  generalize (upd H3 ra (.lst [.ref l]))=H4 at s4 r4 l4
  have f4:=s4 _ _ f2
  have t4:=s4 _ _ t2
  have s04:=s2.trans s4
  refine ⟨_,rfl,w0,_,_,_,rfl,rfl,SqT.of (s04 _ _ hw),(rfl:atI [V.int m,V.ref ta] 1=some (.ref ta)),ta,rfl,.inr ⟨⟨_,SqT.of (s04 _ _ ht)⟩,fun na hna=>BW (K:=K) (a:=ta) (xs:=ts)
   (fun i ys H5=>Same H4 H5∧H5 na=some (.lst ys)∧ys=(w4 es row p i).map natV) ⟨h7 (Same.refl _) hna,b9,rfl⟩ (fun i ys H5 _ h=>SqT.of (h.1 _ _ (s04 _ _ ht))) ?_ ?_⟩⟩
  ·rintro i v ys H5 pp hv ⟨s5,d5,rfl⟩ hpp
   obtain ⟨qv,e,rfl,ee,hq⟩:=he i v hv
   have hi:i<ts.length:=(List.getElem?_eq_some_iff.mp hv).1
   have hir:i<row.length:=by rw [R.2.1];omega
   have hri:row[i]?=some (row[i]'hir):=by simp
   have s6:Same H4 (upd H5 pp (.tup [.int (i:Int),.ref qv])):=h7 s5 hpp
   have d6:=j3 (u := .tup [.int (i:Int),.ref qv]) d5 hpp
   have p6:(upd H5 pp (.tup [.int (i:Int),.ref qv])) pp=some (.tup [.int (i:Int),.ref qv]):=b9
   generalize (upd H5 pp (.tup [.int (i:Int),.ref qv]))=H6 at s6 d6 p6
   have s06:=s04.trans s6
   refine ⟨pp,_,rfl,SqT.of p6,rfl,_,_,rfl,_,_,rfl,rfl,?_⟩
   refine ⟨_,rfl,_,rfl,qv,_,rfl,.inr (SqT.of (s06 _ _ hq)),rfl,rfl,_,rfl,?_⟩
   show if inV (.int p) [.int e.1,.int e.2]=true then _ else _
   rw [Ai]
   have no:¬ huB es row p i=true→(w4 es row p i).map natV=(w4 es row p (i+1)).map natV:=fun z=>by rw [w4,if_neg z,List.append_nil]
   refine x8 (fun z=>?_) (fun z=>z0 ⟨s6,d6,no fun y=>z ?_⟩)
   ·refine ⟨_,rfl,_,rfl,a,row,_,_,rfl,rfl,SqL.of (s06 _ _ R.1),p7 hri,_,rfl,?_⟩
    rcases R.2.2 _ (List.getElem_mem hir) with e1 | ⟨n,e1,_⟩
    ·rw [e1] at hri ⊢
     refine Av rfl ⟨s6,d6,no fun y=>?_⟩
     unfold huB at y
     split at y
     ·rename_i eh;rw [hueO_iff,hri] at eh;cases eh
     ·cases y
    ·rw [e1] at hri ⊢
     refine Cb (fun z=>nomatch z) ⟨_,rfl,d6,i9 (by rw [List.length_map];have:=BC (es:=es) (row:=row) (p:=p) i;omega),t0 s6 hna,b9,?_⟩
     rw [w4,if_pos (by unfold huB;rw [ee,hueO_iff.mpr hri];exact z),List.map_append];rfl
   ·unfold huB at y
    rw [ee] at y
    split at y
    ·rename_i e1 _
     cases e1;exact y
    ·cases y
  ·rintro ys H5 ⟨s5,d5,rfl⟩
   rw [htl] at d5
   have nnl:=BC (es:=es) (row:=row) (p:=p) es.length
   obtain ⟨near0,en0⟩:∃ near0,w4 es row p es.length=near0:=⟨_,rfl⟩
   have efan:BL es row p hh k=Aj es row p hh near0.length [(k,none)] near0:=by unfold BL;rw [en0]
   have O0:FanOk es row p [(k,none)]:=Hl hk hek hpe
   have N0:NearOk es row p [(k,none)] near0:=by rw [← en0];exact Hk hk _
   rw [en0] at d5 nnl
   have nna:H na=none:=s04.free hna
   have fna:fa≠na:=d7 f4 hna
   have rna:ra≠na:=d7 r4 hna
   have lna:l≠na:=d7 l4 hna
   have Z0:FSt H H5 fa ra na es row p [(k,none)] near0 [.ref q0] [.ref l]:=by
    refine ⟨s04.trans s5,s5 _ _ f4,⟨rfl,fun i v hv=>?_⟩,s5 _ _ r4,⟨rfl,fun i v hv=>?_⟩,d5⟩
    ·match i with
     | 0=>cases hv;exact ⟨q0,(k,none),rfl,rfl,s5 _ _ t4⟩
     | i+1=>simp at hv
    ·match i with
     | 0=>cases hv;exact ⟨l,(k,none),rfl,rfl,s5 _ _ l4,lfa,lna,lra⟩
     | i+1=>simp at hv
   rw [efan] at q
   refine ⟨_,rfl,na,_,rfl,.inl (SqL.of d5),_,rfl,by omega,by rw [List.length_map];omega,y9 (lo:=0) (n:=(((near0.map natV).length:Nat):Int).toNat)
    (fun i σ H6=>∃ (o8 o9 o10 o11:Option V) (F:Fan) (near:List Nat) (vs rs:List V),σ=[some (.ref w0),some (.ref a),some (.int k),some (.int p),some (.int hh),some (.ref fa),some (.ref ra),some (.ref na),o8,o9,o10,o11]∧FSt H H6 fa ra na es row p F near vs rs∧
      Aj es row p hh near0.length [(k,none)] near0=Aj es row p hh (near0.length - i) F near∧F.length=i+1∧near.length≤es.length∧FanOk es row p F∧NearOk es row p F near)
    ⟨none,none,none,none,_,_,_,_,rfl,Z0,rfl,rfl,nnl,O0,N0⟩ ?_ ?_⟩
   ·rintro i σ H6 hi ⟨o8,o9,o10,o11,F,near,vs,rs,rfl,Z,ef,hF,hnl,O,N⟩
    have hi':i<near0.length:=by simpa using hi
    have hsub:near0.length - i=(near0.length - (i+1))+1:=by omega
    rw [hsub] at ef
    refine ⟨_,rfl,na,rfl,⟨_,SqL.of Z.n⟩,BY (K:=K) (a:=na) (xs:=near.map natV)
     (fun j σ H7=>∃ (fv:V) (o10 o11:Option V) (fu:Option (Nat×Nat)),σ=[some (.ref w0),some (.ref a),some (.int k),some (.int p),some (.int hh),some (.ref fa),some (.ref ra),some (.ref na),some (.int (0+(i:Int))),some fv,o10,o11]∧Same H6 H7∧Ka H7 fu fv∧
       ((fu=none∧AQ es row p hh F near=AQ es row p hh F (near.drop j))∨(∃ ob,fu=some ob∧AQ es row p hh F near=some ob)))
     ⟨.non,o10,o11,none,rfl,Same.refl _,rfl,.inl ⟨rfl,rfl⟩⟩ (fun j σ H7 _ h=>by obtain ⟨_,_,_,_,_,s7,_⟩:=h;exact SqL.of (s7 _ _ Z.n)) ?_ ?_⟩
    ·rintro j x σ H7 hx ⟨fv,o10',o11',fu,rfl,s7,hfu,hnx⟩
     obtain ⟨o,ho,rfl⟩:=Ed hx
     have hj:j<near.length:=(List.getElem?_eq_some_iff.mp ho).1
     have Z7:=Z.same s7
     obtain ⟨⟨eo,eo1,eo2⟩,ho2,hro⟩:=N.h o (List.mem_of_getElem? ho)
     have ha7:=Z7.s _ _ R.1
     refine ⟨_,rfl,ra,rfl,.inl ⟨⟨_,SqL.of Z7.r⟩,fun B hB=>EW (K:=K) (a:=ra) (xs:=rs) (fun b ys H8=>Same H7 H8∧H8 B=some (.lst ys)∧ys=(y6 es row p hh F o b).map natV) ⟨h7 (Same.refl _) hB,b9,rfl⟩ (fun b ys H8 _ h=>SqL.of (h.1 _ _ Z7.r)) ?_ ?_⟩⟩
     ·rintro b v ys H8 pp hv ⟨s8,d8,rfl⟩ hpp
      obtain ⟨qr,fr,rfl,efr,hqr,_⟩:=Z7.pr.2 b v hv
      have hb:b<rs.length:=(List.getElem?_eq_some_iff.mp hv).1
      have hbF:b<F.length:=by rw [← Z7.pr.1];exact hb
      have s9:Same H7 (upd H8 pp (.tup [.int (b:Int),.ref qr])):=h7 s8 hpp
      have d9:=j3 (u := .tup [.int (b:Int),.ref qr]) d8 hpp
      have p9:(upd H8 pp (.tup [.int (b:Int),.ref qr])) pp=some (.tup [.int (b:Int),.ref qr]):=b9
      generalize (upd H8 pp (.tup [.int (b:Int),.ref qr]))=H9 at s9 d9 p9
      have okE:okB es row p hh F o b=(decide (ho2<hh)&&!inV (.int ho2) (hsL es row (farI es fr.1 p) es.length)):=by
       unfold okB
       rw [hueO_iff.mpr hro,efr]
      have no:¬ okB es row p hh F o b=true→(y6 es row p hh F o b).map natV=(y6 es row p hh F o (b+1)).map natV:=fun z=>by rw [y6,if_neg z,List.append_nil]
      refine ⟨pp,_,rfl,SqT.of p9,rfl,_,_,rfl,_,_,rfl,rfl,?_⟩
      refine ⟨_,rfl,_,rfl,a,row,_,_,rfl,rfl,SqL.of (s9 _ _ ha7),p7 hro,_,rfl,_,_,rfl,rfl,_,rfl,?_⟩
      by_cases z1:ho2<hh
      ·refine Cl z1 ?_
       refine ⟨_,rfl,_,rfl,a,row,_,_,rfl,rfl,SqL.of (s9 _ _ ha7),p7 hro,_,rfl,qr,_,rfl,.inl (SqL.of (s9 _ _ hqr)),rfl,Gd es row _ _,_,rfl,?_⟩
       show if (!inV (.int ho2) (hsL es row (farI es fr.1 p) es.length))=true then _ else _
       refine x8 (fun z2=>⟨_,rfl,d9,i9 (by rw [List.length_map];have:=D9 es row p hh F o b;omega),t0 s9 hB,b9,?_⟩) (fun z2=>⟨s9,d9,no (by rw [okE];simp only [Bool.and_eq_true,not_and];intro _;exact z2)⟩)
       rw [y6,if_pos (by rw [okE,z2];simp [z1]),List.map_append];rfl
      ·exact Ah z1 (z0 ⟨s9,d9,no (by rw [okE];simp [z1])⟩)
     ·rintro ys H8 ⟨s8,d8,rfl⟩
      rw [Z7.pr.1] at d8
      have hdrop:near.drop j=o::near.drop (j+1):=by
       rw [List.drop_eq_getElem_cons hj]
       congr 1
       have:=ho
       rw [List.getElem?_eq_getElem hj] at this
       exact Option.some.inj this
      have hnb:AQ es row p hh F (near.drop j)=match y6 es row p hh F o F.length with
       | []=>AQ es row p hh F (near.drop (j+1))
       | b::_=>some (o,b):=by
       rw [hdrop]
       cases hb:y6 es row p hh F o F.length<;>simp only [AQ,hb]
      cases fu with
      | none=>
        cases hfu
        have hn:=hnx.elim (·.2) fun ⟨ob,z,_⟩=>by cases z
        refine ⟨_,rfl,_,rfl,Cl rfl ?_⟩
        refine ⟨_,rfl,by show 0≤sizeLine;decide,fun z hz=>?_⟩
        have d9:=j3 (u := .lst []) d8 hz
        have s9:=h7 (o := .lst []) s8 hz
        refine ⟨B,z,_,[],rfl,rfl,SqL.of d9,SqL.of b9,.inr (.inr rfl),_,rfl,?_⟩
        cases eb:y6 es row p hh F o F.length with
        | nil=>
          rw [eb] at hnb
          show if (!AS [] [])=true then _ else _
          rw [Hn]
          exact z0 ⟨.non,_,_,none,rfl,s7.trans s9,rfl,.inl ⟨rfl,by rw [hn,hnb]⟩⟩
        | cons b0 br=>
          rw [eb] at hnb d9
          show if (!AS (natV b0::br.map natV) [])=true then _ else _
          rw [Hm]
          refine AZ ⟨_,rfl,_,rfl,B,_,_,_,rfl,rfl,SqL.of d9,at0 b0 br,by show 2≤sizeLine;decide,fun g hg=>?_⟩
          exact ⟨.ref g,_,_,some (o,b0),rfl,s7.trans (h7 s9 hg),⟨g,rfl,b9⟩,.inr ⟨(o,b0),rfl,by rw [hn,hnb]⟩⟩
      | some ob=>
        obtain ⟨qf,rfl,hqf⟩:=hfu
        obtain ⟨ob',z,hn⟩:=hnx.elim (fun h=>by cases h.1) id
        cases z
        refine ⟨_,rfl,_,rfl,Ah (fun z=>nomatch z) (z0 ?_)⟩
        exact ⟨.ref qf,_,_,some ob,rfl,s7.trans s8,⟨qf,rfl,s8 _ _ hqf⟩,.inr ⟨ob,rfl,hn⟩⟩
    ·rintro σ H7 ⟨fv,o10',o11',fu,rfl,s7,hfu,hnx⟩
     rw [List.length_map,List.drop_length] at hnx
     have Z7:=Z.same s7
     cases fu with
     | none=>
       cases hfu
       have hn:=hnx.elim (·.2) fun ⟨ob,z,_⟩=>by cases z
       have hn':AQ es row p hh F near=none:=by rw [hn];rfl
       refine ⟨_,rfl,_,rfl,Cl rfl ?_⟩
       rw [Aj,hn'] at ef
       refine ⟨_,rfl,q fa H7 Z7.s nfa ?_⟩
       rw [ef]
       exact ⟨vs,Z7.f,Z7.pf⟩
     | some ob=>
       obtain ⟨qf,rfl,hqf⟩:=hfu
       obtain ⟨ob',z,hn⟩:=hnx.elim (fun h=>by cases h.1) id
       cases z
       obtain ⟨o,b⟩:=ob
       obtain ⟨hon,hbF,hok⟩:=AY hn
       rw [Aj,hn] at ef
       refine ⟨_,rfl,_,rfl,Ah (fun z=>nomatch z) ?_⟩
       obtain ⟨j,hj1,hj2,hj3⟩:=Gg hon
       have hoe:o<es.length:=by
        obtain ⟨⟨e,e1,_⟩,_⟩:=N.h o hon
        exact (List.getElem?_eq_some_iff.mp e1).1
       refine ⟨_,rfl,.inl ⟨rfl,_,SqL.of Z7.n⟩,_,rfl,qf,_,_,_,rfl,rfl,SqT.of hqf,(rfl:atI [natV o,natV b] 0=some (natV o)),?_⟩
       refine ⟨na,near.map (fun (n:Nat)=>(n:Int)),(o:Int),j,rfl,rfl,by rw [← Cd];exact Z7.n,by rw [List.getElem?_map,hj1];rfl,fun m' hm' z=>hj2 m' hm' ?_,?_⟩
       ·rw [List.getElem?_map] at z
        cases e:near[m']? with
        | none=>rw [e] at z;cases z
        | some c=>
          rw [e] at z
          have:(c:Int)=(o:Int):=by simpa using z
          have:c=o:=by omega
          rw [this]
       rw [BM,← Cd,← hj3]
       have s8:Same H (upd H7 na (.lst ((near.erase o).map natV))):=t0 Z7.s nna
       have k8:KeepT H7 (upd H7 na (.lst ((near.erase o).map natV))):=KeepT.lst Z7.n
       have n8:(upd H7 na (.lst ((near.erase o).map natV))) na=some (.lst ((near.erase o).map natV)):=b9
       have f8:(upd H7 na (.lst ((near.erase o).map natV))) fa=some (.lst vs):=AG Z7.f fna
       have r8:(upd H7 na (.lst ((near.erase o).map natV))) ra=some (.lst rs):=AG Z7.r rna
       have pr8:=Z7.pr.upd (o := .lst ((near.erase o).map natV)) (.inr (.inl rfl))
       have pf8:=Z7.pf.mono k8
       have q8:=k8 _ _ hqf
       generalize (upd H7 na (.lst ((near.erase o).map natV)))=H8 at s8 n8 f8 r8 pr8 pf8 q8
       have hvl:vs.length≤es.length:=by rw [pf8.1,hF];omega
       refine ⟨_,rfl,.inl ⟨rfl,_,SqL.of f8⟩,_,rfl,fa,_,_,rfl,rfl,f8,i9 (by omega),?_⟩
       have s9:Same H (upd H8 fa (.lst (vs++[.ref qf]))):=t0 s8 nfa
       have k9:KeepT H8 (upd H8 fa (.lst (vs++[.ref qf]))):=KeepT.lst f8
       have f9:(upd H8 fa (.lst (vs++[.ref qf]))) fa=some (.lst (vs++[.ref qf])):=b9
       have n9:(upd H8 fa (.lst (vs++[.ref qf]))) na=some (.lst ((near.erase o).map natV)):=AG n8 fna.symm
       have r9:(upd H8 fa (.lst (vs++[.ref qf]))) ra=some (.lst rs):=AG r8 fra.symm
       have pr9:=pr8.upd (o := .lst (vs++[.ref qf])) (.inl rfl)
       have pf9:PrF (upd H8 fa (.lst (vs++[.ref qf]))) (vs++[.ref qf]) (F++[(o,some b)]):=(pf8.mono k9).add (k9 _ _ q8)
       have q9:=k9 _ _ q8
       generalize (upd H8 fa (.lst (vs++[.ref qf])))=H9 at s9 f9 n9 r9 pr9 pf9 q9
       refine ⟨_,rfl,.inl ⟨rfl,_,SqL.of r9⟩,_,rfl,_,rfl,_,rfl,_,rfl,qf,_,_,_,rfl,rfl,SqT.of q9,(rfl:atI [natV o,natV b] 0=some (natV o)),_,rfl,?_⟩
       refine ⟨w0,m,es,o,p,rfl,W.mono (y8 s9),hoe,w0,a,m,es,row,farI es o p,rfl,W.mono (y8 s9),R.same s9,fun l2 HA nl2 sA hl2=>?_⟩
       have d1:l2≠fa:=fun z=>by subst z;rw [f9] at nl2;cases nl2
       have d2:l2≠na:=fun z=>by subst z;rw [n9] at nl2;cases nl2
       have d3:l2≠ra:=fun z=>by subst z;rw [r9] at nl2;cases nl2
       refine ⟨ra,_,_,rfl,rfl,sA _ _ r9,i9 (by rw [pr9.1,hF];omega),_,_,_,_,F++[(o,some b)],near.erase o,vs++[.ref qf],rs++[.ref l2],rfl,?_,ef,by simp [hF],?_,?_,?_⟩
       ·refine ⟨t0 (s9.trans sA) nra,AG (sA _ _ f9) fra,(pf9.mono (y8 sA)).mono (KeepT.lst (sA _ _ r9)),b9,?_,AG (sA _ _ n9) rna.symm⟩
        exact ((pr9.same sA).add (f:=(o,some b)) hl2 d1 d2 d3).upd (.inr (.inr rfl))
       ·have:=List.length_erase_le (a:=o) (l:=near);omega
       ·have:=FH (hh:=hh) (n:=1) O N
        rw [Aj,hn] at this
        exact this
       ·refine ⟨fun x hx=>N.h x (List.mem_of_mem_erase hx),fun x hx=>?_,N.n.erase _⟩
        rw [List.map_append,List.mem_append]
        rintro (z | z)
        ·exact N.o x (List.mem_of_mem_erase hx) z
        ·have:x=o:=by simpa using z
         subst this
         exact (List.Nodup.not_mem_erase N.n) hx
   ·rintro σ H6 ⟨o8,o9,o10,o11,F,near,vs,rs,rfl,Z,ef,hF,hnl,O,N⟩
    rw [Int.toNat_natCast,List.length_map,Nat.sub_self] at ef
    refine ⟨_,rfl,q fa H6 Z.s nfa ?_⟩
    rw [ef]
    exact ⟨vs,Z.f,Z.pf⟩
end
end Hue
namespace L2
open PySem PySem.Spec PyProof.Rows
noncomputable def Am (h:Heap) (bad:Addr→Bool):Heap:={h with objs:=h.objs.mapIdx fun i o=>if bad i=true then {o with data := .freed} else o}
theorem m9 (h:Heap) (bad:Addr→Bool) (b:Addr):(Am h bad).get? b=if bad b=true then none else h.get? b:=by
 unfold Am Heap.get?
 simp only [Array.getElem?_mapIdx]
 cases e:h.objs[b]? with
 | none=>simp
 | some o=>
   cases hb:bad b with
   | true=>simp [hb]
   | false=>simp [hb]
theorem ObjOk.here {P:Program} {w:World} {H:Hp} {h:Heap} {a:Addr} {o:HO} (x:ObjOk P w H h a o):∃ ob,h.get? a=some ob:=by
 cases o with
 | lst xs=>obtain ⟨_,_,_,_,e⟩:=x;exact ⟨_,e⟩
 | tup xs=>obtain ⟨_,_,_,o,e,_⟩:=x;exact ⟨_,e⟩
 | dK kvs=>obtain ⟨_,_,_,_,o,_,_,e,_⟩:=x;exact ⟨_,e⟩
 | dT kvs=>obtain ⟨_,_,_,_,o,_,_,e,_⟩:=x;exact ⟨_,e⟩
 | set S n=>obtain ⟨o,_,_,_,e,_⟩:=x;exact ⟨_,e⟩
 | ins C dx fs=>obtain ⟨_,_,_,e,_⟩:=x;exact ⟨_,e⟩
 | own y=>exact x
 | xd fs=>obtain ⟨_,⟨_,_,_,e,_⟩,_⟩:=x;exact ⟨_,e⟩
 | rng lo hi=>obtain ⟨_,_,_,e⟩:=x;exact ⟨_,e⟩
 | frz ob u=>obtain ⟨e,_⟩:=x;exact ⟨_,e⟩
 | tbl ps=>exact ⟨_,(show h.get? a=some _ from x)⟩
 | met f y=>exact ⟨_,(show h.get? a=some _ from x)⟩
 | ext φ=>obtain ⟨_,e,_⟩:=x;exact e
structure Xc (h0 h:Heap) (H:Hp) (x:Addr) (C:Value):Prop where
 fresh:h0.get? x=none
 free:H x=none
 obj:∃ (oe:Obj) (vs:Array Value) (a0:Value),h.get? x=some oe∧oe.cls=C∧oe.data = .fields vs∧vs[0]?=some a0∧
  (vs[1]?=some .none∨∃ (T:Addr) (oT:Obj) (ts:Array Value),vs[1]?=some (.ref T)∧T≠x∧h0.get? T=none∧H T=none∧h.get? T=some oT∧oT.data = .fields ts∧ts[3]?=some .none)
structure Xt (h0 h:Heap) (H:Hp) (x:Addr) (C:Value):Prop where
 fresh:h0.get? x=none
 free:H x=none
 newer:∀ b,h.get? b=none→h0.get? b=none
 obj:∃ (oe:Obj) (vs:Array Value) (a0:Value) (T:Addr) (oT:Obj) (ts:Array Value),h.get? x=some oe∧oe.cls=C∧oe.data = .fields vs∧vs[0]?=some a0∧vs[1]?=some (.ref T)∧T≠x∧h0.get? T=none∧H T=none∧h.get? T=some oT∧oT.data = .fields ts∧ts[3]?=some .none
theorem Xt.xc {h0 h:Heap} {H:Hp} {x:Addr} {C:Value} (t:Xt h0 h H x C):Xc h0 h H x C:=
 let ⟨oe,vs,a0,T,oT,ts,e1,e2,e3,e4,e5,e6,e7,e8,e9,e10,e11⟩:=t.obj
 ⟨t.fresh,t.free,oe,vs,a0,e1,e2,e3,e4,.inr ⟨T,oT,ts,e5,e6,e7,e8,e9,e10,e11⟩⟩
noncomputable def CXE (P:Program) (w:World):CXT:=fun outer H s E e s'=>∃ (x:Addr) (C:Value) (H':Hp),e = .ref x∧s'.os=s.os∧AllBare s'.gens∧Un (frs outer) [] H H' s.heap s'.heap∧HOk P w H' s'.heap∧Xt s.heap s'.heap H' x C∧E C none H'
theorem AD {h B B':Heap}:∀ {l:List Env},h.FunFrames B l→(∀ L∈frs l,B'.get? L=none)→h.FunFrames B' l
 | [],_,_=>trivial
 | env::r,⟨hk,⟨L,o,hf,hn,ho,hd⟩,hr⟩,hB=>by
   refine ⟨hk,⟨L,o,hf,hB L ?_,ho,hd⟩,AD hr fun M hM=>hB M ?_⟩
   ·unfold frs;rw [List.filterMap_cons,hf];exact List.mem_cons_self
   ·unfold frs;rw [List.filterMap_cons,hf];exact List.mem_cons_of_mem _ hM
section
variable {X:Cx} {pins:List (Addr×Obj)} {σ:St} {H:Hp} {s:Shared} {E:XK} {Ex:Value→Shared→Prop}
theorem Gh (I:Inv X pins σ H s) (hst:X.stack=X.env::X.outer) (hfrm:X.env.frame=some X.env.locals) (hex:X.ex=[]) {x:Addr} {C:Value} (xc:Xc X.s₀.heap s.heap H x C) (hE:E C none H):
 wpAny (model X.prog X.w) X.A (leaving X.env (.ref x)) (fun _ s''=>CXE X.prog X.w X.outer X.H₀ X.s₀ E (.ref x) s'') Ex s:=by
 obtain ⟨fresh,free,oe,vs,a0,hx,hcls,hd,h0,hT⟩:=xc
 have hfr:=I.ok.frames
 have hst':=I.stack
 have hsf:=I.stkFree
 rw [hst] at hfr hst' hsf
 have fs0:frs (X.env::X.outer)=X.env.locals::X.fs:=by unfold frs;rw [List.filterMap_cons,hfrm];rfl
 have noex:∀ b:Addr,b∉X.ex:=fun b z=>by rw [hex] at z;cases z
 have lnew:∀ b o,X.s₀.heap.get? b=some o→b≠X.env.locals:=fun b o e z=>by
  have:=Heap.lt_size e
  have h2:=I.ok.above
  rw [z] at this
  exact absurd (Nat.lt_of_lt_of_le this h2) (Nat.lt_irrefl _)
 -- what comes of it,for any heap in which all but some objects stay
 have fin:∀ (bad:Addr→Bool) (h':Heap),(∀ b o,X.s₀.heap.get? b=some o→b∉X.fs→bad b=false)→(∀ b o,H b=some o→bad b=false)→(∀ b,bad b=true→b=x∨b∈X.env.locals::X.fs∨(X.s₀.heap.get? b=none∧H b=none))→
  Heap.LeftW (Am s.heap bad) (X.env::X.outer) x C a0 s.heap h'→CXE X.prog X.w X.outer X.H₀ X.s₀ E (.ref x) {s with heap:=h'}:=by
  intro bad h' b0 b1 b2 ⟨k1,k2,k3,k4⟩
  have stay:∀ b o,bad b=false→s.heap.get? b=some o→h'.get? b=some o:=fun b o hb e=>k1 b o (by rw [m9,hb];simpa using e)
  have slotk:∀ b o,b∈X.env.locals::X.fs→s.heap.get? b=some o→∃ sl,h'.get? b=some {o with slots:=sl}:=fun b o hb e=>by
   rw [← fs0] at hb
   obtain ⟨_,o',ho',hn⟩:=hst'.mem hb
   rw [e] at ho'
   cases ho'
   exact k4 b o e hn
  have there:∀ b o,X.s₀.heap.get? b=some o→∃ o',h'.get? b=some o':=fun b o e=>by
   obtain ⟨o',e'⟩:=I.base.there b o e (noex b)
   by_cases hb:b∈X.fs
   ·obtain ⟨sl,e2⟩:=slotk b _ (List.mem_cons_of_mem _ hb) e'
    exact ⟨_,e2⟩
   ·exact ⟨_,stay b o' (b0 b o e hb) e'⟩
  refine ⟨x,C,H,rfl,I.os,I.bare,⟨?_,?_,?_,fun b o e _=>there b o e,I.base.tups,I.base.frzs,I.base.tbls⟩,?_,⟨fresh,free,?_,?_⟩,hE⟩
  ·intro b o e n hb _
   exact stay b o (b0 b o e hb) (I.base.keep b o e n hb (noex b))
  ·intro b o e n hb _
   obtain ⟨sl,e1⟩:=I.base.slot b o e n hb (noex b)
   obtain ⟨sl',e2⟩:=slotk b _ (List.mem_cons_of_mem _ hb) e1
   exact ⟨sl',e2⟩
  ·intro b o e n _
   exact I.base.free b o e n (noex b)
  ·intro a o e
   refine (I.hok a o e).stay (fun b u hb e'=>?_) (fun _ h=>h) (fun _ _ h=>h)
   rcases hb with rfl | hb
   ·exact stay b u (b1 b o e) e'
   ·exact stay b u (b1 b _ hb) e'
  ·intro b e
   cases q:X.s₀.heap.get? b with
   | none=>rfl
   | some o=>
     obtain ⟨o',q'⟩:=there b o q
     have e:h'.get? b=none:=e
     rw [e] at q'
     cases q'
  ·obtain ⟨oe',vs',T',oT,ts,e1,⟨e2,e3⟩,e4,e5,e6,e7,e8,e9,e10⟩:=k3
   refine ⟨oe',vs',a0,T',oT,ts,e1,e2,e4,e3,e5,e7,?_⟩
   have hh:X.s₀.heap.get? T'=none∧H T'=none:=by
    rw [m9] at e6
    cases hb:bad T' with
    | true=>
      rcases b2 T' hb with z | z | z
      ·exact absurd z e7
      ·exfalso
       rw [← fs0] at z
       obtain ⟨_,o',ho',hn⟩:=k2.mem z
       rw [e8] at ho'
       cases ho'
       exact hn ts e9
      ·exact z
    | false=>
      rw [hb] at e6
      have e6:s.heap.get? T'=none:=by simpa using e6
      constructor
      ·cases q:X.s₀.heap.get? T' with
       | none=>rfl
       | some o=>
         obtain ⟨o',q'⟩:=I.base.there T' o q (noex T')
         rw [e6] at q'
         cases q'
      ·cases q:H T' with
       | none=>rfl
       | some o=>
         obtain ⟨ob,q'⟩:=(I.hok T' o q).here
         rw [e6] at q'
         cases q'
   exact ⟨hh.1,hh.2,e8,e9,e10⟩
 have Hx:∀ b o,H b=some o→b≠x:=fun b o e z=>by rw [z,free] at e;cases e
 have Hf:∀ b o,H b=some o→b∉X.env.locals::X.fs:=fun b o e z=>by
  rw [← fs0] at z
  rw [hsf b z] at e;cases e
 have Sx:∀ b o,X.s₀.heap.get? b=some o→b≠x:=fun b o e z=>by rw [z,fresh] at e;cases e
 rcases hT with h1 | ⟨T,oT,ts,h1,hTx,T0,HT,hT,hdT,h3⟩
 ·obtain ⟨bad,ebad⟩:∃ bad:Addr→Bool,∀ b,bad b=(decide (b=x)||decide (b∈X.env.locals::X.fs)):=⟨_,fun _=>rfl⟩
  have f0:∀ L∈frs (X.env::X.outer),(Am s.heap bad).get? L=none:=fun L hL=>by
   rw [fs0] at hL
   rw [m9,ebad,decide_eq_true hL,Bool.or_true];rfl
  subst hcls
  refine wpAny_leaving_firstW (base:=Am s.heap bad) hfr (AD hst' f0) hfrm hx (fun b o e=>?_) (by rw [m9,ebad];simp) hd h1 h0 fun h' L=>fin bad h' (fun b o e hb=>?_) (fun b o e=>?_) (fun b hb=>?_) L
  ·rw [m9] at e
   split at e
   ·cases e
   ·exact e
  ·rw [ebad,decide_eq_false (Sx b o e),decide_eq_false (fun z=>(List.mem_cons.mp z).elim (lnew b o e) hb)];rfl
  ·rw [ebad,decide_eq_false (Hx b o e),decide_eq_false (Hf b o e)];rfl
  ·rw [ebad,Bool.or_eq_true,decide_eq_true_eq,decide_eq_true_eq] at hb
   exact hb.imp id Or.inl
 ·obtain ⟨bad,ebad⟩:∃ bad:Addr→Bool,∀ b,bad b=(decide (b=x)||(decide (b∈X.env.locals::X.fs)||decide (b=T))):=⟨_,fun _=>rfl⟩
  have f0:∀ L∈frs (X.env::X.outer),(Am s.heap bad).get? L=none:=fun L hL=>by
   rw [fs0] at hL
   rw [m9,ebad,decide_eq_true hL,Bool.true_or,Bool.or_true];rfl
  subst hcls
  refine wpAny_leaving_nextW (base:=Am s.heap bad) (cls:=oe.cls) (a0:=a0) hfr (AD hst' f0) hfrm ⟨oe,vs,T,oT,ts,hx,⟨rfl,h0⟩,hd,h1,by rw [m9,ebad];simp,hTx,hT,hdT,h3⟩ (fun b o e=>?_) (by rw [m9,ebad];simp) fun h' L=>fin bad h' (fun b o e hb=>?_) (fun b o e=>?_) (fun b hb=>?_) L
  ·rw [m9] at e
   split at e
   ·cases e
   ·exact e
  ·rw [ebad,decide_eq_false (Sx b o e),decide_eq_false (fun z=>(List.mem_cons.mp z).elim (lnew b o e) hb),decide_eq_false (fun z=>by rw [z,T0] at e;cases e)];rfl
  ·rw [ebad,decide_eq_false (Hx b o e),decide_eq_false (Hf b o e),decide_eq_false (fun z=>by rw [z,HT] at e;cases e)];rfl
  ·rw [ebad,Bool.or_eq_true,Bool.or_eq_true,decide_eq_true_eq,decide_eq_true_eq,decide_eq_true_eq] at hb
   rcases hb with z | z | z
   ·exact .inl z
   ·exact .inr (.inl z)
   ·exact .inr (.inr ⟨by rw [z];exact T0,by rw [z];exact HT⟩)
end
open PySem PySem.Spec PyProof.Rows
section
variable {X:Cx} {pins:List (Addr×Obj)} {σ:St} {H:Hp} {s:Shared} {E:XK}
noncomputable def Catch (X:Cx) (E:XK):Prop:=∀ (pins:List (Addr×Obj)) (σ:St) (H:Hp) (s:Shared) (x:Addr) (C:Value),Inv X pins σ H s→Xc X.s₀.heap s.heap H x C→E C none H→X.xe (.ref x) s
theorem Xc.since {h0 h1 h:Heap} {x:Addr} {C:Value} (xc:Xc h1 h H x C) (k:∀ b,h1.get? b=none→h0.get? b=none):Xc h0 h H x C:=by
 obtain ⟨f,fr,oe,vs,a0,e1,e2,e3,e4,hT⟩:=xc
 refine ⟨k _ f,fr,oe,vs,a0,e1,e2,e3,e4,hT.imp id ?_⟩
 rintro ⟨T,oT,ts,q1,q2,q3,q⟩
 exact ⟨T,oT,ts,q1,q2,k _ q3,q⟩
theorem Inv.older (I:Inv X pins σ H s) (hex:X.ex=[]):∀ b,s.heap.get? b=none→X.s₀.heap.get? b=none:=fun b e=>by
 cases q:X.s₀.heap.get? b with
 | none=>rfl
 | some o=>
   obtain ⟨o',q'⟩:=I.base.there b o q (by rw [hex];exact List.not_mem_nil)
   rw [e] at q'
   cases q'
structure Since (X:Cx) (pins:List (Addr×Obj)) (h0:Heap):Prop where
 old:∀ b,h0.get? b=none→X.s₀.heap.get? b=none
 pin:∀ p∈X.pn++pins,h0.get? p.1≠none
noncomputable def Ee (X:Cx) (E:XK):Prop:=∀ (pins:List (Addr×Obj)) (σ:St) (H:Hp) (s:Shared) (h0:Heap) (x:Addr) (C:Value),Inv X pins σ H s→Since X pins h0→Xt h0 s.heap H x C→E C none H→X.xe (.ref x) s
theorem Catch.t (c:Catch X E):Ee X E:=fun pins σ H s h0 x C I S xt hE=>c pins σ H s x C I (xt.xc.since S.old) hE
theorem K2 (hex:X.ex=[]) (c:Ee X E):DR (CXE X.prog X.w) X E:=by
 rintro pins σ H s e s' I ⟨x,C,H',rfl,os,bare,un,hok,xc,hE⟩
 exact c pins σ H' s' s.heap x C (I.call' os un hok bare fun b z=>absurd z List.not_mem_nil) ⟨I.older hex,fun p hp z=>by have:=(I.pin p hp).1;rw [z] at this;cases this⟩ xc hE
end
theorem Gi {P:Program} {w:World} {K:PySem.W.Frag} {mg:Str→Option Value} {base:Heap} {N:List Str} {qual:Str} {scope:Scope} {f:Addr} {cd:Value} {A:Around} {outer:List Env} {s:Shared} {H:Hp} {E:XK}:
 Catch (Cj (CXE P w) P w K mg base N qual scope f cd A outer s H E) E:=fun pins σ H' s' x C I xc hE=>
 Gh (X:=Cj (CXE P w) P w K mg base N qual scope f cd A outer s H E) I rfl rfl rfl xc hE
section
variable {P:Program} {w:World} {K:PySem.W.Frag} {mg:Str→Option Value} {base:Heap}
theorem Fun.okE {x qual:Str} {st:Stmt} {f:Addr} {fd:FuncData} {N ps:List Str} {k:Nat} {sp:Sp} (F:Fun K x qual st f fd) (S:FnScope N ps (defScope st)) (len:∀ vs H Q E,sp vs H Q E→vs.length=ps.length)
 (hbody:∀ (cdv:Value) (A:Around) (outer:List Env) (s:Shared) (H:Hp) (vs:List V) (Q:VK) (E:XK),Room k (A.deeper (envOfC qual (defScope st) s.heap.objs.size f cdv))→sp vs H Q E→
   Catch (Cj (CXE P w) P w K mg base N qual (defScope st) f cdv A outer s H E) E→
   ∃ t,PSs (Cj (CXE P w) P w K mg base N qual (defScope st) f cdv A outer s H E) (defBody st) t∧t {nx:=fun _ H'=>Q .non H',rt:=Q} (start N vs) H):FnOk P w K mg base (CXE P w) (k+1) f fd ps sp:=by
 obtain ⟨oc,od,kV,doc,pm,an,cdv,ct,osl,rfl,lk,hcd⟩:=F.ex
 exact IS lk hcd S len fun A outer s H vs Q E hr hsp=>hbody cdv A outer s H vs Q E hr hsp Gi
end
structure CalleeE (P:Program) (w:World) (K:PySem.W.Frag) (mg:Str→Option Value) (base:Heap) (k:Nat) (x:Str) (ps:List Str) (sp:Sp):Prop where
 ex:∃ f fd,FnOk P w K mg base (CXE P w) k f fd ps sp∧mg x=some (.ref f)∧PySem.W.keepIn K (.ref f)=true∧Binds K fd ps []
theorem Ab {X:Cx} {k:Nat} {x:Str} {ps:List Str} {sp:Sp} {e:Expr} {es:List Expr} {t:TA} {p pos:Pos} {E:XK} (C:CalleeE X.prog X.w X.K X.mg X.base k x ps sp) (hex:X.ex=[]) (hc:Ee X E) (hr:Room k X.A) (hg:Gl X x) (ha:PA X (e::es) t)
 (hdb:(x == ("__debug__":Str))=false:=by decide) (he:starEach (e::es) X.env=(false,eval e X.env)::starEach es X.env:=by rfl) (hpl:(backTo pos (starEach es X.env)).any (·.1)=false:=by rfl):
 PE X (.Call (.Name x p) (e::es) [] pos) (GL sp [] E t):=by
 obtain ⟨f,fd,F,hm,hk,hb⟩:=C.ex
 exact Ew F hr hg hm hk hb .nil (K2 hex hc) ha hdb he hpl
structure ExcC (K:PySem.W.Frag) (mg:Str→Option Value) (x:Str) (C:Addr):Prop where
 bound:mg x=some (.ref C)
 obj:∀ h:Heap,K.In h→∃ bm N nm q bs hdct sn sub ab col dd k0 k1 k2 k3 k5 mN,h.get? C=some (excClassObj nm q C N bs bm hdct sn sub ab col dd k0 k1 k2 k3 k5 "ValueError.__new__")∧h.Ns N mN∧mN "__init__"=none∧OwnTail h [.type "ValueError",.type "Exception",.type "BaseException",.type "object"] bm
noncomputable def JD (C:Addr) (E:XK) (t:TE):TS:=fun _ σ H=>t σ H fun _ H1=>E (.ref C) none H1
theorem Bf {X:Cx} {x:Str} {C:Addr} {E:XK} {e:Expr} {te:TE} {np cpos pos:Pos} (hC:ExcC X.K X.mg x C) (hex:X.ex=[]) (hcalm:X.calm=true) (hc:Catch X E) (hg:Gl X x) (he:PE X e te) (hd:(x == ("__debug__":Str))=false:=by decide)
 (h1:starEach [e] X.env=(false,eval e X.env)::starEach [] X.env:=by rfl) (h2:(backTo cpos (starEach [] X.env)).any (·.1)=false:=by rfl):
 PS X (.Raise (some (.Call (.Name x np) [e] [] cpos)) none pos) (JD C E te):=by
 intro pins s σ H D I h
 obtain ⟨tl,N,nm,q,bs,hdct,sn,sub,ab,col,dd,k0,k1,k2,k3,k5,mN,hC0,hN,hni,T⟩:=hC.obj X.base I.mod.kin
 refine wpAny_Raise_call_subT (C:=C) (nm:=nm) (q:=q) (N:=N) (bs:=bs) (bm:=tl) (hdct:=hdct) (sn:=sn) (sub:=sub) (ab:=ab) (col:=col) (dd:=dd) (k0:=k0) (k1:=k1) (k2:=k2) (k3:=k3) (k5:=k5)
  PySem.F.excBase_ValueError (mN:=mN) (T.hasType PySem.F.excBase_ValueError.hasBase) (I.ok.hd hcalm) (by rw [h1];show (false||(backTo cpos (starEach [] X.env)).any (·.1))=false;rw [h2];rfl) hni (BX I hg hC.bound ⟨rfl,?_⟩ hd)
 rw [h1]
 refine Calls.evalArgs_plain ?_
 show wpAny _ _ (spliced ((false,eval e X.env)::backTo cpos (starEach [] X.env))) _ _ s
 refine Calls.spliced_cons (thn (he pins s σ H _ I h) fun u s1 ⟨v,H1,I1,rv,q1⟩=>Calls.spliced_nil ?_)
 refine ⟨rfl,by show 1≤sizeLine;decide,I1.bk _ _ hC0,hN.keeps I1.bk,T.keeps I1.bk,fun h' x' hm=>?_⟩
 obtain ⟨t,ht,ht0,ht1⟩:=hm.there
 have I2:Inv X pins σ H1 {s1 with heap:=h'}:=I1.kept (t':=s1.toks) fun b o e=>hm.keeps b o e
 have fr:∀ b,s1.heap.get? b=none→H1 b=none:=fun b e=>by
  cases q:H1 b with
  | none=>rfl
  | some o=>
    obtain ⟨ob,q'⟩:=(I1.hok b o q).here
    rw [e] at q'
    cases q'
 exact hc pins σ H1 _ x' (.ref C) I2 ⟨I1.older hex _ hm.new,fr _ hm.new,_,_,_,ht,rfl,rfl,rfl,.inl rfl⟩ q1
open PySem PySem.Spec PyProof.Rows
section
variable {X:Cx} {pins:List (Addr×Obj)} {σ:St} {H:Hp} {s:Shared}
theorem Inv.flown (I:Inv X pins σ H s) (hst:X.stack=X.env::X.outer) (hfrm:X.env.frame=some X.env.locals) (hex:X.ex=[]) (hfn:∀ x,X.fn x=true) {h0 h':Heap} (S:Since X pins h0) {bad:Addr→Bool}
 (b2:∀ b,bad b=true→b∈X.env.locals::X.fs∨(h0.get? b=none∧H b=none∧∃ o vs,s.heap.get? b=some o∧o.data = .fields vs))
 (stay:∀ b o,bad b=false→s.heap.get? b=some o→h'.get? b=some o)
 (slotk:∀ b o,b∈X.env.locals::X.fs→s.heap.get? b=some o→∃ sl,h'.get? b=some {o with slots:=sl}):Inv X pins σ H {s with heap:=h'}:=by
 have noex:∀ b:Addr,b∉X.ex:=fun b z=>by rw [hex] at z;cases z
 have lnew:∀ b o,X.s₀.heap.get? b=some o→b≠X.env.locals:=fun b o e z=>by
  have:=Heap.lt_size e
  have h2:=I.ok.above
  rw [z] at this
  exact absurd (Nat.lt_of_lt_of_le this h2) (Nat.lt_irrefl _)
 have notB:∀ b,b∉X.env.locals::X.fs→(h0.get? b≠none∨H b≠none∨∀ o vs,s.heap.get? b=some o→o.data ≠ .fields vs)→bad b=false:=fun b hb h=>by
  cases z:bad b with
  | false=>rfl
  | true=>
    rcases b2 b z with q | ⟨q1,q2,o,vs,q3,q4⟩
    ·exact absurd q hb
    ·rcases h with h | h | h
     ·exact absurd q1 h
     ·exact absurd q2 h
     ·exact absurd q4 (h o vs q3)
 have b0:∀ b o,X.s₀.heap.get? b=some o→b∉X.fs→bad b=false:=fun b o e hb=>
  notB b (fun z=>(List.mem_cons.mp z).elim (lnew b o e) hb) (.inl fun z=>by rw [S.old b z] at e;cases e)
 have fs0:frs X.stack=X.env.locals::X.fs:=by rw [hst];unfold frs;rw [List.filterMap_cons,hfrm];rfl
 have Hf:∀ b o,H b=some o→b∉X.env.locals::X.fs:=fun b o e z=>by
  rw [← fs0] at z
  rw [I.stkFree b z] at e;cases e
 have b1:∀ b o,H b=some o→bad b=false:=fun b o e=>notB b (Hf b o e) (.inr (.inl (by rw [e];intro z;cases z)))
 have cfs:∀ x c,X.env.cells.lookup x=some c→c∉X.env.locals::X.fs:=fun x c e z=>by
  rcases List.mem_cons.mp z with z | z
  ·exact I.cne x c e z
  ·obtain ⟨_,o,ho,_⟩:=I.ok.funs.mem z
   exact absurd (Nat.lt_of_lt_of_le (Heap.lt_size ho) (I.ok.cab x c (hfn x) e)) (Nat.lt_irrefl _)
 have cellK:∀ x c,X.env.cells.lookup x=some c→∀ v,s.heap.IsCell c v→h'.IsCell c v:=fun x c e v ⟨o,ho,hd⟩=>
  ⟨o,stay c o (notB c (cfs x c e) (.inr (.inr fun o' vs q z=>by rw [ho] at q;cases q;rw [hd] at z;cases z))) ho,hd⟩
 refine ⟨I.ok,I.os,I.bare,⟨?_,?_,?_,?_,I.base.tups,I.base.frzs,I.base.tbls⟩,?_,?_,I.free,I.freeC,?_,?_,I.len⟩
 ·intro b o e n hb _
  exact stay b o (b0 b o e hb) (I.base.keep b o e n hb (noex b))
 ·intro b o e n hb _
  obtain ⟨sl,e1⟩:=I.base.slot b o e n hb (noex b)
  obtain ⟨sl',e2⟩:=slotk b _ (List.mem_cons_of_mem _ hb) e1
  exact ⟨sl',e2⟩
 ·intro b o e n _
  exact I.base.free b o e n (noex b)
 ·intro b o e _
  obtain ⟨o',e'⟩:=I.base.there b o e (noex b)
  by_cases hb:b∈X.fs
  ·obtain ⟨sl,e2⟩:=slotk b _ (List.mem_cons_of_mem _ hb) e'
   exact ⟨_,e2⟩
  ·exact ⟨_,stay b o' (b0 b o e hb) e'⟩
 ·obtain ⟨m,⟨o,es,ep,ho,hd,r⟩,hv⟩:=I.loc
  obtain ⟨sl,e2⟩:=slotk X.env.locals o (List.mem_cons_self ..) ho
  refine ⟨m,⟨_,es,ep,e2,hd,r⟩,fun i x v h1 h2 h3=>?_⟩
  obtain ⟨u,ru,hl⟩:=hv i x v h1 h2 h3
  refine ⟨u,ru,hl.imp id ?_⟩
  rintro ⟨hk,c,hc,hcell⟩
  exact ⟨hk,c,hc,cellK x c hc _ hcell⟩
 ·intro x c e
  obtain ⟨v,hv⟩:=I.cell x c e
  exact ⟨v,cellK x c e v hv⟩
 ·intro p hp
  obtain ⟨p1,p2,p3,p4,p5⟩:=I.pin p hp
  exact ⟨stay p.1 p.2 (notB p.1 (fun z=>(List.mem_cons.mp z).elim p3 p4) (.inl (S.pin p hp))) p1,p2,p3,p4,p5⟩
 ·intro a o e
  refine (I.hok a o e).stay (fun b u hb e'=>?_) (fun _ h=>h) (fun _ _ h=>h)
  rcases hb with rfl | hb
  ·exact stay b u (b1 b o e) e'
  ·exact stay b u (b1 b _ hb) e'
theorem JE {M:Model} {Q:Unit→Shared→Prop} {E Ex:Value→Shared→Prop} (I:Inv X pins σ H s) (hst:X.stack=X.env::X.outer) (hfrm:X.env.frame=some X.env.locals) (hex:X.ex=[]) (hfn:∀ x,X.fn x=true) {h0:Heap} (S:Since X pins h0) {x:Addr} {C:Value} (xt:Xt h0 s.heap H x C)
 (k:∀ s',Inv X pins σ H s'→Xt h0 s'.heap H x C→Q () s'):wpAny M X.A (noteFrame (.ref x) X.env) (fun _ s₂=>wpAny M X.A (setFlight (.ref x) none) Q E s₂) Ex s:=by
 obtain ⟨fresh,free,newer,oe,vs,a0,T,oT,ts,hx,hcls,hd,h0',h1,hTx,T0,HT,hT,hdT,h3⟩:=xt
 have hfr:=I.ok.frames
 have hst':=I.stack
 rw [hst] at hfr hst'
 have fs0:frs (X.env::X.outer)=X.env.locals::X.fs:=by unfold frs;rw [List.filterMap_cons,hfrm];rfl
 obtain ⟨bad,ebad⟩:∃ bad:Addr→Bool,∀ b,bad b=(decide (b=x)||(decide (b∈X.env.locals::X.fs)||decide (b=T))):=⟨_,fun _=>rfl⟩
 have f0:∀ L∈frs (X.env::X.outer),(Am s.heap bad).get? L=none:=fun L hL=>by
  rw [fs0] at hL
  rw [m9,ebad,decide_eq_true hL,Bool.true_or,Bool.or_true];rfl
 have b2:∀ b,bad b=true→b∈X.env.locals::X.fs∨(h0.get? b=none∧H b=none∧∃ o vs,s.heap.get? b=some o∧o.data = .fields vs):=fun b hb=>by
  rw [ebad,Bool.or_eq_true,Bool.or_eq_true,decide_eq_true_eq,decide_eq_true_eq,decide_eq_true_eq] at hb
  rcases hb with z | z | z
  ·rw [z];exact .inr ⟨fresh,free,_,_,hx,hd⟩
  ·exact .inl z
  ·rw [z];exact .inr ⟨T0,HT,_,_,hT,hdT⟩
 subst hcls
 refine wpAny_noteFrame_onW (base:=Am s.heap bad) (cls:=oe.cls) (a0:=a0) hfr (AD hst' f0) hfrm ⟨oe,vs,T,oT,ts,hx,⟨rfl,h0'⟩,hd,h1,by rw [m9,ebad];simp,hTx,hT,hdT,h3⟩ (fun b o e=>?_) (by rw [m9,ebad];simp) fun h₁ ⟨k1,k2,k3,k4⟩=>?_
 ·rw [m9] at e
  split at e
  ·cases e
  ·exact e
 refine wpAny_setFlight_noneW (base:=Am s.heap bad) k1 k2 k3 fun h₂ l1 l2 l3 l4=>?_
 have stay:∀ b o,bad b=false→s.heap.get? b=some o→h₂.get? b=some o:=fun b o hb e=>l1 b o (by rw [m9,hb];simpa using e)
 have slotk:∀ b o,b∈X.env.locals::X.fs→s.heap.get? b=some o→∃ sl,h₂.get? b=some {o with slots:=sl}:=fun b o hb e=>by
  rw [← fs0] at hb
  obtain ⟨_,o',ho',hn⟩:=hst'.mem hb
  rw [e] at ho'
  cases ho'
  obtain ⟨sl,q⟩:=k4 b o e hn
  exact ⟨sl,l4 b _ q hn⟩
 have there:∀ b o,s.heap.get? b=some o→b≠x→b≠T→∃ o',h₂.get? b=some o':=fun b o e n1 n2=>by
  by_cases hb:b∈X.env.locals::X.fs
  ·obtain ⟨sl,q⟩:=slotk b o hb e
   exact ⟨_,q⟩
  ·exact ⟨o,stay b o (by rw [ebad,decide_eq_false n1,decide_eq_false hb,decide_eq_false n2];rfl) e⟩
 refine k {s with heap:=h₂} (I.flown hst hfrm hex hfn S b2 stay slotk) ⟨fresh,free,fun b e=>?_,?_⟩
 ·by_cases n1:b=x
  ·rw [n1];exact fresh
  ·by_cases n2:b=T
   ·rw [n2];exact T0
   ·refine newer b ?_
    cases q:s.heap.get? b with
    | none=>rfl
    | some o=>
      obtain ⟨o',q'⟩:=there b o q n1 n2
      have e:h₂.get? b=none:=e
      rw [e] at q'
      cases q'
 ·obtain ⟨oe',vs',T',oT',ts',e1,⟨e2,e3⟩,e4,e5,e6,e7,e8,e9,e10⟩:=l3
  refine ⟨oe',vs',a0,T',oT',ts',e1,e2,e4,e3,e5,e7,?_⟩
  have hh:h0.get? T'=none∧H T'=none:=by
   rw [m9] at e6
   cases hb:bad T' with
   | true=>
     rcases b2 T' hb with z | ⟨z1,z2,_⟩
     ·exfalso
      rw [← fs0] at z
      obtain ⟨_,o',ho',hn⟩:=l2.mem z
      rw [e8] at ho'
      cases ho'
      exact hn ts' e9
     ·exact ⟨z1,z2⟩
   | false=>
     rw [hb] at e6
     have e6:s.heap.get? T'=none:=by simpa using e6
     refine ⟨newer T' e6,?_⟩
     cases q:H T' with
     | none=>rfl
     | some o=>
       obtain ⟨ob,q'⟩:=(I.hok T' o q).here
       rw [e6] at q'
       cases q'
  exact ⟨hh.1,hh.2,e8,e9,e10⟩
end
open PySem PySem.Spec PyProof.Rows
section
variable {X:Cx} {pins:List (Addr×Obj)} {σ:St} {H:Hp} {s:Shared}
theorem Gj {k:Nat} {x:Str} {ps:List Str} {sp:Sp} {e:Expr} {es:List Expr} {t:TA} {p pos:Pos} {E:XK} {W:Value→Shared→Prop} {Q:VK} (C:CalleeE X.prog X.w X.K X.mg X.base k x ps sp) (hex:X.ex=[]) (hr:Room k X.A) (hg:Gl X x) (ha:PA X.nox (e::es) t)
 (I:Inv X pins σ H s) (h:t σ H fun vs H1=>sp vs H1 Q E) (hW:∀ (H':Hp) (s':Shared) (h0:Heap) (y:Addr) (C:Value),Inv X pins σ H' s'→Since X pins h0→Xt h0 s'.heap H' y C→E C none H'→W (.ref y) s')
 (hdb:(x == ("__debug__":Str))=false:=by decide) (he:starEach (e::es) X.env=(false,eval e X.env)::starEach es X.env:=by rfl) (hpl:(backTo pos (starEach es X.env)).any (·.1)=false:=by rfl):
 wpAny (model X.prog X.w) X.A (eval (.Call (.Name x p) (e::es) [] pos) X.env) (EP X pins σ Q) W s:=by
 obtain ⟨f,fd,F,hm,hk,hb⟩:=C.ex
 refine wpAny_Call_Name_kw (BX I hg hm ?_ hdb)
 refine PySem.W.callWith_K (h₀:=X.base) I.ok.mod.kin hk (wpAny_mono (ha pos pins s σ H _ (I.wish _) h) (fun us s1 ⟨vs,H1,I1',r,q⟩=>?_) fun _ _ z=>False.elim z) he hpl
 have I1:Inv X pins σ H1 s1:=I1'.unwish
 refine ⟨I1.kIn,?_⟩
 have q:sp vs H1 Q E:=q
 have hl:us.length=ps.length:=by rw [← r.length];exact F.len _ _ _ _ q
 have hbb:=hb s1 us I1.kIn (by rw [List.append_nil];exact hl)
 rw [List.append_nil] at hbb
 refine wpAny_call (codeAny_mono (F.run X.A X.stack s1 H1 ⟨us,[]⟩ us vs Q E hr I1.env0 hbb r q) fun r s' hq=>?_)
 cases r with
 | error e=>
   obtain ⟨y,C,H',rfl,os,bare,un,hok,xt,hE⟩:=hq
   exact hW H' s' s1.heap y C (I1.call' os un hok bare fun b z=>absurd z List.not_mem_nil) ⟨I1.older hex,fun p hp z=>by have:=(I1.pin p hp).1;rw [z] at this;cases this⟩ xt hE
 | ok fl=>
   cases fl with
   | ret u=>exact I1.after hq
   | next=>exact False.elim hq
   | brk=>exact False.elim hq
   | cont=>exact False.elim hq
theorem JF {M:Model} {A:Around} {Q:Unit→Shared→Prop} {E:Value→Shared→Prop} (I:Inv X pins σ H s) (hst:X.stack=X.env::X.outer) (hfrm:X.env.frame=some X.env.locals) (hex:X.ex=[]) (hfn:∀ x,X.fn x=true) {h0:Heap} (S:Since X pins h0) {x:Addr} {C:Value} (xt:Xt h0 s.heap H x C)
 (k:∀ s',Inv X pins σ H s'→Xt h0 s'.heap H x C→Q () s'):wpAny M A (setFlight (.ref x) none) Q E s:=by
 obtain ⟨fresh,free,newer,oe,vs,a0,T,oT,ts,hx,hcls,hd,h0',h1,hTx,T0,HT,hT,hdT,h3⟩:=xt
 have hst':=I.stack
 rw [hst] at hst'
 have fs0:frs (X.env::X.outer)=X.env.locals::X.fs:=by unfold frs;rw [List.filterMap_cons,hfrm];rfl
 obtain ⟨bad,ebad⟩:∃ bad:Addr→Bool,∀ b,bad b=(decide (b=x)||(decide (b∈X.env.locals::X.fs)||decide (b=T))):=⟨_,fun _=>rfl⟩
 have f0:∀ L∈frs (X.env::X.outer),(Am s.heap bad).get? L=none:=fun L hL=>by
  rw [fs0] at hL
  rw [m9,ebad,decide_eq_true hL,Bool.true_or,Bool.or_true];rfl
 have b2:∀ b,bad b=true→b∈X.env.locals::X.fs∨(h0.get? b=none∧H b=none∧∃ o vs,s.heap.get? b=some o∧o.data = .fields vs):=fun b hb=>by
  rw [ebad,Bool.or_eq_true,Bool.or_eq_true,decide_eq_true_eq,decide_eq_true_eq,decide_eq_true_eq] at hb
  rcases hb with z | z | z
  ·rw [z];exact .inr ⟨fresh,free,_,_,hx,hd⟩
  ·exact .inl z
  ·rw [z];exact .inr ⟨T0,HT,_,_,hT,hdT⟩
 have pst:(Am s.heap bad).StaysIn s.heap:=fun b o e=>by
  rw [m9] at e
  split at e
  ·cases e
  ·exact e
 subst hcls
 refine wpAny_setFlight_noneW (base:=Am s.heap bad) (cls:=oe.cls) (a0:=a0) (fl := .none) pst (AD hst' f0) ⟨oe,vs,T,oT,ts,hx,⟨rfl,h0'⟩,hd,h1,by rw [m9,ebad];simp,hTx,hT,hdT,h3⟩ fun h₂ l1 l2 l3 l4=>?_
 have stay:∀ b o,bad b=false→s.heap.get? b=some o→h₂.get? b=some o:=fun b o hb e=>l1 b o (by rw [m9,hb];simpa using e)
 have slotk:∀ b o,b∈X.env.locals::X.fs→s.heap.get? b=some o→∃ sl,h₂.get? b=some {o with slots:=sl}:=fun b o hb e=>by
  rw [← fs0] at hb
  obtain ⟨_,o',ho',hn⟩:=hst'.mem hb
  rw [e] at ho'
  cases ho'
  exact ⟨o.slots,l4 b _ e hn⟩
 have there:∀ b o,s.heap.get? b=some o→b≠x→b≠T→∃ o',h₂.get? b=some o':=fun b o e n1 n2=>by
  by_cases hb:b∈X.env.locals::X.fs
  ·obtain ⟨sl,q⟩:=slotk b o hb e
   exact ⟨_,q⟩
  ·exact ⟨o,stay b o (by rw [ebad,decide_eq_false n1,decide_eq_false hb,decide_eq_false n2];rfl) e⟩
 refine k {s with heap:=h₂} (I.flown hst hfrm hex hfn S b2 stay slotk) ⟨fresh,free,fun b e=>?_,?_⟩
 ·by_cases n1:b=x
  ·rw [n1];exact fresh
  ·by_cases n2:b=T
   ·rw [n2];exact T0
   ·refine newer b ?_
    cases q:s.heap.get? b with
    | none=>rfl
    | some o=>
      obtain ⟨o',q'⟩:=there b o q n1 n2
      have e:h₂.get? b=none:=e
      rw [e] at q'
      cases q'
 ·obtain ⟨oe',vs',T',oT',ts',e1,⟨e2,e3⟩,e4,e5,e6,e7,e8,e9,e10⟩:=l3
  refine ⟨oe',vs',a0,T',oT',ts',e1,e2,e4,e3,e5,e7,?_⟩
  have hh:h0.get? T'=none∧H T'=none:=by
   rw [m9] at e6
   cases hb:bad T' with
   | true=>
     rcases b2 T' hb with z | ⟨z1,z2,_⟩
     ·exfalso
      rw [← fs0] at z
      obtain ⟨_,o',ho',hn⟩:=l2.mem z
      rw [e8] at ho'
      cases ho'
      exact hn ts' e9
     ·exact ⟨z1,z2⟩
   | false=>
     rw [hb] at e6
     have e6:s.heap.get? T'=none:=by simpa using e6
     refine ⟨newer T' e6,?_⟩
     cases q:H T' with
     | none=>rfl
     | some o=>
       obtain ⟨ob,q'⟩:=(I.hok T' o q).here
       rw [e6] at q'
       cases q'
  exact ⟨hh.1,hh.2,e8,e9,e10⟩
noncomputable def ExcO (x:Addr) (C:Value):HO := .ext fun h=>∃ o,h.get? x=some o∧o.cls=C
theorem Inv.track (I:Inv X pins σ H s) (hst:X.stack=X.env::X.outer) (hfrm:X.env.frame=some X.env.locals) (hex:X.ex=[]) {h0:Heap} (S:Since X pins h0) {x:Addr} {C:Value} (xt:Xt h0 s.heap H x C):Inv X pins σ (upd H x (ExcO x C)) s:=by
 obtain ⟨fresh,free,newer,oe,vs,a0,T,oT,ts,hx,hcls,hd,_⟩:=xt
 have fs0:frs X.stack=X.env.locals::X.fs:=by rw [hst];unfold frs;rw [List.filterMap_cons,hfrm];rfl
 have hfr:x∉X.env.locals::X.fs:=fun z=>by
  rw [← fs0] at z
  obtain ⟨_,o',ho',hn⟩:=I.stack.mem z
  rw [hx] at ho'
  cases ho'
  exact hn vs hd
 have s0:∀ b o,X.s₀.heap.get? b=some o→b≠x:=fun b o e z=>by rw [z,S.old x fresh] at e;cases e
 refine ⟨I.ok,I.os,I.bare,⟨I.base.keep,I.base.slot,fun b o e n hb=>?_,I.base.there,fun b xs e=>?_,fun b o u e=>?_,fun b ps e=>?_⟩,I.loc,I.cell,?_,fun y c e=>?_,fun p hp=>?_,fun a o e=>?_,I.len⟩
 ·rw [j2 (s0 b o e)];exact I.base.free b o e n hb
 ·have:=I.base.tups b xs e
  rw [j2 (d7 this free)];exact this
 ·have:=I.base.frzs b o u e
  rw [j2 (d7 this free)];exact this
 ·obtain ⟨more,q⟩:=I.base.tbls b ps e
  exact ⟨more,by rw [j2 (d7 q free)];exact q⟩
 ·have hn:X.env.locals≠x:=fun z=>hfr (by rw [← z];exact List.mem_cons_self ..)
  rw [j2 hn];exact I.free
 ·have hc:c≠x:=fun z=>by
   obtain ⟨v,o,ho,hd'⟩:=I.cell y c e
   rw [z,hx] at ho
   cases ho
   rw [hd] at hd'
   cases hd'
  rw [j2 hc];exact I.freeC y c e
 ·obtain ⟨p1,p2,p3⟩:=I.pin p hp
  have:p.1≠x:=fun z=>S.pin p hp (by rw [z];exact fresh)
  exact ⟨p1,by rw [j2 this];exact p2,p3⟩
 ·by_cases z:a=x
  ·subst z
   rw [b9] at e
   cases e
   exact ⟨⟨oe,hx,hcls⟩,⟨oe,hx⟩,fun h1 h2 ⟨o,q1,q2⟩ kk=>⟨o,kk o q1,q2⟩⟩
  ·rw [j2 z] at e
   refine (I.hok a o e).stay (fun b u _ q=>q) (fun b q=>?_) (fun b xs q=>?_)
   ·rw [j2 (d7 q free)];exact q
   ·rw [j2 (d7 q free)];exact q
end
open PySem PySem.Spec PyProof.Rows
section
variable {M:Model} {A:Around} {E:Value→Shared→Prop}
variable {nm q nm' q':Str} {C N D N':Addr} {bs bm bs' bm':List Value} {hdct hdct':Bool} {sn sn':List Str} {sub sub':List Value} {ab ab':Bool} {col col':Option Bool} {dd dd':Option Addr} {k0 k1 k2 k3 k5 l0 l1 l2 l3 l5:Option Value} {newId newId':String}
theorem Cm {h:Heap} {g:Array GenState} {d:Drawn} {t:Nat} {os:OsState} {e:Addr} {oe:Obj} {Q:Bool→Shared→Prop}
 (hC:h.get? C=some (excClassObj nm q C N bs bm hdct sn sub ab col dd k0 k1 k2 k3 k5 newId)) (hD:h.get? D=some (excClassObj nm' q' D N' bs' bm' hdct' sn' sub' ab' col' dd' l0 l1 l2 l3 l5 newId')) (he:h.get? e=some oe) (hcls:oe.cls = .ref C)
 (hin:(Value.ref C::bm).contains (.ref D)=true) (hbase:bm'.contains (.type "BaseException")=true) (hq:Q true ⟨h,g,d,t,os⟩):wpAny M A (excMatches (.ref e) (.ref D)) Q E ⟨h,g,d,t,os⟩:=by
 have hcB:(Value.ref D::bm').contains (.type "BaseException")=true:=by rw [List.contains_cons,hbase,Bool.or_true]
 have f:=tc_notTuple
 unfold excMatches
 repeat (first | (with_reducible refine wpAny_loadPart_at he ?_;rw [hcls]) | with_reducible refine wpAny_loadPart_at hD ?_ | (with_reducible refine wpAny_isSubtype_exc hD ?_;rw [hcB]) | (with_reducible refine wpAny_isSubtype_exc hC ?_;rw [hin]) | wp_step)
 exact hq
end
section
variable {X:Cx} {pins:List (Addr×Obj)} {σ:St} {H:Hp} {s:Shared}
theorem Ft {M:Model} {A:Around} {E:Value→Shared→Prop} {i:Nat} {n:Str} {pos:Pos} {Q:Unit→Shared→Prop} (I:Inv X pins σ H s) (hN:X.N.Nodup) (hi:X.N[i]?=some n) (hk:X.env.scope.names.lookup n=some .local)
 (h:∀ s',Inv X pins (σ.set i none) H s'→Q () s'):wpAny M A (do bindName X.env n .none;unbindBehindTheSuite X.env n pos) Q E s:=by
 have hcls:(X.env.scope.kind == .class||(X.env.scope.kind == .module&&X.env.locals != X.env.globals))=false:=by rw [I.ok.kind];rfl
 have hiσ:i<σ.length:=by rw [I.len];exact (List.getElem?_eq_some_iff.mp hi).1
 refine wpAny_bind (wpAny_bindName (Ax I hN hi (.inl hk) (show RelV .non Value.none from rfl) (fun s1 I1=>?_) (.inr hk)))
 unfold unbindBehindTheSuite
 refine wpAny_onRaise ?_
 obtain ⟨m,hn,hl⟩:=id I1.loc
 obtain ⟨u0,ru0,hu0⟩:=hl i n .non hi (by rw [List.getElem?_set_self hiσ]) (.inl hk)
 cases ru0
 have hm:m n=some Value.none:=by
  rcases hu0 with ⟨_,z⟩ | ⟨z,_⟩
  ·exact z
  ·exfalso
   have hk':X.env.kindOf n=some .local:=hk
   rw [hk'] at z
   rcases z with z | z<;>cases z
 refine wpAny_unbindName_local hk hn hm hcls fun h' u hn' hs=>?_
 have neL:∀ b o,X.s₀.heap.get? b=some o→b≠X.env.locals:=fun b o e=>Nat.ne_of_lt (Nat.lt_of_lt_of_le (Heap.lt_size e) I.ok.above)
 refine h _ ⟨I1.ok,I1.os,I1.bare,⟨fun b o e n hb hx=>(hs.2 b (neL b o e)).trans (I1.base.keep b o e n hb hx),fun b o e n hb hx=>?_,I1.base.free,fun b o e hx=>?_,I1.base.tups,I1.base.frzs,I1.base.tbls⟩,⟨_,hn',fun j y v' e1 e2 e3=>?_⟩,fun y c e=>?_,I1.free,I1.freeC,fun p hp=>?_,fun a ob e=>?_,by rw [List.length_set];exact I.len⟩
 ·obtain ⟨sl,e1⟩:=I1.base.slot b o e n hb hx
  exact ⟨sl,(hs.2 b (neL b o e)).trans e1⟩
 ·obtain ⟨o',e1⟩:=I1.base.there b o e hx
  exact ⟨o',(hs.2 b (neL b o e)).trans e1⟩
 ·by_cases hj:j=i
  ·subst hj
   rw [List.getElem?_set_self hiσ] at e2
   cases e2
  ·rw [List.getElem?_set_ne (Ne.symm hj)] at e2
   obtain ⟨u',r',q⟩:=hl j y v' e1 (by rw [List.getElem?_set_ne (Ne.symm hj)];exact e2) e3
   refine ⟨u',r',?_⟩
   rcases q with ⟨k,e⟩ | ⟨k,c,e,z⟩
   ·refine .inl ⟨k,?_⟩
    have:y≠n:=fun e=>hj (CJ hN e1 (e▸hi))
    simp [this,e]
   ·exact .inr ⟨k,c,e,z.sameBut hs (I1.cne y c e)⟩
 ·obtain ⟨w',z⟩:=I1.cell y c e
  exact ⟨w',z.sameBut hs (I1.cne y c e)⟩
 ·obtain ⟨e,n,ne,nf,d⟩:=I1.pin p hp
  exact ⟨(hs.2 p.1 ne).trans e,n,ne,nf,d⟩
 ·refine (I1.hok a ob e).stay (fun c w' hc q=>(hs.2 c ?_).trans q) (fun _ q=>q) fun _ _ q=>q
  rintro rfl
  rcases hc with rfl | hc
  ·rw [I1.free] at e;cases e
  ·rw [I1.free] at hc;cases hc
noncomputable abbrev Cx.held (X:Cx) (x:Addr):Cx:={X with A:=X.A.mark (some (.ref x)),calm:=false,xe:=fun _ _=>False}
theorem Inv.held (I:Inv X pins σ H s) (x:Addr):Inv (X.held x) pins σ H s:=
 ⟨⟨I.ok.mod,I.ok.kind,I.ok.glob,I.ok.blt,I.ok.above,I.ok.inj,I.ok.has,I.ok.cab,(fun z=>nomatch z),I.ok.frames,I.ok.stk,I.ok.exf,I.ok.bs,I.ok.bsz,I.ok.noex,I.ok.exfs,I.ok.funs,I.ok.frf⟩,I.os,I.bare,I.base,I.loc,I.cell,I.free,I.freeC,I.pin,I.hok,I.len⟩
theorem Inv.unheld {x:Addr} (ok:X.Ok) (I:Inv (X.held x) pins σ H s):Inv X pins σ H s:=⟨ok,I.os,I.bare,I.base,I.loc,I.cell,I.free,I.freeC,I.pin,I.hok,I.len⟩
noncomputable def UnderK (K:PySem.W.Frag) (C D:Addr):Prop:=∀ h:Heap,K.In h→∃ bm N nm q bs hdct sn sub ab col dd k0 k1 k2 k3 k5 newId,h.get? C=some (excClassObj nm q C N bs bm hdct sn sub ab col dd k0 k1 k2 k3 k5 newId)∧(Value.ref C::bm).contains (.ref D)=true
end
open PySem PySem.Spec PyProof.Rows PySem.W PySem.Builtin PySem.Builtin.ObjectAttr PySem.Builtin.Getset_descriptor
section
variable {prog:Program} {w:World} {A:Around} {E:Value→Shared→Prop} {s:Shared} {K:PySem.W.Frag} {x D:Addr} {ox:Obj}
theorem DC {M:Model} {h:Heap} (hx:h.get? x=some ox) (hc:ox.cls = .ref D):Looks M h (typeOf (.ref x)) (.ref D):=hc▸(Looks.ld hx).andThen .now
theorem Ef {R:Result→Shared→Prop} {tp:Value} (X:K.In s.heap) (hx:s.heap.get? x=some ox) (hc:ox.cls = .ref D) (hm:mroIn K D (.type "object")=some true)
 (h:R (.ok (.ret (.ref D))) s):codeAny (model prog w) A (.call (.builtin "getset_descriptor.__get__") ⟨[.builtin "object.__class__",.ref x,tp],[]⟩) R s:=by
 obtain ⟨hh,g,dr,t,os⟩:=s
 have L0:=DC (M:=model prog w) hx hc
 have L1:=looks_mroIn (M:=model prog w) X hm
 refine codeAny_call_builtin KF.slot_gs.plain KF.entry_gs (KF.slot_gs.check _ _ _ _ _ _ _ _ KF.type_class (KF.args_gs _ _ _) ?_)
 unfold Builtin.«getset_descriptor.__get__» descrGet
 rw [dga_obj]
 refine wpAny_bind (wpAny_pure ?_)
 unfold descrGetter descrCheckInstance descrNameAndClass isInstance
 simp only [KF.owner_class]
 repeat lk
 refine ⟨Code.quiet_builtin _ (by decide +kernel),codeAny_builtin KF.entry_class ?_⟩
 unfold Builtin.«object.__class__» shownTypeOf
 repeat lk
 exact h
theorem Fu {tk:Tok} {Q:Fin→Shared→Prop} (X:K.In s.heap) (hx:s.heap.get? x=some ox) (hc:ox.cls = .ref D) (hm:mroIn K D (.type "object")=some true) (hcl:findIn K (.ref D) "__class__"=some (some (.builtin "object.__class__")))
 (hq:Q (.done (.ret (.ref D))) s):wpAny (model prog w) A (Builtin.«object.__getattribute__» ⟨[.ref x,.str "__class__" tk],[]⟩) Q E s:=by
 obtain ⟨h,g,d,t,os⟩:=s
 have L1:=looks_findIn (M:=model prog w) X hcl
 have f5:=F.typeOf_object_class
 have f6:=F.slot_gs_get.lookup
 have f7:=F.slot_gs_set.lookup
 repeat (any_goals (first | assumption | (with_reducible refine wpAny_loadPart_at hx ?_;rw [hc]) | with_reducible refine L1.at ?_ | wp_step))
 refine Ef (s:=⟨h,g,d,t,os⟩) X hx hc hm ?_
 exact wpAny_pure hq
theorem Fv {M:Model} {nameV:Value} {Q:Unit→Shared→Prop} (X:K.In s.heap) (hx:s.heap.get? x=some ox) (hc:ox.cls = .ref D) (hmB:mroIn K D (.type "BaseException")=some true) (hq:Q () s):
 wpAny M A (checkBuiltinCall "BaseException.__getattribute__" ⟨[.ref x,nameV],[]⟩) Q E s:=by
 obtain ⟨h,g,d,t,os⟩:=s
 have hk:builtinKind "BaseException.__getattribute__"=some .slot:=by decide +kernel
 have hsplit:splitId "BaseException.__getattribute__"=some ("BaseException","__getattribute__"):=by decide +kernel
 have L1:=looks_mroIn (M:=M) X hmB
 have ha:=F.args_bexc_ga (.ref x) nameV
 simp only [checkBuiltinCall,hk,hsplit]
 refine wpAny_bind ?_
 ·unfold isInstance
  repeat (first | (with_reducible refine wpAny_loadPart_at hx ?_;rw [hc]) | with_reducible refine L1.at ?_ | wp_step)
  exact hq
theorem JG {tk:Tok} {fill:Bool} {Q:Value→Shared→Prop} (X:K.In s.heap) (hx:s.heap.get? x=some ox) (hc:ox.cls = .ref D) (hm:mroIn K D (.type "object")=some true) (hmB:mroIn K D (.type "BaseException")=some true) (hcl:findIn K (.ref D) "__class__"=some (some (.builtin "object.__class__")))
 (hga:findIn K (.ref D) "__getattribute__"=some (some (.builtin "BaseException.__getattribute__"))) (hgn:findIn K (.ref D) "__getattr__"=some none) (hq:Q (.ref D) s):
 wpAny (model prog w) A (getAttrBy (.ref x) (.str "__class__" tk) fill false) Q E s:=by
 obtain ⟨h,g,d,t,os⟩:=s
 have f3:=PySem.F.attr_ValueError.ga.bind (.ref x)
 have hx2:(Value.builtin "BaseException.__getattribute__" == Value.builtin "object.__getattribute__")=false:=by decide +kernel
 have hx1:(onTheHeap (Value.ref D)&&Value.builtin "BaseException.__getattribute__" == Value.builtin "object.__getattribute__")=false:=by rw [hx2];rfl
 have L1:=looks_findIn (M:=model prog w) X hga
 have L2:=looks_findIn (M:=model prog w) X hgn
 repeat (any_goals (first | assumption | (with_reducible refine wpAny_loadPart_at hx ?_;rw [hc]) | with_reducible refine L1.at ?_ | with_reducible refine L2.at ?_ | wp_step))
 refine codeAny_call_builtin PySem.F.attr_ValueError.ga.plain F.entry_bexc_ga (Fv (s:=⟨h,g,d,t,os⟩) X hx hc hmB (Fu (s:=⟨h,g,d,t,os⟩) X hx hc hm hcl ?_))
 repeat (any_goals (first | assumption | wp_step))
theorem Gk {Q:Option Value→Shared→Prop} (X:K.In s.heap) (hx:s.heap.get? x=some ox) (hc:ox.cls = .ref D) (hm:mroIn K D (.type "object")=some true) (hmB:mroIn K D (.type "BaseException")=some true) (hcl:findIn K (.ref D) "__class__"=some (some (.builtin "object.__class__")))
 (hga:findIn K (.ref D) "__getattribute__"=some (some (.builtin "BaseException.__getattribute__"))) (hgn:findIn K (.ref D) "__getattr__"=some none) (hq:Q (some (.ref D)) {s with toks:=s.toks+1}):
 wpAny (model prog w) A (getAttr? (.ref x) "__class__") Q E s:=by
 obtain ⟨h,g,d,t,os⟩:=s
 unfold getAttr? getAttrBy?
 refine wpAny_bind (wpAny_mkText (wpAny_bind (wpAny_attempt (JG (s:=⟨h,g,d,t+1,os⟩) X hx hc hm hmB hcl hga hgn ?_))))
 exact wpAny_pure hq
end
open PySem PySem.Spec PyProof.Rows
structure ExcT (K:PySem.W.Frag) (D:Addr):Prop where
 cl:(PySem.W.clsIn K D).isSome=true
 obj:PySem.W.mroIn K D (.type "object")=some true
 bas:PySem.W.mroIn K D (.type "BaseException")=some true
 get:PySem.W.findIn K (.ref D) "__class__"=some (some (.builtin "object.__class__"))
 gat:PySem.W.findIn K (.ref D) "__getattribute__"=some (some (.builtin "BaseException.__getattribute__"))
 gno:PySem.W.findIn K (.ref D) "__getattr__"=some none
theorem Gm {K:PySem.W.Frag} {x D:Addr} (T:ExcT K D):PySem.W.KitX K (.ref x) (.ref D) (fun h=>∃ o,h.get? x=some o∧o.cls = .ref D) where
 ty:=fun _ _ _ ⟨o,hx,hc⟩=>DC hx hc
 it:=fun _ _ X _=>by
  obtain ⟨cd,hcd⟩:=Option.isSome_iff_exists.mp T.cl
  unfold PySem.W.clsIn at hcd
  split at hcd
  ·rename_i ho
   intro A' Q' E' s' k q
   unfold isType loadHead
   exact wpAny_bind (wpAny_loadPart (k _ _ (X _ _ ho)) (wpAny_pure q))
  ·cases hcd
 ne:=fun h tp dd its n sl X htp=>by
  obtain ⟨cd,hcd⟩:=Option.isSome_iff_exists.mp T.cl
  refine Bool.eq_false_iff.mpr fun q=>?_
  have e:D=tp:=Value.ref.inj (beq_iff_eq.mp q)
  subst e
  unfold PySem.W.clsIn at hcd
  split at hcd
  ·rename_i ho
   have z:=(X _ _ ho).symm.trans htp
   cases z
  ·cases hcd
 ca:=fun X ⟨o,hx,hc⟩ k=>Gk X hx hc T.obj T.bas T.get T.gat T.gno k
noncomputable def K3:V→Option Value
 | .ref C=>some (.ref C)
 | .ty T=>some (.type T)
 | _=>none
theorem Gn {c:V} {u v:Value} (h:K3 c=some u) (r:RelV c v):v=u:=by
 cases c with
 | ref C=>cases h;exact r
 | ty T=>cases h;exact r
 | _=>cases h
section
variable {X:Cx}
inductive Got (X:Cx) (H:Hp):V→Value→Prop where
 | no:Got X H .non (.type "NoneType")
 | yes {x D:Addr} (e:H x=some (ExcO x (.ref D))) (t:ExcT X.K D):Got X H (.ref x) (.ref D)
theorem v4:A2 X (.builtin "isinstance") (fun xs H Q=>∃ (x c:V) (t u:Value) (b:Bool),xs=[x,c]∧Got X H x t∧K3 c=some u∧PySem.W.kitOne X.K t u=some b∧Q (.bl b) H):=by
 intro pins s σ H xs us Q I r h
 obtain ⟨x,c,t,u,b,rfl,g,hc,e,q⟩:=h
 obtain ⟨u1,u2,rfl,r1,r2⟩:=Vals.two r
 have:=Gn hc r2
 subst this
 cases g with
 | no=>exact Cp I r1 .non e fun tk=>⟨.bl b,H,I.tok tk,rfl,q⟩
 | @yes x D ex T=>
   cases r1
   obtain ⟨⟨o,ho,hcl⟩,_⟩:=(show ObjOk X.prog X.w H s.heap x (ExcO x (.ref D)) from I.hok x _ ex)
   exact PySem.W.kia_one (Gm T) I.kIn ⟨o,ho,hcl⟩ e (fun z=>nomatch z) fun tk=>⟨.bl b,H,I.tok tk,rfl,q⟩
end
theorem FL {K:PySem.W.Frag} {C:Addr} {bmB:List Value} {newId:String} (q:PySem.W.excIn K C bmB newId=true):
 ∀ h:Heap,K.In h→∃ bm N nm q bs hdct sn sub ab col dd k0 k1 k2 k3 k5 mN,h.get? C=some (excClassObj nm q C N bs bm hdct sn sub ab col dd k0 k1 k2 k3 k5 newId)∧h.Ns N mN∧mN "__init__"=none∧OwnTail h bmB bm∧(∀ v:Value,PySem.W.mroIn K C v=some true→(Value.ref C::bm).contains v=true):=by
 intro h X
 unfold PySem.W.excIn at q
 split at q
 ·rename_i dd cd sl ho
  split at q
  ·rename_i C' bm k0 k1 k2 k3 n k5 hm hs
   simp only [Bool.and_eq_true,beq_iff_eq,Bool.not_eq_true'] at q
   obtain ⟨⟨⟨⟨⟨rfl,rfl⟩,hdel⟩,ht⟩,hok⟩,hni⟩:=q
   have hmr:∀ v:Value,PySem.W.mroIn K C' v=some true→(Value.ref C'::bm).contains v=true:=fun v hv=>by
    unfold PySem.W.mroIn PySem.W.clsIn at hv
    rw [ho] at hv
    simp only [Option.bind_some] at hv
    split at hv
    ·cases hv
    ·rw [hm] at hv
     exact Option.some.inj hv
   obtain ⟨nm,bs,mro,ns,qn,hd,sn,sub,ab,col,del⟩:=cd
   dsimp only at hm hdel hok hni
   subst hm hdel
   have hsl:sl=#[k0,k1,k2,k3,some (.builtin n),k5]:=by
    obtain ⟨l⟩:=sl
    simp only at hs
    rw [hs]
   subst hsl
   exact ⟨bm,ns,nm,qn,bs,hd,sn,sub,ab,col,dd,k0,k1,k2,k3,k5,_,X _ _ ho,.of_isNs (PySem.W.isNs_of_in X hok),PySem.W.nsMap_none_of_in X hok hni,PySem.W.tail_of_in X ht,hmr⟩
  ·cases q
 ·cases q
abbrev Fw:List Value:=[.type "ValueError",.type "Exception",.type "BaseException",.type "object"]
theorem CI {K:PySem.W.Frag} {mg:Str→Option Value} {x:Str} {C:Addr} (b:mg x=some (.ref C)) (q:PySem.W.excIn K C Fw "ValueError.__new__"=true):ExcC K mg x C:=
 ⟨b,fun h X=>let ⟨bm,N,nm,q,bs,hdct,sn,sub,ab,col,dd,k0,k1,k2,k3,k5,mN,a1,a2,a3,a4,_⟩:=FL q h X;⟨bm,N,nm,q,bs,hdct,sn,sub,ab,col,dd,k0,k1,k2,k3,k5,mN,a1,a2,a3,a4⟩⟩
theorem Bw {K:PySem.W.Frag} {C D:Addr} (q:PySem.W.excIn K C Fw "ValueError.__new__"=true) (m:PySem.W.mroIn K C (.ref D)=some true):UnderK K C D:=fun h X=>
 let ⟨bm,N,nm,q,bs,hdct,sn,sub,ab,col,dd,k0,k1,k2,k3,k5,mN,a1,_,_,_,a5⟩:=FL q h X
 ⟨bm,N,nm,q,bs,hdct,sn,sub,ab,col,dd,k0,k1,k2,k3,k5,_,a1,a5 _ m⟩
open PySem PySem.Spec PyProof.Rows
section
variable {X:Cx} {pins:List (Addr×Obj)} {σ:St} {H:Hp} {s:Shared}
noncomputable def Hr (K:PySem.W.Frag) (Dc:Addr) (j i:Nat) (sp:Sp) (t:TA) (ts:TS):TS:=fun D σ H=>t σ H fun vs H1=>sp vs H1 (fun z H2=>D.nx (σ.set j (some z)) H2)
 fun C _ H2=>∃ Ca,C = .ref Ca∧UnderK K Ca Dc∧∀ x,H2 x=none→ts {nx:=fun σ' H'=>D.nx (σ'.set i none) H',rt:=fun _ _=>False} (σ.set i (some (.ref x))) (upd H2 x (ExcO x C))
theorem Fy {k i j:Nat} {x dn n y0:Str} {Dc:Addr} {ps:List Str} {sp:Sp} {e:Expr} {es:List Expr} {t:TA} {ts:TS} {b₀:Stmt} {suite:List Stmt} {p cpos epos np hpos pos yp:Pos} (hD:ExcC X.K X.mg dn Dc) (hgD:Gl X dn) (C:CalleeE X.prog X.w X.K X.mg X.base k x ps sp) (hst:X.stack=X.env::X.outer) (hfrm:X.env.frame=some X.env.locals) (hex:X.ex=[]) (hfn:∀ x,X.fn x=true)
 (hr:Room k X.A) (hg:Gl X x) (ha:PA X.nox (e::es) t) (hN:X.N.Nodup) (hi:X.N[i]?=some n) (hk:X.env.scope.names.lookup n=some .local) (hj:X.N[j]?=some y0) (hy:Loc X.env.scope y0) (hs:∀ y,PSs (X.held y) (b₀::suite) ts) (hdb:(x == ("__debug__":Str))=false:=by decide) (hdd:(dn == ("__debug__":Str))=false:=by decide)
 (he:starEach (e::es) X.env=(false,eval e X.env)::starEach es X.env:=by rfl) (hpl:(backTo cpos (starEach es X.env)).any (·.1)=false:=by rfl) (hsw:swapsWith (.Call (.Name x p) (e::es) [] cpos) (some (.Name y0 yp)) epos.line X.env=pure false:=by rfl) (hf:X.fn y0=true∨X.env.scope.names.lookup y0=some .local:=by first | exact .inl rfl | exact .inr rfl | assumption):
 PS X (.Try [.Assign [.Name y0 yp] (.Call (.Name x p) (e::es) [] cpos) epos] [.ExceptHandler (some (.Name dn np)) (some n) (b₀::suite) hpos] [] [] pos) (Hr X.K Dc j i sp t ts):=by
 intro pins s σ H D I h
 refine wpAny_Try_except (wpAny_execs_cons (wpAny_Assign_Name (wpAny_mono (Gj (Q:=fun z H2=>D.nx (σ.set j (some z)) H2) (E:=fun C _ H2=>∃ Ca,C = .ref Ca∧UnderK X.K Ca Dc∧∀ x,H2 x=none→ts {nx:=fun σ' H'=>D.nx (σ'.set i none) H',rt:=fun _ _=>False} (σ.set i (some (.ref x))) (upd H2 x (ExcO x C))) C hex hr hg ha I h (fun H' s' h0 y Cy I' S xt hE=>?_) hdb he hpl) (fun v s1 ⟨z,H1,I1,r1,q1⟩=>?_) fun _ _ z=>z) hsw))
 ·-- it raised
  obtain ⟨Ca,rfl,U,hE⟩:=hE
  refine JE I' hst hfrm hex hfn S xt fun s3 I3 xt3=>?_
  refine wpAny_handleBy_cons (codeAny_handlers_test (BX (X:=X.held y) (I3.held y) hgD hD.bound ?_ hdd)) (by intro q;cases q)
  obtain ⟨bm,N,nm,q,bs,hdct,sn,sub,ab,col,dd,k0,k1,k2,k3,k5,newId,hC,hin⟩:=U s3.heap I3.kIn
  obtain ⟨bm',N',nm',q',bs',hdct',sn',sub',ab',col',dd',l0,l1,l2,l3,l5,mN,hDo,_,_,T⟩:=hD.obj s3.heap I3.kIn
  obtain ⟨oe,vs,a0,_,_,_,hx,hcls,_⟩:=id xt3.obj
  have hbase:bm'.contains (.type "BaseException")=true:=T.hasType PySem.F.excBase_ValueError.hasBase
  have fin:codeAny (model X.prog X.w) (X.A.mark (some (.ref y))) (.handlers (.ref y) [.ExceptHandler none (some n) (b₀::suite) hpos] X.env) (fun r s₂=>match r with
   | .ok f=>wpAny (model X.prog X.w) X.A (do bindName X.env n .none;unbindBehindTheSuite X.env n hpos) (fun _ s₃=>SP X pins D f s₃) X.xe s₂
   | .error x=>cameBackBy (model X.prog X.w) X.A X.env X.xe x s₂) s3:=by
   refine codeAny_handlers_suite_as (JF (A:=X.A.mark _) I3 hst hfrm hex hfn S xt3 fun s4 I4 xt4=>?_)
   refine Ax (I4.track hst hfrm hex S xt4) hN hi (.inl hk) (show RelV (.ref y) (.ref y) from rfl) (fun s5 I5=>?_) (.inr hk)
   refine wpAny_mono (hs y pins s5 _ _ _ (I5.held y) (hE y xt.free)) (fun f s6 q=>?_) fun _ _ z=>False.elim z
   cases f with
   | next=>
     obtain ⟨σ',H'',I6,q⟩:=q
     exact Ft (I6.unheld I.ok) hN hi hk fun s7 I7=>⟨_,_,I7,q⟩
   | ret v=>obtain ⟨_,_,_,_,_,q⟩:=q;exact False.elim q
   | brk=>obtain ⟨_,_,_,q⟩:=q;exact False.elim q
   | cont=>obtain ⟨_,_,_,q⟩:=q;exact False.elim q
  obtain ⟨hh,g,d,tk,os⟩:=s3
  exact Cm hC hDo hx hcls hin hbase fin
 ·-- it came back
  exact Ax I1 hN hj hy r1 (fun s2 I2=>wpAny_execs_nil (wpAny_execs_nil ⟨_,H1,I2,q1⟩)) hf
end
end L2
namespace Hue
open PySem L2
noncomputable abbrev Fz:Stmt:=top 12
noncomputable abbrev DD:Stmt:=top 14
noncomputable abbrev DE:Stmt:=top 15
noncomputable abbrev DF:Stmt:=top 16
noncomputable abbrev DG:Stmt:=top 17
noncomputable abbrev BD:Stmt:=top 18
noncomputable abbrev DH:Stmt:=top 19
noncomputable abbrev BE:Stmt:=top 21
noncomputable abbrev BF:Stmt:=top 22
noncomputable abbrev DI:Stmt:=top 24
noncomputable abbrev Bx:Stmt:=top 25
noncomputable def FM:Sp:=fun vs H Q _=>∃ n:Int,vs=[.int n]∧Q (.bl true) H
noncomputable def InP (m p:Int):Prop:=0≤p∧p<m
noncomputable instance (m p:Int):Decidable (InP m p):=inferInstanceAs (Decidable (_∧_))
noncomputable def Eg:Sp:=fun vs H Q _=>∃ (w:Addr) (m:Int) (es:List (Int×Int)) (p:Int),vs=[.ref w,.int p]∧WebE H w m es∧Q (.bl (decide (InP m p))) H
noncomputable def Eh:Sp:=fun vs H Q _=>∃ (w:Addr) (m:Int) (es:List (Int×Int)) (p:Int),vs=[.ref w,.int p]∧WebE H w m es∧Q (.bl (decide (InP es.length p))) H
noncomputable def Ei (C:Addr):Sp:=fun vs H Q E=>∃ (w:Addr) (m:Int) (es:List (Int×Int)) (p:Int),vs=[.ref w,.int p]∧WebE H w m es∧(InP m p→Q .non H)∧(¬ InP m p→E (.ref C) none H)
noncomputable def Ej (C:Addr):Sp:=fun vs H Q E=>∃ (w:Addr) (m:Int) (es:List (Int×Int)) (p:Int),vs=[.ref w,.int p]∧WebE H w m es∧(InP es.length p→Q .non H)∧(¬ InP es.length p→E (.ref C) none H)
noncomputable def w5 (es:List (Int×Int)) (p:Int):Nat→List Nat
 | 0=>[]
 | n+1=>w5 es p n++(match es[n]? with | some e=>if atE p e=true then [n] else [] | none=>[])
theorem BG (es:List (Int×Int)) (p:Int):∀ n,(w5 es p n).length≤n
 | 0=>Nat.le_refl _
 | n+1=>by
   have:=BG es p n
   rw [w5,List.length_append]
   split
   ·split<;>simp<;>omega
   ·simp;omega
noncomputable def Bg (C:Addr):Sp:=fun vs H Q E=>∃ (w:Addr) (m:Int) (es:List (Int×Int)) (p:Int),vs=[.ref w,.int p]∧WebE H w m es∧(InP m p→∀ l H',H l=none→Same H H'→H' l=some (.lst ((w5 es p es.length).map natV))→Q (.ref l) H')∧(¬ InP m p→E (.ref C) none H)
noncomputable def Ek (C T:Addr):Sp:=fun vs H Q E=>∃ (w:Addr) (m:Int) (es:List (Int×Int)) (k p:Int),vs=[.ref w,.int k,.int p]∧WebE H w m es∧(∀ e,InP es.length k→es[k.toNat]?=some e→atE p e=true→Q (.int (farI es k.toNat p)) H)∧(∀ e,InP es.length k→es[k.toNat]?=some e→atE p e=false→E (.ref C) none H)∧(¬ InP es.length k→E (.ref T) none H)
noncomputable def HsI (es:List (Int×Int)) (row:List V) (p:Int) (ns:List Int):Prop:=∀ h,h∈ns↔∃ k,atH es row p h k=true
noncomputable def FrI (es:List (Int×Int)) (row:List V) (p hh:Int) (gs:List Int):Prop:=(∀ h,h∈gs↔0≤h∧h<hh∧∀ k,atH es row p h k=false)∧gs.length≤600
noncomputable def Ce (C:Addr):Sp:=fun vs H Q E=>∃ (w a:Addr) (m:Int) (es:List (Int×Int)) (row:List V) (p:Int),vs=[.ref w,.ref a,.int p]∧WebE H w m es∧LRow H a es row∧(InP m p→∀ l (ns:List Int) H',H l=none→Same H H'→H' l=some (.lst (ns.map V.int))→HsI es row p ns→Q (.ref l) H')∧(¬ InP m p→E (.ref C) none H)
noncomputable def Cf (C:Addr):Sp:=fun vs H Q E=>∃ (w a:Addr) (m:Int) (es:List (Int×Int)) (row:List V) (p hh:Int),vs=[.ref w,.ref a,.int p,.int hh]∧WebE H w m es∧LRow H a es row∧0≤hh∧hh≤600∧(InP m p→∀ l (gs:List Int) H',H l=none→Same H H'→H' l=some (.lst (gs.map V.int))→FrI es row p hh gs→Q (.ref l) H')∧(¬ InP m p→E (.ref C) none H)
theorem Bh (es:List (Int×Int)) (p:Int):∀ n,w5 es p n=(List.range n).filter fun k=>match es[k]? with | some e=>atE p e | none=>false
 | 0=>rfl
 | n+1=>by
   rw [w5,Bh es p n,List.range_succ,List.filter_append]
   congr 1
   cases q:es[n]? with
   | none=>rw [List.filter_cons_of_neg (by rw [q];simp)];rfl
   | some e=>
     by_cases z:atE p e=true
     ·rw [List.filter_cons_of_pos (by rw [q];exact z)]
      simp [z]
     ·rw [List.filter_cons_of_neg (by rw [q];exact z)]
      simp [z]
theorem EC {es:List (Int×Int)} {p:Int} {n k:Nat} (h:k∈w5 es p n):k<n∧∃ e,es[k]?=some e∧(p=e.1∨p=e.2):=by
 rw [Bh] at h
 obtain ⟨h1,h2⟩:=List.mem_filter.mp h
 refine ⟨List.mem_range.mp h1,?_⟩
 cases q:es[k]? with
 | none=>rw [q] at h2;cases h2
 | some e=>rw [q] at h2;exact ⟨e,rfl,atE_iff.mp h2⟩
theorem Go:((["tie","ends"]:List Str)++(["place"]:List Str)).Nodup:=by decide +kernel
theorem K4:((["tie"]:List Str)++(["hueing"]:List Str)).Nodup:=by decide +kernel
theorem JH:((["hue"]:List Str)++(["taken"]:List Str)).Nodup:=by decide +kernel
theorem By (ts:List Int):(ts.map V.int).all u8=true:=by
 rw [List.all_map,List.all_eq_true]
 intro _ _
 rfl
theorem inV_iff {k:Int} {ns:List Int}:inV (.int k) (ns.map V.int)=true↔k∈ns:=by
 rw [Ge (ys:=ns.map V.int) (h:=k) fun v hv=>by obtain ⟨n,_,rfl⟩:=List.mem_map.mp hv;exact ⟨n,rfl⟩]
 constructor
 ·intro h
  obtain ⟨n,hn,e⟩:=List.mem_map.mp h
  injection e with e
  rw [← e];exact hn
 ·intro h;exact List.mem_map.mpr ⟨k,h,rfl⟩
theorem Hs {es:List (Int×Int)} {p:Int} {k:Nat} {e:Int×Int} (h:es[k]?=some e) (hp:p=e.1∨p=e.2):k∈w5 es p es.length:=by
 rw [Bh,List.mem_filter]
 refine ⟨List.mem_range.mpr (List.getElem?_eq_some_iff.mp h).1,?_⟩
 rw [h]
 exact atE_iff.mpr hp
section
variable {P:Program} {w:World} {K:PySem.W.Frag} {mg:Str→Option Value} {base:Heap}
theorem K5:FnScope ["thing"] ["thing"] (defScope Fz):=⟨rfl,rfl,rfl,by decide +kernel,rfl,by decide +kernel,by decide +kernel⟩
theorem JI {f:Addr} {fd:FuncData} (F:Fun K "is_number" "is_number" Fz f fd) (T:Txt K mg):FnOk P w K mg base CX0 1 f fd ["thing"] FM:=by
 refine F.ok K5 (fun vs H Q E h=>?_) (fun cdv A outer s H vs Q E hr h=>?_)
 ·obtain ⟨_,rfl,_⟩:=h;rfl
 ·obtain ⟨n,rfl,q⟩:=h
  refine ⟨_,g9 (l8 (AM (d4 j6 (by rfl) T.isi p0 (b7 (pv 0) (b7 (j4 (v := .ty "int") (by rfl) T.int CZ rfl) b8)))
   (AU (EK (d4 j6 (by rfl) T.isi p0 (b7 (pv 0) (b7 (j4 (v := .ty "bool") (by rfl) T.bool AX rfl) b8))))))),?_⟩
  exact ⟨_,rfl,_,"int",_,_,rfl,.int n,(u3 _ _).trans GX,_,rfl,AZ ⟨_,rfl,_,"bool",_,_,rfl,.int n,(u3 _ _).trans Dv,_,rfl,q⟩⟩
theorem JJ:FnScope ["web","place"] ["web","place"] (defScope DD):=⟨rfl,rfl,rfl,by decide +kernel,rfl,by decide +kernel,by decide +kernel⟩
theorem Ht {f:Addr} {fd:FuncData} (F:Fun K "has_place" "has_place" DD f fd) (CN:Callee P w K mg base 1 "is_number" ["thing"] FM):FnOk P w K mg base CX0 2 f fd ["web","place"] Eg:=by
 refine F.ok JJ (fun vs H Q E h=>?_) (fun cdv A outer s H vs Q E hr h=>?_)
 ·obtain ⟨_,_,_,_,rfl,_⟩:=h;rfl
 ·obtain ⟨w0,m,es,p,rfl,⟨ta,ts,hw,ht,_⟩,q⟩:=h
  refine ⟨_,g9 (l8 (AM (j9 CN hr (by rfl) (b7 (pv 1) b8)) (AU (Dm Eu CL d0 (pv 1) (j5 m8 (pv 0) d0 (fun _ _=>rfl)))))),?_⟩
  refine ⟨_,rfl,p,rfl,_,rfl,AZ ⟨_,rfl,_,_,rfl,rfl,_,rfl,x8 (fun z=>⟨_,rfl,w0,_,_,_,rfl,rfl,SqT.of hw,(rfl:atI [V.int m,V.ref ta] 0=some (.int m)),_,_,rfl,rfl,?_⟩) (fun z=>?_)⟩⟩
  ·have z':0≤p:=by simpa using z
   show Q (.bl (decide (p<m))) H
   rw [show decide (p<m)=decide (InP m p) by unfold InP;simp [z']]
   exact q
  ·have z':¬ 0≤p:=by simpa using z
   rw [show decide (InP m p)=false by unfold InP;simp [z']] at q
   simpa [z'] using q
theorem JK:FnScope ["web","tie"] ["web","tie"] (defScope DE):=⟨rfl,rfl,rfl,by decide +kernel,rfl,by decide +kernel,by decide +kernel⟩
theorem Hu {f:Addr} {fd:FuncData} (F:Fun K "has_tie" "has_tie" DE f fd) (T:Txt K mg) (CN:Callee P w K mg base 1 "is_number" ["thing"] FM):FnOk P w K mg base CX0 2 f fd ["web","tie"] Eh:=by
 refine F.ok JK (fun vs H Q E h=>?_) (fun cdv A outer s H vs Q E hr h=>?_)
 ·obtain ⟨_,_,_,_,rfl,_⟩:=h;rfl
 ·obtain ⟨w0,m,es,p,rfl,⟨ta,ts,hw,ht,htl,_⟩,q⟩:=h
  refine ⟨_,g9 (l8 (AM (j9 CN hr (by rfl) (b7 (pv 1) b8)) (AU (Dm Eu CL d0 (pv 1) (d4 l7 (by rfl) T.len AF (b7 (j5 m8 (pv 0) d0 (fun _ _=>rfl)) b8)))))),?_⟩
  refine ⟨_,rfl,p,rfl,_,rfl,AZ ⟨_,rfl,_,_,rfl,rfl,_,rfl,x8 (fun z=>⟨_,rfl,w0,_,_,_,rfl,rfl,SqT.of hw,(rfl:atI [V.int m,V.ref ta] 1=some (.ref ta)),ta,ts,rfl,.inr (SqT.of ht),_,_,rfl,rfl,?_⟩) (fun z=>?_)⟩⟩
  ·have z':0≤p:=by simpa using z
   show Q (.bl (decide (p<(ts.length:Int)))) H
   rw [htl,show decide (p<(es.length:Int))=decide (InP es.length p) by unfold InP;simp [z']]
   exact q
  ·have z':¬ 0≤p:=by simpa using z
   rw [show decide (InP es.length p)=false by unfold InP;simp [z']] at q
   simpa [z'] using q
theorem JL:FnScope ["web","place"] ["web","place"] (defScope DF):=⟨rfl,rfl,rfl,by decide +kernel,rfl,by decide +kernel,by decide +kernel⟩
theorem Hv {f:Addr} {fd:FuncData} {C:Addr} (hC:ExcC K mg "NoPlace" C) (F:Fun K "check_place" "check_place" DF f fd) (CN:Callee P w K mg base 2 "has_place" ["web","place"] Eg):FnOk P w K mg base (CXE P w) 3 f fd ["web","place"] (Ei C):=by
 refine F.okE JL (fun vs H Q E h=>?_) (fun cdv A outer s H vs Q E hr h hc=>?_)
 ·obtain ⟨_,_,_,_,rfl,_⟩:=h;rfl
 ·obtain ⟨w0,m,es,p,rfl,W,q1,q2⟩:=h
  refine ⟨_,g9 (n6 (CK (u9 (j9 CN hr (by rfl) (b7 (pv 0) (b7 (pv 1) b8))))) (g9 (Bf hC rfl rfl hc (by rfl) x6)) i8),?_⟩
  refine ⟨_,rfl,_,rfl,w0,m,es,p,rfl,W,_,rfl,?_⟩
  by_cases z:InP m p
  ·rw [decide_eq_true z];exact z0 (q1 z)
  ·rw [decide_eq_false z];exact AZ (q2 z)
theorem JM:FnScope ["web","tie"] ["web","tie"] (defScope DG):=⟨rfl,rfl,rfl,by decide +kernel,rfl,by decide +kernel,by decide +kernel⟩
theorem Hw {f:Addr} {fd:FuncData} {C:Addr} (hC:ExcC K mg "NoTie" C) (F:Fun K "check_tie" "check_tie" DG f fd) (CN:Callee P w K mg base 2 "has_tie" ["web","tie"] Eh):FnOk P w K mg base (CXE P w) 3 f fd ["web","tie"] (Ej C):=by
 refine F.okE JM (fun vs H Q E h=>?_) (fun cdv A outer s H vs Q E hr h hc=>?_)
 ·obtain ⟨_,_,_,_,rfl,_⟩:=h;rfl
 ·obtain ⟨w0,m,es,p,rfl,W,q1,q2⟩:=h
  refine ⟨_,g9 (n6 (CK (u9 (j9 CN hr (by rfl) (b7 (pv 0) (b7 (pv 1) b8))))) (g9 (Bf hC rfl rfl hc (by rfl) x6)) i8),?_⟩
  refine ⟨_,rfl,_,rfl,w0,m,es,p,rfl,W,_,rfl,?_⟩
  by_cases z:InP es.length p
  ·rw [decide_eq_true z];exact z0 (q1 z)
  ·rw [decide_eq_false z];exact AZ (q2 z)
theorem Gp:FnScope ["web","place"] ["web","place"] (defScope BD):=⟨rfl,rfl,rfl,by decide +kernel,rfl,by decide +kernel,by decide +kernel⟩
theorem G0 {f:Addr} {fd:FuncData} {C:Addr} (F:Fun K "ties_at" "ties_at" BD f fd) (T:Txt K mg) (CC:CalleeE P w K mg base 3 "check_place" ["web","place"] (Ei C)):FnOk P w K mg base (CXE P w) 4 f fd ["web","place"] (Bg C):=by
 refine F.okE Gp (fun vs H Q E h=>?_) (fun cdv A outer s H vs Q E hr h hc=>?_)
 ·obtain ⟨_,_,_,_,rfl,_⟩:=h;rfl
 ·obtain ⟨w0,m,es,p,rfl,W,q1,q2⟩:=h
  refine ⟨_,c9 (v6 (Ab CC rfl hc.t hr (by rfl) (b7 (pv 0) (b7 (pv 1) b8))))
   (g9 (l8 (v0 ["tie","ends"] ["place"] [1] (Bd (by rfl) T.enum (b7 (j5 m8 (pv 0) d0 (fun _ _=>rfl)) b8)) (fun _ _ _ _ _=>At (K:=K) (n:=2) rfl rfl (l9 (i7 (i:=0) Go rfl (Or.inl rfl)) (l9 (i7 (i:=1) Go rfl (Or.inl rfl)) w6)))
     (fun _ _ _ _ _=>v7 (j7 (DV (K:=K) rfl) (pv 2) (pv 1) (by with_unfolding_all rfl))) (fun _ _ _ _ _=>pv 0)))),?_⟩
  refine ⟨_,rfl,_,rfl,w0,m,es,p,rfl,W,fun hin=>?_,q2⟩
  have q:=q1 hin
  obtain ⟨ta,ts,hw,ht,htl,he,hb,h63,hm⟩:=W
  refine ⟨_,rfl,w0,_,_,_,rfl,rfl,SqT.of hw,(rfl:atI [V.int m,V.ref ta] 1=some (.ref ta)),ta,rfl,.inr ⟨⟨_,SqT.of ht⟩,fun D hD=>?_⟩⟩
  refine BW (K:=K) (a:=ta) (xs:=ts) (fun i ys H2=>Same H H2∧H2 D=some (.lst ys)∧ys=(w5 es p i).map natV) ⟨h7 (Same.refl _) hD,b9,rfl⟩ (fun i ys H2 _ h=>SqT.of (h.1 _ _ ht)) ?_ ?_
  ·rintro i x ys H2 pp hx ⟨s2,d2,rfl⟩ hpp
   obtain ⟨qv,e,rfl,ee,hq⟩:=he i x hx
   have hi:i<ts.length:=(List.getElem?_eq_some_iff.mp hx).1
   have s3:=h7 (o := .tup [.int (i:Int),.ref qv]) s2 hpp
   have e1:w5 es p (i+1)=w5 es p i++(if atE p e=true then [i] else []):=by rw [w5,ee]
   have fl:((w5 es p i).map natV).length<sizeLine:=i9 (by rw [List.length_map];have:=BG es p i;omega)
   refine ⟨pp,_,rfl,SqT.of b9,rfl,_,_,rfl,_,_,rfl,rfl,?_⟩
   refine ⟨_,rfl,_,rfl,qv,_,rfl,.inr (SqT.of (s3 _ _ hq)),rfl,rfl,_,rfl,?_⟩
   show if inV (.int p) [.int e.1,.int e.2]=true then _ else _
   rw [Ai]
   refine x8 (fun z=>⟨_,rfl,j3 d2 hpp,fl,t0 s3 hD,b9,?_⟩) (fun z=>⟨s3,j3 d2 hpp,?_⟩)
   ·rw [e1,if_pos z,List.map_append];rfl
   ·rw [e1,if_neg z,List.append_nil]
  ·rintro ys H2 ⟨s2,d2,rfl⟩
   rw [htl] at d2
   exact q D H2 hD s2 d2
theorem scFarE:FnScope ["web","tie","place","one","other"] ["web","tie","place"] (defScope DH):=⟨rfl,rfl,rfl,by decide +kernel,rfl,by decide +kernel,by decide +kernel⟩
theorem Hy {f:Addr} {fd:FuncData} {C Tc:Addr} (hC:ExcC K mg "NoPlace" C) (F:Fun K "far_end" "far_end" DH f fd) (CC:CalleeE P w K mg base 3 "check_tie" ["web","tie"] (Ej Tc)):FnOk P w K mg base (CXE P w) 4 f fd ["web","tie","place"] (Ek C Tc):=by
 refine F.okE scFarE (fun vs H Q E h=>?_) (fun cdv A outer s H vs Q E hr h hc=>?_)
 ·obtain ⟨_,_,_,_,_,rfl,_⟩:=h;rfl
 ·obtain ⟨w0,m,es,k,p,rfl,W,q1,q2,q3⟩:=h
  refine ⟨_,c9 (v6 (Ab CC rfl hc.t hr (by rfl) (b7 (pv 0) (b7 (pv 1) b8))))
   (c9 (Bk (j5 m8 (j5 m8 (pv 0) d0 (fun _ _=>rfl)) (pv 1) (fun _ _=>rfl)) (BP (n:=2) rfl (l9 (i7 (i:=3) scFarE.nd rfl (Or.inl rfl)) (l9 (i7 (i:=4) scFarE.nd rfl (Or.inl rfl)) w6))))
   (c9 (n6 (j7 AE (pv 2) (pv 3) (m7 _)) (g9 (l8 (pv 4))) i8)
   (c9 (n6 (j7 AE (pv 2) (pv 4) (m7 _)) (g9 (l8 (pv 3))) i8) (g9 (Bf hC rfl rfl hc (by rfl) x6))))),?_⟩
  refine ⟨_,rfl,_,rfl,w0,m,es,k,rfl,W,fun hin=>?_,q3⟩
  obtain ⟨ta,ts,hw,ht,htl,he,hb,h63,hm⟩:=W
  have hk:k.toNat<ts.length:=by have:=hin.1;have:=hin.2;omega
  have et:ts[k.toNat]?=some (ts[k.toNat]'hk):=by simp
  obtain ⟨qv,e,ev,ee,hq⟩:=he _ _ et
  rw [ev] at et
  have at':atI ts k=some (.ref qv):=by
   have:=p7 et
   rwa [Int.toNat_of_nonneg hin.1] at this
  refine ⟨_,rfl,w0,_,_,_,rfl,rfl,SqT.of hw,(rfl:atI [V.int m,V.ref ta] 1=some (.ref ta)),_,rfl,ta,ts,_,_,rfl,rfl,SqT.of ht,at',?_⟩
  refine ⟨qv,_,rfl,SqT.of hq,rfl,_,_,rfl,_,_,rfl,rfl,?_⟩
  have q1':=q1 e hin ee
  have q2':=q2 e hin ee
  have fr:farI es k.toNat p=e.1+e.2 - p:=by unfold farI;rw [ee]
  refine ⟨_,rfl,_,rfl,rfl,_,rfl,x8 (fun z=>⟨_,rfl,?_⟩) (fun z=>⟨_,rfl,_,rfl,rfl,_,rfl,x8 (fun z2=>⟨_,rfl,?_⟩) (fun z2=>q2' ?_)⟩)⟩
  ·have z':p=e.1:=by simpa using z
   have:=q1' (by unfold atE;rw [z'];simp)
   rw [fr,show e.1+e.2 - p=e.2 by omega] at this
   exact this
  ·have z':p=e.2:=by simpa using z2
   have:=q1' (by unfold atE;rw [z'];simp)
   rw [fr,show e.1+e.2 - p=e.1 by omega] at this
   exact this
  ·have z1':¬ p=e.1:=by simpa using z
   have z2':¬ p=e.2:=by simpa using z2
   unfold atE
   rw [beq_eq_false_iff_ne.mpr (fun q=>z1' q.symm),beq_eq_false_iff_ne.mpr (fun q=>z2' q.symm)];rfl
theorem Gq:FnScope ["web","hueing","place"] ["web","hueing","place"] (defScope BE):=⟨rfl,rfl,rfl,by decide +kernel,rfl,by decide +kernel,by decide +kernel⟩
theorem G1 {f:Addr} {fd:FuncData} {C:Addr} (F:Fun K "hues_at" "hues_at" BE f fd) (T:Txt K mg) (zs:mg "sorted"=none) (CA:CalleeE P w K mg base 4 "ties_at" ["web","place"] (Bg C)):FnOk P w K mg base (CXE P w) 5 f fd ["web","hueing","place"] (Ce C):=by
 refine F.okE Gq (fun vs H Q E h=>?_) (fun cdv A outer s H vs Q E hr h hc=>?_)
 ·obtain ⟨_,_,_,_,_,_,rfl,_⟩:=h;rfl
 ·obtain ⟨w0,a,m,es,row,p,rfl,W,R,q1,q2⟩:=h
  refine ⟨_,g9 (l8 (d4 Dx (by rfl) zs Ga (b7 (v0 ["tie"] ["hueing"] [1] (An (Ab CA rfl hc.t hr (by rfl) (b7 (pv 0) (b7 (pv 2) b8)))) (fun _ _ _ _ _=>i7 (i:=0) K4 rfl (Or.inl rfl))
   (fun _ _ _ _ _=>v7 (v5 (B5 (j5 (AC (K:=K) rfl) (pv 1) (pv 0) (fun _ _=>rfl))))) (fun _ _ _ _ _=>j5 (AC (K:=K) rfl) (pv 1) (pv 0) (fun _ _=>rfl))) b8))),?_⟩
  have h61:es.length≤61:=by obtain ⟨_,_,_,_,_,_,_,z,_⟩:=W;exact z
  refine ⟨_,rfl,_,rfl,w0,m,es,p,rfl,W,fun hin l H1 hl s1 hl1=>?_,q2⟩
  have R1:=R.same s1
  obtain ⟨ts,ets⟩:∃ ts,w5 es p es.length=ts:=⟨_,rfl⟩
  have hts:∀ k∈ts,k<es.length∧∃ e,es[k]?=some e∧(p=e.1∨p=e.2):=fun k hk=>EC (ets▸hk)
  have hin2:∀ k e,es[k]?=some e→(p=e.1∨p=e.2)→k∈ts:=fun k e h1 h2=>ets▸Hs h1 h2
  have htl:=BG es p es.length
  rw [ets] at hl1 htl
  refine ⟨l,rfl,⟨_,SqL.of hl1⟩,fun D hD=>Bs (K:=K) (a:=l) (xs:=ts.map natV) (fun i ys H2=>Same H1 H2∧H2 D=some (.lst ys)∧ys.length≤i∧∃ ns:List Int,ys=ns.map V.int∧∀ h,h∈ns↔∃ k∈ts.take i,row[k]?=some (.int h)) ⟨h7 (Same.refl _) hD,b9,Nat.le_refl _,[],rfl,fun h=>by simp⟩ (fun i ys H2 _ h=>SqL.of (h.1 _ _ hl1)) ?_ ?_⟩
  ·rintro i x ys H2 hx ⟨s2,d2,l2,ns,rfl,hns⟩
   obtain ⟨k,hk,rfl⟩:=Ed hx
   have hi:i<ts.length:=(List.getElem?_eq_some_iff.mp hk).1
   have hkl:=(hts k (List.mem_of_getElem? hk)).1
   have hr':row[k]?=some (row[k]'(by rw [R.2.1];exact hkl)):=by simp
   obtain ⟨v,ev⟩:∃ v,row[k]'(by rw [R.2.1];exact hkl)=v:=⟨_,rfl⟩
   rw [ev] at hr'
   have ix:atI row (k:Int)=some v:=p7 hr'
   have R2:=R1.same s2
   have tk:ts.take (i+1)=ts.take i++[k]:=by rw [List.take_add_one,hk];rfl
   refine ⟨_,rfl,_,rfl,a,row,_,_,rfl,rfl,SqL.of R2.1,ix,_,rfl,?_⟩
   rcases R.2.2 v (List.mem_of_getElem? hr') with rfl | ⟨n,rfl,_⟩
   ·refine Av rfl ⟨s2,d2,by omega,ns,rfl,fun h=>?_⟩
    rw [hns,tk]
    constructor
    ·rintro ⟨j,hj,e⟩;exact ⟨j,List.mem_append_left _ hj,e⟩
    ·rintro ⟨j,hj,e⟩
     rcases List.mem_append.mp hj with hj | hj
     ·exact ⟨j,hj,e⟩
     ·rw [List.mem_singleton.mp hj,hr'] at e;cases e
   ·refine Cb (fun z=>nomatch z) ⟨_,rfl,_,rfl,a,row,_,_,rfl,rfl,SqL.of R2.1,ix,d2,i9 (by omega),t0 s2 hD,b9,by rw [List.length_append];show _+1≤_;omega,ns++[n],by rw [List.map_append];rfl,fun h=>?_⟩
    rw [List.mem_append,hns,tk]
    constructor
    ·rintro (⟨j,hj,e⟩ | z)
     ·exact ⟨j,List.mem_append_left _ hj,e⟩
     ·rw [List.mem_singleton.mp z];exact ⟨k,List.mem_append_right _ (List.mem_singleton.mpr rfl),hr'⟩
    ·rintro ⟨j,hj,e⟩
     rcases List.mem_append.mp hj with hj | hj
     ·exact .inl ⟨j,hj,e⟩
     ·rw [List.mem_singleton.mp hj,hr'] at e
      injection e with e
      injection e with e
      exact .inr (by rw [e];exact List.mem_singleton.mpr rfl)
  ·rintro ys H2 ⟨s2,d2,l2,ns,rfl,hns⟩
   rw [List.length_map,List.length_map] at l2
   rw [List.length_map,List.take_length] at hns
   refine ⟨D,ns,rfl,SqL.of d2,by omega,fun S hS=>q1 hin S (srt ns) _ ((s1.trans s2).free hS) (h7 (s1.trans s2) hS) b9 fun h=>?_⟩
   rw [(Dw ns).mem_iff,hns]
   constructor
   ·rintro ⟨k,hk,e⟩
    obtain ⟨_,e1,e2,e3⟩:=hts k hk
    exact ⟨k,atH_iff.mpr ⟨e1,e2,e3,e⟩⟩
   ·rintro ⟨k,hk⟩
    obtain ⟨e,e1,e2,e3⟩:=atH_iff.mp hk
    exact ⟨k,hin2 k e e1 e2,e3⟩
theorem scFreeAt:FnScope ["web","hueing","place","hues","taken"] ["web","hueing","place","hues"] (defScope BF):=⟨rfl,rfl,rfl,by decide +kernel,rfl,by decide +kernel,by decide +kernel⟩
theorem G2 {f:Addr} {fd:FuncData} {C:Addr} (F:Fun K "free_at" "free_at" BF f fd) (T:Txt K mg) (CA:CalleeE P w K mg base 5 "hues_at" ["web","hueing","place"] (Ce C)):FnOk P w K mg base (CXE P w) 6 f fd ["web","hueing","place","hues"] (Cf C):=by
 refine F.okE scFreeAt (fun vs H Q E h=>?_) (fun cdv A outer s H vs Q E hr h hc=>?_)
 ·obtain ⟨_,_,_,_,_,_,_,rfl,_⟩:=h;rfl
 ·obtain ⟨w0,a,m,es,row,p,hh,rfl,W,R,h0,h6,q1,q2⟩:=h
  refine ⟨_,c9 (j8 (i:=4) scFreeAt.nd rfl (Or.inr rfl) (Ab CA rfl hc.t hr (by rfl) (b7 (pv 0) (b7 (pv 1) (b7 (pv 2) b8)))))
   (g9 (l8 (v0 ["hue"] ["taken"] [4] (t7 (by rfl) T.range (b7 (pv 3) b8)) (fun _ _ _ _ _=>i7 (i:=0) JH rfl (Or.inl rfl)) (fun _ _ _ _ _=>v7 (j7 (Bu (K:=K) rfl) (pv 0) (pv 1) (by with_unfolding_all rfl))) (fun _ _ _ _ _=>pv 0)))),?_⟩
  refine ⟨_,rfl,_,rfl,_,rfl,w0,a,m,es,row,p,rfl,W,R,fun hin l ns H1 nl s1 hl1 hns=>?_,q2⟩
  refine ⟨_,rfl,hh,rfl,by omega,by omega,fun D hD=>v9 (lo:=0) (n:=hh.toNat) (fun k ys H2=>Same H1 H2∧H2 D=some (.lst ys)∧∃ gs:List Int,ys=gs.map V.int∧gs.length≤k∧∀ h,h∈gs↔0≤h∧h<k∧h∉ns) ⟨h7 (Same.refl _) hD,b9,[],rfl,Nat.le_refl _,fun h=>by simp;omega⟩ ?_ ?_⟩
  ·rintro k ys H2 hk ⟨s2,d2,gs,rfl,lg,hg⟩
   have hk6:k<600:=by omega
   refine ⟨_,rfl,_,rfl,l,_,rfl,.inl (SqL.of (s2 _ _ hl1)),rfl,By ns,_,rfl,?_⟩
   show if (!inV (.int (0+(k:Int))) (ns.map V.int))=true then _ else _
   rw [Int.zero_add]
   refine x8 (fun z=>⟨_,rfl,d2,i9 (by rw [List.length_map];omega),t0 s2 hD,b9,gs++[(k:Int)],by rw [List.map_append];rfl,by rw [List.length_append];show _+1≤_;omega,fun h=>?_⟩) (fun z=>⟨s2,d2,gs,rfl,by omega,fun h=>?_⟩)
   ·have z':(k:Int)∉ns:=fun y=>by rw [inV_iff.mpr y] at z;cases z
    rw [List.mem_append,hg]
    constructor
    ·rintro (⟨x1,x2,x3⟩ | x)
     ·exact ⟨x1,by omega,x3⟩
     ·rw [List.mem_singleton.mp x];exact ⟨by omega,by omega,z'⟩
    ·rintro ⟨x1,x2,x3⟩
     by_cases y:h=(k:Int)
     ·exact .inr (by rw [y];exact List.mem_singleton.mpr rfl)
     ·exact .inl ⟨x1,by omega,x3⟩
   ·have z':(k:Int)∈ns:=by
     have:inV (.int (k:Int)) (ns.map V.int)=true:=by simpa using z
     exact inV_iff.mp this
    rw [hg]
    constructor
    ·rintro ⟨x1,x2,x3⟩;exact ⟨x1,by omega,x3⟩
    ·rintro ⟨x1,x2,x3⟩
     refine ⟨x1,?_,x3⟩
     have:h≠(k:Int):=fun y=>x3 (by rw [y];exact z')
     omega
  ·rintro ys H2 ⟨s2,d2,gs,rfl,lg,hg⟩
   refine q1 hin _ gs _ (s1.free hD) (s1.trans s2) d2 ⟨fun h=>?_,by omega⟩
   rw [hg,show ((hh.toNat:Nat):Int)=hh by omega]
   constructor
   ·rintro ⟨x1,x2,x3⟩
    refine ⟨x1,x2,fun k=>?_⟩
    cases e:atH es row p h k with
    | false=>rfl
    | true=>exact absurd ((hns h).mpr ⟨k,e⟩) x3
   ·rintro ⟨x1,x2,x3⟩
    exact ⟨x1,x2,fun y=>by obtain ⟨k,e⟩:=(hns h).mp y;rw [x3 k] at e;cases e⟩
end
open PySem L2
noncomputable def BN (es:List (Int×Int)) (row:List V) (p hh:Int) (F:Fan):List Nat→Option (Nat×Nat)
 | []=>none
 | o::r=>if o∈F.map (·.1) then BN es row p hh F r else match y6 es row p hh F o F.length with
   | []=>BN es row p hh F r
   | b::_=>some (o,b)
theorem BH {es:List (Int×Int)} {row:List V} {p hh:Int} {F:Fan} {o:Nat}:∀ {n:Nat},(∀ i,i<n→okB es row p hh F o i=false)→y6 es row p hh F o n=[]
 | 0,_=>rfl
 | n+1,h=>by
   rw [y6,BH fun i hi=>h i (by omega),h n (by omega)]
   rfl
theorem C7 {es:List (Int×Int)} {row:List V} {p hh:Int} {F:Fan} {o j:Nat} (h:∀ i,i<j→okB es row p hh F o i=false) (hj:okB es row p hh F o j=true):∀ {n:Nat},j<n→∃ r,y6 es row p hh F o n=j::r
 | 0,z=>absurd z (Nat.not_lt_zero _)
 | n+1,z=>by
   by_cases y:j=n
   ·subst y
    exact ⟨[],by rw [y6,BH h,if_pos hj];rfl⟩
   ·obtain ⟨r,e⟩:=C7 h hj (n:=n) (by omega)
    rw [y6,e]
    exact ⟨_,rfl⟩
theorem Cg {es:List (Int×Int)} {row:List V} {p hh:Int} {F:Fan} {o i:Nat} (h:Be row o=none):okB es row p hh F o i=false:=by
 unfold okB
 rw [h]
noncomputable def atP (es:List (Int×Int)) (p:Int) (k:Nat):Bool:=match es[k]? with
 | some e=>atE p e
 | none=>false
noncomputable def nrB (es:List (Int×Int)) (row:List V) (p:Int) (F:Fan) (k:Nat):Bool:=huB es row p k&&!decide (k∈F.map (·.1))
theorem FN {es:List (Int×Int)} {row:List V} {p hh:Int} {F:Fan}:∀ xs:List Nat,BN es row p hh F (xs.filter (atP es p))=AQ es row p hh F (xs.filter (nrB es row p F))
 | []=>rfl
 | x::xs=>by
   have ih:=FN (es:=es) (row:=row) (p:=p) (hh:=hh) (F:=F) xs
   by_cases z:atP es p x=true
   ·rw [List.filter_cons_of_pos z,BN]
    by_cases y:x∈F.map (·.1)
    ·rw [if_pos y,List.filter_cons_of_neg (by unfold nrB;rw [decide_eq_true y];simp)]
     exact ih
    ·rw [if_neg y]
     cases eh:Be row x with
     | none=>
       rw [List.filter_cons_of_neg (by unfold nrB huB;rw [eh];split<;>simp_all),BH fun i _=>Cg eh]
       exact ih
     | some c=>
       have hb:nrB es row p F x=true:=by
        unfold nrB huB
        unfold atP at z
        rw [eh]
        cases e1:es[x]? with
        | none=>rw [e1] at z;cases z
        | some e=>
          rw [e1] at z
          simp only [Bool.and_eq_true,Bool.not_eq_true',decide_eq_false_iff_not]
          exact ⟨z,y⟩
       rw [List.filter_cons_of_pos hb,AQ]
       cases y6 es row p hh F x F.length with
       | nil=>exact ih
       | cons b r=>rfl
   ·rw [List.filter_cons_of_neg z,List.filter_cons_of_neg ?_]
    ·exact ih
    ·intro y
     unfold nrB huB at y
     simp only [Bool.and_eq_true] at y
     apply z
     unfold atP
     have y1:=y.1
     split at y1
     ·rename_i e1 _;rw [e1];exact y1
     ·cases y1
theorem Ch (es:List (Int×Int)) (row:List V) (p:Int):∀ n,w4 es row p n=(List.range n).filter (huB es row p)
 | 0=>rfl
 | n+1=>by
   rw [w4,Ch es row p n,List.range_succ,List.filter_append]
   congr 1
   by_cases z:huB es row p n=true
   ·rw [if_pos z,List.filter_cons_of_pos z];rfl
   ·rw [if_neg z,List.filter_cons_of_neg z];rfl
noncomputable def A0 (es:List (Int×Int)) (row:List V) (p:Int) (F:Fan):List Nat:=(List.range es.length).filter (nrB es row p F)
theorem Hz (es:List (Int×Int)) (row:List V) (p:Int) (F:Fan):(A0 es row p F).Nodup:=List.nodup_range.filter _
theorem Gr {es:List (Int×Int)} {row:List V} {p:Int} {F:Fan} {o:Nat} (h:o∈A0 es row p F):Hued es row p o∧o<es.length:=by
 unfold A0 at h
 obtain ⟨h1,h2⟩:=List.mem_filter.mp h
 unfold nrB at h2
 rw [Bool.and_eq_true] at h2
 have:o∈w4 es row p es.length:=by rw [Ch];exact List.mem_filter.mpr ⟨h1,h2.1⟩
 exact ⟨(Ak this).2,List.mem_range.mp h1⟩
theorem ED {es:List (Int×Int)} {row:List V} {p:Int} {F:Fan} {o:Nat} {b:Option Nat}:A0 es row p (F++[(o,b)])=(A0 es row p F).erase o:=by
 rw [(Hz es row p F).erase_eq_filter]
 unfold A0
 rw [List.filter_filter]
 refine List.filter_congr fun k _=>?_
 unfold nrB
 rw [Bool.eq_iff_iff]
 simp only [List.map_append,List.map_cons,List.map_nil,List.mem_append,List.mem_singleton,Bool.and_eq_true,Bool.not_eq_true',decide_eq_false_iff_not,bne_iff_ne,ne_eq,not_or]
 constructor
 ·rintro ⟨x1,x2,x3⟩;exact ⟨x3,x1,x2⟩
 ·rintro ⟨x3,x1,x2⟩;exact ⟨x1,x2,x3⟩
theorem Gs {es:List (Int×Int)} {row:List V} {p:Int} {k:Nat} (hk:row[k]?=some .non):A0 es row p [(k,none)]=w4 es row p es.length:=by
 rw [Ch]
 unfold A0
 refine List.filter_congr fun j _=>?_
 unfold nrB
 by_cases z:j=k
 ·subst z
  have:huB es row p j=false:=by
   unfold huB
   have:Be row j=none:=by
    cases e:Be row j with
    | none=>rfl
    | some h=>rw [hueO_iff,hk] at e;cases e
   rw [this]
   split<;>simp_all
  rw [this];rfl
 ·simp [z]
theorem JN {es:List (Int×Int)} {row:List V} {p hh:Int} {F:Fan} {o b:Nat} (h:AQ es row p hh F (A0 es row p F)=some (o,b)):
 Aj es row p hh (A0 es row p F).length F (A0 es row p F)=Aj es row p hh (A0 es row p (F++[(o,some b)])).length (F++[(o,some b)]) (A0 es row p (F++[(o,some b)]))∧(A0 es row p (F++[(o,some b)])).length+1=(A0 es row p F).length:=by
 have ho:=(AY h).1
 have hl:(A0 es row p F).length=(A0 es row p (F++[(o,some b)])).length+1:=by
  rw [ED,List.length_erase_of_mem ho]
  have:=List.length_pos_of_mem ho
  omega
 refine ⟨?_,hl.symm⟩
 rw [hl,Aj,h]
 show Aj es row p hh _ (F++[(o,some b)]) ((A0 es row p F).erase o)=_
 rw [ED]
theorem I0 {es:List (Int×Int)} {row:List V} {p hh:Int} {F:Fan} (h:AQ es row p hh F (A0 es row p F)=none):Aj es row p hh (A0 es row p F).length F (A0 es row p F)=F:=by
 cases (A0 es row p F).length with
 | zero=>rfl
 | succ n=>rw [Aj,h]
noncomputable def FreesV (H:Hp) (rs:List V) (R fa:Addr) (es:List (Int×Int)) (row:List V) (p hh:Int) (F:Fan):Prop:=rs.length=F.length∧∀ (i:Nat) v,rs[i]?=some v→∃ q f gs,v = .ref q∧F[i]?=some f∧H q=some (.lst (gs.map V.int))∧FrI es row (farI es f.1 p) hh gs∧q≠fa∧q≠R
theorem FreesV.same {H H':Hp} {rs:List V} {R fa:Addr} {es:List (Int×Int)} {row:List V} {p hh:Int} {F:Fan} (h:FreesV H rs R fa es row p hh F) (s:Same H H'):FreesV H' rs R fa es row p hh F:=
 ⟨h.1,fun i v hv=>let ⟨q,f,gs,e1,e2,e3,r⟩:=h.2 i v hv;⟨q,f,gs,e1,e2,s _ _ e3,r⟩⟩
theorem FreesV.upd {H:Hp} {rs:List V} {R fa x:Addr} {o:HO} {es:List (Int×Int)} {row:List V} {p hh:Int} {F:Fan} (h:FreesV H rs R fa es row p hh F) (hx:x=fa∨x=R):FreesV (upd H x o) rs R fa es row p hh F:=
 ⟨h.1,fun i v hv=>let ⟨q,f,gs,e1,e2,e3,e4,r1,r2⟩:=h.2 i v hv;⟨q,f,gs,e1,e2,AG e3 (by rcases hx with rfl | rfl;exact r1;exact r2),e4,r1,r2⟩⟩
theorem FreesV.add {H:Hp} {rs:List V} {R fa:Addr} {es:List (Int×Int)} {row:List V} {p hh:Int} {F:Fan} {q:Addr} {f:Nat×Option Nat} {gs:List Int} (h:FreesV H rs R fa es row p hh F) (hq:H q=some (.lst (gs.map V.int))) (hf:FrI es row (farI es f.1 p) hh gs) (d1:q≠fa) (d3:q≠R):FreesV H (rs++[.ref q]) R fa es row p hh (F++[f]):=by
 refine ⟨by simp [h.1],fun i v hv=>?_⟩
 by_cases z:i<rs.length
 ·rw [List.getElem?_append_left z] at hv
  obtain ⟨q',f',gs',a,b,c⟩:=h.2 i v hv
  exact ⟨q',f',gs',a,by rw [List.getElem?_append_left (by rw [← h.1];exact z)];exact b,c⟩
 ·have hl:=(List.getElem?_eq_some_iff.mp hv).1
  rw [List.length_append] at hl
  have:i=rs.length:=by simp at hl;omega
  subst this
  rw [List.getElem?_append_right (Nat.le_refl _)] at hv
  have:v = .ref q:=by simpa using hv.symm
  subst this
  exact ⟨q,f,gs,rfl,by rw [h.1,List.getElem?_append_right (Nat.le_refl _)];simp,hq,hf,d1,d3⟩
noncomputable def El:Sp:=fun vs H Q _=>∃ (a L A R fa:Addr) (es:List (Int×Int)) (row:List V) (p hh:Int) (F:Fan) (fs rs:List V),vs=[.ref a,.ref L,.ref A,.ref R]∧LRow H a es row∧es.length≤61∧H L=some (.lst fs)∧PrF H fs F∧F.length≤200∧H A=some (.lst ((w5 es p es.length).map natV))∧H R=some (.lst rs)∧FreesV H rs R fa es row p hh F∧
 (BN es row p hh F (w5 es p es.length)=none→∀ H',Same H H'→Q .non H')∧(∀ o b,BN es row p hh F (w5 es p es.length)=some (o,b)→∀ q H',Same H H'→H' q=some (.tup [natV o,natV b])→Q (.ref q) H')
theorem Ib:((["tie","back"]:List Str)++([]:List Str)).Nodup:=by decide +kernel
theorem Gu {k:Nat} {ls:List Nat}:inV (natV k) (ls.map natV)=decide (k∈ls):=by
 rw [Bool.eq_iff_iff,decide_eq_true_eq,Cd]
 show inV (.int (k:Int)) _=true↔_
 rw [inV_iff]
 constructor
 ·intro h
  obtain ⟨j,hj,e⟩:=List.mem_map.mp h
  have:j=k:=by omega
  exact this▸hj
 ·intro h;exact List.mem_map.mpr ⟨k,h,rfl⟩
theorem G3 (ls:List Nat):(ls.map natV).all u8=true:=by
 rw [List.all_map,List.all_eq_true]
 intro _ _
 rfl
theorem JO (gs:List Int):inV .non (gs.map V.int)=false:=by
 unfold inV
 rw [List.any_eq_false]
 intro v hv
 obtain ⟨n,_,rfl⟩:=List.mem_map.mp hv
 simp [eqV]
section
variable {P:Program} {w:World} {K:PySem.W.Frag} {mg:Str→Option Value} {base:Heap}
theorem scNext:FnScope ["hueing","fan","around","free","there","tie","back","hues"] ["hueing","fan","around","free"] (defScope DI):=⟨rfl,rfl,rfl,by decide +kernel,rfl,by decide +kernel,by decide +kernel⟩
theorem IA {f:Addr} {fd:FuncData} (F0:Fun K "next_of_fan" "next_of_fan" DI f fd) (T:Txt K mg):FnOk P w K mg base CX0 1 f fd ["hueing","fan","around","free"] El:=by
 refine F0.ok scNext (fun vs H Q E h=>?_) (fun cdv A outer s H vs Q E hr h=>?_)
 ·obtain ⟨_,_,_,_,_,_,_,_,_,_,_,_,rfl,_⟩:=h;rfl
 ·obtain ⟨a,L,Ar,R,fa,es,row,p,hh,F,fs,rs,rfl,Rw,h61,hL,hF,h200,hA,hR,hRs,q0,q1⟩:=h
  refine ⟨_,c9 (AW (i:=4) ["tie","back"] [] [] scNext.nd rfl rfl (An (pv 1)) (fun _ _ _ _ _=>At (K:=K) (n:=2) rfl rfl (l9 (i7 (i:=0) Ib rfl (Or.inl rfl)) (l9 (i7 (i:=1) Ib rfl (Or.inl rfl)) w6))) (fun _ _ _ _ _=>A9) (fun _ _ _ _ _=>pv 0))
   (c9 (AH PassesOwn.never rfl (An (pv 2)) (i7 (i:=5) scNext.nd rfl (Or.inl rfl))
     (g9 (n6 (j7 Ap (pv 5) (pv 4) (by with_unfolding_all rfl))
       (g9 (AH PassesOwn.never rfl (Bd (by rfl) T.enum (b7 (pv 3) b8)) (BP rfl (l9 (i7 (i:=6) scNext.nd rfl (Or.inl rfl)) (l9 (i7 (i:=7) scNext.nd rfl (Or.inl rfl)) w6)))
         (g9 (n6 (j7 B8 (j5 u5 (pv 0) (pv 5) (fun _ _=>rfl)) (pv 7) (by with_unfolding_all rfl)) (g9 (l8 (u7 (b7 (pv 5) (b7 (pv 6) b8))))) i8)))) i8)))
   (g9 (l8 BO))),?_⟩
  have htl:=BG es p es.length
  have hts:∀ k∈w5 es p es.length,k<es.length:=fun k hk=>(EC hk).1
  generalize w5 es p es.length=ts at *
  refine ⟨_,rfl,L,rfl,⟨_,SqL.of hL⟩,fun D hD=>Bs (K:=K) (a:=L) (xs:=fs) (fun i ys H2=>Same H H2∧H2 D=some (.lst ys)∧ys=((F.map (·.1)).take i).map natV) ⟨h7 (Same.refl _) hD,b9,rfl⟩ (fun i ys H2 _ h=>SqL.of (h.1 _ _ hL)) ?_ ?_⟩
  ·rintro i v ys H2 hv ⟨s2,d2,rfl⟩
   obtain ⟨qv,f,rfl,ef,hq⟩:=hF.2 i v hv
   have hi:i<F.length:=(List.getElem?_eq_some_iff.mp ef).1
   refine ⟨qv,_,rfl,SqT.of (s2 _ _ hq),rfl,_,_,rfl,_,_,rfl,rfl,?_⟩
   refine AZ ⟨_,rfl,d2,i9 (by simp only [List.length_map,List.length_take];omega),t0 s2 hD,b9,?_⟩
   rw [List.take_add_one,List.getElem?_map,ef,List.map_append];rfl
  ·rintro ys H2 ⟨s2,d2,rfl⟩
   rw [hF.1,show F.length=(F.map (·.1)).length by simp,List.take_length] at d2
   refine ⟨_,rfl,Ar,rfl,⟨_,SqL.of (s2 _ _ hA)⟩,BY (K:=K) (a:=Ar) (xs:=ts.map natV) (fun i σ H3=>∃ o5 o6 o7:Option V,σ=[some (.ref a),some (.ref L),some (.ref Ar),some (.ref R),some (.ref D),o5,o6,o7]∧Same H2 H3∧BN es row p hh F ts=BN es row p hh F (ts.drop i)) ⟨none,none,none,rfl,Same.refl _,rfl⟩ (fun i σ H3 _ h=>by obtain ⟨_,_,_,_,s3,_⟩:=h;exact SqL.of (s3 _ _ (s2 _ _ hA))) ?_ ?_⟩
   ·rintro i v σ H3 hv ⟨o5,o6,o7,rfl,s3,hn⟩
    obtain ⟨o,ho,rfl⟩:=Ed hv
    have hi:i<ts.length:=(List.getElem?_eq_some_iff.mp ho).1
    have hdrop:ts.drop i=o::ts.drop (i+1):=by
     rw [List.drop_eq_getElem_cons hi]
     congr 1
     have:=ho
     rw [List.getElem?_eq_getElem hi] at this
     exact Option.some.inj this
    have s23:=s2.trans s3
    rw [hdrop,BN] at hn
    refine ⟨_,rfl,_,rfl,D,_,rfl,.inl (SqL.of (s3 _ _ d2)),rfl,G3 _,_,rfl,?_⟩
    show if (!inV (natV o) ((F.map (·.1)).map natV))=true then _ else _
    rw [Gu]
    by_cases z:o∈F.map (·.1)
    ·rw [if_pos z] at hn
     exact Av z ⟨_,_,_,rfl,s3,hn⟩
    ·rw [if_neg z] at hn
     refine Cb z ?_
     have hol:o<row.length:=by rw [Rw.2.1];exact hts o (List.mem_of_getElem? ho)
     have hro:row[o]?=some (row[o]'hol):=by simp
     have hR3:=s23 _ _ hR
     have hRs3:=hRs.same s23
     refine ⟨_,rfl,R,rfl,.inl ⟨⟨_,SqL.of hR3⟩,Fj (K:=K) (a:=R) (xs:=rs) (fun j σ H4=>∃ o6 o7:Option V,σ=[some (.ref a),some (.ref L),some (.ref Ar),some (.ref R),some (.ref D),some (natV o),o6,o7]∧Same H3 H4∧∀ n,n<j→okB es row p hh F o n=false) ⟨_,_,rfl,Same.refl _,fun n hn=>absurd hn (Nat.not_lt_zero _)⟩ (fun j σ H4 _ h=>by obtain ⟨_,_,_,s4,_⟩:=h;exact SqL.of (s4 _ _ hR3)) ?_ ?_⟩⟩
     ·rintro j v σ H4 pp hv ⟨o6',o7',rfl,s4,hno⟩ hpp
      obtain ⟨qr,fr,gs,rfl,efr,hqr,hfr,_⟩:=hRs3.2 j v hv
      have hj:j<F.length:=(List.getElem?_eq_some_iff.mp efr).1
      have s5:Same H3 (upd H4 pp (.tup [.int (j:Int),.ref qr])):=h7 s4 hpp
      refine ⟨pp,_,rfl,SqT.of b9,rfl,_,_,rfl,_,_,rfl,rfl,?_⟩
      generalize (upd H4 pp (.tup [.int (j:Int),.ref qr]))=H5 at s5
      refine ⟨_,rfl,_,rfl,a,row,_,_,rfl,rfl,SqL.of (s5 _ _ (s23 _ _ Rw.1)),p7 hro,_,rfl,qr,_,rfl,.inl (SqL.of (s5 _ _ hqr)),?_⟩
      rcases Rw.2.2 _ (List.getElem_mem hol) with e | ⟨c,e,hc⟩
      ·rw [e] at hro ⊢
       refine ⟨rfl,By gs,_,rfl,?_⟩
       show if inV .non (gs.map V.int)=true then _ else _
       rw [JO]
       refine z0 ⟨_,_,rfl,s5,fun n hn=>?_⟩
       by_cases y:n=j
       ·subst y
        exact Cg (by cases eh:Be row o with | none=>rfl | some h=>rw [hueO_iff,hro] at eh;cases eh)
       ·exact hno n (by omega)
      ·rw [e] at hro ⊢
       have ok:okB es row p hh F o j=decide (c∈gs):=by
        unfold okB
        rw [hueO_iff.mpr hro,efr]
        rw [Bool.eq_iff_iff]
        simp only [Bool.and_eq_true,Bool.not_eq_true',decide_eq_true_eq]
        rw [hfr.1,noH_iff]
        exact ⟨fun ⟨x1,x2⟩=>⟨hc,x1,x2⟩,fun ⟨_,x1,x2⟩=>⟨x1,x2⟩⟩
       refine ⟨rfl,By gs,_,rfl,?_⟩
       show if inV (.int c) (gs.map V.int)=true then _ else _
       refine x8 (fun y=>?_) (fun y=>⟨_,_,rfl,s5,fun n hn=>?_⟩)
       ·have ok':okB es row p hh F o j=true:=by rw [ok];exact decide_eq_true (inV_iff.mp y)
        obtain ⟨r,eb⟩:=C7 hno ok' hj
        rw [eb] at hn
        refine ⟨_,rfl,_,rfl,by show 2≤sizeLine;decide,fun g hg=>?_⟩
        exact q1 o j hn g _ (h7 (s23.trans s5) hg) b9
       ·by_cases y2:n=j
        ·subst y2
         rw [ok]
         exact decide_eq_false fun x=>y (inV_iff.mpr x)
        ·exact hno n (by omega)
     ·rintro σ H4 ⟨o6',o7',rfl,s4,hno⟩
      rw [hRs.1] at hno
      rw [BH hno] at hn
      exact ⟨_,_,_,rfl,s3.trans s4,hn⟩
   ·rintro σ H3 ⟨o5,o6,o7,rfl,s3,hn⟩
    rw [List.length_map,List.drop_length] at hn
    exact q0 hn _ (s2.trans s3)
end
open PySem L2
noncomputable def DZ (C T Fa:Addr):Sp:=fun vs H Q E=>∃ (w a:Addr) (m:Int) (es:List (Int×Int)) (row:List V) (k p hh:Int),vs=[.ref w,.ref a,.int k,.int p,.int hh]∧WebE H w m es∧LRow H a es row∧0≤hh∧hh≤600∧
 (¬ InP es.length k→E (.ref T) none H)∧(∀ e,InP es.length k→es[k.toNat]?=some e→atE p e=false→E (.ref C) none H)∧(∀ e h,InP es.length k→es[k.toNat]?=some e→atE p e=true→row[k.toNat]?=some (.int h)→E (.ref Fa) none H)∧
 (∀ e,InP es.length k→es[k.toNat]?=some e→atE p e=true→row[k.toNat]?=some .non→∀ l H',Same H H'→H l=none→FanAt H' l (BL es row p hh k.toNat)→Q (.ref l) H')
theorem Gv (es:List (Int×Int)) (row:List V) (p:Int) (F:Fan):(A0 es row p F).length≤es.length:=by
 unfold A0
 exact Nat.le_trans (List.length_filter_le _ _) (by simp)
theorem DJ {es:List (Int×Int)} {row:List V} {p hh:Int} {F:Fan}:BN es row p hh F (w5 es p es.length)=AQ es row p hh F (A0 es row p F):=by
 rw [Bh]
 exact FN (List.range es.length)
section
variable {P:Program} {w:World} {K:PySem.W.Frag} {mg:Str→Option Value} {base:Heap}
theorem scFanOf:FnScope ["web","hueing","tie","place","hues","around","fan","free","pair","far"] ["web","hueing","tie","place","hues"] (defScope Bx):=⟨rfl,rfl,rfl,by decide +kernel,rfl,by decide +kernel,by decide +kernel⟩
theorem Gw {f:Addr} {fd:FuncData} {C Tc Fc:Addr} (hFc:ExcC K mg "NoFan" Fc) (F0:Fun K "fan_of" "fan_of" Bx f fd) (T:Txt K mg) (CFe:CalleeE P w K mg base 4 "far_end" ["web","tie","place"] (Ek C Tc)) (CA:CalleeE P w K mg base 4 "ties_at" ["web","place"] (Bg C)) (CFr:CalleeE P w K mg base 6 "free_at" ["web","hueing","place","hues"] (Cf C)) (CN:Callee P w K mg base 1 "next_of_fan" ["hueing","fan","around","free"] El):
 FnOk P w K mg base (CXE P w) 7 f fd ["web","hueing","tie","place","hues"] (DZ C Tc Fc):=by
 refine F0.okE scFanOf (fun vs H Q E h=>?_) (fun cdv A outer s H vs Q E hr h hc=>?_)
 ·obtain ⟨_,_,_,_,_,_,_,_,rfl,_⟩:=h;rfl
 ·obtain ⟨w0,a,m,es,row,k,p,hh,rfl,W,R,h0,h6,qT,qP,qF,q⟩:=h
  have hr1:=hr.mono (show 1≤6 by decide)
  have hr4:=hr.mono (show 4≤6 by decide)
  refine ⟨_,c9 (v6 (Ab CFe rfl hc.t hr4 (by rfl) (b7 (pv 0) (b7 (pv 2) (b7 (pv 3) b8)))))
   (c9 (n6 (v5 (B5 (j5 u5 (pv 1) (pv 2) (fun _ _=>rfl)))) (g9 (Bf hFc rfl rfl hc (by rfl) x6)) i8)
   (c9 (j8 (i:=5) scFanOf.nd rfl (Or.inl rfl) (Ab CA rfl hc.t hr4 (by rfl) (b7 (pv 0) (b7 (pv 3) b8))))
   (c9 (j8 (i:=6) scFanOf.nd rfl (Or.inl rfl) (t5 b8))
   (c9 (j8 (i:=7) scFanOf.nd rfl (Or.inl rfl) (t5 b8))
   (c9 (j8 (i:=8) scFanOf.nd rfl (Or.inl rfl) (u7 (b7 (pv 2) (b7 BO b8))))
   (c9 (GF PassesOwn.leaving (v5 (B5 (pv 8)))
     (c9 (v6 (Af PySem.F.plainAttrs_list PySem.F.slot_list_append PySem.F.type_list_append AI (pv 6) (b7 (pv 8) b8)))
     (c9 (j8 (i:=9) scFanOf.nd rfl (Or.inl rfl) (Ab CFe rfl hc.t hr4 (by rfl) (b7 (pv 0) (b7 (j5 m8 (pv 8) d0 (fun _ _=>rfl)) (b7 (pv 3) b8)))))
     (c9 (v6 (Af PySem.F.plainAttrs_list PySem.F.slot_list_append PySem.F.type_list_append AI (pv 7) (b7 (Ab CFr rfl hc.t hr (by rfl) (b7 (pv 0) (b7 (pv 1) (b7 (pv 9) (b7 (pv 4) b8))))) b8)))
     (g9 (j8 (i:=8) scFanOf.nd rfl (Or.inl rfl) (j9 CN hr1 (by rfl) (b7 (pv 1) (b7 (pv 6) (b7 (pv 5) (b7 (pv 7) b8)))))))))))
   (g9 (l8 (pv 6))))))))),?_⟩
  obtain ⟨ta,ts,hw,ht,htl,he,hbd,h61,hm⟩:=id W
  refine ⟨_,rfl,_,rfl,_,rfl,w0,m,es,k,p,rfl,W,fun e hin ee ha=>?_,qP,qT⟩
  have hkl:k.toNat<es.length:=(List.getElem?_eq_some_iff.mp ee).1
  have hkr:k.toNat<row.length:=by rw [R.2.1];exact hkl
  have erk:row[k.toNat]?=some (row[k.toNat]'hkr):=by simp
  have atk:atI row k=some (row[k.toNat]'hkr):=by
   have:=p7 erk
   rwa [Int.toNat_of_nonneg hin.1] at this
  have hkn:((k.toNat:Nat):Int)=k:=Int.toNat_of_nonneg hin.1
  have hpe:p=e.1∨p=e.2:=atE_iff.mp ha
  have hbe:=hbd e (List.mem_of_getElem? ee)
  have hpm:InP m p:=by unfold InP;omega
  refine ⟨_,rfl,_,rfl,a,row,_,_,rfl,rfl,SqL.of R.1,atk,_,rfl,?_⟩
  rcases R.2.2 _ (List.getElem_mem hkr) with z | ⟨c,z,_⟩
  case inr=>
   rw [z] at erk ⊢
   exact Cb (fun z=>nomatch z) (qF e c hin ee ha erk)
  rw [z] at erk ⊢
  have q':=q e hin ee ha erk
  refine Av rfl ?_
  refine ⟨_,rfl,_,rfl,w0,m,es,p,rfl,W,fun _ Ar H1 nA s1 hA=>?_,fun no=>absurd hpm no⟩
  refine ⟨by show 0≤sizeLine;decide,fun fa hfa=>⟨by show 0≤sizeLine;decide,fun fr hfr=>?_⟩⟩
  have s2:Same H1 (upd (upd H1 fa (.lst [])) fr (.lst [])):=h7 (h7 (Same.refl _) hfa) hfr
  have f2:(upd (upd H1 fa (.lst [])) fr (.lst [])) fa=some (.lst []):=j3 b9 hfr
  have r2:(upd (upd H1 fa (.lst [])) fr (.lst [])) fr=some (.lst []):=b9
  have nfa:H fa=none:=s1.free hfa
  have nfr:H fr=none:=(s1.trans (h7 (o := .lst []) (Same.refl H1) hfa)).free hfr
  have Afa:Ar≠fa:=d7 hA hfa
  have Afr:Ar≠fr:=d7 (j3 (u := .lst []) hA hfa) hfr
  have ffr:fa≠fr:=d7 b9 hfr
  generalize (upd (upd H1 fa (.lst [])) fr (.lst []))=H2 at s2 f2 r2
  refine ⟨_,rfl,by show 2≤sizeLine;decide,fun q0 hq0=>?_⟩
  have s3:Same H (upd H2 q0 (.tup [.int k,.non])):=h7 (s1.trans s2) hq0
  have A3:=j3 (u := .tup [.int k,.non]) (s2 _ _ hA) hq0
  have f3:=j3 (u := .tup [.int k,.non]) f2 hq0
  have r3:=j3 (u := .tup [.int k,.non]) r2 hq0
  have t3:(upd H2 q0 (.tup [.int k,.non])) q0=some (.tup [natV k.toNat,Gc none]):=by rw [b9];unfold natV;rw [hkn];rfl
  generalize (upd H2 q0 (.tup [.int k,.non]))=H3 at s3 A3 f3 r3 t3
  have efan:BL es row p hh k.toNat=Aj es row p hh (A0 es row p ([]++[(k.toNat,none)])).length ([]++[(k.toNat,none)]) (A0 es row p ([]++[(k.toNat,none)])):=by
   unfold BL
   rw [List.nil_append,Gs erk]
  refine GH (fun σ H4=>∃ (F:Fan) (vs rs:List V) (v8:V) (o9:Option V),σ=[some (.ref w0),some (.ref a),some (.int k),some (.int p),some (.int hh),some (.ref Ar),some (.ref fa),some (.ref fr),some v8,o9]∧Same H H4∧H4 Ar=some (.lst ((w5 es p es.length).map natV))∧H4 fa=some (.lst vs)∧PrF H4 vs F∧H4 fr=some (.lst rs)∧FreesV H4 rs fr fa es row p hh F∧
   ((v8 = .non∧BL es row p hh k.toNat=F)∨(∃ q o ob e,v8 = .ref q∧H4 q=some (.tup [natV o,Gc ob])∧es[o]?=some e∧atE p e=true∧BL es row p hh k.toNat=Aj es row p hh (A0 es row p (F++[(o,ob)])).length (F++[(o,ob)]) (A0 es row p (F++[(o,ob)]))∧F.length+(A0 es row p (F++[(o,ob)])).length≤es.length)))
   (fun _ H4=>es.length+5 - FI fa H4) ⟨[],[],[],.ref q0,none,rfl,s3,A3,f3,⟨rfl,fun i v hv=>by simp at hv⟩,r3,⟨rfl,fun i v hv=>by simp at hv⟩,.inr ⟨q0,k.toNat,none,e,rfl,t3,ee,ha,efan,?_⟩⟩ ?_ ?_
  ·have:=Gv es row p ([]++[(k.toNat,none)])
   simp only [List.length_nil]
   omega
  ·rintro σ H4 ⟨F,vs,rs,v8,o9,rfl,s4,A4,f4,pf4,r4,pr4,hc8⟩
   rcases hc8 with ⟨rfl,ef⟩ | ⟨qp,o,ob,eo,rfl,hqp,eo1,eo2,ef,hle⟩
   ·refine ⟨_,rfl,_,rfl,Av rfl ?_⟩
    refine ⟨_,rfl,q' fa H4 s4 nfa ?_⟩
    rw [ef]
    exact ⟨vs,f4,pf4⟩
   ·refine ⟨_,rfl,_,rfl,Cb (fun z=>nomatch z) ?_⟩
    have hol:o<es.length:=(List.getElem?_eq_some_iff.mp eo1).1
    have hvl:vs.length=F.length:=pf4.1
    refine ⟨_,rfl,.inl ⟨rfl,_,SqL.of f4⟩,_,rfl,fa,_,_,rfl,rfl,f4,i9 (by omega),?_⟩
    have s5:Same H (upd H4 fa (.lst (vs++[.ref qp]))):=t0 s4 nfa
    have k5:KeepT H4 (upd H4 fa (.lst (vs++[.ref qp]))):=KeepT.lst f4
    have f5:(upd H4 fa (.lst (vs++[.ref qp]))) fa=some (.lst (vs++[.ref qp])):=b9
    have A5:(upd H4 fa (.lst (vs++[.ref qp]))) Ar=some (.lst ((w5 es p es.length).map natV)):=AG A4 Afa
    have r5:(upd H4 fa (.lst (vs++[.ref qp]))) fr=some (.lst rs):=AG r4 ffr.symm
    have pf5:PrF (upd H4 fa (.lst (vs++[.ref qp]))) (vs++[.ref qp]) (F++[(o,ob)]):=(pf4.mono k5).add (k5 _ _ hqp)
    have pr5:=pr4.upd (o := .lst (vs++[.ref qp])) (.inl rfl)
    have q5:=k5 _ _ hqp
    generalize (upd H4 fa (.lst (vs++[.ref qp])))=H5 at s5 f5 A5 r5 pf5 pr5 q5
    have hoI:((o:Nat):Int).toNat=o:=Int.toNat_natCast o
    refine ⟨_,rfl,_,rfl,qp,_,_,_,rfl,rfl,SqT.of q5,(rfl:atI [natV o,Gc ob] 0=some (natV o)),_,rfl,w0,m,es,(o:Int),p,rfl,W.mono (y8 s5),fun e' hin' ee' ha'=>?_,fun e' hin' ee' hna=>?_,fun no=>absurd (show InP es.length (o:Int) by unfold InP;omega) no⟩
    case refine_2=>
     rw [hoI,eo1] at ee'
     cases ee'
     rw [eo2] at hna;cases hna
    rw [hoI]
    have hbo:=hbd eo (List.mem_of_getElem? eo1)
    have hfar:InP m (farI es o p):=by
     unfold farI InP
     rw [eo1]
     have:=atE_iff.mp eo2
     show 0≤eo.1+eo.2 - p∧eo.1+eo.2 - p<m
     omega
    refine ⟨_,rfl,.inl ⟨rfl,_,SqL.of r5⟩,_,rfl,_,rfl,_,rfl,_,rfl,w0,a,m,es,row,farI es o p,hh,rfl,W.mono (y8 s5),R.same s5,h0,h6,fun _ l2 gs H6 nl2 s6 hl2 hgs=>?_,fun no=>absurd hfar no⟩
    have d1:l2≠fa:=fun z=>by subst z;rw [f5] at nl2;cases nl2
    have d3:l2≠fr:=fun z=>by subst z;rw [r5] at nl2;cases nl2
    refine ⟨fr,_,_,rfl,rfl,s6 _ _ r5,i9 (by rw [pr4.1];omega),?_⟩
    have s7:Same H (upd H6 fr (.lst (rs++[.ref l2]))):=t0 (s5.trans s6) nfr
    have k7:KeepT H6 (upd H6 fr (.lst (rs++[.ref l2]))):=KeepT.lst (s6 _ _ r5)
    have f7:(upd H6 fr (.lst (rs++[.ref l2]))) fa=some (.lst (vs++[.ref qp])):=AG (s6 _ _ f5) ffr
    have A7:(upd H6 fr (.lst (rs++[.ref l2]))) Ar=some (.lst ((w5 es p es.length).map natV)):=AG (s6 _ _ A5) Afr
    have r7:(upd H6 fr (.lst (rs++[.ref l2]))) fr=some (.lst (rs++[.ref l2])):=b9
    have pf7:=(pf5.mono (y8 s6)).mono k7
    have pr7:FreesV (upd H6 fr (.lst (rs++[.ref l2]))) (rs++[.ref l2]) fr fa es row p hh (F++[(o,ob)]):=((pr5.same s6).add (f:=(o,ob)) hl2 hgs d1 d3).upd (.inr rfl)
    generalize (upd H6 fr (.lst (rs++[.ref l2])))=H7 at s7 f7 A7 r7 pf7 pr7
    have hF'l:(F++[(o,ob)]).length=F.length+1:=by simp
    have mu:∀ H8,H8 fa=some (.lst (vs++[.ref qp]))→es.length+5 - FI fa H8<es.length+5 - FI fa H4:=fun H8 h8=>by
     unfold FI
     rw [h8,f4]
     simp only [List.length_append,List.length_singleton]
     omega
    refine ⟨_,rfl,_,rfl,_,rfl,_,rfl,a,fa,Ar,fr,fa,es,row,p,hh,F++[(o,ob)],_,_,rfl,R.same s7,h61,f7,pf7,by omega,A7,r7,pr7,fun hn H8 s8=>⟨⟨F++[(o,ob)],_,_,.non,_,rfl,s7.trans s8,s8 _ _ A7,s8 _ _ f7,pf7.mono (y8 s8),s8 _ _ r7,pr7.same s8,.inl ⟨rfl,?_⟩⟩,mu H8 (s8 _ _ f7)⟩,fun o' b' hn q8 H8 s8 hq8=>⟨⟨F++[(o,ob)],_,_,.ref q8,_,rfl,s7.trans s8,s8 _ _ A7,s8 _ _ f7,pf7.mono (y8 s8),s8 _ _ r7,pr7.same s8,.inr ?_⟩,mu H8 (s8 _ _ f7)⟩⟩
    ·rw [DJ] at hn
     rw [ef]
     exact I0 hn
    ·rw [DJ] at hn
     obtain ⟨g1,g2⟩:=JN hn
     obtain ⟨⟨⟨e',e1',e2'⟩,_⟩,_⟩:=Gr (AY hn).1
     exact ⟨q8,o',some b',e',rfl,hq8,e1',atE_iff.mpr e2',by rw [ef,g1],by omega⟩
  ·rintro σ H2 Q1 Q2 hQ ⟨x,hx,b,hb,q2⟩
   exact ⟨x,hx,b,hb,hQ _ _ q2⟩
end
end Hue
namespace PySem
structure ZipFar (z TI TO i1 i2:Addr) (f1 f2:List Addr):Prop where
 iz:TI≠z∧TO≠z∧i1≠z∧i2≠z
 im:TI≠TO∧TI≠i1∧TI≠i2∧TO≠i1∧TO≠i2∧i1≠i2
 g1:∀ c∈f1,c≠z∧c≠TO∧c≠i2
 g2:∀ c∈f2,c≠z∧c≠TO∧c≠i1
section
variable {prog:Program} {w:World} {A:Around} {E:Value→Shared→Prop} {s:Shared}
theorem Da {z TI TO i1 i2:Addr} {f1 f2:List Addr} {n1 n2 k:Nat} {P1 P2:Nat→Value→Prop} {S1 S2:Nat→Heap→Prop} {Q:Value→Shared→Prop}
 (W1:Draws prog w A i1 f1 n1 P1 S1) (W2:Draws prog w A i2 f2 n2 P2 S2) (Fa:ZipFar z TI TO i1 i2 f1 f2) (hz:IsZip s.heap z TI TO .none) (hI:IsPair s.heap TI (.ref i1) (.ref i2)) (hO:∃ a b,IsPair s.heap TO a b)
 (t1:S1 k s.heap) (t2:S2 k s.heap) (l1:k<n1) (l2:k<n2)
 (hQ:∀ x y h' tk,P1 k x→P2 k y→IsZip h' z TI TO (rawInt s.heap.objs.size)→(∃ a b,IsPair h' TO a b)→S1 (k+1) h'→S2 (k+1) h'→IsPair h' s.heap.objs.size x y→h'.objs.size=s.heap.objs.size+1→
   (∀ c o,c≠z→c≠TO→c≠i1→c≠i2→s.heap.get? c=some o→h'.get? c=some o)→Q (.ref s.heap.objs.size) {s with heap:=h',toks:=tk}):
 wpAny (model prog w) A (Builtin.«zip.__next__» ⟨[.ref z],[]⟩) (fun fin s'=>∃ v,fin = .done (.ret v)∧Q v s') E s:=by
 obtain ⟨a,b,hO⟩:=hO
 obtain ⟨z1,z2,z3,z4⟩:=Fa.iz
 obtain ⟨m1,m2,m3,m4,m5,m6⟩:=Fa.im
 have get2:∀ {R:Value→Shared→Prop},R (.bool false) s→wpAny (model prog w) A (field (.ref z) 2) R E s:=fun q=>wpAny_field hz rfl (x := .bool false) rfl q
 show wpAny _ _ (field (.ref z) 2 >>= _) _ _ _
 refine wpAny_bind (get2 ?_)
 show wpAny _ _ (field (.ref z) 3 >>= _) _ _ _
 refine wpAny_bind (wpAny_field hz rfl (x := .ref TI) rfl (wpAny_bind (wpAny_seqItems hI rfl ?_)))
 show wpAny _ _ (Builtin.SmallTypes.ownedTupleIsFree (.ref z) >>= _) _ _ _
 refine wpAny_bind ?_
 unfold Builtin.SmallTypes.ownedTupleIsFree
 refine wpAny_bind (wpAny_field hz rfl (x := .none) rfl (wpAny_pure ?_))
 simp only [if_true]
 refine wpAny_bind (wpAny_rule (wpAny_bind (wpAny_field hz rfl (x := .ref TO) rfl (wpAny_bind (wpAny_setField_rec hz (by simp) fun ha za ka=>wpAny_bind ?_)))))
 replace za:IsZip ha z TI TO .ellipsis:=za
 simp only [List.zipIdx_cons,List.zipIdx_nil,List.forIn_cons,List.forIn_nil]
 -- the first
 refine wpAny_bind (wpAny_bind (wpAny_onRaise ?_))
 show wpAny _ _ (Builtin.SmallTypes.nextOf (.ref i1) >>= _) _ _ _
 have t1a:S1 k ha:=W1.frame _ _ _ t1 fun c hc o e=>ka.extBut _ _ (Fa.g1 c hc).1 e
 refine wpAny_bind (W1.item k {s with heap:=ha} _ _ l1 t1a fun x hb tb px t1b kb=>wpAny_pure ?_)
 have Ob:IsPair hb TO a b:=kb.extBut _ _ m4 (ka.extBut _ _ z2 hO)
 refine wpAny_bind (wpAny_seqItems Ob rfl (wpAny_bind (wpAny_updateSeq_pair Ob fun hc Oc kc=>?_)))
 replace Oc:IsPair hc TO x b:=Oc
 refine wpAny_bind (wpAny_letGo (wpAny_pure ?_))
 -- the second
 refine wpAny_bind (wpAny_bind (wpAny_onRaise ?_))
 show wpAny _ _ (Builtin.SmallTypes.nextOf (.ref i2) >>= _) _ _ _
 have t2c:S2 k hc:=W2.frame _ _ _ t2 fun c hm o e=>kc.extBut _ _ (Fa.g2 c hm).2.1 (kb.extBut _ _ (Fa.g2 c hm).2.2 (ka.extBut _ _ (Fa.g2 c hm).1 e))
 refine wpAny_bind (W2.item k {s with heap:=hc,toks:=tb} _ _ l2 t2c fun y hd td py t2d kd=>wpAny_pure ?_)
 have Od:IsPair hd TO x b:=kd.extBut _ _ m5 Oc
 refine wpAny_bind (wpAny_seqItems Od rfl (wpAny_bind (wpAny_updateSeq_pair Od fun he Oe ke=>?_)))
 replace Oe:IsPair he TO x y:=Oe
 refine wpAny_bind (wpAny_letGo (wpAny_pure (wpAny_pure ?_)))
 refine wpAny_bind (wpAny_seqItems Oe rfl (wpAny_bind (wpAny_newTuple ?_)))
 have hsz:he.objs.size=s.heap.objs.size:=by rw [ke.1,kd.1,kc.1,kb.1,ka.1]
 have ze:IsZip he z TI TO .ellipsis:=ke.extBut _ _ z2.symm (kd.extBut _ _ z4.symm (kc.extBut _ _ z2.symm (kb.extBut _ _ z3.symm za)))
 have kk:∀ c o,c≠z→c≠TO→c≠i1→c≠i2→s.heap.get? c=some o→he.get? c=some o:=fun c o c1 c2 c3 c4 e=>ke.extBut _ _ c2 (kd.extBut _ _ c4 (kc.extBut _ _ c2 (kb.extBut _ _ c3 (ka.extBut _ _ c1 e))))
 have lz:z<he.objs.size:=Heap.lt_size ze
 show wpAny _ _ (Builtin.SmallTypes.ownedTupleHandOut (.ref z) (.ref he.objs.size) >>= _) _ _ _
 refine wpAny_bind ?_
 unfold Builtin.SmallTypes.ownedTupleHandOut
 have zf:IsZip (he.push {cls := .type "tuple",data := .seq #[x,y]}) z TI TO .ellipsis:=Heap.get?_push_of_some _ ze
 refine wpAny_bind (wpAny_setField_rec zf (by simp) fun hf zf' kf=>?_)
 replace zf':IsZip hf z TI TO (rawInt he.objs.size):=zf'
 refine wpAny_setField_rec zf' (by simp) fun hg zg kg=>?_
 replace zg:IsZip hg z TI TO (rawInt he.objs.size):=zg
 have up:∀ c o,c≠z→he.get? c=some o→hg.get? c=some o:=fun c o c1 e=>kg.extBut _ _ c1 (kf.extBut _ _ c1 (Heap.get?_push_of_some _ e))
 have Tg:IsPair hg he.objs.size x y:=kg.extBut _ _ (Nat.ne_of_gt lz) (kf.extBut _ _ (Nat.ne_of_gt lz) (Heap.get?_push_size _ rfl))
 have sg:hg.objs.size=he.objs.size+1:=by rw [kg.1,kf.1,Heap.size_push]
 rw [hsz] at zg Tg sg
 refine wpAny_pure ⟨_,rfl,?_⟩
 show Q (.ref he.objs.size) _
 rw [hsz]
 refine hQ x y hg td px py zg ⟨x,y,up _ _ z2 Oe⟩ (W1.frame _ _ _ t1b fun c hm o e=>up c o (Fa.g1 c hm).1 (ke.extBut _ _ (Fa.g1 c hm).2.1 (kd.extBut _ _ (Fa.g1 c hm).2.2 (kc.extBut _ _ (Fa.g1 c hm).2.1 e))))
  (W2.frame _ _ _ t2d fun c hm o e=>up c o (Fa.g2 c hm).1 (ke.extBut _ _ (Fa.g2 c hm).2.1 e)) Tg sg fun c o c1 c2 c3 c4 e=>up c o c1 (kk c o c1 c2 c3 c4 e)
theorem EE {z TI TO i1 i2:Addr} {f1:List Addr} {n1:Nat} {P1:Nat→Value→Prop} {S1:Nat→Heap→Prop} {Q:Fin→Shared→Prop}
 (W1:Draws prog w A i1 f1 n1 P1 S1) (iz:i1≠z) (g1:∀ c∈f1,c≠z) (hz:IsZip s.heap z TI TO .none) (hI:IsPair s.heap TI (.ref i1) (.ref i2)) (t1:S1 n1 s.heap)
 (hE:∀ h' e,(∀ c o,c≠z→c≠i1→s.heap.get? c=some o→h'.get? c=some o)→(∃ o,h'.get? e=some o∧o.cls = .type "StopIteration")→E (.ref e) {s with heap:=h'}):
 wpAny (model prog w) A (Builtin.«zip.__next__» ⟨[.ref z],[]⟩) Q E s:=by
 show wpAny _ _ (field (.ref z) 2 >>= _) _ _ _
 refine wpAny_bind (wpAny_field hz rfl (x := .bool false) rfl ?_)
 show wpAny _ _ (field (.ref z) 3 >>= _) _ _ _
 refine wpAny_bind (wpAny_field hz rfl (x := .ref TI) rfl (wpAny_bind (wpAny_seqItems hI rfl ?_)))
 show wpAny _ _ (Builtin.SmallTypes.ownedTupleIsFree (.ref z) >>= _) _ _ _
 refine wpAny_bind ?_
 unfold Builtin.SmallTypes.ownedTupleIsFree
 refine wpAny_bind (wpAny_field hz rfl (x := .none) rfl (wpAny_pure ?_))
 simp only [if_true]
 refine wpAny_bind (wpAny_rule (wpAny_bind (wpAny_field hz rfl (x := .ref TO) rfl (wpAny_bind (wpAny_setField_rec hz (by simp) fun ha za ka=>wpAny_bind ?_)))))
 replace za:IsZip ha z TI TO .ellipsis:=za
 simp only [List.zipIdx_cons,List.zipIdx_nil,List.forIn_cons,List.forIn_nil]
 refine wpAny_bind (wpAny_bind (wpAny_onRaise ?_))
 show wpAny _ _ (Builtin.SmallTypes.nextOf (.ref i1) >>= _) _ _ _
 refine wpAny_bind (W1.done {s with heap:=ha} _ _ (W1.frame _ _ _ t1 fun c hc o e=>ka.extBut _ _ (g1 c hc) e) fun hb e kb he=>?_)
 obtain ⟨oe,hoe,hce⟩:=he
 have zb:IsZip hb z TI TO .ellipsis:=kb _ _ iz.symm za
 have ez:e≠z:=fun x=>by subst x;rw [zb] at hoe;cases hoe;simp at hce
 exact wpAny_setField_rec zb (by simp) fun hc _ kc=>hE hc e (fun c o c1 c3 x=>kc.extBut _ _ c1 (kb _ _ c3 (ka.extBut _ _ c1 x))) ⟨oe,kc.extBut _ _ ez hoe,hce⟩
theorem Bi {z TI TO i1 i2:Addr} {f1 f2:List Addr} {n1 n2 k:Nat} {P1 P2:Nat→Value→Prop} {S1 S2:Nat→Heap→Prop} {Q:Option Value→Shared→Prop}
 (W1:Draws prog w A.in1 i1 f1 n1 P1 S1) (W2:Draws prog w A.in1 i2 f2 n2 P2 S2) (Fa:ZipFar z TI TO i1 i2 f1 f2) (hz:IsZip s.heap z TI TO .none) (hI:IsPair s.heap TI (.ref i1) (.ref i2)) (hO:∃ a b,IsPair s.heap TO a b)
 (t1:S1 k s.heap) (t2:S2 k s.heap) (l1:k<n1) (l2:k<n2)
 (hQ:∀ x y h' tk,P1 k x→P2 k y→IsZip h' z TI TO (rawInt s.heap.objs.size)→(∃ a b,IsPair h' TO a b)→S1 (k+1) h'→S2 (k+1) h'→IsPair h' s.heap.objs.size x y→h'.objs.size=s.heap.objs.size+1→
   (∀ c o,c≠z→c≠TO→c≠i1→c≠i2→s.heap.get? c=some o→h'.get? c=some o)→Q (some (.ref s.heap.objs.size)) {s with heap:=h',toks:=tk}):
 wpAny (model prog w) A (pyNext (.ref z)) Q E s:=by
 have hT:s.TypeIs (.ref z) "zip":=⟨_,hz,rfl⟩
 unfold pyNext
 exact wpAny_bind (wpAny_attempt (wpAny_callSpecial?_slot (name:=Str.ofString "__next__") hT F.slot_zip_next
  (wpAny_call_entry F.slot_zip_next hT F.entry_zip_next (Da W1 W2 Fa hz hI hO t1 t2 l1 l2 fun x y h' tk a1 a2 a3 a4 a5 a6 a7 a8 a9=>wpAny_pure (hQ x y h' tk a1 a2 a3 a4 a5 a6 a7 a8 a9)) (F.args_zip_next_1 _))))
theorem Bz {z TI TO i1 i2:Addr} {f1:List Addr} {n1:Nat} {P1:Nat→Value→Prop} {S1:Nat→Heap→Prop} {Q:Option Value→Shared→Prop}
 (W1:Draws prog w A.in1 i1 f1 n1 P1 S1) (iz:i1≠z) (g1:∀ c∈f1,c≠z) (hz:IsZip s.heap z TI TO .none) (hI:IsPair s.heap TI (.ref i1) (.ref i2)) (t1:S1 n1 s.heap)
 (hQ:∀ h',(∀ c o,c≠z→c≠i1→s.heap.get? c=some o→h'.get? c=some o)→Q none {s with heap:=h'}):wpAny (model prog w) A (pyNext (.ref z)) Q E s:=by
 have hT:s.TypeIs (.ref z) "zip":=⟨_,hz,rfl⟩
 unfold pyNext
 refine wpAny_bind (wpAny_attempt (wpAny_callSpecial?_slot (name:=Str.ofString "__next__") hT F.slot_zip_next
  (wpAny_call_entry F.slot_zip_next hT F.entry_zip_next (EE W1 iz g1 hz hI t1 fun h' e hk he=>?_) (F.args_zip_next_1 _))))
 obtain ⟨o,ho,hc⟩:=he
 exact wpAny_bind (wpAny_isInstance (T:="StopIteration") (b:=true) ⟨o,ho,hc⟩ isSubtype_stop (wpAny_pure (hQ _ hk)))
end
noncomputable abbrev CG (l:Addr):Obj:={cls := .type "tuple_iterator",data := .fields #[.ref l,.int 0 0]}
noncomputable abbrev zt3 (h:Heap) (l1 l2:Addr):Heap:=((h.push (CG l1)).push (CG l2)).push {cls := .type "tuple",data := .seq #[.ref h.objs.size,.ref (h.push (CG l1)).objs.size]}
noncomputable abbrev zt4 (h:Heap) (l1 l2:Addr):Heap:=(zt3 h l1 l2).push {cls := .type "tuple",data := .seq #[.none,.none]}
noncomputable abbrev zt5 (h:Heap) (l1 l2:Addr):Heap:=(zt4 h l1 l2).push {cls := .type "zip",data := .fields #[.none,.bool false,.bool false,.ref ((h.push (CG l1)).push (CG l2)).objs.size,.ref (zt3 h l1 l2).objs.size]}
theorem EG (l1 l2:Addr) (xs ys:Array Value):
 Meets (Builtin.«zip.__new__» ⟨[.type "zip",.ref l1,.ref l2],[]⟩) (fun _ R s=>s.heap.IsTuple l1 xs∧s.heap.IsTuple l2 ys∧
  R (.ok (.ret (.ref (zt4 s.heap l1 l2).objs.size))) {s with heap:=zt5 s.heap l1 l2}):=
 .of_wp fun prog w A R s h=>by
  obtain ⟨hp,g,d,tk,os⟩:=s;obtain ⟨hl1,hl2,h⟩:=h
  have hsub:=sub_zip
  have hL1:Heap.IsTuple (Shared.heap ⟨hp,g,d,tk,os⟩) l1 xs:=hl1
  have hL2:Heap.IsTuple (Shared.heap ⟨hp.push (CG l1),g,d,tk,os⟩) l2 ys:=let ⟨o,e,r⟩:=hl2;⟨o,Heap.get?_push_of_some _ e,r⟩
  wp_walk using wpAny_pyIter_tuple hL1,wpAny_pyIter_tuple hL2
  exact ⟨_,rfl,h⟩
section
variable {prog:Program} {w:World} {A:Around} {E:Value→Shared→Prop} {s:Shared}
theorem Db {l1 l2:Addr} {xs ys:Array Value} {Q:Value→Shared→Prop} (hl1:s.heap.IsTuple l1 xs) (hl2:s.heap.IsTuple l2 ys)
 (h:∀ h',IsZip h' (s.heap.objs.size+4) (s.heap.objs.size+2) (s.heap.objs.size+3) .none→IsPair h' (s.heap.objs.size+2) (.ref s.heap.objs.size) (.ref (s.heap.objs.size+1))→
   (∃ a b,IsPair h' (s.heap.objs.size+3) a b)→h'.IsTupleIter s.heap.objs.size l1 0→h'.IsTupleIter (s.heap.objs.size+1) l2 0→
   (∀ c o,s.heap.get? c=some o→h'.get? c=some o)→Q (.ref (s.heap.objs.size+4)) {s with heap:=h'}):
 wpAny (model prog w) A (call (.type "zip") [.ref l1,.ref l2]) Q E s:=by
 refine callType_new F.called_zip (by decide) (F.typeCall_zip_2 _ _) (F.newCall_zip_2 _ _) (fun obj=>F.args_object_init_3 obj _ _) F.entry_zip_new (EG l1 l2 xs ys) ⟨hl1,hl2,?_⟩
 have y1:(s.heap.push (CG l1)).objs.size=s.heap.objs.size+1:=Heap.size_push ..
 have y2:((s.heap.push (CG l1)).push (CG l2)).objs.size=s.heap.objs.size+2:=by rw [Heap.size_push,y1]
 have y3:(zt3 s.heap l1 l2).objs.size=s.heap.objs.size+3:=by rw [Heap.size_push,y2]
 have y4:(zt4 s.heap l1 l2).objs.size=s.heap.objs.size+4:=by rw [Heap.size_push,y3]
 have up:∀ {h0:Heap} {o1:Obj} {c o},h0.get? c=some o→(h0.push o1).get? c=some o:=fun e=>Heap.get?_push_of_some _ e
 have q5:(zt5 s.heap l1 l2).get? (zt4 s.heap l1 l2).objs.size=some _:=Heap.get?_push_size _ rfl
 have q4:(zt5 s.heap l1 l2).get? (zt3 s.heap l1 l2).objs.size=some _:=up (Heap.get?_push_size _ rfl)
 have q3:(zt5 s.heap l1 l2).get? ((s.heap.push (CG l1)).push (CG l2)).objs.size=some _:=up (up (Heap.get?_push_size _ rfl))
 have q2:(zt5 s.heap l1 l2).get? (s.heap.push (CG l1)).objs.size=some _:=up (up (up (Heap.get?_push_size _ rfl)))
 have q1:(zt5 s.heap l1 l2).get? s.heap.objs.size=some _:=up (up (up (up (Heap.get?_push_size _ rfl))))
 show _∧_
 rw [y2,y3,y4] at q5
 rw [y1,y2] at q3
 rw [y3] at q4
 rw [y1] at q2
 rw [y4]
 exact ⟨⟨_,q5,rfl⟩,h _ q5 q3 ⟨_,_,q4⟩ ⟨_,q1,rfl,rfl⟩ ⟨_,q2,rfl,rfl⟩ fun c o x=>up (up (up (up (up x))))⟩
end
end PySem
namespace L2
open PySem PySem.Spec PyProof.Rows
noncomputable def JP (K:PySem.W.Frag) (a b:Addr):It:=
 ⟨fun i H=>∃ xs ys x y,SqT K H a xs∧SqT K H b ys∧xs[i]?=some x∧ys[i]?=some y,
  fun i H x H'=>∃ p v u,H p=none∧x = .ref p∧(∀ xs,SqT K H a xs→xs[i]?=some v)∧(∀ ys,SqT K H b ys→ys[i]?=some u)∧H'=upd H p (.tup [v,u]),
  fun i H=>∃ xs,SqT K H a xs∧xs.length=i⟩
theorem FO {z TI TO i1 i2 l1 l2:Addr} (D:ZipApart z TI TO i1 i2 l1 l2):ZipFar z TI TO i1 i2 [i1,l1] [i2,l2] where
 iz:=⟨D.TIz,D.TOz,D.i1z,D.i2z⟩
 im:=⟨D.TITO,D.TIi1,D.TIi2,D.TOi1,D.TOi2,D.i12⟩
 g1:=fun c hc=>by
  rcases List.mem_cons.mp hc with rfl | hc
  ·exact ⟨D.i1z,D.TOi1.symm,D.i12⟩
  ·rw [List.mem_singleton.mp hc];exact ⟨D.l1z,D.l1TO,D.l1i2⟩
 g2:=fun c hc=>by
  rcases List.mem_cons.mp hc with rfl | hc
  ·exact ⟨D.i2z,D.TOi2.symm,D.i12.symm⟩
  ·rw [List.mem_singleton.mp hc];exact ⟨D.l2z,D.l2TO,D.l2i1⟩
theorem G4 {P:Program} {w:World} {K:PySem.W.Frag} {elts:List Expr} {kx:Nat} {tp:Pos} (z TI TO i1 i2 l1 l2:Addr) (D:ZipApart z TI TO i1 i2 l1 l2):Turn P w K (.Tuple elts kx tp) (JP K l1 l2) [z,TI,TO,i1,i2] z
 (fun i h=>IsZip h z TI TO .none∧IsPair h TI (.ref i1) (.ref i2)∧(∃ a b,IsPair h TO a b)∧h.IsTupleIter i1 l1 i∧h.IsTupleIter i2 l2 i) where
 mem:=by simp
 obj:=fun i h st b hb=>by
  obtain ⟨hz,hTI,⟨a',b',hTO⟩,⟨o1,e1,c1,d1⟩,⟨o2,e2,c2,d2⟩⟩:=st
  simp only [List.mem_cons,List.not_mem_nil,or_false] at hb
  rcases hb with rfl | rfl | rfl | rfl | rfl
  ·exact ⟨_,hz,fun v q=>by cases q⟩
  ·exact ⟨_,hTI,fun v q=>by cases q⟩
  ·exact ⟨_,hTO,fun v q=>by cases q⟩
  ·exact ⟨o1,e1,fun v q=>by rw [d1] at q;cases q⟩
  ·exact ⟨o2,e2,fun v q=>by rw [d2] at q;cases q⟩
 keep:=fun i h h' st k=>by
  obtain ⟨hz,hTI,⟨a',b',hTO⟩,h1,h2⟩:=st
  exact ⟨k z (by simp) _ hz,k TI (by simp) _ hTI,⟨a',b',k TO (by simp) _ hTO⟩,h1.at fun o q=>k i1 (by simp) o q,h2.at fun o q=>k i2 (by simp) o q⟩
 item:=by
  intro X hP hw hK hc i pins s σ H E I hf st hg
  subst hP hw hK
  obtain ⟨xs,ys,x,y,hq1,hq2,hx,hy⟩:=hg
  obtain ⟨its1,rv1,p1,hz1⟩:=I.tuple hq1
  obtain ⟨its2,rv2,p2,hz2⟩:=I.tuple hq2
  obtain ⟨u1,hu1,ru1⟩:=rv1.get hx
  obtain ⟨u2,hu2,ru2⟩:=rv2.get hy
  obtain ⟨hz,hTI,hTO,h1,h2⟩:=st
  have hs1:i<its1.toArray.size:=by simpa using (List.getElem?_eq_some_iff.mp hu1).1
  have hs2:i<its2.toArray.size:=by simpa using (List.getElem?_eq_some_iff.mp hu2).1
  refine Bi (v3 (prog:=X.prog) (w:=X.w) (A:=X.A.in1) (show X.A.in1.handled=none from I.ok.hd hc) i1 l1 D.l1i1 its1.toArray) (v3 (prog:=X.prog) (w:=X.w) (A:=X.A.in1) (show X.A.in1.handled=none from I.ok.hd hc) i2 l2 D.l2i2 its2.toArray) (FO D) hz hTI hTO ⟨h1,p1⟩ ⟨h2,p2⟩ hs1 hs2 fun v1 v2 h' tk e1 e2 b1 b2 b3 b4 b5 b6 hk=>?_
  have e1:v1=u1:=by have:=e1.symm.trans (show its1.toArray[i]?=some u1 by simpa using hu1);cases this;rfl
  have e2:v2=u2:=by have:=e2.symm.trans (show its2.toArray[i]?=some u2 by simpa using hu2);cases this;rfl
  subst e1 e2
  refine ⟨_,rfl,?_⟩
  have I1:Inv X pins σ (upd H s.heap.objs.size (.tup [x,y])) {s with heap:=h',toks:=tk}:=
   I.turnLay (t':=tk) (ch:=[z,TI,TO,i1,i2]) (fun b o hb q=>hk b o (fun e=>hb (by simp [e])) (fun e=>hb (by simp [e])) (fun e=>hb (by simp [e])) (fun e=>hb (by simp [e])) q) hf ⟨DS,[v1,v2],.cons ru1 (.cons ru2 .nil),⟨_,b5,rfl,_,rfl⟩⟩
  have lt1:i1<s.heap.objs.size:=by obtain ⟨_,q,_⟩:=h1;exact Heap.lt_size q
  have lt2:i2<s.heap.objs.size:=by obtain ⟨_,q,_⟩:=h2;exact Heap.lt_size q
  obtain ⟨a',b',hTO⟩:=hTO
  have hfp1:∀ b∈[z,TI,TO,i1,i2],FpOk X pins (upd H s.heap.objs.size (.tup [x,y])) b:=fun b hb=>by
   obtain ⟨f0,f1⟩:=hf b hb
   have hbl:b≠s.heap.objs.size:=by
    simp only [List.mem_cons,List.not_mem_nil,or_false] at hb
    rcases hb with rfl | rfl | rfl | rfl | rfl
    ·exact Nat.ne_of_lt (Heap.lt_size hz)
    ·exact Nat.ne_of_lt (Heap.lt_size hTI)
    ·exact Nat.ne_of_lt (Heap.lt_size hTO)
    ·exact Nat.ne_of_lt lt1
    ·exact Nat.ne_of_lt lt2
   exact ⟨by rw [j2 hbl];exact f0,f1⟩
  refine wpAny_letOwnedTupleGo_zip b1 fun h2' hz' hs'=>?_
  have I2:Inv X pins σ (upd H s.heap.objs.size (.tup [x,y])) {s with heap:=h2',toks:=tk}:=
   Inv.turnedL (s:={s with heap:=h',toks:=tk}) (t':=tk) (ch:=[z,TI,TO,i1,i2]) I1 (fun b o hb q=>(hs'.2 b (fun e=>hb (by simp [e]))).trans q) hfp1
  obtain ⟨a2,b2',b2⟩:=b2
  refine ⟨.ref s.heap.objs.size,_,I2,rfl,⟨_,x,y,I.fresh,rfl,fun zs hy'=>by rw [I.tuple_inj hy' hq1];exact hx,fun zs hy'=>by rw [I.tuple_inj hy' hq2];exact hy,rfl⟩,
   ⟨hz',hs'.extBut _ _ D.TIz (hk _ _ D.TIz D.TITO D.TIi1 D.TIi2 hTI),⟨_,_,hs'.extBut _ _ D.TOz b2⟩,b3.1.at fun o q=>hs'.extBut _ _ D.i1z q,b4.1.at fun o q=>hs'.extBut _ _ D.i2z q⟩,fun b hb=>(hfp1 b hb).1⟩
 done:=by
   intro X hP hw hK hc i pins s σ H E I hf st hg
   subst hP hw hK
   obtain ⟨xs,hq1,hx⟩:=hg
   obtain ⟨its1,rv1,p1,hz1⟩:=I.tuple hq1
   obtain ⟨hz,hTI,hTO,h1,h2⟩:=st
   have hl1:=rv1.length
   have hsz:i=its1.toArray.size:=by rw [← hx,hl1];simp
   subst hsz
   refine Bz (v3 (prog:=X.prog) (w:=X.w) (A:=X.A.in1) (show X.A.in1.handled=none from I.ok.hd hc) i1 l1 D.l1i1 its1.toArray) D.i1z (fun c hc=>((FO D).g1 c hc).1) hz hTI ⟨h1,p1⟩ fun h' hk=>⟨rfl,I.turnedL (t':=s.toks) (ch:=[z,TI,TO,i1,i2]) (fun b o hb q=>hk b o (fun e=>hb (by simp [e])) (fun e=>hb (by simp [e])) q) hf⟩
 self:=fun _ _ _ _ _ st h=>wpAny_pyIter_zip st.1 h
section
variable {X:Cx}
noncomputable def K6 (K:PySem.W.Frag) (ta:TA):TI:=fun σ H R=>ta σ H fun vs H1=>∃ a b,vs=[.ref a,.ref b]∧(∃ xs,SqT K H1 a xs)∧(∃ ys,SqT K H1 b ys)∧R (JP K a b) H1
theorem IB {a b:Expr} {ta:TA} {p pos:Pos} {elts:List Expr} {kx:Nat} {tp:Pos} (hg:Gl X "zip") (hm:X.mg "zip"=none) (ha:PA X [a,b] ta) (hs:starEach [a,b] X.env=[(false,eval a X.env),(false,eval b X.env)]:=by rfl)
 (hs2:starEach [b] X.env=[(false,eval b X.env)]:=by rfl):PI X (.Tuple elts kx tp) (.Call (.Name "zip" p) [a,b] [] pos) (K6 X.K ta):=by
 intro pins s σ H R I h
 refine Call_ (Ay I hg hm Dt (PyProof.Rows.callWith_type1 (thn (ha pos pins s σ H _ I h) fun us s1 ⟨vs,H1,I1,r1,q1⟩=>?_) (by rw [hs,hs2]) (by rw [hs2];rfl)))
 obtain ⟨l1,l2,e,⟨xs,hq1⟩,⟨ys,hq2⟩,q⟩:=q1
 subst e
 obtain ⟨u1,u2,rfl,r1',r2'⟩:=Vals.two r1
 cases r1'
 cases r2'
 obtain ⟨its1,rv1,p1,hz1⟩:=I1.tuple hq1
 obtain ⟨its2,rv2,p2,hz2⟩:=I1.tuple hq2
 have hl1:@LT.lt Nat _ l1 s1.heap.objs.size:=by obtain ⟨o,e,_⟩:=p1;exact Heap.lt_size e
 have hl2:@LT.lt Nat _ l2 s1.heap.objs.size:=by obtain ⟨o,e,_⟩:=p2;exact Heap.lt_size e
 refine Db p1 p2 fun h' c1 c2 c3 c4 c5 hk=>?_
 refine wpAny_pyIter_zip c1 ?_
 have I2:Inv X pins σ H1 {s1 with heap:=h'}:=I1.kept (t':=s1.toks) hk
 refine ⟨s1.heap.objs.size+4,[s1.heap.objs.size+4,s1.heap.objs.size+2,s1.heap.objs.size+3,s1.heap.objs.size,s1.heap.objs.size+1],_,_,H1,rfl,I2,G4 _ _ _ _ _ l1 l2 ?_,⟨c1,c2,c3,c4,c5⟩,fun b hb=>?_,q⟩
 ·constructor<;>(show @Ne Nat _ _)<;>omega
 ·have hb2:@LE.le Nat _ s1.heap.objs.size b:=by
   simp only [List.mem_cons,List.not_mem_nil,or_false] at hb
   rcases hb with rfl | rfl | rfl | rfl | rfl
   ·exact Nat.le_add_right _ _
   ·exact Nat.le_add_right _ _
   ·exact Nat.le_add_right _ _
   ·exact Nat.le_refl _
   ·exact Nat.le_add_right _ _
  exact I1.fpOk hb2 (I1.hok.fresh hb2)
end
theorem G5 {K:PySem.W.Frag} {a b:Addr} {xs zs:List V} {g:TG} {tt:TT} {te:TE} {D:Addr} {σ':St} {Q:List V→Hp→Prop} {H1:Hp} (hlen:xs.length=zs.length) (Pv:Nat→List V→Hp→Prop) (h0:Pv 0 [] (upd H1 D (.lst [])))
 (hl:∀ i ys H,i≤xs.length→Pv i ys H→SqT K H a xs∧SqT K H b zs)
 (hs:∀ i x z ys H p,xs[i]?=some x→zs[i]?=some z→Pv i ys H→H p=none→AA g tt te D σ' ys (Pv (i+1)) (.ref p) (upd H p (.tup [x,z]))) (hd:∀ ys H,Pv xs.length ys H→Q ys H):
 ∃ W:Nat→Nat→List V→Hp→Prop,(∃ m,W 0 m [] (upd H1 D (.lst [])))∧Bc (JP K a b) g tt te D σ' Q W:=by
 refine ⟨fun i m ys H=>m=xs.length - i∧i≤xs.length∧Pv i ys H,⟨xs.length,by simp,Nat.zero_le _,h0⟩,?_⟩
 rintro i m ys H ⟨rfl,hi,p⟩
 obtain ⟨q1,q2⟩:=hl i ys H hi p
 by_cases hlt:i<xs.length
 ·refine .inr ⟨⟨xs,zs,xs[i],zs[i]'(by omega),q1,q2,by simp [hlt],by simp⟩,Pv (i+1),fun ys' H' p'=>⟨xs.length - (i+1),by omega,rfl,hlt,p'⟩,fun x H' y=>?_⟩
  obtain ⟨pp,v,u,hp,e1,hv,hu,e2⟩:=y
  subst e1 e2
  exact hs i v u ys _ pp (hv xs q1) (hu zs q2) p hp
 ·have e:i=xs.length:=by omega
  subst e
  exact .inl ⟨⟨xs,q1,rfl⟩,hd ys H p⟩
end L2
namespace Hue
open PySem L2
noncomputable abbrev C8:Stmt:=top 37
theorem FP:((["_law_one","_law_other"]:List Str)++([]:List Str)).Nodup:=by decide +kernel
theorem Ic:ktn "str" "list"=some false:=by decide +kernel
theorem Id:ktn "str" "tuple"=some false:=by decide +kernel
theorem DK:ktn "str" "bool"=some false:=by decide +kernel
theorem Ie:ktn "str" "str"=some true:=by decide +kernel
noncomputable abbrev Ci:=Hp→V→V→Prop
noncomputable def RA:Ci:=fun _ x y=>(x = .non∧y = .non)∨(∃ n:Int,x = .int n∧y = .int n)∨∃ n:Str,x = .str n∧y = .str n
noncomputable def Rls (R:Ci):Ci:=fun H x y=>∃ (a b:Addr) (xs ys:List V),x = .ref a∧y = .ref b∧H a=some (.lst xs)∧H b=some (.lst ys)∧xs.length=ys.length∧xs.length≤900∧∀ (i:Nat) u v,xs[i]?=some u→ys[i]?=some v→R H u v
noncomputable def Rtp (R:Ci):Ci:=fun H x y=>∃ (a b:Addr) (xs ys:List V),x = .ref a∧y = .ref b∧H a=some (.tup xs)∧H b=some (.tup ys)∧xs.length=ys.length∧xs.length≤900∧∀ (i:Nat) u v,xs[i]?=some u→ys[i]?=some v→R H u v
noncomputable def Em (R:Ci):Prop:=∀ H H' x y,Same H H'→R H x y→R H' x y
theorem IC:Em RA:=fun _ _ _ _ _ h=>h
theorem Gx {R:Ci} (h:Em R):Em (Rls R):=fun H H' x y s ⟨a,b,xs,ys,e1,e2,h1,h2,l1,l2,q⟩=>⟨a,b,xs,ys,e1,e2,s _ _ h1,s _ _ h2,l1,l2,fun i u v hu hv=>h _ _ _ _ s (q i u v hu hv)⟩
theorem Gy {R:Ci} (h:Em R):Em (Rtp R):=fun H H' x y s ⟨a,b,xs,ys,e1,e2,h1,h2,l1,l2,q⟩=>⟨a,b,xs,ys,e1,e2,s _ _ h1,s _ _ h2,l1,l2,fun i u v hu hv=>h _ _ _ _ s (q i u v hu hv)⟩
noncomputable def Al:Nat→Ci
 | 0=>RA
 | n+1=>fun H x y=>RA H x y∨Rls (Al n) H x y∨Rtp (Al n) H x y
theorem Dd:∀ n,Em (Al n)
 | 0=>IC
 | n+1=>fun H H' x y s h=>h.imp id fun h=>h.imp (Gx (Dd n) H H' x y s) (Gy (Dd n) H H' x y s)
noncomputable def BI (R:Ci):Sp:=fun vs H Q _=>∃ x y,vs=[x,y]∧R H x y∧∀ H',Same H H'→Q (.bl true) H'
theorem ID {K:PySem.W.Frag}:PySem.W.kitAny K (.type "tuple") (["list","tuple"].map Value.type)=some true:=by
 show (match PySem.W.kitOne K (.type "tuple") (.type "list") with | some true=>some true | some false=>(match PySem.W.kitOne K (.type "tuple") (.type "tuple") with | some true=>some true | some false=>some false | none=>none) | none=>none)=some true
 rw [u3,GY]
 show (match PySem.W.kitOne K (.type "tuple") (.type "tuple") with | some true=>some true | some false=>some false | none=>none)=some true
 rw [u3,GZ]
section
variable {P:Program} {w:World} {K:PySem.W.Frag} {mg:Str→Option Value} {base:Heap}
theorem Gz:FnScope ["_law_found","_law_due_here"] ["_law_found","_law_due_here"] (defScope C8):=⟨rfl,rfl,rfl,by decide +kernel,rfl,by decide +kernel,by decide +kernel⟩
theorem HF {f:Addr} {fd:FuncData} (F:Fun K "_law_same" "_law_same" C8 f fd) (T:Txt K mg):FnOk P w K mg base CX0 1 f fd ["_law_found","_law_due_here"] (BI RA):=by
 refine F.ok Gz (fun vs H Q E h=>?_) (fun cdv A outer s H vs Q E hr h=>?_)
 ·obtain ⟨x,y,rfl,_⟩:=h;rfl
 ·obtain ⟨x,y,rfl,⟨rfl,rfl⟩ | ⟨n,rfl,rfl⟩ | ⟨n,rfl,rfl⟩,q⟩:=h
  ·refine ⟨_,c9 (n6 (v5 (A1 (pv 1))) (g9 (l8 (GB (A1 (pv 0))))) i8) u4,?_⟩
   exact ⟨_,rfl,_,rfl,Cl rfl ⟨_,rfl,Fl rfl (q _ (Same.refl _))⟩⟩
  ·refine ⟨_,c9 (n6 (v5 (A1 (pv 1))) u4 i8)
    (c9 (n6 (u9 (d4 AT (by rfl) T.isi p0 (b7 (pv 1) (b7 (u7 (b7 (j4 (v := .ty "list") (by rfl) T.list AJ rfl) (b7 (j4 (v := .ty "tuple") (by rfl) T.tuple AB rfl) b8))) b8)))) u4 i8)
    (c9 (n6 (C5 (u9 (d4 j6 (by rfl) T.isi p0 (b7 (pv 1) (b7 (j4 (v := .ty "bool") (by rfl) T.bool AX rfl) b8)))) (Az (u9 (d4 j6 (by rfl) T.isi p0 (b7 (pv 1) (b7 (j4 (v := .ty "str") (by rfl) T.str F7 rfl) b8)))))).pt u4 i8)
    (g9 (l8 (AM (d4 j6 (by rfl) T.isi p0 (b7 (pv 0) (b7 (j4 (v := .ty "int") (by rfl) T.int CZ rfl) b8)))
      (AM (EK (d4 j6 (by rfl) T.isi p0 (b7 (pv 0) (b7 (j4 (v := .ty "bool") (by rfl) T.bool AX rfl) b8)))) (AU (w9 AE (pv 0) (pv 1) (m7 _))))))))),?_⟩
   refine ⟨_,rfl,_,rfl,Ah (fun z=>nomatch z) ?_⟩
   refine ⟨_,rfl,by show 2≤sizeLine;decide,fun p hp=>⟨_,p,["list","tuple"],_,false,rfl,b9,.int n,BA IY IZ,_,rfl,z0 ?_⟩⟩
   refine ⟨_,rfl,_,"bool",_,_,rfl,.int n,(u3 _ _).trans Dv,_,rfl,z0 ?_⟩
   refine ⟨_,rfl,_,"str",_,_,rfl,.int n,(u3 _ _).trans Ia,_,rfl,z0 ?_⟩
   refine ⟨_,rfl,_,"int",_,_,rfl,.int n,(u3 _ _).trans GX,_,rfl,AZ ?_⟩
   refine ⟨_,rfl,_,"bool",_,_,rfl,.int n,(u3 _ _).trans Dv,_,rfl,_,rfl,AZ ?_⟩
   exact ⟨_,rfl,_,rfl,rfl,Fl rfl (q _ (h7 (Same.refl _) hp))⟩
  ·refine ⟨_,c9 (n6 (v5 (A1 (pv 1))) u4 i8)
    (c9 (n6 (u9 (d4 AT (by rfl) T.isi p0 (b7 (pv 1) (b7 (u7 (b7 (j4 (v := .ty "list") (by rfl) T.list AJ rfl) (b7 (j4 (v := .ty "tuple") (by rfl) T.tuple AB rfl) b8))) b8)))) u4 i8)
    (c9 (n6 (C5 (u9 (d4 j6 (by rfl) T.isi p0 (b7 (pv 1) (b7 (j4 (v := .ty "bool") (by rfl) T.bool AX rfl) b8)))) (Az (u9 (d4 j6 (by rfl) T.isi p0 (b7 (pv 1) (b7 (j4 (v := .ty "str") (by rfl) T.str F7 rfl) b8)))))).pt (g9 (l8 (AM (w9 AE (d4 j6 (by rfl) T.isi p0 (b7 (pv 0) (b7 (j4 (v := .ty "bool") (by rfl) T.bool AX rfl) b8))) (d4 j6 (by rfl) T.isi p0 (b7 (pv 1) (b7 (j4 (v := .ty "bool") (by rfl) T.bool AX rfl) b8))) (m7 _)) (AU (w9 AE (pv 0) (pv 1) (m7 _)))))) i8) u4)),?_⟩
   refine ⟨_,rfl,_,rfl,Ah (fun z=>nomatch z) ?_⟩
   refine ⟨_,rfl,by show 2≤sizeLine;decide,fun p hp=>⟨_,p,["list","tuple"],_,false,rfl,b9,.str n,BA Ic Id,_,rfl,z0 ?_⟩⟩
   refine ⟨_,rfl,_,"bool",_,_,rfl,.str n,(u3 _ _).trans DK,_,rfl,z0 ?_⟩
   refine ⟨_,rfl,_,"str",_,_,rfl,.str n,(u3 _ _).trans Ie,_,rfl,AZ ?_⟩
   refine ⟨_,rfl,_,"bool",_,_,rfl,.str n,(u3 _ _).trans DK,_,rfl,_,"bool",_,_,rfl,.str n,(u3 _ _).trans DK,rfl,_,rfl,Cl rfl ?_⟩
   exact ⟨_,rfl,_,rfl,rfl,Fl rfl (q _ (h7 (Same.refl _) hp))⟩
theorem HG {d:Nat} {R:Ci} (hR:Em R) {f:Addr} {fd:FuncData} (F:Fun K "_law_same" "_law_same" C8 f fd) (T:Txt K mg) (CS:Callee P w K mg base (d+1) "_law_same" ["_law_found","_law_due_here"] (BI R)):FnOk P w K mg base CX0 (d+2) f fd ["_law_found","_law_due_here"] (BI fun H x y=>RA H x y∨Rls R H x y∨Rtp R H x y):=by
 refine F.ok Gz (fun vs H Q E h=>?_) (fun cdv A outer s H vs Q E hr h=>?_)
 ·obtain ⟨x,y,rfl,_⟩:=h;rfl
 ·obtain ⟨x,y,rfl,(⟨rfl,rfl⟩ | ⟨n,rfl,rfl⟩ | ⟨n,rfl,rfl⟩) | ⟨a,b,xs,ys,rfl,rfl,ha,hb,hl,h9,hi⟩ | ⟨a,b,xs,ys,rfl,rfl,ha,hb,hl,h9,hi⟩,q⟩:=h
  ·refine ⟨_,c9 (n6 (v5 (A1 (pv 1))) (g9 (l8 (GB (A1 (pv 0))))) i8) u4,?_⟩
   exact ⟨_,rfl,_,rfl,Cl rfl ⟨_,rfl,Fl rfl (q _ (Same.refl _))⟩⟩
  ·refine ⟨_,c9 (n6 (v5 (A1 (pv 1))) u4 i8)
    (c9 (n6 (u9 (d4 AT (by rfl) T.isi p0 (b7 (pv 1) (b7 (u7 (b7 (j4 (v := .ty "list") (by rfl) T.list AJ rfl) (b7 (j4 (v := .ty "tuple") (by rfl) T.tuple AB rfl) b8))) b8)))) u4 i8)
    (c9 (n6 (C5 (u9 (d4 j6 (by rfl) T.isi p0 (b7 (pv 1) (b7 (j4 (v := .ty "bool") (by rfl) T.bool AX rfl) b8)))) (Az (u9 (d4 j6 (by rfl) T.isi p0 (b7 (pv 1) (b7 (j4 (v := .ty "str") (by rfl) T.str F7 rfl) b8)))))).pt u4 i8)
    (g9 (l8 (AM (d4 j6 (by rfl) T.isi p0 (b7 (pv 0) (b7 (j4 (v := .ty "int") (by rfl) T.int CZ rfl) b8)))
      (AM (EK (d4 j6 (by rfl) T.isi p0 (b7 (pv 0) (b7 (j4 (v := .ty "bool") (by rfl) T.bool AX rfl) b8)))) (AU (w9 AE (pv 0) (pv 1) (m7 _))))))))),?_⟩
   refine ⟨_,rfl,_,rfl,Ah (fun z=>nomatch z) ?_⟩
   refine ⟨_,rfl,by show 2≤sizeLine;decide,fun p hp=>⟨_,p,["list","tuple"],_,false,rfl,b9,.int n,BA IY IZ,_,rfl,z0 ?_⟩⟩
   refine ⟨_,rfl,_,"bool",_,_,rfl,.int n,(u3 _ _).trans Dv,_,rfl,z0 ?_⟩
   refine ⟨_,rfl,_,"str",_,_,rfl,.int n,(u3 _ _).trans Ia,_,rfl,z0 ?_⟩
   refine ⟨_,rfl,_,"int",_,_,rfl,.int n,(u3 _ _).trans GX,_,rfl,AZ ?_⟩
   refine ⟨_,rfl,_,"bool",_,_,rfl,.int n,(u3 _ _).trans Dv,_,rfl,_,rfl,AZ ?_⟩
   exact ⟨_,rfl,_,rfl,rfl,Fl rfl (q _ (h7 (Same.refl _) hp))⟩
  ·refine ⟨_,c9 (n6 (v5 (A1 (pv 1))) u4 i8)
    (c9 (n6 (u9 (d4 AT (by rfl) T.isi p0 (b7 (pv 1) (b7 (u7 (b7 (j4 (v := .ty "list") (by rfl) T.list AJ rfl) (b7 (j4 (v := .ty "tuple") (by rfl) T.tuple AB rfl) b8))) b8)))) u4 i8)
    (c9 (n6 (C5 (u9 (d4 j6 (by rfl) T.isi p0 (b7 (pv 1) (b7 (j4 (v := .ty "bool") (by rfl) T.bool AX rfl) b8)))) (Az (u9 (d4 j6 (by rfl) T.isi p0 (b7 (pv 1) (b7 (j4 (v := .ty "str") (by rfl) T.str F7 rfl) b8)))))).pt (g9 (l8 (AM (w9 AE (d4 j6 (by rfl) T.isi p0 (b7 (pv 0) (b7 (j4 (v := .ty "bool") (by rfl) T.bool AX rfl) b8))) (d4 j6 (by rfl) T.isi p0 (b7 (pv 1) (b7 (j4 (v := .ty "bool") (by rfl) T.bool AX rfl) b8))) (m7 _)) (AU (w9 AE (pv 0) (pv 1) (m7 _)))))) i8) u4)),?_⟩
   refine ⟨_,rfl,_,rfl,Ah (fun z=>nomatch z) ?_⟩
   refine ⟨_,rfl,by show 2≤sizeLine;decide,fun p hp=>⟨_,p,["list","tuple"],_,false,rfl,b9,.str n,BA Ic Id,_,rfl,z0 ?_⟩⟩
   refine ⟨_,rfl,_,"bool",_,_,rfl,.str n,(u3 _ _).trans DK,_,rfl,z0 ?_⟩
   refine ⟨_,rfl,_,"str",_,_,rfl,.str n,(u3 _ _).trans Ie,_,rfl,AZ ?_⟩
   refine ⟨_,rfl,_,"bool",_,_,rfl,.str n,(u3 _ _).trans DK,_,rfl,_,"bool",_,_,rfl,.str n,(u3 _ _).trans DK,rfl,_,rfl,Cl rfl ?_⟩
   exact ⟨_,rfl,_,rfl,rfl,Fl rfl (q _ (h7 (Same.refl _) hp))⟩
  ·refine ⟨_,c9 (n6 (v5 (A1 (pv 1))) u4 i8)
    (c9 (n6 (u9 (d4 AT (by rfl) T.isi p0 (b7 (pv 1) (b7 (u7 (b7 (j4 (v := .ty "list") (by rfl) T.list AJ rfl) (b7 (j4 (v := .ty "tuple") (by rfl) T.tuple AB rfl) b8))) b8))))
      (c9 (n6 (C5 (j7 Dj (d4 j6 (by rfl) T.isi p0 (b7 (pv 0) (b7 (j4 (v := .ty "list") (by rfl) T.list AJ rfl) b8))) (d4 j6 (by rfl) T.isi p0 (b7 (pv 1) (b7 (j4 (v := .ty "list") (by rfl) T.list AJ rfl) b8))) (m7 _))
        (Az (j7 Dj (d4 j6 (by rfl) T.isi p0 (b7 (pv 0) (b7 (j4 (v := .ty "tuple") (by rfl) T.tuple AB rfl) b8))) (d4 j6 (by rfl) T.isi p0 (b7 (pv 1) (b7 (j4 (v := .ty "tuple") (by rfl) T.tuple AB rfl) b8))) (m7 _)))).pt u4 i8)
      (g9 (l8 (AM (w9 AE (d4 l7 (by rfl) T.len AF (b7 (pv 0) b8)) (d4 l7 (by rfl) T.len AF (b7 (pv 1) b8)) (m7 _))
        (AU (d4 (Cz rfl) (by rfl) T.all IV (b7 (v0 ["_law_one","_law_other"] [] [] (Iz (by rfl) T.zip (b7 (pv 0) (b7 (pv 1) b8)))
          (fun _ _ _ _ _=>At (K:=K) (n:=2) rfl rfl (l9 (i7 (i:=0) FP rfl (Or.inl rfl)) (l9 (i7 (i:=1) FP rfl (Or.inl rfl)) w6)))
          (fun _ _ _ _ _=>A9) (fun _ _ _ _ _=>j9 CS hr (by rfl) (b7 (pv 0) (b7 (pv 1) b8)))) b8))))))) i8)
    u4),?_⟩
   refine ⟨_,rfl,_,rfl,Ah (fun z=>nomatch z) ?_⟩
   refine ⟨_,rfl,by show 2≤sizeLine;decide,fun p hp=>⟨_,p,["list","tuple"],_,true,rfl,b9,.lst (j3 hb hp),Hc,_,rfl,AZ ?_⟩⟩
   refine ⟨_,rfl,_,"list",_,_,rfl,.lst (j3 ha hp),(u3 _ _).trans GW,_,rfl,_,"list",_,_,rfl,.lst (j3 hb hp),(u3 _ _).trans GW,rfl,_,rfl,Av rfl ?_⟩
   refine ⟨_,rfl,_,"tuple",_,_,rfl,.lst (j3 ha hp),(u3 _ _).trans IW,_,rfl,_,"tuple",_,_,rfl,.lst (j3 hb hp),(u3 _ _).trans IW,rfl,_,rfl,Av rfl ?_⟩
   refine ⟨_,rfl,a,xs,rfl,.inl (SqL.of (j3 ha hp)),_,rfl,b,ys,rfl,.inl (SqL.of (j3 hb hp)),rfl,_,rfl,Cl (by rw [hl]) ?_⟩
   refine ⟨_,rfl,_,rfl,a,b,rfl,⟨_,SqL.of (j3 ha hp)⟩,⟨_,SqL.of (j3 hb hp)⟩,fun D hD=>?_⟩
   have s0:Same H (upd H p (.tup [.ty "list",.ty "tuple"])):=h7 (Same.refl _) hp
   have nD:H D=none:=s0.free hD
   refine GQ (K:=K) (a:=a) (b:=b) (xs:=xs) (zs:=ys) hl (fun i zs H2=>Same H H2∧H2 D=some (.lst zs)∧zs=(List.replicate i true).map V.bl)
    ⟨h7 s0 hD,b9,rfl⟩ (fun i zs H2 _ h=>⟨SqL.of (h.1 _ _ ha),SqL.of (h.1 _ _ hb)⟩) ?_ ?_
   ·rintro i x z zs H2 pp hx hz ⟨s2,d2,rfl⟩ hpp
    have hil:i<xs.length:=(List.getElem?_eq_some_iff.mp hx).1
    have s3:Same H (upd H2 pp (.tup [x,z])):=h7 s2 hpp
    refine ⟨pp,_,rfl,SqT.of b9,rfl,_,_,rfl,_,_,rfl,rfl,?_⟩
    refine AZ ⟨_,rfl,_,rfl,x,z,rfl,hR _ _ _ _ s3 (hi i x z hx hz),fun H4 s4=>⟨s4 _ _ (j3 d2 hpp),i9 (by simp;omega),?_⟩⟩
    refine ⟨t0 (s3.trans s4) nD,b9,?_⟩
    rw [List.replicate_succ',List.map_append];rfl
   ·rintro zs H2 ⟨s2,d2,rfl⟩
    refine ⟨D,List.replicate xs.length true,rfl,SqL.of d2,?_⟩
    rw [show (List.replicate xs.length true).all id=true by simp]
    exact q _ s2
  ·refine ⟨_,c9 (n6 (v5 (A1 (pv 1))) u4 i8)
    (c9 (n6 (u9 (d4 AT (by rfl) T.isi p0 (b7 (pv 1) (b7 (u7 (b7 (j4 (v := .ty "list") (by rfl) T.list AJ rfl) (b7 (j4 (v := .ty "tuple") (by rfl) T.tuple AB rfl) b8))) b8))))
      (c9 (n6 (C5 (j7 Dj (d4 j6 (by rfl) T.isi p0 (b7 (pv 0) (b7 (j4 (v := .ty "list") (by rfl) T.list AJ rfl) b8))) (d4 j6 (by rfl) T.isi p0 (b7 (pv 1) (b7 (j4 (v := .ty "list") (by rfl) T.list AJ rfl) b8))) (m7 _))
        (Az (j7 Dj (d4 j6 (by rfl) T.isi p0 (b7 (pv 0) (b7 (j4 (v := .ty "tuple") (by rfl) T.tuple AB rfl) b8))) (d4 j6 (by rfl) T.isi p0 (b7 (pv 1) (b7 (j4 (v := .ty "tuple") (by rfl) T.tuple AB rfl) b8))) (m7 _)))).pt u4 i8)
      (g9 (l8 (AM (w9 AE (d4 l7 (by rfl) T.len AF (b7 (pv 0) b8)) (d4 l7 (by rfl) T.len AF (b7 (pv 1) b8)) (m7 _))
        (AU (d4 (Cz rfl) (by rfl) T.all IV (b7 (v0 ["_law_one","_law_other"] [] [] (IB (by rfl) T.zip (b7 (pv 0) (b7 (pv 1) b8)))
          (fun _ _ _ _ _=>At (K:=K) (n:=2) rfl rfl (l9 (i7 (i:=0) FP rfl (Or.inl rfl)) (l9 (i7 (i:=1) FP rfl (Or.inl rfl)) w6)))
          (fun _ _ _ _ _=>A9) (fun _ _ _ _ _=>j9 CS hr (by rfl) (b7 (pv 0) (b7 (pv 1) b8)))) b8))))))) i8)
    u4),?_⟩
   refine ⟨_,rfl,_,rfl,Ah (fun z=>nomatch z) ?_⟩
   refine ⟨_,rfl,by show 2≤sizeLine;decide,fun p hp=>⟨_,p,["list","tuple"],_,true,rfl,b9,.tup (j3 hb hp),ID,_,rfl,AZ ?_⟩⟩
   refine ⟨_,rfl,_,"list",_,_,rfl,.tup (j3 ha hp),(u3 _ _).trans GY,_,rfl,_,"list",_,_,rfl,.tup (j3 hb hp),(u3 _ _).trans GY,rfl,_,rfl,Av rfl ?_⟩
   refine ⟨_,rfl,_,"tuple",_,_,rfl,.tup (j3 ha hp),(u3 _ _).trans GZ,_,rfl,_,"tuple",_,_,rfl,.tup (j3 hb hp),(u3 _ _).trans GZ,rfl,_,rfl,Av rfl ?_⟩
   refine ⟨_,rfl,a,xs,rfl,.inr (SqT.of (j3 ha hp)),_,rfl,b,ys,rfl,.inr (SqT.of (j3 hb hp)),rfl,_,rfl,Cl (by rw [hl]) ?_⟩
   refine ⟨_,rfl,_,rfl,a,b,rfl,⟨_,SqT.of (j3 ha hp)⟩,⟨_,SqT.of (j3 hb hp)⟩,fun D hD=>?_⟩
   have s0:Same H (upd H p (.tup [.ty "list",.ty "tuple"])):=h7 (Same.refl _) hp
   have nD:H D=none:=s0.free hD
   refine G5 (K:=K) (a:=a) (b:=b) (xs:=xs) (zs:=ys) hl (fun i zs H2=>Same H H2∧H2 D=some (.lst zs)∧zs=(List.replicate i true).map V.bl)
    ⟨h7 s0 hD,b9,rfl⟩ (fun i zs H2 _ h=>⟨SqT.of (h.1 _ _ ha),SqT.of (h.1 _ _ hb)⟩) ?_ ?_
   ·rintro i x z zs H2 pp hx hz ⟨s2,d2,rfl⟩ hpp
    have hil:i<xs.length:=(List.getElem?_eq_some_iff.mp hx).1
    have s3:Same H (upd H2 pp (.tup [x,z])):=h7 s2 hpp
    refine ⟨pp,_,rfl,SqT.of b9,rfl,_,_,rfl,_,_,rfl,rfl,?_⟩
    refine AZ ⟨_,rfl,_,rfl,x,z,rfl,hR _ _ _ _ s3 (hi i x z hx hz),fun H4 s4=>⟨s4 _ _ (j3 d2 hpp),i9 (by simp;omega),?_⟩⟩
    refine ⟨t0 (s3.trans s4) nD,b9,?_⟩
    rw [List.replicate_succ',List.map_append];rfl
   ·rintro zs H2 ⟨s2,d2,rfl⟩
    refine ⟨D,List.replicate xs.length true,rfl,SqL.of d2,?_⟩
    rw [show (List.replicate xs.length true).all id=true by simp]
    exact q _ s2
theorem EI:∀ (n:Nat) {f:Addr} {fd:FuncData} (F:Fun K "_law_same" "_law_same" C8 f fd) (T:Txt K mg) (hm:mg "_law_same"=some (.ref f)) (hk:PySem.W.keepIn K (.ref f)=true) (hb:Binds K fd ["_law_found","_law_due_here"] []),FnOk P w K mg base CX0 (n+1) f fd ["_law_found","_law_due_here"] (BI (Al n))
 | 0,_,_,F,T,_,_,_=>HF F T
 | n+1,_,_,F,T,hm,hk,hb=>HG (Dd n) F T ⟨_,_,EI n F T hm hk hb,hm,hk,hb⟩
end
end Hue
namespace L2
open PySem PySem.Spec PyProof.Rows
section
variable {X:Cx}
theorem IE (hu:X.A.units<cLine):OpR X (compareOp .Eq) (fun x y H Q=>∃ a b xs ys,x = .ref a∧y = .ref b∧SqT X.K H a xs∧SqT X.K H b ys∧xs.all u8=true∧ys.all u8=true∧∀ r:Bool,Q (.bl r) H):=by
 intro pins s σ H x y v u Q I rx ry h
 obtain ⟨a,b,xs,ys,rfl,rfl,h1,h2,f1,f2,q⟩:=h
 cases rx
 cases ry
 obtain ⟨its1,r1,p1,_⟩:=I.tuple h1
 obtain ⟨its2,r2,p2,_⟩:=I.tuple h2
 exact (SeqAt.RcAt.tuples (A:=X.A) (s:=s) (e:=fun j=>eqV (xs.getD j .non) (ys.getD j .non)) p1 p2 hu (BU r1 r2 (.inl ⟨f1,f2⟩))) _ _ _ _ ⟨.bl _,H,I,rfl,q _⟩
theorem HH {K:PySem.W.Frag} (hK:X.K=K) (hu:X.A.units<cLine):OpR X (compareOp .Eq) (fun x y H Q=>∃ a b xs ys,x = .ref a∧y = .ref b∧SqT K H a xs∧SqT K H b ys∧xs.all u8=true∧ys.all u8=true∧∀ r:Bool,Q (.bl r) H):=hK▸IE hu
end
open PySem PySem.Spec PyProof.Rows
section
variable {X:Cx}
noncomputable def gtB (ns:List Int) (a b:Nat):Bool:=decide (ns.getD a 0>ns.getD b 0)
theorem FQ (ns:List Int):∀ k j,j≤k→ns.getD j 0≤ns.getD (argBest (gtB ns) k) 0
 | 0,j,hj=>by
   have:j=0:=by omega
   subst this
   exact Int.le_refl _
 | k+1,j,hj=>by
   have ih:=FQ ns k
   simp only [argBest]
   split
   ·rename_i hb
    have hb:=of_decide_eq_true hb
    by_cases e:j=k+1
    ·subst e;exact Int.le_refl _
    ·have:=ih j (by omega)
     omega
   ·rename_i hb
    have hb:¬ ns.getD (k+1) 0>ns.getD (argBest (gtB ns) k) 0:=fun z=>hb (decide_eq_true z)
    by_cases e:j=k+1
    ·subst e;omega
    ·exact ih j (by omega)
theorem EJ (bt:Nat→Nat→Bool):∀ k,argBest bt k≤k
 | 0=>Nat.le_refl _
 | k+1=>by
   simp only [argBest]
   split
   ·exact Nat.le_refl _
   ·exact Nat.le_succ_of_le (EJ bt k)
noncomputable def Grt (ns:List Int) (m:Int):Prop:=m∈ns∧∀ n∈ns,n≤m
theorem HI {ns:List Int} (h:0<ns.length):Grt ns (ns.getD (argBest (gtB ns) (ns.length - 1)) 0):=by
 have hb:=EJ (gtB ns) (ns.length - 1)
 have hlt:argBest (gtB ns) (ns.length - 1)<ns.length:=by omega
 refine ⟨by rw [show ns.getD (argBest (gtB ns) (ns.length - 1)) 0=ns[argBest (gtB ns) (ns.length - 1)] by simp [List.getD,hlt]];exact List.getElem_mem hlt,fun n hn=>?_⟩
 obtain ⟨j,hj⟩:=List.getElem?_of_mem hn
 have hjl:=(List.getElem?_eq_some_iff.mp hj).1
 have:=FQ ns (ns.length - 1) j (by omega)
 rw [show ns.getD j 0=n by simp [List.getD,hj]] at this
 exact this
theorem FR {ns:List Int} {its:List Value} (rv:Vals (ns.map V.int) its) {i:Nat} {v:Value} (h:its[i]?=some v):∃ n t,ns[i]?=some n∧v = .int n t:=by
 have hl:=rv.length
 rw [List.length_map] at hl
 have hi:i<ns.length:=by have:=(List.getElem?_eq_some_iff.mp h).1;omega
 have e:(ns.map V.int)[i]?=some (.int ns[i]):=by simp [hi]
 obtain ⟨u,eu,ru⟩:=rv.get e
 rw [h] at eu
 cases eu
 obtain ⟨t,rfl⟩:=ru
 exact ⟨_,t,by simp [hi],rfl⟩
theorem DL (hc:X.calm=true):A2 X (.builtin "max") (fun xs H Q=>∃ l ns,xs=[.ref l]∧H l=some (.lst (ns.map V.int))∧0<ns.length∧∀ m,Grt ns m→Q (.int m) H):=by
 intro pins s σ H xs us Q I r h
 obtain ⟨l,ns,rfl,hl,hn,q1⟩:=h
 obtain ⟨u,rfl,ru⟩:=B1 r
 cases ru
 obtain ⟨its,rv,pl,hz⟩:=I.list (SqL.of hl)
 have hl2:ns.length=its.length:=by have:=rv.length;rwa [List.length_map] at this
 have hlt:l<s.heap.objs.size:=by obtain ⟨o,ho,_⟩:=pl.isList;exact Heap.lt_size ho
 have hne:l≠s.heap.objs.size:=Nat.ne_of_lt hlt
 refine call_max_walk (wpAny_pyIter_list pl.isList ⟨s.heap.objs.size,[s.heap.objs.size,l],[s.heap.objs.size],its.toArray.size,_,_,gtB ns,rfl,Walks.list (prog:=X.prog) (w:=X.w) (A:=X.A.in1) (I.ok.hd hc) s.heap.objs.size l hne its.toArray,?_,?_,?_,?_,?_⟩)
 ·exact ⟨⟨_,Heap.get?_push_size _ rfl,rfl,rfl⟩,pl.isList.at fun o e=>Heap.get?_push_of_some _ e⟩
 ·intro b hb
  rcases List.mem_cons.mp hb with rfl | hb
  ·show _<(s.heap.push _).objs.size
   rw [Heap.size_push];exact Nat.lt_succ_self _
  ·rw [List.mem_singleton.mp hb]
   show _<(s.heap.push _).objs.size
   rw [Heap.size_push];exact Nat.lt_succ_of_lt hlt
 ·rw [List.size_toArray];omega
 ·exact CmpOf.ints_gt (fun i=>ns.getD i 0) (fun i v h=>by
   obtain ⟨n,t1,e1,rfl⟩:=FR rv (show its[i]?=some v by simpa using h)
   exact ⟨t1,by simp [List.getD,e1]⟩)
 ·intro v h' tk hv k
  obtain ⟨n,t1,e1,rfl⟩:=FR rv (show its[argBest (gtB ns) (its.toArray.size - 1)]?=some v by simpa using hv)
  have hsz:its.toArray.size=ns.length:=by rw [List.size_toArray];omega
  rw [hsz] at e1
  have g:=HI hn
  rw [show ns.getD (argBest (gtB ns) (ns.length - 1)) 0=n by simp [List.getD,e1]] at g
  refine ⟨.int n,H,I.kept (t':=tk) (fun b o e=>k b o (fun z=>?_) (Heap.get?_push_of_some _ e)),⟨t1,rfl⟩,q1 n g⟩
  rw [List.mem_singleton.mp z] at e
  exact Nat.lt_irrefl _ (Heap.lt_size e)
end
open PySem PySem.Spec PyProof.Rows
section
variable {X:Cx}
theorem Bj (n:Bool):∀ {ns:List Bool} {its:List Value},Vals (ns.map V.bl) its→its.countP (eqU (.bl n))=ns.count n
 | [],_,r=>by cases r;rfl
 | m::ns,_,r=>by
   cases r with
   | cons r1 r2=>
     rw [List.countP_cons,List.count_cons,Bj n r2,Bn r1 rfl]
     rfl
noncomputable def IF:V→List V→Hp→VK→Prop:=fun x vs H Q=>∃ (l:Addr) (ns:List Bool) (n:Bool),x = .ref l∧vs=[.bl n]∧H l=some (.lst (ns.map V.bl))∧Q (.int (ns.count n:Nat)) H
theorem G6:MtM X "list.count" IF:=by
 intro pins s σ H x vs v us Q I rx rv h
 obtain ⟨l,ns,n,rfl,rfl,hH,q⟩:=h
 cases rx
 obtain ⟨u,rfl,ru⟩:=rv.one
 obtain ⟨z,its,k,r,hl,e⟩:=I.lstM hH
 have fl:(ns.map V.bl).all u8=true:=List.all_eq_true.mpr fun v hv=>by
  obtain ⟨n,_,rfl⟩:=List.mem_map.mp hv
  rfl
 refine call_meets F.slot_list_count ⟨_,e,rfl⟩ F.entry_list_count (F.args_list_count_2 _ _) (SeqAt.list_countAt l its.toArray k none #[] u (eqU (.bl n))) ⟨e,fun y hy=>AV ru rfl r fl y (by simpa using hy),?_⟩
 show EP X pins σ Q (.int ((its.toArray.toList.countP (eqU (.bl n)):Nat):Int) s.toks) _
 rw [show its.toArray.toList=its from rfl,Bj n r]
 exact ⟨.int (ns.count n:Nat),H,I.tok _,⟨_,rfl⟩,q⟩
noncomputable def IG:V→List V→Hp→VK→Prop:=fun x vs H Q=>∃ (l:Addr) (ns:List Bool) (n:Bool) (j:Nat),x = .ref l∧vs=[.bl n]∧H l=some (.lst (ns.map V.bl))∧ns[j]?=some n∧(∀ m,m<j→ns[m]?≠some n)∧Q (.int (j:Nat)) H
theorem G7:MtM X "list.index" IG:=by
 intro pins s σ H x vs v us Q I rx rv h
 obtain ⟨l,ns,n,j,rfl,rfl,hH,hj,hno,q⟩:=h
 cases rx
 obtain ⟨u,rfl,ru⟩:=rv.one
 obtain ⟨z,its,k,r,hl,e⟩:=I.lstM hH
 have hlen:=hl
 rw [List.length_map] at hlen z
 have hjl:j<ns.length:=(List.getElem?_eq_some_iff.mp hj).1
 have hjs:j<its.toArray.size:=by rw [List.size_toArray];omega
 have fl:(ns.map V.bl).all u8=true:=List.all_eq_true.mpr fun v hv=>by
  obtain ⟨n,_,rfl⟩:=List.mem_map.mp hv
  rfl
 have at':∀ m (hm:m<its.toArray.size),eqU (.bl n) its.toArray[m]=(ns[m]'(by rw [List.size_toArray] at hm;omega) == n):=fun m hm=>by
  have hm':m<ns.length:=by rw [List.size_toArray] at hm;omega
  obtain ⟨u',hu',ru'⟩:=r.get (show (ns.map V.bl)[m]?=some (V.bl ns[m]) by simp [hm'])
  have e2:its.toArray[m]=u':=by
   have:its[m]?=some its.toArray[m]:=by simp
   rw [hu'] at this
   exact (Option.some.inj this).symm
  rw [e2,Bn ru' rfl]
  rfl
 refine call_meets F.slot_list_index ⟨_,e,rfl⟩ F.entry_list_index (F.args_list_index_2 _ _)
  (SeqAt.list_indexAt l its.toArray k none #[] u (eqU (.bl n)) j hjs ?_ ?_ ?_) ⟨e,?_,?_⟩
 ·have:ns.length≤sizeLine:=z
  have h2:=Bm
  omega
 ·rw [at' j hjs]
  have:=(List.getElem?_eq_some_iff.mp hj).2
  simp [this]
 ·intro m hm hmj
  rw [at' m hm]
  have hm':m<ns.length:=by rw [List.size_toArray] at hm;omega
  have:=hno m hmj
  simpa [hm'] using this
 ·intro y hy
  exact AV ru rfl r fl y (by simpa using hy)
 ·exact ⟨.int (j:Nat),H,I.tok _,⟨_,rfl⟩,q⟩
end
end L2
namespace Hue
open PySem L2
noncomputable abbrev C0:Stmt:=top 33
noncomputable abbrev DM:Stmt:=top 34
noncomputable abbrev C1:Stmt:=top 35
noncomputable def De:Sp:=fun vs H Q _=>∃ (w:Addr) (m:Int) (es:List (Int×Int)) (p:Int),vs=[.ref w,.int p]∧WebE H w m es∧∀ (n:Int) H',Same H H'→0≤n→n≤61→Q (.int n) H'
noncomputable def C2:Sp:=fun vs H Q _=>∃ (w:Addr) (m:Int) (es:List (Int×Int)),vs=[.ref w]∧WebE H w m es∧∀ (n:Int) H',Same H H'→0≤n→n≤61→Q (.int n) H'
theorem IH {X:Cx} {K:PySem.W.Frag} (hK:X.K=K) {tg l:Expr} {tl:TE} (hl:PE X l tl):PI X tg l (Jj K tl):=hK▸EN hl
theorem K7:((["_law_pair"]:List Str)++(["_law_place"]:List Str)).Nodup:=by decide +kernel
theorem K8:((["_law_place"]:List Str)++(["_law_web_here"]:List Str)).Nodup:=by decide +kernel
theorem JQ:((["_law_pair"]:List Str)++(["_law_web_here"]:List Str)).Nodup:=by decide +kernel
theorem K9:((["_law_other"]:List Str)++(["_law_pair"]:List Str)).Nodup:=by decide +kernel
section
variable {P:Program} {w:World} {K:PySem.W.Frag} {mg:Str→Option Value} {base:Heap}
theorem II:FnScope ["_law_web_here","_law_place"] ["_law_web_here","_law_place"] (defScope C0):=⟨rfl,rfl,rfl,by decide +kernel,rfl,by decide +kernel,by decide +kernel⟩
theorem HJ {f:Addr} {fd:FuncData} (F:Fun K "_law_count" "_law_count" C0 f fd) (T:Txt K mg):FnOk P w K mg base CX0 1 f fd ["_law_web_here","_law_place"] De:=by
 refine F.ok II (fun vs H Q E h=>?_) (fun cdv A outer s H vs Q E hr h=>?_)
 ·obtain ⟨_,_,_,_,rfl,_⟩:=h;rfl
 ·obtain ⟨w0,m,es,p,rfl,W,q⟩:=h
  refine ⟨_,g9 (l8 (d4 l7 (by rfl) T.len AF (b7 (v0 ["_law_pair"] ["_law_place"] [1] (EN (j5 m8 (pv 0) d0 (fun _ _=>rfl))) (fun _ _ _ _ _=>i7 (i:=0) K7 rfl (Or.inl rfl)) (fun _ _ _ _ _=>v7 (j7 (DV (K:=K) rfl) (pv 1) (pv 0) (by with_unfolding_all rfl))) (fun _ _ _ _ _=>pv 0)) b8))),?_⟩
  obtain ⟨ta,ts,hw,ht,htl,he,hb,h61,hm⟩:=W
  refine ⟨_,rfl,w0,_,_,_,rfl,rfl,SqT.of hw,(rfl:atI [V.int m,V.ref ta] 1=some (.ref ta)),ta,rfl,⟨_,SqT.of ht⟩,fun D hD=>CQ (K:=K) (a:=ta) (xs:=ts) (fun i ys H2=>Same H H2∧H2 D=some (.lst ys)∧ys.length≤i) ⟨h7 (Same.refl _) hD,b9,Nat.le_refl _⟩ (fun i ys H2 _ h=>SqT.of (h.1 _ _ ht)) ?_ ?_⟩
  ·rintro i v ys H2 hv ⟨s2,d2,l2⟩
   obtain ⟨qv,e,rfl,ee,hq⟩:=he i v hv
   have hi:i<ts.length:=(List.getElem?_eq_some_iff.mp hv).1
   refine ⟨_,rfl,_,rfl,qv,_,rfl,.inr (SqT.of (s2 _ _ hq)),rfl,rfl,_,rfl,x8 (fun z=>⟨_,rfl,d2,i9 (by omega),t0 s2 hD,b9,by rw [List.length_append];show _+1≤_;omega⟩) (fun z=>⟨s2,d2,by omega⟩)⟩
  ·rintro ys H2 ⟨s2,d2,l2⟩
   exact ⟨D,_,rfl,.inl (SqL.of d2),q _ H2 s2 (by omega) (by omega)⟩
theorem JR:FnScope ["_law_web_here"] ["_law_web_here"] (defScope DM):=⟨rfl,rfl,rfl,by decide +kernel,rfl,by decide +kernel,by decide +kernel⟩
theorem IJ {f:Addr} {fd:FuncData} (F:Fun K "_law_most" "_law_most" DM f fd) (T:Txt K mg) (CC:Callee P w K mg base 1 "_law_count" ["_law_web_here","_law_place"] De):FnOk P w K mg base CX0 2 f fd ["_law_web_here"] C2:=by
 refine F.ok JR (fun vs H Q E h=>?_) (fun cdv A outer s H vs Q E hr h=>?_)
 ·obtain ⟨_,_,_,rfl,_⟩:=h;rfl
 ·obtain ⟨w0,m,es,rfl,W,q⟩:=h
  refine ⟨_,g9 (l8 (d4 (DL rfl) (by rfl) T.max GR (b7 (l6 Aq (t5 (b7 d0 b8)) (v0 ["_law_place"] ["_law_web_here"] [0] (t7 (by rfl) T.range (b7 (j5 m8 (pv 0) d0 (fun _ _=>rfl)) b8)) (fun _ _ _ _ _=>i7 (i:=0) K8 rfl (Or.inl rfl)) (fun _ _ _ _ _=>A9) (fun _ _ _ _ _=>j9 CC hr (by rfl) (b7 (pv 1) (b7 (pv 0) b8))))) b8))),?_⟩
  obtain ⟨ta,ts,hw,ht,htl,he,hb,h61,hm0,hm12⟩:=id W
  refine ⟨by show 1≤sizeLine;decide,fun z hz=>?_⟩
  have s1:Same H (upd H z (.lst [.int 0])):=h7 (Same.refl _) hz
  have z1:(upd H z (.lst [.int 0])) z=some (.lst [.int 0]):=b9
  generalize (upd H z (.lst [.int 0]))=H1 at s1 z1
  refine ⟨_,rfl,w0,_,_,_,rfl,rfl,SqT.of (s1 _ _ hw),(rfl:atI [V.int m,V.ref ta] 0=some (.int m)),m,rfl,by omega,by omega,fun D hD=>v9 (lo:=0) (n:=m.toNat) (fun k ys H2=>Same H1 H2∧H2 D=some (.lst ys)∧ys.length≤k∧∃ ns:List Int,ys=ns.map V.int∧∀ n∈ns,0≤n∧n≤61) ⟨h7 (Same.refl _) hD,b9,Nat.le_refl _,[],rfl,fun n hn=>by cases hn⟩ ?_ ?_⟩
  ·rintro k ys H2 hk ⟨s2,d2,l2,ns,rfl,hn⟩
   refine D3 (i:=0) ⟨_,rfl,_,rfl,w0,m,es,0+(k:Int),rfl,W.mono (y8 (s1.trans s2)),fun c H3 s3 c0 c1=>⟨s3 _ _ d2,i9 (by omega),t0 (s2.trans s3) hD,b9,by rw [List.length_append];show _+1≤_;omega,ns++[c],by rw [List.map_append];rfl,fun n h=>?_⟩⟩
   rcases List.mem_append.mp h with h | h
   ·exact hn n h
   ·rw [List.mem_singleton.mp h];exact ⟨c0,c1⟩
  ·rintro ys H2 ⟨s2,d2,l2,ns,rfl,hn⟩
   refine ⟨z,D,_,_,rfl,rfl,s2 _ _ z1,d2,Nat.le_of_lt (i9 (by show 1+_≤_;omega)),fun L hL=>?_⟩
   have s3:=h7 (o := .lst ([.int 0]++ns.map V.int)) (s1.trans s2) hL
   refine ⟨L,0::ns,rfl,b9,by simp,fun r hr=>q r _ s3 (hr.2 0 (List.mem_cons_self ..)) ?_⟩
   rcases List.mem_cons.mp hr.1 with z | z
   ·omega
   ·exact (hn r z).2
theorem IK:FnScope ["_law_web_here"] ["_law_web_here"] (defScope C1):=⟨rfl,rfl,rfl,by decide +kernel,rfl,by decide +kernel,by decide +kernel⟩
theorem HK {f:Addr} {fd:FuncData} (F:Fun K "_law_thickest" "_law_thickest" C1 f fd) (T:Txt K mg):FnOk P w K mg base CX0 1 f fd ["_law_web_here"] C2:=by
 refine F.ok IK (fun vs H Q E h=>?_) (fun cdv A outer s H vs Q E hr h=>?_)
 ·obtain ⟨_,_,_,rfl,_⟩:=h;rfl
 ·obtain ⟨w0,m,es,rfl,W,q⟩:=h
  have hu:=hr.units0
  refine ⟨_,g9 (l8 (d4 (DL rfl) (by rfl) T.max GR (b7 (l6 Aq (t5 (b7 d0 b8)) (v0 ["_law_pair"] ["_law_web_here"] [0] (EN (j5 m8 (pv 0) d0 (fun _ _=>rfl))) (fun _ _ _ _ _=>i7 (i:=0) JQ rfl (Or.inr rfl)) (fun _ _ _ _ _=>A9)
   (fun _ _ _ _ _=>d4 (D4 (K:=K) rfl) (by rfl) T.len AF (b7 (v0 ["_law_other"] ["_law_pair"] [0] (IH (K:=K) rfl (j5 (HZ (K:=K) rfl) (pv 1) d0 (fun _ _=>rfl))) (fun _ _ _ _ _=>i7 (i:=0) K9 rfl (Or.inl rfl)) (fun _ _ _ _ _=>v7 (j7 (HH (K:=K) rfl hu) (pv 0) (pv 1) (m7 _))) (fun _ _ _ _ _=>pv 0)) b8)))) b8))),?_⟩
  obtain ⟨ta,ts,hw,ht,htl,he,hb,h61,hm0,hm12⟩:=id W
  refine ⟨by show 1≤sizeLine;decide,fun z hz=>?_⟩
  have s1:Same H (upd H z (.lst [.int 0])):=h7 (Same.refl _) hz
  have z1:(upd H z (.lst [.int 0])) z=some (.lst [.int 0]):=b9
  generalize (upd H z (.lst [.int 0]))=H1 at s1 z1
  refine ⟨_,rfl,w0,_,_,_,rfl,rfl,SqT.of (s1 _ _ hw),(rfl:atI [V.int m,V.ref ta] 1=some (.ref ta)),ta,rfl,⟨_,SqT.of (s1 _ _ ht)⟩,fun D hD=>CQ (K:=K) (a:=ta) (xs:=ts) (fun k ys H2=>Same H1 H2∧H2 D=some (.lst ys)∧ys.length≤k∧∃ ns:List Int,ys=ns.map V.int∧∀ n∈ns,0≤n∧n≤61) ⟨h7 (Same.refl _) hD,b9,Nat.le_refl _,[],rfl,fun n hn=>by cases hn⟩ (fun k ys H2 _ h=>SqT.of (h.1 _ _ (s1 _ _ ht))) ?_ ?_⟩
  ·rintro k v ys H2 hv ⟨s2,d2,l2,ns,rfl,hn⟩
   obtain ⟨qv,e,rfl,ee,hq⟩:=he k v hv
   have hk:k<ts.length:=(List.getElem?_eq_some_iff.mp hv).1
   have s12:=s1.trans s2
   refine D3 (i:=0) ⟨_,rfl,w0,_,_,_,rfl,rfl,SqT.of (s12 _ _ hw),(rfl:atI [V.int m,V.ref ta] 1=some (.ref ta)),ta,rfl,⟨_,SqT.of (s12 _ _ ht)⟩,fun G hG=>CQ (K:=K) (a:=ta) (xs:=ts) (fun i ys H3=>Same H2 H3∧H3 G=some (.lst ys)∧ys.length≤i) ⟨h7 (Same.refl _) hG,b9,Nat.le_refl _⟩ (fun i ys H3 _ h=>SqT.of (h.1 _ _ (s12 _ _ ht))) ?_ ?_⟩
   ·rintro i v ys H3 hv' ⟨s3,d3,l3⟩
    obtain ⟨qv',e',rfl,ee',hq'⟩:=he i v hv'
    have hi:i<ts.length:=(List.getElem?_eq_some_iff.mp hv').1
    refine ⟨_,rfl,_,rfl,qv',qv,_,_,rfl,rfl,SqT.of (s3 _ _ (s12 _ _ hq')),SqT.of (s3 _ _ (s12 _ _ hq)),rfl,rfl,fun r=>⟨_,rfl,x8 (fun z=>⟨_,rfl,d3,i9 (by omega),t0 s3 hG,b9,by rw [List.length_append];show _+1≤_;omega⟩) (fun z=>⟨s3,d3,by omega⟩)⟩⟩
   ·rintro ys H3 ⟨s3,d3,l3⟩
    refine ⟨G,_,rfl,.inl (SqL.of d3),s3 _ _ d2,i9 (by omega),t0 (s2.trans s3) hD,b9,by rw [List.length_append];show _+1≤_;omega,ns++[(ys.length:Int)],by rw [List.map_append];rfl,fun n h=>?_⟩
    rcases List.mem_append.mp h with h | h
    ·exact hn n h
    ·rw [List.mem_singleton.mp h];omega
  ·rintro ys H2 ⟨s2,d2,l2,ns,rfl,hn⟩
   refine ⟨z,D,_,_,rfl,rfl,s2 _ _ z1,d2,Nat.le_of_lt (i9 (by show 1+_≤_;omega)),fun L hL=>?_⟩
   have s3:=h7 (o := .lst ([.int 0]++ns.map V.int)) (s1.trans s2) hL
   refine ⟨L,0::ns,rfl,b9,by simp,fun r hr=>q r _ s3 (hr.2 0 (List.mem_cons_self ..)) ?_⟩
   rcases List.mem_cons.mp hr.1 with z | z
   ·omega
   ·exact (hn r z).2
end
open PySem L2
noncomputable abbrev C3:Stmt:=top 41
noncomputable abbrev DN:Stmt:=top 42
noncomputable abbrev G8:Stmt:=top 43
noncomputable abbrev Df:Stmt:=top 44
noncomputable abbrev DO:Stmt:=top 38
theorem Kb:bootBuiltins "ValueError"=some (.type "ValueError"):=by decide +kernel
structure Ers (K:PySem.W.Frag) (mg:Str→Option Value) (cH c0 c1 c2 c3 c4 c5 c6 c7 c8:Addr):Prop where
 h:ExcC K mg "HueError" cH
 g0:mg "NoPlace"=some (.ref c0)
 g1:mg "NoTie"=some (.ref c1)
 g2:mg "NoRow"=some (.ref c2)
 g3:mg "NoFan"=some (.ref c3)
 g4:mg "TooFew"=some (.ref c4)
 g5:mg "NoStep"=some (.ref c5)
 g6:mg "NotTwoSides"=some (.ref c6)
 g7:mg "ShortList"=some (.ref c7)
 g8:mg "BadRow"=some (.ref c8)
 ve:mg "ValueError"=none
structure ErC (K:PySem.W.Frag) (cH D c0 c1 c2 c3 c4 c5 c6 c7 c8:Addr) (bs:List Bool):Prop where
 up:UnderK K D cH
 et:ExcT K D
 k0:PySem.W.kitOne K (.ref D) (.ref c0)=some (bs.getD 0 false)
 k1:PySem.W.kitOne K (.ref D) (.ref c1)=some (bs.getD 1 false)
 k2:PySem.W.kitOne K (.ref D) (.ref c2)=some (bs.getD 2 false)
 k3:PySem.W.kitOne K (.ref D) (.ref c3)=some (bs.getD 3 false)
 k4:PySem.W.kitOne K (.ref D) (.ref c4)=some (bs.getD 4 false)
 k5:PySem.W.kitOne K (.ref D) (.ref c5)=some (bs.getD 5 false)
 k6:PySem.W.kitOne K (.ref D) (.ref c6)=some (bs.getD 6 false)
 k7:PySem.W.kitOne K (.ref D) (.ref c7)=some (bs.getD 7 false)
 k8:PySem.W.kitOne K (.ref D) (.ref c8)=some (bs.getD 8 false)
 kv:PySem.W.kitOne K (.ref D) (.type "ValueError")=some true
noncomputable def bAt (i:Nat):List Bool:=(List.range 9).map fun j=>j == i
noncomputable def nmV:List Str:=["NoPlace","NoTie","NoRow","NoFan","TooFew","NoStep","NotTwoSides","ShortList","BadRow"]
noncomputable def Dg (K:PySem.W.Frag) (cH c0 c1 c2 c3 c4 c5 c6 c7 c8:Addr):Sp:=fun vs H Q _=>∃ (x D:Addr) (i:Nat) (n:Str),vs=[.ref x]∧H x=some (ExcO x (.ref D))∧i<9∧ErC K cH D c0 c1 c2 c3 c4 c5 c6 c7 c8 (bAt i)∧nmV[i]?=some n∧∀ H',Same H H'→Q (.str n) H'
theorem Kc:∀ i,i<9→bAt i=[(bAt i).getD 0 false,(bAt i).getD 1 false,(bAt i).getD 2 false,(bAt i).getD 3 false,(bAt i).getD 4 false,(bAt i).getD 5 false,(bAt i).getD 6 false,(bAt i).getD 7 false,(bAt i).getD 8 false]:=by decide
theorem G9:∀ i,i<9→(bAt i).count true=1:=by decide
theorem JS (i:Nat) (h:i<9):(bAt i)[i]?=some true:=by unfold bAt;simp [h]
theorem JT (i:Nat):∀ m,m<i→(bAt i)[m]?≠some true:=fun m hm z=>by
 unfold bAt at z
 rw [List.getElem?_map] at z
 by_cases y:m<9
 ·rw [List.getElem?_range y] at z
  have:m=i:=by simpa using z
  omega
 ·rw [List.getElem?_eq_none (by simp;omega)] at z;cases z
section
variable {P:Program} {w:World} {K:PySem.W.Frag} {mg:Str→Option Value} {base:Heap}
theorem scClass:FnScope ["_law_caught","_law_fits","_law_names"] ["_law_caught"] (defScope C3):=⟨rfl,rfl,rfl,by decide +kernel,rfl,by decide +kernel,by decide +kernel⟩
theorem HL {f:Addr} {fd:FuncData} {cH c0 c1 c2 c3 c4 c5 c6 c7 c8:Addr} (F:Fun K "_law_class" "_law_class" C3 f fd) (T:Txt K mg) (R0:Ers K mg cH c0 c1 c2 c3 c4 c5 c6 c7 c8):FnOk P w K mg base CX0 1 f fd ["_law_caught"] (Dg K cH c0 c1 c2 c3 c4 c5 c6 c7 c8):=by
 refine F.ok scClass (fun vs H Q E h=>?_) (fun cdv A outer s H vs Q E hr h=>?_)
 ·obtain ⟨_,_,_,_,rfl,_⟩:=h;rfl
 ·obtain ⟨x,D,i,n,rfl,hx,hi,R,hn,q⟩:=h
  refine ⟨_,c9 (n6 (v5 (A1 (pv 0))) u4 i8)
   (c9 (j8 (i:=1) scClass.nd rfl (Or.inl rfl) (t5 (b7 (d4 v4 (by rfl) T.isi p0 (b7 (pv 0) (b7 (AR (v := .ref c0) (by rfl) R0.g0 rfl) b8))) (b7 (d4 v4 (by rfl) T.isi p0 (b7 (pv 0) (b7 (AR (v := .ref c1) (by rfl) R0.g1 rfl) b8))) (b7 (d4 v4 (by rfl) T.isi p0 (b7 (pv 0) (b7 (AR (v := .ref c2) (by rfl) R0.g2 rfl) b8))) b8)))))
   (c9 (j8 (i:=1) scClass.nd rfl (Or.inl rfl) (l6 Aq (pv 1) (t5 (b7 (d4 v4 (by rfl) T.isi p0 (b7 (pv 0) (b7 (AR (v := .ref c3) (by rfl) R0.g3 rfl) b8))) (b7 (d4 v4 (by rfl) T.isi p0 (b7 (pv 0) (b7 (AR (v := .ref c4) (by rfl) R0.g4 rfl) b8))) (b7 (d4 v4 (by rfl) T.isi p0 (b7 (pv 0) (b7 (AR (v := .ref c5) (by rfl) R0.g5 rfl) b8))) b8))))))
   (c9 (j8 (i:=1) scClass.nd rfl (Or.inl rfl) (l6 Aq (pv 1) (t5 (b7 (d4 v4 (by rfl) T.isi p0 (b7 (pv 0) (b7 (AR (v := .ref c6) (by rfl) R0.g6 rfl) b8))) (b7 (d4 v4 (by rfl) T.isi p0 (b7 (pv 0) (b7 (AR (v := .ref c7) (by rfl) R0.g7 rfl) b8))) (b7 (d4 v4 (by rfl) T.isi p0 (b7 (pv 0) (b7 (AR (v := .ref c8) (by rfl) R0.g8 rfl) b8))) b8))))))
   (c9 (n6 (C5 (j7 Dj (Af PySem.F.plainAttrs_list PySem.F.slot_list_count PySem.F.type_list_count G6 (pv 1) (b7 Ep b8)) d0 (m7 _)) (Az (CK (u9 (d4 v4 (by rfl) T.isi p0 (b7 (pv 0) (b7 (j4 (v := .ty "ValueError") (by rfl) R0.ve Kb rfl) b8))))))).pt u4 i8)
   (@c9 _ _ _ _ _ (j8 (i:=2) scClass.nd rfl (Or.inl rfl) (t5 (b7 x6 (b7 x6 (b7 x6 (b7 x6 (b7 x6 (b7 x6 (b7 x6 (b7 x6 (b7 x6 b8)))))))))))
   (g9 (l8 (j5 u5 (pv 2) (Af PySem.F.plainAttrs_list PySem.F.slot_list_index PySem.F.type_list_index G7 (pv 1) (b7 Ep b8)) (fun _ _=>rfl))))))))),?_⟩
  refine ⟨_,rfl,_,rfl,Ah (fun z=>nomatch z) ?_⟩
  refine ⟨_,rfl,.ref x,.ref c0,_,_,_,rfl,.yes hx R.et,rfl,R.k0,_,rfl,.ref x,.ref c1,_,_,_,rfl,.yes hx R.et,rfl,R.k1,_,rfl,.ref x,.ref c2,_,_,_,rfl,.yes hx R.et,rfl,R.k2,by show 3≤sizeLine;decide,fun L1 h1=>?_⟩
  have e1:=j3 (u := .lst [.bl ((bAt i).getD 0 false),.bl ((bAt i).getD 1 false),.bl ((bAt i).getD 2 false)]) hx h1
  have s1:Same H (upd H L1 (.lst [.bl ((bAt i).getD 0 false),.bl ((bAt i).getD 1 false),.bl ((bAt i).getD 2 false)])):=h7 (Same.refl _) h1
  have l1:(upd H L1 (.lst [.bl ((bAt i).getD 0 false),.bl ((bAt i).getD 1 false),.bl ((bAt i).getD 2 false)])) L1=some (.lst [.bl ((bAt i).getD 0 false),.bl ((bAt i).getD 1 false),.bl ((bAt i).getD 2 false)]):=b9
  generalize (upd H L1 (.lst [.bl ((bAt i).getD 0 false),.bl ((bAt i).getD 1 false),.bl ((bAt i).getD 2 false)]))=H1 at e1 s1 l1
  refine ⟨_,rfl,_,rfl,.ref x,.ref c3,_,_,_,rfl,.yes e1 R.et,rfl,R.k3,_,rfl,.ref x,.ref c4,_,_,_,rfl,.yes e1 R.et,rfl,R.k4,_,rfl,.ref x,.ref c5,_,_,_,rfl,.yes e1 R.et,rfl,R.k5,by show 3≤sizeLine;decide,fun M2 h2=>?_⟩
  refine ⟨L1,M2,_,_,rfl,rfl,j3 l1 h2,b9,by show 6≤sizeLine;decide,fun L2 g2=>?_⟩
  have e2:=j3 (u := .lst ([.bl ((bAt i).getD 0 false),.bl ((bAt i).getD 1 false),.bl ((bAt i).getD 2 false)]++[.bl ((bAt i).getD 3 false),.bl ((bAt i).getD 4 false),.bl ((bAt i).getD 5 false)])) (j3 (u := .lst [.bl ((bAt i).getD 3 false),.bl ((bAt i).getD 4 false),.bl ((bAt i).getD 5 false)]) e1 h2) g2
  have s2:=h7 (o := .lst ([.bl ((bAt i).getD 0 false),.bl ((bAt i).getD 1 false),.bl ((bAt i).getD 2 false)]++[.bl ((bAt i).getD 3 false),.bl ((bAt i).getD 4 false),.bl ((bAt i).getD 5 false)])) (h7 (o := .lst [.bl ((bAt i).getD 3 false),.bl ((bAt i).getD 4 false),.bl ((bAt i).getD 5 false)]) s1 h2) g2
  have l2:(upd (upd H1 M2 (.lst [.bl ((bAt i).getD 3 false),.bl ((bAt i).getD 4 false),.bl ((bAt i).getD 5 false)])) L2 (.lst ([.bl ((bAt i).getD 0 false),.bl ((bAt i).getD 1 false),.bl ((bAt i).getD 2 false)]++[.bl ((bAt i).getD 3 false),.bl ((bAt i).getD 4 false),.bl ((bAt i).getD 5 false)]))) L2=some (.lst ([.bl ((bAt i).getD 0 false),.bl ((bAt i).getD 1 false),.bl ((bAt i).getD 2 false)]++[.bl ((bAt i).getD 3 false),.bl ((bAt i).getD 4 false),.bl ((bAt i).getD 5 false)])):=b9
  generalize (upd (upd H1 M2 (.lst [.bl ((bAt i).getD 3 false),.bl ((bAt i).getD 4 false),.bl ((bAt i).getD 5 false)])) L2 (.lst ([.bl ((bAt i).getD 0 false),.bl ((bAt i).getD 1 false),.bl ((bAt i).getD 2 false)]++[.bl ((bAt i).getD 3 false),.bl ((bAt i).getD 4 false),.bl ((bAt i).getD 5 false)])))=H2 at e2 s2 l2
  refine ⟨_,rfl,_,rfl,.ref x,.ref c6,_,_,_,rfl,.yes e2 R.et,rfl,R.k6,_,rfl,.ref x,.ref c7,_,_,_,rfl,.yes e2 R.et,rfl,R.k7,_,rfl,.ref x,.ref c8,_,_,_,rfl,.yes e2 R.et,rfl,R.k8,by show 3≤sizeLine;decide,fun M3 h3=>?_⟩
  refine ⟨L2,M3,_,_,rfl,rfl,j3 l2 h3,b9,by show 9≤sizeLine;decide,fun L3 g3=>?_⟩
  have e3:=j3 (u := .lst ([.bl ((bAt i).getD 0 false),.bl ((bAt i).getD 1 false),.bl ((bAt i).getD 2 false)]++[.bl ((bAt i).getD 3 false),.bl ((bAt i).getD 4 false),.bl ((bAt i).getD 5 false)]++[.bl ((bAt i).getD 6 false),.bl ((bAt i).getD 7 false),.bl ((bAt i).getD 8 false)])) (j3 (u := .lst [.bl ((bAt i).getD 6 false),.bl ((bAt i).getD 7 false),.bl ((bAt i).getD 8 false)]) e2 h3) g3
  have s3:=h7 (o := .lst ([.bl ((bAt i).getD 0 false),.bl ((bAt i).getD 1 false),.bl ((bAt i).getD 2 false)]++[.bl ((bAt i).getD 3 false),.bl ((bAt i).getD 4 false),.bl ((bAt i).getD 5 false)]++[.bl ((bAt i).getD 6 false),.bl ((bAt i).getD 7 false),.bl ((bAt i).getD 8 false)])) (h7 (o := .lst [.bl ((bAt i).getD 6 false),.bl ((bAt i).getD 7 false),.bl ((bAt i).getD 8 false)]) s2 h3) g3
  have l3:(upd (upd H2 M3 (.lst [.bl ((bAt i).getD 6 false),.bl ((bAt i).getD 7 false),.bl ((bAt i).getD 8 false)])) L3 (.lst ([.bl ((bAt i).getD 0 false),.bl ((bAt i).getD 1 false),.bl ((bAt i).getD 2 false)]++[.bl ((bAt i).getD 3 false),.bl ((bAt i).getD 4 false),.bl ((bAt i).getD 5 false)]++[.bl ((bAt i).getD 6 false),.bl ((bAt i).getD 7 false),.bl ((bAt i).getD 8 false)]))) L3=some (.lst ((bAt i).map V.bl)):=by
   rw [b9,Kc i hi];rfl
  generalize (upd (upd H2 M3 (.lst [.bl ((bAt i).getD 6 false),.bl ((bAt i).getD 7 false),.bl ((bAt i).getD 8 false)])) L3 (.lst ([.bl ((bAt i).getD 0 false),.bl ((bAt i).getD 1 false),.bl ((bAt i).getD 2 false)]++[.bl ((bAt i).getD 3 false),.bl ((bAt i).getD 4 false),.bl ((bAt i).getD 5 false)]++[.bl ((bAt i).getD 6 false),.bl ((bAt i).getD 7 false),.bl ((bAt i).getD 8 false)])))=H3 at e3 s3 l3
  refine ⟨_,rfl,.inl ⟨rfl,_,SqL.of l3⟩,L3,_,true,rfl,rfl,l3,rfl,_,rfl,Av (by rw [G9 i hi];rfl) ?_⟩
  refine ⟨_,rfl,.ref x,.ty "ValueError",_,_,_,rfl,.yes e3 R.et,rfl,R.kv,_,rfl,z0 ?_⟩
  refine ⟨by show 9≤sizeLine;decide,fun Z hZ=>?_⟩
  have nm:(upd H3 Z (.lst [.str "NoPlace",.str "NoTie",.str "NoRow",.str "NoFan",.str "TooFew",.str "NoStep",.str "NotTwoSides",.str "ShortList",.str "BadRow"])) Z=some (.lst (nmV.map V.str)):=b9
  have l4:=j3 (u := .lst [.str "NoPlace",.str "NoTie",.str "NoRow",.str "NoFan",.str "TooFew",.str "NoStep",.str "NotTwoSides",.str "ShortList",.str "BadRow"]) l3 hZ
  have s4:=h7 (o := .lst [.str "NoPlace",.str "NoTie",.str "NoRow",.str "NoFan",.str "TooFew",.str "NoStep",.str "NotTwoSides",.str "ShortList",.str "BadRow"]) s3 hZ
  generalize (upd H3 Z (.lst [.str "NoPlace",.str "NoTie",.str "NoRow",.str "NoFan",.str "TooFew",.str "NoStep",.str "NotTwoSides",.str "ShortList",.str "BadRow"]))=H4 at nm l4 s4
  refine ⟨_,rfl,_,rfl,.inl ⟨rfl,_,SqL.of l4⟩,L3,_,true,i,rfl,rfl,l4,JS i hi,JT i,?_⟩
  exact ⟨Z,_,_,_,rfl,rfl,SqL.of nm,p7 (by rw [List.getElem?_map,hn];rfl),q H4 s4⟩
end
open PySem L2
noncomputable def Res (H:Hp) (es:List (Int×Int)) (row:List V) (k p hh:Int) (v:V):Prop:=(¬ InP es.length k∧v = .str "NoTie")∨(∃ e,InP es.length k∧es[k.toNat]?=some e∧atE p e=false∧v = .str "NoPlace")∨(∃ e h,InP es.length k∧es[k.toNat]?=some e∧atE p e=true∧row[k.toNat]?=some (.int h)∧v = .str "NoFan")∨
 (∃ e l,InP es.length k∧es[k.toNat]?=some e∧atE p e=true∧row[k.toNat]?=some .non∧v = .ref l∧FanAt H l (BL es row p hh k.toNat))
theorem Res.same {H H':Hp} {es:List (Int×Int)} {row:List V} {k p hh:Int} {v:V} (h:Res H es row k p hh v) (s:Same H H'):Res H' es row k p hh v:=by
 rcases h with h | h | h | ⟨e,l,a,b,c,d,f,g⟩
 ·exact .inl h
 ·exact .inr (.inl h)
 ·exact .inr (.inr (.inl h))
 ·exact .inr (.inr (.inr ⟨e,l,a,b,c,d,f,g.same s⟩))
theorem JU {H:Hp} {a b:Addr} {F:Fan} (A:FanAt H a F) (B:FanAt H b F) (h9:F.length≤900):Al 2 H (.ref a) (.ref b):=by
 obtain ⟨vs,h1,h2,h3⟩:=A
 obtain ⟨us,g1,g2,g3⟩:=B
 refine .inr (.inl ⟨a,b,_,_,rfl,rfl,h1,g1,by omega,by omega,fun i u v hu hv=>?_⟩)
 obtain ⟨q,f,rfl,ef,hq⟩:=h3 i u hu
 obtain ⟨q',f',rfl,ef',hq'⟩:=g3 i v hv
 rw [ef] at ef'
 cases ef'
 refine .inr (.inr ⟨q,q',_,_,rfl,rfl,hq,hq',rfl,by show 2≤900;decide,fun j u v hu hv=>?_⟩)
 rw [hu] at hv
 cases hv
 have hm:=List.mem_of_getElem? hu
 simp only [List.mem_cons,List.not_mem_nil,or_false] at hm
 rcases hm with rfl | rfl
 ·exact .inr (.inl ⟨_,rfl,rfl⟩)
 ·cases f.2 with
  | none=>exact .inl ⟨rfl,rfl⟩
  | some b=>exact .inr (.inl ⟨_,rfl,rfl⟩)
theorem JV {H:Hp} {es:List (Int×Int)} {row:List V} {k p hh:Int} {v u:V} (h61:es.length≤61) (h:Res H es row k p hh v) (g:Res H es row k p hh u):Al 2 H v u:=by
 have st:∀ n:Str,Al 2 H (.str n) (.str n):=fun n => .inl (.inr (.inr ⟨n,rfl,rfl⟩))
 rcases h with ⟨a1,rfl⟩ | ⟨e,a1,a2,a3,rfl⟩ | ⟨e,c,a1,a2,a3,a4,rfl⟩ | ⟨e,l,a1,a2,a3,a4,rfl,fa⟩
 ·rcases g with ⟨b1,rfl⟩ | ⟨e',b1,_⟩ | ⟨e',c',b1,_⟩ | ⟨e',l',b1,_⟩
  ·exact st _
  ·exact absurd b1 a1
  ·exact absurd b1 a1
  ·exact absurd b1 a1
 ·rcases g with ⟨b1,rfl⟩ | ⟨e',b1,b2,b3,rfl⟩ | ⟨e',c',b1,b2,b3,_⟩ | ⟨e',l',b1,b2,b3,_⟩
  ·exact absurd a1 b1
  ·exact st _
  ·rw [a2] at b2;cases b2;rw [a3] at b3;cases b3
  ·rw [a2] at b2;cases b2;rw [a3] at b3;cases b3
 ·rcases g with ⟨b1,rfl⟩ | ⟨e',b1,b2,b3,rfl⟩ | ⟨e',c',b1,b2,b3,b4,rfl⟩ | ⟨e',l',b1,b2,b3,b4,_⟩
  ·exact absurd a1 b1
  ·rw [a2] at b2;cases b2;rw [a3] at b3;cases b3
  ·exact st _
  ·rw [a4] at b4;cases b4
 ·rcases g with ⟨b1,rfl⟩ | ⟨e',b1,b2,b3,rfl⟩ | ⟨e',c',b1,b2,b3,b4,rfl⟩ | ⟨e',l',b1,b2,b3,b4,rfl,fb⟩
  ·exact absurd a1 b1
  ·rw [a2] at b2;cases b2;rw [a3] at b3;cases b3
  ·rw [a4] at b4;cases b4
  ·refine JU fa fb ?_
   have h1:=E8 (es:=es) (row:=row) (p:=p) (hh:=hh) (n:=(w4 es row p es.length).length) (F:=[(k.toNat,none)]) (near:=w4 es row p es.length)
   have h2:=BC (es:=es) (row:=row) (p:=p) es.length
   unfold BL
   simp at h1
   omega
noncomputable def C4:Sp:=fun vs H Q _=>∃ (w a:Addr) (m:Int) (es:List (Int×Int)) (row:List V) (k p hh:Int),vs=[.ref w,.ref a,.int k,.int p,.int hh]∧WebE H w m es∧LRow H a es row∧0≤hh∧hh≤600∧∀ v H',Same H H'→Res H' es row k p hh v→Q v H'
noncomputable def En:Sp:=fun vs H Q _=>∃ (t:Addr) (b:Bool),vs=[.ref t,.bl b]∧Tape H t∧∀ (r w l:Addr) (m:Int) (es:List (Int×Int)) (row:List V) (H':Hp),H' r=some (.tup [.ref w,.ref l])→WebE H' w m es→LRow H' l es row→Prop2 es row→H l=none→l≠t→Tape H' t→Ext t H H'→Q (.ref r) H'
noncomputable def FT (K:PySem.W.Frag):Sp:=fun vs H Q _=>∃ (a:Addr) (ns:List Int),vs=[.ref a]∧SqL K H a (ns.map V.int)∧ns.length≤63∧∀ H',Q (.bl true) H'
theorem HM {H H2 H3 H4:Hp} {t:Addr} (s:Same H H2) (n:H2 t=none) (s3:Same H2 H3) (E:Ext t H3 H4):Same H H4:=fun b o h=>E b o (d7 (s b o h) n) (s3 b o (s b o h))
theorem Tape.same {t:Addr} {H H':Hp} (T:Tape H t) (s:Same H H'):Tape H' t:=T.keep fun o h=>s _ _ h
theorem HN {xs:List V} (h:∀ v∈xs,HueV v):AS xs xs=true:=by
 unfold AS
 rw [Bool.and_eq_true]
 refine ⟨by simp,?_⟩
 rw [List.all_eq_true]
 intro p hp
 obtain ⟨i,hi,e⟩:=List.mem_iff_getElem.mp hp
 rw [List.getElem_zip] at e
 rw [← e]
 have hi':i<xs.length:=by simp at hi;exact hi
 rcases h _ (List.getElem_mem hi') with z | ⟨n,z,_⟩<;>rw [z]<;>simp [eqV]
section
variable {P:Program} {w:World} {K:PySem.W.Frag} {mg:Str→Option Value} {base:Heap}
theorem scTold:FnScope ["_law_web_here","_law_hueing_here","_law_tie","_law_place","_law_hues_here","_law_found","_law_caught","error"] ["_law_web_here","_law_hueing_here","_law_tie","_law_place","_law_hues_here"] (defScope DN):=⟨rfl,rfl,rfl,by decide +kernel,rfl,by decide +kernel,by decide +kernel⟩
theorem IL {f:Addr} {fd:FuncData} {cH c0 c1 c2 c3 c4 c5 c6 c7 c8:Addr} (F:Fun K "_law_told" "_law_told" DN f fd) (R0:Ers K mg cH c0 c1 c2 c3 c4 c5 c6 c7 c8) (RP:ErC K cH c0 c0 c1 c2 c3 c4 c5 c6 c7 c8 (bAt 0)) (RT:ErC K cH c1 c0 c1 c2 c3 c4 c5 c6 c7 c8 (bAt 1)) (RF:ErC K cH c3 c0 c1 c2 c3 c4 c5 c6 c7 c8 (bAt 3)) (CFo:CalleeE P w K mg base 7 "fan_of" ["web","hueing","tie","place","hues"] (DZ c0 c1 c3)) (CC:Callee P w K mg base 1 "_law_class" ["_law_caught"] (Dg K cH c0 c1 c2 c3 c4 c5 c6 c7 c8)):
 FnOk P w K mg base CX0 8 f fd ["_law_web_here","_law_hueing_here","_law_tie","_law_place","_law_hues_here"] C4:=by
 refine F.ok scTold (fun vs H Q E h=>?_) (fun cdv A outer s H vs Q E hr h=>?_)
 ·obtain ⟨_,_,_,_,_,_,_,_,rfl,_⟩:=h;rfl
 ·obtain ⟨w0,a,m,es,row,k,p,hh,rfl,W,R,h0,h6,q⟩:=h
  have hr1:Room 1 _:=hr.mono (by decide)
  refine ⟨_,c9 (j8 (i:=5) scTold.nd rfl (Or.inl rfl) BO)
   (c9 (j8 (i:=6) scTold.nd rfl (Or.inl rfl) BO)
   (c9 (Fy R0.h (by rfl) CFo rfl rfl rfl (fun _=>rfl) hr (by rfl) (b7 (pv 0) (b7 (pv 1) (b7 (pv 2) (b7 (pv 3) (b7 (pv 4) b8))))) (i:=7) (j:=5) scTold.nd rfl rfl rfl (Or.inl rfl) (fun _=>g9 (j8 (i:=6) scTold.nd rfl (Or.inl rfl) (pv 7))))
   (g9 (l8 (GC (v5 (A1 (pv 6))) (pv 5) (j9 CC hr1 (by rfl) (b7 (pv 6) b8))))))),?_⟩
  have raised:∀ (x D:Addr) (i:Nat) (n:Str) (H1:Hp),H1=upd H x (ExcO x (.ref D))→H x=none→i<9→ErC K cH D c0 c1 c2 c3 c4 c5 c6 c7 c8 (bAt i)→nmV[i]?=some n→(∀ H',Same H H'→Q (.str n) H')→∀ H',Same H1 H'→Q (.str n) H':=fun x D i n H1 e hx _ _ _ qq H' s'=>qq H' ((e▸h7 (Same.refl _) hx:Same H H1).trans s')
  refine ⟨_,rfl,_,rfl,_,rfl,_,rfl,_,rfl,w0,a,m,es,row,k,p,hh,rfl,W,R,h0,h6,fun no=>?_,fun e hin ee hna=>?_,fun e c hin ee ha hc=>?_,fun e hin ee ha hn l H1 s1 nl FA=>?_⟩
  ·refine ⟨c1,rfl,RT.up,fun x hx=>⟨_,rfl,_,rfl,_,rfl,Ah (fun z=>nomatch z) ⟨_,rfl,x,c1,1,"NoTie",rfl,b9,by decide,RT,rfl,fun H' s'=>q _ H' ((h7 (Same.refl _) hx).trans s') (.inl ⟨no,rfl⟩)⟩⟩⟩
  ·refine ⟨c0,rfl,RP.up,fun x hx=>⟨_,rfl,_,rfl,_,rfl,Ah (fun z=>nomatch z) ⟨_,rfl,x,c0,0,"NoPlace",rfl,b9,by decide,RP,rfl,fun H' s'=>q _ H' ((h7 (Same.refl _) hx).trans s') (.inr (.inl ⟨e,hin,ee,hna,rfl⟩))⟩⟩⟩
  ·refine ⟨c3,rfl,RF.up,fun x hx=>⟨_,rfl,_,rfl,_,rfl,Ah (fun z=>nomatch z) ⟨_,rfl,x,c3,3,"NoFan",rfl,b9,by decide,RF,rfl,fun H' s'=>q _ H' ((h7 (Same.refl _) hx).trans s') (.inr (.inr (.inl ⟨e,c,hin,ee,ha,hc,rfl⟩)))⟩⟩⟩
  ·exact ⟨_,rfl,_,rfl,Cl rfl ⟨_,rfl,q _ H1 s1 (.inr (.inr (.inr ⟨e,l,hin,ee,ha,hn,rfl,FA⟩)))⟩⟩
theorem KA:FnScope ["_law_web_here","_law_hueing_here","_law_tie","_law_place","_law_hues_here"] ["_law_web_here","_law_hueing_here","_law_tie","_law_place","_law_hues_here"] (defScope G8):=⟨rfl,rfl,rfl,by decide +kernel,rfl,by decide +kernel,by decide +kernel⟩
theorem JW {f:Addr} {fd:FuncData} (F:Fun K "_law_due" "_law_due" G8 f fd) (T:Txt K mg) (CFn:Callee P w K mg base 2 "_law_fan" ["_law_web_here","_law_hueing_here","_law_tie","_law_place","_law_hues_here"] Gf):FnOk P w K mg base CX0 3 f fd ["_law_web_here","_law_hueing_here","_law_tie","_law_place","_law_hues_here"] C4:=by
 refine F.ok KA (fun vs H Q E h=>?_) (fun cdv A outer s H vs Q E hr h=>?_)
 ·obtain ⟨_,_,_,_,_,_,_,_,rfl,_⟩:=h;rfl
 ·obtain ⟨w0,a,m,es,row,k,p,hh,rfl,W,R,h0,h6,q⟩:=h
  refine ⟨_,c9 (n6 (CK (Dn Eu CL d0 (pv 2) (d4 l7 (by rfl) T.len AF (b7 (j5 m8 (pv 0) d0 (fun _ _=>rfl)) b8)))) (g9 (l8 x6)) i8)
   (c9 (n6 (j7 Ap (pv 3) (j5 m8 (j5 m8 (pv 0) d0 (fun _ _=>rfl)) (pv 2) (fun _ _=>rfl)) (by with_unfolding_all rfl)) (g9 (l8 x6)) i8)
   (c9 (n6 (v5 (B5 (j5 u5 (pv 1) (pv 2) (fun _ _=>rfl)))) (g9 (l8 x6)) i8)
   (g9 (l8 (j9 CFn hr (by rfl) (b7 (pv 0) (b7 (pv 1) (b7 (pv 2) (b7 (pv 3) (b7 (pv 4) b8)))))))))),?_⟩
  obtain ⟨ta,ts,hw,ht,htl,he,hbd,h61,hm⟩:=id W
  refine ⟨_,rfl,_,_,rfl,rfl,_,rfl,x8 (fun z=>?_) (fun z=>?_)⟩
  ·have z':0≤k:=by simpa using z
   refine ⟨_,rfl,w0,_,_,_,rfl,rfl,SqT.of hw,(rfl:atI [V.int m,V.ref ta] 1=some (.ref ta)),ta,ts,rfl,.inr (SqT.of ht),_,_,rfl,rfl,_,rfl,?_⟩
   by_cases u:k<(ts.length:Int)
   ·rw [decide_eq_true u]
    refine z0 ?_
    have hin:InP es.length k:=⟨z',by rw [← htl];exact u⟩
    have hk:k.toNat<ts.length:=by omega
    have et:ts[k.toNat]?=some (ts[k.toNat]'hk):=by simp
    obtain ⟨qv,e,ev,ee,hq⟩:=he _ _ et
    rw [ev] at et
    have at':atI ts k=some (.ref qv):=by
     have:=p7 et
     rwa [Int.toNat_of_nonneg z'] at this
    refine ⟨_,rfl,_,rfl,w0,_,_,_,rfl,rfl,SqT.of hw,(rfl:atI [V.int m,V.ref ta] 1=some (.ref ta)),_,rfl,ta,ts,_,_,rfl,rfl,SqT.of ht,at',qv,_,rfl,.inr (SqT.of hq),rfl,rfl,_,rfl,?_⟩
    show if (!inV (.int p) [.int e.1,.int e.2])=true then _ else _
    rw [Ai]
    cases ha:atE p e with
    | false=>exact AZ (q _ H (Same.refl _) (.inr (.inl ⟨e,hin,ee,ha,rfl⟩)))
    | true=>
      refine z0 ?_
      have hkr:k.toNat<row.length:=by rw [R.2.1];omega
      have erk:row[k.toNat]?=some (row[k.toNat]'hkr):=by simp
      have atk:atI row k=some (row[k.toNat]'hkr):=by
       have:=p7 erk
       rwa [Int.toNat_of_nonneg z'] at this
      refine ⟨_,rfl,_,rfl,a,row,_,_,rfl,rfl,SqL.of R.1,atk,_,rfl,?_⟩
      rcases R.2.2 _ (List.getElem_mem hkr) with y | ⟨c,y,_⟩
      ·rw [y] at erk ⊢
       refine Av rfl ?_
       refine ⟨_,rfl,_,rfl,_,rfl,_,rfl,_,rfl,w0,a,m,es,row,k.toNat,p,hh,e,?_,W,R,erk,ee,atE_iff.mp ha,fun l H1 s1 nl FA=>q _ H1 s1 (.inr (.inr (.inr ⟨e,l,hin,ee,ha,erk,rfl,FA⟩)))⟩
       rw [Int.toNat_of_nonneg z']
       rfl
      ·rw [y] at erk ⊢
       exact Cb (fun z=>nomatch z) (q _ H (Same.refl _) (.inr (.inr (.inl ⟨e,c,hin,ee,ha,erk,rfl⟩))))
   ·rw [decide_eq_false u]
    exact AZ (q _ H (Same.refl _) (.inl ⟨fun y=>u (by have:=y.2;rw [htl];exact this),rfl⟩))
  ·have z':¬ 0≤k:=by simpa using z
   exact ⟨_,rfl,AZ (q _ H (Same.refl _) (.inl ⟨fun y=>z' y.1,rfl⟩))⟩
theorem scCase:FnScope ["_law_tape_here","_law_bare","_law_web_here"] ["_law_tape_here","_law_bare"] (defScope DO):=⟨rfl,rfl,rfl,by decide +kernel,rfl,by decide +kernel,by decide +kernel⟩
theorem IM {f:Addr} {fd:FuncData} (F:Fun K "_law_case" "_law_case" DO f fd) (CD:Du P w K mg base) (CW:Callee P w K mg base 3 "_law_web" ["_law_tape_here","_law_great"] GU) (CH:Callee P w K mg base 2 "_law_hueing" ["_law_tape_here","_law_web_here","_law_bare"] Ea):FnOk P w K mg base CX0 4 f fd ["_law_tape_here","_law_bare"] En:=by
 refine F.ok scCase (fun vs H Q E h=>?_) (fun cdv A outer s H vs Q E hr h=>?_)
 ·obtain ⟨_,_,rfl,_⟩:=h;rfl
 ·obtain ⟨t,b,rfl,Tp,q⟩:=h
  have hr1:=hr.mono (show 1≤3 by decide)
  have hr2:=hr.mono (show 2≤3 by decide)
  refine ⟨_,c9 (j8 (i:=2) scCase.nd rfl (Or.inl rfl) (j9 CW hr (by rfl) (b7 (pv 0) (b7 (w9 AE (j9 CD hr1 (by rfl) (b7 (pv 0) (b7 d0 b8))) d0 (m7 _)) b8))))
   (g9 (l8 (u7 (b7 (pv 2) (b7 (j9 CH hr2 (by rfl) (b7 (pv 0) (b7 (pv 2) (b7 (pv 1) b8)))) b8))))),?_⟩
  refine ⟨_,rfl,_,rfl,t,_,rfl,Tp,by decide,by decide,fun r H1 r0 r1 T1 x1=>⟨rfl,t,_,rfl,T1,fun w1 m vs1 H2 W1 T2 x2=>?_⟩⟩
  obtain ⟨es,We,_⟩:=W1.pure
  refine ⟨_,rfl,_,rfl,_,rfl,_,rfl,t,w1,b,m,es,rfl,T2,We,fun l row H3 G hlen hh hp=>⟨by show 2≤sizeLine;decide,fun R hR=>?_⟩⟩
  have kk:KeepT H2 (upd H3 R (.tup [.ref w1,.ref l])):=(G.ext.keepT T2).trans (KeepT.new hR)
  exact q R w1 l m es row _ b9 (We.mono kk) ⟨j3 G.at' hR,hlen,hh⟩ hp ((x1.trans x2).free G.fr G.ne.symm) G.ne.symm (G.tape.new hR) (((x1.trans x2).trans G.ext).new hR)
end
open PySem L2
structure Fx (H H':Hp) (t wb l Kp:Addr) (m:Int) (es:List (Int×Int)) (row:List V) (hh:Int):Prop where
 s:Same H H'
 n:H t=none
 T:Tape H' t
 W:WebE H' wb m es
 R:LRow H' l es row
 lt:l≠t
 k:H' Kp=some (.lst row)
 kt:Kp≠t
 h0:0≤hh
 h6:hh≤600
theorem Fx.same {H H1 H2:Hp} {t wb l Kp:Addr} {m:Int} {es:List (Int×Int)} {row:List V} {hh:Int} (f:Fx H H1 t wb l Kp m es row hh) (s:Same H1 H2):Fx H H2 t wb l Kp m es row hh:=
 ⟨f.s.trans s,f.n,f.T.same s,f.W.mono (y8 s),f.R.same s,f.lt,s _ _ f.k,f.kt,f.h0,f.h6⟩
theorem Fx.ext {H H1 H2:Hp} {t wb l Kp:Addr} {m:Int} {es:List (Int×Int)} {row:List V} {hh:Int} (f:Fx H H1 t wb l Kp m es row hh) (x:Ext t H1 H2) (T:Tape H2 t):Fx H H2 t wb l Kp m es row hh:=
 ⟨fun b o h=>x b o (d7 h f.n) (f.s b o h),f.n,T,f.W.mono (x.keepT f.T),⟨x _ _ f.lt f.R.1,f.R.2⟩,f.lt,x _ _ f.kt f.k,f.kt,f.h0,f.h6⟩
noncomputable def SPl (a:Addr) (H:Hp) (σ:St) (H':Hp):Prop:=∃ (v1:V) (t wb l Kp:Addr) (m hh tie:Int) (es:List (Int×Int)) (row:List V) (Pl:Addr) (ps:List Int) (o9 o10 o11:Option V),σ=[some (.ref a),some v1,some (.ref t),some (.ref wb),some (.ref l),some (.ref Kp),some (.int hh),some (.int tie),some (.ref Pl),o9,o10,o11]∧Fx H H' t wb l Kp m es row hh∧H' Pl=some (.lst (ps.map V.int))∧ps.length≤10
noncomputable def STi (a:Addr) (H:Hp) (σ:St) (H':Hp):Prop:=∃ (v1:V) (t wb l Kp:Addr) (m hh:Int) (es:List (Int×Int)) (row:List V) (o7 o8 o9 o10 o11:Option V),σ=[some (.ref a),some v1,some (.ref t),some (.ref wb),some (.ref l),some (.ref Kp),some (.int hh),o7,o8,o9,o10,o11]∧Fx H H' t wb l Kp m es row hh
section
variable {P:Program} {w:World} {K:PySem.W.Frag} {mg:Str→Option Value} {base:Heap}
theorem scLaw:FnScope ["_law_script","_law_k","_law_tape_here","_law_web_here","_law_hueing_here","_law_kept","_law_hues_here","_law_tie","_law_places","_law_place","_law_due_here","_law_found"] ["_law_script"] (defScope Df):=⟨rfl,rfl,rfl,by decide +kernel,rfl,by decide +kernel,by decide +kernel⟩
theorem JX {f:Addr} {fd:FuncData} (F:Fun K "law" "law" Df f fd) (T:Txt K mg) (CT:Callee P w K mg base 1 "_law_tape" ["_law_script","_law_k"] (EX K)) (CD:Du P w K mg base) (CC:Callee P w K mg base 4 "_law_case" ["_law_tape_here","_law_bare"] En)
 (CMo:Callee P w K mg base 2 "_law_most" ["_law_web_here"] C2) (CTh:Callee P w K mg base 1 "_law_thickest" ["_law_web_here"] C2) (CU:Callee P w K mg base 3 "_law_due" ["_law_web_here","_law_hueing_here","_law_tie","_law_place","_law_hues_here"] C4) (CTo:Callee P w K mg base 8 "_law_told" ["_law_web_here","_law_hueing_here","_law_tie","_law_place","_law_hues_here"] C4)
 (CS:Callee P w K mg base 3 "_law_same" ["_law_found","_law_due_here"] (BI (Al 2))):FnOk P w K mg base CX0 9 f fd ["_law_script"] (FT K):=by
 refine F.ok scLaw (fun vs H Q E h=>?_) (fun cdv A outer s H vs Q E hr h=>?_)
 ·obtain ⟨a,ns,rfl,_⟩:=h;rfl
 ·obtain ⟨a,ns,rfl,hS,hlen,k⟩:=h
  have hr1:Room 1 _:=hr.mono (by decide)
  have hr2:Room 2 _:=hr.mono (by decide)
  have hr3:Room 3 _:=hr.mono (by decide)
  have hr4:Room 4 _:=hr.mono (by decide)
  have hu:=hr.units0
  refine ⟨_,c9 (AH PassesOwn.never rfl (t7 (by rfl) T.range (b7 (l6 t9 d0 (d4 (B6 rfl) (by rfl) T.min F6 (b7 d0 (b7 (d4 l7 (by rfl) T.len AF (b7 (pv 0) b8)) b8)))) b8)) (i7 (i:=1) scLaw.nd rfl (Or.inl rfl))
   (c9 (j8 (i:=2) scLaw.nd rfl (Or.inl rfl) (j9 CT hr1 (by rfl) (b7 (pv 0) (b7 (pv 1) b8))))
   (c9 (Bk (j9 CC hr4 (by rfl) (b7 (pv 2) (b7 Ep b8))) (BP rfl (l9 (i7 (i:=3) scLaw.nd rfl (Or.inl rfl)) (l9 (i7 (i:=4) scLaw.nd rfl (Or.inl rfl)) w6))))
   (c9 (j8 (i:=5) scLaw.nd rfl (Or.inl rfl) (x0 Ba (by rfl) T.list AJ (b7 (pv 4) b8)))
   (@c9 _ _ _ _ _ (j8 (i:=6) scLaw.nd rfl (Or.inl rfl) (j5 u5 (t5 (b7 d0 (b7 d0 (b7 (l6 t9 (j9 CMo hr2 (by rfl) (b7 (pv 3) b8)) (j9 CTh hr1 (by rfl) (b7 (pv 3) b8))) (b7 d0 (b7 d0 b8)))))) (j9 CD hr1 (by rfl) (b7 (pv 2) (b7 d0 b8))) (fun _ _=>rfl)))
   (g9 (AH PassesOwn.never rfl (Bl (by rfl) T.range (b7 (IP GI d0) (b7 (l6 t9 (d4 l7 (by rfl) T.len AF (b7 (j5 m8 (pv 3) d0 (fun _ _=>rfl)) b8)) d0) b8))) (i7 (i:=7) scLaw.nd rfl (Or.inl rfl))
     (c9 (j8 (i:=8) scLaw.nd rfl (Or.inl rfl) (t5 (b7 (IP GI d0) (b7 (j5 m8 (pv 3) d0 (fun _ _=>rfl)) (b7 d0 b8)))))
     (c9 (As (tTo (SPl a H) (SPl a H)) (n6 (Dn Eu CL d0 (pv 7) (d4 l7 (by rfl) T.len AF (b7 (j5 m8 (pv 3) d0 (fun _ _=>rfl)) b8)))
       (g9 (j8 (i:=8) scLaw.nd rfl (Or.inl rfl) (l6 Aq (l6 Aq (t5 (b7 (j5 m8 (pv 3) d0 (fun _ _=>rfl)) b8)) (x0 Ba (by rfl) T.list AJ (b7 (j5 m8 (j5 m8 (pv 3) d0 (fun _ _=>rfl)) (pv 7) (fun _ _=>rfl)) b8))) (t5 (b7 (j9 CD hr1 (by rfl) (b7 (pv 2) (b7 (j5 m8 (pv 3) d0 (fun _ _=>rfl)) b8))) b8))))) i8) ?via)
     (g9 (AH PassesOwn.never rfl (An (pv 8)) (i7 (i:=9) scLaw.nd rfl (Or.inl rfl))
       (c9 (j8 (i:=10) scLaw.nd rfl (Or.inl rfl) (j9 CU hr3 (by rfl) (b7 (pv 3) (b7 (pv 4) (b7 (pv 7) (b7 (pv 9) (b7 (pv 6) b8)))))))
       (c9 (j8 (i:=11) scLaw.nd rfl (Or.inl rfl) (j9 CTo hr (by rfl) (b7 (pv 3) (b7 (pv 4) (b7 (pv 7) (b7 (pv 9) (b7 (pv 6) b8)))))))
       (g9 (n6 (C5 (CK (u9 (j9 CS hr3 (by rfl) (b7 (pv 11) (b7 (pv 10) b8))))) (Az (j7 (EU hu) (pv 4) (pv 5) (m7 _)))).pt u4 i8)))))))))))))))
   (g9 (l8 Ep)),?_⟩
  case via=>
   rintro D σ Hx ⟨⟨v1,t,wb,l,Kp,m,hh,tie,es,row,Pl,ps,o9,o10,o11,rfl,Fx0,hPl,h10⟩,kn⟩
   obtain ⟨ta,ts,hw,ht,htl,he,hbd,h61,hm0,hm12⟩:=id Fx0.W
   have no:D.nx [some (.ref a),some v1,some (.ref t),some (.ref wb),some (.ref l),some (.ref Kp),some (.int hh),some (.int tie),some (.ref Pl),o9,o10,o11] Hx:=kn _ _ ⟨v1,t,wb,l,Kp,m,hh,tie,es,row,Pl,ps,o9,o10,o11,rfl,Fx0,hPl,h10⟩
   refine ⟨_,rfl,_,_,rfl,rfl,_,rfl,x8 (fun z=>?_) (fun z=>?_)⟩
   ·have z':0≤tie:=by simpa using z
    refine ⟨_,rfl,wb,_,_,_,rfl,rfl,SqT.of hw,(rfl:atI [V.int m,V.ref ta] 1=some (.ref ta)),ta,ts,rfl,.inr (SqT.of ht),_,_,rfl,rfl,_,rfl,?_⟩
    by_cases u:tie<(ts.length:Int)
    ·rw [decide_eq_true u]
     refine AZ ?_
     have hk:tie.toNat<ts.length:=by omega
     have et:ts[tie.toNat]?=some (ts[tie.toNat]'hk):=by simp
     obtain ⟨qv,e,ev,ee,hq⟩:=he _ _ et
     rw [ev] at et
     have at':atI ts tie=some (.ref qv):=by
      have:=p7 et
      rwa [Int.toNat_of_nonneg z'] at this
     have hbe:=hbd e (List.mem_of_getElem? ee)
     refine ⟨_,rfl,wb,_,_,_,rfl,rfl,SqT.of hw,(rfl:atI [V.int m,V.ref ta] 0=some (.int m)),by show 1≤sizeLine;decide,fun p1 hp1=>?_⟩
     have s1:Same Hx (upd Hx p1 (.lst [.int m])):=h7 (Same.refl _) hp1
     have g1:(upd Hx p1 (.lst [.int m])) p1=some (.lst [.int m]):=b9
     have p1t:p1≠t:=Fx0.T.ne hp1
     generalize (upd Hx p1 (.lst [.int m]))=H1 at s1 g1
     refine ⟨_,rfl,wb,_,_,_,rfl,rfl,SqT.of (s1 _ _ hw),(rfl:atI [V.int m,V.ref ta] 1=some (.ref ta)),_,rfl,ta,ts,_,_,rfl,rfl,SqT.of (s1 _ _ ht),at',qv,_,rfl,.inr (SqT.of (s1 _ _ hq)),fun p2 hp2=>?_⟩
     refine ⟨p1,p2,_,_,rfl,rfl,j3 g1 hp2,b9,by show 3≤sizeLine;decide,fun p3 hp3=>?_⟩
     have s3:Same Hx (upd (upd H1 p2 (.lst [.int e.1,.int e.2])) p3 (.lst ([.int m]++[.int e.1,.int e.2]))):=h7 (h7 s1 hp2) hp3
     have g3:(upd (upd H1 p2 (.lst [.int e.1,.int e.2])) p3 (.lst ([.int m]++[.int e.1,.int e.2]))) p3=some (.lst ([.int m]++[.int e.1,.int e.2])):=b9
     have p3t:p3≠t:=(Fx0.T.same (h7 (o := .lst [.int e.1,.int e.2]) s1 hp2)).ne hp3
     generalize (upd (upd H1 p2 (.lst [.int e.1,.int e.2])) p3 (.lst ([.int m]++[.int e.1,.int e.2])))=H3 at s3 g3
     refine ⟨_,rfl,_,rfl,wb,_,_,_,rfl,rfl,SqT.of (s3 _ _ hw),(rfl:atI [V.int m,V.ref ta] 0=some (.int m)),t,m,rfl,Fx0.T.same s3,by omega,by omega,fun r H4 r0 r1 T4 x4=>⟨by show 1≤sizeLine;decide,fun p4 hp4=>?_⟩⟩
     refine ⟨p3,p4,_,_,rfl,rfl,j3 (x4 _ _ p3t g3) hp4,b9,by show 4≤sizeLine;decide,fun p5 hp5=>?_⟩
     have F4:=(Fx0.same s3).ext x4 T4
     exact kn _ _ ⟨v1,t,wb,l,Kp,m,hh,tie,es,row,p5,[m,e.1,e.2,r],o9,o10,o11,rfl,F4.same (h7 (h7 (Same.refl _) hp4) hp5),b9,by show 4≤10;decide⟩
    ·rw [decide_eq_false u]
     exact z0 no
   ·exact ⟨_,rfl,z0 no⟩
  refine ⟨_,rfl,a,_,rfl,.inl hS,9,_,rfl,_,_,rfl,rfl,_,rfl,by split<;>omega,by split<;>omega,y9 (lo:=0) (fun i σ H2=>∃ o1 o2 o3 o4 o5 o6 o7 o8 o9 o10 o11:Option V,σ=[some (.ref a),o1,o2,o3,o4,o5,o6,o7,o8,o9,o10,o11]∧Same H H2)
   ⟨none,none,none,none,none,none,none,none,none,none,none,rfl,Same.refl _⟩ ?_ ?_⟩
  ·rintro i σ H2 hi ⟨o1,o2,o3,o4,o5,o6,o7,o8,o9,o10,o11,rfl,s2⟩
   refine ⟨_,rfl,_,rfl,a,ns,0+(i:Int),rfl,s2.seq hS,by omega,hlen,fun t H3 ht T3 s3=>?_⟩
   refine ⟨_,rfl,t,true,rfl,T3,fun r wb l m es row H4 hr4' W4 R4 P4 nl lt T4 x4=>?_⟩
   refine ⟨r,_,rfl,SqT.of hr4',rfl,_,_,rfl,_,_,rfl,rfl,?_⟩
   refine ⟨_,rfl,l,_,rfl,.inl (SqL.of R4.1),fun Kp hKp=>?_⟩
   have nt:H t=none:=s2.free ht
   have F5:∀ hh,0≤hh→hh≤600→Fx H (upd H4 Kp (.lst row)) t wb l Kp m es row hh:=fun hh h0 h6=>
    ⟨HM s2 ht s3 (x4.new hKp),nt,T4.new hKp,W4.mono (KeepT.new hKp),R4.same (h7 (Same.refl _) hKp),lt,b9,T4.ne hKp,h0,h6⟩
   generalize (upd H4 Kp (.lst row))=H5 at F5
   have F50:=F5 2 (by decide) (by decide)
   refine ⟨_,rfl,wb,m,es,rfl,F50.W,fun c1 H6 s6 c10 c11=>?_⟩
   refine ⟨_,rfl,wb,m,es,rfl,F50.W.mono (y8 s6),fun c2 H7 s7 c20 c21=>⟨_,_,rfl,rfl,by show 5≤sizeLine;decide,fun L8 hL8=>?_⟩⟩
   have s8:Same H5 (upd H7 L8 (.lst [.int 2,.int 4,.int (c1+c2),.int 60,.int 200])):=h7 (s6.trans s7) hL8
   have g8:(upd H7 L8 (.lst [.int 2,.int 4,.int (c1+c2),.int 60,.int 200])) L8=some (.lst (([2,4,c1+c2,60,200]:List Int).map V.int)):=b9
   have hall:∀ h∈([2,4,c1+c2,60,200]:List Int),0≤h∧h≤600:=fun h hh=>by
    simp only [List.mem_cons,List.not_mem_nil,or_false] at hh
    omega
   have len5:([2,4,c1+c2,60,200]:List Int).length=5:=rfl
   have L8t:L8≠t:=(F50.T.same (s6.trans s7)).ne hL8
   generalize (upd H7 L8 (.lst [.int 2,.int 4,.int (c1+c2),.int 60,.int 200]))=H8 at s8 g8
   generalize ([2,4,c1+c2,60,200]:List Int)=hs at g8 hall len5
   refine ⟨_,rfl,t,5,rfl,F50.T.same s8,by decide,by decide,fun j H9 j0 j1 T9 x9=>?_⟩
   have hj:j.toNat<hs.length:=by omega
   have aj:atI (hs.map V.int) j=some (.int (hs[j.toNat]'hj)):=by
    have:=p7 (xs:=hs.map V.int) (j:=j.toNat) (v := .int (hs[j.toNat]'hj)) (by rw [List.getElem?_map,List.getElem?_eq_getElem hj];rfl)
    rwa [Int.toNat_of_nonneg j0] at this
   obtain ⟨b0,b6⟩:=hall _ (List.getElem_mem hj)
   generalize hs[j.toNat]'hj=hh at aj b0 b6
   refine ⟨L8,_,_,_,rfl,rfl,SqL.of (x9 _ _ L8t g8),aj,?_⟩
   have F9:=((F5 hh b0 b6).same s8).ext x9 T9
   obtain ⟨ta,ts,hw,ht',htl,he,hbd,h61,hm0,hm12⟩:=id F9.W
   refine ⟨1,rfl,_,rfl,wb,_,_,_,rfl,rfl,SqT.of hw,(rfl:atI [V.int m,V.ref ta] 1=some (.ref ta)),ta,ts,rfl,.inr (SqT.of ht'),_,_,rfl,rfl,-1,_,rfl,⟨by decide,by decide,by omega,by omega⟩,y9 (lo := -1) (fun j σ HA=>STi a H σ HA) ⟨_,t,wb,l,Kp,m,hh,es,row,o7,o8,o9,o10,o11,rfl,F9⟩ ?_ ?_⟩
   ·rintro j σ HA hj ⟨v1,t,wb,l,Kp,m,hh,es,row,o7,o8,o9,o10,o11,rfl,FA⟩
    obtain ⟨ta,ts,hw,ht',_⟩:=id FA.W
    refine ⟨1,rfl,_,rfl,wb,_,_,_,rfl,rfl,SqT.of hw,(rfl:atI [V.int m,V.ref ta] 0=some (.int m)),by show 3≤sizeLine;decide,fun Pl hPl=>?_⟩
    refine ⟨⟨v1,t,wb,l,Kp,m,hh,_,es,row,Pl,[-1,m,0],_,_,_,rfl,FA.same (h7 (Same.refl _) hPl),b9,by show 3≤10;decide⟩,?_⟩
    rintro σ' HB ⟨v1,t,wb,l,Kp,m,hh,tie,es,row,Pl,ps,o9,o10,o11,rfl,FB,hPl',h10⟩
    have h61:es.length≤61:=by obtain ⟨_,_,_,_,_,_,_,z,_⟩:=FB.W;exact z
    refine ⟨_,rfl,Pl,rfl,⟨_,SqL.of hPl'⟩,BY (K:=K) (a:=Pl) (xs:=ps.map V.int) (fun n σ HC=>∃ o9 o10 o11:Option V,σ=[some (.ref a),some v1,some (.ref t),some (.ref wb),some (.ref l),some (.ref Kp),some (.int hh),some (.int tie),some (.ref Pl),o9,o10,o11]∧Same HB HC) ⟨_,_,_,rfl,Same.refl _⟩ (fun n σ HC _ h=>by obtain ⟨_,_,_,_,sC⟩:=h;exact SqL.of (sC _ _ hPl')) ?_ ?_⟩
    ·rintro n x σ HC hx ⟨o9',o10',o11',rfl,sC⟩
     obtain ⟨p,_,rfl⟩:∃ p,ps[n]?=some p∧V.int p=x:=by
      rw [List.getElem?_map] at hx
      cases e:ps[n]? with
      | none=>rw [e] at hx;cases hx
      | some c=>rw [e] at hx;exact ⟨c,rfl,by simpa using hx⟩
     have FC:=FB.same sC
     refine ⟨_,rfl,_,rfl,_,rfl,_,rfl,_,rfl,wb,l,m,es,row,tie,p,hh,rfl,FC.W,FC.R,FC.h0,FC.h6,fun v HD sD rv=>?_⟩
     have FD:=FC.same sD
     refine ⟨_,rfl,_,rfl,_,rfl,_,rfl,_,rfl,wb,l,m,es,row,tie,p,hh,rfl,FD.W,FD.R,FD.h0,FD.h6,fun u HE sE ru=>?_⟩
     have FE:=FD.same sE
     refine ⟨_,rfl,_,rfl,u,v,rfl,JV h61 ru (rv.same sE),fun HF' sF=>⟨_,rfl,z0 ?_⟩⟩
     have FF:=FE.same sF
     refine ⟨_,rfl,_,rfl,l,Kp,_,_,rfl,rfl,SqL.of FF.R.1,SqL.of FF.k,.inl ⟨Bv FF.R.2.2,Bv FF.R.2.2⟩,_,rfl,?_⟩
     show if (!AS row row)=true then _ else _
     rw [HN FF.R.2.2]
     exact z0 ⟨_,_,_,rfl,((sC.trans sD).trans sE).trans sF⟩
    ·rintro σ HC ⟨o9',o10',o11',rfl,sC⟩
     exact ⟨v1,t,wb,l,Kp,m,hh,es,row,_,_,_,_,_,rfl,FB.same sC⟩
   ·rintro σ HA ⟨v1,t,wb,l,Kp,m,hh,es,row,o7,o8,o9,o10,o11,rfl,FA⟩
    exact ⟨_,_,_,_,_,_,_,_,_,_,_,rfl,FA.s⟩
  ·rintro σ H2 ⟨o1,o2,o3,o4,o5,o6,o7,o8,o9,o10,o11,rfl,s2⟩
   exact k H2
end
end Hue
namespace PySem.W.Fast
theorem tw17487792772381945604:True:=⟨⟩
theorem tw4101636691329769421:True:=⟨⟩
theorem tw10850288765845953514:True:=⟨⟩
theorem tw12342105499595653881:True:=⟨⟩
theorem tw258825659698146385:True:=⟨⟩
theorem tw501888837748887969:True:=⟨⟩
theorem tw13126020461205053198:True:=⟨⟩
theorem tw5222959461303006964:True:=⟨⟩
theorem tw12006365562536417392:True:=⟨⟩
theorem tw17833902840058891221:True:=⟨⟩
theorem tw17265264296137674381:True:=⟨⟩
theorem tw4603321243092004914:True:=⟨⟩
theorem tw5474955704180207159:True:=⟨⟩
theorem tw12534521325602627444:True:=⟨⟩
theorem tw15346042981554160874:True:=⟨⟩
theorem tw623932801370491952:True:=⟨⟩
theorem tw6561899557001845116:True:=⟨⟩
theorem tw3335243009469423142:True:=⟨⟩
theorem tw17474819960828903494:True:=⟨⟩
theorem tw18408572921670122910:True:=⟨⟩
theorem tw17561834929452082732:True:=⟨⟩
theorem tw13370385108780736396:True:=⟨⟩
theorem tw13798652790066258766:True:=⟨⟩
theorem tw3336143201419372397:True:=⟨⟩
theorem tw7156223761912499911:True:=⟨⟩
theorem tw6748222586558995909:True:=⟨⟩
theorem tw14027044076810632760:True:=⟨⟩
theorem tw1426356770680742937:True:=⟨⟩
theorem tw8735669214372337796:True:=⟨⟩
theorem tw9165224541816042250:True:=⟨⟩
theorem tw570039364199194411:True:=⟨⟩
theorem tw316919974567847553:True:=⟨⟩
theorem tw12776820595870791589:True:=⟨⟩
theorem tw11275327566671752573:True:=⟨⟩
theorem tw3168342911180634953:True:=⟨⟩
theorem tw17297992222216370068:True:=⟨⟩
theorem tw7004652441908176436:True:=⟨⟩
theorem tw3743918543429723381:True:=⟨⟩
theorem tw3475568260669033714:True:=⟨⟩
theorem tw2921296003712424737:True:=⟨⟩
theorem tw13983777109773496181:True:=⟨⟩
theorem tw10840561433216387437:True:=⟨⟩
theorem tw6869126666221498441:True:=⟨⟩
theorem tw3654337949102693385:True:=⟨⟩
theorem tw17358123072580511577:True:=⟨⟩
theorem tw18297475104403843148:True:=⟨⟩
theorem tw12632661213883476234:True:=⟨⟩
theorem tw8626118266692339374:True:=⟨⟩
theorem tw13870334265551424980:True:=⟨⟩
theorem tw3613783729601151415:True:=⟨⟩
theorem tw17717484506061405155:True:=⟨⟩
theorem tw13010860300740364206:True:=⟨⟩
theorem tw6781648181882605102:True:=⟨⟩
theorem tw5233896223696515275:True:=⟨⟩
theorem tw7816839217013790517:True:=⟨⟩
theorem tw4261289260279709779:True:=⟨⟩
theorem tw4294219726493472861:True:=⟨⟩
theorem tw12635398795705634113:True:=⟨⟩
theorem tw3504064534910903604:True:=⟨⟩
theorem tw13144807573312784986:True:=⟨⟩
theorem tw12127363774660742265:True:=⟨⟩
theorem tw6482212012715558732:True:=⟨⟩
theorem tw325457559822201644:True:=⟨⟩
theorem tw11075273557694584935:True:=⟨⟩
theorem tw12311610928944730248:True:=⟨⟩
theorem tw7820875311881164507:True:=⟨⟩
theorem tw3346995143115460420:True:=⟨⟩
theorem tw17343777498115957054:True:=⟨⟩
theorem tw7867044284026867649:True:=⟨⟩
theorem tw15107536478949344898:True:=⟨⟩
theorem tw13817555958655357421:True:=⟨⟩
theorem tw5557539661839581353:True:=⟨⟩
theorem tw7824829646678385604:True:=⟨⟩
theorem tw11646899523338752070:True:=⟨⟩
theorem tw13604936835547030282:True:=⟨⟩
theorem tw4569237813847293836:True:=⟨⟩
theorem tw8268965368551821902:True:=⟨⟩
theorem tw1909423276876579157:True:=⟨⟩
theorem tw13232139521547563915:True:=⟨⟩
theorem tw3657696976572776748:True:=⟨⟩
theorem tw10320605626324473148:True:=⟨⟩
theorem tw16750363279574891902:True:=⟨⟩
theorem tw12665770658884180427:True:=⟨⟩
theorem tw6880793817158713247:True:=⟨⟩
theorem tw6662653447864497237:True:=⟨⟩
theorem tw16756897887135051468:True:=⟨⟩
theorem tw6241297941116632979:True:=⟨⟩
theorem tw5562464079926575642:True:=⟨⟩
theorem tw12128176525539369762:True:=⟨⟩
theorem tw15020152823341371431:True:=⟨⟩
theorem tw7402617169308993628:True:=⟨⟩
theorem tw13707876059784670500:True:=⟨⟩
theorem tw18315673984716665367:True:=⟨⟩
theorem tw12440322389086637785:True:=⟨⟩
theorem tw8141435320769685975:True:=⟨⟩
theorem tw11295987109624852209:True:=⟨⟩
theorem tw1887772243002489947:True:=⟨⟩
theorem tw15382600631863230863:True:=⟨⟩
theorem tw570790166856482901:True:=⟨⟩
theorem tw4217338354159975590:True:=⟨⟩
theorem tw1104725241684865473:True:=⟨⟩
theorem tw13683044701063411092:True:=⟨⟩
theorem tw5046683737456838136:True:=⟨⟩
theorem tw718344556305018396:True:=⟨⟩
theorem tw16160328397722539454:True:=⟨⟩
theorem tw13627782698885637016:True:=⟨⟩
theorem tw4793980953674081215:True:=⟨⟩
theorem tw12842853636415223485:True:=⟨⟩
theorem tw3244489671399758330:True:=⟨⟩
theorem tw12232767300982671554:True:=⟨⟩
theorem tw1254763283172898934:True:=⟨⟩
theorem tw2034415653781603219:True:=⟨⟩
theorem tw16396773806193932994:True:=⟨⟩
theorem tw11946214653658871468:True:=⟨⟩
theorem tw5007210012722181691:True:=⟨⟩
theorem tw4235860899047888725:True:=⟨⟩
theorem tw15116672188359026567:True:=⟨⟩
theorem tw476618918034144436:True:=⟨⟩
theorem tw1114255958008343192:True:=⟨⟩
theorem tw7294288502993095998:True:=⟨⟩
theorem tw1736496657322891442:True:=⟨⟩
theorem tw5893033029332250481:True:=⟨⟩
theorem tw1952903051358022642:True:=⟨⟩
theorem tw3084551277333609489:True:=⟨⟩
theorem tw16769194848286888834:True:=⟨⟩
theorem tw12633929250652691922:True:=⟨⟩
theorem tw1199066281216002620:True:=⟨⟩
theorem tw338757560897135373:True:=⟨⟩
theorem tw3479615696609904754:True:=⟨⟩
theorem tw18156812272243166676:True:=⟨⟩
theorem tw17868683321426262370:True:=⟨⟩
theorem tw10215023285579114593:True:=⟨⟩
theorem tw14751845433081171468:True:=⟨⟩
theorem tw3057516072551829341:True:=⟨⟩
theorem tw12605696687767126110:True:=⟨⟩
theorem tw1867467722918621343:True:=⟨⟩
theorem tw1706896521211079087:True:=⟨⟩
theorem tw17511767591735790163:True:=⟨⟩
theorem tw7956788433933633160:True:=⟨⟩
theorem tw1169146481838004051:True:=⟨⟩
theorem tw8539548620362713916:True:=⟨⟩
theorem tw3203270073458826641:True:=⟨⟩
theorem tw14283557313205526470:True:=⟨⟩
theorem tw6569530527459967564:True:=⟨⟩
theorem tw4367672705360920143:True:=⟨⟩
theorem tw9288534325814961915:True:=⟨⟩
theorem tw9612034101349724716:True:=⟨⟩
theorem tw8200835479237825004:True:=⟨⟩
theorem tw16291619480532512005:True:=⟨⟩
theorem tw4474809725576292755:True:=⟨⟩
theorem tw12397406406066673783:True:=⟨⟩
theorem tw6714644318859277014:True:=⟨⟩
theorem tw14386225106275510541:True:=⟨⟩
theorem tw9920882342057575765:True:=⟨⟩
theorem tw3102661780198332324:True:=⟨⟩
theorem tw13391345197934439545:True:=⟨⟩
theorem tw12998869764467969971:True:=⟨⟩
theorem tw97876467867804317:True:=⟨⟩
theorem tw11886043174987133527:True:=⟨⟩
theorem tw648764039986640389:True:=⟨⟩
theorem tw6586607363772105311:True:=⟨⟩
theorem tw15954303778065785318:True:=⟨⟩
theorem tw11781419338069228954:True:=⟨⟩
theorem tw11846500863978656231:True:=⟨⟩
theorem tw10360149538262592683:True:=⟨⟩
theorem tw6264582314405289277:True:=⟨⟩
theorem tw15712662420553723909:True:=⟨⟩
theorem tw7749590053239647867:True:=⟨⟩
theorem tw6070350340051750173:True:=⟨⟩
theorem tw7869423481991205015:True:=⟨⟩
theorem tw2974329994284888032:True:=⟨⟩
theorem tw12565468871801336901:True:=⟨⟩
theorem tw9979189867333585952:True:=⟨⟩
theorem tw7609297419527785061:True:=⟨⟩
theorem tw5931471105965005231:True:=⟨⟩
theorem tw17683718203305216663:True:=⟨⟩
theorem tw8131227949746191287:True:=⟨⟩
theorem tw3616553076772034908:True:=⟨⟩
theorem tw5169456737355890701:True:=⟨⟩
theorem tw15904535402042549524:True:=⟨⟩
theorem tw3648031482558125733:True:=⟨⟩
theorem tw13844063066816660465:True:=⟨⟩
theorem tw5277232417592614782:True:=⟨⟩
theorem tw10161688979080005465:True:=⟨⟩
theorem tw17925710253934617343:True:=⟨⟩
theorem tw16563830089217726248:True:=⟨⟩
theorem tw8893375180749437560:True:=⟨⟩
theorem tw1873197725454659027:True:=⟨⟩
theorem tw5140421857313673700:True:=⟨⟩
theorem tw7021471316287841458:True:=⟨⟩
theorem tw13496200155264598371:True:=⟨⟩
theorem tw17232347977680405384:True:=⟨⟩
theorem tw9601553234913535189:True:=⟨⟩
theorem tw9519910621905805688:True:=⟨⟩
theorem tw11917624686881417906:True:=⟨⟩
theorem tw17794135447714192727:True:=⟨⟩
theorem tw16985253761132579703:True:=⟨⟩
theorem tw6513320482651317492:True:=⟨⟩
theorem tw11932391433075906113:True:=⟨⟩
theorem tw9084924450334994331:True:=⟨⟩
theorem tw8724234302477101137:True:=⟨⟩
theorem tw10616000535996277897:True:=⟨⟩
theorem tw8754276192255029719:True:=⟨⟩
theorem tw18152354409087541173:True:=⟨⟩
theorem tw9065553425576858863:True:=⟨⟩
theorem tw8391045138928174026:True:=⟨⟩
theorem tw999713327923974925:True:=⟨⟩
theorem tw8436449274550396606:True:=⟨⟩
theorem tw2434593552641859029:True:=⟨⟩
theorem tw10996008568011867911:True:=⟨⟩
theorem tw17012708041991977197:True:=⟨⟩
theorem tw14929516434879864390:True:=⟨⟩
theorem tw3354068129235305008:True:=⟨⟩
theorem tw16011007195587189372:True:=⟨⟩
theorem tw9723451924946835433:True:=⟨⟩
theorem tw6415792211017154781:True:=⟨⟩
theorem tw7451922164970089965:True:=⟨⟩
theorem tw2167506959673856286:True:=⟨⟩
theorem tw13730322635298631069:True:=⟨⟩
theorem tw11183621790403974161:True:=⟨⟩
theorem tw13344456099596570739:True:=⟨⟩
theorem tw8065020391837716282:True:=⟨⟩
theorem tw9533477866135328686:True:=⟨⟩
theorem tw15928781975752744427:True:=⟨⟩
theorem tw14397690666362595186:True:=⟨⟩
theorem tw4016327318492624393:True:=⟨⟩
theorem tw15742331645193087821:True:=⟨⟩
theorem tw12849616997849327506:True:=⟨⟩
theorem tw10303283312257869646:True:=⟨⟩
theorem tw41805986580437106:True:=⟨⟩
theorem tw16379428447607914309:True:=⟨⟩
theorem tw17804928936101057476:True:=⟨⟩
theorem tw15271419645447987311:True:=⟨⟩
theorem tw10614333477132699021:True:=⟨⟩
theorem tw4571013925324910156:True:=⟨⟩
theorem tw5037861326328149470:True:=⟨⟩
theorem tw5618164584185396512:True:=⟨⟩
theorem tw12377613290801463889:True:=⟨⟩
theorem tw18981511653624592:True:=⟨⟩
theorem tw849808838340814567:True:=⟨⟩
theorem tw7724213140898584221:True:=⟨⟩
theorem tw9960473241144471176:True:=⟨⟩
theorem tw12354819027419231063:True:=⟨⟩
theorem tw5822105834749784426:True:=⟨⟩
theorem tw9588573045114062849:True:=⟨⟩
theorem tw697876341438750121:True:=⟨⟩
theorem tw14500816088126915102:True:=⟨⟩
theorem tw2819829556440819768:True:=⟨⟩
theorem tw9890953690429697451:True:=⟨⟩
theorem tw11244307925826639617:True:=⟨⟩
theorem tw16131236636601226815:True:=⟨⟩
theorem tw1207210342635785958:True:=⟨⟩
theorem tw5193490048156174779:True:=⟨⟩
theorem tw6792880242922045716:True:=⟨⟩
theorem tw8879546519234930141:True:=⟨⟩
theorem tw11704587562510502609:True:=⟨⟩
theorem tw4594020223844867334:True:=⟨⟩
theorem tw10969876282278633275:True:=⟨⟩
theorem tw2006216498554615319:True:=⟨⟩
theorem tw8165398954712342559:True:=⟨⟩
theorem tw12240807361864076612:True:=⟨⟩
theorem tw17180548395405278843:True:=⟨⟩
theorem tw7532581278074843000:True:=⟨⟩
theorem tw15796894797917317644:True:=⟨⟩
theorem tw11025183944216410419:True:=⟨⟩
theorem tw5104681031928950839:True:=⟨⟩
theorem tw3087029171642348520:True:=⟨⟩
theorem tw16356976936898148104:True:=⟨⟩
theorem tw3151521874302379860:True:=⟨⟩
theorem tw4983131331139910737:True:=⟨⟩
theorem tw117988174402709046:True:=⟨⟩
theorem tw14574481415522849946:True:=⟨⟩
theorem tw10716030255726288024:True:=⟨⟩
theorem tw10114503153360133583:True:=⟨⟩
theorem tw10624708058950917973:True:=⟨⟩
theorem tw14251665776255291749:True:=⟨⟩
theorem tw3948659566681887111:True:=⟨⟩
theorem tw12642670741014921366:True:=⟨⟩
theorem tw9029043806942515611:True:=⟨⟩
theorem tw6039464813646830551:True:=⟨⟩
theorem tw9399284408832381186:True:=⟨⟩
theorem tw1367470545986160444:True:=⟨⟩
theorem tw743249469495437377:True:=⟨⟩
theorem tw11566229574676376136:True:=⟨⟩
theorem tw10698371461326674298:True:=⟨⟩
theorem tw12963577257691277324:True:=⟨⟩
theorem tw8843384841431872385:True:=⟨⟩
theorem tw1598638334746932705:True:=⟨⟩
theorem tw14258625239204548706:True:=⟨⟩
theorem tw12240898237447756997:True:=⟨⟩
theorem tw16535802949521727587:True:=⟨⟩
theorem tw5798721187357571698:True:=⟨⟩
theorem tw3926281151825149453:True:=⟨⟩
theorem tw11588895392486017752:True:=⟨⟩
theorem tw1496000126454001138:True:=⟨⟩
theorem tw7972418772253791954:True:=⟨⟩
theorem tw2289339397219901848:True:=⟨⟩
theorem tw1870481074959361119:True:=⟨⟩
theorem tw2923632091812490204:True:=⟨⟩
theorem tw10373579910314198517:True:=⟨⟩
theorem tw12814554083778259493:True:=⟨⟩
theorem tw1188275630326954266:True:=⟨⟩
theorem tw16021281801200636209:True:=⟨⟩
theorem tw6153154912761409762:True:=⟨⟩
theorem tw2632685893763849938:True:=⟨⟩
theorem tw5937323639246574846:True:=⟨⟩
theorem tw8854334731633008739:True:=⟨⟩
theorem tw8265980362050848972:True:=⟨⟩
theorem tw48239438757282643:True:=⟨⟩
theorem tw16033054287401046762:True:=⟨⟩
theorem tw8350902217487139741:True:=⟨⟩
theorem tw18303784220659873522:True:=⟨⟩
theorem tw17355643789475507033:True:=⟨⟩
theorem tw3867248432987527507:True:=⟨⟩
theorem tw14053501934724861717:True:=⟨⟩
theorem tw8800332224928453817:True:=⟨⟩
theorem tw17807711170275202968:True:=⟨⟩
theorem tw9466981036182655920:True:=⟨⟩
theorem tw11830610302761633039:True:=⟨⟩
theorem tw16438963236194697273:True:=⟨⟩
theorem tw745246013167099931:True:=⟨⟩
theorem tw9570051821198726560:True:=⟨⟩
theorem tw16382775534769687300:True:=⟨⟩
theorem tw13249362291786407644:True:=⟨⟩
theorem tw4152013203350290994:True:=⟨⟩
theorem tw13143942249511998922:True:=⟨⟩
theorem tw16135670969837606226:True:=⟨⟩
theorem tw8459871838527025155:True:=⟨⟩
theorem tw3289426044670991478:True:=⟨⟩
theorem tw16336567923600001500:True:=⟨⟩
theorem tw15384231195550773144:True:=⟨⟩
theorem tw11862393143992790605:True:=⟨⟩
theorem tw1616679809161088164:True:=⟨⟩
theorem tw17959871708144707776:True:=⟨⟩
theorem tw7569794419242918592:True:=⟨⟩
theorem tw16459728348909549518:True:=⟨⟩
theorem tw17794457466498129954:True:=⟨⟩
theorem tw17547595339063512579:True:=⟨⟩
theorem tw14338736989243877682:True:=⟨⟩
end PySem.W.Fast
namespace Hue
open PySem L2
theorem all_mk {l:PySem.W.OpenLaw} {w:World} {K:PySem.W.Frag} {h:Heap} {mg:Str→Option Value} {fa f12 f14 f15 f16 f17 f18 f19 f21 f22 f24 f25 f27 f28 f29 f30 f31 f32 f33 f34 f35 f36 f37 f38 f39 f40 f41 f42 f43 f44:Addr} (X:K.In h) (G:h.Ns mainGlobals mg) (hfa:mg "law"=some (.ref fa))
 {od12 an12 od14 an14 od15 an15 od16 an16 od17 an17 od18 an18 od19 an19 od21 an21 od22 an22 od24 an24 od25 an25 od27 an27 od28 an28 od29 an29 od30 an30 od31 an31 od32 an32 od33 an33 od34 an34 od35 an35 od36 an36 od37 an37 od38 an38 od39 an39 od40 an40 od41 an41 od42 an42 od43 an43 od44 an44:Option Addr} {sl12 sl14 sl15 sl16 sl17 sl18 sl19 sl21 sl22 sl24 sl25 sl27 sl28 sl29 sl30 sl31 sl32 sl33 sl34 sl35 sl36 sl37 sl38 sl39 sl40 sl41 sl42 sl43 sl44:Array (Option Value)}
 {oc12 kV12 dc12 pm12 cd12 ct12 oc14 kV14 dc14 pm14 cd14 ct14 oc15 kV15 dc15 pm15 cd15 ct15 oc16 kV16 dc16 pm16 cd16 ct16 oc17 kV17 dc17 pm17 cd17 ct17 oc18 kV18 dc18 pm18 cd18 ct18 oc19 kV19 dc19 pm19 cd19 ct19 oc21 kV21 dc21 pm21 cd21 ct21 oc22 kV22 dc22 pm22 cd22 ct22 oc24 kV24 dc24 pm24 cd24 ct24 oc25 kV25 dc25 pm25 cd25 ct25 oc27 kV27 dc27 pm27 cd27 ct27 oc28 kV28 dc28 pm28 cd28 ct28 oc29 kV29 dc29 pm29 cd29 ct29 oc30 kV30 dc30 pm30 cd30 ct30 oc31 kV31 dc31 pm31 cd31 ct31 oc32 kV32 dc32 pm32 cd32 ct32 oc33 kV33 dc33 pm33 cd33 ct33 oc34 kV34 dc34 pm34 cd34 ct34 oc35 kV35 dc35 pm35 cd35 ct35 oc36 kV36 dc36 pm36 cd36 ct36 oc37 kV37 dc37 pm37 cd37 ct37 oc38 kV38 dc38 pm38 cd38 ct38 oc39 kV39 dc39 pm39 cd39 ct39 oc40 kV40 dc40 pm40 cd40 ct40 oc41 kV41 dc41 pm41 cd41 ct41 oc42 kV42 dc42 pm42 cd42 ct42 oc43 kV43 dc43 pm43 cd43 ct43 oc44 kV44 dc44 pm44 cd44 ct44:Value}
 (a12:PySem.W.nsIn K mainGlobals "is_number"=some (some (.ref f12))) (l12:K.lookup f12=some ⟨oc12,od12,.func (PySem.W.fnOf "is_number" "is_number" (defArgs Fz) (defBody Fz) (defScope Fz) .none kV12 dc12 pm12 an12 cd12 ct12),sl12⟩) (c12:PySem.W.codeIn K cd12 "is_number"=true) (k12:PySem.W.keepIn K (.ref f12)=true)
 (a14:PySem.W.nsIn K mainGlobals "has_place"=some (some (.ref f14))) (l14:K.lookup f14=some ⟨oc14,od14,.func (PySem.W.fnOf "has_place" "has_place" (defArgs DD) (defBody DD) (defScope DD) .none kV14 dc14 pm14 an14 cd14 ct14),sl14⟩) (c14:PySem.W.codeIn K cd14 "has_place"=true) (k14:PySem.W.keepIn K (.ref f14)=true)
 (a15:PySem.W.nsIn K mainGlobals "has_tie"=some (some (.ref f15))) (l15:K.lookup f15=some ⟨oc15,od15,.func (PySem.W.fnOf "has_tie" "has_tie" (defArgs DE) (defBody DE) (defScope DE) .none kV15 dc15 pm15 an15 cd15 ct15),sl15⟩) (c15:PySem.W.codeIn K cd15 "has_tie"=true) (k15:PySem.W.keepIn K (.ref f15)=true)
 (a16:PySem.W.nsIn K mainGlobals "check_place"=some (some (.ref f16))) (l16:K.lookup f16=some ⟨oc16,od16,.func (PySem.W.fnOf "check_place" "check_place" (defArgs DF) (defBody DF) (defScope DF) .none kV16 dc16 pm16 an16 cd16 ct16),sl16⟩) (c16:PySem.W.codeIn K cd16 "check_place"=true) (k16:PySem.W.keepIn K (.ref f16)=true)
 (a17:PySem.W.nsIn K mainGlobals "check_tie"=some (some (.ref f17))) (l17:K.lookup f17=some ⟨oc17,od17,.func (PySem.W.fnOf "check_tie" "check_tie" (defArgs DG) (defBody DG) (defScope DG) .none kV17 dc17 pm17 an17 cd17 ct17),sl17⟩) (c17:PySem.W.codeIn K cd17 "check_tie"=true) (k17:PySem.W.keepIn K (.ref f17)=true)
 (a18:PySem.W.nsIn K mainGlobals "ties_at"=some (some (.ref f18))) (l18:K.lookup f18=some ⟨oc18,od18,.func (PySem.W.fnOf "ties_at" "ties_at" (defArgs BD) (defBody BD) (defScope BD) .none kV18 dc18 pm18 an18 cd18 ct18),sl18⟩) (c18:PySem.W.codeIn K cd18 "ties_at"=true) (k18:PySem.W.keepIn K (.ref f18)=true)
 (a19:PySem.W.nsIn K mainGlobals "far_end"=some (some (.ref f19))) (l19:K.lookup f19=some ⟨oc19,od19,.func (PySem.W.fnOf "far_end" "far_end" (defArgs DH) (defBody DH) (defScope DH) .none kV19 dc19 pm19 an19 cd19 ct19),sl19⟩) (c19:PySem.W.codeIn K cd19 "far_end"=true) (k19:PySem.W.keepIn K (.ref f19)=true)
 (a21:PySem.W.nsIn K mainGlobals "hues_at"=some (some (.ref f21))) (l21:K.lookup f21=some ⟨oc21,od21,.func (PySem.W.fnOf "hues_at" "hues_at" (defArgs BE) (defBody BE) (defScope BE) .none kV21 dc21 pm21 an21 cd21 ct21),sl21⟩) (c21:PySem.W.codeIn K cd21 "hues_at"=true) (k21:PySem.W.keepIn K (.ref f21)=true)
 (a22:PySem.W.nsIn K mainGlobals "free_at"=some (some (.ref f22))) (l22:K.lookup f22=some ⟨oc22,od22,.func (PySem.W.fnOf "free_at" "free_at" (defArgs BF) (defBody BF) (defScope BF) .none kV22 dc22 pm22 an22 cd22 ct22),sl22⟩) (c22:PySem.W.codeIn K cd22 "free_at"=true) (k22:PySem.W.keepIn K (.ref f22)=true)
 (a24:PySem.W.nsIn K mainGlobals "next_of_fan"=some (some (.ref f24))) (l24:K.lookup f24=some ⟨oc24,od24,.func (PySem.W.fnOf "next_of_fan" "next_of_fan" (defArgs DI) (defBody DI) (defScope DI) .none kV24 dc24 pm24 an24 cd24 ct24),sl24⟩) (c24:PySem.W.codeIn K cd24 "next_of_fan"=true) (k24:PySem.W.keepIn K (.ref f24)=true)
 (a25:PySem.W.nsIn K mainGlobals "fan_of"=some (some (.ref f25))) (l25:K.lookup f25=some ⟨oc25,od25,.func (PySem.W.fnOf "fan_of" "fan_of" (defArgs Bx) (defBody Bx) (defScope Bx) .none kV25 dc25 pm25 an25 cd25 ct25),sl25⟩) (c25:PySem.W.codeIn K cd25 "fan_of"=true) (k25:PySem.W.keepIn K (.ref f25)=true)
 (a27:PySem.W.nsIn K mainGlobals "_law_tape"=some (some (.ref f27))) (l27:K.lookup f27=some ⟨oc27,od27,.func (PySem.W.fnOf "_law_tape" "_law_tape" (defArgs D0) (defBody D0) (defScope D0) .none kV27 dc27 pm27 an27 cd27 ct27),sl27⟩) (c27:PySem.W.codeIn K cd27 "_law_tape"=true) (k27:PySem.W.keepIn K (.ref f27)=true)
 (a28:PySem.W.nsIn K mainGlobals "_law_draw"=some (some (.ref f28))) (l28:K.lookup f28=some ⟨oc28,od28,.func (PySem.W.fnOf "_law_draw" "_law_draw" (defArgs D1) (defBody D1) (defScope D1) .none kV28 dc28 pm28 an28 cd28 ct28),sl28⟩) (c28:PySem.W.codeIn K cd28 "_law_draw"=true) (k28:PySem.W.keepIn K (.ref f28)=true)
 (a29:PySem.W.nsIn K mainGlobals "_law_pairs_by"=some (some (.ref f29))) (l29:K.lookup f29=some ⟨oc29,od29,.func (PySem.W.fnOf "_law_pairs_by" "_law_pairs_by" (defArgs Bt) (defBody Bt) (defScope Bt) .none kV29 dc29 pm29 an29 cd29 ct29),sl29⟩) (c29:PySem.W.codeIn K cd29 "_law_pairs_by"=true) (k29:PySem.W.keepIn K (.ref f29)=true)
 (a30:PySem.W.nsIn K mainGlobals "_law_web"=some (some (.ref f30))) (l30:K.lookup f30=some ⟨oc30,od30,.func (PySem.W.fnOf "_law_web" "_law_web" (defArgs Fk) (defBody Fk) (defScope Fk) .none kV30 dc30 pm30 an30 cd30 ct30),sl30⟩) (c30:PySem.W.codeIn K cd30 "_law_web"=true) (k30:PySem.W.keepIn K (.ref f30)=true)
 (a31:PySem.W.nsIn K mainGlobals "_law_meet"=some (some (.ref f31))) (l31:K.lookup f31=some ⟨oc31,od31,.func (PySem.W.fnOf "_law_meet" "_law_meet" (defArgs D5) (defBody D5) (defScope D5) .none kV31 dc31 pm31 an31 cd31 ct31),sl31⟩) (c31:PySem.W.codeIn K cd31 "_law_meet"=true) (k31:PySem.W.keepIn K (.ref f31)=true)
 (a32:PySem.W.nsIn K mainGlobals "_law_hueing"=some (some (.ref f32))) (l32:K.lookup f32=some ⟨oc32,od32,.func (PySem.W.fnOf "_law_hueing" "_law_hueing" (defArgs B9) (defBody B9) (defScope B9) .none kV32 dc32 pm32 an32 cd32 ct32),sl32⟩) (c32:PySem.W.codeIn K cd32 "_law_hueing"=true) (k32:PySem.W.keepIn K (.ref f32)=true)
 (a33:PySem.W.nsIn K mainGlobals "_law_count"=some (some (.ref f33))) (l33:K.lookup f33=some ⟨oc33,od33,.func (PySem.W.fnOf "_law_count" "_law_count" (defArgs C0) (defBody C0) (defScope C0) .none kV33 dc33 pm33 an33 cd33 ct33),sl33⟩) (c33:PySem.W.codeIn K cd33 "_law_count"=true) (k33:PySem.W.keepIn K (.ref f33)=true)
 (a34:PySem.W.nsIn K mainGlobals "_law_most"=some (some (.ref f34))) (l34:K.lookup f34=some ⟨oc34,od34,.func (PySem.W.fnOf "_law_most" "_law_most" (defArgs DM) (defBody DM) (defScope DM) .none kV34 dc34 pm34 an34 cd34 ct34),sl34⟩) (c34:PySem.W.codeIn K cd34 "_law_most"=true) (k34:PySem.W.keepIn K (.ref f34)=true)
 (a35:PySem.W.nsIn K mainGlobals "_law_thickest"=some (some (.ref f35))) (l35:K.lookup f35=some ⟨oc35,od35,.func (PySem.W.fnOf "_law_thickest" "_law_thickest" (defArgs C1) (defBody C1) (defScope C1) .none kV35 dc35 pm35 an35 cd35 ct35),sl35⟩) (c35:PySem.W.codeIn K cd35 "_law_thickest"=true) (k35:PySem.W.keepIn K (.ref f35)=true)
 (a36:PySem.W.nsIn K mainGlobals "_law_hues"=some (some (.ref f36))) (l36:K.lookup f36=some ⟨oc36,od36,.func (PySem.W.fnOf "_law_hues" "_law_hues" (defArgs DA) (defBody DA) (defScope DA) .none kV36 dc36 pm36 an36 cd36 ct36),sl36⟩) (c36:PySem.W.codeIn K cd36 "_law_hues"=true) (k36:PySem.W.keepIn K (.ref f36)=true)
 (a37:PySem.W.nsIn K mainGlobals "_law_same"=some (some (.ref f37))) (l37:K.lookup f37=some ⟨oc37,od37,.func (PySem.W.fnOf "_law_same" "_law_same" (defArgs C8) (defBody C8) (defScope C8) .none kV37 dc37 pm37 an37 cd37 ct37),sl37⟩) (c37:PySem.W.codeIn K cd37 "_law_same"=true) (k37:PySem.W.keepIn K (.ref f37)=true)
 (a38:PySem.W.nsIn K mainGlobals "_law_case"=some (some (.ref f38))) (l38:K.lookup f38=some ⟨oc38,od38,.func (PySem.W.fnOf "_law_case" "_law_case" (defArgs DO) (defBody DO) (defScope DO) .none kV38 dc38 pm38 an38 cd38 ct38),sl38⟩) (c38:PySem.W.codeIn K cd38 "_law_case"=true) (k38:PySem.W.keepIn K (.ref f38)=true)
 (a39:PySem.W.nsIn K mainGlobals "_law_far"=some (some (.ref f39))) (l39:K.lookup f39=some ⟨oc39,od39,.func (PySem.W.fnOf "_law_far" "_law_far" (defArgs DB) (defBody DB) (defScope DB) .none kV39 dc39 pm39 an39 cd39 ct39),sl39⟩) (c39:PySem.W.codeIn K cd39 "_law_far"=true) (k39:PySem.W.keepIn K (.ref f39)=true)
 (a40:PySem.W.nsIn K mainGlobals "_law_fan"=some (some (.ref f40))) (l40:K.lookup f40=some ⟨oc40,od40,.func (PySem.W.fnOf "_law_fan" "_law_fan" (defArgs Fs) (defBody Fs) (defScope Fs) .none kV40 dc40 pm40 an40 cd40 ct40),sl40⟩) (c40:PySem.W.codeIn K cd40 "_law_fan"=true) (k40:PySem.W.keepIn K (.ref f40)=true)
 (a41:PySem.W.nsIn K mainGlobals "_law_class"=some (some (.ref f41))) (l41:K.lookup f41=some ⟨oc41,od41,.func (PySem.W.fnOf "_law_class" "_law_class" (defArgs C3) (defBody C3) (defScope C3) .none kV41 dc41 pm41 an41 cd41 ct41),sl41⟩) (c41:PySem.W.codeIn K cd41 "_law_class"=true) (k41:PySem.W.keepIn K (.ref f41)=true)
 (a42:PySem.W.nsIn K mainGlobals "_law_told"=some (some (.ref f42))) (l42:K.lookup f42=some ⟨oc42,od42,.func (PySem.W.fnOf "_law_told" "_law_told" (defArgs DN) (defBody DN) (defScope DN) .none kV42 dc42 pm42 an42 cd42 ct42),sl42⟩) (c42:PySem.W.codeIn K cd42 "_law_told"=true) (k42:PySem.W.keepIn K (.ref f42)=true)
 (a43:PySem.W.nsIn K mainGlobals "_law_due"=some (some (.ref f43))) (l43:K.lookup f43=some ⟨oc43,od43,.func (PySem.W.fnOf "_law_due" "_law_due" (defArgs G8) (defBody G8) (defScope G8) .none kV43 dc43 pm43 an43 cd43 ct43),sl43⟩) (c43:PySem.W.codeIn K cd43 "_law_due"=true) (k43:PySem.W.keepIn K (.ref f43)=true)
 (a44:PySem.W.nsIn K mainGlobals "law"=some (some (.ref f44))) (l44:K.lookup f44=some ⟨oc44,od44,.func (PySem.W.fnOf "law" "law" (defArgs Df) (defBody Df) (defScope Df) .none kV44 dc44 pm44 an44 cd44 ct44),sl44⟩) (c44:PySem.W.codeIn K cd44 "law"=true) (k44:PySem.W.keepIn K (.ref f44)=true)
 (z1:PySem.W.nsIn K mainGlobals "len"=some none)
 (z2:PySem.W.nsIn K mainGlobals "abs"=some none)
 (z3:PySem.W.nsIn K mainGlobals "int"=some none)
 (z4:PySem.W.nsIn K mainGlobals "min"=some none)
 (z5:PySem.W.nsIn K mainGlobals "max"=some none)
 (z6:PySem.W.nsIn K mainGlobals "range"=some none)
 (z7:PySem.W.nsIn K mainGlobals "tuple"=some none)
 (z8:PySem.W.nsIn K mainGlobals "list"=some none)
 (z9:PySem.W.nsIn K mainGlobals "enumerate"=some none)
 (z10:PySem.W.nsIn K mainGlobals "zip"=some none)
 (z11:PySem.W.nsIn K mainGlobals "isinstance"=some none)
 (z12:PySem.W.nsIn K mainGlobals "all"=some none)
 (z13:PySem.W.nsIn K mainGlobals "str"=some none)
 (z14:PySem.W.nsIn K mainGlobals "bool"=some none)
 (y1:PySem.W.nsIn K mainGlobals "sorted"=some none)
 (y2:PySem.W.nsIn K mainGlobals "sum"=some none)
 (y3:PySem.W.nsIn K mainGlobals "ValueError"=some none)
 {cH c0 c1 c2 c3 c4 c5 c6 c7 c8:Addr}
 (gH:PySem.W.nsIn K mainGlobals "HueError"=some (some (.ref cH)))
 (gc0:PySem.W.nsIn K mainGlobals "NoPlace"=some (some (.ref c0)))
 (gc1:PySem.W.nsIn K mainGlobals "NoTie"=some (some (.ref c1)))
 (gc2:PySem.W.nsIn K mainGlobals "NoRow"=some (some (.ref c2)))
 (gc3:PySem.W.nsIn K mainGlobals "NoFan"=some (some (.ref c3)))
 (gc4:PySem.W.nsIn K mainGlobals "TooFew"=some (some (.ref c4)))
 (gc5:PySem.W.nsIn K mainGlobals "NoStep"=some (some (.ref c5)))
 (gc6:PySem.W.nsIn K mainGlobals "NotTwoSides"=some (some (.ref c6)))
 (gc7:PySem.W.nsIn K mainGlobals "ShortList"=some (some (.ref c7)))
 (gc8:PySem.W.nsIn K mainGlobals "BadRow"=some (some (.ref c8)))
 (qcH:PySem.W.excIn K cH Fw "ValueError.__new__"=true)
 (qc0:PySem.W.excIn K c0 Fw "ValueError.__new__"=true)
 (qc1:PySem.W.excIn K c1 Fw "ValueError.__new__"=true)
 (qc3:PySem.W.excIn K c3 Fw "ValueError.__new__"=true)
 (mc0:PySem.W.mroIn K c0 (.ref cH)=some true)
 (mc1:PySem.W.mroIn K c1 (.ref cH)=some true)
 (mc3:PySem.W.mroIn K c3 (.ref cH)=some true)
 (xc00:(PySem.W.clsIn K c0).isSome=true)
 (xc01:PySem.W.mroIn K c0 (.type "object")=some true)
 (xc02:PySem.W.mroIn K c0 (.type "BaseException")=some true)
 (xc03:PySem.W.findIn K (.ref c0) "__class__"=some (some (.builtin "object.__class__")))
 (xc04:PySem.W.findIn K (.ref c0) "__getattribute__"=some (some (.builtin "BaseException.__getattribute__")))
 (xc05:PySem.W.findIn K (.ref c0) "__getattr__"=some none)
 (xc10:(PySem.W.clsIn K c1).isSome=true)
 (xc11:PySem.W.mroIn K c1 (.type "object")=some true)
 (xc12:PySem.W.mroIn K c1 (.type "BaseException")=some true)
 (xc13:PySem.W.findIn K (.ref c1) "__class__"=some (some (.builtin "object.__class__")))
 (xc14:PySem.W.findIn K (.ref c1) "__getattribute__"=some (some (.builtin "BaseException.__getattribute__")))
 (xc15:PySem.W.findIn K (.ref c1) "__getattr__"=some none)
 (xc30:(PySem.W.clsIn K c3).isSome=true)
 (xc31:PySem.W.mroIn K c3 (.type "object")=some true)
 (xc32:PySem.W.mroIn K c3 (.type "BaseException")=some true)
 (xc33:PySem.W.findIn K (.ref c3) "__class__"=some (some (.builtin "object.__class__")))
 (xc34:PySem.W.findIn K (.ref c3) "__getattribute__"=some (some (.builtin "BaseException.__getattribute__")))
 (xc35:PySem.W.findIn K (.ref c3) "__getattr__"=some none)
 (wc00:PySem.W.kitOne K (.ref c0) (.ref c0)=some true)
 (wc01:PySem.W.kitOne K (.ref c0) (.ref c1)=some false)
 (wc02:PySem.W.kitOne K (.ref c0) (.ref c2)=some false)
 (wc03:PySem.W.kitOne K (.ref c0) (.ref c3)=some false)
 (wc04:PySem.W.kitOne K (.ref c0) (.ref c4)=some false)
 (wc05:PySem.W.kitOne K (.ref c0) (.ref c5)=some false)
 (wc06:PySem.W.kitOne K (.ref c0) (.ref c6)=some false)
 (wc07:PySem.W.kitOne K (.ref c0) (.ref c7)=some false)
 (wc08:PySem.W.kitOne K (.ref c0) (.ref c8)=some false)
 (wc0v:PySem.W.kitOne K (.ref c0) (.type "ValueError")=some true)
 (wc10:PySem.W.kitOne K (.ref c1) (.ref c0)=some false)
 (wc11:PySem.W.kitOne K (.ref c1) (.ref c1)=some true)
 (wc12:PySem.W.kitOne K (.ref c1) (.ref c2)=some false)
 (wc13:PySem.W.kitOne K (.ref c1) (.ref c3)=some false)
 (wc14:PySem.W.kitOne K (.ref c1) (.ref c4)=some false)
 (wc15:PySem.W.kitOne K (.ref c1) (.ref c5)=some false)
 (wc16:PySem.W.kitOne K (.ref c1) (.ref c6)=some false)
 (wc17:PySem.W.kitOne K (.ref c1) (.ref c7)=some false)
 (wc18:PySem.W.kitOne K (.ref c1) (.ref c8)=some false)
 (wc1v:PySem.W.kitOne K (.ref c1) (.type "ValueError")=some true)
 (wc30:PySem.W.kitOne K (.ref c3) (.ref c0)=some false)
 (wc31:PySem.W.kitOne K (.ref c3) (.ref c1)=some false)
 (wc32:PySem.W.kitOne K (.ref c3) (.ref c2)=some false)
 (wc33:PySem.W.kitOne K (.ref c3) (.ref c3)=some true)
 (wc34:PySem.W.kitOne K (.ref c3) (.ref c4)=some false)
 (wc35:PySem.W.kitOne K (.ref c3) (.ref c5)=some false)
 (wc36:PySem.W.kitOne K (.ref c3) (.ref c6)=some false)
 (wc37:PySem.W.kitOne K (.ref c3) (.ref c7)=some false)
 (wc38:PySem.W.kitOne K (.ref c3) (.ref c8)=some false)
 (wc3v:PySem.W.kitOne K (.ref c3) (.type "ValueError")=some true)
 : ∃ fd:FuncData,(∀ (s:Shared) (v:Value),BindsTo s fd ⟨[v],[]⟩ [("_law_script",v)])∧∀ base:Heap,K.In base→base.Ns mainGlobals mg→FnOk l.prog w K mg base CX0 9 fa fd ["_law_script"] (FT K):=by
 have e:=hfa.symm.trans (PySem.W.mg_of X G a44)
 cases e
 have T:Txt K mg:=⟨PySem.W.mg_none_of X G z1,PySem.W.mg_none_of X G z2,PySem.W.mg_none_of X G z3,PySem.W.mg_none_of X G z4,PySem.W.mg_none_of X G z5,PySem.W.mg_none_of X G z6,PySem.W.mg_none_of X G z7,PySem.W.mg_none_of X G z8,PySem.W.mg_none_of X G z9,PySem.W.mg_none_of X G z10,PySem.W.mg_none_of X G z11,PySem.W.mg_none_of X G z12,PySem.W.mg_none_of X G z13,PySem.W.mg_none_of X G z14⟩
 have zs:mg "sorted"=none:=PySem.W.mg_none_of X G y1
 have zu:mg "sum"=none:=PySem.W.mg_none_of X G y2
 have zv:mg "ValueError"=none:=PySem.W.mg_none_of X G y3
 have X0:=CI (PySem.W.mg_of X G gc0) qc0
 have X1:=CI (PySem.W.mg_of X G gc1) qc1
 have X3:=CI (PySem.W.mg_of X G gc3) qc3
 have R0:Ers K mg cH c0 c1 c2 c3 c4 c5 c6 c7 c8:=⟨CI (PySem.W.mg_of X G gH) qcH,PySem.W.mg_of X G gc0,PySem.W.mg_of X G gc1,PySem.W.mg_of X G gc2,PySem.W.mg_of X G gc3,PySem.W.mg_of X G gc4,PySem.W.mg_of X G gc5,PySem.W.mg_of X G gc6,PySem.W.mg_of X G gc7,PySem.W.mg_of X G gc8,zv⟩
 have RP:ErC K cH c0 c0 c1 c2 c3 c4 c5 c6 c7 c8 (bAt 0):=⟨Bw qc0 mc0,⟨xc00,xc01,xc02,xc03,xc04,xc05⟩,wc00,wc01,wc02,wc03,wc04,wc05,wc06,wc07,wc08,wc0v⟩
 have RT:ErC K cH c1 c0 c1 c2 c3 c4 c5 c6 c7 c8 (bAt 1):=⟨Bw qc1 mc1,⟨xc10,xc11,xc12,xc13,xc14,xc15⟩,wc10,wc11,wc12,wc13,wc14,wc15,wc16,wc17,wc18,wc1v⟩
 have RF:ErC K cH c3 c0 c1 c2 c3 c4 c5 c6 c7 c8 (bAt 3):=⟨Bw qc3 mc3,⟨xc30,xc31,xc32,xc33,xc34,xc35⟩,wc30,wc31,wc32,wc33,wc34,wc35,wc36,wc37,wc38,wc3v⟩
 have F12:=r6 (st:=Fz) l12 c12 k12
 have F14:=r6 (st:=DD) l14 c14 k14
 have F15:=r6 (st:=DE) l15 c15 k15
 have F16:=r6 (st:=DF) l16 c16 k16
 have F17:=r6 (st:=DG) l17 c17 k17
 have F18:=r6 (st:=BD) l18 c18 k18
 have F19:=r6 (st:=DH) l19 c19 k19
 have F21:=r6 (st:=BE) l21 c21 k21
 have F22:=r6 (st:=BF) l22 c22 k22
 have F24:=r6 (st:=DI) l24 c24 k24
 have F25:=r6 (st:=Bx) l25 c25 k25
 have F27:=r6 (st:=D0) l27 c27 k27
 have F28:=r6 (st:=D1) l28 c28 k28
 have F29:=r6 (st:=Bt) l29 c29 k29
 have F30:=r6 (st:=Fk) l30 c30 k30
 have F31:=r6 (st:=D5) l31 c31 k31
 have F32:=r6 (st:=B9) l32 c32 k32
 have F33:=r6 (st:=C0) l33 c33 k33
 have F34:=r6 (st:=DM) l34 c34 k34
 have F35:=r6 (st:=C1) l35 c35 k35
 have F36:=r6 (st:=DA) l36 c36 k36
 have F37:=r6 (st:=C8) l37 c37 k37
 have F38:=r6 (st:=DO) l38 c38 k38
 have F39:=r6 (st:=DB) l39 c39 k39
 have F40:=r6 (st:=Fs) l40 c40 k40
 have F41:=r6 (st:=C3) l41 c41 k41
 have F42:=r6 (st:=DN) l42 c42 k42
 have F43:=r6 (st:=G8) l43 c43 k43
 have F44:=r6 (st:=Df) l44 c44 k44
 have b12:=F12.binds (ps:=["thing"]) fun _ _ _ _ _ _ us hl=>match us,hl with | [_],_=>rfl
 have b14:=F14.binds (ps:=["web","place"]) fun _ _ _ _ _ _ us hl=>match us,hl with | [_,_],_=>rfl
 have b15:=F15.binds (ps:=["web","tie"]) fun _ _ _ _ _ _ us hl=>match us,hl with | [_,_],_=>rfl
 have b16:=F16.binds (ps:=["web","place"]) fun _ _ _ _ _ _ us hl=>match us,hl with | [_,_],_=>rfl
 have b17:=F17.binds (ps:=["web","tie"]) fun _ _ _ _ _ _ us hl=>match us,hl with | [_,_],_=>rfl
 have b18:=F18.binds (ps:=["web","place"]) fun _ _ _ _ _ _ us hl=>match us,hl with | [_,_],_=>rfl
 have b19:=F19.binds (ps:=["web","tie","place"]) fun _ _ _ _ _ _ us hl=>match us,hl with | [_,_,_],_=>rfl
 have b21:=F21.binds (ps:=["web","hueing","place"]) fun _ _ _ _ _ _ us hl=>match us,hl with | [_,_,_],_=>rfl
 have b22:=F22.binds (ps:=["web","hueing","place","hues"]) fun _ _ _ _ _ _ us hl=>match us,hl with | [_,_,_,_],_=>rfl
 have b24:=F24.binds (ps:=["hueing","fan","around","free"]) fun _ _ _ _ _ _ us hl=>match us,hl with | [_,_,_,_],_=>rfl
 have b25:=F25.binds (ps:=["web","hueing","tie","place","hues"]) fun _ _ _ _ _ _ us hl=>match us,hl with | [_,_,_,_,_],_=>rfl
 have b27:=F27.binds (ps:=["_law_script","_law_k"]) fun _ _ _ _ _ _ us hl=>match us,hl with | [_,_],_=>rfl
 have b28:=F28.binds (ps:=["_law_tape_here","_law_many"]) fun _ _ _ _ _ _ us hl=>match us,hl with | [_,_],_=>rfl
 have b29:=F29.binds (ps:=["_law_tape_here","_law_great"]) fun _ _ _ _ _ _ us hl=>match us,hl with | [_,_],_=>rfl
 have b30:=F30.binds (ps:=["_law_tape_here","_law_great"]) fun _ _ _ _ _ _ us hl=>match us,hl with | [_,_],_=>rfl
 have b31:=F31.binds (ps:=["_law_web_here","_law_one","_law_other"]) fun _ _ _ _ _ _ us hl=>match us,hl with | [_,_,_],_=>rfl
 have b32:=F32.binds (ps:=["_law_tape_here","_law_web_here","_law_bare"]) fun _ _ _ _ _ _ us hl=>match us,hl with | [_,_,_],_=>rfl
 have b33:=F33.binds (ps:=["_law_web_here","_law_place"]) fun _ _ _ _ _ _ us hl=>match us,hl with | [_,_],_=>rfl
 have b34:=F34.binds (ps:=["_law_web_here"]) fun _ _ _ _ _ _ us hl=>match us,hl with | [_],_=>rfl
 have b35:=F35.binds (ps:=["_law_web_here"]) fun _ _ _ _ _ _ us hl=>match us,hl with | [_],_=>rfl
 have b36:=F36.binds (ps:=["_law_web_here","_law_hueing_here","_law_place"]) fun _ _ _ _ _ _ us hl=>match us,hl with | [_,_,_],_=>rfl
 have b37:=F37.binds (ps:=["_law_found","_law_due_here"]) fun _ _ _ _ _ _ us hl=>match us,hl with | [_,_],_=>rfl
 have b38:=F38.binds (ps:=["_law_tape_here","_law_bare"]) fun _ _ _ _ _ _ us hl=>match us,hl with | [_,_],_=>rfl
 have b39:=F39.binds (ps:=["_law_web_here","_law_tie","_law_place"]) fun _ _ _ _ _ _ us hl=>match us,hl with | [_,_,_],_=>rfl
 have b40:=F40.binds (ps:=["_law_web_here","_law_hueing_here","_law_tie","_law_place","_law_hues_here"]) fun _ _ _ _ _ _ us hl=>match us,hl with | [_,_,_,_,_],_=>rfl
 have b41:=F41.binds (ps:=["_law_caught"]) fun _ _ _ _ _ _ us hl=>match us,hl with | [_],_=>rfl
 have b42:=F42.binds (ps:=["_law_web_here","_law_hueing_here","_law_tie","_law_place","_law_hues_here"]) fun _ _ _ _ _ _ us hl=>match us,hl with | [_,_,_,_,_],_=>rfl
 have b43:=F43.binds (ps:=["_law_web_here","_law_hueing_here","_law_tie","_law_place","_law_hues_here"]) fun _ _ _ _ _ _ us hl=>match us,hl with | [_,_,_,_,_],_=>rfl
 refine ⟨PySem.W.fnOf "law" "law" (defArgs Df) (defBody Df) (defScope Df) .none kV44 dc44 pm44 an44 cd44 ct44,fun s v => .of_eq rfl,fun base _ _=>?_⟩
 have CT:Callee l.prog w K mg base 1 "_law_tape" ["_law_script","_law_k"] (EX K):=⟨_,_,HX F27 T,PySem.W.mg_of X G a27,k27,b27⟩
 have CD:Callee l.prog w K mg base 1 "_law_draw" ["_law_tape_here","_law_many"] EY:=⟨_,_,HY F28 T,PySem.W.mg_of X G a28,k28,b28⟩
 have CPr:Callee l.prog w K mg base 2 "_law_pairs_by" ["_law_tape_here","_law_great"] DU:=⟨_,_,GT F29 T CD,PySem.W.mg_of X G a29,k29,b29⟩
 have CB:Callee l.prog w K mg base 3 "_law_web" ["_law_tape_here","_law_great"] GU:=⟨_,_,J4 F30 T CD CPr,PySem.W.mg_of X G a30,k30,b30⟩
 have CM:Callee l.prog w K mg base 1 "_law_meet" ["_law_web_here","_law_one","_law_other"] DX:=⟨_,_,Gb F31,PySem.W.mg_of X G a31,k31,b31⟩
 have CH:Callee l.prog w K mg base 2 "_law_hueing" ["_law_tape_here","_law_web_here","_law_bare"] Ea:=⟨_,_,Fq F32 T CD CM,PySem.W.mg_of X G a32,k32,b32⟩
 have CN:Callee l.prog w K mg base 1 "is_number" ["thing"] FM:=⟨_,_,JI F12 T,PySem.W.mg_of X G a12,k12,b12⟩
 have CHP:Callee l.prog w K mg base 2 "has_place" ["web","place"] Eg:=⟨_,_,Ht F14 CN,PySem.W.mg_of X G a14,k14,b14⟩
 have CHT:Callee l.prog w K mg base 2 "has_tie" ["web","tie"] Eh:=⟨_,_,Hu F15 T CN,PySem.W.mg_of X G a15,k15,b15⟩
 have ECP:CalleeE l.prog w K mg base 3 "check_place" ["web","place"] (Ei c0):=⟨_,_,Hv X0 F16 CHP,PySem.W.mg_of X G a16,k16,b16⟩
 have ECT:CalleeE l.prog w K mg base 3 "check_tie" ["web","tie"] (Ej c1):=⟨_,_,Hw X1 F17 CHT,PySem.W.mg_of X G a17,k17,b17⟩
 have EA:CalleeE l.prog w K mg base 4 "ties_at" ["web","place"] (Bg c0):=⟨_,_,G0 F18 T ECP,PySem.W.mg_of X G a18,k18,b18⟩
 have EF:CalleeE l.prog w K mg base 4 "far_end" ["web","tie","place"] (Ek c0 c1):=⟨_,_,Hy X0 F19 ECT,PySem.W.mg_of X G a19,k19,b19⟩
 have EH:CalleeE l.prog w K mg base 5 "hues_at" ["web","hueing","place"] (Ce c0):=⟨_,_,G1 F21 T zs EA,PySem.W.mg_of X G a21,k21,b21⟩
 have EFr:CalleeE l.prog w K mg base 6 "free_at" ["web","hueing","place","hues"] (Cf c0):=⟨_,_,G2 F22 T EH,PySem.W.mg_of X G a22,k22,b22⟩
 have CNx:Callee l.prog w K mg base 1 "next_of_fan" ["hueing","fan","around","free"] El:=⟨_,_,IA F24 T,PySem.W.mg_of X G a24,k24,b24⟩
 have EFo:CalleeE l.prog w K mg base 7 "fan_of" ["web","hueing","tie","place","hues"] (DZ c0 c1 c3):=⟨_,_,Gw X3 F25 T EF EA EFr CNx,PySem.W.mg_of X G a25,k25,b25⟩
 have CCo:Callee l.prog w K mg base 1 "_law_count" ["_law_web_here","_law_place"] De:=⟨_,_,HJ F33 T,PySem.W.mg_of X G a33,k33,b33⟩
 have CMo:Callee l.prog w K mg base 2 "_law_most" ["_law_web_here"] C2:=⟨_,_,IJ F34 T CCo,PySem.W.mg_of X G a34,k34,b34⟩
 have CTh:Callee l.prog w K mg base 1 "_law_thickest" ["_law_web_here"] C2:=⟨_,_,HK F35 T,PySem.W.mg_of X G a35,k35,b35⟩
 have CHu:Callee l.prog w K mg base 1 "_law_hues" ["_law_web_here","_law_hueing_here","_law_place"] Eb:=⟨_,_,Ho F36 T,PySem.W.mg_of X G a36,k36,b36⟩
 have CS:Callee l.prog w K mg base 3 "_law_same" ["_law_found","_law_due_here"] (BI (Al 2)):=⟨_,_,EI 2 F37 T (PySem.W.mg_of X G a37) k37 b37,PySem.W.mg_of X G a37,k37,b37⟩
 have CC:Callee l.prog w K mg base 4 "_law_case" ["_law_tape_here","_law_bare"] En:=⟨_,_,IM F38 CD CB CH,PySem.W.mg_of X G a38,k38,b38⟩
 have CFl:Callee l.prog w K mg base 1 "_law_far" ["_law_web_here","_law_tie","_law_place"] Ec:=⟨_,_,Hq F39 zu,PySem.W.mg_of X G a39,k39,b39⟩
 have CFn:Callee l.prog w K mg base 2 "_law_fan" ["_law_web_here","_law_hueing_here","_law_tie","_law_place","_law_hues_here"] Gf:=⟨_,_,JC F40 T CHu CFl,PySem.W.mg_of X G a40,k40,b40⟩
 have CCl:Callee l.prog w K mg base 1 "_law_class" ["_law_caught"] (Dg K cH c0 c1 c2 c3 c4 c5 c6 c7 c8):=⟨_,_,HL F41 T R0,PySem.W.mg_of X G a41,k41,b41⟩
 have CTo:Callee l.prog w K mg base 8 "_law_told" ["_law_web_here","_law_hueing_here","_law_tie","_law_place","_law_hues_here"] C4:=⟨_,_,IL F42 R0 RP RT RF EFo CCl,PySem.W.mg_of X G a42,k42,b42⟩
 have CU:Callee l.prog w K mg base 3 "_law_due" ["_law_web_here","_law_hueing_here","_law_tie","_law_place","_law_hues_here"] C4:=⟨_,_,JW F43 T CFn,PySem.W.mg_of X G a43,k43,b43⟩
 exact JX F44 T CT CD CC CMo CTh CU CTo CS
theorem walkL {l:PySem.W.OpenLaw} {q:Program} {loose:List Str} {XP:(Str→Option Value)→Heap→Prop} {YP:World→Heap→Prop} {d:DefRec} {K:Params→PySem.W.Frag} (hn:l.most=some 63) (hdf:d.params.defaults=[])
 (hY:∀ (w:World) (h:Heap),YP w h→(K w.params).In h)
 (F:∀ (w:World) (mg:Str→Option Value) (fa:Addr) (h:Heap),(K w.params).In h→h.Ns mainGlobals mg→mg d.name=some (.ref fa)→
   ∃ fd:FuncData,(∀ (s:Shared) (u:Value),BindsTo s fd ⟨[u],[]⟩ [("_law_script",u)])∧∀ base:Heap,(K w.params).In base→base.Ns mainGlobals mg→FnOk l.prog w (K w.params) mg base CX0 9 fa fd ["_law_script"] (FT (K w.params))):
 PySem.W.WalkO q loose XP YP l.row.toRowW d [] (fun f vs=>PySem.call f vs):=
 L2.walk_of (n:=63) (k:=9) (x:="_law_script") (CX:=fun _=>CX0) (sp:=fun w=>FT (K w.params)) hn (by decide) hdf ⟨rfl,by decide,by decide,rfl⟩ hY F (fun _ _ a ns hl _ hS=>⟨a,ns,rfl,hS,hl,fun _=>rfl⟩) fun _ _ _ _ _ z=>z
end Hue
open PySem PySem.W PyProof.Rows
set_option maxRecDepth 100000 in
set_option maxHeartbeats 0 in
theorem PySem.Challenge.cw_huedties_k19_fans_holds : PySem.Challenge.rw_huedties_k19_fans.Holds := by
 w_on;o_law;k_head;(case hw=>w_witness2)
 k_fill
 refine Hue.walkL (l:=PySem.Challenge.rw_huedties_k19_fans) rfl rfl (fun w h Y=>PySem.W.kIn_of Y) ?F
 case F=>
  intro w mg fa h KX G hmg
  refine' Hue.all_mk KX G hmg ?a12 ?l12 ?c12 ?k12 ?a14 ?l14 ?c14 ?k14 ?a15 ?l15 ?c15 ?k15 ?a16 ?l16 ?c16 ?k16 ?a17 ?l17 ?c17 ?k17 ?a18 ?l18 ?c18 ?k18 ?a19 ?l19 ?c19 ?k19 ?a21 ?l21 ?c21 ?k21 ?a22 ?l22 ?c22 ?k22 ?a24 ?l24 ?c24 ?k24 ?a25 ?l25 ?c25 ?k25 ?a27 ?l27 ?c27 ?k27 ?a28 ?l28 ?c28 ?k28 ?a29 ?l29 ?c29 ?k29 ?a30 ?l30 ?c30 ?k30 ?a31 ?l31 ?c31 ?k31 ?a32 ?l32 ?c32 ?k32 ?a33 ?l33 ?c33 ?k33 ?a34 ?l34 ?c34 ?k34 ?a35 ?l35 ?c35 ?k35 ?a36 ?l36 ?c36 ?k36 ?a37 ?l37 ?c37 ?k37 ?a38 ?l38 ?c38 ?k38 ?a39 ?l39 ?c39 ?k39 ?a40 ?l40 ?c40 ?k40 ?a41 ?l41 ?c41 ?k41 ?a42 ?l42 ?c42 ?k42 ?a43 ?l43 ?c43 ?k43 ?a44 ?l44 ?c44 ?k44 ?z1 ?z2 ?z3 ?z4 ?z5 ?z6 ?z7 ?z8 ?z9 ?z10 ?z11 ?z12 ?z13 ?z14 ?y1 ?y2 ?y3 ?gH ?gc0 ?gc1 ?gc2 ?gc3 ?gc4 ?gc5 ?gc6 ?gc7 ?gc8 ?qcH ?qc0 ?qc1 ?qc3 ?mc0 ?mc1 ?mc3 ?xc00 ?xc01 ?xc02 ?xc03 ?xc04 ?xc05 ?xc10 ?xc11 ?xc12 ?xc13 ?xc14 ?xc15 ?xc30 ?xc31 ?xc32 ?xc33 ?xc34 ?xc35 ?wc00 ?wc01 ?wc02 ?wc03 ?wc04 ?wc05 ?wc06 ?wc07 ?wc08 ?wc0v ?wc10 ?wc11 ?wc12 ?wc13 ?wc14 ?wc15 ?wc16 ?wc17 ?wc18 ?wc1v ?wc30 ?wc31 ?wc32 ?wc33 ?wc34 ?wc35 ?wc36 ?wc37 ?wc38 ?wc3v
  (case a12=>k_is)
  (case l12=>k_is)
  (case c12=>k_is)
  (case k12=>k_is)
  (case a14=>k_is)
  (case l14=>k_is)
  (case c14=>k_is)
  (case k14=>k_is)
  (case a15=>k_is)
  (case l15=>k_is)
  (case c15=>k_is)
  (case k15=>k_is)
  (case a16=>k_is)
  (case l16=>k_is)
  (case c16=>k_is)
  (case k16=>k_is)
  (case a17=>k_is)
  (case l17=>k_is)
  (case c17=>k_is)
  (case k17=>k_is)
  (case a18=>k_is)
  (case l18=>k_is)
  (case c18=>k_is)
  (case k18=>k_is)
  (case a19=>k_is)
  (case l19=>k_is)
  (case c19=>k_is)
  (case k19=>k_is)
  (case a21=>k_is)
  (case l21=>k_is)
  (case c21=>k_is)
  (case k21=>k_is)
  (case a22=>k_is)
  (case l22=>k_is)
  (case c22=>k_is)
  (case k22=>k_is)
  (case a24=>k_is)
  (case l24=>k_is)
  (case c24=>k_is)
  (case k24=>k_is)
  (case a25=>k_is)
  (case l25=>k_is)
  (case c25=>k_is)
  (case k25=>k_is)
  (case a27=>k_is)
  (case l27=>k_is)
  (case c27=>k_is)
  (case k27=>k_is)
  (case a28=>k_is)
  (case l28=>k_is)
  (case c28=>k_is)
  (case k28=>k_is)
  (case a29=>k_is)
  (case l29=>k_is)
  (case c29=>k_is)
  (case k29=>k_is)
  (case a30=>k_is)
  (case l30=>k_is)
  (case c30=>k_is)
  (case k30=>k_is)
  (case a31=>k_is)
  (case l31=>k_is)
  (case c31=>k_is)
  (case k31=>k_is)
  (case a32=>k_is)
  (case l32=>k_is)
  (case c32=>k_is)
  (case k32=>k_is)
  (case a33=>k_is)
  (case l33=>k_is)
  (case c33=>k_is)
  (case k33=>k_is)
  (case a34=>k_is)
  (case l34=>k_is)
  (case c34=>k_is)
  (case k34=>k_is)
  (case a35=>k_is)
  (case l35=>k_is)
  (case c35=>k_is)
  (case k35=>k_is)
  (case a36=>k_is)
  (case l36=>k_is)
  (case c36=>k_is)
  (case k36=>k_is)
  (case a37=>k_is)
  (case l37=>k_is)
  (case c37=>k_is)
  (case k37=>k_is)
  (case a38=>k_is)
  (case l38=>k_is)
  (case c38=>k_is)
  (case k38=>k_is)
  (case a39=>k_is)
  (case l39=>k_is)
  (case c39=>k_is)
  (case k39=>k_is)
  (case a40=>k_is)
  (case l40=>k_is)
  (case c40=>k_is)
  (case k40=>k_is)
  (case a41=>k_is)
  (case l41=>k_is)
  (case c41=>k_is)
  (case k41=>k_is)
  (case a42=>k_is)
  (case l42=>k_is)
  (case c42=>k_is)
  (case k42=>k_is)
  (case a43=>k_is)
  (case l43=>k_is)
  (case c43=>k_is)
  (case k43=>k_is)
  (case a44=>k_is)
  (case l44=>k_is)
  (case c44=>k_is)
  (case k44=>k_is)
  (case z1=>k_is)
  (case z2=>k_is)
  (case z3=>k_is)
  (case z4=>k_is)
  (case z5=>k_is)
  (case z6=>k_is)
  (case z7=>k_is)
  (case z8=>k_is)
  (case z9=>k_is)
  (case z10=>k_is)
  (case z11=>k_is)
  (case z12=>k_is)
  (case z13=>k_is)
  (case z14=>k_is)
  (case y1=>k_is)
  (case y2=>k_is)
  (case y3=>k_is)
  (case gH=>k_is)
  (case gc0=>k_is)
  (case gc1=>k_is)
  (case gc2=>k_is)
  (case gc3=>k_is)
  (case gc4=>k_is)
  (case gc5=>k_is)
  (case gc6=>k_is)
  (case gc7=>k_is)
  (case gc8=>k_is)
  (case qcH=>k_exc)
  (case qc0=>k_exc)
  (case qc1=>k_exc)
  (case qc3=>k_exc)
  (case mc0=>k_is)
  (case mc1=>k_is)
  (case mc3=>k_is)
  (case xc00=>kernel_rfl)
  (case xc01=>k_is)
  (case xc02=>k_is)
  (case xc03=>k_is)
  (case xc04=>k_is)
  (case xc05=>k_is)
  (case xc10=>kernel_rfl)
  (case xc11=>k_is)
  (case xc12=>k_is)
  (case xc13=>k_is)
  (case xc14=>k_is)
  (case xc15=>k_is)
  (case xc30=>kernel_rfl)
  (case xc31=>k_is)
  (case xc32=>k_is)
  (case xc33=>k_is)
  (case xc34=>k_is)
  (case xc35=>k_is)
  (case wc00=>kernel_rfl)
  (case wc01=>kernel_rfl)
  (case wc02=>kernel_rfl)
  (case wc03=>kernel_rfl)
  (case wc04=>kernel_rfl)
  (case wc05=>kernel_rfl)
  (case wc06=>kernel_rfl)
  (case wc07=>kernel_rfl)
  (case wc08=>kernel_rfl)
  (case wc0v=>kernel_rfl)
  (case wc10=>kernel_rfl)
  (case wc11=>kernel_rfl)
  (case wc12=>kernel_rfl)
  (case wc13=>kernel_rfl)
  (case wc14=>kernel_rfl)
  (case wc15=>kernel_rfl)
  (case wc16=>kernel_rfl)
  (case wc17=>kernel_rfl)
  (case wc18=>kernel_rfl)
  (case wc1v=>kernel_rfl)
  (case wc30=>kernel_rfl)
  (case wc31=>kernel_rfl)
  (case wc32=>kernel_rfl)
  (case wc33=>kernel_rfl)
  (case wc34=>kernel_rfl)
  (case wc35=>kernel_rfl)
  (case wc36=>kernel_rfl)
  (case wc37=>kernel_rfl)
  (case wc38=>kernel_rfl)
  (case wc3v=>kernel_rfl)
#print axioms PySem.Challenge.cw_huedties_k19_fans_holds
