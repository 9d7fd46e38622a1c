import PyProof.Rows.All
import Wide.All
import OpenK.AllK
import Wide.FinOn
import Lean
import PyProof.EqAt
import PyProof.EqKinds
import PyProof.TupleCall
import PyProof.EnumMake
import PyProof.Draws
import PyProof.ZipIter
import PyProof.ConsumeWalk
import PyProof.NeKinds
import PyProof.ListRange
import PyProof.ReprRoads
import PyProof.ReprBulk
import PyProof.CallStr
import PyProof.Rows.SeqMore
import KE.KMinBuiltin
import PyProof.MinMaxWalk
import PyProof.DictRoadsH
import PyProof.Rows.SetFrom
import PyProof.SetRoads
import PyProof.Rows.SortShell
import PyProof.SumWalkG
import PyProof.Rows.SortShellK
import PyProof.Rows.SortWalk
import PyProof.WalksMore
import PyProof.FactsAll.subtypes_4
import PyProof.SetNew
import PyProof.Rows.SetObj
import KE.KRevSl
import PyProof.AutoSeq1
import PyProof.WalkInts
import PyProof.StationsW
import PyProof.ExcClass3
import KE.KDictOf
import PyProof.AttrMissHeap
import PyProof.DictCompW
import PyProof.FitsInt
import PySem.Challenge.RW_huedties_k32_hued_by_halves
set_option Elab.async false
set_option linter.all false
set_option maxRecDepth 100000
abbrev EE:=List (Nat×Nat)
theorem gM{α:Type}{l:List α}{i:Nat}{a:α}(h:l[i]?=some a):∃h:i<l.length,l[i]=a:=List.getElem?_eq_some_iff.mp h
theorem oj{α:Type}{a b:α}(h:some a=some b):a=b:=Option.some.inj h
namespace L2
open PySem PySem.Spec PyProof.Rows
abbrev Key:=Sum Int Str
def Ch:Key->Value->Bool
 | .inl k,v=>Value.isInt k v
 | .inr x,v=>Value.isStrOf x v
def Vs(w:World):Key->Int
 | .inl k=>hashInt k
 | .inr x=>hashStr w x
theorem n8:∀{k:Key} {v:Value},Ch k v=true->(∃ i t,k=Sum.inl i/\v=Value.int i t)\/(∃ x t,k=Sum.inr x/\v=Value.str x t)
 | .inl i,v,h=>by
   obtain⟨t,e⟩:=Value.isInt_shape (k:=i) (v:=v) h;exact .inl ⟨i,t,rfl,e⟩
 | .inr x,v,h=>by
   obtain⟨t,e⟩:=Value.isStrOf_shape (x:=x) (v:=v) h;exact .inr ⟨x,t,rfl,e⟩
theorem KY(i:Int)(t:Tok):Ch (.inl i) (.int i t)=true:=by simp[Ch,Value.isInt]
theorem KZ(x:Str)(t:Tok):Ch (.inr x) (.str x t)=true:=by simp[Ch,Value.isStrOf]
theorem SQ(a b:Int):decide ((Sum.inl a:Key)=Sum.inl b)=(a == b):=by
 by_cases e:a=b
 ·subst e;simp
 ·have h:¬ (Sum.inl a:Key)=Sum.inl b:=fun q=>e (Sum.inl.inj q);rw[decide_eq_false h];exact(beq_eq_false_iff_ne.mpr e).symm
theorem SR(a b:Str):decide ((Sum.inr a:Key)=Sum.inr b)=decide (a=b):=by
 by_cases e:a=b
 ·subst e;simp
 ·have h:¬ (Sum.inr a:Key)=Sum.inr b:=fun q=>e (Sum.inr.inj q);rw[decide_eq_false h,decide_eq_false e]
theorem SS(a:Int)(b:Str):decide ((Sum.inl a:Key)=Sum.inr b)=false:=decide_eq_false (fun q=>nomatch q)
theorem ST(a:Str)(b:Int):decide ((Sum.inr a:Key)=Sum.inl b)=false:=decide_eq_false (fun q=>nomatch q)
def m4(prog:Program)(w:World):PySem.KeyKind prog w Key where
 is:=Ch
 hash:=Vs w
 inj:=fun v a b ha hb=>by
  rcases n8 ha with⟨i,t,rfl,rfl⟩ | ⟨x,t,rfl,rfl⟩
  ·rcases n8 hb with⟨j,u,rfl,e⟩ | ⟨y,u,rfl,e⟩
   ·injection e with e1 _;rw[e1]
   ·exact nomatch e
  ·rcases n8 hb with⟨j,u,rfl,e⟩ | ⟨y,u,rfl,e⟩
   ·exact nomatch e
   ·injection e with e1 _;rw[e1]
 byValue:=fun k v h=>by
   rcases n8 h with⟨i,t,rfl,rfl⟩ | ⟨x,t,rfl,rfl⟩<;>rfl
 pyHash:=fun hv h=>by
  rcases n8 hv with⟨i,t,rfl,rfl⟩ | ⟨x,t,rfl,rfl⟩
  ·exact wpAny_pyHash_int h
  ·exact wpAny_pyHash_str h
 eqBool:=fun hu hv h=>by
  rcases n8 hu with⟨i,t,rfl,rfl⟩ | ⟨x,t,rfl,rfl⟩
  ·rcases n8 hv with⟨j,u,rfl,rfl⟩ | ⟨y,u,rfl,rfl⟩
   ·rw[SQ]at h;exact wpAny_eqBool_int h
   ·rw[SS]at h;exact SeqAt.EqAt.int_str i t y u _ _ _ _ h
  ·rcases n8 hv with⟨j,u,rfl,rfl⟩ | ⟨y,u,rfl,rfl⟩
   ·rw[ST]at h;exact SeqAt.EqAt.str_int x t j u _ _ _ _ h
   ·rw[SR]at h;exact wpAny_eqBool_str h
 «strs»:=fun k x t v h=>by
  rcases n8 h with⟨i,u,rfl,e⟩ | ⟨y,u,rfl,e⟩
  ·exact nomatch e
  ·injection e with e1 _;subst e1;cases v<;>rfl
theorem IB(prog:Program)(w:World)(k:Key)(v:Value):(m4 prog w).is k v=Ch k v:=rfl
theorem GB(prog:Program)(w:World)(i:Int)(t:Tok):(m4 prog w).is (.inl i) (.int i t)=true:=KY i t
theorem GC(prog:Program)(w:World)(x:Str)(t:Tok):(m4 prog w).is (.inr x) (.str x t)=true:=KZ x t
open PySem PySem.Spec PyProof.Rows
inductive V where
 | non | bl (b:Bool) | int (i:Int) | str (x:Str) | byt (b:Array UInt8) | flt (b:UInt64) | ref (a:Addr) | ty (n:String)
 deriving DecidableEq
def RelV:V->Value->Prop
 | .non,u=>u=Value.none
 | .bl b,u=>u=Value.bool b
 | .int i,u=>∃ t,u=Value.int i t
 | .str x,u=>∃ t,u=Value.str x t
 | .byt b,u=>∃ t,u=Value.bytes b t
 | .flt b,u=>∃ t,u=Value.float b t
 | .ref a,u=>u=Value.ref a
 | .ty n,u=>u=Value.type n
abbrev Vals:List V->List Value->Prop:=Paired RelV
theorem Vals.length{xs:List V}{us:List Value}(r:Vals xs us):xs.length=us.length:=Paired.length r
theorem Vals.get:∀{xs:List V} {us:List Value} {i:Nat} {x:V},Vals xs us->xs[i]?=some x->∃ u,us[i]?=some u/\RelV x u
 | _,_,_,_,.nil,e=>by simp at e
 | _,_,0,_,.cons r _,e=>by simp at e;subst e;exact⟨_,rfl,r⟩
 | _,_,i+1,x,.cons _ t,e=>by
   obtain⟨u,h1,h2⟩:=Vals.get (i:=i) (x:=x) t (by simpa using e);exact⟨u,by simpa using h1,h2⟩
theorem Vals.set{x:V}{u:Value}(r:RelV x u):∀{xs:List V} {us:List Value} (i:Nat),Vals xs us->Vals (xs.set i x) (us.set i u)
 | _,_,_,.nil => .nil
 | _,_,0,.cons _ t => .cons r t
 | _,_,i+1,.cons q t => .cons q (Vals.set r i t)
theorem Vals.append:∀{xs ys:List V} {us ws:List Value},Vals xs us->Vals ys ws->Vals (xs++ys) (us++ws)
 | _,_,_,_,.nil,s=>s
 | _,_,_,_,.cons r t,s => .cons r (Vals.append t s)
theorem Vals.take:∀{xs:List V} {us:List Value} (n:Nat),Vals xs us->Vals (xs.take n) (us.take n)
 | _,_,0,_ => .nil
 | _,_,_+1,.nil => .nil
 | _,_,n+1,.cons r t => .cons r (Vals.take n t)
theorem Vals.drop:∀{xs:List V} {us:List Value} (n:Nat),Vals xs us->Vals (xs.drop n) (us.drop n)
 | _,_,0,r=>r
 | _,_,_+1,.nil => .nil
 | _,_,n+1,.cons _ t=>Vals.drop n t
def RelO:Option V->Option Value->Prop
 | some v,some u=>RelV v u
 | none,none=>True
 | _,_=>False
def KV{κ:Type}:List (κ×V)->List (κ×Value)->Prop:=Paired fun(p:κ×V) (q:κ×Value)=>p.1=q.1/\RelV p.2 q.2
def kV:Key->V
 | .inl i => .int i
 | .inr x => .str x
inductive HO where
 /-- a list -/
 | lst (xs:List V)
 /-- a tuple (never changes) -/
 | tup (xs:List V)
 /-- a dict whose keys are ints and texts;one whose keys are tuples of ints and texts (the empty one is both) -/
 | dK (kvs:List (Key×V)) | dT (kvs:List (List Key×V))
 /-- a set of ints: its members,its size -/
 | set (S:Int->Bool) (n:Nat)
 /-- an instance of the class at C,its dict at dx,its attributes -/
 | ins (C dx:Addr) (fs:List (Str×V))
 /-- the dict of the instance at x -/
 | own (x:Addr)
 /-- the dict of an exception -/
 | xd (fs:List (Str×V))
 /-- a bound method,f of x -/
 | met (f x:Addr)
 /-- a range object lo,lo+1,.. below hi -/
 | rng (lo hi:Int)
 /-- a thing that is known to the object (the script;a dict while a loop walks it): read,never written while it is so -/
 | frz (o:Obj) (u:HO)
 /-- a code object's table -/
 | tbl (ps:Array Value)
 /-- any other thing,by what is true of its one object (a def of one's own: SetO a S n:=HO.ext fun h => ..) -/
 | ext (φ:Heap->Prop)
abbrev Hp:=Addr->Option HO
def upd(H:Hp)(a:Addr)(o:HO):Hp:=fun b=>if b=a then some o else H b
theorem f7{H:Hp}{a:Addr}{o:HO}:upd H a o a=some o:=by unfold upd;rw[if_pos rfl]
theorem upd_ne{H:Hp}{a b:Addr}{o:HO}(h:b≠a):upd H a o b=H b:=by unfold upd;rw[if_neg h]
theorem RS{H:Hp}{a b:Addr}{o u:HO}(h:H a=some o)(h':H b=some u)(d:o≠u):a≠b:=by
 intro e;subst e;rw[h]at h';exact d (oj h')
theorem e8{H:Hp}{a b:Addr}{o:HO}(h:H a=some o)(h':H b=none):a≠b:=by
 intro e;subst e;rw[h]at h';cases h'
section
variable(P:Program)(w:World)
def ObjOk(H:Hp)(h:Heap)(a:Addr):HO->Prop
 | .lst xs=>xs.length<=sizeLine/\∃(its:List Value) (n:Nat),Vals xs its/\h.get? a=some {cls := .type "list",data := .seq its.toArray n}
 | .tup xs=>xs.length<=sizeLine/\∃ its:List Value,Vals xs its/\IsTup h a its.toArray
 | .dK kvs=>kvs.length<=sizeLine/\(a == sysModules)=false/\∃ vs,KV kvs vs/\h.DictOf (m4 P w) a vs
 | .dT kvs=>kvs.length<=sizeLine/\(a == sysModules)=false/\∃ xs:List (List Key×Addr×Value),
    Paired (fun(p:List Key×V) (q:List Key×Addr×Value)=>p.1=q.1/\H q.2.1=some (.tup (p.1.map kV))/\RelV p.2 q.2.2) kvs xs/\
    ∃ o es ep,h.get? a=some o/\o.ExactDict/\o.data = .dict es ep/\es.toList=xs.map (entryOfKey (tupleKind (m4 P w)))/\(xs.map (·.1)).Nodup
 | .set S n=>h.SetOf (intKind P w) a S n
 | .ins C dx fs=>H dx=some (.own a)/\fs.length<=1000/\dx≠a/\h.get? a=some (PySem.W.instObj C dx)/\
    ∃ mA,h.Ns1 dx mA/\(∀ f,RelO (fs.lookup f) (mA f))/\PySem.Within mA (fs.map (·.1))
 | .own _=>∃ o,h.get? a=some o
 | .xd fs=>∃ mA,h.Ns1 a mA/\∀ f,RelO (fs.lookup f) (mA f)
 | .rng lo hi=>∃ t u v,h.get? a=some {cls := .type "range",data := .fields #[.int lo t,.int hi u,.int 1 v]}
 | .frz o u=>h.get? a=some o/\ObjOk H h a u
 | .tbl ps=>h.get? a=some {cls := .none,data := .fields ps}
 | .met f x=>h.get? a=some (PySem.W.methodObj (.ref f) (.ref x))
 | .ext φ=>φ h/\(∃ o,h.get? a=some o)/\∀ h1 h2:Heap,φ h1->(∀ o,h1.get? a=some o->h2.get? a=some o)->φ h2
def HOk(H:Hp)(h:Heap):Prop:=∀ a o,H a=some o->ObjOk P w H h a o
end
section
variable{P:Program}{w:World}{H H':Hp}{h h':Heap}{a:Addr}{o:HO}
theorem ObjOk.lt(x:ObjOk P w H h a o):a<h.objs.size:=by
 cases o with
 | lst xs=>obtain⟨_,_,_,_,e⟩:=x;exact Heap.lt_size e
 | tup xs=>obtain⟨_,_,_,p⟩:=x;exact p.lt
 | dK kvs=>obtain⟨_,_,_,_,o,_,_,e,_⟩:=x;exact Heap.lt_size e
 | dT kvs=>obtain⟨_,_,_,_,o,_,_,e,_⟩:=x;exact Heap.lt_size e
 | set S n=>obtain⟨o,_,_,_,e,_⟩:=x;exact Heap.lt_size e
 | ins C dx fs=>obtain⟨_,_,_,e,_⟩:=x;exact Heap.lt_size e
 | own y=>obtain⟨_,e⟩:=x;exact Heap.lt_size e
 | xd fs=>obtain⟨_,⟨_,_,_,e,_⟩,_⟩:=x;exact Heap.lt_size e
 | rng lo hi=>obtain⟨_,_,_,e⟩:=x;exact Heap.lt_size e
 | frz ob u=>obtain⟨e,_⟩:=x;exact Heap.lt_size e
 | tbl ps=>exact Heap.lt_size (show h.get? a=some _ from x)
 | met f y=>exact Heap.lt_size (show h.get? a=some _ from x)
 | ext φ=>obtain⟨_,⟨_,e⟩,_⟩:=x;exact Heap.lt_size e
theorem Paired.mapP{α β:Type}{F G:α->β->Prop}:∀{l₁:List α} {l₂:List β},Paired F l₁ l₂->(∀ a b,F a b->G a b)->Paired G l₁ l₂
 | _,_,.nil,_ => .nil
 | _,_,.cons r t,f => .cons (f _ _ r) (Paired.mapP t f)
theorem ObjOk.stay(x:ObjOk P w H h a o)(k:∀ b u,(b=a\/H b=some (.own a))->h.get? b=some u->h'.get? b=some u)
 (ho:∀ b,H b=some (.own a)->H' b=some (.own a)) (ht:∀ b xs,H b=some (.tup xs)->H' b=some (.tup xs)):ObjOk P w H' h' a o:=by
 induction o with
 | lst xs=>obtain⟨z,its,n,r,e⟩:=x;exact⟨z,its,n,r,k _ _ (.inl rfl) e⟩
 | tup xs=>obtain⟨z,its,r,ob,e,c⟩:=x;exact⟨z,its,r,ob,k _ _ (.inl rfl) e,c⟩
 | dK kvs=>obtain⟨z,y,vs,r,ob,es,ep,e,c⟩:=x;exact⟨z,y,vs,r,ob,es,ep,k _ _ (.inl rfl) e,c⟩
 | dT kvs=>
   obtain⟨z,y,xs,r,ob,es,ep,e,c⟩:=x;exact⟨z,y,xs,Paired.mapP r fun p q z=>⟨z.1,ht _ _ z.2.1,z.2.2⟩,ob,es,ep,k _ _ (.inl rfl) e,c⟩
 | set S n=>obtain⟨ob,es,ep,t,e,c⟩:=x;exact⟨ob,es,ep,t,k _ _ (.inl rfl) e,c⟩
 | ins C dx fs=>
   obtain⟨d,z,ne,e,mA,⟨od,es,ep,e2,c⟩,r⟩:=x;exact⟨ho _ d,z,ne,k _ _ (.inl rfl) e,mA,⟨od,es,ep,k _ _ (.inr d) e2,c⟩,r⟩
 | own y=>obtain⟨ob,e⟩:=x;exact⟨ob,k _ _ (.inl rfl) e⟩
 | xd fs=>obtain⟨mA,⟨od,es,ep,e,c⟩,r⟩:=x;exact⟨mA,⟨od,es,ep,k _ _ (.inl rfl) e,c⟩,r⟩
 | rng lo hi=>obtain⟨t,u,v,e⟩:=x;exact⟨t,u,v,k _ _ (.inl rfl) e⟩
 | frz ob u ih=>obtain⟨e,q⟩:=x;exact⟨k _ _ (.inl rfl) e,ih q⟩
 | tbl ps=>
   have e:h.get? a=some {cls := .none,data := .fields ps}:=x;show h'.get? a=some {cls := .none,data := .fields ps};exact k a _ (.inl rfl) e
 | met f y=>
   have e:h.get? a=some (PySem.W.methodObj (.ref f) (.ref y)):=x;show h'.get? a=some (PySem.W.methodObj (.ref f) (.ref y));exact k a _ (.inl rfl) e
 | ext φ=>obtain⟨p,⟨o,e⟩,st⟩:=x;exact⟨st _ _ p fun o q=>k _ _ (.inl rfl) q,⟨o,k _ _ (.inl rfl) e⟩,st⟩
theorem HOk.lt(x:HOk P w H h)(e:H a=some o):a<h.objs.size:=(x a o e).lt
theorem HOk.fresh(x:HOk P w H h)(e:h.objs.size<=a):H a=none:=by
 cases q:H a with
 | none=>rfl
 | some u=>exact absurd (Nat.lt_of_lt_of_le (x.lt q) e) (Nat.lt_irrefl _)
theorem HOk.kept(x:HOk P w H h)(k:∀ b u,h.get? b=some u->h'.get? b=some u):HOk P w H h':=fun a o e=>
 (x a o e).stay (fun b u _ q=>k b u q) (fun _ q=>q) fun _ _ q=>q
theorem HOk.laid(x:HOk P w H h)(k:∀ b u,h.get? b=some u->h'.get? b=some u)(hp:h.objs.size<=a)(new:ObjOk P w (upd H a o) h' a o):HOk P w (upd H a o) h':=fun b u e=>by
 have hn:=x.fresh hp;by_cases hb:b=a
 ·subst hb;rw[f7]at e;cases e;exact new
 ·rw[upd_ne hb]at e;exact(x b u e).stay (fun c v _ q=>k c v q) (fun c q=>by rw[upd_ne (e8 q hn)];exact q) fun c xs q=>by rw[upd_ne (e8 q hn)];exact q
end
def Rd(H:Hp)(a:Addr)(u:HO):Prop:=H a=some u\/∃ o,H a=some (.frz o u)
theorem Rd.ok{P:Program}{w:World}{H:Hp}{h:Heap}{a:Addr}{u:HO}(r:Rd H a u)(x:HOk P w H h):ObjOk P w H h a u:=by
 rcases r with r | ⟨o,r⟩
 ·exact x a u r
 ·obtain⟨_,q⟩:=x a _ r;exact q
def Mut:Option HO->Prop
 | some (.lst _)=>True
 | some (.dK _)=>True
 | some (.dT _)=>True
 | some (.set _ _)=>True
 | some (.ins _ _ _)=>True
 | some (.ext _)=>True
 | _=>False
section
variable{P:Program}{w:World}{H:Hp}{h h':Heap}{x e:Addr}{o':HO}
theorem HOk.write(ok:HOk P w H h)(mu:Mut (H x))(he:e=x\/H e=some (.own x))(k:∀ b u,b≠e->h.get? b=some u->h'.get? b=some u)(heo:∃ u,h'.get? e=some u)
 (new:ObjOk P w (upd H x o') h' x o'):HOk P w (upd H x o') h':=fun b u q=>by
 have nown:∀ c y,H c=some (.own y)->c≠x:=fun c y r z=>by subst z;rw[r]at mu;exact mu
 have ntup:∀ c xs,H c=some (.tup xs)->c≠x:=fun c xs r z=>by subst z;rw[r]at mu;exact mu
 by_cases hb:b=x
 ·subst hb;rw[f7]at q;cases q;exact new
 ·rw[upd_ne hb]at q;by_cases hbe:b=e
  ·have q':H b=some (.own x):=by
    rcases he with z | z
    ·exact absurd (hbe.trans z) hb
    ·rw[hbe];exact z
   rw[q]at q';cases q';obtain⟨v,hv⟩:=heo;exact⟨v,by rw[hbe];exact hv⟩
  ·refine(ok b u q).stay (fun c v hc r=>k c v ?_ r) (fun c r=>by rw[upd_ne (nown c b r)];exact r) fun c xs r=>by rw[upd_ne (ntup c xs r)];exact r
   rcases hc with rfl | hc
   ·exact hbe
   ·rintro rfl;rcases he with z | z
    ·exact nown c b hc z
    ·rw[hc]at z;cases z;exact hb rfl
end
structure Un(fs ex:List Addr)(H H':Hp)(h h':Heap):Prop where
 keep:∀ b o,h.get? b=some o->H b=none->b∉fs->b∉ex->h'.get? b=some o
 slot:∀ b o,h.get? b=some o->H b=none->b∈fs->b∉ex->∃ sl,h'.get? b=some {o with slots:=sl}
 free:∀ b o,h.get? b=some o->H b=none->b∉ex->H' b=none
 there:∀ b o,h.get? b=some o->b∉ex->∃ o',h'.get? b=some o'
 tups:∀ b xs,H b=some (.tup xs)->H' b=some (.tup xs)
 frzs:∀ b o u,H b=some (.frz o (.lst u))->H' b=some (.frz o (.lst u))
 tbls:∀ b ps,H b=some (.tbl ps)->∃ more,H' b=some (.tbl (ps++more))
section
variable{fs fs' ex ex':List Addr}{H H1 H2:Hp}{h h1 h2 h':Heap}{a x e:Addr}{o:HO}
theorem Un.any(u:Un fs ex H H1 h h1){b:Addr}{ob:Obj}(q:h.get? b=some ob)(n:H b=none)(hx:b∉ex):∃ sl,h1.get? b=some {ob with slots:=sl}:=by
 by_cases hb:b∈fs
 ·exact u.slot b ob q n hb hx
 ·exact⟨ob.slots,u.keep b ob q n hb hx⟩
theorem Un.kept(k:∀ b u,h.get? b=some u->h'.get? b=some u):Un fs ex H H h h':=
 ⟨fun b ob q _ _ _=>k b ob q,fun b ob q _ _ _=>⟨ob.slots,k b ob q⟩,fun _ _ _ n _=>n,fun b ob q _=>⟨ob,k b ob q⟩,fun _ _ q=>q,fun _ _ _ q=>q,fun _ ps q=>⟨#[],by rw[q];simp⟩⟩
theorem Un.refl:Un fs ex H H h h:=Un.kept fun _ _ q=>q
theorem Un.laid(k:∀ b u,h.get? b=some u->h'.get? b=some u)(hp:h.objs.size<=a)(hn:H a=none):Un fs ex H (upd H a o) h h' where
 keep:=fun b u q _ _ _=>k b u q
 slot:=fun b u q _ _ _=>⟨u.slots,k b u q⟩
 free:=fun b u q n _=>by rw[upd_ne (Nat.ne_of_lt (Nat.lt_of_lt_of_le (Heap.lt_size q) hp))];exact n
 there:=fun b u q _=>⟨u,k b u q⟩
 tups:=fun b xs q=>by rw[upd_ne (e8 q hn)];exact q
 frzs:=fun b u xs q=>by rw[upd_ne (e8 q hn)];exact q
 tbls:=fun b ps q=>⟨#[],by rw[upd_ne (e8 q hn),q];simp⟩
theorem Un.write(mu:Mut (H x))(he:e=x\/H e=some (.own x))(k:∀ b u,b≠e->h.get? b=some u->h'.get? b=some u)(heo:∃ u,h'.get? e=some u):Un fs ex H (upd H x o) h h':=by
 have hx:∀ b,H b=none->b≠x:=fun b n z=>by subst z;rw[n]at mu;exact mu
 have hb:∀ b,H b=none->b≠e:=fun b n z=>by
  subst z;rcases he with r | r
  ·exact hx b n r
  ·rw[n]at r;cases r
 have hm:∀ b u,H b=some u->¬ Mut (some u)->b≠x:=fun b u q nm z=>by subst z;rw[q]at mu;exact nm mu
 refine⟨fun b u q n _ _=>k b u (hb b n) q,fun b u q n _ _=>⟨u.slots,k b u (hb b n) q⟩,fun b u q n _=>by rw[upd_ne (hx b n)];exact n,fun b u q _=>?_,
  fun b xs q=>by rw[upd_ne (hm b _ q fun z=>z)];exact q,fun b u xs q=>by rw[upd_ne (hm b _ q fun z=>z)];exact q,fun b ps q=>⟨#[],by rw[upd_ne (hm b _ q fun z=>z),q];simp⟩⟩
 by_cases hbe:b=e
 ·subst hbe;exact heo
 ·exact⟨u,k b u hbe q⟩
end
def trk(h:Heap)(H:Hp):List Addr:=(List.range h.objs.size).filter fun a=>(H a).isSome
def FL(h:Heap)(H:Hp):Heap:=PySem.W.hideAll h (trk h H)
theorem Ka(h:Heap)(H:Hp):(FL h H).objs.size=h.objs.size:=PySem.W.hideAll_size _ _
theorem MJ{h:Heap}{H:Hp}{b:Addr}{o:Obj}(e:h.get? b=some o)(n:H b=none):(FL h H).get? b=some o:=
 PySem.W.hideAll_get _ e fun hm=>by
  have q:(H b).isSome=true:=(List.mem_filter.mp hm).2;rw[n]at q;simp at q
theorem PQ{h:Heap}{H:Hp}{b:Addr}{o:Obj}(e:(FL h H).get? b=some o):h.get? b=some o/\H b=none:=by
 have e':h.get? b=some o:=PySem.W.of_hideAll (trk h H) e;refine⟨e',?_⟩;cases q:H b with
 | none=>rfl
 | some x=>
   have hm:b∈trk h H:=List.mem_filter.mpr ⟨List.mem_range.mpr (Heap.lt_size e'),by simp[q]⟩;have z:(FL h H).get? b=none:=PySem.W.hideAll_none (trk h H) hm;rw[z]at e;cases e
open PySem PySem.Spec PyProof.Rows
structure Mod(K:PySem.W.Frag)(mg:Str->Option Value)(base:Heap):Prop where
 kin:K.In base
 glob:base.Ns mainGlobals mg
 blt:∃ mb,base.Ns builtinsNs mb/\∀ x:Str,x≠"__name__"->mb x=bootBuiltins x
 nolimit:base.NoLimit
structure Cx where
 prog:Program
 w:World
 K:PySem.W.Frag
 mg:Str->Option Value
 base:Heap
 A:Around
 N:List Str
 s₀:Shared
 H₀:Hp
 env:Env
 outer:List Env
 stack:List Env
 ex:List Addr
 fn:Str->Bool
 calm:Bool
 pn:List (Addr×Obj)
 xe:Value->Shared->Prop
def frs(l:List Env):List Addr:=l.filterMap (·.frame)
abbrev Cx.fs(X:Cx):List Addr:=frs X.outer
def Vis(sc:Scope)(x:Str):Prop:=sc.names.lookup x=some .local\/sc.names.lookup x=some .cell\/sc.names.lookup x=some .free
def Loc(sc:Scope)(x:Str):Prop:=sc.names.lookup x=some .local\/sc.names.lookup x=some .cell
def Look(env:Env)(h:Heap)(m:Str->Option Value)(x:Str)(u:Value):Prop:=
 (env.kindOf x=some .local/\m x=some u)\/((env.kindOf x=some .cell\/env.kindOf x=some .free)/\∃ c,env.cells.lookup x=some c/\h.IsCell c (some u))
structure Cx.Ok(X:Cx):Prop where
 mod:Mod X.K X.mg X.base
 kind:X.env.scope.kind = .function
 glob:X.env.globals=mainGlobals
 blt:X.env.builtins=builtinsNs
 above:X.s₀.heap.objs.size<=X.env.locals
 inj:∀ x y c,X.env.cells.lookup x=some c->X.env.cells.lookup y=some c->x=y
 has:∀ x,(X.env.kindOf x=some .cell\/X.env.kindOf x=some .free)->∃ c,X.env.cells.lookup x=some c
 cab:∀ x c,X.fn x=true->X.env.cells.lookup x=some c->X.s₀.heap.objs.size<=c
 hd:X.calm=true->X.A.handled=none
 frames:X.A.frames=some X.stack
 stk:X.stack=X.outer\/(X.stack=X.env::X.outer/\X.env.frame=some X.env.locals)
 exf:∀ b∈X.ex,b≠X.env.locals/\∀ x c,X.env.cells.lookup x=some c->c≠b
 bs:∀ b o,X.base.get? b=some o->X.s₀.heap.get? b=some o/\X.H₀ b=none
 bsz:X.base.objs.size<=X.s₀.heap.objs.size
 noex:∀ b o,X.base.get? b=some o->b∉X.ex
 exfs:∀ b∈X.ex,b∉X.fs
 funs:X.s₀.heap.FunFrames X.base X.outer
 frf:∀ b∈X.fs,X.H₀ b=none
structure Inv(X:Cx)(pins:List (Addr×Obj))(σ:List (Option V))(H:Hp)(s:Shared):Prop where
 ok:X.Ok
 os:s.os=X.s₀.os
 bare:AllBare s.gens
 base:Un X.fs X.ex X.H₀ H X.s₀.heap s.heap
 loc:∃ m,s.heap.Ns X.env.locals m/\∀(i:Nat) (x:Str) (v:V),X.N[i]?=some x->σ[i]?=some (some v)->Vis X.env.scope x->∃ u,RelV v u/\Look X.env s.heap m x u
 cell:∀ x c,X.env.cells.lookup x=some c->∃ v,s.heap.IsCell c v
 free:H X.env.locals=none
 freeC:∀ x c,X.env.cells.lookup x=some c->H c=none
 pin:∀ p∈X.pn++pins,s.heap.get? p.1=some p.2/\H p.1=none/\p.1≠X.env.locals/\p.1∉X.fs/\∀ v,p.2.data ≠ .cell v
 hok:HOk X.prog X.w H s.heap
 len:σ.length=X.N.length
section
variable{X:Cx}{pins:List (Addr×Obj)}{σ:List (Option V)}{H H':Hp}{s:Shared}{h':Heap}
theorem Cx.Ok.nofr(ok:X.Ok){b:Addr}{o:Obj}(e:X.base.get? b=some o):b∉X.fs:=fun hb=>by
 have:=(ok.funs.mem hb).1;rw[e]at this;cases this
theorem Inv.bs(I:Inv X pins σ H s):∀ b o,X.base.get? b=some o->s.heap.get? b=some o/\H b=none:=fun b o e=>
 ⟨I.base.keep b o (I.ok.bs b o e).1 (I.ok.bs b o e).2 (I.ok.nofr e) (I.ok.noex b o e),I.base.free b o (I.ok.bs b o e).1 (I.ok.bs b o e).2 (I.ok.noex b o e)⟩
theorem Inv.bk(I:Inv X pins σ H s):∀ b o,X.base.get? b=some o->s.heap.get? b=some o:=fun b o e=>(I.bs b o e).1
theorem Inv.mod(I:Inv X pins σ H s):Mod X.K X.mg X.base:=I.ok.mod
theorem Inv.kIn(I:Inv X pins σ H s):X.K.In s.heap:=I.ok.mod.kin.keeps I.bk
theorem Inv.fr(I:Inv X pins σ H s):∃ m,Fr X.base X.env.locals s.heap m:=
 let ⟨m,hn,_⟩:=I.loc
 ⟨m,hn,I.bk,Nat.le_trans I.ok.bsz I.ok.above⟩
theorem Inv.lt(I:Inv X pins σ H s):X.env.locals<s.heap.objs.size:=let ⟨_,hn,_⟩:=I.loc;hn.lt
theorem Inv.sz(I:Inv X pins σ H s):X.s₀.heap.objs.size<=s.heap.objs.size:=Nat.le_trans I.ok.above (Nat.le_of_lt I.lt)
theorem Inv.nofs(I:Inv X pins σ H s){a:Addr}(h:s.heap.objs.size<=a):a∉X.fs:=fun hb=>by
 obtain⟨_,o,ho,_⟩:=I.ok.funs.mem hb;exact absurd (Nat.lt_of_lt_of_le (Heap.lt_size ho) (Nat.le_trans I.sz h)) (Nat.lt_irrefl _)
theorem Inv.cne(I:Inv X pins σ H s):∀ x c,X.env.cells.lookup x=some c->c≠X.env.locals:=fun x c e z=>by
 obtain⟨v,o,ho,hd⟩:=I.cell x c e;obtain⟨m,⟨o',es,ep,ho',hd',_⟩,_⟩:=I.loc;rw[z,ho']at ho;cases ho;rw[hd']at hd;cases hd
theorem Inv.funs(I:Inv X pins σ H s):s.heap.FunFrames X.base X.outer:=by
 have all:∀(l:List Env),(∀ b∈frs l,b∈X.fs)->X.s₀.heap.FunFrames X.base l->s.heap.FunFrames X.base l:=by
  intro l
  induction l with
  | nil=>intro _ _;trivial
  | cons env r ih=>
    intro hs hl;obtain⟨hk,⟨L,o,hf,hn,ho,hd⟩,hr⟩:=hl;have hL:L∈X.fs:=hs L (by unfold frs;rw[List.filterMap_cons,hf];exact List.mem_cons_self);obtain⟨sl,e⟩:=I.base.slot L o ho (I.ok.frf L hL) hL fun z=>I.ok.exfs L z hL;exact⟨hk,⟨L,_,hf,hn,e,hd⟩,ih (fun b hb=>hs b (by unfold frs;rw[List.filterMap_cons,hf];exact List.mem_cons_of_mem _ hb)) hr⟩
 exact all X.outer (fun _ hb=>hb) I.ok.funs
theorem Inv.stack(I:Inv X pins σ H s):s.heap.FunFrames X.base X.stack:=by
 rcases I.ok.stk with e | ⟨e,hf⟩
 ·rw[e];exact I.funs
 ·rw[e];obtain⟨m,hn,_⟩:=I.loc;refine .cons (by rw[I.ok.kind];decide) hf hn ?_ I.funs;exact Heap.get?_none_of_le (Nat.le_trans I.ok.bsz I.ok.above)
theorem Inv.stkSub(I:Inv X pins σ H s):∀ b∈frs X.stack,b∈X.env.locals::X.fs:=fun b hb=>by
 rcases I.ok.stk with e | ⟨e,hf⟩
 ·rw[e]at hb;exact List.mem_cons_of_mem _ hb
 ·rw[e]at hb;unfold frs at hb;rw[List.filterMap_cons,hf]at hb;exact hb
theorem Inv.stkFree(I:Inv X pins σ H s):∀ b∈frs X.stack,H b=none:=fun b hb=>by
 rcases List.mem_cons.mp (I.stkSub b hb) with e | hb
 ·rw[e];exact I.free
 ·obtain⟨_,o,ho,_⟩:=I.ok.funs.mem hb;exact I.base.free b o ho (I.ok.frf b hb) fun z=>I.ok.exfs b z hb
theorem Inv.step{g':Array GenState}{t':Nat}{d':Drawn}{ch:List Addr}(I:Inv X pins σ H s)
 (hch:∀ b∈ch,(b∈X.ex\/X.s₀.heap.objs.size<=b)/\b≠X.env.locals/\(∀ x c,X.env.cells.lookup x=some c->c≠b)/\∀ p∈X.pn++pins,p.1≠b)
 (keep:∀ b o,b≠X.env.locals->b∉X.fs->b∉ch->s.heap.get? b=some o->H b=none->h'.get? b=some o)
 (slot:∀ b o,b≠X.env.locals->b∈X.fs->b∉ch->s.heap.get? b=some o->H b=none->∃ sl,h'.get? b=some {o with slots:=sl}) (free:∀ b o,b∉ch->s.heap.get? b=some o->H b=none->H' b=none)
 (there:∀ b o,b∉ch->s.heap.get? b=some o->∃ o',h'.get? b=some o')
 (tups:∀ b xs,H b=some (.tup xs)->H' b=some (.tup xs)) (frzs:∀ b o u,H b=some (.frz o (.lst u))->H' b=some (.frz o (.lst u))) (tbls:∀ b ps,H b=some (.tbl ps)->∃ more,H' b=some (.tbl (ps++more)))
 (ns:∀ m,s.heap.Ns X.env.locals m->h'.Ns X.env.locals m) (hok:HOk X.prog X.w H' h') (hg:AllBare g'):
 Inv X pins σ H' {s with heap:=h',gens:=g',drawn:=d',toks:=t'}:=by
 have neL:∀ b o,X.s₀.heap.get? b=some o->b≠X.env.locals:=fun b o e=>Nat.ne_of_lt (Nat.lt_of_lt_of_le (Heap.lt_size e) I.ok.above)
 have neC:∀ b o,X.s₀.heap.get? b=some o->b∉X.ex->b∉ch:=fun b o e hx hb=>by
  rcases(hch b hb).1 with z | z
  ·exact hx z
  ·exact absurd (Nat.lt_of_lt_of_le (Heap.lt_size e) z) (Nat.lt_irrefl _)
 have cellK:∀ x c,X.env.cells.lookup x=some c->∀ v,s.heap.IsCell c v->h'.IsCell c v:=fun x c e v ⟨o,ho,hd⟩=>by
  have nch:c∉ch:=fun z=>(hch c z).2.2.1 x c e rfl;by_cases hc:c∈X.fs
  ·obtain⟨sl,q⟩:=slot c o (I.cne x c e) hc nch ho (I.freeC x c e);exact⟨_,q,hd⟩
  ·exact⟨o,keep c o (I.cne x c e) hc nch ho (I.freeC x c e),hd⟩
 refine⟨I.ok,I.os,hg,⟨fun b o e n hb hx=>?_,fun b o e n hb hx=>?_,fun b o e n hx=>?_,fun b o e hx=>?_,fun b xs e=>tups b xs (I.base.tups b xs e),fun b o xs e=>frzs b o xs (I.base.frzs b o xs e),fun b ps e=>?_⟩,?_,fun x c e=>?_,?_,fun x c e=>?_,fun p hp=>?_,hok,I.len⟩
 ·exact keep b o (neL b o e) hb (neC b o e hx) (I.base.keep b o e n hb hx) (I.base.free b o e n hx)
 ·obtain⟨sl,e1⟩:=I.base.slot b o e n hb hx;obtain⟨sl',e2⟩:=slot b _ (neL b o e) hb (neC b o e hx) e1 (I.base.free b o e n hx);exact⟨sl',e2⟩
 ·obtain⟨o',e1⟩:=I.base.there b o e hx;exact free b o' (neC b o e hx) e1 (I.base.free b o e n hx)
 ·obtain⟨o',e1⟩:=I.base.there b o e hx;exact there b o' (neC b o e hx) e1
 ·obtain⟨m1,e1⟩:=I.base.tbls b ps e;obtain⟨m2,e2⟩:=tbls b _ e1;exact⟨m1++m2,by rw[e2,Array.append_assoc]⟩
 ·obtain⟨m,hn,hl⟩:=I.loc;refine⟨m,ns m hn,fun i x v e1 e2 e3=>?_⟩;obtain⟨u,r,l⟩:=hl i x v e1 e2 e3;refine⟨u,r,?_⟩;rcases l with l | ⟨k,c,e,z⟩
  ·exact .inl l
  ·exact .inr ⟨k,c,e,cellK x c e _ z⟩
 ·obtain⟨v,z⟩:=I.cell x c e;exact⟨v,cellK x c e v z⟩
 ·obtain⟨m,⟨o,_,_,ho,_⟩,_⟩:=I.loc;exact free _ o (fun z=>(hch _ z).2.1 rfl) ho I.free
 ·obtain⟨v,o,ho,hd⟩:=I.cell x c e;exact free c o (fun z=>(hch c z).2.2.1 x c e rfl) ho (I.freeC x c e)
 ·obtain⟨e,n,ne,nf,d⟩:=I.pin p hp;have nch:p.1∉ch:=fun z=>(hch p.1 z).2.2.2 p hp rfl;exact⟨keep p.1 p.2 ne nf nch e n,free p.1 p.2 nch e n,ne,nf,d⟩
theorem Inv.un{t':Nat}(I:Inv X pins σ H s)(u:Un X.fs [] H H' s.heap h')(hok:HOk X.prog X.w H' h'):Inv X pins σ H' {s with heap:=h',toks:=t'}:=by
 obtain⟨m,⟨o,es,ep,ho,r⟩,_⟩:=id I.loc;obtain⟨sl,hL⟩:=u.any ho I.free (by simp)
 exact I.step (g':=s.gens) (d':=s.drawn) (ch:=[]) (fun _ z=>nomatch z) (fun b o _ hb _ e n=>u.keep b o e n hb (by simp)) (fun b o _ hb _ e n=>u.slot b o e n hb (by simp)) (fun b o _ e n=>u.free b o e n (by simp)) (fun b o _ e=>u.there b o e (by simp)) u.tups u.frzs u.tbls (fun m' hm=>by
  obtain⟨o',es',ep',ho',r'⟩:=hm;rw[ho]at ho';cases ho';exact⟨_,es',ep',hL,r'⟩) hok I.bare
theorem Inv.call{g':Array GenState}{t':Nat}{d':Drawn}{ch:List Addr}(I:Inv X pins σ H s)(u:Un (frs X.stack) ch H H' s.heap h')(hok:HOk X.prog X.w H' h')(hg:AllBare g')
 (hch:∀ b∈ch,(b∈X.ex\/X.s₀.heap.objs.size<=b)/\b≠X.env.locals/\(∀ x c,X.env.cells.lookup x=some c->c≠b)/\∀ p∈X.pn++pins,p.1≠b):
 Inv X pins σ H' {s with heap:=h',gens:=g',drawn:=d',toks:=t'}:=by
 obtain⟨m,⟨o,es,ep,ho,r⟩,_⟩:=id I.loc;obtain⟨sl,hL⟩:=u.any ho I.free fun z=>(hch _ z).2.1 rfl
 exact I.step (ch:=ch) hch (fun b o hL hb hc e n=>u.keep b o e n (fun z=>(List.mem_cons.mp (I.stkSub b z)).elim hL hb) hc) (fun b o _ _ hc e n=>u.any e n hc) (fun b o hc e n=>u.free b o e n hc) (fun b o hc e=>u.there b o e hc) u.tups u.frzs u.tbls (fun m' hm=>by
  obtain⟨o',es',ep',ho',r'⟩:=hm;rw[ho]at ho';cases ho';exact⟨_,es',ep',hL,r'⟩) hok hg
theorem Inv.turned{t':Nat}{it:Addr}(I:Inv X pins σ H s)(k:∀ b o,b≠it->s.heap.get? b=some o->h'.get? b=some o)(hn:H it=none)(hL:it≠X.env.locals)
 (h1:it∈X.ex\/X.s₀.heap.objs.size<=it) (h2:∀ x c,X.env.cells.lookup x=some c->c≠it) (h3:∀ p∈X.pn++pins,p.1≠it):Inv X pins σ H {s with heap:=h',toks:=t'}:=by
 have nit:∀ b u,H b=some u->b≠it:=fun b u e z=>by rw[z,hn]at e;cases e
 refine I.step (g':=s.gens) (d':=s.drawn) (ch:=[it]) (fun b hb=>?_) (fun b o _ _ hc e _=>k b o (fun z=>hc (by simp[z])) e) (fun b o _ _ hc e _=>⟨o.slots,k b o (fun z=>hc (by simp[z])) e⟩) (fun _ _ _ _ n=>n)
  (fun b o hc e=>⟨o,k b o (fun z=>hc (by simp[z])) e⟩) (fun _ _ e=>e) (fun _ _ _ e=>e) (fun b ps e=>⟨#[],by rw[e];simp⟩) (fun m hm=>?_) (fun b u e=>?_) I.bare
 ·have e:b=it:=by simpa using hb
  subst e;exact⟨h1,hL,h2,h3⟩
 ·obtain⟨o,es,ep,ho,r⟩:=hm;exact⟨o,es,ep,k _ o (Ne.symm hL) ho,r⟩
 ·refine(I.hok b u e).stay (fun c v hc q=>k c v ?_ q) (fun _ q=>q) fun _ _ q=>q;rcases hc with z | z
  ·rw[z];exact nit b u e
  ·exact nit c _ z
theorem Inv.tok(I:Inv X pins σ H s)(t:Nat):Inv X pins σ H {s with toks:=t}:=I.un (h':=s.heap) (t':=t) Un.refl I.hok
theorem Inv.kept{t':Nat}(I:Inv X pins σ H s)(k:∀ b u,s.heap.get? b=some u->h'.get? b=some u):Inv X pins σ H {s with heap:=h',toks:=t'}:=I.un (Un.kept k) (I.hok.kept k)
theorem Inv.laid{a:Addr}{o:HO}{t':Nat}(I:Inv X pins σ H s)(k:∀ b u,s.heap.get? b=some u->h'.get? b=some u)(hp:s.heap.objs.size<=a)(new:ObjOk X.prog X.w (upd H a o) h' a o):
 Inv X pins σ (upd H a o) {s with heap:=h',toks:=t'}:=I.un (Un.laid k hp (I.hok.fresh hp)) (I.hok.laid k hp new)
theorem Inv.write{x e:Addr}{o:HO}{t':Nat}(I:Inv X pins σ H s)(mu:Mut (H x))(he:e=x\/H e=some (.own x))(k:∀ b u,b≠e->s.heap.get? b=some u->h'.get? b=some u)(heo:∃ u,h'.get? e=some u)
 (new:ObjOk X.prog X.w (upd H x o) h' x o):Inv X pins σ (upd H x o) {s with heap:=h',toks:=t'}:=I.un (Un.write mu he k heo) (I.hok.write mu he k heo new)
theorem Inv.weak{σ':List (Option V)}(I:Inv X pins σ H s)(hl:σ'.length=σ.length)(w:∀(i:Nat) v,σ'[i]?=some (some v)->σ[i]?=some (some v)):Inv X pins σ' H s:=
 ⟨I.ok,I.os,I.bare,I.base,let ⟨m,hn,hl'⟩:=I.loc;⟨m,hn,fun i x v e1 e2 e3=>hl' i x v e1 (w i v e2) e3⟩,I.cell,I.free,I.freeC,I.pin,I.hok,hl.trans I.len⟩
theorem Inv.pins_of{pins':List (Addr×Obj)}(I:Inv X pins σ H s)(h:∀ p∈pins',s.heap.get? p.1=some p.2/\H p.1=none/\p.1≠X.env.locals/\p.1∉X.fs/\∀ v,p.2.data ≠ .cell v):Inv X pins' σ H s:=
 ⟨I.ok,I.os,I.bare,I.base,I.loc,I.cell,I.free,I.freeC,fun p hp=>(List.mem_append.mp hp).elim (fun z=>I.pin p (List.mem_append_left _ z)) (h p),I.hok,I.len⟩
theorem GD{N:List Str}(hN:N.Nodup){i j:Nat}{x:Str}(a:N[i]?=some x)(b:N[j]?=some x):i=j:=by
 obtain⟨h1,e1⟩:=gM a;obtain⟨h2,e2⟩:=gM b;exact(List.getElem_inj hN).mp (e1.trans e2.symm)
theorem C3{M:Model}{A:Around}{E:Value->Shared->Prop}{i:Nat}{x:Str}{v:V}{u:Value}{Q:Unit->Shared->Prop}(I:Inv X pins σ H s)(hN:X.N.Nodup)(hi:X.N[i]?=some x)(hx:Loc X.env.scope x)(r:RelV v u)
 (h:∀ s',Inv X pins (σ.set i (some v)) H s'->(∃ a,Heap.SameBut a s.heap s'.heap/\(a=X.env.locals\/X.env.cells.lookup x=some a))->Q () s') (hf:X.fn x=true\/X.env.scope.names.lookup x=some .local:=by first | exact .inl rfl | exact .inr rfl | assumption):wpAny M A (storeName X.env x u) Q E s:=by
 obtain⟨m,hn,hl⟩:=id I.loc;have hcls:(X.env.scope.kind == .class||(X.env.scope.kind == .module&&X.env.locals != X.env.globals))=false:=by rw[I.ok.kind];rfl
 have hiσ:i<σ.length:=by rw[I.len];exact(gM hi).1
 have cne:=I.cne
 have tracked:∀{a:Addr} {h':Heap},(∃ o,s.heap.get? a=some o/\H a=none)->Heap.SameBut a s.heap h'->HOk X.prog X.w H h':=fun{a h'} ha hs b ob e=>by
  obtain⟨_,_,hfree⟩:=ha;refine(I.hok b ob e).stay (fun c w' hc q=>(hs.2 c ?_).trans q) (fun _ q=>q) fun _ _ q=>q;rintro rfl;rcases hc with rfl | hc
  ·rw[hfree]at e;cases e
  ·rw[hfree]at hc;cases hc
 rcases hx with hk | hk
 ·refine wpAny_storeName_local hk hn (fun h' hn' hs=>?_) hcls;obtain⟨oL,_,_,hoL,_⟩:=id hn;refine h _ ⟨I.ok,I.os,I.bare,⟨fun b o e n hb hx=>?_,fun b o e n hb hx=>?_,I.base.free,fun b o e hx=>?_,I.base.tups,I.base.frzs,I.base.tbls⟩,⟨_,hn',fun j y v' e1 e2 e3=>?_⟩,fun y c e=>?_,I.free,I.freeC,fun p hp=>?_,tracked ⟨oL,hoL,I.free⟩ hs,by simpa using I.len⟩ ⟨_,hs,.inl rfl⟩
  ·exact(hs.2 b (Nat.ne_of_lt (Nat.lt_of_lt_of_le (Heap.lt_size e) I.ok.above))).trans (I.base.keep b o e n hb hx)
  ·obtain⟨sl,e1⟩:=I.base.slot b o e n hb hx;exact⟨sl,(hs.2 b (Nat.ne_of_lt (Nat.lt_of_lt_of_le (Heap.lt_size e) I.ok.above))).trans e1⟩
  ·obtain⟨o',e1⟩:=I.base.there b o e hx;exact⟨o',(hs.2 b (Nat.ne_of_lt (Nat.lt_of_lt_of_le (Heap.lt_size e) I.ok.above))).trans e1⟩
  ·by_cases hj:j=i
   ·subst hj;rw[hi]at e1;cases e1;rw[List.getElem?_set_self hiσ]at e2;cases e2;exact⟨u,r,.inl ⟨hk,by simp⟩⟩
   ·rw[List.getElem?_set_ne (Ne.symm hj)]at e2;obtain⟨u',r',q⟩:=hl j y v' e1 e2 e3;refine⟨u',r',?_⟩;rcases q with⟨k,e⟩ | ⟨k,c,e,z⟩
    ·refine .inl ⟨k,?_⟩;have:y≠x:=fun e=>hj (GD hN e1 (e▸hi));simp[this,e]
    ·exact .inr ⟨k,c,e,z.sameBut hs (cne y c e)⟩
  ·obtain⟨w',z⟩:=I.cell y c e;exact⟨w',z.sameBut hs (cne y c e)⟩
  ·obtain⟨e,n,ne,nf,d⟩:=I.pin p hp;exact⟨(hs.2 p.1 ne).trans e,n,ne,nf,d⟩
 ·have hfn:X.fn x=true:=by
   rcases hf with z | z
   ·exact z
   ·rw[z]at hk;cases hk
  obtain⟨c,hc⟩:=I.ok.has x (.inl hk);obtain⟨w',z⟩:=I.cell x c hc;refine wpAny_storeName_cell I.ok.kind hk hc z (fun h' hc' hs=>?_);obtain⟨oc,hoc,hocd⟩:=id z;refine h {s with heap:=h'} ⟨I.ok,I.os,I.bare,⟨fun b o e n hb hx=>?_,fun b o e n hb hx=>?_,I.base.free,fun b o e hx=>?_,I.base.tups,I.base.frzs,I.base.tbls⟩,⟨m,hn.sameBut hs (Ne.symm (cne x c hc)),fun j y v' e1 e2 e3=>?_⟩,fun y c' e=>?_,I.free,I.freeC,fun p hp=>?_,tracked ⟨oc,hoc,I.freeC x c hc⟩ hs,by simpa using I.len⟩ ⟨c,hs,.inr hc⟩
  ·exact(hs.2 b (Nat.ne_of_lt (Nat.lt_of_lt_of_le (Heap.lt_size e) (I.ok.cab x c hfn hc)))).trans (I.base.keep b o e n hb hx)
  ·obtain⟨sl,e1⟩:=I.base.slot b o e n hb hx;exact⟨sl,(hs.2 b (Nat.ne_of_lt (Nat.lt_of_lt_of_le (Heap.lt_size e) (I.ok.cab x c hfn hc)))).trans e1⟩
  ·obtain⟨o',e1⟩:=I.base.there b o e hx;exact⟨o',(hs.2 b (Nat.ne_of_lt (Nat.lt_of_lt_of_le (Heap.lt_size e) (I.ok.cab x c hfn hc)))).trans e1⟩
  ·by_cases hj:j=i
   ·subst hj;rw[hi]at e1;cases e1;rw[List.getElem?_set_self hiσ]at e2;cases e2;exact⟨u,r,.inr ⟨.inl hk,c,hc,hc'⟩⟩
   ·rw[List.getElem?_set_ne (Ne.symm hj)]at e2;obtain⟨u',r',q⟩:=hl j y v' e1 e2 e3;refine⟨u',r',?_⟩;rcases q with q | ⟨k,c',e,z'⟩
    ·exact .inl q
    ·refine .inr ⟨k,c',e,z'.sameBut hs ?_⟩;rintro rfl;exact hj (GD hN e1 (I.ok.inj _ _ _ e hc▸hi))
  ·by_cases hcc:c'=c
   ·subst hcc;exact⟨_,hc'⟩
   ·obtain⟨w2,z2⟩:=I.cell y c' e;exact⟨w2,z2.sameBut hs hcc⟩
  ·obtain⟨e,n,ne,nf,d⟩:=I.pin p hp;refine⟨(hs.2 p.1 ?_).trans e,n,ne,nf,d⟩;intro q;rw[q,hoc]at e;have q':oc=p.2:=oj e;exact d w' (by rw[<-q'];exact hocd)
theorem GE{M:Model}{A:Around}{E:Value->Shared->Prop}{i:Nat}{x:Str}{v:V}{u:Value}{Q:Unit->Shared->Prop}(I:Inv X pins σ H s)(hN:X.N.Nodup)(hi:X.N[i]?=some x)(hx:Loc X.env.scope x)(r:RelV v u)
 (h:∀ s',Inv X pins (σ.set i (some v)) H s'->Q () s') (hf:X.fn x=true\/X.env.scope.names.lookup x=some .local:=by first | exact .inl rfl | exact .inr rfl | assumption):wpAny M A (storeName X.env x u) Q E s:=
 C3 I hN hi hx r (fun s' I' _=>h s' I') hf
theorem Inv.call'{s':Shared}{ch:List Addr}(I:Inv X pins σ H s)(ho:s'.os=s.os)(u:Un (frs X.stack) ch H H' s.heap s'.heap)(hok:HOk X.prog X.w H' s'.heap)(hg:AllBare s'.gens)
 (hch:∀ b∈ch,(b∈X.ex\/X.s₀.heap.objs.size<=b)/\b≠X.env.locals/\(∀ x c,X.env.cells.lookup x=some c->c≠b)/\∀ p∈X.pn++pins,p.1≠b):Inv X pins σ H' s':=by
 obtain⟨h',g',d',t',o'⟩:=s';have e:o'=s.os:=ho;subst e;exact I.call (g':=g') (t':=t') (d':=d') u hok hg hch
end
abbrev XK:=Value->Option Addr->Hp->Prop
abbrev St:=List (Option V)
abbrev VK:=V->Hp->Prop
abbrev TE:=St->Hp->VK->Prop
abbrev TT:=St->Hp->(Bool->Hp->Prop)->Prop
abbrev TA:=St->Hp->(List V->Hp->Prop)->Prop
structure Ends where
 nx:St->Hp->Prop
 rt:VK
 bk:St->Hp->Prop:=fun _ _=>False
 ct:St->Hp->Prop:=fun _ _=>False
abbrev TS:=Ends->St->Hp->Prop
def EP(X:Cx)(pins:List (Addr×Obj))(σ:St)(Q:VK)(u:Value)(s':Shared):Prop:=∃ v H',Inv X pins σ H' s'/\RelV v u/\Q v H'
def TP(X:Cx)(pins:List (Addr×Obj))(σ:St)(Q:Bool->Hp->Prop)(b:Bool)(s':Shared):Prop:=∃ H',Inv X pins σ H' s'/\Q b H'
def AP(X:Cx)(pins:List (Addr×Obj))(σ:St)(Q:List V->Hp->Prop)(us:List Value)(s':Shared):Prop:=∃ vs H',Inv X pins σ H' s'/\Vals vs us/\Q vs H'
def SP(X:Cx)(pins:List (Addr×Obj))(D:Ends)(f:Flow)(s':Shared):Prop:=
 match f with
 | .next=>∃ σ' H',Inv X pins σ' H' s'/\D.nx σ' H'
 | .brk=>∃ σ' H',Inv X pins σ' H' s'/\D.bk σ' H'
 | .cont=>∃ σ' H',Inv X pins σ' H' s'/\D.ct σ' H'
 | .ret u=>∃ v σ' H',Inv X pins σ' H' s'/\RelV v u/\D.rt v H'
def PE(X:Cx)(e:Expr)(t:TE):Prop:=
 ∀(pins:List (Addr×Obj)) (s:Shared) (σ:St) (H:Hp) (Q:VK),Inv X pins σ H s->t σ H Q->wpAny (model X.prog X.w) X.A (eval e X.env) (EP X pins σ Q) X.xe s
def PT(X:Cx)(e:Expr)(t:TT):Prop:=
 ∀(pins:List (Addr×Obj)) (s:Shared) (σ:St) (H:Hp) (Q:Bool->Hp->Prop),Inv X pins σ H s->t σ H Q->wpAny (model X.prog X.w) X.A (isTrue e X.env (eval e X.env)) (TP X pins σ Q) X.xe s
def PW(X:Cx)(e:Expr)(t:TT):Prop:=
 ∀(whole:Sem Value) (pins:List (Addr×Obj)) (s:Shared) (σ:St) (H:Hp) (Q:Bool->Hp->Prop),Inv X pins σ H s->t σ H Q->wpAny (model X.prog X.w) X.A (isTrue e X.env whole) (TP X pins σ Q) X.xe s
theorem PW.pt{X:Cx}{e:Expr}{t:TT}(h:PW X e t):PT X e t:=h _
def PA(X:Cx)(es:List Expr)(t:TA):Prop:=
 ∀(pos:Pos) (pins:List (Addr×Obj)) (s:Shared) (σ:St) (H:Hp) (Q:List V->Hp->Prop),Inv X pins σ H s->t σ H Q->wpAny (model X.prog X.w) X.A (spliced (backTo pos (starEach es X.env))) (AP X pins σ Q) X.xe s
def PS(X:Cx)(st:Stmt)(t:TS):Prop:=
 ∀(pins:List (Addr×Obj)) (s:Shared) (σ:St) (H:Hp) (D:Ends),Inv X pins σ H s->t D σ H->wpAny (model X.prog X.w) X.A (exec st X.env) (SP X pins D) X.xe s
def PSs(X:Cx)(st:List Stmt)(t:TS):Prop:=
 ∀(pins:List (Addr×Obj)) (s:Shared) (σ:St) (H:Hp) (D:Ends),Inv X pins σ H s->t D σ H->wpAny (model X.prog X.w) X.A (execs st X.env) (SP X pins D) X.xe s
theorem thn{α:Type}{t:Sem α}{Q Q':α->Shared->Prop}{M:Model}{A:Around}{E:Value->Shared->Prop}{s:Shared}(h:wpAny M A t Q E s)(hQ:∀ a s,Q a s->Q' a s):wpAny M A t Q' E s:=wpAny_mono h hQ fun _ _ x=>x
open PySem PySem.Spec PyProof.Rows
section
variable{X:Cx}
def PR(i:Nat):TE:=fun σ H Q=>∃ v,σ[i]?=some (some v)/\Q v H
def tC(v:V):TE:=fun _ H Q=>Q v H
theorem SU{i:Nat}{x:Str}{pos:Pos}(hN:X.N[i]?=some x)(hv:Vis X.env.scope x)(hd:(x == ("__debug__":Str))=false:=by decide)(hcd:(x == ("__classdict__":Str))=false:=by decide):PE X (.Name x pos) (PR i):=by
 intro pins s σ H Q I h;obtain⟨v,e,h⟩:=h;obtain⟨m,hn,hl⟩:=I.loc;obtain⟨u,r,l⟩:=hl i x v hN e hv;have fin:EP X pins σ Q u s:=⟨v,H,I,r,h⟩
 rcases l with⟨hk,hm⟩ | ⟨hk,c,hc,hcell⟩
 ·exact wpAny_Name (wpAny_loadName_local I.ok.kind hk hn hm fin) hd
 ·rcases hk with hk | hk
  ·exact wpAny_Name (wpAny_loadName_cell I.ok.kind hk hc hcell fin) hd
  ·exact wpAny_Name (wpAny_loadName_free I.ok.kind hk hc hcell fin hcd) hd
theorem IC{i j pos}:PE X (.Constant (.int i) j pos) (tC (.int i)):=fun _ _ _ H _ I h=>wpAny_Constant_int ⟨.int i,H,I.tok _,⟨_,rfl⟩,h⟩
theorem UP{b j pos}:PE X (.Constant (.bool b) j pos) (tC (.bl b)):=fun _ _ _ H _ I h=>Constant_bool ⟨.bl b,H,I,rfl,h⟩
theorem SW{j pos}:PE X (.Constant .none j pos) (tC .non):=fun _ _ _ H _ I h=>Constant_none ⟨.non,H,I,rfl,h⟩
theorem SX{x j pos}:PE X (.Constant (.str x) j pos) (tC (.str x)):=fun _ _ _ H _ I h=>Calls.Constant_str ⟨.str x,H,I.tok _,⟨_,rfl⟩,h⟩
def Gl(X:Cx)(x:Str):Prop:=X.env.kindOf x=some .globalImplicit
theorem PU{E:Value->Shared->Prop}{pins:List (Addr×Obj)}{s:Shared}{σ:St}{H:Hp}{x:Str}{u:Value}{pos:Pos}{Q:Value->Shared->Prop}(I:Inv X pins σ H s)(hg:Gl X x)(hm:X.mg x=some u)(h:Q u s)
 (hd:(x == ("__debug__":Str))=false:=by decide):wpAny (model X.prog X.w) X.A (eval (.Name x pos) X.env) Q E s:=
 Calls.Name_function_global I.ok.kind hg (Calls.loadGlobal_global (by rw[I.ok.glob];exact I.mod.glob.keeps I.bk) hm h) hd
theorem Be{E:Value->Shared->Prop}{pins:List (Addr×Obj)}{s:Shared}{σ:St}{H:Hp}{x:Str}{u:Value}{pos:Pos}{Q:Value->Shared->Prop}(I:Inv X pins σ H s)(hg:Gl X x)(hm:X.mg x=none)(hv:bootBuiltins x=some u)(h:Q u s)
 (hn:x≠"__name__":=by decide) (hd:(x == ("__debug__":Str))=false:=by decide):wpAny (model X.prog X.w) X.A (eval (.Name x pos) X.env) Q E s:=by
 obtain⟨mb,h1,h2⟩:=I.mod.blt;exact Calls.Name_function_global I.ok.kind hg (Calls.loadGlobal_builtin (by rw[I.ok.glob];exact I.mod.glob.keeps I.bk) hm (by rw[I.ok.blt];exact h1.keeps I.bk) ((h2 x hn).trans hv) h) hd
theorem PV{x:Str}{v:V}{u:Value}{pos:Pos}(hg:Gl X x)(hm:X.mg x=none)(hv:bootBuiltins x=some u)(r:RelV v u)(hn:x≠"__name__":=by decide)(hd:(x == ("__debug__":Str))=false:=by decide):PE X (.Name x pos) (tC v):=
 fun _ _ _ H _ I h=>Be I hg hm hv ⟨v,H,I,r,h⟩ hn hd
variable{a b:Expr}{ta tb:TE}{pos:Pos}
def PC(X:Cx)(op:CmpOp)(a b:Expr)(t:TE):Prop:=
 ∀(pins:List (Addr×Obj)) (s:Shared) (σ:St) (H:Hp) (Q:VK),Inv X pins σ H s->t σ H Q->
  wpAny (model X.prog X.w) X.A (eval a X.env) (fun v s₁=>wpAny (model X.prog X.w) X.A (eval b X.env) (fun u s₂=>wpAny (model X.prog X.w) X.A (compareOp op v u) (EP X pins σ Q) X.xe s₂) X.xe s₁) X.xe s
def tB(t:TE):TT:=fun σ H Q=>t σ H fun x H1=>∃ c,x = .bl c/\Q c H1
theorem MK{op:CmpOp}{t:TE}(h:PC X op a b t)(h1:behindInMarks op b=false:=by first | exact nobehind _ (by decide) (by decide) | rfl):PE X (.Compare a [op] [b] pos) t:=fun pins s σ H Q I hw=>wpAny_Compare1 (h pins s σ H Q I hw) h1
theorem ML{op:CmpOp}{t:TE}(h:PC X op a b t)(h1:behindInMarks op b=false:=by first | exact nobehind _ (by decide) (by decide) | rfl):PT X (.Compare a [op] [b] pos) (tB t):=by
 intro pins s σ H Q I hw;refine wpAny_isTrue_Compare1 (thn (h pins s σ H _ I hw) fun v s1 h1=>thn h1 fun u s2 h2=>thn h2 fun c s3 ⟨x,H1,I1,r1,q1⟩=>?_) h1;obtain⟨d,rfl,q⟩:=q1;cases r1;exact wpAny_truthy_bool ⟨H1,I1,q⟩
variable{tA tB':TT}{rest:List Expr}
def UQ(t u:TT):TT:=fun σ H Q=>t σ H fun c H1=>if c=true then u σ H1 Q else Q false H1
def tOr(t u:TT):TT:=fun σ H Q=>t σ H fun c H1=>if c=true then Q true H1 else u σ H1 Q
def UR(t:TT):TT:=fun σ H Q=>t σ H fun c H1=>Q (!c) H1
theorem PX(ha:PT X a tA):PW X (.BoolOp .And [a] pos) tA:=by
 intro wh pins s σ H Q I h;refine isTrue_and (thn (ha pins s σ H Q I h) fun c s1 e=>?_);cases c with
 | true=>exact isTrue_and_nil e
 | false=>exact e
theorem SY(ha:PT X a tA):PW X (.BoolOp .Or [a] pos) tA:=by
 intro wh pins s σ H Q I h;refine isTrue_or (thn (ha pins s σ H Q I h) fun c s1 e=>?_);cases c with
 | false=>exact isTrue_or_nil e
 | true=>exact e
theorem MM(ha:PT X a tA)(hb:PW X (.BoolOp .And (b::rest) pos) tB'):PW X (.BoolOp .And (a::b::rest) pos) (UQ tA tB'):=by
 intro wh pins s σ H Q I h;refine isTrue_and (thn (ha pins s σ H _ I h) fun c s1 ⟨H1,I1,q1⟩=>?_);cases c with
 | true=>exact hb wh pins s1 σ H1 Q I1 q1
 | false=>exact⟨H1,I1,q1⟩
theorem RT(ha:PT X a tA)(hb:PW X (.BoolOp .Or (b::rest) pos) tB'):PW X (.BoolOp .Or (a::b::rest) pos) (tOr tA tB'):=by
 intro wh pins s σ H Q I h;refine isTrue_or (thn (ha pins s σ H _ I h) fun c s1 ⟨H1,I1,q1⟩=>?_);cases c with
 | true=>exact⟨H1,I1,q1⟩
 | false=>exact hb wh pins s1 σ H1 Q I1 q1
theorem SZ(ha:PT X a tA):PT X (.UnaryOp .Not a pos) (UR tA):=by
 intro pins s σ H Q I h;exact isTrue_not (ha pins s σ H (fun c H1=>Q (!c) H1) I h)
def RU(ta tb:TE):TE:=fun σ H Q=>ta σ H fun x H1=>∃ c,x = .bl c/\if c=true then tb σ H1 Q else Q (.bl false) H1
def US(ta tb:TE):TE:=fun σ H Q=>ta σ H fun x H1=>∃ c,x = .bl c/\if c=true then Q (.bl true) H1 else tb σ H1 Q
def RV(ta:TE):TE:=fun σ H Q=>ta σ H fun x H1=>∃ c,x = .bl c/\Q (.bl (!c)) H1
theorem MN{op}{t:TE}(h:PE X a t):PE X (.BoolOp op [a] pos) t:=fun pins s σ H Q I hw=>BoolOp_one (h pins s σ H Q I hw)
theorem MO(ha:PE X a ta)(hb:PE X (.BoolOp .And (b::rest) pos) tb):PE X (.BoolOp .And (a::b::rest) pos) (RU ta tb):=by
 intro pins s σ H Q I h;refine BoolOp_and (thn (ha pins s σ H _ I h) fun v s1 ⟨x,H1,I1,r1,q1⟩=>?_);obtain⟨c,rfl,q1⟩:=q1;cases r1;refine wpAny_truthy_bool ?_;cases c with
 | true=>exact hb pins s1 σ H1 Q I1 q1
 | false=>exact⟨.bl false,H1,I1,rfl,q1⟩
theorem RW(ha:PE X a ta)(hb:PE X (.BoolOp .Or (b::rest) pos) tb):PE X (.BoolOp .Or (a::b::rest) pos) (US ta tb):=by
 intro pins s σ H Q I h;refine BoolOp_or (thn (ha pins s σ H _ I h) fun v s1 ⟨x,H1,I1,r1,q1⟩=>?_);obtain⟨c,rfl,q1⟩:=q1;cases r1;refine wpAny_truthy_bool ?_;cases c with
 | false=>exact hb pins s1 σ H1 Q I1 q1
 | true=>exact⟨.bl true,H1,I1,rfl,q1⟩
theorem Sb(ha:PE X a ta):PE X (.UnaryOp .Not a pos) (RV ta):=by
 intro pins s σ H Q I h;refine UnaryOp_ (thn (ha pins s σ H _ I h) fun v s1 ⟨x,H1,I1,r1,q1⟩=>?_);obtain⟨c,rfl,q1⟩:=q1;cases r1;exact not_of (wpAny_truthy_bool ⟨.bl (!c),H1,I1,rfl,q1⟩)
def tIf(t:TT)(ta tb:TE):TE:=fun σ H Q=>t σ H fun c H1=>if c=true then ta σ H1 Q else tb σ H1 Q
theorem MP{c:Expr}(hc:PT X c tA)(ha:PE X a ta)(hb:PE X b tb):PE X (.IfExp c a b pos) (tIf tA ta tb):=by
 intro pins s σ H Q I h;refine wpAny_IfExp (thn (hc pins s σ H _ I h) fun d s1 ⟨H1,I1,q1⟩=>?_);cases d with
 | true=>exact ha pins s1 σ H1 Q I1 q1
 | false=>exact hb pins s1 σ H1 Q I1 q1
end
open PySem PySem.Spec PyProof.Rows
def SqL(K:PySem.W.Frag)(H:Hp)(a:Addr)(xs:List V):Prop:=
 Rd H a (.lst xs)\/
  ∃(o:Obj) (its:Array Value) (n:Nat),K.lookup a=some o/\o.cls = .type "list"/\o.dict=none/\o.data = .seq its n/\its.size<=sizeLine/\Vals xs its.toList
def SqT(K:PySem.W.Frag)(H:Hp)(a:Addr)(xs:List V):Prop:=
 Rd H a (.tup xs)\/
  ∃(o:Obj) (its:Array Value) (n:Nat),K.lookup a=some o/\o.cls = .type "tuple"/\o.data = .seq its n/\its.size<=sizeLine/\Vals xs its.toList
def Vt:Value->Option V
 | .none=>some .non
 | .bool b=>some (.bl b)
 | .int i _=>some (.int i)
 | .str x _=>some (.str x)
 | .bytes b _=>some (.byt b)
 | .float b _=>some (.flt b)
 | .ref a=>some (.ref a)
 | .type n=>some (.ty n)
 | _=>none
theorem RelV.abs{x:V}{u:Value}(r:RelV x u):Vt u=some x:=by
 cases x with
 | non=>cases r;rfl
 | bl _=>cases r;rfl
 | int _=>obtain⟨t,rfl⟩:=r;rfl
 | str _=>obtain⟨t,rfl⟩:=r;rfl
 | byt _=>obtain⟨t,rfl⟩:=r;rfl
 | flt _=>obtain⟨t,rfl⟩:=r;rfl
 | ref _=>cases r;rfl
 | ty _=>cases r;rfl
theorem RelV.inj{x y:V}{u:Value}(r:RelV x u)(q:RelV y u):x=y:=oj (r.abs.symm.trans q.abs)
theorem Vals.inj:∀{xs ys:List V} {us:List Value},Vals xs us->Vals ys us->xs=ys
 | _,_,_,.nil,.nil=>rfl
 | _,_,_,.cons r t,.cons r' t'=>by rw[r.inj r',Vals.inj t t']
section
variable{X:Cx}{pins:List (Addr×Obj)}{σ:St}{H:Hp}{s:Shared}{a:Addr}{xs ys:List V}
theorem SqL.of{K:PySem.W.Frag}(h:H a=some (.lst xs)):SqL K H a xs := .inl (.inl h)
theorem SqT.of{K:PySem.W.Frag}(h:H a=some (.tup xs)):SqT K H a xs := .inl (.inl h)
theorem Inv.list(I:Inv X pins σ H s)(h:SqL X.K H a xs):∃ its:List Value,Vals xs its/\PlainL s.heap a its.toArray/\xs.length<=sizeLine:=by
 rcases h with h | ⟨o,its,n,hk,hc,hd,hs,hz,r⟩
 ·obtain⟨z,its,n,r,e⟩:=h.ok I.hok;exact⟨its,r,⟨_,n,e,rfl,rfl,rfl⟩,z⟩
 ·refine⟨its.toList,r,⟨o,n,I.kIn a o hk,hc,hd,by simpa using hs⟩,?_⟩;have e:=r.length;simp only[Array.length_toList]at e;omega
theorem Inv.tuple(I:Inv X pins σ H s)(h:SqT X.K H a xs):∃ its:List Value,Vals xs its/\IsTup s.heap a its.toArray/\xs.length<=sizeLine:=by
 rcases h with h | ⟨o,its,n,hk,hc,hs,hz,r⟩
 ·obtain⟨z,its,r,p⟩:=h.ok I.hok;exact⟨its,r,p,z⟩
 ·refine⟨its.toList,r,⟨o,I.kIn a o hk,hc,n,by simpa using hs⟩,?_⟩;have e:=r.length;simp only[Array.length_toList]at e;omega
theorem Inv.list_inj(I:Inv X pins σ H s)(h:SqL X.K H a xs)(h':SqL X.K H a ys):xs=ys:=by
 obtain⟨its,r,⟨o,n,e,_,_,d⟩,_⟩:=I.list h;obtain⟨its',r',⟨o',n',e',_,_,d'⟩,_⟩:=I.list h';rw[e]at e';cases e';rw[d]at d';injection d' with d1 _;have:its=its':=by simpa using congrArg Array.toList d1
 subst this;exact r.inj r'
theorem Inv.tuple_inj(I:Inv X pins σ H s)(h:SqT X.K H a xs)(h':SqT X.K H a ys):xs=ys:=by
 obtain⟨its,r,⟨o,e,_,n,d⟩,_⟩:=I.tuple h;obtain⟨its',r',⟨o',e',_,n',d'⟩,_⟩:=I.tuple h';rw[e]at e';cases e';rw[d]at d';injection d' with d1 _;have:its=its':=by simpa using congrArg Array.toList d1
 subst this;exact r.inj r'
end
abbrev Cx.wish(X:Cx)(E:Value->Shared->Prop):Cx:={X with xe:=E}
abbrev Cx.nox(X:Cx):Cx:=X.wish fun _ _=>False
theorem Cx.Ok.wish{X:Cx}(ok:X.Ok)(E:Value->Shared->Prop):(X.wish E).Ok:=
 ⟨ok.mod,ok.kind,ok.glob,ok.blt,ok.above,ok.inj,ok.has,ok.cab,ok.hd,ok.frames,ok.stk,ok.exf,ok.bs,ok.bsz,ok.noex,ok.exfs,ok.funs,ok.frf⟩
theorem Cx.Ok.unwish{X:Cx}{E:Value->Shared->Prop}(ok:(X.wish E).Ok):X.Ok:=
 ⟨ok.mod,ok.kind,ok.glob,ok.blt,ok.above,ok.inj,ok.has,ok.cab,ok.hd,ok.frames,ok.stk,ok.exf,ok.bs,ok.bsz,ok.noex,ok.exfs,ok.funs,ok.frf⟩
section
variable{X:Cx}{pins:List (Addr×Obj)}{σ:St}{H:Hp}{s:Shared}{E:Value->Shared->Prop}
theorem Inv.wish(I:Inv X pins σ H s)(E:Value->Shared->Prop):Inv (X.wish E) pins σ H s:=⟨I.ok.wish E,I.os,I.bare,I.base,I.loc,I.cell,I.free,I.freeC,I.pin,I.hok,I.len⟩
theorem Inv.unwish(I:Inv (X.wish E) pins σ H s):Inv X pins σ H s:=⟨I.ok.unwish,I.os,I.bare,I.base,I.loc,I.cell,I.free,I.freeC,I.pin,I.hok,I.len⟩
theorem SP.unwish{D:Ends}{f:Flow}{s':Shared}(h:SP (X.wish E) pins D f s'):SP X pins D f s':=by
 cases f with
 | next=>obtain⟨σ',H',I,q⟩:=h;exact⟨σ',H',I.unwish,q⟩
 | brk=>obtain⟨σ',H',I,q⟩:=h;exact⟨σ',H',I.unwish,q⟩
 | cont=>obtain⟨σ',H',I,q⟩:=h;exact⟨σ',H',I.unwish,q⟩
 | ret u=>obtain⟨v,σ',H',I,r,q⟩:=h;exact⟨v,σ',H',I.unwish,r,q⟩
theorem PSs.nox{st:List Stmt}{t:TS}(h:PSs X.nox st t):PSs X st t:=fun pins s σ H D I hw=>
 wpAny_mono (h pins s σ H D (I.wish _) hw) (fun _ _ q=>q.unwish) fun _ _ z=>False.elim z
end
section
variable{X:Cx}{st:Stmt}{rest:List Stmt}{t u:TS}{e:Expr}{te:TE}{pos:Pos}
def UT:TS:=fun D σ H=>D.nx σ H
def Vu(t u:TS):TS:=fun D σ H=>t {D with nx:=u D} σ H
theorem PY:PSs X [] UT:=fun _ _ σ H _ I h=>wpAny_execs_nil ⟨σ,H,I,h⟩
theorem MQ(h1:PS X st t)(h2:PSs X rest u):PSs X (st::rest) (Vu t u):=by
 intro pins s σ H D I h;refine wpAny_execs_cons (thn (h1 pins s σ H {D with nx:=u D} I h) fun f s1 q=>?_);cases f with
 | next=>
   obtain⟨σ',H',I',q⟩:=q;exact h2 pins s1 σ' H' D I' q
 | ret v=>exact q
 | brk=>exact q
 | cont=>exact q
theorem Inv.quiet{pins:List (Addr×Obj)}{σ:St}{H:Hp}{s:Shared}(I:Inv X pins σ H s):interactive X.env=false:=by simp[interactive,I.ok.kind]
def UU(te:TE):TS:=fun D σ H=>te σ H fun _ H1=>D.nx σ H1
theorem PZ(he:PE X e te)(hs:swapsWith e none pos.line X.env=pure false:=by rfl):PS X (.Expr e pos) (UU te):=by
 intro pins s σ H D I h;exact wpAny_Expr_any (thn (he pins s σ H _ I h) fun v s1 ⟨x,H1,I1,r1,q1⟩=>⟨σ,H1,I1,q1⟩) I.quiet hs
def Vv(te:TE):TS:=fun D σ H=>te σ H D.rt
theorem Sc(he:PE X e te):PS X (.Return (some e) pos) (Vv te):=by
 intro pins s σ H D I h;exact wpAny_Return_some (thn (he pins s σ H _ I h) fun v s1 ⟨x,H1,I1,r1,q1⟩=>⟨x,σ,H1,I1,r1,q1⟩)
def UV:TS:=fun D _ H=>D.rt .non H
theorem Pa:PS X (.Return none pos) UV:=fun _ _ σ H _ I h=>wpAny_Return_none ⟨.non,σ,H,I,rfl,h⟩
def UW(c:TT)(t u:TS):TS:=fun D σ H=>c σ H fun b H1=>if b=true then t D σ H1 else u D σ H1
theorem UX{c:Expr}{a b:List Stmt}{tc:TT}(hc:PT X c tc)(ha:PSs X a t)(hb:PSs X b u):PS X (.If c a b pos) (UW tc t u):=by
 intro pins s σ H D I h;refine wpAny_If (thn (hc pins s σ H _ I h) fun d s1 ⟨H1,I1,q1⟩=>?_);cases d with
 | true=>exact ha pins s1 σ H1 D I1 q1
 | false=>exact hb pins s1 σ H1 D I1 q1
end
abbrev TG:=V->St->Hp->(St->Hp->Prop)->Prop
abbrev TGs:=List V->St->Hp->(St->Hp->Prop)->Prop
def PG(X:Cx)(target:Expr)(t:TG):Prop:=
 ∀(pins:List (Addr×Obj)) (s:Shared) (σ:St) (H:Hp) (v:V) (u:Value) (Q:St->Hp->Prop),Inv X pins σ H s->RelV v u->t v σ H Q->
  wpAny (model X.prog X.w) X.A (assign target X.env u) (fun _ s'=>∃ σ' H',Inv X pins σ' H' s'/\Q σ' H') X.xe s
def PGs(X:Cx)(ts:List Expr)(t:TGs):Prop:=
 ∀(pins:List (Addr×Obj)) (s:Shared) (σ:St) (H:Hp) (vs:List V) (us:List Value) (Q:St->Hp->Prop),Inv X pins σ H s->Vals vs us->t vs σ H Q->
  wpAny (model X.prog X.w) X.A (assignInOrder ((assignEach ts X.env).map (·.2)) us) (fun _ s'=>∃ σ' H',Inv X pins σ' H' s'/\Q σ' H') X.xe s
abbrev MR:=V->V->V->Hp->(Hp->Prop)->Prop
def Sd(X:Cx)(t:MR):Prop:=
 ∀(pins:List (Addr×Obj)) (s:Shared) (σ:St) (H:Hp) (o i v:V) (ov iv u:Value) (Q:Hp->Prop),Inv X pins σ H s->RelV o ov->RelV i iv->RelV v u->t o i v H Q->
  wpAny (model X.prog X.w) X.A (setItem ov iv u) (fun _ s'=>∃ H',Inv X pins σ H' s'/\Q H') X.xe s
abbrev TIp:=V->V->Hp->VK->Prop
def PIp(X:Cx)(op:Operator)(t:TIp):Prop:=
 ∀(pins:List (Addr×Obj)) (s:Shared) (σ:St) (H:Hp) (x y:V) (v u:Value) (Q:VK),Inv X pins σ H s->RelV x v->RelV y u->t x y H Q->
  wpAny (model X.prog X.w) X.A (inplaceOp op v u) (EP X pins σ Q) X.xe s
section
variable{X:Cx}{pos:Pos}
def Eh(i:Nat):TG:=fun v σ H Q=>Q (σ.set i (some v)) H
theorem Pb{i:Nat}{x:Str}(hN:X.N.Nodup)(hi:X.N[i]?=some x)(hx:Loc X.env.scope x)(hf:X.fn x=true\/X.env.scope.names.lookup x=some .local:=by first | exact .inl rfl | exact .inr rfl | assumption):PG X (.Name x pos) (Eh i):=by
 intro pins s σ H v u Q I r h;exact wpAny_assign_Name (GE I hN hi hx r (fun s' I'=>⟨_,H,I',h⟩) hf)
def Vw:TGs:=fun vs σ H Q=>vs=[]/\Q σ H
def UY(t:TG)(u:TGs):TGs:=fun vs σ H Q=>∃ v r,vs=v::r/\t v σ H fun σ' H'=>u r σ' H' Q
theorem Pc:PGs X [] Vw:=by
 intro pins s σ H vs us Q I r h;obtain⟨e,h⟩:=h;subst e;cases r;exact assignInOrder_nil ⟨σ,H,I,h⟩
theorem MS{e:Expr}{es:List Expr}{t:TG}{u:TGs}(h1:PG X e t)(h2:PGs X es u)
 (hs:(assignEach (e::es) X.env).map (·.2)=assign e X.env::(assignEach es X.env).map (·.2):=by rfl):PGs X (e::es) (UY t u):=by
 intro pins s σ H vs us Q I r h;obtain⟨v,vr,e1,h⟩:=h;subst e1;cases r with
 | cons r rr=>
   rw[hs];refine assignInOrder_cons (thn (h1 pins s σ H _ _ _ I r h) fun _ s1 ⟨σ1,H1,I1,q1⟩=>?_);exact h2 pins s1 σ1 H1 _ _ Q I1 rr q1
def Vx(K:PySem.W.Frag)(n:Nat)(t:TGs):TG:=fun v σ H Q=>∃ a xs,v = .ref a/\SqT K H a xs/\xs.length=n/\t xs σ H Q
theorem Se{es:List Expr}{k:Nat}{t:TGs}{n:Nat}(hc:X.calm=true)(h:PGs X es t)
 (hn:(assignEach es X.env).length=n:=by rfl) (hst:(assignEach es X.env).findIdx? (·.1)=none:=by rfl):PG X (.Tuple es k pos) (Vx X.K n t):=by
 intro pins s σ H v u Q I r hw;obtain⟨a,xs,e1,hq,hl,hw⟩:=hw;subst e1;cases r;obtain⟨its,rv,ht,hz⟩:=I.tuple hq;refine assign_Tuple_tuple (I.ok.hd hc) ht (by simp[hn,<-hl,rv.length]) hst fun h' hx=>?_;have I1:Inv X pins σ H {s with heap:=h'}:=I.kept (t':=s.toks) fun b o e=>hx b o (Nat.ne_of_lt (Heap.lt_size e)) e;exact h pins _ σ H xs _ Q I1 (by simpa using rv) hw
def UZ(to ti:TE)(t:MR):TG:=fun v σ H Q=>to σ H fun o H1=>ti σ H1 fun i H2=>t o i v H2 fun H3=>Q σ H3
theorem Sf{o i:Expr}{to ti:TE}{t:MR}(ho:PE X o to)(hi:PE X i ti)(hs:Sd X t)
 (ha:∀ v,assign (.Subscript o i pos) X.env v=(do
   let ov <- holding [v] (eval o X.env)
   let iv <- holding [v,ov] (eval i X.env)
   standAt pos
   holding [v,ov,iv] (setItem ov iv v)
   release [v,ov,iv] []):=by intro _;rfl):PG X (.Subscript o i pos) (UZ to ti t):=by
 intro pins s σ H v u Q I r h;rw[ha];refine wpAny_bind (wpAny_holding (thn (ho pins s σ H _ I h) fun ov s1 ⟨x,H1,I1,r1,q1⟩=>?_));refine wpAny_bind (wpAny_holding (thn (hi pins s1 σ H1 _ I1 q1) fun iv s2 ⟨y,H2,I2,r2,q2⟩=>?_));refine wpAny_bind (wpAny_standAt (wpAny_bind (wpAny_holding (thn (hs pins s2 σ H2 x y v ov iv u _ I2 r1 r2 r q2) fun _ s3 ⟨H3,I3,q3⟩=>?_))));exact wpAny_release ⟨σ,H3,I3,q3⟩
def GF(te:TE)(g:TG):TS:=fun D σ H=>te σ H fun x H1=>g x σ H1 D.nx
theorem MU{tg e:Expr}{te:TE}{g:TG}(he:PE X e te)(hg:PG X tg g)(hs:swapsWithSole [tg] e pos.line X.env=pure false:=by rfl)(hw:swappedStores [tg] e X.env=pure none:=by rfl)
 (h1:(assignEach [tg] X.env).map (·.2)=[assign tg X.env]:=by rfl):PS X (.Assign [tg] e pos) (GF te g):=by
 intro pins s σ H D I h;refine wpAny_Assign_stores (thn (he pins s σ H _ I h) fun v s1 ⟨x,H1,I1,r1,q1⟩=>?_) hs hw;rw[h1];exact thn (hg pins s1 σ H1 x v _ I1 r1 q1) fun _ s2 q=>q
theorem Sg{i:Nat}{x:Str}{e:Expr}{te:TE}{pos':Pos}(hN:X.N.Nodup)(hi:X.N[i]?=some x)(hx:Loc X.env.scope x)(he:PE X e te)(hs:swapsWith e (some (.Name x pos')) pos.line X.env=pure false:=by rfl)(hf:X.fn x=true\/X.env.scope.names.lookup x=some .local:=by first | exact .inl rfl | exact .inr rfl | assumption):
 PS X (.Assign [.Name x pos'] e pos) (GF te (Eh i)):=by
 intro pins s σ H D I h;refine wpAny_Assign_Name (thn (he pins s σ H _ I h) fun v s1 ⟨y,H1,I1,r1,q1⟩=>?_) hs;exact GE I1 hN hi hx r1 (fun s2 I2=>⟨_,H1,I2,q1⟩) hf
def RX(to ti te:TE)(tget:V->V->Hp->VK->Prop)(tip:TIp)(tset:MR):TS:=fun D σ H=>to σ H fun o H1=>ti σ H1 fun i H2=>tget o i H2 fun x H3=>te σ H3 fun y H4=>tip x y H4 fun z H5=>tset o i z H5 fun H6=>D.nx σ H6
def Ua(X:Cx)(t:V->V->Hp->VK->Prop):Prop:=
 ∀(pins:List (Addr×Obj)) (s:Shared) (σ:St) (H:Hp) (o i:V) (ov iv:Value) (Q:VK),Inv X pins σ H s->RelV o ov->RelV i iv->t o i H Q->
  wpAny (model X.prog X.w) X.A (getItem ov iv) (EP X pins σ Q) X.xe s
theorem Pd{o i e:Expr}{to ti te:TE}{tget:V->V->Hp->VK->Prop}{tip:TIp}{tset:MR}{op:Operator}{tpos:Pos}(ho:PE X o to)(hi:PE X i ti)(hg:Ua X tget)(he:PE X e te)(hp:PIp X op tip)(hs:Sd X tset)
 (ha:∀ ov iv new,augStore i ov iv new=(do holding [new,ov,iv] (setItem ov iv new);release [new,ov,iv] [];pure .next):=by intros;rfl):PS X (.AugAssign (.Subscript o i tpos) op e pos) (RX to ti te tget tip tset):=by
 intro pins s σ H D I h;refine wpAny_AugAssign_SubscriptAny (thn (ho pins s σ H _ I h) fun ov s1 ⟨x1,H1,I1,r1,q1⟩=>?_) ha;refine thn (hi pins s1 σ H1 _ I1 q1) fun iv s2 ⟨x2,H2,I2,r2,q2⟩=>?_;refine thn (hg pins s2 σ H2 x1 x2 ov iv _ I2 r1 r2 q2) fun old s3 ⟨x3,H3,I3,r3,q3⟩=>?_;refine thn (he pins s3 σ H3 _ I3 q3) fun v s4 ⟨x4,H4,I4,r4,q4⟩=>?_;refine thn (hp pins s4 σ H4 x3 x4 old v _ I4 r3 r4 q4) fun new s5 ⟨x5,H5,I5,r5,q5⟩=>?_;exact thn (hs pins s5 σ H5 x1 x2 x5 ov iv new _ I5 r1 r2 r5 q5) fun _ s6 ⟨H6,I6,q6⟩=>⟨σ,H6,I6,q6⟩
def ipI(f:Int->Int->Int):TIp:=fun x y H Q=>∃ i j,x = .int i/\y = .int j/\Q (.int (f i j)) H
theorem Sh:PIp X .Add (ipI fun i j=>i+j):=by
 intro pins s σ H x y v u Q I r1 r2 h;obtain⟨i,j,e1,e2,q⟩:=h;subst e1;subst e2;obtain⟨t,rfl⟩:=r1;obtain⟨t',rfl⟩:=r2;exact iadd_int ⟨.int _,H,I.tok _,⟨_,rfl⟩,q⟩
end
section
variable{X:Cx}{pos:Pos}
def MV(c:TT)(tb:TS):TS:=fun D σ H=>∃ W:Nat->St->Hp->Prop,(∃ m,W m σ H)/\∀ m σ H,W m σ H->
 c σ H fun b H1=>if b=true then ∃ N:St->Hp->Prop,(∀ σ' H',N σ' H'->∃ m',m'<m/\W m' σ' H')/\tb {D with nx:=N,ct:=N,bk:=D.nx} σ H1 else D.nx σ H1
theorem MW{c:Expr}{body:List Stmt}{tc:TT}{tb:TS}(hp:PassesOwn (model X.prog X.w) X.A X.env X.xe)(hc:PT X c tc)(hb:PSs X body tb):PS X (.While c body [] pos) (MV tc tb):=by
 intro pins s σ H D I h;obtain⟨W,⟨m0,w0⟩,turn⟩:=h;refine wpAny_While (codeAny_whileLoop (fun n s'=>∃ σ' H',Inv X pins σ' H' s'/\W n σ' H') ?_ m0 ⟨σ,H,I,w0⟩);rintro n s1 ⟨σ1,H1,I1,w1⟩;refine wpAny_passesOwn hp (thn (hc pins s1 σ1 H1 _ I1 (turn n σ1 H1 w1)) fun b s2 ⟨H2,I2,q2⟩=>?_);cases b with
 | true=>
   obtain⟨N,hN,q2⟩:=q2;rw[if_pos rfl];refine wpAny_passesOwn hp (thn (hb pins s2 σ1 H2 _ I2 q2) fun f s3 q3=>?_);cases f with
   | next=>
     obtain⟨σ3,H3,I3,n3⟩:=q3;obtain⟨m',hm,w3⟩:=hN σ3 H3 n3;exact⟨m',hm,σ3,H3,I3,w3⟩
   | cont=>
     obtain⟨σ3,H3,I3,n3⟩:=q3;obtain⟨m',hm,w3⟩:=hN σ3 H3 n3;exact⟨m',hm,σ3,H3,I3,w3⟩
   | brk=>exact q3
   | ret v=>exact q3
 | false=>
   rw[if_neg Bool.false_ne_true];exact wpAny_execs_nil ⟨σ1,H2,I2,q2⟩
end
structure It where
 go:Nat->Hp->Prop
 yld:Nat->Hp->V->Hp->Prop
 stop:Nat->Hp->Prop
def FpOk(X:Cx)(pins:List (Addr×Obj))(H:Hp)(b:Addr):Prop:=
 H b=none/\b≠X.env.locals/\b∉X.fs/\(b∈X.ex\/X.s₀.heap.objs.size<=b)/\(∀ x c,X.env.cells.lookup x=some c->c≠b)/\∀ p∈X.pn++pins,p.1≠b
theorem Inv.fpOk{X:Cx}{pins:List (Addr×Obj)}{σ:St}{H H':Hp}{s:Shared}{b:Addr}(I:Inv X pins σ H s)(hb:s.heap.objs.size<=b)(hn:H' b=none):FpOk X pins H' b:=by
 refine⟨hn,Nat.ne_of_gt (Nat.lt_of_lt_of_le I.lt hb),I.nofs hb,.inr (Nat.le_trans I.sz hb),fun x c e z=>?_,fun p hp z=>?_⟩
 ·obtain⟨v,q⟩:=I.cell x c e;exact absurd (Nat.lt_of_lt_of_le q.lt (by rw[z];exact hb)) (Nat.lt_irrefl _)
 ·exact absurd (Nat.lt_of_lt_of_le (Heap.lt_size (I.pin p hp).1) (by rw[z];exact hb)) (Nat.lt_irrefl _)
structure Turn(P:Program)(w:World)(K:PySem.W.Frag)(tg:Expr)(J:It)(fp:List Addr)(it:Addr)(tn:Nat->Heap->Prop):Prop where
 mem:it∈fp
 obj:∀ i h,tn i h->∀ b∈fp,∃ o,h.get? b=some o/\∀ v,o.data ≠ .cell v
 keep:∀ i h h',tn i h->(∀ b∈fp,∀ o,h.get? b=some o->h'.get? b=some o)->tn i h'
 item:∀(X:Cx),X.prog=P->X.w=w->X.K=K->X.calm=true->∀(i:Nat) (pins:List (Addr×Obj)) (s:Shared) (σ:St) (H:Hp) (E:Value->Shared->Prop),Inv X pins σ H s->(∀ b∈fp,FpOk X pins H b)->tn i s.heap->J.go i H->
  wpAny (model P w) X.A (pyNext (.ref it)) (fun r s1=>∃ u,r=some u/\
   wpAny (model P w) X.A (letOwnedTupleGo tg (.ref it) u) (fun _ s2=>∃ x H',Inv X pins σ H' s2/\RelV x u/\J.yld i H x H'/\tn (i+1) s2.heap/\∀ b∈fp,H' b=none) E s1) E s
 done:∀(X:Cx),X.prog=P->X.w=w->X.K=K->X.calm=true->∀(i:Nat) (pins:List (Addr×Obj)) (s:Shared) (σ:St) (H:Hp) (E:Value->Shared->Prop),Inv X pins σ H s->(∀ b∈fp,FpOk X pins H b)->tn i s.heap->J.stop i H->
   wpAny (model P w) X.A (pyNext (.ref it)) (fun r s1=>r=none/\Inv X pins σ H s1) E s
 self:∀(A:Around) (i:Nat) (s:Shared) (Q:Value->Shared->Prop) (E:Value->Shared->Prop),tn i s.heap->Q (.ref it) s->wpAny (model P w) A (pyIter (.ref it)) Q E s
abbrev TI:=St->Hp->(It->Hp->Prop)->Prop
def PIE(X:Cx)(pins:List (Addr×Obj))(σ:St)(tg:Expr)(R:It->Hp->Prop)(itv:Value)(s2:Shared):Prop:=
 ∃(it:Addr) (fp:List Addr) (tn:Nat->Heap->Prop) (J:It) (H':Hp),itv = .ref it/\Inv X pins σ H' s2/\Turn X.prog X.w X.K tg J fp it tn/\tn 0 s2.heap/\(∀ b∈fp,FpOk X pins H' b)/\R J H'
def PI(X:Cx)(tg iter:Expr)(wi:TI):Prop:=
 ∀(pins:List (Addr×Obj)) (s:Shared) (σ:St) (H:Hp) (R:It->Hp->Prop),Inv X pins σ H s->wi σ H R->
  wpAny (model X.prog X.w) X.A (eval iter X.env) (fun v s1=>wpAny (model X.prog X.w) X.A (pyIter v) (PIE X pins σ tg R) X.xe s1) X.xe s
theorem GG{M:Model}{A:Around}{E:Value->Shared->Prop}{s:Shared}{tg:Expr}{it:Addr}{u:Value}{o:Obj}{n:String}{vs:Array Value}{Q:Unit->Shared->Prop}(ho:s.heap.get? it=some o)(hc:o.cls = .type n)(hd:o.data = .fields vs)
 (hn:["enumerate","zip","dict_itemiterator","dict_reverseitemiterator","odict_iterator","itertools.zip_longest","itertools.pairwise"].contains n=false) (hQ:Q () s):wpAny M A (letOwnedTupleGo tg (.ref it) u) Q E s:=by
 unfold letOwnedTupleGo
 cases tg<;>first
  | exact wpAny_pure hQ
  | (cases u<;>first
      | exact wpAny_pure hQ
      | (refine wpAny_bind (wpAny_load ho ?_)
         rw[hc,hd];show wpAny M A (if (["enumerate","zip","dict_itemiterator","dict_reverseitemiterator","odict_iterator","itertools.zip_longest","itertools.pairwise"].contains n&&vs[0]? == some (rawInt _))=true then _ else _) Q E s;rw[if_neg (by intro h;rw[hn,Bool.false_and]at h;cases h)];exact wpAny_pure hQ))
def Itl(K:PySem.W.Frag)(a:Addr):It:=
 ⟨fun i H=>∃ xs x,SqL K H a xs/\xs[i]?=some x,fun i H x H'=>H'=H/\∀ xs,SqL K H a xs->xs[i]?=some x,fun i H=>∃ xs,SqL K H a xs/\xs.length<=i⟩
def Itt(K:PySem.W.Frag)(a:Addr):It:=
 ⟨fun i H=>∃ xs x,SqT K H a xs/\xs[i]?=some x,fun i H x H'=>H'=H/\∀ xs,SqT K H a xs->xs[i]?=some x,fun i H=>∃ xs,SqT K H a xs/\xs.length<=i⟩
def Itr(lo:Int)(n:Nat):It:=⟨fun i _=>i<n,fun i H x H'=>H'=H/\x = .int (lo+i),fun i _=>n<=i⟩
theorem Kb{P:Program}{w:World}{K:PySem.W.Frag}{tg:Expr}(a it:Addr):Turn P w K tg (Itl K a) [it] it (fun i h=>h.IsListIter it a i) where
 mem:=by simp
 obj:=fun i h st b hb=>by
  have e:b=it:=by simpa using hb
  subst e;obtain⟨o,e,c,d⟩:=st;exact⟨o,e,fun v z=>by rw[d]at z;cases z⟩
 keep:=fun i h h' st k=>st.at fun o e=>k it (by simp) o e
 item:=by
  intro X hP hw hK hc i pins s σ H E I hf st hg;subst hP hw hK;obtain⟨xs,x,hq,hx⟩:=hg;obtain⟨its,rv,p,hz⟩:=I.list hq;obtain⟨u,hu,ru⟩:=rv.get hx;obtain⟨f0,f1,f2,f3,f4,f5⟩:=hf it (by simp);refine wpAny_pyNext_list_item st p.isList (x:=u) (by simpa using hu) fun h' st' sb=>?_;have I1:Inv X pins σ H {s with heap:=h'}:=I.turned (t':=s.toks) (fun b o hb e=>(sb.2 b hb).trans e) f0 f1 f3 f4 f5;obtain⟨o,e,c,d⟩:=id st';exact⟨u,rfl,GG (s:={s with heap:=h'}) e c d (by decide) ⟨x,H,I1,ru,⟨rfl,fun ys hy=>by rw[I.list_inj hy hq];exact hx⟩,st',fun b hb=>(hf b hb).1⟩⟩
 done:=by
   intro X hP hw hK hc i pins s σ H E I hf st hg;subst hP hw hK;obtain⟨xs,hq,hx⟩:=hg;obtain⟨its,rv,p,hz⟩:=I.list hq;obtain⟨f0,f1,f2,f3,f4,f5⟩:=hf it (by simp);have hl:=rv.length;exact wpAny_pyNext_list_end (I.ok.hd hc) st p.isList (by simp;omega) fun h' eb=>⟨rfl,I.turned (t':=s.toks) (fun b o hb e=>eb b o hb e) f0 f1 f3 f4 f5⟩
 self:=fun _ _ _ _ _ st h=>wpAny_pyIter_listiter st h
theorem ID{P:Program}{w:World}{K:PySem.W.Frag}{tg:Expr}(a it:Addr):Turn P w K tg (Itt K a) [it] it (fun i h=>h.IsTupleIter it a i) where
 mem:=by simp
 obj:=fun i h st b hb=>by
  have e:b=it:=by simpa using hb
  subst e;obtain⟨o,e,c,d⟩:=st;exact⟨o,e,fun v z=>by rw[d]at z;cases z⟩
 keep:=fun i h h' st k=>st.at fun o e=>k it (by simp) o e
 item:=by
  intro X hP hw hK hc i pins s σ H E I hf st hg;subst hP hw hK;obtain⟨xs,x,hq,hx⟩:=hg;obtain⟨its,rv,p,hz⟩:=I.tuple hq;obtain⟨u,hu,ru⟩:=rv.get hx;obtain⟨f0,f1,f2,f3,f4,f5⟩:=hf it (by simp);refine wpAny_pyNext_tuple_item st (show s.heap.IsTuple a its.toArray from p) (x:=u) (by simpa using hu) fun h' st' sb=>?_;have I1:Inv X pins σ H {s with heap:=h'}:=I.turned (t':=s.toks) (fun b o hb e=>(sb.2 b hb).trans e) f0 f1 f3 f4 f5;obtain⟨o,e,c,d⟩:=id st';exact⟨u,rfl,GG (s:={s with heap:=h'}) e c d (by decide) ⟨x,H,I1,ru,⟨rfl,fun ys hy=>by rw[I.tuple_inj hy hq];exact hx⟩,st',fun b hb=>(hf b hb).1⟩⟩
 done:=by
   intro X hP hw hK hc i pins s σ H E I hf st hg;subst hP hw hK;obtain⟨xs,hq,hx⟩:=hg;obtain⟨its,rv,p,hz⟩:=I.tuple hq;obtain⟨f0,f1,f2,f3,f4,f5⟩:=hf it (by simp);have hl:=rv.length;exact wpAny_pyNext_tuple_end (I.ok.hd hc) st (show s.heap.IsTuple a its.toArray from p) (by simp;omega) fun h' eb=>⟨rfl,I.turned (t':=s.toks) (fun b o hb e=>eb b o hb e) f0 f1 f3 f4 f5⟩
 self:=fun _ _ _ _ _ st h=>wpAny_pyIter_tupleiter st h
theorem IE{P:Program}{w:World}{K:PySem.W.Frag}{tg:Expr}(it:Addr)(lo:Int)(n:Nat):Turn P w K tg (Itr lo n) [it] it (fun i h=>IsRangeIter h it (lo+(i:Nat) * 1) ((n:Int) - (i:Nat)) 1) where
 mem:=by simp
 obj:=fun i h st b hb=>by
  have e:b=it:=by simpa using hb
  subst e
  exact⟨_,st,fun v z=>by
   have z':Data.fields _=Data.cell v:=z;cases z'⟩
 keep:=fun i h h' st k=>k it (by simp) _ st
 item:=by
  intro X hP hw hK hc i pins s σ H E I hf st hg;subst hP hw hK;obtain⟨f0,f1,f2,f3,f4,f5⟩:=hf it (by simp);have W:=Walks.range (prog:=X.prog) (w:=X.w) (I.ok.hd hc) it lo 1 n;refine W.item i s _ _ hg st fun v h' tk hv st' kk=>?_;obtain⟨t,rfl⟩:=hv;have I1:Inv X pins σ H {s with heap:=h',toks:=tk}:=I.turned (fun b o hb e=>kk b o (by simpa using hb) e) f0 f1 f3 f4 f5;refine⟨_,rfl,GG (s:={s with heap:=h',toks:=tk}) (n:="range_iterator") st' rfl rfl (by decide) ⟨.int (lo+i),H,I1,⟨t,?_⟩,⟨rfl,rfl⟩,st',fun b hb=>(hf b hb).1⟩⟩;rw[Int.mul_one]
 done:=by
   intro X hP hw hK hc i pins s σ H E I hf st hg;subst hP hw hK;obtain⟨f0,f1,f2,f3,f4,f5⟩:=hf it (by simp);exact wpAny_pyNext_range_end (I.ok.hd hc) st (by have:n<=i:=hg;omega) fun h' eb=>⟨rfl,I.turned (t':=s.toks) (fun b o hb e=>eb b o hb e) f0 f1 f3 f4 f5⟩
 self:=fun _ _ _ _ _ st h=>wpAny_pyIter_rangeiter st h
open PySem PySem.Spec PyProof.Rows
section
variable{X:Cx}{tg:Expr}
theorem MX{pins:List (Addr×Obj)}{σ:St}{H:Hp}{s:Shared}{R:It->Hp->Prop}{E:Value->Shared->Prop}{lo hi:Int}{t u v:Tok}{tk:Nat}(I:Inv X pins σ H s)(h1:-(2 ^ 62)<=lo)(h2:lo<2 ^ 62)(h3:-(2 ^ 62)<=hi)(h4:hi<2 ^ 62)
 (q:R (Itr lo (hi - lo).toNat) H):wpAny (model X.prog X.w) X.A (pyIter (.ref s.heap.objs.size)) (PIE X pins σ tg R) E {s with heap:=s.heap.push {cls := .type "range",data := .fields #[.int lo t,.int hi u,.int 1 v]},toks:=tk}:=by
 refine wpAny_pyIter_range (IsRange.new ..) (small_one h1 h2 h3 h4) ?_;have I1:Inv X pins σ H {s with heap:=s.heap.push {cls := .type "range",data := .fields #[.int lo t,.int hi u,.int 1 v]},toks:=tk}:=I.kept fun b o e=>Heap.get?_push_of_some _ e
 refine⟨(s.heap.push {cls := .type "range",data := .fields #[.int lo t,.int hi u,.int 1 v]}).objs.size,[(s.heap.push {cls := .type "range",data := .fields #[.int lo t,.int hi u,.int 1 v]}).objs.size],_,_,H,rfl,
  I1.kept (t':=tk) fun b o e=>Heap.get?_push_of_some _ e,IE _ lo (hi - lo).toNat,?_,fun b hb=>?_,q⟩
 ·have e1:lo+((0:Nat):Int) * 1=lo:=by simp
  have e2:(((hi - lo).toNat:Nat):Int) - ((0:Nat):Int)=Builtin.Range.rangeSize lo hi 1:=by rw[rangeSize_one];split<;>omega
  show IsRangeIter _ _ (lo+((0:Nat):Int) * 1) ((((hi - lo).toNat:Nat):Int) - ((0:Nat):Int)) 1;rw[e1,e2];exact Heap.get?_push_size _ rfl
 ·have e:b=(s.heap.push {cls := .type "range",data := .fields #[.int lo t,.int hi u,.int 1 v]}).objs.size:=by simpa using hb
  subst e;exact I1.fpOk (Nat.le_refl _) (I1.hok.fresh (Nat.le_refl _))
def Ub(ta:TA):TI:=fun σ H R=>ta σ H fun vs H1=>∃ j:Int,vs=[.int j] /\ -(2 ^ 62)<=j/\j<2 ^ 62/\R (Itr 0 j.toNat) H1
theorem Kc{a:Expr}{ta:TA}{p pos:Pos}(hg:Gl X "range")(hm:X.mg "range"=none)(ha:PA X [a] ta)(hs:starEach [a] X.env=[(false,eval a X.env)]:=by rfl):PI X tg (.Call (.Name "range" p) [a] [] pos) (Ub ta):=by
 intro pins s σ H R I h;refine Call_ (Be I hg hm boot_range (PyProof.Rows.callWith_type1 (thn (ha pos pins s σ H _ I h) fun us s1 ⟨vs,H1,I1,r1,q1⟩=>?_) hs rfl));obtain⟨j,e,q1,q2,q⟩:=q1;subst e;cases r1 with
 | cons r rr=>
   cases rr;obtain⟨t,rfl⟩:=r;exact call_range_1 (MX I1 (by omega) (by omega) q1 q2 (by simpa using q))
def Uc(wi:TI)(g:TG)(tb:TS):TS:=fun D σ H=>wi σ H fun J H1=>∃ W:Nat->Nat->St->Hp->Prop,(∃ m,W 0 m σ H1)/\∀ i m σ H,W i m σ H->
 (J.stop i H/\D.nx σ H)\/(J.go i H/\∃ N:St->Hp->Prop,(∀ σ' H',N σ' H'->∃ m',m'<m/\W (i+1) m' σ' H')/\∀ x H',J.yld i H x H'->g x σ H' fun σ2 H2=>tb {D with nx:=N,ct:=N,bk:=D.nx} σ2 H2)
def Bf(fp:List Addr)(h:Heap):List (Addr×Obj):=fp.filterMap fun b=>(h.get? b).map fun o=>(b,o)
theorem AN{fp:List Addr}{h:Heap}{b:Addr}{o:Obj}(hb:b∈fp)(e:h.get? b=some o):(b,o)∈Bf fp h:=List.mem_filterMap.mpr ⟨b,hb,by rw[e];rfl⟩
theorem Kd{fp:List Addr}{h:Heap}{p:Addr×Obj}(hp:p∈Bf fp h):p.1∈fp/\h.get? p.1=some p.2:=by
 obtain⟨b,hb,e⟩:=List.mem_filterMap.mp hp;cases q:h.get? b with
 | none=>rw[q]at e;cases e
 | some o=>
   rw[q]at e;have e':(b,o)=p:=oj e;subst e';exact⟨hb,q⟩
theorem Inv.pinned{pins:List (Addr×Obj)}{σ:St}{H:Hp}{s:Shared}{fp:List Addr}(I:Inv X pins σ H s)(hf:∀ b∈fp,FpOk X pins H b)(ho:∀ b∈fp,∃ o,s.heap.get? b=some o/\∀ v,o.data ≠ .cell v):Inv X (pins++Bf fp s.heap) σ H s:=
 I.pins_of fun p hp=>(List.mem_append.mp hp).elim (fun z=>I.pin p (List.mem_append_right _ z)) fun z=>by
  obtain⟨hb,e⟩:=Kd z;obtain⟨f0,f1,f2,_⟩:=hf p.1 hb;obtain⟨o,e',d⟩:=ho p.1 hb;rw[e]at e';cases e';exact⟨e,f0,f1,f2,d⟩
theorem Inv.unpinned{pins pl:List (Addr×Obj)}{σ:St}{H:Hp}{s:Shared}(I:Inv X (pins++pl) σ H s):Inv X pins σ H s:=I.pins_of fun p hp=>I.pin p (List.mem_append_right _ (List.mem_append_left _ hp))
theorem Si{iter:Expr}{body:List Stmt}{wi:TI}{g:TG}{tb:TS}{pos:Pos}(hp:PassesOwn (model X.prog X.w) X.A X.env X.xe)(hc:X.calm=true)(hi:PI X tg iter wi)(hg:PG X tg g)(hb:PSs X body tb)
 (hs:∀ x,foldedSetIterable iter X.env x=pure x:=by intro _;rfl):PS X (.For tg iter body [] pos) (Uc wi g tb):=by
 intro pins s σ H D I h;refine wpAny_For (thn (hi pins s σ H _ I h) fun v s1 h1=>thn h1 fun itv s2 h2=>?_) hs;obtain⟨it,fp,tn,J,H2,e,I2,T,st2,f2,W,⟨m0,w0⟩,turn⟩:=h2;subst e;have stat:∀{H':Hp},(∀ b∈fp,H' b=none)->∀ b∈fp,FpOk X pins H' b:=fun hn b hb=>⟨hn b hb,(f2 b hb).2⟩
 refine codeAny_forLoop_any (fun n s'=>∃ i σ' H',Inv X pins σ' H' s'/\tn i s'.heap/\(∀ b∈fp,H' b=none)/\W i n σ' H') ?_ m0 ⟨0,σ,H2,I2,st2,fun b hb=>(f2 b hb).1,w0⟩;rintro n s3 ⟨i,σ3,H3,I3,st3,fr3,w3⟩;rcases turn i n σ3 H3 w3 with⟨stop,qn⟩ | ⟨go,N,hN,step⟩
 ·refine wpAny_passesOwn hp (thn (T.done X rfl rfl rfl hc i pins s3 σ3 H3 X.xe I3 (stat fr3) st3 stop) fun r s4 ⟨hr,I4⟩=>?_);subst hr;exact wpAny_execs_nil ⟨σ3,H3,I4,qn⟩
 ·refine wpAny_passesOwn hp (thn (T.item X rfl rfl rfl hc i pins s3 σ3 H3 X.xe I3 (stat fr3) st3 go) fun r s4 ⟨u,hr,h4⟩=>?_);subst hr;refine wpAny_passesOwn hp (thn h4 fun _ s5 ⟨x,H5,I5,r5,y5,st5,fr5⟩=>?_);have I5':=I5.pinned (stat fr5) (T.obj _ _ st5);refine wpAny_passesOwn hp (thn (hg _ s5 σ3 H5 x u _ I5' r5 (step x H5 y5)) fun _ s6 ⟨σ6,H6,I6,q6⟩=>?_);refine wpAny_passesOwn hp (thn (hb _ s6 σ6 H6 _ I6 q6) fun f s7 q7=>?_)
  have again:∀{σ7:St} {H7:Hp},Inv X (pins++Bf fp s5.heap) σ7 H7 s7->N σ7 H7->∃ m,m<n/\∃ i σ' H',Inv X pins σ' H' s7/\tn i s7.heap/\(∀ b∈fp,H' b=none)/\W i m σ' H':=fun{σ7 H7} I7 n7=>by
   obtain⟨m',hm,w7⟩:=hN σ7 H7 n7;refine⟨m',hm,i+1,σ7,H7,I7.unpinned,T.keep _ _ _ st5 fun b hb o e=>(I7.pin (b,o) (List.mem_append_right _ (List.mem_append_right _ (AN hb e)))).1,fun b hb=>?_,w7⟩;obtain⟨o,e,d⟩:=T.obj _ _ st5 b hb;exact(I7.pin (b,o) (List.mem_append_right _ (List.mem_append_right _ (AN hb e)))).2.1
  cases f with
  | next=>obtain⟨σ7,H7,I7,n7⟩:=q7;exact again I7 n7
  | cont=>obtain⟨σ7,H7,I7,n7⟩:=q7;exact again I7 n7
  | brk=>obtain⟨σ7,H7,I7,q7⟩:=q7;exact⟨σ7,H7,I7.unpinned,q7⟩
  | ret v=>obtain⟨x7,σ7,H7,I7,r7,q7⟩:=q7;exact⟨x7,σ7,H7,I7.unpinned,r7,q7⟩
end
open PySem PySem.Spec PyProof.Rows
abbrev R2:=V->V->Hp->VK->Prop
def OpR(X:Cx)(f:Value->Value->Sem Value)(r:R2):Prop:=
 ∀(pins:List (Addr×Obj)) (s:Shared) (σ:St) (H:Hp) (x y:V) (v u:Value) (Q:VK),Inv X pins σ H s->RelV x v->RelV y u->r x y H Q->
  wpAny (model X.prog X.w) X.A (f v u) (EP X pins σ Q) X.xe s
def UnR(X:Cx)(f:Value->Sem Value)(r:V->Hp->VK->Prop):Prop:=
 ∀(pins:List (Addr×Obj)) (s:Shared) (σ:St) (H:Hp) (x:V) (v:Value) (Q:VK),Inv X pins σ H s->RelV x v->r x H Q->
  wpAny (model X.prog X.w) X.A (f v) (EP X pins σ Q) X.xe s
def CallR(X:Cx)(f:Value)(r:List V->Hp->VK->Prop):Prop:=
 ∀(pins:List (Addr×Obj)) (s:Shared) (σ:St) (H:Hp) (xs:List V) (us:List Value) (Q:VK),Inv X pins σ H s->Vals xs us->r xs H Q->
  wpAny (model X.prog X.w) X.A (call f us) (EP X pins σ Q) X.xe s
def Vy(X:Cx)(r:V->Hp->(Bool->Hp->Prop)->Prop):Prop:=
 ∀(pins:List (Addr×Obj)) (s:Shared) (σ:St) (H:Hp) (x:V) (v:Value) (Q:Bool->Hp->Prop),Inv X pins σ H s->RelV x v->r x H Q->
  wpAny (model X.prog X.w) X.A (truthy v) (TP X pins σ Q) X.xe s
def tOp(r:R2)(ta tb:TE):TE:=fun σ H Q=>ta σ H fun x H1=>tb σ H1 fun y H2=>r x y H2 Q
def tUn(r:V->Hp->VK->Prop)(ta:TE):TE:=fun σ H Q=>ta σ H fun x H1=>r x H1 Q
def rI(C:Int->Int->Prop)(g:Int->Int->V):R2:=fun x y H Q=>∃ i j,x = .int i/\y = .int j/\C i j/\Q (g i j) H
def rI0(g:Int->Int->V):R2:=fun x y H Q=>∃ i j,x = .int i/\y = .int j/\Q (g i j) H
def rU(g:Int->V):V->Hp->VK->Prop:=fun x H Q=>∃ i,x = .int i/\Q (g i) H
section
variable{X:Cx}{a b c:Expr}{ta tb tc:TE}{pos:Pos}
theorem Sj(ha:PE X a ta)(hb:PE X b tb){pins:List (Addr×Obj)}{s:Shared}{σ:St}{H:Hp}{R:V->V->Hp->Prop}(I:Inv X pins σ H s)
 (h:ta σ H fun x H1=>tb σ H1 fun y H2=>R x y H2) {Q:Value->Shared->Prop} {f:Value->Value->Sem Value}
 (hf:∀ v u s2 x y H2,Inv X pins σ H2 s2->RelV x v->RelV y u->R x y H2->wpAny (model X.prog X.w) X.A (f v u) Q X.xe s2):
 wpAny (model X.prog X.w) X.A (eval a X.env) (fun v s₁=>wpAny (model X.prog X.w) X.A (eval b X.env) (fun u s₂=>wpAny (model X.prog X.w) X.A (f v u) Q X.xe s₂) X.xe s₁) X.xe s:=by
 refine thn (ha pins s σ H _ I h) fun v s1 ⟨x,H1,I1,r1,q1⟩=>?_;refine thn (hb pins s1 σ H1 _ I1 q1) fun u s2 ⟨y,H2,I2,r2,q2⟩=>?_;exact hf v u s2 x y H2 I2 r1 r2 q2
theorem Ud{op:Operator}{r:R2}(ho:OpR X (binaryOp op) r)(ha:PE X a ta)(hb:PE X b tb):PE X (.BinOp a op b pos) (tOp r ta tb):=by
 intro pins s σ H Q I h;exact wpAny_BinOp (Sj ha hb I h fun v u s2 x y H2 I2 rx ry q=>ho pins s2 σ H2 x y v u Q I2 rx ry q)
theorem RY{op:UnaryOp}{r:V->Hp->VK->Prop}(ho:UnR X (unaryOp op) r)(ha:PE X a ta):PE X (.UnaryOp op a pos) (tUn r ta):=by
 intro pins s σ H Q I h;exact UnaryOp_ (thn (ha pins s σ H _ I h) fun v s1 ⟨x,H1,I1,r1,q1⟩=>ho pins s1 σ H1 x v Q I1 r1 q1)
theorem opI{f:Value->Value->Sem Value}{C:Int->Int->Prop}{g:Int->Int->Int}
 (rule:∀(i j:Int) (t u:Tok) (s:Shared) (Q:Value->Shared->Prop) (E:Value->Shared->Prop),C i j->Q (.int (g i j) s.toks) {s with toks:=s.toks+1}->wpAny (model X.prog X.w) X.A (f (.int i t) (.int j u)) Q E s):
 OpR X f (rI C fun i j => .int (g i j)):=by
 intro pins s σ H x y v u Q I rx ry h;obtain⟨i,j,rfl,rfl,hc,q⟩:=h;obtain⟨t,rfl⟩:=rx;obtain⟨t',rfl⟩:=ry;exact rule i j t t' s _ _ hc ⟨.int (g i j),H,I.tok _,⟨_,rfl⟩,q⟩
theorem Ue{f:Value->Value->Sem Value}{g:Int->Int->Int}
 (rule:∀(i j:Int) (t u:Tok) (s:Shared) (Q:Value->Shared->Prop) (E:Value->Shared->Prop),Q (.int (g i j) s.toks) {s with toks:=s.toks+1}->wpAny (model X.prog X.w) X.A (f (.int i t) (.int j u)) Q E s):
 OpR X f (rI0 fun i j => .int (g i j)):=by
 intro pins s σ H x y v u Q I rx ry h;obtain⟨i,j,rfl,rfl,q⟩:=h;obtain⟨t,rfl⟩:=rx;obtain⟨t',rfl⟩:=ry;exact rule i j t t' s _ _ ⟨.int (g i j),H,I.tok _,⟨_,rfl⟩,q⟩
theorem Pe{f:Value->Value->Sem Value}{g:Int->Int->Bool}
 (rule:∀(i j:Int) (t u:Tok) (s:Shared) (Q:Value->Shared->Prop) (E:Value->Shared->Prop),Q (.bool (g i j)) s->wpAny (model X.prog X.w) X.A (f (.int i t) (.int j u)) Q E s):
 OpR X f (rI0 fun i j => .bl (g i j)):=by
 intro pins s σ H x y v u Q I rx ry h;obtain⟨i,j,rfl,rfl,q⟩:=h;obtain⟨t,rfl⟩:=rx;obtain⟨t',rfl⟩:=ry;exact rule i j t t' s _ _ ⟨.bl (g i j),H,I,rfl,q⟩
def Uf(i j:Int):Prop:=0<j/\j<1073741824
def Ug(i j:Int):Prop:=0<=j/\j<=1000000/\i.natAbs<2 ^ 64
def CMul(i j:Int):Prop:=(-(2 ^ 64)<i/\i<2 ^ 64)\/(-(2 ^ 64)<j/\j<2 ^ 64)
theorem CMul.ok{i j:Int}(h:CMul i j):IntMulOk i j:=by
 rcases h with⟨h1,h2⟩ | ⟨h1,h2⟩
 ·exact .of_left (intBits_le_64 h1 h2)
 ·exact .of_right (intBits_le_64 h1 h2)
theorem op_add:OpR X (binaryOp .Add) (rI0 fun i j => .int (i+j)):=Ue fun _ _ _ _ _ _ _ q=>add_int q
theorem Sk:OpR X (binaryOp .Sub) (rI0 fun i j => .int (i - j)):=Ue fun _ _ _ _ _ _ _ q=>sub_int q
theorem op_mul:OpR X (binaryOp .Mult) (rI CMul fun i j => .int (i * j)):=opI fun _ _ _ _ _ _ _ hc q=>mul_int q hc.ok
theorem Pf:OpR X (binaryOp .FloorDiv) (rI Uf fun i j => .int (i / j)):=opI fun i j _ _ _ _ _ hc q=>by
 have h1:(0:Int)<j:=hc.1;have h2:j<1073741824:=hc.2;exact floordiv_int (by omega) (by rw[Int.fdiv_eq_ediv_of_nonneg i (by omega)];exact q) (.inl (PyProof.noPylong_small (by omega)))
theorem Sl:OpR X (binaryOp .Mod) (rI (fun _ j=>0<j) fun i j => .int (i % j)):=opI fun i j _ _ _ _ _ hc q=>by
 have h1:(0:Int)<j:=hc;exact mod_int' (by omega) (by rw[Int.fmod_eq_emod_of_nonneg i (by omega)];exact q)
theorem Sm:OpR X (binaryOp .Pow) (rI Ug fun i j => .int (i ^ j.toNat)):=opI fun _ _ _ _ _ _ _ hc q=>pow_int_small hc.1 hc.2.1 hc.2.2 q
theorem unI{f:Value->Sem Value}{g:Int->Int}
 (rule:∀(i:Int) (t:Tok) (s:Shared) (Q:Value->Shared->Prop) (E:Value->Shared->Prop),Q (.int (g i) s.toks) {s with toks:=s.toks+1}->wpAny (model X.prog X.w) X.A (f (.int i t)) Q E s):
 UnR X f (rU fun i => .int (g i)):=by
 intro pins s σ H x v Q I rx h;obtain⟨i,rfl,q⟩:=h;obtain⟨t,rfl⟩:=rx;exact rule i t s _ _ ⟨.int (g i),H,I.tok _,⟨_,rfl⟩,q⟩
theorem MY:UnR X (unaryOp .USub) (rU fun i => .int (-i)):=unI fun _ _ _ _ _ q=>neg_int q
end
def So:V->V->Bool
 | .non,.non=>true | .non,.int _=>true | .int _,.non=>true | .non,.bl _=>true | .bl _,.non=>true | .non,.str _=>true | .str _,.non=>true
 | .int _,.int _=>true | .bl _,.bl _=>true | .str _,.str _=>true | .byt _,.byt _=>true
 | .int _,.str _=>true | .str _,.int _=>true | .bl _,.str _=>true | .str _,.bl _=>true
 | _,_=>false
def rEq:R2:=fun x y H Q=>So x y=true/\Q (.bl (decide (x=y))) H
def rNe:R2:=fun x y H Q=>So x y=true/\Q (.bl (!decide (x=y))) H
theorem JN{i j:Int}:decide (V.int i=V.int j)=(i == j):=by
 rw[Bool.eq_iff_iff];simp
theorem MZ{i j:Bool}:decide (V.bl i=V.bl j)=(i == j):=by
 rw[Bool.eq_iff_iff];simp
theorem JO{i j:Str}:decide (V.str i=V.str j)=(i == j):=by
 rw[Bool.eq_iff_iff];simp
theorem JP{i j:Array UInt8}:decide (V.byt i=V.byt j)=(i.toList == j.toList):=by
 rw[Bool.eq_iff_iff];cases i;cases j;simp
section
variable{X:Cx}{a b c:Expr}{ta tb tc:TE}{pos:Pos}
theorem j1{pins:List (Addr×Obj)}{σ:St}{H:Hp}{s:Shared}{Q:VK}{k k':Bool}(I:Inv X pins σ H s)(q:Q (.bl k) H)(e:k=k'):EP X pins σ Q (.bool k') s:=by
 subst e;exact⟨.bl k,H,I,rfl,q⟩
theorem op_eq:OpR X (compareOp .Eq) rEq:=by
 intro pins s σ H x y v u Q I rx ry h;obtain⟨hs,q⟩:=h;cases x with
 | non=>
   cases rx;cases y with
   | non=>cases ry;exact PySem.EqNone.eq_none_none (j1 I q (by simp))
   | bl j=>cases ry;exact PySem.EqNone.eq_none_bool (j1 I q (by simp))
   | int j=>obtain⟨t',rfl⟩:=ry;exact PySem.EqNone.eq_none_int (j1 I q (by simp))
   | str j=>obtain⟨t',rfl⟩:=ry;exact PySem.EqNone.eq_none_str (j1 I q (by simp))
   | _=>exact absurd (show false=true from hs) Bool.false_ne_true
 | bl i=>
   cases rx;cases y with
   | non=>cases ry;exact PySem.EqNone.eq_bool_none (j1 I q (by simp))
   | bl j=>cases ry;exact eq_bool (j1 I q MZ)
   | str j=>obtain⟨t',rfl⟩:=ry;exact PySem.EqMixed.eq_bool_str (j1 I q (by simp))
   | _=>exact absurd (show false=true from hs) Bool.false_ne_true
 | int i=>
   obtain⟨t,rfl⟩:=rx;cases y with
   | non=>cases ry;exact PySem.EqNone.eq_int_none (j1 I q (by simp))
   | int j=>obtain⟨t',rfl⟩:=ry;exact eq_int (j1 I q JN)
   | str j=>obtain⟨t',rfl⟩:=ry;exact PySem.EqMixed.eq_int_str (j1 I q (by simp))
   | _=>exact absurd (show false=true from hs) Bool.false_ne_true
 | str i=>
   obtain⟨t,rfl⟩:=rx;cases y with
   | non=>cases ry;exact PySem.EqNone.eq_str_none (j1 I q (by simp))
   | bl j=>cases ry;exact PySem.EqMixed.eq_str_bool (j1 I q (by simp))
   | int j=>obtain⟨t',rfl⟩:=ry;exact PySem.EqMixed.eq_str_int (j1 I q (by simp))
   | str j=>obtain⟨t',rfl⟩:=ry;exact eq_str (j1 I q JO)
   | _=>exact absurd (show false=true from hs) Bool.false_ne_true
 | byt i=>
   obtain⟨t,rfl⟩:=rx;cases y with
   | byt j=>obtain⟨t',rfl⟩:=ry;exact PySem.W.eq_bytes (j1 I q JP)
   | _=>exact absurd (show false=true from hs) Bool.false_ne_true
 | _=>cases y<;>exact absurd (show false=true from hs) Bool.false_ne_true
theorem op_ne:OpR X (compareOp .NotEq) rNe:=by
 intro pins s σ H x y v u Q I rx ry h;obtain⟨hs,q⟩:=h;cases x with
 | non=>
   cases rx;cases y with
   | non=>cases ry;exact PySem.EqNone.ne_none_none (j1 I q (by simp))
   | bl j=>cases ry;exact PySem.EqNone.ne_none_bool (j1 I q (by simp))
   | int j=>obtain⟨t',rfl⟩:=ry;exact PySem.EqNone.ne_none_int (j1 I q (by simp))
   | str j=>obtain⟨t',rfl⟩:=ry;exact PySem.EqNone.ne_none_str (j1 I q (by simp))
   | _=>exact absurd (show false=true from hs) Bool.false_ne_true
 | bl i=>
   cases rx;cases y with
   | non=>cases ry;exact PySem.EqNone.ne_bool_none (j1 I q (by simp))
   | bl j=>cases ry;exact ne_bool (j1 I q (congrArg not MZ))
   | str j=>obtain⟨t',rfl⟩:=ry;exact PySem.EqMixed.ne_bool_str (j1 I q (by simp))
   | _=>exact absurd (show false=true from hs) Bool.false_ne_true
 | int i=>
   obtain⟨t,rfl⟩:=rx;cases y with
   | non=>cases ry;exact PySem.EqNone.ne_int_none (j1 I q (by simp))
   | int j=>obtain⟨t',rfl⟩:=ry;exact ne_int (j1 I q (congrArg not JN))
   | str j=>obtain⟨t',rfl⟩:=ry;exact PySem.EqMixed.ne_int_str (j1 I q (by simp))
   | _=>exact absurd (show false=true from hs) Bool.false_ne_true
 | str i=>
   obtain⟨t,rfl⟩:=rx;cases y with
   | non=>cases ry;exact PySem.EqNone.ne_str_none (j1 I q (by simp))
   | bl j=>cases ry;exact PySem.EqMixed.ne_str_bool (j1 I q (by simp))
   | int j=>obtain⟨t',rfl⟩:=ry;exact PySem.EqMixed.ne_str_int (j1 I q (by simp))
   | str j=>obtain⟨t',rfl⟩:=ry;exact ne_str (j1 I q (congrArg not JO))
   | _=>exact absurd (show false=true from hs) Bool.false_ne_true
 | byt i=>
   obtain⟨t,rfl⟩:=rx;cases y with
   | byt j=>obtain⟨t',rfl⟩:=ry;exact PySem.W.ne_bytes (j1 I q (congrArg not JP))
   | _=>exact absurd (show false=true from hs) Bool.false_ne_true
 | _=>cases y<;>exact absurd (show false=true from hs) Bool.false_ne_true
theorem Uh:OpR X (compareOp .Lt) (rI0 fun i j => .bl (decide (i<j))):=Pe fun _ _ _ _ _ _ _ q=>lt_int q
theorem Ui:OpR X (compareOp .LtE) (rI0 fun i j => .bl (decide (i<=j))):=Pe fun _ _ _ _ _ _ _ q=>le_int q
theorem Uj:OpR X (compareOp .Gt) (rI0 fun i j => .bl (decide (j<i))):=Pe fun _ _ _ _ _ _ _ q=>gt_int q
theorem Uk:OpR X (compareOp .GtE) (rI0 fun i j => .bl (decide (j<=i))):=Pe fun _ _ _ _ _ _ _ q=>ge_int q
theorem Sq:OpR X (compareOp .Is) (fun x y H Q=>y = .non/\Q (.bl (decide (x = .non))) H):=by
 intro pins s σ H x y v u Q I rx ry h;obtain⟨rfl,q⟩:=h;cases ry;refine is_none_gen (j1 I q ?_)
 cases x<;>first
  | (cases rx;rfl)
  | (obtain⟨t,rfl⟩:=rx;rfl)
theorem op_notN:OpR X (compareOp .IsNot) (fun x y H Q=>y = .non/\Q (.bl (!decide (x = .non))) H):=by
 intro pins s σ H x y v u Q I rx ry h;obtain⟨rfl,q⟩:=h;cases ry;refine isnot_none_gen (j1 I q ?_)
 cases x<;>first
  | (cases rx;rfl)
  | (obtain⟨t,rfl⟩:=rx;rfl)
theorem OpR.or{f:Value->Value->Sem Value}{r r':R2}(h:OpR X f r)(h':OpR X f r'):OpR X f (fun x y H Q=>r x y H Q\/r' x y H Q):=by
 intro pins s σ H x y v u Q I rx ry q;rcases q with q | q
 ·exact h pins s σ H x y v u Q I rx ry q
 ·exact h' pins s σ H x y v u Q I rx ry q
theorem JQ{op:CmpOp}{r:R2}(ho:OpR X (compareOp op) r)(ha:PE X a ta)(hb:PE X b tb)(hm:behindInMarks op b=false):PE X (.Compare a [op] [b] pos) (tOp r ta tb):=by
 intro pins s σ H Q I h;exact wpAny_Compare1 (Sj ha hb I h fun v u s2 x y H2 I2 rx ry q=>ho pins s2 σ H2 x y v u Q I2 rx ry q) hm
def RZ(t:TE):TT:=fun σ H Q=>t σ H fun x H'=>∃ k,x = .bl k/\Q k H'
theorem JR{op:CmpOp}{r:R2}(ho:OpR X (compareOp op) r)(ha:PE X a ta)(hb:PE X b tb)(hm:behindInMarks op b=false):PT X (.Compare a [op] [b] pos) (RZ (tOp r ta tb)):=by
 intro pins s σ H Q I h
 refine wpAny_isTrue_Compare1 (thn (ha pins s σ H _ I h) fun v s1 ⟨x,H1,I1,r1,q1⟩=>thn (hb pins s1 σ H1 _ I1 q1) fun u s2 ⟨y,H2,I2,r2,q2⟩=>
  thn (ho pins s2 σ H2 x y v u _ I2 r1 r2 q2) fun c s3 ⟨z,H3,I3,r3,k,e,q3⟩=>?_) hm
 subst e;cases r3;exact wpAny_truthy_bool ⟨H3,I3,q3⟩
def IF(r r':R2)(ta tb tc:TE):TE:=fun σ H Q=>ta σ H fun x H1=>tb σ H1 fun y H2=>r x y H2 fun z H3=>∃ k,z = .bl k/\
 (if k=true then tc σ H3 fun w' H4=>r' y w' H4 Q else Q (.bl false) H3)
theorem Ma{op op':CmpOp}{r r':R2}(ho:OpR X (compareOp op) r)(ho':OpR X (compareOp op') r')(ha:PE X a ta)(hb:PE X b tb)(hc:PE X c tc)
 (hm:lastMarks [op,op'] [b,c]=false:=by with_unfolding_all rfl):PE X (.Compare a [op,op'] [b,c] pos) (IF r r' ta tb tc):=by
 intro pins s σ H Q I h
 refine Compare_chain (thn (ha pins s σ H _ I h) fun v s1 ⟨x,H1,I1,r1,q1⟩=>chain_link (thn (hb pins s1 σ H1 _ I1 q1) fun u s2 ⟨y,H2,I2,r2,q2⟩=>
  thn (ho pins s2 σ H2 x y v u _ I2 r1 r2 q2) fun d s3 ⟨z,H3,I3,r3,k,e,q3⟩=>?_)) hm
 subst e;cases r3;refine wpAny_truthy_bool ?_;cases k with
 | false=>exact ite_ff ⟨.bl false,H3,I3,rfl,q3⟩
 | true=>exact ite_tt (chain_last (thn (hc pins s3 σ H3 _ I3 q3) fun w' s4 ⟨z',H4,I4,r4,q4⟩=>ho' pins s4 σ H4 y z' u w' Q I4 r2 r4 q4))
theorem Mb{op op':CmpOp}{r r':R2}(ho:OpR X (compareOp op) r)(ho':OpR X (compareOp op') r')(ha:PE X a ta)(hb:PE X b tb)(hc:PE X c tc)
 (hm:lastMarks [op,op'] [b,c]=false:=by with_unfolding_all rfl):PT X (.Compare a [op,op'] [b,c] pos) (RZ (IF r r' ta tb tc)):=by
 intro pins s σ H Q I h
 refine isTrue_chain (thn (ha pins s σ H _ I h) fun v s1 ⟨x,H1,I1,r1,q1⟩=>test_link (thn (hb pins s1 σ H1 _ I1 q1) fun u s2 ⟨y,H2,I2,r2,q2⟩=>
  thn (ho pins s2 σ H2 x y v u _ I2 r1 r2 q2) fun d s3 ⟨z,H3,I3,r3,k,e,q3⟩=>?_)) hm
 subst e;cases r3;refine wpAny_truthy_bool ?_;cases k with
 | false=>
   obtain⟨k',e',q'⟩:=q3;cases e';exact ite_ff ⟨H3,I3,q'⟩
 | true=>
   refine ite_tt (test_last (thn (hc pins s3 σ H3 _ I3 q3) fun w' s4 ⟨z',H4,I4,r4,q4⟩=>thn (ho' pins s4 σ H4 y z' u w' _ I4 r2 r4 q4) fun d' s5 ⟨z2,H5,I5,r5,k2,e2,q5⟩=>?_));subst e2;cases r5;exact wpAny_truthy_bool ⟨H5,I5,q5⟩
def Pg(K:PySem.W.Frag)(x:V)(H:Hp)(k:Bool):Prop:=
 match x with
 | .non=>k=false
 | .bl b=>k=b
 | .int i=>k=(i != 0)
 | .str y=>y.length<=sizeLine/\k=((y.length:Int) != 0)
 | .byt y=>y.size<=sizeLine/\k=((y.size:Int) != 0)
 | .ref p=>(∃ xs,SqL K H p xs/\k=!xs.isEmpty)\/(∃ xs,SqT K H p xs/\k=!xs.isEmpty)\/∃ kvs,H p=some (.dK kvs)/\k=!kvs.isEmpty
 | _=>False
theorem IG{κ:Type}{kvs:List (κ×V)}{vs:List (κ×Value)}(r:KV kvs vs):(!vs.isEmpty)=!kvs.isEmpty:=by
 cases r<;>rfl
theorem Dl{xs:List V}{its:List Value}(r:Vals xs its):(!its.toArray.isEmpty)=!xs.isEmpty:=by
 cases r<;>simp
theorem CU:(sizeLine:Nat)<2 ^ 63:=by rw[sizeLine_eq];decide
theorem Sr:Vy X (fun x H Q=>∃ k,Pg X.K x H k/\Q k H):=by
 intro pins s σ H x v Q I rx h;obtain⟨k,e,q⟩:=h;have hl:=CU;have hs:sizeLine=16777216:=sizeLine_eq;cases x with
 | non=>
   cases rx;have e':k=false:=e;subst e';exact truthy_none ⟨H,I,q⟩
 | bl b=>
   cases rx;have e':k=b:=e;subst e';exact wpAny_truthy_bool ⟨H,I,q⟩
 | int i=>
   obtain⟨t,rfl⟩:=rx;have e':k=(i != 0):=e;subst e';exact PySem.P.truthy_int ⟨H,I,q⟩
 | str y=>
   obtain⟨t,rfl⟩:=rx;obtain⟨hy,e'⟩:y.length<=sizeLine/\k=((y.length:Int) != 0):=e;subst e';exact PySem.P.truthy_str (by omega) ⟨H,I.tok _,q⟩
 | byt y=>
   obtain⟨t,rfl⟩:=rx;obtain⟨hy,e'⟩:y.size<=sizeLine/\k=((y.size:Int) != 0):=e;subst e';exact PySem.W.truthy_bytes (by omega) ⟨H,I.tok _,q⟩
 | ref p=>
   cases rx;have e':(∃ xs,SqL X.K H p xs/\k=!xs.isEmpty)\/(∃ xs,SqT X.K H p xs/\k=!xs.isEmpty)\/∃ kvs,H p=some (.dK kvs)/\k=!kvs.isEmpty:=e;rcases e' with⟨xs,hx,e'⟩ | ⟨xs,hx,e'⟩ | ⟨kvs,hx,e'⟩
   ·subst e';obtain⟨its,r,pl,hz⟩:=I.list hx;have hlen:=r.length;exact wpAny_truthy_list pl.isList (by simp only[List.size_toArray];omega) ⟨H,I.tok _,by rw[Dl r];exact q⟩
   ·subst e';obtain⟨its,r,pl,hz⟩:=I.tuple hx;have hlen:=r.length;exact truthy_tuple pl (by simp only[List.size_toArray];omega) ⟨H,I.tok _,by rw[Dl r];exact q⟩
   ·subst e';obtain⟨hz,hS,vs,r,m⟩:kvs.length<=sizeLine/\(p == sysModules)=false/\∃ vs,KV kvs vs/\s.heap.DictOf (m4 X.prog X.w) p vs:=I.hok p _ hx;have hlen:kvs.length=vs.length:=Paired.length r;exact wpAny_truthy_dict hS m (by omega) ⟨H,I.tok _,by rw[IG r];exact q⟩
 | _=>exact(show False from e).elim
theorem Mc(ha:PE X a ta)(he:∀ whole,isTrue a X.env whole=(do let v <- whole;standAt a.pos;holding [v] (truthy v))):
 PT X a (fun σ H Q=>ta σ H fun x H'=>∃ k,Pg X.K x H' k/\Q k H'):=by
 intro pins s σ H Q I h;exact isTrue_plain (thn (ha pins s σ H _ I h) fun v s1 ⟨x,H1,I1,r1,q1⟩=>Sr pins s1 σ H1 x v Q I1 r1 q1) (he _)
theorem BY{x:V}{us:List Value}(r:Vals [x] us):∃ u,us=[u]/\RelV x u:=by
 cases r with
 | cons r1 r2=>cases r2;exact⟨_,rfl,r1⟩
theorem Ra{x y:V}{us:List Value}(r:Vals [x,y] us):∃ u w',us=[u,w']/\RelV x u/\RelV y w':=by
 cases r with
 | cons r1 r2=>
   cases r2 with
   | cons r3 r4=>cases r4;exact⟨_,_,rfl,r1,r3⟩
theorem Md:CallR X (.builtin "abs") (fun xs H Q=>∃ i,xs=[.int i]/\Q (.int (if i<0 then -i else i)) H):=by
 intro pins s σ H xs us Q I r h;obtain⟨i,rfl,q⟩:=h;obtain⟨u,rfl,t,rfl⟩:=BY r;exact call_abs_int fun u tk=>⟨.int (if i<0 then -i else i),H,I.tok _,⟨_,rfl⟩,q⟩
theorem Ke(hc:X.calm=true):CallR X (.builtin "max") (fun xs H Q=>∃ i j,xs=[.int i,.int j]/\Q (.int (if j>i then j else i)) H):=by
 intro pins s σ H xs us Q I r h;obtain⟨i,j,rfl,q⟩:=h;obtain⟨u,w',rfl,⟨t,rfl⟩,⟨t',rfl⟩⟩:=Ra r;refine max_two_ints (I.ok.hd hc) fun h' tk k=>⟨_,H,I.kept k,?_,q⟩
 by_cases hj:j>i
 ·rw[if_pos hj,if_pos hj];exact⟨_,rfl⟩
 ·rw[if_neg hj,if_neg hj];exact⟨_,rfl⟩
theorem Kf(hc:X.calm=true):CallR X (.builtin "min") (fun xs H Q=>∃ i j,xs=[.int i,.int j]/\Q (.int (if j<i then j else i)) H):=by
 intro pins s σ H xs us Q I r h;obtain⟨i,j,rfl,q⟩:=h;obtain⟨u,w',rfl,⟨t,rfl⟩,⟨t',rfl⟩⟩:=Ra r;refine min_two_ints (I.ok.hd hc) fun h' tk k=>⟨_,H,I.kept k,?_,q⟩
 by_cases hj:j<i
 ·rw[if_pos hj,if_pos hj];exact⟨_,rfl⟩
 ·rw[if_neg hj,if_neg hj];exact⟨_,rfl⟩
theorem Kg:CallR X (.type "int") (fun xs H Q=>(∃ i,xs=[.int i]/\Q (.int i) H)\/∃ k,xs=[.bl k]/\Q (.int (if k then 1 else 0)) H):=by
 intro pins s σ H xs us Q I r h;rcases h with⟨i,rfl,q⟩ | ⟨k,rfl,q⟩
 ·obtain⟨u,rfl,t,rfl⟩:=BY r;exact call_int_int ⟨.int i,H,I,⟨_,rfl⟩,q⟩
 ·obtain⟨u,rfl,r1⟩:=BY r;cases r1;exact call_int_bool ⟨.int (if k then 1 else 0),H,I.tok _,⟨_,rfl⟩,q⟩
end
open PySem PySem.Spec PyProof.Rows
structure ObjM(h:Heap)(x dx C:Addr)(mA:Str->Option Value):Prop where
 obj:h.get? x=some (PySem.W.instObj C dx)
 ns:h.Ns1 dx mA
 ne:dx≠x
theorem Kh{h:Heap}{dx:Addr}{mA:Str->Option Value}(n:h.Ns1 dx mA):∃ od,h.get? dx=some od/\∀ name,PySem.W.lookIn name od=some (mA name):=by
 obtain⟨o,es,ep,ho,hd,hk,_,hm⟩:=n;refine⟨o,ho,fun name=>?_⟩;have e:=hm name;unfold nsFind findBy at e;rw[<-Array.find?_toList]at e;unfold PySem.W.lookIn;rw[hd];dsimp only;split
 ·rename_i y q;rw[q]at e;exact congrArg some e
 ·rename_i q;rw[q]at e
  have a:es.toList.any (·.refKey)=false:=by
   rw[List.any_eq_false];intro y hy;obtain⟨z,t,hkey⟩:=hk y (Array.mem_toList_iff.mp hy);simp[DictEntry.refKey,hkey]
  have a':¬ es.toList.any (·.refKey)=true:=by rw[a];exact Bool.false_ne_true
  rw[if_neg a'];exact congrArg some e
theorem ObjM.look{h:Heap}{x dx C:Addr}{mA:Str->Option Value}(I:ObjM h x dx C mA):∃ od,PySem.W.InstAt h x (PySem.W.instObj C dx) C (some od)/\∀ name,PySem.W.lookIn name od=some (mA name):=
 let ⟨od,ho,hl⟩:=Kh I.ns
 ⟨od,⟨I.obj,rfl,rfl,ho⟩,hl⟩
theorem RelO.some_of{v:V}{o:Option Value}(r:RelO (some v) o):∃ u,o=some u/\RelV v u:=by
 cases o with
 | none=>exact(show False from r).elim
 | some u=>exact⟨u,rfl,r⟩
section
variable{P:Program}{w:World}{H H':Hp}{h h':Heap}{a C dx:Addr}{fs fs':List (Str×V)}
theorem JS(hok:HOk P w H h)(e:H a=some (.ins C dx fs)):∃ mA,ObjM h a dx C mA/\(∀ f,RelO (fs.lookup f) (mA f))/\PySem.Within mA (fs.map (·.1))/\fs.length<=1000/\H dx=some (.own a):=by
 obtain⟨d,z,ne,ob,mA,n,r,q⟩:=(show ObjOk P w H h a (.ins C dx fs) from hok a _ e)
 exact⟨mA,⟨ob,n,ne⟩,r,q,z,d⟩
end
structure Cls(K:PySem.W.Frag)(C:Addr):Prop where
 pg:PySem.W.plainGet K C Str.empty=true
 hd:PySem.W.hasDictIn K C=true
 po:PySem.W.plainOver K C=true
 sa:PySem.W.findIn K (.ref C) "__setattr__"=some (some (.builtin "object.__setattr__"))
theorem Cls.get{K:PySem.W.Frag}{C:Addr}(c:Cls K C)(f:Str):PySem.W.plainGet K C f=true:=c.pg
section
variable{X:Cx}{pins:List (Addr×Obj)}{σ:St}{H:Hp}{s:Shared}{A:Around}{E:Value->Shared->Prop}{Q:Value->Shared->Prop}{c:Value}{b:Bool}
inductive TyOf(K:PySem.W.Frag)(H:Hp):V->Value->Prop where
 | non:TyOf K H .non (.type "NoneType")
 | bl (x:Bool):TyOf K H (.bl x) (.type "bool")
 | int (i:Int):TyOf K H (.int i) (.type "int")
 | str (x:Str):TyOf K H (.str x) (.type "str")
 | flt (x:UInt64):TyOf K H (.flt x) (.type "float")
 | lst {a:Addr} {xs:List V} (e:H a=some (.lst xs)):TyOf K H (.ref a) (.type "list")
 | frz {a:Addr} {o:Obj} {xs:List V} (e:H a=some (.frz o (.lst xs))):TyOf K H (.ref a) (.type "list")
 | tup {a:Addr} {xs:List V} (e:H a=some (.tup xs)):TyOf K H (.ref a) (.type "tuple")
 | dK {a:Addr} {kvs:List (Key×V)} (e:H a=some (.dK kvs)):TyOf K H (.ref a) (.type "dict")
 | dT {a:Addr} {kvs:List (List Key×V)} (e:H a=some (.dT kvs)):TyOf K H (.ref a) (.type "dict")
 | ins {a C dx:Addr} {fs:List (Str×V)} (e:H a=some (.ins C dx fs)) (cl:Cls K C) (ha:PySem.W.findIn K (.ref C) "__class__"=some (some (.builtin "object.__class__")))
    (hn:PySem.W.specialIn K (.builtin "object.__class__") "__get__"=some (some (.builtin "getset_descriptor.__get__"))) (htk:PySem.W.takesIn K (.builtin "object.__class__")=some true)
    (hm:PySem.W.mroIn K C (.type "object")=some true):TyOf K H (.ref a) (.ref C)
theorem Ki{x:V}{u t:Value}(I:Inv X pins σ H s)(rx:RelV x u)(ty:TyOf X.K H x t)(e:PySem.W.kitOne X.K t c=some b)(h:∀ tk,Q (.bool b) {s with toks:=tk}):
 wpAny (model X.prog X.w) A (call (.builtin "isinstance") [u,c]) Q E s:=by
 cases ty with
 | non=>cases(show u=Value.none from rx);exact PySem.W.kia_one PySem.W.kitx_none I.kIn True.intro e (fun z=>nomatch z) h
 | bl y=>cases(show u=Value.bool y from rx);exact PySem.W.kia_one PySem.W.kitx_bool I.kIn True.intro e (fun z=>nomatch z) h
 | int i=>obtain⟨t,q⟩:=(show ∃ t,u=Value.int i t from rx);cases q;exact PySem.W.kia_one PySem.W.kitx_int I.kIn True.intro e (fun z=>nomatch z) h
 | str y=>obtain⟨t,q⟩:=(show ∃ t,u=Value.str y t from rx);cases q;exact PySem.W.kia_one PySem.W.kitx_str I.kIn True.intro e (fun z=>nomatch z) h
 | flt y=>obtain⟨t,q⟩:=(show ∃ t,u=Value.float y t from rx);cases q;exact PySem.W.kia_one PySem.W.kitx_float I.kIn True.intro e (fun z=>nomatch z) h
 | @lst a xs ea=>
   cases(show u=Value.ref a from rx);obtain⟨_,_,n,_,h1⟩:=(show ObjOk X.prog X.w H s.heap a (.lst xs) from I.hok a _ ea)
   exact PySem.W.kia_one PySem.W.kitx_list I.kIn ⟨_,h1,rfl⟩ e (fun z=>nomatch z) h
 | @frz a ob xs ea=>
   cases(show u=Value.ref a from rx);obtain⟨_,_,_,n,_,h1⟩:=(show ObjOk X.prog X.w H s.heap a (.frz ob (.lst xs)) from I.hok a _ ea)
   exact PySem.W.kia_one PySem.W.kitx_list I.kIn ⟨_,h1,rfl⟩ e (fun z=>nomatch z) h
 | @tup a xs ea=>
   cases(show u=Value.ref a from rx);obtain⟨_,_,_,p⟩:=(show ObjOk X.prog X.w H s.heap a (.tup xs) from I.hok a _ ea)
   obtain⟨o,h1,h2,_⟩:=p;exact PySem.W.kia_one PySem.W.kitx_tuple I.kIn ⟨o,h1,h2⟩ e (fun z=>nomatch z) h
 | @dK a kvs ea=>
   cases(show u=Value.ref a from rx);obtain⟨_,_,vs,_,p⟩:=(show ObjOk X.prog X.w H s.heap a (.dK kvs) from I.hok a _ ea)
   obtain⟨o,es,ep,h1,h2,_⟩:=p;exact PySem.W.kia_one PySem.W.kitx_dict I.kIn ⟨o,h1,h2.1⟩ e (fun z=>nomatch z) h
 | @dT a kvs ea=>
   cases(show u=Value.ref a from rx);obtain⟨_,_,xs,_,o,es,ep,h1,h2,_⟩:=(show ObjOk X.prog X.w H s.heap a (.dT kvs) from I.hok a _ ea)
   exact PySem.W.kia_one PySem.W.kitx_dict I.kIn ⟨o,h1,h2.1⟩ e (fun z=>nomatch z) h
 | @ins a C dx fs ea cl ha hn htk hm=>
   cases(show u=Value.ref a from rx);obtain⟨mA,O,_⟩:=JS I.hok ea;obtain⟨od,J,_⟩:=O.look;exact PySem.W.kia_one (PySem.W.kitx_own (cl.get _) cl.hd ha hn htk hm) I.kIn J e (fun z=>nomatch z) h
end
open PySem PySem.Spec PyProof.Rows
structure Room(k:Nat)(A:Around):Prop where
 hd:A.handled=none
 dp:A.depth+3 * k+5<recursionLimit
 un:A.units+16 * k+200<cLine
 gd:A.guards=some []
theorem Room.deeper{k:Nat}{A:Around}(r:Room (k+1) A)(env:Env):Room k (A.deeper env):=
 ⟨r.hd,by have:=r.dp;show A.depth+1+3 * k+5<_;omega,by have:=r.un;show A.units+3+16 * k+200<_;omega,r.gd⟩
theorem Room.depth{k:Nat}{A:Around}(r:Room k A):A.depth<recursionLimit:=by have:=r.dp;omega
def Ul:TA:=fun _ H Q=>Q [] H
def Me(ta:TE)(tr:TA):TA:=fun σ H Q=>ta σ H fun x H1=>tr σ H1 fun xs H2=>Q (x::xs) H2
section
variable{X:Cx}{e:Expr}{es:List Expr}{te:TE}{t:TA}{pos:Pos}
theorem Bg:PA X [] Ul:=fun _ _ _ _ H Q I h=>Calls.spliced_nil ⟨[],H,I,.nil,h⟩
theorem AQ(ha:PE X e te)(hr:PA X es t)(hs:starEach (e::es) X.env=(false,eval e X.env)::starEach es X.env:=by rfl):PA X (e::es) (Me te t):=by
 intro pos pins s σ H Q I h;rw[hs];show wpAny _ _ (spliced ((false,eval e X.env)::backTo pos (starEach es X.env))) _ _ s;refine Calls.spliced_cons (thn (ha pins s σ H _ I h) fun u s1 ⟨x,H1,I1,r1,q1⟩=>?_);exact thn (hr pos pins s1 σ H1 _ I1 q1) fun us s2 ⟨xs,H2,I2,r2,q2⟩=>⟨x::xs,H2,I2,.cons r1 r2,q2⟩
def Um(t:TA):TE:=fun σ H Q=>t σ H fun xs H1=>xs.length<=sizeLine/\∀ p,H1 p=none->Q (.ref p) (upd H1 p (.tup xs))
def Uo(t:TA):TE:=fun σ H Q=>t σ H fun xs H1=>xs.length<=sizeLine/\∀ p,H1 p=none->Q (.ref p) (upd H1 p (.lst xs))
theorem Ss{x1}(h:PA X es t):PE X (.Tuple es x1 pos) (Um t):=by
 intro pins s σ H Q I hq;refine wpAny_Tuple_spliced (thn (h pos pins s σ H _ I hq) fun us s1 ⟨xs,H1,I1,r,z,q⟩=>⟨by rw[<-r.length];exact z,?_⟩);have hf:H1 s1.heap.objs.size=none:=I1.hok.fresh (Nat.le_refl _);refine⟨.ref s1.heap.objs.size,upd H1 s1.heap.objs.size (.tup xs),I1.laid (t':=s1.toks) (fun b u e=>Heap.get?_push_of_some _ e) (Nat.le_refl _) ?_,rfl,q _ hf⟩;exact⟨z,us,r,⟨_,Heap.get?_push_size _ rfl,rfl,_,rfl⟩⟩
theorem Su(h:PA X es t):PE X (.List es pos) (Uo t):=by
 intro pins s σ H Q I hq;refine wpAny_List_spliced (thn (h pos pins s σ H _ I hq) fun us s1 ⟨xs,H1,I1,r,z,q⟩=>⟨by rw[<-r.length];exact z,?_⟩);have hf:H1 s1.heap.objs.size=none:=I1.hok.fresh (Nat.le_refl _);refine⟨.ref s1.heap.objs.size,upd H1 s1.heap.objs.size (.lst xs),I1.laid (t':=s1.toks) (fun b u e=>Heap.get?_push_of_some _ e) (Nat.le_refl _) ?_,rfl,q _ hf⟩;exact⟨z,us,0,r,Heap.get?_push_size _ rfl⟩
end
abbrev Sp:=List V->Hp->VK->XK->Prop
abbrev CXT:=List Env->Hp->Shared->XK->Value->Shared->Prop
structure Env0(P:Program)(w:World)(K:PySem.W.Frag)(mg:Str->Option Value)(base:Heap)(A:Around)(outer:List Env)(s:Shared)(H:Hp):Prop where
 frames:A.frames=some outer
 mod:Mod K mg base
 bs:∀ b o,base.get? b=some o->s.heap.get? b=some o/\H b=none
 bsz:base.objs.size<=s.heap.objs.size
 funs:s.heap.FunFrames base outer
 frf:∀ b∈frs outer,H b=none
 hok:HOk P w H s.heap
 bare:AllBare s.gens
def CE(outer:List Env)(P:Program)(w:World)(H:Hp)(s:Shared)(Q:VK)(u:Value)(s':Shared):Prop:=
 ∃ v H',s'.os=s.os/\AllBare s'.gens/\Un (frs outer) [] H H' s.heap s'.heap/\HOk P w H' s'.heap/\RelV v u/\Q v H'
def CR(CX:CXT)(outer:List Env)(P:Program)(w:World)(H:Hp)(s:Shared)(Q:VK)(E:XK)(r:Result)(s':Shared):Prop:=
 match r with
 | .ok (.ret u)=>CE outer P w H s Q u s'
 | .ok _=>False
 | .error e=>CX outer H s E e s'
structure FnOk(P:Program)(w:World)(K:PySem.W.Frag)(mg:Str->Option Value)(base:Heap)(CX:CXT)(k:Nat)(f:Addr)(fd:FuncData)(ps:List Str)(sp:Sp):Prop where
 len:∀ vs H Q E,sp vs H Q E->vs.length=ps.length
 run:∀(A:Around) (outer:List Env) (s:Shared) (H:Hp) (args:Args) (us:List Value) (vs:List V) (Q:VK) (E:XK),Room k A->Env0 P w K mg base A outer s H->BindsTo s fd args (ps.zip us)->Vals vs us->sp vs H Q E->
  codeAny (model P w) A (.call (.ref f) args) (CR CX outer P w H s Q E) s
section
variable{X:Cx}{pins:List (Addr×Obj)}{σ:St}{H:Hp}{s s':Shared}
theorem Inv.env0(I:Inv X pins σ H s):Env0 X.prog X.w X.K X.mg X.base X.A X.stack s H:=
 ⟨I.ok.frames,I.ok.mod,I.bs,Nat.le_trans I.ok.bsz I.sz,I.stack,I.stkFree,I.hok,I.bare⟩
theorem Inv.after{Q:VK}{u:Value}(I:Inv X pins σ H s)(h:CE X.stack X.prog X.w H s Q u s'):EP X pins σ Q u s':=by
 obtain⟨v,H',os,bare,un,hok,r,q⟩:=h;obtain⟨hh,g,d,t,os'⟩:=s';obtain rfl:os'=s.os:=os;exact⟨v,H',I.call (h':=hh) (g':=g) (d':=d) (t':=t) (ch:=[]) un hok bare (fun b z=>absurd z (by simp)),r,q⟩
end
def Rb(sp:Sp)(dvs:List V)(E:XK)(t:TA):TE:=fun σ H Q=>t σ H fun vs H1=>sp (vs++dvs) H1 Q E
def Binds(K:PySem.W.Frag)(fd:FuncData)(ps:List Str)(ds:List Value):Prop:=
 ∀(s:Shared) (us:List Value),K.In s.heap->(us++ds).length=ps.length->BindsTo s fd ⟨us,[]⟩ (ps.zip (us++ds))
theorem Binds.all{K:PySem.W.Frag}{fd:FuncData}{ps:List Str}(h:∀ us:List Value,us.length=ps.length->bindArgs fd ⟨us,[]⟩=pure (ps.zip us)):Binds K fd ps []:=fun s us _ hl=>by
 rw[List.append_nil]at hl ⊢;exact .of_eq (h us hl)
def IH(CX:CXT)(X:Cx)(E:XK):Prop:=∀(pins:List (Addr×Obj)) (σ:St) (H:Hp) (s:Shared) (e:Value) (s':Shared),Inv X pins σ H s->CX X.stack H s E e s'->X.xe e s'
section
variable{X:Cx}{CX:CXT}{k:Nat}{f C:Addr}{fd:FuncData}{ps:List Str}{sp:Sp}{dvs:List V}{ds:List Value}{E:XK}{x m:Str}{p pos apos:Pos}{e o:Expr}{es:List Expr}{ta:TE}{t:TA}
theorem Sv{pins:List (Addr×Obj)}{σ:St}{H:Hp}{s:Shared}{Q:VK}{us:List Value}{vs:List V}(F:FnOk X.prog X.w X.K X.mg X.base CX k f fd ps sp)(hr:Room k X.A)(hb:Binds X.K fd ps ds)(hd:Vals dvs ds)(hx:IH CX X E)
 (I:Inv X pins σ H s) (r:Vals vs us) (h:sp (vs++dvs) H Q E):wpAny (model X.prog X.w) X.A (call (.ref f) us) (EP X pins σ Q) X.xe s:=by
 have r2:Vals (vs++dvs) (us++ds):=r.append hd;have hl:(us++ds).length=ps.length:=by rw[<-r2.length];exact F.len _ _ _ _ h
 refine wpAny_call (codeAny_mono (F.run X.A X.stack s H ⟨us,[]⟩ (us++ds) (vs++dvs) Q E hr I.env0 (hb s us I.kIn hl) r2 h) fun r s' hq=>?_);cases r with
 | error e=>exact hx pins σ H s e s' I hq
 | ok fl=>
   cases fl with
   | ret u=>exact I.after hq
   | next=>exact False.elim hq
   | brk=>exact False.elim hq
   | cont=>exact False.elim hq
theorem Ph(F:FnOk X.prog X.w X.K X.mg X.base CX k f fd ps sp)(hr:Room k X.A)(hg:Gl X x)(hm:X.mg x=some (.ref f))(hk:PySem.W.keepIn X.K (.ref f)=true)(hb:Binds X.K fd ps ds)(hd:Vals dvs ds)(hx:IH CX X E)
 (ha:PA X (e::es) t) (hdb:(x == ("__debug__":Str))=false:=by decide) (he:starEach (e::es) X.env=(false,eval e X.env)::starEach es X.env:=by rfl) (hpl:(backTo pos (starEach es X.env)).any (·.1)=false:=by rfl):
 PE X (.Call (.Name x p) (e::es) [] pos) (Rb sp dvs E t):=by
 intro pins s σ H Q I h;refine wpAny_Call_Name_kw (PU I hg hm ?_ hdb);refine PySem.W.callWith_K (h₀:=X.base) I.ok.mod.kin hk (thn (ha pos pins s σ H _ I h) fun us s1 ⟨vs,H1,I1,r,q⟩=>⟨I1.kIn,?_⟩) he hpl;exact Sv F hr hb hd hx I1 r q
end
def PK(X:Cx)(kws:List Keyword)(t:TA):Prop:=
 ∀(pos:Pos) (pins:List (Addr×Obj)) (s:Shared) (σ:St) (H:Hp) (Q:List V->Hp->Prop),Inv X pins σ H s->t σ H Q->wpAny (model X.prog X.w) X.A (evalAll ((backToKw pos (keywordEach kws X.env)).map (·.2))) (AP X pins σ Q) X.xe s
section
variable{X:Cx}{CX:CXT}{k:Nat}{f C:Addr}{fd:FuncData}{ps ks:List Str}{sp:Sp}{E:XK}{x m:Str}{p pos apos kpos:Pos}{e o:Expr}{es:List Expr}{kws:List Keyword}{te ta:TE}{t tk:TA}{nm:Option Str}
theorem Sw:PK X [] Ul:=fun _ _ _ _ H Q I h=>wpAny_evalAll_nil ⟨[],H,I,.nil,h⟩
theorem Pi(ha:PE X e te)(hr:PK X kws t):PK X (⟨nm,e,kpos⟩::kws) (Me te t):=by
 intro pos pins s σ H Q I h;show wpAny _ _ (evalAll ((do let v <- eval e X.env;standAt pos;pure v)::(backToKw pos (keywordEach kws X.env)).map (·.2))) _ _ s;refine wpAny_evalAll_cons (wpAny_bind (thn (ha pins s σ H _ I h) fun u s1 ⟨x,H1,I1,r1,q1⟩=>wpAny_bind (wpAny_standAt (wpAny_pure ?_))));exact thn (hr pos pins s1 σ H1 _ I1 q1) fun us s2 ⟨xs,H2,I2,r2,q2⟩=>⟨x::xs,H2,I2,.cons r1 r2,q2⟩
variable{g:List Value->List Value->List Value}{gV:List V->List V->List V}
end
structure FnScope(N P:List Str)(sc:Scope):Prop where
 kind:sc.kind = .function
 co:sc.isCoroutine=false
 gen:sc.isGenerator=false
 nd:N.Nodup
 pre:N.take P.length=P
 par:∀ x∈P,sc.names.lookup x=some .local\/sc.names.lookup x=some .cell
 nofree:∀ y∈sc.names,y.2 ≠ .free
theorem Ei{kindOf:Str->Option NameKind}{x:Str}:∀{binds:List (Str×Value)} {m:Str->Option Value},(∀ v,(x,v)∉binds)->bindL kindOf binds m x=m x
 | [],_,_=>rfl
 | (n,v)::r,m,h=>by
   unfold bindL;rw[Ei fun w hw=>h w (List.mem_cons_of_mem _ hw)];split
   ·have:x≠n:=by rintro rfl;exact h v List.mem_cons_self
    simp[this]
   ·rfl
theorem Ej{kindOf:Str->Option NameKind}{x:Str}:∀{binds:List (Str×Value)} {m:Str->Option Value},(∀ v,(x,v)∉binds)->bindC kindOf binds m x=m x
 | [],_,_=>rfl
 | (n,v)::r,m,h=>by
   unfold bindC;rw[Ej fun w hw=>h w (List.mem_cons_of_mem _ hw)];split
   ·rfl
   ·have:x≠n:=by rintro rfl;exact h v List.mem_cons_self
    simp[this]
theorem Ek{kindOf:Str->Option NameKind}{x:Str}{v:Value}:∀{P:List Str} {vs:List Value} {i:Nat} {m:Str->Option Value},P.Nodup->P[i]?=some x->vs[i]?=some v->kindOf x=some .local->
 bindL kindOf (P.zip vs) m x=some v
 | [],_,_,_,_,h,_,_=>by simp at h
 | _::_,[],_,_,_,_,h,_=>by simp at h
 | p::P,w::vs,0,m,nd,h1,h2,hk=>by
   simp at h1 h2;subst h1;subst h2;show bindL kindOf ((p,w)::P.zip vs) m p=_;unfold bindL;rw[Ei fun v hv=>(List.nodup_cons.mp nd).1 (List.of_mem_zip hv).1,if_pos hk];simp
 | p::P,w::vs,i+1,m,nd,h1,h2,hk=>by
   show bindL kindOf ((p,w)::P.zip vs) m x=_;unfold bindL;exact Ek (i:=i) (List.nodup_cons.mp nd).2 (by simpa using h1) (by simpa using h2) hk
theorem El{kindOf:Str->Option NameKind}{x:Str}{v:Value}:∀{P:List Str} {vs:List Value} {i:Nat} {m:Str->Option Value},P.Nodup->P[i]?=some x->vs[i]?=some v->kindOf x≠some .local->
 bindC kindOf (P.zip vs) m x=some v
 | [],_,_,_,_,h,_,_=>by simp at h
 | _::_,[],_,_,_,_,h,_=>by simp at h
 | p::P,w::vs,0,m,nd,h1,h2,hk=>by
   simp at h1 h2;subst h1;subst h2;show bindC kindOf ((p,w)::P.zip vs) m p=_;unfold bindC;rw[Ej fun v hv=>(List.nodup_cons.mp nd).1 (List.of_mem_zip hv).1,if_neg hk];simp
 | p::P,w::vs,i+1,m,nd,h1,h2,hk=>by
   show bindC kindOf ((p,w)::P.zip vs) m x=_;unfold bindC;exact El (i:=i) (List.nodup_cons.mp nd).2 (by simpa using h1) (by simpa using h2) hk
def start(N:List Str)(vs:List V):St:=vs.map some++List.replicate (N.length - vs.length) none
def II(CX:CXT)(P:Program)(w:World)(K:PySem.W.Frag)(mg:Str->Option Value)(base:Heap)(N:List Str)(qual:Str)(scope:Scope)(f:Addr)(cd:Value)(A:Around)(outer:List Env)(s:Shared)(H:Hp)(E:XK):Cx where
 prog:=P
 w:=w
 K:=K
 mg:=mg
 base:=base
 A:=A.deeper (envOfC qual scope s.heap.objs.size f cd)
 N:=N
 s₀:=s
 H₀:=H
 env:=envOfC qual scope s.heap.objs.size f cd
 outer:=outer
 stack:=envOfC qual scope s.heap.objs.size f cd::outer
 ex:=[]
 calm:=true
 fn:=fun _=>true
 pn:=[]
 xe:=fun e s'=>wpAny (model P w) (A.deeper (envOfC qual scope s.heap.objs.size f cd)) (leaving (envOfC qual scope s.heap.objs.size f cd) e) (fun _ s''=>CX outer H s E e s'') (fun e' s''=>CX outer H s E e' s'') s'
theorem GH{sc:Scope}{n:Nat}{x:Str}(h:sc.names.lookup x=some .cell):∃ c,(cellsFrom n sc.names []).lookup x=some c:=by
 have q:=PySem.W.cellsFrom_some sc.names n [] (.inl h);exact Option.isSome_iff_exists.mp q
theorem Kj{CX:CXT}{P:Program}{w:World}{K:PySem.W.Frag}{mg:Str->Option Value}{base:Heap}{N ps:List Str}{qual:Str}{scope:Scope}{f:Addr}{cd:Value}{A:Around}{outer:List Env}{s s1:Shared}{H:Hp}{E:XK}{us:List Value}{vs:List V}
 (S:FnScope N ps scope) (hd:A.handled=none) (e0:Env0 P w K mg base A outer s H) (hl:vs.length=ps.length) (r:Vals vs us)
 (x:InCallC s s.heap.objs.size (bindL (envOfC qual scope s.heap.objs.size f cd).kindOf (ps.zip us) fun _=>none) (cellsFrom (s.heap.objs.size+1) scope.names []) (bindC (envOfC qual scope s.heap.objs.size f cd).kindOf (ps.zip us) fun _=>none) s1):
 Inv (II CX P w K mg base N qual scope f cd A outer s H E) [] (start N vs) H s1:=by
 have hpl:ps.length<=N.length:=by have:=congrArg List.length S.pre;rw[List.length_take]at this;omega
 obtain⟨h1,tk,rfl,hk⟩:=x.done;have noA:∀ b:Addr,b∉(II CX P w K mg base N qual scope f cd A outer s H E).ex:=fun b z=>absurd (show b∈([]:List Addr) from z) (by simp)
 refine⟨⟨e0.mod,S.kind,rfl,rfl,Nat.le_refl _,fun y z c h1 h2=>?_,fun y hy=>?_,fun y c _ h=>?_,fun _=>hd,Around.frames_deeper e0.frames,.inr ⟨rfl,rfl⟩,fun b z=>absurd z (noA b),e0.bs,e0.bsz,fun b _ _=>noA b,fun b z=>absurd z (noA b),e0.funs,e0.frf⟩,
  rfl,e0.bare,Un.kept hk,⟨_,x.toInCall.ns,fun i y v h1 h2 h3=>?_⟩,fun y c h=>⟨_,x.cell y c h⟩,e0.hok.fresh (Nat.le_refl _),fun y c h=>?_,fun p hp=>absurd (show p∈([]:List (Addr×Obj)) from hp) (by simp),e0.hok.kept hk,?_⟩
 ·exact name_of_addr x.apart (PySem.mem_of_lookup h1) (PySem.mem_of_lookup h2)
 ·have hy:scope.names.lookup y=some .cell\/scope.names.lookup y=some .free:=hy;rcases hy with hy | hy
  ·exact GH hy
  ·exact absurd rfl (S.nofree _ (PySem.mem_of_lookup hy))
 ·exact Nat.le_of_lt (x.above y c (PySem.mem_of_lookup h))
 ·have hi:i<vs.length:=by
   unfold start at h2;by_cases hi:i<vs.length
   ·exact hi
   ·rw[List.getElem?_append_right (by simpa using hi)]at h2;rw[List.getElem?_replicate]at h2;split at h2<;>cases h2
  have ha:vs[i]?=some v:=by
   unfold start at h2;rw[List.getElem?_append_left (by simpa using hi),List.getElem?_map]at h2;cases e:vs[i]? with
   | none=>rw[e]at h2;cases h2
   | some a=>rw[e]at h2;cases h2;rfl
  obtain⟨u,hu,rv⟩:=r.get ha
  have hp:ps[i]?=some y:=by
   rw[<-S.pre,List.getElem?_take_of_lt (by omega)];exact h1
  have ndP:ps.Nodup:=by rw[<-S.pre];exact S.nd.sublist (List.take_sublist _ _)
  refine⟨u,rv,?_⟩;rcases S.par y (List.mem_of_getElem? hp) with k | k
  ·exact .inl ⟨k,Ek ndP hp hu k⟩
  ·obtain⟨c,e⟩:=GH (n:=s.heap.objs.size+1) k;refine .inr ⟨.inl k,c,e,?_⟩;have q:=x.cell y c e;rw[El ndP hp hu (by show scope.names.lookup y≠_;rw[k];decide)]at q;exact q
 ·exact e0.hok.fresh (Nat.le_of_lt (x.above y c (PySem.mem_of_lookup h)))
 ·unfold start;show _=N.length;rw[List.length_append,List.length_map,List.length_replicate];omega
theorem Uq{CX:CXT}{P:Program}{w:World}{K:PySem.W.Frag}{mg:Str->Option Value}{base:Heap}{k:Nat}{f:Addr}{name qual:Str}{params:Arguments}{body:List Stmt}{scope:Scope}{dV kV doc pm cdv ct oc:Value}{an od:Option Addr}
 {osl:Array (Option Value)} {N ps:List Str} {sp:Sp} (lk:K.lookup f=some ⟨oc,od,.func (PySem.W.fnOf name qual params body scope dV kV doc pm an cdv ct),osl⟩) (hcd:PySem.W.codeIn K cdv qual=true) (S:FnScope N ps scope)
 (len:∀ vs H Q E,sp vs H Q E->vs.length=ps.length)
 (hbody:∀(A:Around) (outer:List Env) (s:Shared) (H:Hp) (vs:List V) (Q:VK) (E:XK),Room k (A.deeper (envOfC qual scope s.heap.objs.size f cdv))->sp vs H Q E->
   ∃ t,PSs (II CX P w K mg base N qual scope f cdv A outer s H E) body t/\t {nx:=fun _ H'=>Q .non H',rt:=Q} (start N vs) H):
 FnOk P w K mg base CX (k+1) f (PySem.W.fnOf name qual params body scope dV kV doc pm an cdv ct) ps sp:=by
 refine⟨len,fun A outer s H args us vs Q E hr e0 hb r hsp=>?_⟩;have hl:=len _ _ _ _ hsp;have KX:K.In s.heap:=e0.mod.kin.keeps fun b o e=>(e0.bs b o e).1;have lim:s.heap.NoLimit:=e0.mod.nolimit.keeps fun b o e=>(e0.bs b o e).1
 have hkind:∀ y∈ps.zip us,scope.names.lookup y.1=some .local\/(scope.names.lookup y.1=some .cell/\((cellsFrom (s.heap.objs.size+1) scope.names []).lookup y.1).isSome=true):=fun⟨n,v⟩ hy=>by
  rcases S.par n (List.of_mem_zip hy).1 with q | q
  ·exact .inl q
  ·exact .inr ⟨q,PySem.W.cellsFrom_some _ _ _ (.inl q)⟩
 refine codeAny_call_function hr.depth (KX _ _ lk) rfl S.co S.gen rfl (PySem.W.codeRec_of KX hcd) (hb _ _ _ _ ?_);refine wpAny_newFunctionEnv_cells S.kind hkind fun env he s1 x=>?_;subst he;refine⟨lim.keeps x.toInCall.keep,codeAny_func ?_⟩;obtain⟨t,ht,hq⟩:=hbody A outer s H vs Q E (hr.deeper _) hsp;have I:Inv (II CX P w K mg base N qual scope f cdv A outer s H E) [] (start N vs) H s1:=Kj S hr.hd e0 hl r x;refine wpAny_mono (ht [] s1 (start N vs) H _ I hq) (fun fl s' hs=>?_) fun e s' hs=>hs
 have fin:∀{σ':St} {H':Hp} {v:V} {u:Value},Inv (II CX P w K mg base N qual scope f cdv A outer s H E) [] σ' H' s'->RelV v u->Q v H'->CE outer P w H s Q u s':=
  fun{σ' H' v u} J rv q=>⟨v,H',J.os,J.bare,J.base,J.hok,rv,q⟩
 cases fl with
 | ret u=>
   obtain⟨v,σ',H',J,rv,q⟩:=hs;exact fin J rv q
 | next=>
   obtain⟨σ',H',J,q⟩:=hs;exact fin (v:=V.non) (u:=Value.none) J rfl q
 | brk=>
   obtain⟨_,_,_,q⟩:=hs;exact False.elim q
 | cont=>
   obtain⟨_,_,_,q⟩:=hs;exact False.elim q
open PySem PySem.Spec PyProof.Rows
section
variable{X:Cx}{x:Str}{p pos:Pos}{e:Expr}{es:List Expr}{t:TA}{id T:String}{r:List V->Hp->VK->Prop}
def tCB(r:List V->Hp->VK->Prop)(t:TA):TE:=fun σ H Q=>t σ H fun vs H1=>r vs H1 Q
theorem AD(hc:CallR X (.builtin id) r)(hg:Gl X x)(hm:X.mg x=none)(hv:bootBuiltins x=some (.builtin id))(ha:PA X (e::es) t)(hn:x≠"__name__":=by decide)(hdb:(x == ("__debug__":Str))=false:=by decide)
 (he:starEach (e::es) X.env=(false,eval e X.env)::starEach es X.env:=by rfl) (hpl:(backTo pos (starEach es X.env)).any (·.1)=false:=by rfl):PE X (.Call (.Name x p) (e::es) [] pos) (tCB r t):=by
 intro pins s σ H Q I h;refine wpAny_Call_Name_kw (Be I hg hm hv ?_ hn hdb);exact PyProof.Rows.callWith_builtin1 (thn (ha pos pins s σ H _ I h) fun us s1 ⟨vs,H1,I1,r1,q1⟩=>hc pins s1 σ H1 vs us Q I1 r1 q1) he hpl
theorem Al(hc:CallR X (.type T) r)(hg:Gl X x)(hm:X.mg x=none)(hv:bootBuiltins x=some (.type T))(ha:PA X (e::es) t)(hn:x≠"__name__":=by decide)(hdb:(x == ("__debug__":Str))=false:=by decide)
 (he:starEach (e::es) X.env=(false,eval e X.env)::starEach es X.env:=by rfl) (hpl:(backTo pos (starEach es X.env)).any (·.1)=false:=by rfl):PE X (.Call (.Name x p) (e::es) [] pos) (tCB r t):=by
 intro pins s σ H Q I h;refine wpAny_Call_Name_kw (Be I hg hm hv ?_ hn hdb);exact PyProof.Rows.callWith_type1 (thn (ha pos pins s σ H _ I h) fun us s1 ⟨vs,H1,I1,r1,q1⟩=>hc pins s1 σ H1 vs us Q I1 r1 q1) he hpl
end
end L2
namespace HT
open PySem PyProof.Rows
section
variable{prog:Program}{w:World}{A:Around}{E:Value->Shared->Prop}{s:Shared}
def sIx(n d:Nat):Option Int->Nat
 | none=>d
 | some v=>if v<0 then (v+(n:Int)).toNat else min v.toNat n
theorem sIx_nat(n d k:Nat):sIx n d (some (k:Int))=min k n:=by
 show(if (k:Int)<0 then ((k:Int)+(n:Int)).toNat else min (k:Int).toNat n)=min k n;rw[if_neg (by omega),Int.toNat_natCast]
theorem Sx(n d:Nat)(hd:d<=n)(o:Option Int):sIx n d o<=n:=by
 cases o with
 | none=>exact hd
 | some v=>
   show(if v<0 then (v+(n:Int)).toNat else min v.toNat n)<=n;by_cases hv:v<0
   ·rw[if_pos hv];omega
   ·rw[if_neg hv];exact Nat.min_le_right _ _
theorem JT(v:Int)(n d:Nat):(if v<0 then max (v+(n:Int)) 0 else min v (n:Int))=((sIx n d (some v):Nat):Int):=by
 show(if v<0 then max (v+(n:Int)) 0 else min v (n:Int))=(((if v<0 then (v+(n:Int)).toNat else min v.toNat n):Nat):Int)
 by_cases hv:v<0
 ·simp only[if_pos hv];omega
 ·simp only[if_neg hv];omega
theorem IJ(lo hi:Option Int)(n:Nat):Builtin.Slice.sliceAdjust lo hi 1 (n:Int)=(((sIx n 0 lo:Nat):Int),((sIx n n hi:Nat):Int)):=by
 have h1:¬ ((1:Int)<0):=by omega
 unfold Builtin.Slice.sliceAdjust;simp only[h1,if_false];refine Prod.ext ?_ ?_
 ·cases lo with
  | none=>rfl
  | some v=>exact JT v n 0
 ·cases hi with
  | none=>rfl
  | some v=>exact JT v n n
theorem IK(i j:Nat):Builtin.Slice.slicePlaces (i:Int) (j:Int) 1=j - i:=by
 unfold Builtin.Slice.slicePlaces;have h1:(1:Int)>0:=by omega
 simp only[h1,if_true,Int.ediv_one];split<;>omega
theorem Dm{v:Value}{o:Option Int}{Q:Option Int->Shared->Prop}(p:IsPart v o)(h:Q o s):wpAny (model prog w) A (Builtin.Slice.slicePartIndex v) Q E s:=by
 cases p with
 | none=>exact slicePart_none h
 | int i t=>exact slicePart_int h
theorem BA{sl:Addr}{vl vu:Value}{lo hi:Option Int}{n:Nat}{Q:Int×Int×Nat->Shared->Prop}(hs:s.heap.IsSliceOf sl vl vu .none)(pl:IsPart vl lo)(pu:IsPart vu hi)
 (h:Q (((sIx n 0 lo:Nat):Int),1,sIx n n hi - sIx n 0 lo) s):wpAny (model prog w) A (Builtin.Slice.sliceApplied (.ref sl) (pure (n:Int))) Q E s:=by
 obtain⟨os,hos,hcs,hds⟩:=id hs;unfold Builtin.Slice.sliceApplied Builtin.Slice.sliceFields;refine wpAny_bind (wpAny_bind (wpAny_field hos hds (x:=vl) rfl (wpAny_bind (wpAny_field hos hds (x:=vu) rfl (wpAny_bind (wpAny_field hos hds (x := .none) rfl (wpAny_pure ?_)))))));refine wpAny_bind (slicePart_none ?_);show wpAny _ _ (if ((1:Int) == 0)=true then _ else _) _ _ s;rw[if_neg (by decide)];refine wpAny_bind (Dm pl (wpAny_bind (Dm pu (wpAny_bind (wpAny_pure ?_)))));show wpAny _ _ (match Builtin.Slice.sliceAdjust lo hi 1 (n:Int) with | (lo,hi)=>pure (lo,(1:Int),Builtin.Slice.slicePlaces lo hi 1)) _ _ s;rw[IJ lo hi n];show wpAny _ _ (pure (((sIx n 0 lo:Nat):Int),(1:Int),Builtin.Slice.slicePlaces ((sIx n 0 lo:Nat):Int) ((sIx n n hi:Nat):Int) 1)) _ _ s;rw[IK];exact wpAny_pure h
theorem Mf(xs:Array Value)(i k:Nat):((List.range k).filterMap fun(m:Nat)=>xs[((i:Int)+(m:Int) * 1).toNat]?).toArray=((xs.toList.drop i).take k).toArray:=by
 have e:(fun(m:Nat)=>xs[((i:Int)+(m:Int) * 1).toNat]?)=fun m=>xs[i+m]?:=by
  funext m
  have:((i:Int)+(m:Int) * 1).toNat=i+m:=by omega
  rw[this]
 rw[e];have:=pick_run xs i k;rw[List.filterMap_map]at this;have e2:((fun x=>xs[x]?)∘fun x=>i+x)=fun m=>xs[i+m]?:=rfl;rw[e2]at this;rw[this]
theorem getItem_tuple_cut{t sl:Addr}{items:Array Value}{vl vu:Value}{lo hi:Option Int}{Q:Value->Shared->Prop}(ht:IsTup s.heap t items)(hs:s.heap.IsSliceOf sl vl vu .none)(pl:IsPart vl lo)(pu:IsPart vu hi)
 (hw:¬ (sIx items.size 0 lo=0/\sIx items.size items.size hi=items.size))
 (h:Q (.ref s.heap.objs.size) {s with heap:=s.heap.push {cls := .type "tuple",data := .seq ((items.toList.drop (sIx items.size 0 lo)).take (sIx items.size items.size hi - sIx items.size 0 lo)).toArray}})
 (hsz:items.size<=sizeLine):wpAny (model prog w) A (getItem (.ref t) (.ref sl)) Q E s:=by
 have htake:sizeOk (.seq ((items.toList.drop (sIx items.size 0 lo)).take (sIx items.size items.size hi - sIx items.size 0 lo)).toArray):=by
  show((items.toList.drop (sIx items.size 0 lo)).take (sIx items.size items.size hi - sIx items.size 0 lo)).toArray.size<=sizeLine;rw[List.size_toArray,List.length_take,List.length_drop,Array.length_toList];omega
 have hj:sIx items.size items.size hi<=items.size:=Sx _ _ (Nat.le_refl _) hi;obtain⟨os,hos,hcs,hds⟩:=id hs;have hTs:s.TypeIs (.ref sl) "slice":=⟨os,hos,hcs⟩
 unfold getItem
 try with_reducible refine wpAny_holding ?_
 first | refine wpAny_bind (wpAny_pure ?_) | skip
 refine wpAny_bind (wpAny_sequenceKey ht.typeIs (by decide) ?_)
 refine wpAny_bind (wpAny_callSpecial?_slot (name:=Str.ofString "__getitem__") ht.typeIs PyProof.Rows.slot_tuple_getitem
  (wpAny_call_entry PyProof.Rows.slot_tuple_getitem ht.typeIs entry_tuple_getitem ?_ (args_tuple_getitem _ _)))
 show wpAny _ _ (Builtin.Tuple.tupleItemsOf (.ref t) >>= _) _ _ s;refine wpAny_bind (tupleItemsOf_ ht ?_);refine wpAny_bind (wpAny_typeOf hTs ?_);rw[if_pos (by decide)];refine wpAny_bind (BA hs pl pu ?_)
 have hno:¬ ((((sIx items.size 0 lo:Nat):Int) == 0&&(1:Int) == 1&&(sIx items.size items.size hi - sIx items.size 0 lo) == items.size)=true):=by
  intro q;rw[Bool.and_eq_true,Bool.and_eq_true]at q;have q1:((sIx items.size 0 lo:Nat):Int)=0:=eq_of_beq q.1.1;have q2:sIx items.size items.size hi - sIx items.size 0 lo=items.size:=eq_of_beq q.2;exact hw ⟨by omega,by omega⟩
 show wpAny _ _ (if (((sIx items.size 0 lo:Nat):Int) == 0&&(1:Int) == 1&&(sIx items.size items.size hi - sIx items.size 0 lo) == items.size)=true then _ else _) _ _ s;rw[if_neg hno,Mf]
 first
  | exact wpAny_bind (m:=Builtin.Tuple.tupleExact _) (wpAny_newObj_type (wpAny_pure ⟨_,rfl,wpAny_pure h⟩) htake)
  | exact wpAny_bind (m:=Builtin.Tuple.tupleExact _) (wpAny_newObj_type (wpAny_bind (wpAny_pure (wpAny_pure ⟨_,rfl,wpAny_pure h⟩))) htake)
  | exact wpAny_bind (wpAny_bind (m:=Builtin.Tuple.tupleExact _) (wpAny_newObj_type (wpAny_pure (wpAny_pure ⟨_,rfl,wpAny_pure h⟩)) htake))
  | exact wpAny_bind (wpAny_bind (m:=Builtin.Tuple.tupleExact _) (wpAny_newObj_type (wpAny_pure ⟨_,rfl,wpAny_pure h⟩) htake))
end
end HT
namespace L2
open PySem PySem.Spec PyProof.Rows
abbrev TO:=St->Hp->(Option Int->Hp->Prop)->Prop
def PO(X:Cx)(e:Option Expr)(t:TO):Prop:=
 ∀(pins:List (Addr×Obj)) (s:Shared) (σ:St) (H:Hp) (Q:Option Int->Hp->Prop),Inv X pins σ H s->t σ H Q->
  wpAny (model X.prog X.w) X.A (evalPart e X.env) (fun u s'=>∃ o H',Inv X pins σ H' s'/\IsPart u o/\Q o H') X.xe s
def Pj:TO:=fun _ H Q=>Q none H
def Ur(t:TE):TO:=fun σ H Q=>t σ H fun x H1=>∃ i,x = .int i/\Q (some i) H1
section
variable{X:Cx}{e:Expr}{te:TE}{lo hi:Option Expr}{tl th:TO}{pos p2:Pos}
theorem Pk:PO X none Pj:=by
 intro pins s σ H Q I h;rw[evalPart_none];exact wpAny_pure ⟨none,H,I,.none,h⟩
theorem JU(h:PE X e te):PO X (some e) (Ur te):=by
 intro pins s σ H Q I hw;rw[evalPart_some];refine thn (h pins s σ H _ I hw) fun u s1 ⟨x,H1,I1,r1,q1⟩=>?_;obtain⟨i,rfl,q⟩:=q1;obtain⟨t,rfl⟩:=r1;exact⟨some i,H1,I1,.int i t,q⟩
def SlR(X:Cx)(r:V->Option Int->Option Int->Hp->VK->Prop):Prop:=
 ∀(pins:List (Addr×Obj)) (s:Shared) (σ:St) (H:Hp) (x:V) (v vl vu:Value) (lo hi:Option Int) (sl:Addr) (Q:VK),Inv X pins σ H s->RelV x v->s.heap.IsSliceOf sl vl vu .none->IsPart vl lo->IsPart vu hi->r x lo hi H Q->
  ∃ T id,typeLookup (.type T) "__getitem__"=pure (some (.builtin id))/\s.TypeIs v T/\wpAny (model X.prog X.w) X.A (getItem v (.ref sl)) (EP X pins σ Q) X.xe s
theorem SlR.or{r r':V->Option Int->Option Int->Hp->VK->Prop}(h:SlR X r)(h':SlR X r'):SlR X (fun x lo hi H Q=>r x lo hi H Q\/r' x lo hi H Q):=by
 intro pins s σ H x v vl vu lo hi sl Q I rx hs pl pu q;rcases q with q | q
 ·exact h pins s σ H x v vl vu lo hi sl Q I rx hs pl pu q
 ·exact h' pins s σ H x v vl vu lo hi sl Q I rx hs pl pu q
def tSl(r:V->Option Int->Option Int->Hp->VK->Prop)(te:TE)(tl th:TO):TE:=fun σ H Q=>te σ H fun x H1=>tl σ H1 fun l H2=>th σ H2 fun u H3=>r x l u H3 Q
theorem Mg{r:V->Option Int->Option Int->Hp->VK->Prop}(hr:SlR X r)(he:PE X e te)(hl:PO X lo tl)(hu:PO X hi th):PE X (.Subscript e (.Slice lo hi none p2) pos) (tSl r te tl th):=by
 intro pins s σ H Q I h;refine Subscript_ (thn (he pins s σ H _ I h) fun v s1 ⟨x,H1,I1,r1,q1⟩=>?_);refine wpAny_Slice (thn (hl pins s1 σ H1 _ I1 q1) fun vl s2 ⟨l,H2,I2,pl,q2⟩=>thn (hu pins s2 σ H2 _ I2 q2) fun vu s3 ⟨u,H3,I3,pu,q3⟩=>?_);rw[evalPart_none];refine wpAny_pure ?_;have I4:Inv X pins σ H3 {s3 with heap:=s3.heap.push {cls := .type "slice",data := .fields #[vl,vu,.none]}}:=I3.kept (t':=s3.toks) fun b ob q=>Heap.get?_push_of_some _ q;obtain⟨T,id,hT,ht,hg⟩:=hr pins {s3 with heap:=s3.heap.push {cls := .type "slice",data := .fields #[vl,vu,.none]}} σ H3 x v vl vu l u s3.heap.objs.size Q I4 r1 (Heap.IsSliceOf.new ..) pl pu q3;show wpAny (model X.prog X.w) X.A (subscriptTail e (.Slice lo hi none p2) v (.ref s3.heap.objs.size)) (EP X pins σ Q) X.xe {s3 with heap:=s3.heap.push {cls := .type "slice",data := .fields #[vl,vu,.none]}};exact tail_any (ops:=[.ref s3.heap.objs.size,v]) ht hT hg (by with_unfolding_all rfl)
def GJ(xs:List V)(lo hi:Option Int):List V:=(xs.drop (HT.sIx xs.length 0 lo)).take (HT.sIx xs.length xs.length hi - HT.sIx xs.length 0 lo)
theorem DK(xs:List V)(lo hi:Option Int):(GJ xs lo hi).length<=xs.length:=by
 unfold GJ;rw[List.length_take,List.length_drop];omega
def Us(K:PySem.W.Frag):V->Option Int->Option Int->Hp->VK->Prop:=fun x lo hi H Q=>∃ a xs,x = .ref a/\SqT K H a xs/\
 ¬ (HT.sIx xs.length 0 lo=0/\HT.sIx xs.length xs.length hi=xs.length)/\∀ p,H p=none->Q (.ref p) (upd H p (.tup (GJ xs lo hi)))
theorem sl_tup:SlR X (Us X.K):=by
 intro pins s σ H x v vl vu lo hi sl Q I rx hs pl pu h;obtain⟨a,xs,rfl,hx,hw,q⟩:=h;cases rx;obtain⟨its,r,ht,hz⟩:=I.tuple hx;have hlen:its.toArray.size=xs.length:=by rw[List.size_toArray];exact r.length.symm
 refine⟨"tuple",_,PyProof.Rows.slot_tuple_getitem.lookup,ht.typeIs,?_⟩;refine HT.getItem_tuple_cut ht hs pl pu (by rw[hlen];exact hw) ?_ (by rw[hlen];exact hz);rw[hlen];refine⟨.ref s.heap.objs.size,_,I.laid (t':=s.toks) (o := .tup (GJ xs lo hi)) (fun b ob q=>Heap.get?_push_of_some _ q) (Nat.le_refl _) ?_,rfl,q _ (I.hok.fresh (Nat.le_refl _))⟩;exact⟨Nat.le_trans (DK xs lo hi) hz,_,(r.drop (HT.sIx xs.length 0 lo)).take (HT.sIx xs.length xs.length hi - HT.sIx xs.length 0 lo),IsTup.new _ _⟩
end
open PySem PySem.Spec PyProof.Rows
def ixN(n:Nat)(i:Int):Option Nat:=if 0<=i then (if i<n then some i.toNat else none) else if -(n:Int)<=i then some (i+n).toNat else none
def atI{α:Type}(xs:List α)(i:Int):Option α:=(ixN xs.length i).bind fun j=>xs[j]?
theorem JV{n:Nat}{i:Int}{j:Nat}(h:ixN n i=some j):seqIndex? i n=some j/\j<n /\ -(n:Int)<=i/\i<n:=by
 unfold ixN at h;by_cases h0:0<=i
 ·rw[if_pos h0]at h;by_cases h1:i<n
  ·rw[if_pos h1]at h;have e:i.toNat=j:=oj h;exact⟨by rw[seqIndex_of h0 h1,e],by omega,by omega,h1⟩
  ·rw[if_neg h1]at h;cases h
 ·rw[if_neg h0]at h;by_cases h1:-(n:Int)<=i
  ·rw[if_pos h1]at h;have e:(i+n).toNat=j:=oj h;exact⟨by rw[seqIndex_neg (by omega) h1,e],by omega,h1,by omega⟩
  ·rw[if_neg h1]at h;cases h
theorem JW{α:Type}{xs:List α}{i:Int}{v:α}(h:atI xs i=some v):∃ j,seqIndex? i xs.length=some j/\xs[j]?=some v/\j<xs.length /\ -(xs.length:Int)<=i/\i<xs.length:=by
 unfold atI at h;cases e:ixN xs.length i with
 | none=>rw[e]at h;cases h
 | some j=>
   rw[e]at h;obtain⟨h1,h2,h3,h4⟩:=JV e;exact⟨j,h1,h,h2,h3,h4⟩
theorem f8{α:Type}{xs:List α}{j:Nat}{v:α}(h:xs[j]?=some v):atI xs (j:Int)=some v:=by
 have hj:j<xs.length:=(gM h).1
 have e:ixN xs.length (j:Int)=some j:=by
  unfold ixN;rw[if_pos (by omega),if_pos (by omega)];simp
 unfold atI;rw[e];exact h
theorem GK{α:Type}(xs:List α)(v:α):atI (xs++[v]) (-1)=some v:=by
 have hl:(xs++[v]).length=xs.length+1:=by simp
 have e:ixN (xs++[v]).length (-1)=some xs.length:=by
  unfold ixN;rw[hl,if_neg (by decide),if_pos (by omega)]
  congr 1
  omega
 unfold atI;rw[e];show(xs++[v])[xs.length]?=some v;simp
def JX(b:Expr):Prop:=∀ o i,subscripted b false o i=operate [o,i] (getItem o i)
def IxR(X:Cx)(r:R2):Prop:=
 ∀(value slice:Expr) (pins:List (Addr×Obj)) (s:Shared) (σ:St) (H:Hp) (x y:V) (v u:Value) (Q:VK),Inv X pins σ H s->RelV x v->RelV y u->r x y H Q->
  subscripted slice false v u=operate [v,u] (getItem v u)->wpAny (model X.prog X.w) X.A (subscriptTail value slice v u) (EP X pins σ Q) X.xe s
def MtR(X:Cx)(id:String)(r:V->List V->Hp->VK->Prop):Prop:=
 ∀(pins:List (Addr×Obj)) (s:Shared) (σ:St) (H:Hp) (x:V) (xs:List V) (v:Value) (us:List Value) (Q:VK),Inv X pins σ H s->RelV x v->Vals xs us->r x xs H Q->
  wpAny (model X.prog X.w) X.A (call (.builtin id) (v::us)) (EP X pins σ Q) X.xe s
section
variable{X:Cx}{a b:Expr}{ta tb:TE}{pos:Pos}
theorem IxR.or{r r':R2}(h:IxR X r)(h':IxR X r'):IxR X (fun x y H Q=>r x y H Q\/r' x y H Q):=by
 intro value slice pins s σ H x y v u Q I rx ry q hs;rcases q with q | q
 ·exact h value slice pins s σ H x y v u Q I rx ry q hs
 ·exact h' value slice pins s σ H x y v u Q I rx ry q hs
theorem Ut{r:R2}(hr:IxR X r)(ha:PE X a ta)(hb:PE X b tb)(hs:JX b):PE X (.Subscript a b pos) (tOp r ta tb):=by
 intro pins s σ H Q I h;exact Subscript_ (Sj ha hb I h fun v u s2 x y H2 I2 rx ry q=>hr a b pins s2 σ H2 x y v u Q I2 rx ry q (hs _ _))
def Uu(K:PySem.W.Frag):R2:=fun x y H Q=>∃ p xs i v,x = .ref p/\y = .int i/\SqL K H p xs/\atI xs i=some v/\Q v H
def Uv(K:PySem.W.Frag):R2:=fun x y H Q=>∃ p xs i v,x = .ref p/\y = .int i/\SqT K H p xs/\atI xs i=some v/\Q v H
theorem ix_list:IxR X (Uu X.K):=by
 intro value slice pins s σ H x y v u Q I rx ry h hs;obtain⟨p,xs,i,z,rfl,rfl,hq,he,q⟩:=h;cases rx;obtain⟨t,rfl⟩:=ry;obtain⟨its,r,pl,hz⟩:=I.list hq;obtain⟨j,h1,h2,h3,h4,h5⟩:=JW he;obtain⟨w,ew,rw'⟩:=r.get h2;have hl:=r.length;have hn:=CU;have fin:EP X pins σ Q w s:=⟨z,H,I,rw',q⟩
 by_cases h0:0<=i
 ·have hj:i.toNat=j:=by
   rw[seqIndex_of h0 h5]at h1;exact oj h1
  exact item_listR pl.isList h0 (by omega) (by rw[hj];simpa using ew) fin hs
 ·have hj:(i+(its.toArray.size:Int)).toNat=j:=by
   rw[seqIndex_neg (by omega) h4]at h1;rw[List.size_toArray,<-hl];exact oj h1
  exact subscriptTail_builtinR (x:=w) pl.isList.typeIs slot_list_getitem.lookup
   (wpAny_getItem_list_neg (Q:=fun r s'=>r=w/\EP X pins σ Q r s') pl.isList (by omega) (by rw[List.size_toArray]<;>omega) (by omega) (by rw[hj];simpa using ew) ⟨rfl,fin⟩) hs
theorem Sy:IxR X (Uv X.K):=by
 intro value slice pins s σ H x y v u Q I rx ry h hs;obtain⟨p,xs,i,z,rfl,rfl,hq,he,q⟩:=h;cases rx;obtain⟨t,rfl⟩:=ry;obtain⟨its,r,pl,hz⟩:=I.tuple hq;obtain⟨j,h1,h2,h3,h4,h5⟩:=JW he;obtain⟨w,ew,rw'⟩:=r.get h2;have hl:=r.length;have hn:=CU;have fin:EP X pins σ Q w s:=⟨z,H,I,rw',q⟩
 exact subscriptTail_builtinR (x:=w) pl.typeIs slot_tuple_getitem.lookup
  (getItem_tuple (j:=j) (Q:=fun r s'=>r=w/\EP X pins σ Q r s') pl (by omega) (by omega) (by rw[List.size_toArray,<-hl];exact h1) (by simpa using ew) ⟨rfl,fin⟩) hs
theorem IL(its:List Value)(n j:Nat)(u:Value):Obj.mapSeq (·.setIfInBounds j u) {cls := .type "list",data := .seq its.toArray n}={cls := .type "list",data := .seq (its.set j u).toArray n}:=by
 simp[Obj.mapSeq]
theorem Inv.lst{pins:List (Addr×Obj)}{σ:St}{H:Hp}{s:Shared}{p:Addr}{xs:List V}(I:Inv X pins σ H s)(h:H p=some (.lst xs)):
 ∃(its:List Value) (n:Nat),Vals xs its/\s.heap.get? p=some {cls := .type "list",data := .seq its.toArray n}/\xs.length<=sizeLine:=by
 obtain⟨z,its,n,r,e⟩:=I.hok p _ h;exact⟨its,n,r,e,z⟩
theorem Inv.lstUpd{pins:List (Addr×Obj)}{σ:St}{H:Hp}{s:Shared}{p:Addr}{xs ys:List V}{its its':List Value}{n n':Nat}{f:Obj->Obj}(I:Inv X pins σ H s)(h:H p=some (.lst xs))
 (ho:s.heap.get? p=some {cls := .type "list",data := .seq its.toArray n}) (hf:f {cls := .type "list",data := .seq its.toArray n}={cls := .type "list",data := .seq its'.toArray n'}) (r:Vals ys its') (hz:ys.length<=sizeLine) (t:Nat):
 Inv X pins σ (upd H p (.lst ys)) {s with heap:=s.heap.update p f,toks:=t}:=by
 have e:(s.heap.update p f).get? p=some {cls := .type "list",data := .seq its'.toArray n'}:=by
  rw[Heap.get?_update_self f ho (by rw[hf]<;>rfl),hf]
 refine I.write (x:=p) (e:=p) (by rw[h];trivial) (.inl rfl) (fun b u hb q=>(Heap.get?_update_other _ _ (Ne.symm hb)).trans q) ⟨_,e⟩ ?_;exact⟨hz,its',n',r,e⟩
def JY:V->V->V->Hp->(Hp->Prop)->Prop:=fun o i v H Q=>∃ p xs k j,o = .ref p/\i = .int k/\H p=some (.lst xs)/\ixN xs.length k=some j/\Q (upd H p (.lst (xs.set j v)))
theorem GL:Sd X JY:=by
 intro pins s σ H o i v ov iv u Q I ro ri rv h;obtain⟨p,xs,k,j,rfl,rfl,hp,hj,q⟩:=h;cases ro;obtain⟨t,rfl⟩:=ri;obtain⟨its,n,r,ho,hz⟩:=I.lst hp;obtain⟨h1,h2,h3,h4⟩:=JV hj;have hl:=r.length;have hn:=CU
 have I':Inv X pins σ (upd H p (.lst (xs.set j v))) {s with heap:=s.heap.update p (Obj.mapSeq (·.setIfInBounds j u))}:=
  I.lstUpd hp ho (IL its n j u) (r.set rv j) (by rw[List.length_set];exact hz) s.toks
 by_cases h0:0<=k
 ·have hk:k.toNat=j:=by
   rw[seqIndex_of h0 h4]at h1;exact oj h1
  exact PySem.W.ki_setAt ho h0 (by omega) (by rw[List.size_toArray,<-hl];exact h4) (by rw[hk];exact⟨_,I',q⟩)
 ·have hk:(k+(its.toArray.size:Int)).toNat=j:=by
   rw[seqIndex_neg (by omega) h3]at h1;rw[List.size_toArray,<-hl];exact oj h1
  exact PySem.W.ki_setBack ho (by omega) (by rw[List.size_toArray,<-hl];exact h3) (by omega) (by rw[hk];exact⟨_,I',q⟩)
theorem FM(lo hi:Option Int)(n:Nat):(sliceBounds lo hi none n).1=((HT.sIx n 0 lo:Nat):Int)/\(sliceBounds lo hi none n).2.1=((HT.sIx n n hi:Nat):Int)/\(sliceBounds lo hi none n).2.2=1:=by
 refine⟨?_,?_,rfl⟩
 ·cases lo with
  | none=>simp[sliceBounds,HT.sIx]
  | some i=>
    simp only[sliceBounds,HT.sIx,Option.getD_none,show(1:Int)>0 by decide,if_true];by_cases h:i<0
    ·simp only[h,if_true]<;>omega
    ·simp only[h,if_false]<;>omega
 ·cases hi with
  | none=>simp[sliceBounds,HT.sIx]
  | some i=>
    simp only[sliceBounds,HT.sIx,Option.getD_none,show(1:Int)>0 by decide,if_true];by_cases h:i<0
    ·simp only[h,if_true]<;>omega
    ·simp only[h,if_false]<;>omega
theorem EX(its:List Value)(lo hi:Option Int):slicePick its.toArray lo hi none=((its.drop (HT.sIx its.length 0 lo)).take (HT.sIx its.length its.length hi - HT.sIx its.length 0 lo)).toArray:=by
 obtain⟨h1,h2,h3⟩:=FM lo hi its.toArray.size;unfold slicePick;rw[h1,h2,h3];simp only[sliceRange_one,pick_run,List.size_toArray]<;>rfl
def Uw(K:PySem.W.Frag):V->Option Int->Option Int->Hp->VK->Prop:=fun x lo hi H Q=>∃ a xs,x = .ref a/\SqL K H a xs/\∀ p,H p=none->Q (.ref p) (upd H p (.lst (GJ xs lo hi)))
theorem sl_list:SlR X (Uw X.K):=by
 intro pins s σ H x v vl vu lo hi sl Q I rx hs pl pu h;obtain⟨a,xs,rfl,hx,q⟩:=h;cases rx;obtain⟨its,r,ht,hz⟩:=I.list hx;have hlen:=r.length;refine⟨"list",_,slot_list_getitem.lookup,ht.isList.typeIs,?_⟩;refine wpAny_getItem_list_slice ht.isList hs pl pu .none (by simp) ?_ (by rw[List.size_toArray]<;>omega);rw[EX,<-hlen];refine⟨.ref s.heap.objs.size,_,I.laid (t':=s.toks) (o := .lst (GJ xs lo hi)) (fun b ob q=>Heap.get?_push_of_some _ q) (Nat.le_refl _) ?_,rfl,q _ (I.hok.fresh (Nat.le_refl _))⟩;exact⟨Nat.le_trans (DK xs lo hi) hz,_,0,(r.drop (HT.sIx xs.length 0 lo)).take (HT.sIx xs.length xs.length hi - HT.sIx xs.length 0 lo),Heap.get?_push_size _ rfl⟩
def AL:V->Bool
 | .non=>true
 | .bl _=>true
 | .int _=>true
 | .str _=>true
 | _=>false
def eqV:V->V->Bool
 | .non,.non=>true
 | .bl a,.bl b=>a == b
 | .bl a,.int b=>(if a then 1 else 0) == b
 | .int a,.bl b=>a == (if b then 1 else 0)
 | .int a,.int b=>a == b
 | .str a,.str b=>a == b
 | _,_=>false
theorem Mh{A:Around}{s:Shared}{y x:V}{u v:Value}(ry:RelV y u)(rx:RelV x v)(fy:AL y=true)(fx:AL x=true):SeqAt.EqAt A s u v (eqV y x):=by
 cases y with
 | non=>
   cases ry;cases x with
   | non=>cases rx;exact SeqAt.EqAt.same _
   | bl b=>cases rx;exact SeqAt.EqAt.none_bool b
   | int b=>obtain⟨t,rfl⟩:=rx;exact SeqAt.EqAt.none_int b t
   | str b=>obtain⟨t,rfl⟩:=rx;exact SeqAt.EqAt.none_str b t
   | _=>exact absurd (show false=true from fx) Bool.false_ne_true
 | bl a=>
   cases ry;cases x with
   | non=>cases rx;exact SeqAt.EqAt.bool_none a
   | bl b=>cases rx;exact SeqAt.EqAt.bool_bool a b
   | int b=>obtain⟨t,rfl⟩:=rx;exact SeqAt.EqAt.bool_int a b t
   | str b=>obtain⟨t,rfl⟩:=rx;exact SeqAt.EqAt.bool_str a b t
   | _=>exact absurd (show false=true from fx) Bool.false_ne_true
 | int a=>
   obtain⟨t',rfl⟩:=ry;cases x with
   | non=>cases rx;exact SeqAt.EqAt.int_none a t'
   | bl b=>cases rx;exact SeqAt.EqAt.int_bool a t' b
   | int b=>obtain⟨t,rfl⟩:=rx;exact SeqAt.EqAt.int_int a t' b t
   | str b=>obtain⟨t,rfl⟩:=rx;exact SeqAt.EqAt.int_str a t' b t
   | _=>exact absurd (show false=true from fx) Bool.false_ne_true
 | str a=>
   obtain⟨t',rfl⟩:=ry;cases x with
   | non=>cases rx;exact SeqAt.EqAt.str_none a t'
   | bl b=>cases rx;exact SeqAt.EqAt.str_bool a t' b
   | int b=>obtain⟨t,rfl⟩:=rx;exact SeqAt.EqAt.str_int a t' b t
   | str b=>obtain⟨t,rfl⟩:=rx;exact SeqAt.EqAt.str_str a t' b t
   | _=>exact absurd (show false=true from fx) Bool.false_ne_true
 | _=>exact absurd (show false=true from fy) Bool.false_ne_true
def eqU(x:V)(u:Value):Bool:=match u with
 | .none=>eqV .non x
 | .bool b=>eqV (.bl b) x
 | .int i _=>eqV (.int i) x
 | .str z _=>eqV (.str z) x
 | _=>false
theorem Mi{x y:V}{u:Value}(r:RelV y u)(f:AL y=true):eqU x u=eqV y x:=by
 cases y with
 | non=>cases r;rfl
 | bl b=>cases r;rfl
 | int i=>obtain⟨t,rfl⟩:=r;rfl
 | str z=>obtain⟨t,rfl⟩:=r;rfl
 | _=>exact absurd (show false=true from f) Bool.false_ne_true
theorem Ci{x:V}:∀{xs:List V} {us:List Value},Vals xs us->xs.all AL=true->us.any (eqU x)=xs.any fun y=>eqV y x
 | _,_,.nil,_=>rfl
 | y::xs,u::us,.cons r t,f=>by
   rw[List.all_cons,Bool.and_eq_true]at f;rw[List.any_cons,List.any_cons,Mi r f.1,Ci t f.2]
theorem Bh{A:Around}{s:Shared}{x:V}{v:Value}(rx:RelV x v)(fx:AL x=true):∀{xs:List V} {us:List Value},Vals xs us->xs.all AL=true->∀ u∈us,SeqAt.EqAt A s u v (eqU x u)
 | _,_,.nil,_=>fun u hu=>by cases hu
 | y::xs,u::us,.cons r t,f=>fun u' hu=>by
   rw[List.all_cons,Bool.and_eq_true]at f;rcases List.mem_cons.mp hu with rfl | hu
   ·rw[Mi r f.1];exact Mh r rx f.1 fx
   ·exact Bh rx fx t f.2 u' hu
def inV(x:V)(xs:List V):Bool:=xs.any fun y=>eqV y x
def rIn(K:PySem.W.Frag)(neg:Bool):R2:=fun x y H Q=>∃ p xs,y = .ref p/\(SqL K H p xs\/SqT K H p xs)/\AL x=true/\xs.all AL=true/\Q (.bl (if neg then !inV x xs else inV x xs)) H
theorem Kk:OpR X (compareOp .In) (rIn X.K false):=by
 intro pins s σ H x y v u Q I rx ry h;obtain⟨p,xs,rfl,hq,fx,fs,q⟩:=h;cases ry;rcases hq with hq | hq
 ·obtain⟨its,r,pl,hz⟩:=I.list hq;refine SeqAt.in_listAt (eqU x) pl.isList (fun w hw=>Bh rx fx r fs w (by simpa using hw)) ⟨.bl _,H,I,rfl,?_⟩;rw[show its.toArray.any (eqU x)=its.any (eqU x) by simp,Ci r fs];exact q
 ·obtain⟨its,r,pl,hz⟩:=I.tuple hq;refine SeqAt.in_tupleAt (eqU x) pl (fun w hw=>Bh rx fx r fs w (by simpa using hw)) ⟨.bl _,H,I,rfl,?_⟩;rw[show its.toArray.any (eqU x)=its.any (eqU x) by simp,Ci r fs];exact q
theorem FN:OpR X (compareOp .NotIn) (rIn X.K true):=by
 intro pins s σ H x y v u Q I rx ry h;obtain⟨p,xs,rfl,hq,fx,fs,q⟩:=h;cases ry;rcases hq with hq | hq
 ·obtain⟨its,r,pl,hz⟩:=I.list hq;refine SeqAt.notIn_listAt (eqU x) pl.isList (fun w hw=>Bh rx fx r fs w (by simpa using hw)) ⟨.bl _,H,I,rfl,?_⟩;rw[show its.toArray.any (eqU x)=its.any (eqU x) by simp,Ci r fs];exact q
 ·obtain⟨its,r,pl,hz⟩:=I.tuple hq;refine SeqAt.notIn_tupleAt (eqU x) pl (fun w hw=>Bh rx fx r fs w (by simpa using hw)) ⟨.bl _,H,I,rfl,?_⟩;rw[show its.toArray.any (eqU x)=its.any (eqU x) by simp,Ci r fs];exact q
theorem FO:CallR X (.builtin "len") (fun xs H Q=>∃ p ys,xs=[.ref p]/\(SqL X.K H p ys\/SqT X.K H p ys)/\Q (.int ys.length) H):=by
 intro pins s σ H xs us Q I r h;obtain⟨p,ys,rfl,hq,q⟩:=h;obtain⟨u,rfl,rx⟩:=BY r;cases rx;have hn:=CU;rcases hq with hq | hq
 ·obtain⟨its,r',pl,hz⟩:=I.list hq;have hlen:=r'.length;exact Calls.call_len_list pl.isList (by simp only[List.size_toArray]<;>omega) ⟨.int ys.length,H,I.tok _,⟨s.toks+1,by rw[List.size_toArray,hlen]⟩,q⟩
 ·obtain⟨its,r',pl,hz⟩:=I.tuple hq;have hlen:=r'.length;exact len_tuple pl (by simp only[List.size_toArray]<;>omega) ⟨.int ys.length,H,I.tok _,⟨s.toks+1,by rw[List.size_toArray,hlen]⟩,q⟩
theorem CallR.or{f:Value}{r r':List V->Hp->VK->Prop}(h:CallR X f r)(h':CallR X f r'):CallR X f (fun xs H Q=>r xs H Q\/r' xs H Q):=by
 intro pins s σ H xs us Q I rs q;rcases q with q | q
 ·exact h pins s σ H xs us Q I rs q
 ·exact h' pins s σ H xs us Q I rs q
theorem FP:CallR X (.type "list") (fun xs H Q=>∃ p ys,xs=[.ref p]/\(SqL X.K H p ys\/SqT X.K H p ys)/\∀ l,H l=none->Q (.ref l) (upd H l (.lst ys))):=by
 intro pins s σ H xs us Q I r h;obtain⟨p,ys,rfl,hq,q⟩:=h;obtain⟨u,rfl,rx⟩:=BY r;cases rx
 have fin:∀(its:List Value),Vals ys its->ys.length<=sizeLine->∀(h':Heap) (c':Nat),(∀ b o',s.heap.get? b=some o'->h'.get? b=some o')->
  h'.get? s.heap.objs.size=some {cls := .type "list",dict:=none,data := .seq its.toArray c',slots:=#[]}->EP X pins σ Q (.ref s.heap.objs.size) {s with heap:=h'}:=fun its r' hz h' c' kp e=>
  ⟨.ref s.heap.objs.size,_,I.laid (t':=s.toks) kp (Nat.le_refl _) (show ObjOk X.prog X.w _ h' _ (.lst ys) from ⟨hz,its,c',r',e⟩),rfl,q _ (I.hok.fresh (Nat.le_refl _))⟩
 rcases hq with hq | hq
 ·obtain⟨its,r',pl,hz⟩:=I.list hq;have hlen:=r'.length;obtain⟨o,ho,hc,n,hd⟩:=pl.isList;exact call_list_seq p (.inl rfl) ho hc hd (fun h' c' kp e=>fin its r' hz h' c' kp e) (by simp only[List.size_toArray]<;>omega)
 ·obtain⟨its,r',pl,hz⟩:=I.tuple hq;have hlen:=r'.length;obtain⟨o,ho,hc,n,hd⟩:=pl;exact call_list_seq p (.inr rfl) ho hc hd (fun h' c' kp e=>fin its r' hz h' c' kp e) (by simp only[List.size_toArray]<;>omega)
theorem EY:CallR X (.type "tuple") (fun xs H Q=>∃ p ys,xs=[.ref p]/\((SqL X.K H p ys/\∀ l,H l=none->Q (.ref l) (upd H l (.tup ys)))\/(SqT X.K H p ys/\Q (.ref p) H))):=by
 intro pins s σ H xs us Q I r h;obtain⟨p,ys,rfl,h⟩:=h;obtain⟨u,rfl,rx⟩:=BY r;cases rx;rcases h with⟨hq,q⟩ | ⟨hq,q⟩
 ·obtain⟨its,r',pl,hz⟩:=I.list hq;have hlen:=r'.length;refine call_tuple_list pl.isList (fun h' kp=>?_) (by simp only[List.size_toArray]<;>omega);have I1:Inv X pins σ H {s with heap:=h'}:=I.kept (t':=s.toks) kp
  have I2:Inv X pins σ (upd H h'.objs.size (.tup ys)) {s with heap:=h'.push {cls := .type "tuple",data := .seq its.toArray}}:=
   I1.laid (t':=s.toks) (fun b o e=>Heap.get?_push_of_some _ e) (Nat.le_refl _) (show ObjOk X.prog X.w _ _ _ (.tup ys) from ⟨hz,its,r',IsTup.new _ _⟩)
  exact⟨.ref h'.objs.size,_,I2,rfl,q _ (I1.hok.fresh (Nat.le_refl _))⟩
 ·obtain⟨its,r',pl,hz⟩:=I.tuple hq;exact call_tuple_same pl ⟨.ref p,H,I,rfl,q⟩
def tyV(K:PySem.W.Frag)(T:String)(x:V)(H:Hp):Prop:=match x with
 | .str _=>T="str"
 | .int _=>T="int"
 | .ref p=>(T="list"/\∃ xs,SqL K H p xs)\/(T="tuple"/\∃ o,K.lookup p=some o/\o.cls = .type "tuple"/\o.dict=none)\/
    (T="dict"/\((∃ kvs,H p=some (.dK kvs))\/∃ kvs,H p=some (.dT kvs)))\/(T="set"/\∃ S n,H p=some (.set S n))
 | _=>False
theorem Mj{pins:List (Addr×Obj)}{σ:St}{H:Hp}{s:Shared}{T:String}{x:V}{v:Value}(I:Inv X pins σ H s)(r:RelV x v)(ty:tyV X.K T x H):
 s.TypeIs v T/\∀ a,v = .ref a->∃ ob,s.heap.get? a=some ob/\ob.dict=none:=by
 cases x with
 | str z=>
   obtain⟨t,rfl⟩:=r;cases(show T="str" from ty);exact⟨typeIs_str s z t,fun _ e=>nomatch e⟩
 | int i=>
   obtain⟨t,rfl⟩:=r;cases(show T="int" from ty);exact⟨typeIs_int s i t,fun _ e=>nomatch e⟩
 | ref p=>
   cases r;rcases ty with⟨rfl,xs,hq⟩ | ⟨rfl,o,hk,hc,hd⟩ | ⟨rfl,hk⟩ | ⟨rfl,S,n,hk⟩
   ·obtain⟨its,_,pl,_⟩:=I.list hq;refine⟨pl.isList.typeIs,fun a e=>?_⟩;cases e;obtain⟨o,n,e,c,hd,_⟩:=pl;exact⟨o,e,hd⟩
   ·refine⟨⟨o,I.kIn p o hk,hc⟩,fun a e=>?_⟩;cases e;exact⟨o,I.kIn _ o hk,hd⟩
   ·have z:∃ o,s.heap.get? p=some o/\o.ExactDict:=by
     rcases hk with⟨kvs,hk⟩ | ⟨kvs,hk⟩
     ·obtain⟨_,_,_,_,o,_,_,e,ex,_⟩:=I.hok p _ hk;exact⟨o,e,ex⟩
     ·obtain⟨_,_,_,_,o,_,_,e,ex,_⟩:=I.hok p _ hk;exact⟨o,e,ex⟩
    obtain⟨o,e,ex⟩:=z;refine⟨⟨o,e,ex.1⟩,fun a e2=>?_⟩;cases e2;exact⟨o,e,ex.2.1⟩
   ·obtain⟨o,_,_,_,e,ex,_⟩:=I.hok p _ hk;refine⟨⟨o,e,ex.1⟩,fun a e2=>?_⟩;cases e2;exact⟨o,e,ex.2.1⟩
 | _=>exact False.elim ty
def Sz(K:PySem.W.Frag)(T:String)(r:V->List V->Hp->VK->Prop)(to:TE):TE:=fun σ H Q=>to σ H fun x H1=>tyV K T x H1/\r x [] H1 Q
def tBM(K:PySem.W.Frag)(T:String)(r:V->List V->Hp->VK->Prop)(to:TE)(t:TA):TE:=fun σ H Q=>to σ H fun x H1=>tyV K T x H1/\t σ H1 fun xs H2=>r x xs H2 Q
variable{o e:Expr}{es:List Expr}{to:TE}{t:TA}{name:Str}{apos cpos:Pos}{T id:String}{r:V->List V->Hp->VK->Prop}
theorem Do(pa:PlainAttrs T)(slot:Slot T name id)(hty:typeOf (.builtin id)=pure (.type "method_descriptor"))(hm:MtR X id r)(ho:PE X o to)
 (hbase:attributeBase o name X.env (eval o X.env)=eval o X.env:=by rfl) (hline:(apos.endLine == cpos.line)=true:=by rfl):PE X (.Call (.Attribute o name apos) [] [] cpos) (Sz X.K T r to):=by
 intro pins s σ H Q I h;refine wpAny_Call_method0_late hbase hline (thn (ho pins s σ H _ I h) fun v s1 ⟨x,H1,I1,r1,ty,q1⟩=>?_);obtain⟨h1,h2⟩:=Mj I1 r1 ty;exact⟨T,id,pa,slot,hty,h1,h2,Calls.callWith_builtin rfl (PySem.evalArgs_none (hm pins s1 σ H1 x [] v [] Q I1 r1 .nil q1))⟩
theorem GM(pa:PlainAttrs T)(slot:Slot T name id)(hty:typeOf (.builtin id)=pure (.type "method_descriptor"))(hm:MtR X id r)(ho:PE X o to)(ha:PA X (e::es) t)
 (hbase:attributeBase o name X.env (eval o X.env)=eval o X.env:=by rfl)
 (hfew:((backTo cpos (starEach (e::es) X.env)).all (fun x=>!x.1)&&(backToKw cpos (keywordEach [] X.env)).all (fun x=>x.1.isSome)
   && decide ((e::es).length+([]:List Keyword).length+(if ([]:List Keyword).isEmpty then 0 else 1)<30))=true:=by rfl)
 (hline:(apos.endLine == cpos.line)=true:=by rfl) (hs:starEach (e::es) X.env=(false,eval e X.env)::starEach es X.env:=by rfl) (hplain:(backTo cpos (starEach es X.env)).any (·.1)=false:=by rfl):
 PE X (.Call (.Attribute o name apos) (e::es) [] cpos) (tBM X.K T r to t):=by
 intro pins s σ H Q I h;refine wpAny_Call_method_late hbase hfew hline rfl (thn (ho pins s σ H _ I h) fun v s1 ⟨x,H1,I1,r1,ty,q1⟩=>?_);obtain⟨h1,h2⟩:=Mj I1 r1 ty;refine⟨T,id,pa,slot,hty,h1,h2,?_⟩;have hA:=ha cpos pins s1 σ H1 _ I1 q1;rw[hs]at hA ⊢;refine Calls.callWith_builtin (by show(false||(backTo cpos (starEach es X.env)).any (·.1))=false;rw[hplain]<;>rfl) (Calls.evalArgs_plain ?_);exact thn hA fun us s2 ⟨vs,H2,I2,r2,q2⟩=>hm pins s2 σ H2 x vs v us Q I2 r1 r2 q2
end
open PySem PySem.Spec PyProof.Rows
def MtM(X:Cx)(id:String)(r:V->List V->Hp->VK->Prop):Prop:=
 ∀(pins:List (Addr×Obj)) (s:Shared) (σ:St) (H:Hp) (x:V) (xs:List V) (v:Value) (us:List Value) (Q:VK),Inv X pins σ H s->RelV x v->Vals xs us->r x xs H Q->
  wpAny (model X.prog X.w) X.A (call (.builtin id) (v::us)) (EP X pins σ Q) X.xe s
theorem Vals.one:∀{x:V} {us:List Value},Vals [x] us->∃ u,us=[u]/\RelV x u
 | _,_,.cons r .nil=>⟨_,rfl,r⟩
theorem Vals.two:∀{x y:V} {us:List Value},Vals [x,y] us->∃ u v,us=[u,v]/\RelV x u/\RelV y v
 | _,_,_,.cons r (.cons q .nil)=>⟨_,_,rfl,r,q⟩
theorem Vals.zero:∀{us:List Value},Vals [] us->us=[]
 | _,.nil=>rfl
theorem Vals.dropLast{xs:List V}{us:List Value}(h:Vals xs us):Vals xs.dropLast us.dropLast:=by
 induction h with
 | nil=>exact .nil
 | cons r t ih=>
   cases t with
   | nil=>exact .nil
   | cons q t'=>exact .cons r ih
theorem Vals.eraseIdx:∀{xs:List V} {us:List Value} (i:Nat),Vals xs us->Vals (xs.eraseIdx i) (us.eraseIdx i)
 | _,_,_,.nil => .nil
 | _,_,0,.cons _ t=>t
 | _,_,i+1,.cons r t => .cons r (Vals.eraseIdx i t)
theorem Vals.reverse{xs:List V}{us:List Value}(h:Vals xs us):Vals xs.reverse us.reverse:=by
 induction h with
 | nil=>exact .nil
 | cons r t ih=>rw[List.reverse_cons,List.reverse_cons];exact Vals.append ih (.cons r .nil)
theorem Vals.rep{xs:List V}{us:List Value}(h:Vals xs us):∀ k:Nat,Vals (List.replicate k xs).flatten (List.replicate k us).flatten
 | 0 => .nil
 | k+1=>by
   rw[List.replicate_succ,List.replicate_succ,List.flatten_cons,List.flatten_cons];exact Vals.append h (Vals.rep h k)
theorem IM{α:Type}(l:List α):l.eraseIdx (l.length - 1)=l.dropLast:=by
 induction l with
 | nil=>rfl
 | cons a r ih=>
   cases r with
   | nil=>rfl
   | cons b r=>
     have e:(a::b::r).length - 1=((b::r).length - 1)+1:=by
      have h1:(a::b::r).length=r.length+2:=rfl;have h2:(b::r).length=r.length+1:=rfl;omega
     rw[e,List.eraseIdx_cons_succ,ih]
     all_goals rfl
theorem Em{α:Type}:∀(l:List α) (i:Nat),(l.eraseIdx i).length<=l.length
 | [],_=>Nat.le_refl _
 | _::_,0=>Nat.le_succ _
 | _::r,i+1=>Nat.succ_le_succ (Em r i)
theorem En(its:List Value):∀(k:Nat) (acc:List Value),
 List.foldl (fun x1 x2=>x1++x2) acc.toArray (List.replicate k its.toArray)=(acc++(List.replicate k its).flatten).toArray
 | 0,acc=>by simp
 | k+1,acc=>by
   have e:acc.toArray++its.toArray=(acc++its).toArray:=by simp
   have e2:(acc++its)++(List.replicate k its).flatten=acc++(List.replicate (k+1) its).flatten:=by
    rw[List.replicate_succ,List.flatten_cons,List.append_assoc]
   rw[<-e2,<-En its k (acc++its),<-e,List.replicate_succ,List.foldl_cons]
section
variable{X:Cx}{pins:List (Addr×Obj)}{σ:St}{H:Hp}{s:Shared}{l b:Addr}{xs ys zs:List V}
theorem Inv.lset{its its':List Value}{n:Nat}{f:Array Value->Array Value}{t':Nat}(I:Inv X pins σ H s)(hH:H l=some (.lst xs))
 (e:s.heap.get? l=some {cls := .type "list",data := .seq its.toArray n}) (hf:f its.toArray=its'.toArray) (hv:Vals ys its') (hz:ys.length<=sizeLine):
 Inv X pins σ (upd H l (.lst ys)) {s with heap:=s.heap.update l (Obj.mapSeq f),toks:=t'}:=by
 have q:=PySem.IsL.update e f;rw[hf]at q;refine I.write (x:=l) (e:=l) (by rw[hH];exact trivial) (.inl rfl) (fun b' u hb hu=>(Heap.get?_update_other s.heap (Obj.mapSeq f) (Ne.symm hb)).trans hu) ⟨_,q⟩ ?_;exact⟨hz,its',_,hv,q⟩
theorem Inv.lnew{its:List Value}{t':Nat}(I:Inv X pins σ H s)(hv:Vals ys its)(hz:ys.length<=sizeLine):
 Inv X pins σ (upd H s.heap.objs.size (.lst ys)) {s with heap:=s.heap.push {cls := .type "list",data := .seq its.toArray},toks:=t'}:=
 I.laid (fun _ _ q=>Heap.get?_push_of_some _ q) (Nat.le_refl _) ⟨hz,its,0,hv,Heap.get?_push_size _ rfl⟩
theorem Inv.fresh(I:Inv X pins σ H s):H s.heap.objs.size=none:=I.hok.fresh (Nat.le_refl _)
theorem Inv.lstM(I:Inv X pins σ H s)(hH:H l=some (.lst xs)):xs.length<=sizeLine/\∃(its:List Value) (n:Nat),Vals xs its/\xs.length=its.length/\s.heap.get? l=some {cls := .type "list",data := .seq its.toArray n}:=by
 obtain⟨z,its,n,r,e⟩:=I.hok l _ hH;exact⟨z,its,n,r,r.length,e⟩
theorem GN{n:Nat}(h:n<=sizeLine):Builtin.List.listTooLong n=false:=by
 unfold Builtin.List.listTooLong;exact decide_eq_false (by omega)
end
section
variable{X:Cx}
def JZ:V->List V->Hp->VK->Prop:=fun x vs H Q=>∃ l xs y,x = .ref l/\vs=[y]/\H l=some (.lst xs)/\xs.length<sizeLine/\Q .non (upd H l (.lst (xs++[y])))
theorem C4:MtM X "list.append" JZ:=by
 intro pins s σ H x vs v us Q I rx rv h;obtain⟨l,xs,y,rfl,rfl,hH,hz,q⟩:=h;cases rx;obtain⟨u,rfl,ru⟩:=rv.one;obtain⟨z,its,n,r,hl,e⟩:=I.lstM hH;refine call_meets F.slot_list_append ⟨_,e,rfl⟩ F.entry_list_append (F.args_list_append_2 _ _) (PySem.list_append l its.toArray n u (by rw[List.size_toArray];omega)) ⟨e,?_⟩;refine⟨.non,_,I.lset (its':=its++[u]) hH e (by simp) (r.append (.cons ru .nil)) ?_,rfl,q⟩;rw[List.length_append,List.length_singleton];omega
def Ja:V->List V->Hp->VK->Prop:=fun x vs H Q=>∃ l b xs zs,x = .ref l/\vs=[.ref b]/\H l=some (.lst xs)/\H b=some (.lst zs)/\xs.length+zs.length<=sizeLine/\Q .non (upd H l (.lst (xs++zs)))
theorem Ep:MtM X "list.extend" Ja:=by
 intro pins s σ H x vs v us Q I rx rv h;obtain⟨l,b,xs,zs,rfl,rfl,hH,hB,hz,q⟩:=h;cases rx;obtain⟨u,rfl,ru⟩:=rv.one;cases ru;obtain⟨z,its,n,r,hl,e⟩:=I.lstM hH;obtain⟨z2,its2,n2,r2,hl2,e2⟩:=I.lstM hB;have hsz:its.toArray.size+its2.toArray.size<=sizeLine:=by rw[List.size_toArray,List.size_toArray];omega
 have hlong:¬ (!its.toArray.isEmpty&&Builtin.List.listTooLong (its.toArray.size+its2.toArray.size))=true:=by
  rw[GN hsz,Bool.and_false];exact Bool.false_ne_true
 refine call_meets F.slot_list_extend ⟨_,e,rfl⟩ F.entry_list_extend (F.args_list_extend_2 _ _)
  (AutoSeq1.list_extend_list_list_0 l its.toArray n b its2.toArray n2 hlong (by rw[List.size_toArray];omega) (by omega)) ⟨e,e2,?_⟩
 refine⟨.non,_,I.lset (its':=its++its2) hH e (by simp) (r.append r2) ?_,rfl,q⟩;rw[List.length_append];omega
def Ux:V->List V->Hp->VK->Prop:=fun x vs H Q=>∃ l xs y,x = .ref l/\vs=[]/\H l=some (.lst xs)/\xs[xs.length - 1]?=some y/\Q y (upd H l (.lst xs.dropLast))
theorem Ml:MtM X "list.pop" Ux:=by
 intro pins s σ H x vs v us Q I rx rv h;obtain⟨l,xs,y,rfl,rfl,hH,hy,q⟩:=h;cases rx;have hus:=rv.zero;subst hus;obtain⟨z,its,n,r,hl,e⟩:=I.lstM hH;obtain⟨u,hu,ru⟩:=r.get hy
 have hy':its.toArray[its.toArray.size - 1]?=some u:=by
  show its.toArray[its.length - 1]?=some u;rw[<-Array.getElem?_toList,<-hl];exact hu
 refine call_meets F.slot_list_pop ⟨_,e,rfl⟩ F.entry_list_pop (F.args_list_pop_1 _) (MeetsSeq.list_pop_last l its.toArray n u hy' (by rw[List.size_toArray];omega)) ⟨e,?_⟩;refine⟨y,_,I.lset (its':=its.dropLast) hH e ?_ r.dropLast ?_,ru,q⟩
 ·show its.toArray.eraseIdxIfInBounds (its.toArray.size - 1)=its.dropLast.toArray;rw[List.size_toArray,List.eraseIdxIfInBounds_toArray,IM]
 ·rw[List.length_dropLast];omega
def Mm:V->List V->Hp->VK->Prop:=fun x vs H Q=>∃ l xs i k y,x = .ref l/\vs=[.int i]/\H l=some (.lst xs) /\ -(2 ^ 63)<=i/\i<2 ^ 63/\seqIndex? i xs.length=some k/\xs[k]?=some y/\Q y (upd H l (.lst (xs.eraseIdx k)))
theorem GO:MtM X "list.pop" Mm:=by
 intro pins s σ H x vs v us Q I rx rv h;obtain⟨l,xs,i,k,y,rfl,rfl,hH,h1,h2,hk,hy,q⟩:=h;cases rx;obtain⟨u,rfl,ru⟩:=rv.one;obtain⟨t,rfl⟩:=ru;obtain⟨z,its,n,r,hl,e⟩:=I.lstM hH;obtain⟨w,hw,rw'⟩:=r.get hy
 refine call_meets F.slot_list_pop ⟨_,e,rfl⟩ F.entry_list_pop (F.args_list_pop_2 _ _)
  (MeetsSeq.list_pop_at l its.toArray n i t k w (fitsIndex_both h1 h2) (by rw[List.size_toArray,<-hl];exact hk) (by rw[<-Array.getElem?_toList];exact hw) (by rw[List.size_toArray];omega)) ⟨e,?_⟩
 refine⟨y,_,I.lset (its':=its.eraseIdx k) hH e ?_ (r.eraseIdx k) ?_,rw',q⟩
 ·show its.toArray.eraseIdxIfInBounds k=(its.eraseIdx k).toArray;rw[List.eraseIdxIfInBounds_toArray]
 ·have:=Em xs k;omega
def GP:V->List V->Hp->VK->Prop:=fun x vs H Q=>∃ l xs,x = .ref l/\vs=[]/\H l=some (.lst xs)/\Q .non (upd H l (.lst xs.reverse))
theorem Dp:MtM X "list.reverse" GP:=by
 intro pins s σ H x vs v us Q I rx rv h;obtain⟨l,xs,rfl,rfl,hH,q⟩:=h;cases rx;have hus:=rv.zero;subst hus;obtain⟨z,its,n,r,hl,e⟩:=I.lstM hH;refine call_meets F.slot_list_reverse ⟨_,e,rfl⟩ F.entry_list_reverse (F.args_list_reverse_1 _) (AutoSeq1.list_reverse_list_0 l its.toArray n (by rw[List.size_toArray];omega)) ⟨e,?_⟩;refine⟨.non,_,I.lset (its':=its.reverse) hH e (by simp) r.reverse ?_,rfl,q⟩;rw[List.length_reverse];omega
def Uy:R2:=fun x y H Q=>∃ l b xs zs,x = .ref l/\y = .ref b/\H l=some (.lst xs)/\H b=some (.lst zs)/\xs.length+zs.length<=sizeLine/\∀ p,H p=none->Q (.ref p) (upd H p (.lst (xs++zs)))
theorem T9:OpR X (binaryOp .Add) Uy:=by
 intro pins s σ H x y v u Q I rx ry h;obtain⟨l,b,xs,zs,rfl,rfl,hH,hB,hz,q⟩:=h;cases rx;cases ry;obtain⟨z,its,n,r,hl,e⟩:=I.lstM hH;obtain⟨z2,its2,n2,r2,hl2,e2⟩:=I.lstM hB;refine PySem.P.add_list e e2 ?_ (by rw[List.size_toArray,List.size_toArray];omega);have ea:its.toArray++its2.toArray=(its++its2).toArray:=by simp
 rw[ea];exact⟨.ref _,_,I.lnew (t':=s.toks) (r.append r2) (by rw[List.length_append];omega),rfl,q _ I.fresh⟩
def Uz:R2:=fun x y H Q=>∃ l k xs,x = .ref l/\y = .int k/\H l=some (.lst xs) /\ -(2 ^ 63)<=k/\k<2 ^ 63/\xs.length * k.toNat<=sizeLine/\
 ∀ p,H p=none->Q (.ref p) (upd H p (.lst (List.replicate k.toNat xs).flatten))
theorem Pl{α:Type}(xs:List α)(k:Nat):(List.replicate k xs).flatten.length=k * xs.length:=by
 induction k with
 | zero=>simp
 | succ k ih=>rw[List.replicate_succ,List.flatten_cons,List.length_append,ih,Nat.succ_mul,Nat.add_comm]
theorem TB:OpR X (binaryOp .Mult) Uz:=by
 intro pins s σ H x y v u Q I rx ry h;obtain⟨l,k,xs,rfl,rfl,hH,h1,h2,hz,q⟩:=h;cases rx;obtain⟨t,rfl⟩:=ry;obtain⟨z,its,n,r,hl,e⟩:=I.lstM hH;have hlen:its.toArray.size * k.toNat<=sizeLine:=by rw[List.size_toArray,<-hl];exact hz
 have hcap:¬ its.toArray.size * k.toNat>(2 ^ 63 - 1) / 8:=by
  have:(sizeLine:Nat)<=(2 ^ 63 - 1) / 8:=by decide
  omega
 have hfit:¬ (!Builtin.List.listFitsIndex k)=true:=by
  rw[fitsIndex_both h1 h2];exact Bool.false_ne_true
 have hlong:¬ Builtin.List.listTooLong (its.toArray.size * k.toNat)=true:=by
  rw[GN hlen];exact Bool.false_ne_true
 have hnew:List.foldl (fun x1 x2=>x1++x2) #[] (List.replicate (if its.toArray.isEmpty=true then 0 else k.toNat) its.toArray)=(List.replicate k.toNat its).flatten.toArray:=by
  have f0:∀ m:Nat,List.foldl (fun x1 x2=>x1++x2) #[] (List.replicate m its.toArray)=(List.replicate m its).flatten.toArray:=fun m=>by
   have:=En its m [];rw[List.nil_append]at this;exact this
  rw[f0];cases its with
  | nil=>simp
  | cons a r'=>rw[if_neg (by simp)]
 refine wpAny_binaryOp_repeat_ref (T:="list") (U:="int") (by decide) ⟨_,e,rfl⟩ (fun s'=>typeIs_int s' k t) noFill_list_mul F.fills_int_mul F.slot_int_rmul repeat_list F.slot_int_index.lookup
  (call_meets F.slot_int_rmul (typeIs_int s k t) F.entry_int_rmul (F.args_int_rmul_2 _ _) (int___rmul___int_list k t l its.toArray n)
    ⟨e,rfl,⟨_,e,rfl⟩,call_meets F.slot_list_mul ⟨_,e,rfl⟩ F.entry_list_mul (F.args_list_mul_2 _ _) (AutoListH.list___mul___list_int_3 l its.toArray n k t hfit hcap hlong) ⟨e,?_⟩⟩)
 rw[hnew];exact⟨.ref _,_,I.lnew (t':=s.toks) (r.rep k.toNat) (by rw[Pl,Nat.mul_comm];exact hz),rfl,q _ I.fresh⟩
end
end L2
namespace Att
open PySem PySem.W PySem.Calls PyProof.Rows
theorem DO{P:Params}{h:Heap}:∀(ns:List Int) (vs:List Value),WellAll P h vs (ns.map WData.int)->IntsAre vs ns:=by
 intro ns
 induction ns with
 | nil=>
   intro vs w;rw[List.map_nil]at w;cases w;exact .nil
 | cons n ns ih=>
   intro vs w;rw[List.map_cons]at w;cases w with
   | cons a b=>
     cases a;exact .cons _ _ (ih _ b)
theorem Kl{l:OpenLaw}{n:Nat}(hn:l.most=some n){P:Params}{h:Heap}{args:List WData}{vals:List Value}
 (hpre:l.row.toRowW.claim.pre args=true) (hwl:WellAll P h vals args):
 ∃ a vs ns,vals=[Value.ref a]/\args=[WData.list (ns.map WData.int)]/\h.get? a=some {cls := .type "list",data := .seq vs.toArray}/\IntsAre vs ns/\ns.length<=n:=by
 have hsh:WShape.hasAll [] args [.list .int]=true:=(pre_splitW hpre).1;have hc:l.pre.holds [] {args:=args}=true:=(pre_splitW hpre).2;obtain⟨d,r,rfl,h1,h2⟩:=hasAllW_cons hsh;obtain rfl:=hasAllW_nil h2;obtain⟨xs,rfl,h3⟩:=hasW_list h1;obtain⟨ns,rfl⟩:=items_int h3
 have hlen:ns.length<=n:=by
  unfold OpenLaw.pre at hc
  have h4:(WTm.not (.lt (.lit (.int (n:Int))) (.len (.arg 0)))).holds [] {args:=[.list (ns.map .int)]}=true:=by
   have h4:=(holds_andW hc).1;rw[hn]at h4;exact h4
  have h5:=condW_of h4 (w_not (w_lt w_lit (w_len_list (w_arg rfl))));rw[List.length_map]at h5;refine Nat.le_of_not_lt fun q=>?_;have q':(n:Int)<((ns.length:Nat):Int):=by omega
  first
   | (rw[decide_eq_true q']at h5;exact absurd h5 (by decide))
   | (simp at h5;omega)
 cases hwl with
 | cons w1 w2=>
   cases w2;cases w1 with
   | list ho hall=>exact⟨_,_,ns,rfl,rfl,ho,DO ns _ hall,hlen⟩
theorem Km(l:OpenLaw)(args:List WData):l.row.toRowW.claim.post args (.bool true) args=true:=
 postW_of (r:=l.row.toRowW) (X:=(true == true))
  (show WShape.has [] (.bool true) .bool=true by first | rfl | decide | simp[WShape.has,WShape.arms,WShape.armsAll])
  (show(WTm.eq .res (.lit (.bool true))).value [] {args:=args,res:=some (.bool true),after:=args}=some (.bool (true == true)) from w_eq_bool (w_res rfl) w_lit) rfl
theorem attach_call{l:OpenLaw}{n:Nat}{q:Program}{loose:List Str}{XP:(Str->Option Value)->Heap->Prop}{YP:World->Heap->Prop}{d:DefRec}
 (hn:l.most=some n) (hdf:d.params.defaults=[])
 (call:∀(w:World) (s₀ s₁:Shared) (mg mb:Str->Option Value) (fa:Addr) (o:Obj) (pm cd doc:Value) (a:Addr) (vs:List Value) (ns:List Int),
   Ground q loose [] XP w s₀ mg mb s₁.heap->YP w s₁.heap->
   s₁.heap.get? fa=some o->o.data = .func (docDef d.name d.params d.body d.scope pm cd doc)->s₁.heap.CodeRec cd d.name->mg d.name=some (.ref fa)->
   s₁.heap.get? a=some {cls := .type "list",data := .seq vs.toArray}->IntsAre vs ns->ns.length<=n->s₁.gens=#[]->
   codeAny (model l.prog w) callerA (.call (.ref fa) ⟨[.ref a],[]⟩) (fun r s'=>r = .ok (.ret (.bool true))/\OldK s₁.heap s'.heap/\s'.os=s₁.os/\AllBare s'.gens) s₁):
 WalkO q loose XP YP l.row.toRowW d [] (fun f vs=>PySem.call f vs):=by
 intro w s₀ s₁ mg mb G Y fa o pm cd doc dV kV ho hd hcd hD hmg hg args vals as hpre hlay hrd hwl hlo;obtain rfl:dV = .none:=Dflts.none hD hdf;obtain rfl:kV = .none:=Dflts.noKw hD;obtain⟨a,vs,ns,rfl,rfl,hobj,hints,hlen⟩:=Kl hn hpre hwl;refine enter_call (codeAny_mono (call w s₀ s₁ mg mb fa o pm cd doc a vs ns G Y ho (fd_plain hd) hcd hmg hobj hints hlen hg) fun r s' hq=>?_);obtain⟨rfl,h2,h3,h4⟩:=hq;exact⟨.inl ⟨.bool true,.bool true,[],rfl,fun _=>rfl,.bool true,Km l _,fun _=>⟨List.Pairwise.nil,fun _ hm=>(nomatch hm)⟩⟩,h2,h3,h4⟩
end Att
namespace L2
open PySem PySem.Spec PyProof.Rows
theorem Er:∀{vs:List Value} {ns:List Int},IntsAre vs ns->Vals (ns.map V.int) vs
 | _,_,.nil => .nil
 | _,_,.cons n t h => .cons ⟨t,rfl⟩ (Er h)
def Pm(H:Hp):Prop:=∀ b,H b=none\/∃ o xs,H b=some (.frz o (.lst xs))
theorem Mn{P:Program}{w:World}{K:PySem.W.Frag}{mg mb:Str->Option Value}{CX:CXT}{k:Nat}{fa a:Addr}{fd:FuncData}{x:Str}{sp:Sp}{s₁:Shared}{vs:List Value}{ns:List Int}
 (KX:K.In s₁.heap) (hns:s₁.heap.Ns mainGlobals mg) (hb:s₁.heap.Ns builtinsNs mb) (hbb:∀ x:Str,x≠"__name__"->mb x=bootBuiltins x) (hlim:s₁.heap.NoLimit) (hg:s₁.gens=#[])
 (ha:s₁.heap.get? a=some {cls := .type "list",data := .seq vs.toArray}) (hi:IntsAre vs ns) (hl:ns.length<=sizeLine) (hr:Room k callerA)
 (F:∀ base:Heap,K.In base->base.Ns mainGlobals mg->FnOk P w K mg base CX k fa fd [x] sp) (hbind:∀(s:Shared) (u:Value),BindsTo s fd ⟨[u],[]⟩ [(x,u)])
 (hsp:∀ H:Hp,Pm H->SqL K H a (ns.map V.int)->sp [.ref a] H (fun v _=>v = .bl true) fun _ _ _=>False)
 (hCX:∀ H e s',CX [] H s₁ (fun _ _ _=>False) e s'->False):
 codeAny (model P w) callerA (.call (.ref fa) ⟨[.ref a],[]⟩) (fun r s'=>r = .ok (.ret (.bool true))/\OldK s₁.heap s'.heap/\s'.os=s₁.os/\AllBare s'.gens) s₁:=by
 have rv:=Er hi;have lenV:=hi.length
 have core:∀ H:Hp,Pm H->SqL K H a (ns.map V.int)->HOk P w H s₁.heap->(∀ b,H b≠none->b=a)->(H a≠none->K.lookup a=none)->
  codeAny (model P w) callerA (.call (.ref fa) ⟨[.ref a],[]⟩) (fun r s'=>r = .ok (.ret (.bool true))/\OldK s₁.heap s'.heap/\s'.os=s₁.os/\AllBare s'.gens) s₁:=by
  intro H hO hS hok hA hK;have y8:∀{b:Addr} {o:Obj},s₁.heap.get? b=some o->H b=none->(FL s₁.heap H).get? b=some o:=fun e n=>MJ e n
  have noA:∀{b:Addr} {o:Obj} {es:Array DictEntry} {ep:Nat},s₁.heap.get? b=some o->o.data = .dict es ep->H b=none:=fun{b o es ep} e d=>by
   cases q:H b with
   | none=>rfl
   | some u=>
     have e':b=a:=hA b (by rw[q];simp);subst e';rw[ha]at e;cases e;have d':Data.seq vs.toArray _=Data.dict es ep:=d;cases d'
  have nsK:∀{b:Addr} {m:Str->Option Value},s₁.heap.Ns b m->(FL s₁.heap H).Ns b m:=fun{b m} ⟨o,es,ep,e,d,r⟩=>⟨o,es,ep,y8 e (noA e d),d,r⟩
  have hKb:K.In (FL s₁.heap H):=fun b o e=>y8 (KX b o e) (by
   cases q:H b with
   | none=>rfl
   | some u=>
     have e':b=a:=hA b (by rw[q];simp);subst e';rw[hK (by rw[q];simp)]at e;cases e)
  have hM:Mod K mg (FL s₁.heap H):=⟨hKb,nsK hns,⟨mb,nsK hb,hbb⟩,let ⟨mc,h1,h2⟩:=hlim;⟨mc,nsK h1,h2⟩⟩
  have e0:Env0 P w K mg (FL s₁.heap H) callerA [] s₁ H:=⟨rfl,hM,fun b o e=>PQ e,Nat.le_of_eq (Ka _ _),trivial,fun b hb=>absurd (show b∈([]:List Addr) from hb) (by simp),hok,.of_eq hg⟩
  refine codeAny_mono ((F _ hKb (nsK hns)).run callerA [] s₁ H ⟨[.ref a],[]⟩ [.ref a] [.ref a] _ _ hr e0 (hbind s₁ (.ref a)) (.cons rfl .nil) (hsp H hO hS)) fun r s' h=>?_;cases r with
  | error e=>exact(hCX H e s' h).elim
  | ok fl=>
    cases fl with
    | next=>exact False.elim h
    | brk=>exact False.elim h
    | cont=>exact False.elim h
    | ret u=>
      obtain⟨v,H',os,bare,un,hok',r',q⟩:=h;have q':v = .bl true:=q;subst q';obtain rfl:u=Value.bool true:=r';refine⟨rfl,OldK.of_keep fun b o e=>?_,os,bare⟩;cases q:H b with
      | none=>exact un.keep b o e q (by intro z;exact absurd (show b∈([]:List Addr) from z) (by simp)) (by simp)
      | some u=>
        rcases hO b with z | ⟨ob,xs,z⟩
        ·rw[q]at z;cases z
        ·have z2:=un.frzs b ob _ z;obtain⟨e1,_⟩:=hok b _ z;obtain⟨e2,_⟩:=hok' b _ z2;rw[e]at e1;cases e1;exact e2
 cases hk:K.lookup a with
 | some o=>
   have e:=KX a o hk;rw[ha]at e;cases e;refine core (fun _=>none) (fun _ => .inl rfl) (.inr ⟨_,vs.toArray,_,hk,rfl,rfl,rfl,by rw[List.size_toArray,lenV];exact hl,by simpa using rv⟩) (fun b u z=>by have z':(none:Option HO)=some u:=z;cases z') (fun b z=>absurd rfl z) fun z=>absurd rfl z
 | none=>
   refine core (fun b=>if b=a then some (.frz {cls := .type "list",data := .seq vs.toArray} (.lst (ns.map V.int))) else none) (fun b=>?_) (.inl (.inr ⟨{cls := .type "list",data := .seq vs.toArray},if_pos rfl⟩)) (fun b u z=>?_) (fun b z=>?_) fun _=>hk
   ·by_cases hb:b=a
    ·exact .inr ⟨_,_,if_pos hb⟩
    ·exact .inl (if_neg hb)
   ·by_cases hb:b=a
    ·have z':=(if_pos hb).symm.trans z;cases z';subst hb;exact⟨ha,by rw[List.length_map];exact hl,vs,_,rv,ha⟩
    ·have z':=(if_neg hb).symm.trans z;cases z'
   ·by_cases hb:b=a
    ·exact hb
    ·exact absurd (if_neg hb) z
open PySem PySem.Spec PyProof.Rows
theorem walk_of{l:PySem.W.OpenLaw}{n k:Nat}{q:Program}{loose:List Str}{XP:(Str->Option Value)->Heap->Prop}{YP:World->Heap->Prop}{d:DefRec}{K:Params->PySem.W.Frag}{CX:World->CXT}{sp:World->Sp}{x:Str}
 (hn:l.most=some n) (hn2:n<=sizeLine) (hdf:d.params.defaults=[]) (hr:Room k callerA)
 (hY:∀(w:World) (h:Heap),YP w h->(K w.params).In h)
 (F:∀(w:World) (mg:Str->Option Value) (fa:Addr) (h:Heap),(K w.params).In h->h.Ns mainGlobals mg->mg d.name=some (.ref fa)->
   ∃ fd:FuncData,(∀(s:Shared) (u:Value),BindsTo s fd ⟨[u],[]⟩ [(x,u)])/\
    ∀ base:Heap,(K w.params).In base->base.Ns mainGlobals mg->FnOk l.prog w (K w.params) mg base (CX w) k fa fd [x] (sp w))
 (hsp:∀(w:World) (H:Hp) (a:Addr) (ns:List Int),ns.length<=n->Pm H->SqL (K w.params) H a (ns.map V.int)->sp w [.ref a] H (fun v _=>v = .bl true) fun _ _ _=>False)
 (hCX:∀(w:World) (H:Hp) (s:Shared) (e:Value) (s':Shared),CX w [] H s (fun _ _ _=>False) e s'->False):
 PySem.W.WalkO q loose XP YP l.row.toRowW d [] (fun f vs=>PySem.call f vs):=by
 refine Att.attach_call hn hdf fun w s₀ s₁ mg mb fa o pm cd doc a vs ns G Y ho hd hcd hmg hobj hints hlen hg=>?_;have KX:=hY w _ Y;obtain⟨fd,hb,hF⟩:=F w mg fa _ KX G.T.g hmg;exact Mn KX G.T.g G.T.b G.T.builtins G.T.nolimit hg hobj hints (Nat.le_trans hlen hn2) hr hF hb (fun H hO hS=>hsp w H a ns hlen hO hS) fun H e s'=>hCX w H s₁ e s'
open PySem PySem.Spec PyProof.Rows
def defArgs(s:Stmt):Arguments:=match s with
 | .FunctionDef _ a _ _ _ _ _ _ _ _=>a
 | _=>{posonlyargs:=[],args:=[],vararg:=none,kwonlyargs:=[],kw_defaults:=[],kwarg:=none,defaults:=[]}
def defBody(s:Stmt):List Stmt:=match s with
 | .FunctionDef _ _ b _ _ _ _ _ _ _=>b
 | _=>[]
def defScope(s:Stmt):Scope:=match s with
 | .FunctionDef _ _ _ _ _ _ sc _ _ _=>sc
 | _=>{kind := .function,names:=[],isGenerator:=false,isCoroutine:=false}
abbrev CX0:CXT:=fun _ _ _ _ _ _=>False
abbrev E0:XK:=fun _ _ _=>False
theorem V0{X:Cx}:IH CX0 X E0:=fun _ _ _ _ _ _ _ h=>h.elim
structure Fun(K:PySem.W.Frag)(x qual:Str)(st:Stmt)(f:Addr)(fd:FuncData):Prop where
 ex:∃(oc:Value) (od:Option Addr) (kV doc pm:Value) (an:Option Addr) (cdv ct:Value) (osl:Array (Option Value)),
  fd=PySem.W.fnOf x qual (defArgs st) (defBody st) (defScope st) .none kV doc pm an cdv ct/\K.lookup f=some ⟨oc,od,.func fd,osl⟩/\PySem.W.codeIn K cdv qual=true
 kp:PySem.W.keepIn K (.ref f)=true
section
variable{P:Program}{w:World}{K:PySem.W.Frag}{mg:Str->Option Value}{base:Heap}
theorem Fun.ok{x qual:Str}{st:Stmt}{f:Addr}{fd:FuncData}{N ps:List Str}{k:Nat}{sp:Sp}(F:Fun K x qual st f fd)(S:FnScope N ps (defScope st))(len:∀ vs H Q E,sp vs H Q E->vs.length=ps.length)
 (hbody:∀(cdv:Value) (A:Around) (outer:List Env) (s:Shared) (H:Hp) (vs:List V) (Q:VK) (E:XK),Room k (A.deeper (envOfC qual (defScope st) s.heap.objs.size f cdv))->sp vs H Q E->
   ∃ t,PSs (II CX0 P w K mg base N qual (defScope st) f cdv A outer s H E).nox (defBody st) t/\t {nx:=fun _ H'=>Q .non H',rt:=Q} (start N vs) H):FnOk P w K mg base CX0 (k+1) f fd ps sp:=by
 obtain⟨oc,od,kV,doc,pm,an,cdv,ct,osl,rfl,lk,hcd⟩:=F.ex;refine Uq lk hcd S len fun A outer s H vs Q E hr hsp=>?_;obtain⟨t,h,q⟩:=hbody cdv A outer s H vs Q E hr hsp;exact⟨t,h.nox,q⟩
theorem Fun.binds{x qual:Str}{st:Stmt}{f:Addr}{fd:FuncData}{ps:List Str}(F:Fun K x qual st f fd)
 (h:∀(kV doc pm:Value) (an:Option Addr) (cdv ct:Value) (us:List Value),us.length=ps.length->bindArgs (PySem.W.fnOf x qual (defArgs st) (defBody st) (defScope st) .none kV doc pm an cdv ct) ⟨us,[]⟩=pure (ps.zip us)):Binds K fd ps []:=by
 obtain⟨oc,od,kV,doc,pm,an,cdv,ct,osl,rfl,lk,hcd⟩:=F.ex;exact .all (h kV doc pm an cdv ct)
theorem IN{x qual:Str}{st:Stmt}{f:Addr}{oc:Value}{od an:Option Addr}{osl:Array (Option Value)}{kV doc pm cdv ct:Value}(l:K.lookup f=some ⟨oc,od,.func (PySem.W.fnOf x qual (defArgs st) (defBody st) (defScope st) .none kV doc pm an cdv ct),osl⟩)
 (c:PySem.W.codeIn K cdv qual=true) (k:PySem.W.keepIn K (.ref f)=true):Fun K x qual st f (PySem.W.fnOf x qual (defArgs st) (defBody st) (defScope st) .none kV doc pm an cdv ct):=⟨⟨oc,od,kV,doc,pm,an,cdv,ct,osl,rfl,l,c⟩,k⟩
end
theorem Kn{n:Nat}(h:n<=1000):n<sizeLine:=Nat.lt_of_le_of_lt h (by decide)
end L2
set_option maxHeartbeats 4000000
namespace L2
open PySem PySem.Spec PyProof.Rows
def AB(env:Env):List (Str×NameKind)->List (Str×Addr)->List (Str×Addr)
 | [],acc=>acc
 | (n,k)::r,acc=>if k == .free then AB env r ((n,(env.cells.lookup n).getD 0)::acc) else AB env r acc
theorem l8{env:Env}{scope:Scope}(h:∀ x∈scope.names,x.2 = .free->∃ c,env.cells.lookup x.1=some c):closureFor scope env=pure (AB env scope.names []):=by
 unfold closureFor
 have go:∀(names:List (Str×NameKind)) (acc:List (Str×Addr)),(∀ x∈names,x.2 = .free->∃ c,env.cells.lookup x.1=some c)->
  (forIn names acc fun x r=>match x with
    | (name,kind)=>if (kind == NameKind.free)=true then do let __do_lift <- cellOf env name;pure (ForInStep.yield ((name,__do_lift)::r)) else pure (ForInStep.yield r):Sem (List (Str×Addr)))=pure (AB env names acc):=by
  intro names
  induction names with
  | nil=>intro acc _;rfl
  | cons x r ih=>
    intro acc hx;obtain⟨n,k⟩:=x;rw[List.forIn_cons];have hr:=fun y hy=>hx y (List.mem_cons_of_mem _ hy);by_cases hk:k = .free
    ·subst hk;obtain⟨c,hc⟩:=hx (n,.free) List.mem_cons_self rfl;have hc':env.cells.lookup n=some c:=hc;unfold AB;simp only[beq_self_eq_true,if_true,cellOf,hc',Option.getD_some,pure_bind];exact ih _ hr
    ·have hb:(k == NameKind.free)=false:=by simpa using hk
     unfold AB;simp only[hb,Bool.false_eq_true,if_false,pure_bind];exact ih _ hr
 have:=go scope.names [] h;simp only[this]
 first | rfl | simp
theorem D4{env:Env}:∀(names:List (Str×NameKind)) (acc:List (Str×Addr)),(∀ x∈names,x.2 = .free->∃ c,env.cells.lookup x.1=some c)->(∀ p∈acc,env.cells.lookup p.1=some p.2)->
 ∀ p∈AB env names acc,env.cells.lookup p.1=some p.2
 | [],_,_,ha,p,hp=>ha p hp
 | (n,k)::r,acc,h,ha,p,hp=>by
   unfold AB at hp;have hr:=fun y hy=>h y (List.mem_cons_of_mem _ hy);split at hp
   ·rename_i hk;have hk:k = .free:=by simpa using hk
    obtain⟨c,hc⟩:=h (n,k) List.mem_cons_self hk;have hc':env.cells.lookup n=some c:=hc;refine D4 r _ hr (fun q hq=>?_) p hp;rcases List.mem_cons.mp hq with rfl | hq
    ·show env.cells.lookup n=some ((env.cells.lookup n).getD 0);rw[hc'];rfl
    ·exact ha q hq
   ·exact D4 r acc hr ha p hp
theorem D5{env:Env}:∀(names:List (Str×NameKind)) (acc:List (Str×Addr)),∀ p∈acc,p∈AB env names acc
 | [],_,_,hp=>hp
 | (n,k)::r,acc,p,hp=>by
   unfold AB;split
   ·exact D5 r _ p (List.mem_cons_of_mem _ hp)
   ·exact D5 r acc p hp
theorem D6{env:Env}:∀(names:List (Str×NameKind)) (acc:List (Str×Addr)) (n:Str),(n,NameKind.free)∈names->∃ c,(n,c)∈AB env names acc
 | (m,k)::r,acc,n,hn=>by
   unfold AB;rcases List.mem_cons.mp hn with e | hn
   ·cases e;simp only[beq_self_eq_true,if_true];exact⟨_,D5 r _ _ List.mem_cons_self⟩
   ·split
    ·exact D6 r _ n hn
    ·exact D6 r _ n hn
theorem Bi{env:Env}:∀(names:List (Str×NameKind)) (acc:List (Str×Addr)),∀ p∈AB env names acc,p∈acc\/(p.1,NameKind.free)∈names
 | [],_,_,hp => .inl hp
 | (n,k)::r,acc,p,hp=>by
   unfold AB at hp;split at hp
   ·rename_i hk;have hk:k = .free:=by simpa using hk
    subst hk;rcases Bi r _ p hp with z | z
    ·rcases List.mem_cons.mp z with rfl | z
     ·exact .inr List.mem_cons_self
     ·exact .inl z
    ·exact .inr (List.mem_cons_of_mem _ z)
   ·rcases Bi r _ p hp with z | z
    ·exact .inl z
    ·exact .inr (List.mem_cons_of_mem _ z)
theorem AR:∀(names:List (Str×NameKind)) (n:Nat) (acc:List (Str×Addr)),∀ p∈cellsFrom n names acc,p∈acc\/(n<=p.2/\(p.1,NameKind.cell)∈names)
 | [],_,_,_,hp => .inl hp
 | (x,k)::r,n,acc,p,hp=>by
   unfold cellsFrom at hp;split at hp
   ·rename_i hk;have hk:k = .cell:=by simpa using hk
    subst hk;rcases AR r (n+1) _ p hp with z | ⟨z,w⟩
    ·rcases List.mem_cons.mp z with rfl | z
     ·exact .inr ⟨Nat.le_refl _,List.mem_cons_self⟩
     ·exact .inl z
    ·exact .inr ⟨Nat.le_of_succ_le z,List.mem_cons_of_mem _ w⟩
   ·rcases AR r n acc p hp with z | ⟨z,w⟩
    ·exact .inl z
    ·exact .inr ⟨z,List.mem_cons_of_mem _ w⟩
theorem AS:∀(names:List (Str×NameKind)) (n:Nat) (acc:List (Str×Addr)),∀ p∈acc,p∈cellsFrom n names acc
 | [],_,_,_,hp=>hp
 | (x,k)::r,n,acc,p,hp=>by
   unfold cellsFrom;split
   ·exact AS r _ _ p (List.mem_cons_of_mem _ hp)
   ·exact AS r _ _ p hp
theorem B5:∀(names:List (Str×NameKind)) (n:Nat) (acc:List (Str×Addr)) (x:Str),(x,NameKind.cell)∈names->∃ c,(x,c)∈cellsFrom n names acc
 | (y,k)::r,n,acc,x,hx=>by
   unfold cellsFrom;rcases List.mem_cons.mp hx with e | hx
   ·cases e;simp only[beq_self_eq_true,if_true];exact⟨_,AS r _ _ _ List.mem_cons_self⟩
   ·split
    ·exact B5 r _ _ x hx
    ·exact B5 r _ _ x hx
theorem B6:∀(names:List (Str×NameKind)) (h:Heap) (acc:List (Str×Addr)),∀ p∈cellsFrom h.objs.size names acc,p∈acc\/(pushCells h names).IsCell p.2 none
 | [],_,_,_,hp => .inl hp
 | (x,k)::r,h,acc,p,hp=>by
   unfold cellsFrom at hp;unfold pushCells;split at hp
   ·rename_i hk;rw[if_pos hk];have:=B6 r (h.push {cls := .type "cell",data := .cell none}) ((x,h.objs.size)::acc) p (by rw[Heap.size_push];exact hp);rcases this with z | z
    ·rcases List.mem_cons.mp z with rfl | z
     ·exact .inr ⟨_,pushCells_keeps _ _ _ _ (Heap.get?_push_size _ rfl),rfl⟩
     ·exact .inl z
    ·exact .inr z
   ·rename_i hk;rw[if_neg hk];exact B6 r h acc p hp
theorem Ab:∀(names:List (Str×NameKind)) (n:Nat) (acc:List (Str×Addr)),(acc.Pairwise fun x y=>x.2≠y.2)->(∀ p∈acc,p.2<n)->(cellsFrom n names acc).Pairwise fun x y=>x.2≠y.2
 | [],_,_,h,_=>h
 | (x,k)::r,n,acc,h,hl=>by
   unfold cellsFrom;split
   ·refine Ab r (n+1) _ (List.pairwise_cons.mpr ⟨fun y hy e=>?_,h⟩) fun p hp=>?_
    ·have h1:=hl y hy;have e':n=y.2:=e;exact absurd h1 (by rw[<-e'];exact Nat.lt_irrefl _)
    ·rcases List.mem_cons.mp hp with rfl | hp
     ·exact Nat.lt_succ_self _
     ·exact Nat.lt_succ_of_lt (hl p hp)
   ·exact Ab r n acc h hl
theorem Bj{env:Env}(inj:∀ x y c,env.cells.lookup x=some c->env.cells.lookup y=some c->x=y):∀(names:List (Str×NameKind)) (acc:List (Str×Addr)),(names.map (·.1)).Nodup->
 (∀ x∈names,x.2 = .free->∃ c,env.cells.lookup x.1=some c)->(acc.Pairwise fun x y=>x.2≠y.2)->(∀ p∈acc,env.cells.lookup p.1=some p.2/\p.1∉names.map (·.1))->(AB env names acc).Pairwise fun x y=>x.2≠y.2
 | [],_,_,_,h,_=>h
 | (n,k)::r,acc,nd,hf,h,ha=>by
   unfold AB;have nd':=List.nodup_cons.mp nd;have hr:=fun y hy=>hf y (List.mem_cons_of_mem _ hy);split
   ·rename_i hk;have hk:k = .free:=by simpa using hk
    obtain⟨c,hc⟩:=hf (n,k) List.mem_cons_self hk;have hc':env.cells.lookup n=some c:=hc;refine Bj inj r _ nd'.2 hr (List.pairwise_cons.mpr ⟨fun y hy e=>?_,h⟩) fun p hp=>?_
    ·have e':(env.cells.lookup n).getD 0=y.2:=e;rw[hc']at e';have e2:c=y.2:=e';have q:=(ha y hy).1;have:=inj n y.1 c hc' (by rw[e2];exact q);exact(ha y hy).2 (by rw[<-this];exact List.mem_cons_self)
    ·rcases List.mem_cons.mp hp with rfl | hp
     ·refine⟨?_,nd'.1⟩;show env.cells.lookup n=some ((env.cells.lookup n).getD 0);rw[hc'];rfl
     ·exact⟨(ha p hp).1,fun z=>(ha p hp).2 (List.mem_cons_of_mem _ z)⟩
   ·exact Bj inj r acc nd'.2 hr h fun p hp=>⟨(ha p hp).1,fun z=>(ha p hp).2 (List.mem_cons_of_mem _ z)⟩
theorem AE{env:Env}:∀(names:List (Str×NameKind)) (x:Str),
 (names.map fun(n,k)=>if (k == NameKind.free&&env.scope.kind == .function&&env.kindOf n == some .cell) then (n,NameKind.cell) else (n,k)).lookup x=
   (names.lookup x).map fun k=>if (k == NameKind.free&&env.scope.kind == .function&&env.kindOf x == some .cell) then NameKind.cell else k
 | [],x=>rfl
 | (n,k)::r,x=>by
   have ih:=AE (env:=env) r x;rw[List.map_cons];show List.lookup x ((if (k == NameKind.free&&env.scope.kind == .function&&env.kindOf n == some .cell)=true then (n,NameKind.cell) else (n,k))::_)=_;split
   ·rename_i hc;rw[List.lookup_cons,List.lookup_cons];cases hx:x == n with
    | false=>exact ih
    | true=>
      have e:x=n:=by simpa using hx
      subst e;simp only[Option.map_some];rw[if_pos hc]
   ·rename_i hc;rw[List.lookup_cons,List.lookup_cons];cases hx:x == n with
    | false=>exact ih
    | true=>
      have e:x=n:=by simpa using hx
      subst e;simp only[Option.map_some];rw[if_neg hc]
theorem g8{α:Type}:∀{l:List (Str×α)} {n:Str} {c:α},(l.map (·.1)).Nodup->(n,c)∈l->l.lookup n=some c
 | (k,v)::r,n,c,nd,h=>by
   have nd':=List.nodup_cons.mp nd;rw[List.lookup_cons];rcases List.mem_cons.mp h with e | h2
   ·cases e;simp
   ·cases hb:n == k with
    | true=>
      have e:n=k:=by simpa using hb
      exact absurd (List.mem_map.mpr ⟨(n,c),h2,e⟩:k∈r.map (·.1)) nd'.1
    | false=>exact g8 nd'.2 h2
theorem CO{α:Type}:∀{l:List (Str×α)} {n:Str} {c:α},(n,c)∈l->∃ d,l.lookup n=some d
 | (k,v)::r,n,c,h=>by
   rw[List.lookup_cons];cases hb:n == k with
   | true=>exact⟨v,rfl⟩
   | false=>
     rcases List.mem_cons.mp h with e | h
     ·cases e;simp at hb
     ·exact CO h
abbrev c6(X:Cx)(scope:Scope)(N':List Str)(s2:Shared)(H2:Hp)(cs:List (Str×Addr))(C:Addr)(fp:List Addr):Cx where
 prog:=X.prog
 w:=X.w
 K:=X.K
 mg:=X.mg
 base:=X.base
 A:=X.A
 N:=N'
 s₀:=s2
 H₀:=H2
 env:=compEnvC scope cs C X.env
 outer:=X.stack
 stack:=X.stack
 ex:=fp
 fn:=fun x=>scope.names.lookup x == some .cell
 calm:=X.calm
 pn:=X.pn
 xe:=fun _ _=>False
def j2(sc0 sc:Scope)(own cn N:List Str)(js:List Nat):Bool:=
 (decide (sc.kind = .function))&&(sc.names.all fun x=>!decide (x.2 = .free)||decide (sc0.names.lookup x.1=some .cell)||decide (sc0.names.lookup x.1=some .free))
 && decide ((sc.names.map (·.1)).Nodup)&&(own.all fun x=>decide (sc.names.lookup x=some .local)||decide (sc.names.lookup x=some .cell))&&(cn.all fun x=>decide (sc.names.lookup x=some .free))
 && decide ((own++cn).Nodup)&&decide (js.map (fun j=>N[j]?)=cn.map some)
def Ac(k:Nat)(js:List Nat)(σ:St):St:=List.replicate k none++js.map fun j=>(σ[j]?).join
def Ai(X:Cx)(ifs:List Expr)(t:TT):Prop:=
 ∀(pins:List (Addr×Obj)) (s:Shared) (σ:St) (H:Hp) (Q:Bool->Hp->Prop),Inv X pins σ H s->t σ H Q->
  wpAny (model X.prog X.w) X.A (forIn ifs true fun c r=>if r=true then do let ok <- isTrue c X.env (eval c X.env);pure (ForInStep.yield ok) else pure (ForInStep.yield r)) (TP X pins σ Q) X.xe s
theorem Mo{X:Cx}:Ai X [] (fun _ H Q=>Q true H):=fun _ _ _ H _ I h=>wpAny_tests_nil ⟨H,I,h⟩
theorem Mp{X:Cx}{c:Expr}{t:TT}(h:PT X c t):Ai X [c] t:=fun pins s σ H Q I hw=>wpAny_tests_one (h pins s σ H Q I hw)
theorem Mq{M:Model}{A:Around}{E:Value->Shared->Prop}{s:Shared}{scope:Scope}{env:Env}{cl:List (Str×Addr)}{Q:Env->Shared->Prop}
 (h:Q (newEnv scope s.heap.objs.size env.globals (cellsFrom (s.heap.objs.size+1) scope.names cl) env.qual none .none (some env) builtinsNs) {s with heap:=pushCells (s.heap.push {cls := .type "dict",data := .dict #[]}) scope.names}):
 wpAny M A (newFunctionEnv scope env.globals cl [] env.qual none .none (some env)) Q E s:=by
 simp only[newFunctionEnv,Option.isSome_some,if_true];refine wpAny_bind (wpAny_alloc ?_);refine wpAny_bind (wpAny_layCells _ (fun name kind cells=>by cases hkc:kind == NameKind.cell<;>simp[hkc]) _ _ _ _ ?_);rw[show({s with heap:=s.heap.push {cls := .type "dict",data := .dict #[]}}:Shared).heap.objs.size=s.heap.objs.size+1 from Heap.size_push ..];refine wpAny_bind ?_;rw[List.forIn_nil];exact wpAny_pure (wpAny_pure h)
structure CForm(prog:Program)(w:World)(A:Around)(E tg iter:Expr)(ifs:List Expr)(emit:Value->Env->Sem Unit)(dp:Nat:=0):Prop where
 turn:∀(it:Value) (D:Addr) (env:Env),compTurn E dp it (.ref D) env=(do
  standAt iter.pos
  match <- pyNext it with
  | none=>pure (.done .next)
  | some v=>
    letOwnedTupleGo tg it v
    assign tg env v
    let mut ok:=true
    for c in ifs do
     if ok then ok <- isTrue c env (eval c env)
    if ok then emit (.ref D) env
    again (.compLoop E dp it (.ref D) env))
 und:∀(it acc:Value) (env:Env),A.under (.compLoop E dp it acc env)=A
 den:∀(it acc:Value) (env:Env),(model prog w).den (.compLoop E dp it acc env)=(compTurn E dp it acc env).onRaise (fun x=>do noteFrame x env;theTreesLotGoes x)
 start:∀{R:Result->Shared->Prop} {s:Shared} {it acc:Value} {env:Env},codeAny (model prog w) A (.compLoop E dp it acc env) R s->wpAny (model prog w) A (pyIter it) (fun it' s'=>codeAny (model prog w) A (.compLoop E dp it' acc env) R s') (notedBy (model prog w) A env fun x s'=>R (.error x) s') s->
  codeAny (model prog w) A (.compStart E dp it acc env) R s
theorem CForm.loop{prog:Program}{w:World}{A:Around}{E tg iter:Expr}{ifs:List Expr}{emit:Value->Env->Sem Unit}{dp:Nat}(F:CForm prog w A E tg iter ifs emit dp){R:Result->Shared->Prop}{s:Shared}{it:Value}{D:Addr}{env:Env}(I:Nat->Shared->Prop)
 (turn:∀ n s,I n s->wpAny (model prog w) A (pyNext it) (fun r s₁=>match r with
   | none=>R (.ok .next) s₁
   | some v=>wpAny (model prog w) A (letOwnedTupleGo tg it v) (fun _ s₁'=>wpAny (model prog w) A (assign tg env v) (fun _ s₂=>
      wpAny (model prog w) A (forIn ifs true fun c r=>if r=true then do let ok <- isTrue c env (eval c env);pure (ForInStep.yield ok) else pure (ForInStep.yield r)) (fun ok s₃=>
       if ok=true then wpAny (model prog w) A (emit (.ref D) env) (fun _ s₅=>∃ m,m<n/\I m s₅) (fun _ _=>False) s₃
       else ∃ m,m<n/\I m s₃) (fun _ _=>False) s₂) (fun _ _=>False) s₁') (fun _ _=>False) s₁) (fun _ _=>False) s)
 (n:Nat) (h:I n s):
 codeAny (model prog w) A (.compLoop E dp it (.ref D) env) R s:=by
 refine codeAny_loop rfl I (fun n s hI=>?_) n h;rw[F.und,F.den];refine wpAny_noted ?_;rw[F.turn];refine wpAny_bind (wpAny_standAt (wpAny_bind (wpAny_mono (turn n s hI) (fun r s₁ h₁=>?_) fun _ _ h'=>False.elim h')));cases r with
 | none=>exact wpAny_pure h₁
 | some v=>
   refine wpAny_bind (wpAny_mono h₁ (fun _ s₁' h₁'=>?_) fun _ _ h'=>False.elim h');refine wpAny_bind (wpAny_mono h₁' (fun _ s₂ h₂=>wpAny_bind (wpAny_mono h₂ (fun ok s₃ h₃=>?_) fun _ _ h'=>False.elim h')) fun _ _ h'=>False.elim h');cases ok with
   | false=>exact wpAny_pure ⟨rfl,h₃⟩
   | true=>exact wpAny_bind (wpAny_mono h₃ (fun _ s₅ h₅=>wpAny_pure ⟨rfl,h₅⟩) fun _ _ h'=>False.elim h')
def Dq{α:Type}(J:It)(g:TG)(tt:TT)(tem:α->St->Hp->(α->Hp->Prop)->Prop)(σ':St)(Q:Hp->Prop)(W:Nat->Nat->α->Hp->Prop):Prop:=
 ∀ i m a H,W i m a H->(J.stop i H/\Q H)\/(J.go i H/\∃ N:α->Hp->Prop,(∀ a' H',N a' H'->∃ m',m'<m/\W (i+1) m' a' H')/\∀ x H',J.yld i H x H'->g x σ' H' fun σ2 H2=>tt σ2 H2 fun b H3=>if b=true then tem a σ2 H3 N else N a H3)
def Rc(elt:Expr)(acc:Value)(env:Env):Sem Unit:=do
 let x <- eval elt env
 let _ <- call (.builtin "list.append") [acc,x]
theorem IO{prog:Program}{w:World}{A:Around}{elt tg iter:Expr}{ifs:List Expr}{scope:Scope}{pos:Pos}:CForm prog w A (.ListComp elt [⟨tg,iter,ifs,0⟩] scope pos) tg iter ifs (Rc elt) where
 turn:=fun _ _ _=>compTurn_list ..
 und:=fun _ _ _=>rfl
 den:=fun _ _ _=>rfl
 start:=fun h0 h=>codeAny_compStart_list h0 h
def Vz(te:TE)(D:Addr)(ys:List V)(σ:St)(H:Hp)(N:List V->Hp->Prop):Prop:=te σ H fun v H4=>H4 D=some (.lst ys)/\ys.length<sizeLine/\N (ys++[v]) (upd H4 D (.lst (ys++[v])))
def Re(J:It)(g:TG)(tt:TT)(te:TE)(D:Addr)(σ':St)(Q:List V->Hp->Prop)(W:Nat->Nat->List V->Hp->Prop):Prop:=
 ∀ i m ys H,W i m ys H->(J.stop i H/\Q ys H)\/(J.go i H/\∃ N:List V->Hp->Prop,(∀ ys' H',N ys' H'->∃ m',m'<m/\W (i+1) m' ys' H')/\∀ x H',J.yld i H x H'->g x σ' H' fun σ2 H2=>tt σ2 H2 fun b H3=>
  if b=true then te σ2 H3 fun v H4=>H4 D=some (.lst ys)/\ys.length<sizeLine/\N (ys++[v]) (upd H4 D (.lst (ys++[v]))) else N ys H3)
def Mr(wi:TI)(g:TG)(tt:TT)(te:TE)(k:Nat)(js:List Nat):TE:=fun σ H Q=>wi σ H fun J H1=>∀ D,H1 D=none->
 ∃ W:Nat->Nat->List V->Hp->Prop,(∃ m,W 0 m [] (upd H1 D (.lst [])))/\Re J g tt te D (Ac k js σ) (fun _ H=>Q (.ref D) H) W
section
variable{X:Cx}{pins:List (Addr×Obj)}{σ:St}{H2:Hp}{s2:Shared}{tg elt iter:Expr}{ifs:List Expr}{scope:Scope}{pos:Pos}{own cn:List Str}{js:List Nat}{g:TG}{tt:TT}{te:TE}
theorem AV{α:Type}{E:Expr}{emit:Value->Env->Sem Unit}{mk:Sem Value}{o0:Obj}{u0:HO}{a0:α}{tem:Addr->α->St->Hp->(α->Hp->Prop)->Prop}(F:CForm X.prog X.w X.A E tg iter ifs emit)(hmk:∀{Q:Value->Shared->Prop},Q (.ref s2.heap.objs.size) {s2 with heap:=s2.heap.push o0}->wpAny (model X.prog X.w) X.A mk Q X.xe s2)(nf0:o0.isFreed=false)(new0:∀(H:Hp) (h:Heap),h.get? s2.heap.objs.size=some o0->ObjOk X.prog X.w H h s2.heap.objs.size u0)(hok:j2 X.env.scope scope own cn X.N js=true)(hc:X.calm=true)
 (hg:∀ s2 H2 cs C fp,PG (c6 X scope (own++cn) s2 H2 cs C fp) tg g) (ht:∀ s2 H2 cs C fp,Ai (c6 X scope (own++cn) s2 H2 cs C fp) ifs tt) (hem:∀ D s2 H2 cs C fp pins s σ H (a:α) (N:α->Hp->Prop),Inv (c6 X scope (own++cn) s2 H2 cs C fp) pins σ H s->tem D a σ H N->wpAny (model X.prog X.w) X.A (emit (.ref D) (compEnvC scope cs C X.env)) (fun _ s1=>∃ σ1 a1 H1,Inv (c6 X scope (own++cn) s2 H2 cs C fp) pins σ1 H1 s1/\N a1 H1) (fun _ _=>False) s)
 (I2:Inv X pins σ H2 s2) {it:Addr} {fp:List Addr} {tn:Nat->Heap->Prop} {J:It} (T:Turn X.prog X.w X.K tg J fp it tn) (st2:tn 0 s2.heap) (f2:∀ b∈fp,FpOk X pins H2 b)
 {Qe:Hp->Prop} (hW:∃ W:Nat->Nat->α->Hp->Prop,(∃ m,W 0 m a0 (upd H2 s2.heap.objs.size u0))/\Dq J g tt (tem s2.heap.objs.size) (Ac own.length js σ) Qe W)
 {RR:Value->Addr->Result->Shared->Prop}
 (hRR:∀ C H' s',Inv X pins σ H' s'->FpOk X pins H' C->(∃ m,s'.heap.Ns C m)->Qe H'->RR (.ref s2.heap.objs.size) C (.ok .next) s'):
 wpAny (model X.prog X.w) X.A mk (fun acc s₃=>wpAny (model X.prog X.w) X.A (newFunctionEnv scope X.env.globals (AB X.env scope.names []) [] X.env.qual none .none (some X.env)) (fun cenv s₄=>
  codeAny (model X.prog X.w) X.A (.compStart E 0 (.ref it) acc {cenv with scope:=relabel scope X.env}) (RR acc cenv.locals) s₄) X.xe s₃) X.xe s2:=by
 unfold j2 at hok;simp only[Bool.and_eq_true,decide_eq_true_eq,List.all_eq_true,Bool.or_eq_true,Bool.not_eq_true',decide_eq_false_iff_not]at hok;obtain⟨⟨⟨⟨⟨⟨k1,k2⟩,k3⟩,k4⟩,k5⟩,k6⟩,k7⟩:=hok
 have hfreeK:∀ x∈scope.names,x.2 = .free->X.env.kindOf x.1=some .cell\/X.env.kindOf x.1=some .free:=fun x hx hf=>by
  rcases k2 x hx with(z | z) | z
  ·exact absurd hf z
  ·exact .inl z
  ·exact .inr z
 have hfree:∀ x∈scope.names,x.2 = .free->∃ c,X.env.cells.lookup x.1=some c:=fun x hx hf=>I2.ok.has x.1 (hfreeK x hx hf);refine hmk (Mq ?_);have hsz3:(s2.heap.push o0).objs.size=s2.heap.objs.size+1:=Heap.size_push ..;dsimp only;generalize hh3:s2.heap.push o0=h3 at hsz3 ⊢;have old3:∀ b o,s2.heap.get? b=some o->h3.get? b=some o:=fun b o e=>hh3▸Heap.get?_push_of_some _ e;have hD3:h3.get? s2.heap.objs.size=some o0:=hh3▸Heap.get?_push_size _ nf0;generalize hcs:cellsFrom (h3.objs.size+1) scope.names (AB X.env scope.names [])=cs;generalize hh4:pushCells (h3.push {cls := .type "dict",data := .dict #[]}) scope.names=h4;have old4:∀ b o,h3.get? b=some o->h4.get? b=some o:=fun b o e=>hh4▸pushCells_keeps _ _ b o (Heap.get?_push_of_some _ e);have old:∀ b o,s2.heap.get? b=some o->h4.get? b=some o:=fun b o e=>old4 b o (old3 b o e);have hD4:h4.get? s2.heap.objs.size=some o0:=old4 _ _ hD3;have hNs:h4.Ns h3.objs.size (fun _=>none):=hh4▸(Heap.Ns.new h3 (.type "dict")).keeps (pushCells_keeps _ _);generalize hC:h3.objs.size=C at hNs hcs ⊢;have hCD:@Eq Nat C (s2.heap.objs.size+1):=by rw[<-hC];exact hsz3
 have clM:=D4 (env:=X.env) scope.names [] hfree (fun p hp=>absurd hp (by simp));have cellLt:∀ x c,X.env.cells.lookup x=some c->@LT.lt Nat _ c s2.heap.objs.size:=fun x c e=>by obtain⟨v,z⟩:=I2.cell x c e;exact z.lt
 have apart:cs.Pairwise fun x y=>x.2≠y.2:=by
  rw[<-hcs];refine Ab _ _ _ (Bj I2.ok.inj scope.names [] k3 hfree List.Pairwise.nil fun p hp=>absurd hp (by simp)) fun p hp=>?_;have:=cellLt _ _ (clM p hp);show @LT.lt Nat _ p.2 (C+1);omega
 have csM:∀ p∈cs,X.env.cells.lookup p.1=some p.2\/(C+1<=p.2/\(p.1,NameKind.cell)∈scope.names/\h4.IsCell p.2 none):=fun p hp=>by
  have hp0:=hp;rw[<-hcs]at hp;rcases AR _ _ _ p hp with z | ⟨z,y⟩
  ·exact .inl (clM p z)
  ·have e:h3.objs.size+1=(h3.push {cls := .type "dict",data := .dict #[]}).objs.size:=by rw[Heap.size_push]
   have hp':=hp;rw[<-hC,e]at hp';rcases B6 _ _ _ p hp' with q | q
   ·exact .inl (clM p q)
   ·exact .inr ⟨z,y,hh4▸q⟩
 have hX:(c6 X scope (own++cn) s2 H2 cs C fp).Ok:=by
  refine⟨I2.ok.mod,k1,I2.ok.glob,I2.ok.blt,by show @LE.le Nat _ s2.heap.objs.size C;omega,fun x y c h1 h2=>name_of_addr apart (PySem.mem_of_lookup h1) (PySem.mem_of_lookup h2),fun x hx=>?_,fun x c hf hx=>?_,I2.ok.hd,I2.ok.frames,.inl rfl,fun b hb=>?_,I2.bs,Nat.le_trans I2.ok.bsz I2.sz,fun b o e hb=>?_,fun b hb hf=>?_,I2.stack,I2.stkFree⟩
  ·have hx':(relabel scope X.env).names.lookup x=some .cell\/(relabel scope X.env).names.lookup x=some .free:=hx
   have hl:scope.names.lookup x=some .cell\/scope.names.lookup x=some .free:=by
    unfold relabel at hx';dsimp only at hx';rw[AE]at hx';cases e:scope.names.lookup x with
    | none=>rw[e]at hx';simp at hx'
    | some k=>
      rw[e]at hx';cases k<;>simp_all
   have:∃ c,(x,c)∈cs:=by
    rw[<-hcs];rcases hl with hl | hl
    ·exact B5 _ _ _ x (PySem.mem_of_lookup hl)
    ·obtain⟨c,hc'⟩:=D6 (env:=X.env) scope.names [] x (PySem.mem_of_lookup hl);exact⟨c,AS _ _ _ _ hc'⟩
   obtain⟨c,hm⟩:=this;exact CO hm
  ·have hf':scope.names.lookup x=some .cell:=by simpa using hf
   have hm:=PySem.mem_of_lookup (show cs.lookup x=some c from hx);rcases csM _ hm with z | ⟨z,_⟩
   ·
    rw[<-hcs]at hm;rcases AR _ _ _ _ hm with q | ⟨q,_⟩
    ·rcases Bi (env:=X.env) scope.names [] _ q with q' | q'
     ·exact absurd q' (by simp)
     ·have:=g8 k3 q';have h2:scope.names.lookup x=some .free:=this;rw[hf']at h2;cases h2
    ·show @LE.le Nat _ s2.heap.objs.size c;have q2:@LE.le Nat _ (C+1) c:=q;omega
   ·show @LE.le Nat _ s2.heap.objs.size c;have z2:@LE.le Nat _ (C+1) c:=z;omega
  ·obtain⟨f0,f1,f2',f3,f4,f5⟩:=f2 b hb;obtain⟨o,ho,_⟩:=T.obj 0 _ st2 b hb;have hb2:@LT.lt Nat _ b s2.heap.objs.size:=Heap.lt_size ho;refine⟨?_,fun x c e=>?_⟩
   ·show @Ne Nat b C;omega
   ·rcases csM _ (PySem.mem_of_lookup (show cs.lookup x=some c from e)) with z | ⟨z,_⟩
    ·exact f4 x c z
    ·have z2:@LE.le Nat _ (C+1) c:=z;show @Ne Nat c b;omega
  ·obtain⟨f0,f1,f2',f3,f4,f5⟩:=f2 b hb;rcases f3 with z | z
   ·exact I2.ok.noex b o e z
   ·exact absurd (Nat.lt_of_lt_of_le (Heap.lt_size e) (Nat.le_trans I2.ok.bsz z)) (Nat.lt_irrefl _)
  ·obtain⟨f0,f1,f2',_⟩:=f2 b hb;rcases List.mem_cons.mp (I2.stkSub b hf) with z | z
   ·exact f1 z
   ·exact f2' z
 have hDn:H2 s2.heap.objs.size=none:=I2.fresh;have hCn:H2 C=none:=I2.hok.fresh (show @LE.le Nat _ s2.heap.objs.size C by omega)
 have stkNe:∀ b,b≠X.env.locals->b∉X.fs->b∉frs X.stack:=fun b h1 h2 hb=>by
  rcases List.mem_cons.mp (I2.stkSub b hb) with z | z
  ·exact h1 z
  ·exact h2 z
 have I4:Inv (c6 X scope (own++cn) s2 H2 cs C fp) pins (Ac own.length js σ) (upd H2 s2.heap.objs.size u0) {s2 with heap:=h4}:=by
  refine⟨hX,rfl,I2.bare,Un.laid old (Nat.le_refl _) hDn,⟨fun _=>none,hNs,fun i x v e1 e2 e3=>?_⟩,fun x c e=>?_,?_,fun x c e=>?_,fun p hp=>?_,I2.hok.laid old (Nat.le_refl _) (new0 _ _ hD4),?_⟩
  ·
   have hi:own.length<=i:=by
    rcases Nat.lt_or_ge i own.length with z | z
    ·exfalso;unfold Ac at e2;rw[List.getElem?_append_left (by simpa using z),List.getElem?_replicate,if_pos z]at e2;cases e2
    ·exact z
   have e1':cn[i - own.length]?=some x:=by
    have:(own++cn)[i]?=some x:=e1;rw[List.getElem?_append_right hi]at this;exact this
   have e2':(js.map fun j=>(σ[j]?).join)[i - own.length]?=some (some v):=by
    unfold Ac at e2;rw[List.getElem?_append_right (by simpa using hi)]at e2;simpa using e2
   rw[List.getElem?_map]at e2';cases hj:js[i - own.length]? with
   | none=>rw[hj]at e2';cases e2'
   | some j=>
     rw[hj]at e2';have e2'':(σ[j]?).join=some v:=by simpa using e2'
     have hσ:σ[j]?=some (some v):=by
      cases q:σ[j]? with
      | none=>rw[q]at e2'';cases e2''
      | some z=>rw[q]at e2'';simp at e2'';rw[e2'']
     have hNx:X.N[j]?=some x:=by
      have:=congrArg (fun l=>l[i - own.length]?) k7;simp only[List.getElem?_map,hj,e1',Option.map_some]at this;exact oj this
     have hfx:scope.names.lookup x=some .free:=k5 x (List.mem_of_getElem? e1');have hK:=hfreeK (x,.free) (PySem.mem_of_lookup hfx) rfl;have hK':X.env.kindOf x=some .cell\/X.env.kindOf x=some .free:=hK;obtain⟨m,hn,hl⟩:=I2.loc
     have hvis:Vis X.env.scope x:=by
      rcases hK' with z | z
      ·exact .inr (.inl z)
      ·exact .inr (.inr z)
     obtain⟨u,r,l⟩:=hl j x v hNx hσ hvis;refine⟨u,r,.inr ?_⟩;rcases l with⟨l1,_⟩ | ⟨l1,c,l2,l3⟩
     ·rcases hK' with z | z
      ·rw[z]at l1;cases l1
      ·rw[z]at l1;cases l1
     ·have hrl:(compEnvC scope cs C X.env).kindOf x=some .cell\/(compEnvC scope cs C X.env).kindOf x=some .free:=by
       show(relabel scope X.env).names.lookup x=_\/(relabel scope X.env).names.lookup x=_;unfold relabel;dsimp only;rw[AE,hfx];simp only[Option.map_some];split
       ·exact .inl rfl
       ·exact .inr rfl
      refine⟨hrl,c,?_,l3.keeps fun b o e=>old b o e⟩;show cs.lookup x=some c;obtain⟨c',hc'⟩:=hX.has x hrl;have hc2:cs.lookup x=some c':=hc';rw[hc2];have hm:=PySem.mem_of_lookup hc2
      have:X.env.cells.lookup x=some c':=by
       rcases csM _ hm with z | ⟨_,z,_⟩
       ·exact z
       ·have:=g8 k3 z;have h2:scope.names.lookup x=some .cell:=this;rw[hfx]at h2;cases h2
      rw[l2]at this;exact this.symm
  ·rcases csM _ (PySem.mem_of_lookup (show cs.lookup x=some c from e)) with z | ⟨_,_,z⟩
   ·obtain⟨v,q⟩:=I2.cell _ _ z;exact⟨v,q.keeps fun b o e=>old b o e⟩
   ·exact⟨none,z⟩
  ·show upd H2 s2.heap.objs.size u0 C=none;rw[upd_ne (show @Ne Nat C s2.heap.objs.size by omega)];exact hCn
  ·have hne:c≠s2.heap.objs.size/\H2 c=none:=by
    rcases csM _ (PySem.mem_of_lookup (show cs.lookup x=some c from e)) with z | ⟨z,_,_⟩
    ·exact⟨Nat.ne_of_lt (cellLt _ _ z),I2.freeC _ _ z⟩
    ·have z2:@LE.le Nat _ (C+1) c:=z;exact⟨show @Ne Nat c s2.heap.objs.size by omega,I2.hok.fresh (show @LE.le Nat _ s2.heap.objs.size c by omega)⟩
   rw[upd_ne hne.1];exact hne.2
  ·obtain⟨e,n,ne,nf,d⟩:=I2.pin p hp;have hlt:@LT.lt Nat _ p.1 s2.heap.objs.size:=Heap.lt_size e;refine⟨old _ _ e,?_,?_,stkNe _ ne nf,d⟩
   ·rw[upd_ne (Nat.ne_of_lt hlt)];exact n
   ·show @Ne Nat p.1 C;omega
  ·show(Ac own.length js σ).length=(own++cn).length;unfold Ac;have hl:=congrArg List.length k7;simp only[List.length_map]at hl;simp[hl]
 have stat:∀{H':Hp},(∀ b∈fp,H' b=none)->∀ b∈fp,FpOk (c6 X scope (own++cn) s2 H2 cs C fp) pins H' b:=fun hn b hb=>by
  obtain⟨f0,f1,f2',f3,f4,f5⟩:=f2 b hb;exact⟨hn b hb,(hX.exf b hb).1,stkNe b f1 f2',.inl hb,fun x c e=>(hX.exf b hb).2 x c e,f5⟩
 have back:∀{σ':St} {H':Hp} {s':Shared},Inv (c6 X scope (own++cn) s2 H2 cs C fp) pins σ' H' s'->Inv X pins σ H' s':=fun{σ' H' s'} J'=>
  I2.call' (ch:=fp) J'.os J'.base J'.hok J'.bare fun b hb=>by
   obtain⟨f0,f1,f2',f3,f4,f5⟩:=f2 b hb;exact⟨f3,f1,f4,f5⟩
 obtain⟨W,⟨m0,w0⟩,turn⟩:=hW
 have loop:codeAny (model X.prog X.w) X.A (.compLoop E 0 (.ref it) (.ref s2.heap.objs.size) (compEnvC scope cs C X.env)) (RR (.ref s2.heap.objs.size) C) {s2 with heap:=h4}:=by
  refine F.loop (fun n s'=>∃ i ys H',Inv (c6 X scope (own++cn) s2 H2 cs C fp) pins (Ac own.length js σ) H' s'/\tn i s'.heap/\(∀ b∈fp,H' b=none)/\W i n ys H') ?_ m0
   ⟨0,a0,_,I4,T.keep _ _ _ st2 fun b hb o e=>old b o e,fun b hb=>?_,w0⟩
  ·rintro n s3 ⟨i,ys,H3,I3,st3,fr3,w3⟩;rcases turn i n ys H3 w3 with⟨stop,q⟩ | ⟨go,N,hN,step⟩
   ·refine thn (T.done (c6 X scope (own++cn) s2 H2 cs C fp) rfl rfl rfl hc i pins s3 _ H3 _ I3 (stat fr3) st3 stop) fun r s4 ⟨hr,I5⟩=>?_;subst hr;obtain⟨m,hn,_⟩:=I5.loc;exact hRR C H3 s4 (back I5) (I2.fpOk (show @LE.le Nat _ s2.heap.objs.size C by omega) I5.free) ⟨m,hn⟩ q
   ·refine thn (T.item (c6 X scope (own++cn) s2 H2 cs C fp) rfl rfl rfl hc i pins s3 _ H3 _ I3 (stat fr3) st3 go) fun r s4 ⟨u,hr,h4'⟩=>?_;subst hr;refine thn h4' fun _ s5 ⟨x,H5,I5,r5,y5,st5,fr5⟩=>?_;have I5':=I5.pinned (stat fr5) (T.obj _ _ st5);refine thn (hg s2 H2 cs C fp _ s5 _ H5 x u _ I5' r5 (step x H5 y5)) fun _ s6 ⟨σ6,H6,I6,q6⟩=>?_;refine thn (ht s2 H2 cs C fp _ s6 σ6 H6 _ I6 q6) fun b s7 ⟨H7,I7,q7⟩=>?_
    have again:∀{σ8:St} {H8:Hp} {s8:Shared} {ys8:α},Inv (c6 X scope (own++cn) s2 H2 cs C fp) (pins++Bf fp s5.heap) σ8 H8 s8->(∀(j:Nat) v,(Ac own.length js σ)[j]?=some (some v)->σ8[j]?=some (some v))->(∃ m',m'<n/\W (i+1) m' ys8 H8)->
     ∃ m,m<n/\∃ i ys H',Inv (c6 X scope (own++cn) s2 H2 cs C fp) pins (Ac own.length js σ) H' s8/\tn i s8.heap/\(∀ b∈fp,H' b=none)/\W i m ys H':=fun{σ8 H8 s8 ys8} I8 hw8 ⟨m',hm,w8⟩=>by
     refine⟨m',hm,i+1,ys8,H8,I8.unpinned.weak (by rw[I8.len,I4.len]) hw8,T.keep _ _ _ st5 fun b hb o e=>(I8.pin (b,o) (List.mem_append_right _ (List.mem_append_right _ (AN hb e)))).1,fun b hb=>?_,w8⟩;obtain⟨o,e,d⟩:=T.obj _ _ st5 b hb;exact(I8.pin (b,o) (List.mem_append_right _ (List.mem_append_right _ (AN hb e)))).2.1
    have capK:∀{σ8:St} {H8:Hp} {s8:Shared},Inv (c6 X scope (own++cn) s2 H2 cs C fp) (pins++Bf fp s5.heap) σ8 H8 s8->Inv (c6 X scope (own++cn) s2 H2 cs C fp) (pins++Bf fp s5.heap) (Ac own.length js σ) H8 s8:=fun{σ8 H8 s8} I8=>by
     have IX:=back I8.unpinned;refine⟨I8.ok,I8.os,I8.bare,I8.base,?_,I8.cell,I8.free,I8.freeC,I8.pin,I8.hok,I4.len⟩;obtain⟨m,hn,_⟩:=I8.loc;refine⟨m,hn,fun i x v e1 e2 e3=>?_⟩;obtain⟨mx,hnx,hlx⟩:=IX.loc
     have hi:own.length<=i:=by
      rcases Nat.lt_or_ge i own.length with z | z
      ·exfalso;unfold Ac at e2;rw[List.getElem?_append_left (by simpa using z),List.getElem?_replicate,if_pos z]at e2;cases e2
      ·exact z
     have e1':cn[i - own.length]?=some x:=by
      have:(own++cn)[i]?=some x:=e1;rw[List.getElem?_append_right hi]at this;exact this
     have e2':(js.map fun j=>(σ[j]?).join)[i - own.length]?=some (some v):=by
      unfold Ac at e2;rw[List.getElem?_append_right (by simpa using hi)]at e2;simpa using e2
     rw[List.getElem?_map]at e2';cases hj:js[i - own.length]? with
     | none=>rw[hj]at e2';cases e2'
     | some j=>
       rw[hj]at e2';have e2'':(σ[j]?).join=some v:=by simpa using e2'
       have hσ:σ[j]?=some (some v):=by
        cases q:σ[j]? with
        | none=>rw[q]at e2'';cases e2''
        | some z=>rw[q]at e2'';simp at e2'';rw[e2'']
       have hNx:X.N[j]?=some x:=by
        have:=congrArg (fun l=>l[i - own.length]?) k7;simp only[List.getElem?_map,hj,e1',Option.map_some]at this;exact oj this
       have hfx:scope.names.lookup x=some .free:=k5 x (List.mem_of_getElem? e1');have hK':X.env.kindOf x=some .cell\/X.env.kindOf x=some .free:=hfreeK (x,.free) (PySem.mem_of_lookup hfx) rfl
       have hvis:Vis X.env.scope x:=by
        rcases hK' with z | z
        ·exact .inr (.inl z)
        ·exact .inr (.inr z)
       obtain⟨u,r,l⟩:=hlx j x v hNx hσ hvis;refine⟨u,r,.inr ?_⟩;rcases l with⟨l1,_⟩ | ⟨l1,c,l2,l3⟩
       ·rcases hK' with z | z
        ·rw[z]at l1;cases l1
        ·rw[z]at l1;cases l1
       ·have hrl:(compEnvC scope cs C X.env).kindOf x=some .cell\/(compEnvC scope cs C X.env).kindOf x=some .free:=by
         show(relabel scope X.env).names.lookup x=_\/(relabel scope X.env).names.lookup x=_;unfold relabel;dsimp only;rw[AE,hfx];simp only[Option.map_some];split
         ·exact .inl rfl
         ·exact .inr rfl
        refine⟨hrl,c,?_,l3⟩;show cs.lookup x=some c;obtain⟨c',hc'⟩:=hX.has x hrl;have hc2:cs.lookup x=some c':=hc';rw[hc2];have hm:=PySem.mem_of_lookup hc2
        have:X.env.cells.lookup x=some c':=by
         rcases csM _ hm with z | ⟨_,z,_⟩
         ·exact z
         ·have:=g8 k3 z;have h2:scope.names.lookup x=some .cell:=this;rw[hfx]at h2;cases h2
        rw[l2]at this;exact this.symm
    cases b with
    | false=>
      rw[if_neg Bool.false_ne_true];rw[if_neg Bool.false_ne_true]at q7;exact again (capK I7) (fun _ _ e=>e) (hN _ _ q7)
    | true=>
      rw[if_pos rfl];rw[if_pos rfl]at q7;exact thn (hem _ s2 H2 cs C fp _ s7 σ6 H7 _ _ I7 q7) fun _ s9 ⟨σ9,a9,H9,I9,q9⟩=>again (capK I9) (fun _ _ e=>e) (hN _ _ q9)
  ·obtain⟨f0,_⟩:=f2 b hb;obtain⟨o,ho,_⟩:=T.obj 0 _ st2 b hb;rw[upd_ne (Nat.ne_of_lt (Heap.lt_size ho))];exact f0
 exact F.start loop (T.self _ 0 _ _ _ (T.keep _ _ _ st2 fun b hb o e=>old b o e) loop)
theorem Dr(hok:j2 X.env.scope scope own cn X.N js=true)(hc:X.calm=true)
 (hg:∀ s2 H2 cs C fp,PG (c6 X scope (own++cn) s2 H2 cs C fp) tg g) (ht:∀ s2 H2 cs C fp,Ai (c6 X scope (own++cn) s2 H2 cs C fp) ifs tt) (he:∀ s2 H2 cs C fp,PE (c6 X scope (own++cn) s2 H2 cs C fp) elt te)
 (I2:Inv X pins σ H2 s2) {it:Addr} {fp:List Addr} {tn:Nat->Heap->Prop} {J:It} (T:Turn X.prog X.w X.K tg J fp it tn) (st2:tn 0 s2.heap) (f2:∀ b∈fp,FpOk X pins H2 b)
 {Qe:Hp->Prop} (hW:∃ W:Nat->Nat->List V->Hp->Prop,(∃ m,W 0 m [] (upd H2 s2.heap.objs.size (.lst [])))/\Re J g tt te s2.heap.objs.size (Ac own.length js σ) (fun _ H=>Qe H) W)
 {RR:Value->Addr->Result->Shared->Prop}
 (hRR:∀ C H' s',Inv X pins σ H' s'->FpOk X pins H' C->(∃ m,s'.heap.Ns C m)->Qe H'->RR (.ref s2.heap.objs.size) C (.ok .next) s'):
 wpAny (model X.prog X.w) X.A (newList []) (fun acc s₃=>wpAny (model X.prog X.w) X.A (newFunctionEnv scope X.env.globals (AB X.env scope.names []) [] X.env.qual none .none (some X.env)) (fun cenv s₄=>
  codeAny (model X.prog X.w) X.A (.compStart (.ListComp elt [⟨tg,iter,ifs,0⟩] scope pos) 0 (.ref it) acc {cenv with scope:=relabel scope X.env}) (RR acc cenv.locals) s₄) X.xe s₃) X.xe s2:=by
 obtain⟨W,w0,hw⟩:=hW;refine AV (RR:=RR) (a0:=[]) (o0:={cls := .type "list",dict:=none,data := .seq ([]:List Value).toArray}) (u0 := .lst []) (tem:=Vz te) IO (fun hq=>wpAny_newObj_type hq) rfl (fun _ _ hD=>⟨Nat.zero_le _,[],0,.nil,hD⟩) hok hc hg ht (fun D s2 H2 cs C fp pins s σ H ys N I h=>?_) I2 T st2 f2 ⟨W,w0,hw⟩ hRR;refine wpAny_bind (thn (he s2 H2 cs C fp _ s σ H _ I h) fun y s8 ⟨v,H8,I8,r8,hD8,hz8,q8⟩=>?_);refine wpAny_bind (thn (C4 (X:=c6 X scope (own++cn) s2 H2 cs C fp) _ s8 σ H8 (.ref D) [v] (.ref D) [y] (fun _ H9=>H9=upd H8 D (.lst (ys++[v]))) I8 rfl (.cons r8 .nil) ⟨_,ys,v,rfl,rfl,hD8,hz8,rfl⟩) fun _ s9 ⟨z,H9,I9,r9,e9⟩=>?_);subst e9;exact wpAny_pure ⟨_,_,_,I9,q8⟩
theorem Pn{wi:TI}(own cn:List Str)(js:List Nat)(hi:PI X tg iter wi)(hg:∀ s2 H2 cs C fp,PG (c6 X scope (own++cn) s2 H2 cs C fp) tg g)(ht:∀ s2 H2 cs C fp,Ai (c6 X scope (own++cn) s2 H2 cs C fp) ifs tt)
 (he:∀ s2 H2 cs C fp,PE (c6 X scope (own++cn) s2 H2 cs C fp) elt te) (hc:X.calm=true:=by rfl) (hok:j2 X.env.scope scope own cn X.N js=true:=by kernel_rfl)
 (hs:∀ x,foldedSetIterable iter X.env x=pure x:=by intro _;rfl):PE X (.ListComp elt [⟨tg,iter,ifs,0⟩] scope pos) (Mr wi g tt te own.length js):=by
 intro pins s σ H Q I h;have hok':=hok;unfold j2 at hok';simp only[Bool.and_eq_true,decide_eq_true_eq,List.all_eq_true,Bool.or_eq_true,Bool.not_eq_true',decide_eq_false_iff_not]at hok';obtain⟨⟨⟨⟨⟨⟨k1,k2⟩,k3⟩,k4⟩,k5⟩,k6⟩,k7⟩:=hok'
 have hfree:∀ x∈scope.names,x.2 = .free->∃ c,X.env.cells.lookup x.1=some c:=fun x hx hf=>I.ok.has x.1 (by
  rcases k2 x hx with(z | z) | z
  ·exact absurd hf z
  ·exact .inl z
  ·exact .inr z)
 rw[eval_ListComp];refine wpAny_comprehension_free (use:=none) rfl hs (l8 hfree) k1 (fun x hx hl=>?_) (thn (hi pins s σ H _ I h) fun v s1 h1=>thn h1 fun itv s2 h2=>?_)
 ·have:=g8 k3 (show(x.1,x.2)∈scope.names from hx);rw[this,hl]
 ·obtain⟨it,fp,tn,J,H2,e,I2,T,st2,f2,q⟩:=h2;subst e;refine Dr (RR:=fun acc C=>compPost (model X.prog X.w) X.A X.xe none (EP X pins σ Q) acc C) hok hc hg ht he I2 T st2 f2 (q _ I2.fresh) ?_;intro C H' s' I' fC ⟨m,hn⟩ q';obtain⟨f0,f1,f2',f3,f4,f5⟩:=fC;refine⟨m,hn,fun h' hs'=>⟨.ref s2.heap.objs.size,H',?_,rfl,q'⟩⟩;exact I'.turned (t':=s'.toks) (fun b o hb e=>(hs'.2 b hb).trans e) f0 f1 f3 f4 f5
theorem IP{wi:TI}{i:Nat}{x:Str}{px spos:Pos}(own cn:List Str)(js:List Nat)(hN:X.N.Nodup)(hix:X.N[i]?=some x)(hx:X.env.scope.names.lookup x=some .local)(hi:PI X tg iter wi)
 (hg:∀ s2 H2 cs C fp,PG (c6 X scope (own++cn) s2 H2 cs C fp) tg g) (ht:∀ s2 H2 cs C fp,Ai (c6 X scope (own++cn) s2 H2 cs C fp) ifs tt)
 (he:∀ s2 H2 cs C fp,PE (c6 X scope (own++cn) s2 H2 cs C fp) elt te) (hc:X.calm=true:=by rfl) (hok:j2 X.env.scope scope own cn X.N js=true:=by kernel_rfl)
 (hsw:swapsWith (.ListComp elt [⟨tg,iter,ifs,0⟩] scope pos) (some (.Name x px)) spos.line X.env=pure true:=by rfl)
 (hs:∀ x,foldedSetIterable iter X.env x=pure x:=by intro _;rfl):PS X (.Assign [.Name x px] (.ListComp elt [⟨tg,iter,ifs,0⟩] scope pos) spos) (GF (Mr wi g tt te own.length js) (Eh i)):=by
 intro pins s σ H D I h;have hok':=hok;unfold j2 at hok';simp only[Bool.and_eq_true,decide_eq_true_eq,List.all_eq_true,Bool.or_eq_true,Bool.not_eq_true',decide_eq_false_iff_not]at hok';obtain⟨⟨⟨⟨⟨⟨k1,k2⟩,k3⟩,k4⟩,k5⟩,k6⟩,k7⟩:=hok'
 have hfree:∀ x∈scope.names,x.2 = .free->∃ c,X.env.cells.lookup x.1=some c:=fun x hx hf=>I.ok.has x.1 (by
  rcases k2 x hx with(z | z) | z
  ·exact absurd hf z
  ·exact .inl z
  ·exact .inr z)
 rw[exec_Assign_Name_used _ _ _ _ hsw];refine wpAny_bind (wpAny_standAt (wpAny_bind ?_));show wpAny _ X.A (do let _ <- comprehension (.ListComp elt [⟨tg,iter,ifs,0⟩] scope pos) scope X.env _ (newList []) false (eval iter X.env) (some (assign (.Name x px) X.env))) _ _ s
 refine wpAny_bind (wpAny_mono (wpAny_comprehension_free (use:=some (assign (.Name x px) X.env)) (Q:=fun _ s'=>SP X pins D .next s') rfl hs (l8 hfree) k1 (fun x hx hl=>?_)
  (thn (hi pins s σ H _ I h) fun v s1 h1=>thn h1 fun itv s2 h2=>?_)) (fun _ s' hq=>wpAny_pure (wpAny_pure hq)) fun _ _ e=>e)
 ·have:=g8 k3 (show(x.1,x.2)∈scope.names from hx);rw[this,hl]
 ·obtain⟨it,fp,tn,J,H2,e,I2,T,st2,f2,q⟩:=h2;subst e;refine Dr (RR:=fun acc C=>compPost (model X.prog X.w) X.A X.xe (some (assign (.Name x px) X.env)) (fun _ s'=>SP X pins D .next s') acc C) hok hc hg ht he I2 T st2 f2 (q _ I2.fresh) ?_;intro C H' s' I' fC ⟨m,hn⟩ q';obtain⟨f0,f1,f2',f3,f4,f5⟩:=fC;show wpAny _ X.A (assign (.Name x px) X.env (.ref s2.heap.objs.size)) _ _ _;refine wpAny_assign_Name (C3 I' hN hix (.inl hx) (v := .ref s2.heap.objs.size) rfl (fun s3 I3 hch=>?_) (.inr hx));obtain⟨a,hsb,ha⟩:=hch
  have hCa:C≠a:=by
   rcases ha with z | z
   ·rw[z];exact f1
   ·exact fun e=>f4 x a z e.symm
  refine⟨m,hn.sameBut hsb hCa,fun h' hs'=>?_⟩;exact⟨_,H',I3.turned (t':=s3.toks) (fun b o hb e=>(hs'.2 b hb).trans e) f0 f1 f3 f4 f5,q'⟩
end
end L2
namespace PySem
open AutoSeq1 (wpAny_loadPart')
section
variable{prog:Program}{w:World}{A:Around}{E:Value->Shared->Prop}{s:Shared}
theorem Bb{it l:Addr}{i:Nat}{items}{x:Value}{Q:Value->Shared->Prop}(hit:s.heap.IsTupleIter it l i)
 (hl:s.heap.IsTuple l items) (hx:items[i]?=some x)
 (hQ:∀ h',h'.IsTupleIter it l (i+1)->Heap.SameBut it s.heap h'->Q x {s with heap:=h'}):
 wpAny (model prog w) A (Builtin.SmallTypes.nextOf (.ref it)) Q E s:=by
 obtain⟨o,ho,hc,hd⟩:=id hit;obtain⟨ol,hol,_,nl,hdl⟩:=hl;unfold Builtin.SmallTypes.nextOf
 refine wpAny_bind (wpAny_callSpecial?_slot (name:=Str.ofString "__next__") hit.typeIs F.slot_tuple_iterator_next
  (wpAny_call_entry F.slot_tuple_iterator_next hit.typeIs F.entry_tuple_iterator_next ?_ (F.args_tuple_iterator_next_1 _)))
 show wpAny _ _ (field (.ref it) 0 >>= _) _ _ s;refine wpAny_bind (wpAny_field ho hd (x := .ref l) rfl ?_);show wpAny _ _ (if (Value.ref l == Value.none)=true then _ else _) _ _ s;rw[if_neg (show ¬ ((Value.ref l == Value.none)=true) from Bool.false_ne_true)];show wpAny _ _ (field (.ref it) 1 >>= _) _ _ s;refine wpAny_bind (wpAny_field ho hd (x := .int i 0) rfl ?_);show wpAny _ _ (seqItems? (.ref l) >>= _) _ _ s;refine wpAny_bind (wpAny_seqItems hol hdl ?_);simp only[Int.toNat_natCast,hx];refine wpAny_bind (wpAny_setField ho hd (by simp) (wpAny_pure ⟨x,rfl,wpAny_pure (hQ _ ?_ (Heap.SameBut.update ..))⟩))
 exact⟨_,Heap.get?_update_self _ ho (Obj.isFreed_of_fields (Obj.data_mapFields hd _)),(Obj.cls_mapFields ..).trans hc,by
  rw[Obj.data_mapFields hd];simp[rawInt]⟩
theorem Bk{it l:Addr}{i:Nat}{items}{Q:Value->Shared->Prop}(hh:A.handled=none)
 (hit:s.heap.IsTupleIter it l i) (hl:s.heap.IsTuple l items) (hx:items[i]?=none)
 (hE:∀ h' e,Heap.ExtBut it s.heap h'->(∃ o,h'.get? e=some o/\o.cls = .type "StopIteration")->E (.ref e) {s with heap:=h'}):
 wpAny (model prog w) A (Builtin.SmallTypes.nextOf (.ref it)) Q E s:=by
 obtain⟨o,ho,hc,hd⟩:=id hit;obtain⟨ol,hol,_,nl,hdl⟩:=hl;unfold Builtin.SmallTypes.nextOf
 refine wpAny_bind (wpAny_callSpecial?_slot (name:=Str.ofString "__next__") hit.typeIs F.slot_tuple_iterator_next
  (wpAny_call_entry F.slot_tuple_iterator_next hit.typeIs F.entry_tuple_iterator_next ?_ (F.args_tuple_iterator_next_1 _)))
 show wpAny _ _ (field (.ref it) 0 >>= _) _ _ s;refine wpAny_bind (wpAny_field ho hd (x := .ref l) rfl ?_);show wpAny _ _ (if (Value.ref l == Value.none)=true then _ else _) _ _ s;rw[if_neg (show ¬ ((Value.ref l == Value.none)=true) from Bool.false_ne_true)];show wpAny _ _ (field (.ref it) 1 >>= _) _ _ s;refine wpAny_bind (wpAny_field ho hd (x := .int i 0) rfl ?_);show wpAny _ _ (seqItems? (.ref l) >>= _) _ _ s;refine wpAny_bind (wpAny_seqItems hol hdl ?_);simp only[Int.toNat_natCast,hx];refine wpAny_bind (wpAny_rule (wpAny_bind (wpAny_setField ho hd (by simp) ?_)))
 first
  | refine wpAny_bind (wpAny_letGo ?_)
  | skip
 show wpAny _ _ (newExc (.type "StopIteration") [] >>= _) _ _ _;refine wpAny_bind ?_;simp only[newExc,newTuple];refine wpAny_bind (wpAny_newObj_type ?_ (by size_fits));refine wpAny_bind (m:=firstArgMember _ _) (wpAny_of_eq (a:=Value.none) (by first | rfl | (simp only[firstArgMember];rfl)) ?_);refine wpAny_newObj_type ?_ (by size_fits);simp only[raiseNew];refine wpAny_bind (wpAny_handled ?_)
 first | rw[show A.in1.handled=none from hh] | rw[hh]
 refine wpAny_bind (wpAny_pure (wpAny_throw ?_));exact hE _ _ (((Heap.SameBut.update ..).extBut.push _).push _) ⟨_,Heap.get?_push_size _ rfl,rfl⟩
end
theorem BZ{prog:Program}{w:World}{A:Around}(hh:A.handled=none)(it l:Addr)(hne:l≠it)(items:Array Value):
 Draws prog w A it [it,l] items.size (fun i v=>items[i]?=some v) (fun i h=>h.IsTupleIter it l i/\h.IsTuple l items) where
 live:=fun _ _ st=>let ⟨o,ho,_⟩:=st.1;⟨o,ho⟩
 frame:=fun _ _ _ st hk=>⟨st.1.at fun o e=>hk it (by simp) o e,let ⟨o,ho,r⟩:=st.2;⟨o,hk l (by simp) o ho,r⟩⟩
 item:=fun i s Q E hi st hQ=>by
  refine Bb st.1 st.2 (x:=items[i]) (by simp[hi]) fun h' hit' hs'=>?_;exact hQ _ h' s.toks (by simp[hi]) ⟨hit',st.2.extBut hs'.extBut hne⟩ hs'
 done:=fun s Q E st hE=>Bk hh st.1 st.2 (by simp) hE
theorem CV(l:Addr)(items:Array Value)(n:Nat)(dct:Option Addr)(sl:Array (Option Value)):
 Meets (Builtin.«enumerate.__new__» ⟨[.type "enumerate",.ref l],[]⟩) (fun _ R s=>s.heap.get? l=some {cls := .type "tuple",dict:=dct,data := .seq items n,slots:=sl}/\
  R (.ok (.ret (.ref (s.heap.push {cls := .type "tuple_iterator",data := .fields #[.ref l,.int 0 0]}).objs.size)))
   {s with heap:=(s.heap.push {cls := .type "tuple_iterator",data := .fields #[.ref l,.int 0 0]}).push {cls := .type "enumerate",data := .fields #[.none,.bool false,.ref s.heap.objs.size,rawInt 0,.none,.none]}}):=
 .of_wp fun prog w A R s h=>by
  obtain⟨hp,g,d,tk,os⟩:=s;obtain⟨hl,h⟩:=h;have hsub:=sub_enumerate;have hL:Heap.IsTuple (Shared.heap ⟨hp,g,d,tk,os⟩) l items:=⟨_,hl,rfl,n,rfl⟩
  wp_walk using wpAny_loadPart' hl
  refine wpAny_stack_any fun st=>wpAny_pure ?_;split
  ·rename_i c _ _ _ _ _;cases(c == Value.type "enumerate")
   ·wp_walk using wpAny_loadPart' hl,wpAny_pyIter_tuple hL
    exact⟨_,rfl,h⟩
   ·wp_walk using wpAny_loadPart' hl,wpAny_pyIter_tuple hL
    exact⟨_,rfl,h⟩
  ·wp_walk using wpAny_loadPart' hl,wpAny_pyIter_tuple hL
   exact⟨_,rfl,h⟩
section
variable{prog:Program}{w:World}{A:Around}{E:Value->Shared->Prop}{s:Shared}
theorem B7{l:Addr}{items:Array Value}{Q:Value->Shared->Prop}(hL:s.heap.IsTuple l items)
 (h:∀ h',IsEnum h' (s.heap.objs.size+1) s.heap.objs.size 0 .none->h'.IsTupleIter s.heap.objs.size l 0->h'.objs.size=s.heap.objs.size+2->
   (∀ b o,s.heap.get? b=some o->h'.get? b=some o)->Q (.ref (s.heap.objs.size+1)) {s with heap:=h'}):
 wpAny (model prog w) A (call (.type "enumerate") [.ref l]) Q E s:=by
 obtain⟨⟨c,dct,dt,sl⟩,hl,hc,n,hd⟩:=hL;replace hc:c = .type "tuple":=hc;replace hd:dt = .seq items n:=hd;subst hc hd
 refine callType_new F.called_enumerate (by decide) (F.typeCall_enumerate_1 _) (F.newCall_enumerate_1 _) (fun obj=>F.args_object_init_2 obj _) F.entry_enumerate_new
  (CV l items n dct sl) ⟨hl,?_⟩
 have hz:(s.heap.push {cls := .type "tuple_iterator",data := .fields #[.ref l,.int 0 0]}).objs.size=s.heap.objs.size+1:=Heap.size_push ..;show _/\_;rw[hz]
 have he:IsEnum ((s.heap.push {cls := .type "tuple_iterator",data := .fields #[.ref l,.int 0 0]}).push
  {cls := .type "enumerate",data := .fields #[.none,.bool false,.ref s.heap.objs.size,rawInt 0,.none,.none]}) (s.heap.objs.size+1) s.heap.objs.size 0 .none:=by
  have:=Heap.get?_push_size (s.heap.push {cls := .type "tuple_iterator",data := .fields #[.ref l,.int 0 0]})
   (o:={cls := .type "enumerate",data := .fields #[.none,.bool false,.ref s.heap.objs.size,rawInt 0,.none,.none]}) rfl
  rw[hz]at this;exact this
 refine⟨⟨_,he,rfl⟩,h _ he ⟨_,Heap.get?_push_of_some _ (Heap.get?_push_size _ rfl),rfl,rfl⟩ (by rw[Heap.size_push,hz]) fun b o x=>Heap.get?_push_of_some _ (Heap.get?_push_of_some _ x)⟩
end
end PySem
namespace L2
open PySem PySem.Spec PyProof.Rows
section
variable{X:Cx}{pins:List (Addr×Obj)}{σ:St}{H:Hp}{s:Shared}{h':Heap}
theorem Inv.turnedL{t':Nat}{ch:List Addr}(I:Inv X pins σ H s)(k:∀ b o,b∉ch->s.heap.get? b=some o->h'.get? b=some o)(hf:∀ b∈ch,FpOk X pins H b):Inv X pins σ H {s with heap:=h',toks:=t'}:=by
 have nit:∀ b u,H b=some u->b∉ch:=fun b u e z=>by rw[(hf b z).1]at e;cases e
 refine I.step (g':=s.gens) (d':=s.drawn) (ch:=ch) (fun b hb=>?_) (fun b o _ _ hc e _=>k b o hc e) (fun b o _ _ hc e _=>⟨o.slots,k b o hc e⟩) (fun _ _ _ _ n=>n)
  (fun b o hc e=>⟨o,k b o hc e⟩) (fun _ _ e=>e) (fun _ _ _ e=>e) (fun b ps e=>⟨#[],by rw[e];simp⟩) (fun m hm=>?_) (fun b u e=>?_) I.bare
 ·obtain⟨f0,f1,f2,f3,f4,f5⟩:=hf b hb;exact⟨f3,f1,f4,f5⟩
 ·obtain⟨o,es,ep,ho,r⟩:=hm;exact⟨o,es,ep,k _ o (fun z=>(hf _ z).2.1 rfl) ho,r⟩
 ·refine(I.hok b u e).stay (fun c v hc q=>k c v ?_ q) (fun _ q=>q) fun _ _ q=>q;rcases hc with z | z
  ·rw[z];exact nit b u e
  ·exact nit c _ z
theorem Inv.turnLay{t':Nat}{ch:List Addr}{o:HO}(I:Inv X pins σ H s)(k:∀ b u,b∉ch->s.heap.get? b=some u->h'.get? b=some u)(hf:∀ b∈ch,FpOk X pins H b)
 (new:ObjOk X.prog X.w (upd H s.heap.objs.size o) h' s.heap.objs.size o):Inv X pins σ (upd H s.heap.objs.size o) {s with heap:=h',toks:=t'}:=by
 have hT:H s.heap.objs.size=none:=I.fresh;have nit:∀ b u,H b=some u->b∉ch:=fun b u e z=>by rw[(hf b z).1]at e;cases e
 have lt:∀ b u,s.heap.get? b=some u->b≠s.heap.objs.size:=fun b u e=>Nat.ne_of_lt (Heap.lt_size e)
 refine I.step (g':=s.gens) (d':=s.drawn) (ch:=ch) (fun b hb=>?_) (fun b o _ _ hc e _=>k b o hc e) (fun b o _ _ hc e _=>⟨o.slots,k b o hc e⟩) (fun b u _ e n=>by rw[upd_ne (lt b u e)];exact n)
  (fun b o hc e=>⟨o,k b o hc e⟩) (fun b xs e=>by rw[upd_ne (e8 e hT)];exact e) (fun b u xs e=>by rw[upd_ne (e8 e hT)];exact e) (fun b ps e=>⟨#[],by rw[upd_ne (e8 e hT),e];simp⟩) (fun m hm=>?_) (fun b u e=>?_) I.bare
 ·obtain⟨f0,f1,f2,f3,f4,f5⟩:=hf b hb;exact⟨f3,f1,f4,f5⟩
 ·obtain⟨o,es,ep,ho,r⟩:=hm;exact⟨o,es,ep,k _ o (fun z=>(hf _ z).2.1 rfl) ho,r⟩
 ·by_cases hb:b=s.heap.objs.size
  ·subst hb;rw[f7]at e;cases e;exact new
  ·rw[upd_ne hb]at e;refine(I.hok b u e).stay (fun c v hc q=>k c v ?_ q) (fun c q=>by rw[upd_ne (e8 q hT)];exact q) fun c xs q=>by rw[upd_ne (e8 q hT)];exact q
   rcases hc with z | z
   ·rw[z];exact nit b u e
   ·exact nit c _ z
end
def TC(K:PySem.W.Frag)(a:Addr):It:=
 ⟨fun i H=>∃ xs x,SqL K H a xs/\xs[i]?=some x,fun i H x H'=>∃ p v,H p=none/\x = .ref p/\(∀ xs,SqL K H a xs->xs[i]?=some v)/\H'=upd H p (.tup [.int i,v]),fun i H=>∃ xs,SqL K H a xs/\xs.length=i⟩
def TD(K:PySem.W.Frag)(a:Addr):It:=
 ⟨fun i H=>∃ xs x,SqT K H a xs/\xs[i]?=some x,fun i H x H'=>∃ p v,H p=none/\x = .ref p/\(∀ xs,SqT K H a xs->xs[i]?=some v)/\H'=upd H p (.tup [.int i,v]),fun i H=>∃ xs,SqT K H a xs/\xs.length=i⟩
theorem Mt:2<=sizeLine:=by decide
theorem IQ{P:Program}{w:World}{K:PySem.W.Frag}{elts:List Expr}{kx:Nat}{tp:Pos}(a e it:Addr)(hei:e≠it)(hae:a≠e)(hai:a≠it):Turn P w K (.Tuple elts kx tp) (TC K a) [e,it] e (fun i h=>(∃ old,IsEnum h e it i old)/\h.IsListIter it a i) where
 mem:=by simp
 obj:=fun i h st b hb=>by
  rcases List.mem_cons.mp hb with rfl | hb
  ·obtain⟨⟨old,z⟩,_⟩:=st;exact⟨_,z,fun v q=>by cases q⟩
  ·have e':b=it:=by simpa using hb
   subst e';obtain⟨o,q,c,d⟩:=st.2;exact⟨o,q,fun v z=>by rw[d]at z;cases z⟩
 keep:=fun i h h' st k=>⟨let ⟨old,z⟩:=st.1;⟨old,k e (by simp) _ z⟩,st.2.at fun o q=>k it (by simp) o q⟩
 item:=by
  intro X hP hw hK hc i pins s σ H E I hf st hg;subst hP hw hK;obtain⟨xs,x,hq,hx⟩:=hg;obtain⟨its,rv,p,hz⟩:=I.list hq;obtain⟨u,hu,ru⟩:=rv.get hx;obtain⟨⟨old,he⟩,hli⟩:=st
  have hil:i<its.toArray.size:=by
   have:=(gM hu).1;simpa using this
  refine wpAny_pyNext_enum_itemD (Draws.list (prog:=X.prog) (w:=X.w) (A:=X.A.in1) (show X.A.in1.handled=none from I.ok.hd hc) it a hai its.toArray) he ⟨hli,p.isList⟩ hil hei (by simp[hei,Ne.symm hae]) fun y h' tk hy ho hs' hT hsz hk=>?_
  have hyu:y=u:=by
   have:its.toArray[i]?=some u:=by simpa using hu
   rw[this]at hy;exact(oj hy).symm
  subst hyu;refine⟨_,rfl,?_⟩
  have I1:Inv X pins σ (upd H s.heap.objs.size (.tup [.int i,x])) {s with heap:=h',toks:=tk+1}:=
   I.turnLay (ch:=[e,it]) (fun b o hb q=>hk b o (fun z=>hb (by simp[z])) (fun z=>hb (by simp[z])) q) hf ⟨Mt,[.int i tk,y],.cons ⟨tk,rfl⟩ (.cons ru .nil),⟨_,hT,rfl,_,rfl⟩⟩
  refine wpAny_letOwnedTupleGo_enum ho fun h2 he2 hs2=>?_
  have hfp1:∀ b∈[e,it],FpOk X pins (upd H s.heap.objs.size (.tup [.int i,x])) b:=fun b hb=>by
   obtain⟨f0,f1⟩:=hf b hb
   have hbl:b≠s.heap.objs.size:=by
    rcases List.mem_cons.mp hb with rfl | hb
    ·exact Nat.ne_of_lt (Heap.lt_size he)
    ·have e':b=it:=by simpa using hb
     subst e';obtain⟨o,q,_⟩:=hli;exact Nat.ne_of_lt (Heap.lt_size q)
   exact⟨by rw[upd_ne hbl];exact f0,f1⟩
  have I2:Inv X pins σ (upd H s.heap.objs.size (.tup [.int i,x])) {s with heap:=h2,toks:=tk+1}:=
   Inv.turnedL (s:={s with heap:=h',toks:=tk+1}) (t':=tk+1) (ch:=[e,it]) I1 (fun b o hb q=>(hs2.2 b (fun z=>hb (by simp[z]))).trans q) hfp1
  refine⟨.ref s.heap.objs.size,_,I2,rfl,⟨_,x,I.fresh,rfl,fun ys hy=>by rw[I.list_inj hy hq];exact hx,rfl⟩,⟨⟨y,by simpa using he2⟩,hs'.1.extBut hs2.extBut (Ne.symm hei)⟩,fun b hb=>(hfp1 b hb).1⟩
 done:=by
   intro X hP hw hK hc i pins s σ H E I hf st hg;subst hP hw hK;obtain⟨xs,hq,hx⟩:=hg;obtain⟨its,rv,p,hz⟩:=I.list hq;obtain⟨⟨old,he⟩,hli⟩:=st;have hl:=rv.length;have hn:its.toArray.size=i:=by simp;omega
   refine wpAny_pyNext_enum_endD (Draws.list (prog:=X.prog) (w:=X.w) (A:=X.A.in1) (show X.A.in1.handled=none from I.ok.hd hc) it a hai its.toArray) he (by rw[hn];exact⟨hli,p.isList⟩) fun h' eb=>⟨rfl,I.turnedL (t':=s.toks) (ch:=[e,it]) (fun b o hb q=>eb b o (fun z=>hb (by simp[z])) q) hf⟩
 self:=fun _ _ _ _ _ st h=>let ⟨old,z⟩:=st.1;wpAny_pyIter_enum z h
theorem IR{P:Program}{w:World}{K:PySem.W.Frag}{elts:List Expr}{kx:Nat}{tp:Pos}(a e it:Addr)(hei:e≠it)(hae:a≠e)(hai:a≠it):Turn P w K (.Tuple elts kx tp) (TD K a) [e,it] e (fun i h=>(∃ old,IsEnum h e it i old)/\h.IsTupleIter it a i) where
 mem:=by simp
 obj:=fun i h st b hb=>by
  rcases List.mem_cons.mp hb with rfl | hb
  ·obtain⟨⟨old,z⟩,_⟩:=st;exact⟨_,z,fun v q=>by cases q⟩
  ·have e':b=it:=by simpa using hb
   subst e';obtain⟨o,q,c,d⟩:=st.2;exact⟨o,q,fun v z=>by rw[d]at z;cases z⟩
 keep:=fun i h h' st k=>⟨let ⟨old,z⟩:=st.1;⟨old,k e (by simp) _ z⟩,st.2.at fun o q=>k it (by simp) o q⟩
 item:=by
  intro X hP hw hK hc i pins s σ H E I hf st hg;subst hP hw hK;obtain⟨xs,x,hq,hx⟩:=hg;obtain⟨its,rv,p,hz⟩:=I.tuple hq;obtain⟨u,hu,ru⟩:=rv.get hx;obtain⟨⟨old,he⟩,hli⟩:=st
  have hil:i<its.toArray.size:=by
   have:=(gM hu).1;simpa using this
  refine wpAny_pyNext_enum_itemD (BZ (prog:=X.prog) (w:=X.w) (A:=X.A.in1) (show X.A.in1.handled=none from I.ok.hd hc) it a hai its.toArray) he ⟨hli,p⟩ hil hei (by simp[hei,Ne.symm hae]) fun y h' tk hy ho hs' hT hsz hk=>?_
  have hyu:y=u:=by
   have:its.toArray[i]?=some u:=by simpa using hu
   rw[this]at hy;exact(oj hy).symm
  subst hyu;refine⟨_,rfl,?_⟩
  have I1:Inv X pins σ (upd H s.heap.objs.size (.tup [.int i,x])) {s with heap:=h',toks:=tk+1}:=
   I.turnLay (ch:=[e,it]) (fun b o hb q=>hk b o (fun z=>hb (by simp[z])) (fun z=>hb (by simp[z])) q) hf ⟨Mt,[.int i tk,y],.cons ⟨tk,rfl⟩ (.cons ru .nil),⟨_,hT,rfl,_,rfl⟩⟩
  refine wpAny_letOwnedTupleGo_enum ho fun h2 he2 hs2=>?_
  have hfp1:∀ b∈[e,it],FpOk X pins (upd H s.heap.objs.size (.tup [.int i,x])) b:=fun b hb=>by
   obtain⟨f0,f1⟩:=hf b hb
   have hbl:b≠s.heap.objs.size:=by
    rcases List.mem_cons.mp hb with rfl | hb
    ·exact Nat.ne_of_lt (Heap.lt_size he)
    ·have e':b=it:=by simpa using hb
     subst e';obtain⟨o,q,_⟩:=hli;exact Nat.ne_of_lt (Heap.lt_size q)
   exact⟨by rw[upd_ne hbl];exact f0,f1⟩
  have I2:Inv X pins σ (upd H s.heap.objs.size (.tup [.int i,x])) {s with heap:=h2,toks:=tk+1}:=
   Inv.turnedL (s:={s with heap:=h',toks:=tk+1}) (t':=tk+1) (ch:=[e,it]) I1 (fun b o hb q=>(hs2.2 b (fun z=>hb (by simp[z]))).trans q) hfp1
  refine⟨.ref s.heap.objs.size,_,I2,rfl,⟨_,x,I.fresh,rfl,fun ys hy=>by rw[I.tuple_inj hy hq];exact hx,rfl⟩,⟨⟨y,by simpa using he2⟩,hs'.1.extBut hs2.extBut (Ne.symm hei)⟩,fun b hb=>(hfp1 b hb).1⟩
 done:=by
   intro X hP hw hK hc i pins s σ H E I hf st hg;subst hP hw hK;obtain⟨xs,hq,hx⟩:=hg;obtain⟨its,rv,p,hz⟩:=I.tuple hq;obtain⟨⟨old,he⟩,hli⟩:=st;have hl:=rv.length;have hn:its.toArray.size=i:=by simp;omega
   refine wpAny_pyNext_enum_endD (BZ (prog:=X.prog) (w:=X.w) (A:=X.A.in1) (show X.A.in1.handled=none from I.ok.hd hc) it a hai its.toArray) he (by rw[hn];exact⟨hli,p⟩) fun h' eb=>⟨rfl,I.turnedL (t':=s.toks) (ch:=[e,it]) (fun b o hb q=>eb b o (fun z=>hb (by simp[z])) q) hf⟩
 self:=fun _ _ _ _ _ st h=>let ⟨old,z⟩:=st.1;wpAny_pyIter_enum z h
section
variable{X:Cx}
def V1(K:PySem.W.Frag)(ta:TA):TI:=fun σ H R=>ta σ H fun vs H1=>∃ a,vs=[.ref a]/\(((∃ xs,SqL K H1 a xs)/\R (TC K a) H1)\/((∃ xs,SqT K H1 a xs)/\R (TD K a) H1))
theorem Ds:bootBuiltins "enumerate"=some (.type "enumerate"):=by decide +kernel
theorem Po{a:Expr}{ta:TA}{p pos:Pos}{elts:List Expr}{kx:Nat}{tp:Pos}(hg:Gl X "enumerate")(hm:X.mg "enumerate"=none)(ha:PA X [a] ta)(hs:starEach [a] X.env=[(false,eval a X.env)]:=by rfl):
 PI X (.Tuple elts kx tp) (.Call (.Name "enumerate" p) [a] [] pos) (V1 X.K ta):=by
 intro pins s σ H R I h;refine Call_ (Be I hg hm Ds (PyProof.Rows.callWith_type1 (thn (ha pos pins s σ H _ I h) fun us s1 ⟨vs,H1,I1,r1,q1⟩=>?_) hs rfl));obtain⟨l,e,q1⟩:=q1;subst e;cases r1 with
 | cons r rr=>
   cases rr;cases r;rcases q1 with⟨⟨xs,hq⟩,q⟩ | ⟨⟨xs,hq⟩,q⟩
   ·obtain⟨its,rv,pl,hz⟩:=I1.list hq;have hlt:@LT.lt Nat _ l s1.heap.objs.size:=by obtain⟨o,n,e,_⟩:=pl;exact Heap.lt_size e
    refine call_enumerate_list pl.isList fun h' he hli hsz hk=>?_;refine wpAny_pyIter_enum he ?_;have I2:Inv X pins σ H1 {s1 with heap:=h'}:=I1.kept (t':=s1.toks) hk;refine⟨s1.heap.objs.size+1,[s1.heap.objs.size+1,s1.heap.objs.size],_,_,H1,rfl,I2,IQ l _ s1.heap.objs.size (show @Ne Nat _ _ by omega) (show @Ne Nat _ _ by omega) (show @Ne Nat _ _ by omega),⟨⟨_,he⟩,hli⟩,fun b hb=>?_,q⟩
    have hb2:@LE.le Nat _ s1.heap.objs.size b:=by
     rcases List.mem_cons.mp hb with rfl | hb
     ·exact Nat.le_succ _
     ·have e:b=s1.heap.objs.size:=by simpa using hb
      rw[e];exact Nat.le_refl _
    exact I1.fpOk hb2 (I1.hok.fresh hb2)
   ·obtain⟨its,rv,pl,hz⟩:=I1.tuple hq;have hlt:@LT.lt Nat _ l s1.heap.objs.size:=by obtain⟨o,e,_⟩:=pl;exact Heap.lt_size e
    refine B7 (show s1.heap.IsTuple l its.toArray from pl) fun h' he hli hsz hk=>?_;refine wpAny_pyIter_enum he ?_;have I2:Inv X pins σ H1 {s1 with heap:=h'}:=I1.kept (t':=s1.toks) hk;refine⟨s1.heap.objs.size+1,[s1.heap.objs.size+1,s1.heap.objs.size],_,_,H1,rfl,I2,IR l _ s1.heap.objs.size (show @Ne Nat _ _ by omega) (show @Ne Nat _ _ by omega) (show @Ne Nat _ _ by omega),⟨⟨_,he⟩,hli⟩,fun b hb=>?_,q⟩
    have hb2:@LE.le Nat _ s1.heap.objs.size b:=by
     rcases List.mem_cons.mp hb with rfl | hb
     ·exact Nat.le_succ _
     ·have e:b=s1.heap.objs.size:=by simpa using hb
      rw[e];exact Nat.le_refl _
    exact I1.fpOk hb2 (I1.hok.fresh hb2)
end
theorem Ko(its:List Value)(k:Nat)(y:Value):(its.toArray.extract 0 k).push y++its.toArray.extract k=(its.take k++y::its.drop k).toArray:=by
 apply Array.toList_inj.mp;simp
 first
  | done
  | exact List.take_of_length_le (by simp)
section
variable{X:Cx}
def Jb:V->List V->Hp->VK->Prop:=fun x vs H Q=>∃ l xs i y,x = .ref l/\vs=[.int i,y]/\H l=some (.lst xs)/\0<=i/\i<=xs.length/\xs.length<sizeLine/\Q .non (upd H l (.lst (xs.take i.toNat++y::xs.drop i.toNat)))
theorem Es:MtM X "list.insert" Jb:=by
 intro pins s σ H x vs v us Q I rx rv h;obtain⟨l,xs,i,y,rfl,rfl,hH,h0,h1,hz,q⟩:=h;cases rx;obtain⟨u1,u2,rfl,⟨t,rfl⟩,ru⟩:=Vals.two rv;obtain⟨z,its,n,r,hl,e⟩:=I.lstM hH;have hn:=CU;refine call_meets F.slot_list_insert ⟨_,e,rfl⟩ F.entry_list_insert (F.args_list_insert_3 _ _ _) (AutoSeq1.list_insert_list_int_val_1 l its.toArray n i t u2 (by rw[fitsIndex_both (by omega) (by omega)];exact Bool.false_ne_true) (by rw[List.size_toArray];omega)) ⟨e,?_⟩;refine⟨.non,_,I.lset (its':=its.take i.toNat++u2::its.drop i.toNat) hH e ?_ (Vals.append (r.take _) (.cons ru (r.drop _))) ?_,rfl,q⟩
 ·have hk:(if i<0 then (i+(its.toArray.size:Int)).toNat else min i.toNat its.toArray.size)=i.toNat:=by
   rw[if_neg (by omega),List.size_toArray];omega
  show(let k:=if i<0 then (i+(its.toArray.size:Int)).toNat else min i.toNat its.toArray.size;(its.toArray.extract 0 k).push u2++its.toArray.extract k)=_;rw[hk];exact Ko its i.toNat u2
 ·rw[List.length_append,List.length_take,List.length_cons,List.length_drop];omega
def B8(xs ys:List V):Bool:=xs.length == ys.length&&(xs.zip ys).all fun p=>eqV p.1 p.2
def Pp(K:PySem.W.Frag)(neg:Bool):R2:=fun x y H Q=>∃ a b xs ys,x = .ref a/\y = .ref b/\SqL K H a xs/\SqL K H b ys/\((xs.all AL=true/\ys.all AL=true)\/xs=[]\/ys=[])/\Q (.bl (if neg then !B8 xs ys else B8 xs ys)) H
theorem Dt{xs ys:List V}(hl:xs.length=ys.length):(List.range xs.length).all (fun j=>eqV (xs.getD j .non) (ys.getD j .non))=B8 xs ys:=by
 have e1:B8 xs ys=(xs.zip ys).all fun p=>eqV p.1 p.2:=by unfold B8;simp[hl]
 rw[e1,Bool.eq_iff_iff,List.all_eq_true,List.all_eq_true];constructor
 ·intro h p hp;obtain⟨j,hj,e⟩:=List.mem_iff_getElem.mp hp;have hj1:j<xs.length:=by simp at hj;omega
  have hj2:j<ys.length:=by omega
  have:=h j (List.mem_range.mpr hj1);rw[<-e];simpa[List.getD,hj1,hj2] using this
 ·intro h j hj;have hj1:j<xs.length:=List.mem_range.mp hj;have hj2:j<ys.length:=by omega
  have:=h (xs[j],ys[j]) (List.mem_iff_getElem.mpr ⟨j,by simp;omega,by simp⟩);simpa[List.getD,hj1,hj2] using this
theorem Du{xs ys:List V}{us ws:List Value}{A:Around}{s:Shared}(r1:Vals xs us)(r2:Vals ys ws)(f:(xs.all AL=true/\ys.all AL=true)\/xs=[]\/ys=[]):
 ∀ j (h1:j<us.toArray.size) (h2:j<ws.toArray.size),SeqAt.EqAt A s us.toArray[j] ws.toArray[j] (eqV (xs.getD j .non) (ys.getD j .non)):=by
 intro j h1 h2;have l1:=r1.length;have l2:=r2.length;simp only[List.size_toArray]at h1 h2;have hj1:j<xs.length:=by omega
 have hj2:j<ys.length:=by omega
 obtain⟨f1,f2⟩:xs.all AL=true/\ys.all AL=true:=by
  rcases f with f | f | f
  ·exact f
  ·subst f;simp at hj1
  ·subst f;simp at hj2
 obtain⟨u,eu,ru⟩:=r1.get (i:=j) (x:=xs[j]) (by simp[hj1]);obtain⟨w',ew,rw'⟩:=r2.get (i:=j) (x:=ys[j]) (by simp[hj2])
 have e1:us.toArray[j]=u:=by
  have:=gM eu;obtain⟨_,q⟩:=this;simpa using q
 have e2:ws.toArray[j]=w':=by
  obtain⟨_,q⟩:=gM ew;simpa using q
 rw[e1,e2];have g1:xs.getD j .non=xs[j]:=by simp[List.getD,hj1]
 have g2:ys.getD j .non=ys[j]:=by simp[List.getD,hj2]
 rw[g1,g2];exact Mh ru rw' (List.all_eq_true.mp f1 _ (List.getElem_mem hj1)) (List.all_eq_true.mp f2 _ (List.getElem_mem hj2))
theorem TF(hu:X.A.units<cLine):OpR X (compareOp .Eq) (Pp X.K false):=by
 intro pins s σ H x y v u Q I rx ry h;obtain⟨a,b,xs,ys,rfl,rfl,h1,h2,f,q⟩:=h;cases rx;cases ry;obtain⟨its1,r1,p1,_⟩:=I.list h1;obtain⟨its2,r2,p2,_⟩:=I.list h2;have l1:=r1.length;have l2:=r2.length;by_cases hl:xs.length=ys.length
 ·refine SeqAt.eq_listAt p1.isList p2.isList (by simp;omega) hu (Du r1 r2 f) ⟨.bl _,H,I,rfl,?_⟩;rw[List.size_toArray,<-l1,Dt hl];exact q
 ·refine SeqAt.eq_list_lengthsAt p1.isList p2.isList (by simp;omega) hu ⟨.bl false,H,I,rfl,?_⟩;have e:B8 xs ys=false:=by unfold B8;simp[hl]
  rw[show(if false=true then !B8 xs ys else B8 xs ys)=B8 xs ys from rfl,e]at q;exact q
theorem TH(hu:X.A.units<cLine):OpR X (compareOp .NotEq) (Pp X.K true):=by
 intro pins s σ H x y v u Q I rx ry h;obtain⟨a,b,xs,ys,rfl,rfl,h1,h2,f,q⟩:=h;cases rx;cases ry;obtain⟨its1,r1,p1,_⟩:=I.list h1;obtain⟨its2,r2,p2,_⟩:=I.list h2;have l1:=r1.length;have l2:=r2.length;by_cases hl:xs.length=ys.length
 ·refine(SeqAt.RcNeAt.lists p1.isList p2.isList (by simp;omega) hu (Du r1 r2 f)) _ _ _ _ ?_;refine⟨.bl _,H,I,rfl,?_⟩;rw[List.size_toArray,<-l1,Dt hl];exact q
 ·refine(SeqAt.RcNeAt.lists_lengths p1.isList p2.isList (by simp;omega) hu) _ _ _ _ ?_;refine⟨.bl true,H,I,rfl,?_⟩;have e:B8 xs ys=false:=by unfold B8;simp[hl]
  rw[show(if true=true then !B8 xs ys else B8 xs ys)=!B8 xs ys from rfl,e]at q;exact q
theorem call_isi1:CallR X (.builtin "isinstance") (fun xs H Q=>∃ x T t b,xs=[x,.ty T]/\TyOf X.K H x t/\PySem.W.kitOne X.K t (.type T)=some b/\Q (.bl b) H):=by
 intro pins s σ H xs us Q I r h;obtain⟨x,T,t,b,rfl,ty,e,q⟩:=h;obtain⟨u1,u2,rfl,r1,r2⟩:=Vals.two r;cases r2;exact Ki I r1 ty e fun tk=>⟨.bl b,H,I.tok tk,rfl,q⟩
theorem IS{pins:List (Addr×Obj)}{σ:St}{H:Hp}{s:Shared}{A:Around}{E:Value->Shared->Prop}{Q:Value->Shared->Prop}{b:Bool}{x:V}{u t:Value}{tp:Addr}{dd:Option Addr}{its:List Value}{n:Nat}{sl:Array (Option Value)}(I:Inv X pins σ H s)(rx:RelV x u)(ty:TyOf X.K H x t)
 (htp:s.heap.get? tp=some ⟨.type "tuple",dd,.seq its.toArray n,sl⟩) (e:PySem.W.kitAny X.K t its=some b) (h:∀ tk,Q (.bool b) {s with toks:=tk}):
 wpAny (model X.prog X.w) A (call (.builtin "isinstance") [u,.ref tp]) Q E s:=by
 cases ty with
 | non=>cases(show u=Value.none from rx);exact PySem.W.kia_tup PySem.W.kitx_none I.kIn True.intro htp e (fun z=>nomatch z) h
 | bl y=>cases(show u=Value.bool y from rx);exact PySem.W.kia_tup PySem.W.kitx_bool I.kIn True.intro htp e (fun z=>nomatch z) h
 | int i=>obtain⟨t,q⟩:=(show ∃ t,u=Value.int i t from rx);cases q;exact PySem.W.kia_tup PySem.W.kitx_int I.kIn True.intro htp e (fun z=>nomatch z) h
 | str y=>obtain⟨t,q⟩:=(show ∃ t,u=Value.str y t from rx);cases q;exact PySem.W.kia_tup PySem.W.kitx_str I.kIn True.intro htp e (fun z=>nomatch z) h
 | flt y=>obtain⟨t,q⟩:=(show ∃ t,u=Value.float y t from rx);cases q;exact PySem.W.kia_tup PySem.W.kitx_float I.kIn True.intro htp e (fun z=>nomatch z) h
 | @lst a xs ea=>
   cases(show u=Value.ref a from rx);obtain⟨_,_,n,_,h1⟩:=(show ObjOk X.prog X.w H s.heap a (.lst xs) from I.hok a _ ea)
   exact PySem.W.kia_tup PySem.W.kitx_list I.kIn ⟨_,h1,rfl⟩ htp e (fun z=>nomatch z) h
 | @frz a ob xs ea=>
   cases(show u=Value.ref a from rx);obtain⟨_,_,_,n,_,h1⟩:=(show ObjOk X.prog X.w H s.heap a (.frz ob (.lst xs)) from I.hok a _ ea)
   exact PySem.W.kia_tup PySem.W.kitx_list I.kIn ⟨_,h1,rfl⟩ htp e (fun z=>nomatch z) h
 | @tup a xs ea=>
   cases(show u=Value.ref a from rx);obtain⟨_,_,_,p⟩:=(show ObjOk X.prog X.w H s.heap a (.tup xs) from I.hok a _ ea)
   obtain⟨o,h1,h2,_⟩:=p;exact PySem.W.kia_tup PySem.W.kitx_tuple I.kIn ⟨o,h1,h2⟩ htp e (fun z=>nomatch z) h
 | @dK a kvs ea=>
   cases(show u=Value.ref a from rx);obtain⟨_,_,vs,_,p⟩:=(show ObjOk X.prog X.w H s.heap a (.dK kvs) from I.hok a _ ea)
   obtain⟨o,es,ep,h1,h2,_⟩:=p;exact PySem.W.kia_tup PySem.W.kitx_dict I.kIn ⟨o,h1,h2.1⟩ htp e (fun z=>nomatch z) h
 | @dT a kvs ea=>
   cases(show u=Value.ref a from rx);obtain⟨_,_,xs,_,o,es,ep,h1,h2,_⟩:=(show ObjOk X.prog X.w H s.heap a (.dT kvs) from I.hok a _ ea)
   exact PySem.W.kia_tup PySem.W.kitx_dict I.kIn ⟨o,h1,h2.1⟩ htp e (fun z=>nomatch z) h
 | @ins a C dx fs ea cl ha hn htk hm=>
   cases(show u=Value.ref a from rx);obtain⟨mA,O,_⟩:=JS I.hok ea;obtain⟨od,J,_⟩:=O.look;exact PySem.W.kia_tup (PySem.W.kitx_own (cl.get _) cl.hd ha hn htk hm) I.kIn J htp e (fun z=>nomatch z) h
theorem Jc:∀(Ts:List String) {us:List Value},Vals (Ts.map V.ty) us->us=Ts.map Value.type
 | [],_,.nil=>rfl
 | T::r,_,.cons h t=>by cases h;rw[Jc r t];rfl
theorem Kq:CallR X (.builtin "isinstance") (fun xs H Q=>∃(x:V) (p:Addr) (Ts:List String) (t:Value) (b:Bool),xs=[x,.ref p]/\H p=some (.tup (Ts.map V.ty))/\TyOf X.K H x t/\PySem.W.kitAny X.K t (Ts.map Value.type)=some b/\Q (.bl b) H):=by
 intro pins s σ H xs us Q I r h;obtain⟨x,p,Ts,t,b,rfl,hp,ty,e,q⟩:=h;obtain⟨u1,u2,rfl,r1,r2⟩:=Vals.two r;cases r2;obtain⟨_,its,rv,⟨⟨c,dd,dt,sl⟩,h1,h2,n,h3⟩⟩:=(show ObjOk X.prog X.w H s.heap p (.tup (Ts.map V.ty)) from I.hok p _ hp)
 have ei:=Jc Ts rv;subst ei;replace h2:c = .type "tuple":=h2;replace h3:dt = .seq (Ts.map Value.type).toArray n:=h3;subst h2 h3;exact IS I r1 ty h1 e fun tk=>⟨.bl b,H,I.tok tk,rfl,q⟩
theorem Kr(hc:X.calm=true):CallR X (.builtin "all") (fun xs H Q=>∃(a:Addr) (bs:List Bool),xs=[.ref a]/\SqL X.K H a (bs.map V.bl)/\Q (.bl (bs.all id)) H):=by
 intro pins s σ H xs us Q I r h;obtain⟨a,bs,rfl,hq,q⟩:=h;obtain⟨u,rfl,ru⟩:=BY r;cases ru;obtain⟨its,rv,pl,hz⟩:=I.list hq;have hl:=rv.length;rw[List.length_map]at hl;refine call_all_walk (wpAny_pyIter_list pl.isList ?_);have hlt:a<s.heap.objs.size:=by obtain⟨o,n,e,_⟩:=pl;exact Heap.lt_size e
 refine⟨s.heap.objs.size,_,_,_,_,_,fun i=>bs.getD i false,rfl,Walks.list (by exact I.ok.hd hc) s.heap.objs.size a (Nat.ne_of_lt hlt) its.toArray,⟨⟨_,Heap.get?_push_size _ rfl,rfl,rfl⟩,pl.isList.push _⟩,?_,fun h' tk hk=>?_⟩
 ·intro i v s' Q' E' hv hQ';have hv':its[i]?=some v:=by simpa using hv
  have hi:i<its.length:=(gM hv').1;have hb:(bs.map V.bl)[i]?=some (.bl (bs[i]'(by omega))):=by simp
  obtain⟨u',eu,ru'⟩:=rv.get hb;rw[hv']at eu;cases eu;cases ru';have hg:bs.getD i false=bs[i]'(by omega):=by simp[List.getD,show i<bs.length by omega]
  have hQ2:Q' (bs.getD i false) s':=hQ';rw[hg]at hQ2;exact wpAny_truthy_bool hQ2
 ·have I1:Inv X pins σ H {s with heap:=h',toks:=tk}:=I.kept fun b o e=>hk b o (by simp;exact Nat.ne_of_lt (Heap.lt_size e)) (Heap.get?_push_of_some _ e);refine⟨.bl _,H,I1,rfl,?_⟩
  have e:(List.range its.toArray.size).all (fun i=>bs.getD i false)=bs.all id:=by
   rw[List.size_toArray,<-hl,Bool.eq_iff_iff,List.all_eq_true,List.all_eq_true];constructor
   ·intro h b hb;obtain⟨j,hj,e⟩:=List.mem_iff_getElem.mp hb;have:=h j (List.mem_range.mpr hj);simpa[List.getD,hj,e] using this
   ·intro h j hj;have hj1:j<bs.length:=List.mem_range.mp hj;have:=h bs[j] (List.getElem_mem hj1);simpa[List.getD,hj1] using this
  rw[e];exact q
theorem Ks:CallR X (.type "range") (fun xs H Q=>∃ b,xs=[.int b]/\∀ p,H p=none->Q (.ref p) (upd H p (.rng 0 b))):=by
 intro pins s σ H xs us Q I r h;obtain⟨b,rfl,q⟩:=h;obtain⟨u1,rfl,⟨t,rfl⟩⟩:=BY r;refine call_range_1 ⟨.ref s.heap.objs.size,_,I.laid (o := .rng 0 b) (fun b o e=>Heap.get?_push_of_some _ e) (Nat.le_refl _) ⟨_,_,_,Heap.get?_push_size _ rfl⟩,rfl,q _ I.fresh⟩
def Kt(lo:Int)(n:Nat):List V:=(List.range n).map fun(i:Nat)=>V.int (lo+(i:Int))
theorem GQ(lo:Int)(n:Nat):(Kt lo n).length=n:=by unfold Kt;simp
theorem FQ(hc:X.calm=true):CallR X (.type "list") (fun xs H Q=>∃ p a b,xs=[.ref p]/\H p=some (.rng a b) /\ -(2 ^ 62)<=a/\a<2 ^ 62 /\ -(2 ^ 62)<=b/\b<2 ^ 62/\(b - a).toNat<=100000/\∀ l,H l=none->Q (.ref l) (upd H l (.lst (Kt a (b - a).toNat)))):=by
 intro pins s σ H xs us Q I r h;obtain⟨p,a,b,rfl,hp,h1,h2,h3,h4,h5,q⟩:=h;obtain⟨u,rfl,ru⟩:=BY r;cases ru;obtain⟨t,u',v,ho⟩:=(show ObjOk X.prog X.w H s.heap p (.rng a b) from I.hok p _ hp)
 have hn:Builtin.Range.rangeSize a b 1=(((b - a).toNat:Nat):Int):=by rw[rangeSize_one];split<;>omega
 refine call_list_range (I.ok.hd hc) (show IsRange s.heap p a b 1 t u' v from ho) (small_one h1 h2 h3 h4) hn (by omega) fun h' tk acc c' kp e hi=>?_;have hz:(b - a).toNat<=sizeLine:=Nat.le_trans h5 (by decide);refine⟨.ref s.heap.objs.size,_,I.laid kp (Nat.le_refl _) (show ObjOk X.prog X.w _ h' _ (.lst (Kt a (b - a).toNat)) from ⟨by rw[GQ];exact hz,acc.toList,c',?_,by simpa using e⟩),rfl,q _ I.fresh⟩;obtain⟨hs,hv⟩:=hi
 have key:∀(n:Nat) (l:List Value) (lo:Int),l.length=n->(∀(j:Nat) (v:Value),l[j]?=some v->∃ t,v=Value.int (lo+(j:Int)) t)->Vals ((List.range n).map fun(i:Nat)=>V.int (lo+(i:Int))) l:=by
  intro n
  induction n with
  | zero=>intro l lo hl _;cases l with | nil=>exact .nil | cons _ _=>simp at hl
  | succ n ih=>
    intro l lo hl hv;cases l with
    | nil=>simp at hl
    | cons x r=>
      rw[List.range_succ_eq_map,List.map_cons,List.map_map];refine .cons ?_ ?_
      ·obtain⟨t,e⟩:=hv 0 x (by simp);exact⟨t,e⟩
      ·have:=ih r (lo+1) (by simpa using hl) fun j v hj=>by
        obtain⟨t,e⟩:=hv (j+1) v (by simpa using hj);refine⟨t,?_⟩;rw[e]
        congr 1
        omega
       have e2:((fun(i:Nat)=>V.int (lo+(i:Int)))∘Nat.succ)=fun(i:Nat)=>V.int (lo+1+(i:Int)):=by
        funext i
        show V.int (lo+((i+1:Nat):Int))=V.int (lo+1+(i:Int))
        congr 1
        omega
       rw[e2];exact this
 refine key _ _ a (by simpa using hs) fun j v hj=>?_;obtain⟨t,e⟩:=hv j v (by simpa using hj);exact⟨t,by rw[e];congr 1;omega⟩
end
end L2
set_option maxHeartbeats 1000000
namespace Rf
open PySem L2
inductive TyN where
 | int | bool | str | list | tuple | none
 deriving DecidableEq
def TyN.nm:TyN->String
 | .int=>"int" | .bool=>"bool" | .str=>"str" | .list=>"list" | .tuple=>"tuple" | .none=>"NoneType"
inductive SV where
 | non | bl (b:Bool) | int (i:Int) | str (x:Str) | tup (xs:List SV) | loc (k:Nat) | ro (xs:List SV) | ty (t:TyN)
inductive SO where
 | lst (xs:List SV)
 /-- a set of ints -/
 | iset (ms:List Int)
 /-- a dict with int keys;one that is held fast (walked) -/
 | dct (kvs:List (Int×SV)) | dcf (o:Obj) (ks:List (Key×V)) (kvs:List (Int×SV))
abbrev Sto:=List SO
abbrev EnvS:=List (Option SV)
def FzL(K:PySem.W.Frag)(H:Hp)(a:Addr)(vs:List V):Prop:=(∃ o,H a=some (.frz o (.lst vs)))\/
 ∃(o:Obj) (its:Array Value) (n:Nat),K.lookup a=some o/\o.cls = .type "list"/\o.dict=none/\o.data = .seq its n/\its.size<=sizeLine/\Vals vs its.toList
theorem FzL.sq{K:PySem.W.Frag}{H:Hp}{a:Addr}{vs:List V}(h:FzL K H a vs):SqL K H a vs:=h.imp (fun⟨o,e⟩ => .inr ⟨o,e⟩) id
mutual
def Rl(K:PySem.W.Frag)(as:List Addr)(H:Hp):V->SV->Prop
 | v,.non=>v = .non
 | v,.bl b=>v = .bl b
 | v,.int i=>v = .int i
 | v,.str x=>v = .str x
 | v,.tup xs=>∃ p vs,v = .ref p/\H p=some (.tup vs)/\RlAll K as H vs xs
 | v,.loc k=>∃ a,as[k]?=some a/\v = .ref a
 | v,.ro xs=>∃ a vs,v = .ref a/\FzL K H a vs/\RlAll K as H vs xs
 | v,.ty t=>v = .ty t.nm
def RlAll(K:PySem.W.Frag)(as:List Addr)(H:Hp):List V->List SV->Prop
 | vs,[]=>vs=[]
 | vs,x::xs=>∃ v r,vs=v::r/\Rl K as H v x/\RlAll K as H r xs
end
def imm:HO->Bool
 | .tup _=>true
 | .frz _ (.lst _)=>true
 | _=>false
def KeepU(H H':Hp):Prop:=∀ b o,H b=some o->imm o=true->H' b=some o
theorem KeepU.refl(H:Hp):KeepU H H:=fun _ _ h _=>h
theorem KeepU.trans{H H' H'':Hp}(a:KeepU H H')(b:KeepU H' H''):KeepU H H'':=fun x o h i=>b x o (a x o h i) i
theorem BB{H:Hp}{p:Addr}{o:HO}(hp:H p=none):KeepU H (upd H p o):=fun b u h _=>by
 rw[upd_ne (e8 h hp)];exact h
theorem Am{H:Hp}{a:Addr}{u o:HO}(h:H a=some u)(i:imm u=false):KeepU H (upd H a o):=fun b v hb iv=>by
 rw[upd_ne (RS hb h (by intro z;rw[z,i]at iv;cases iv))];exact hb
theorem FzL.mono{K:PySem.W.Frag}{H H':Hp}{a:Addr}{vs:List V}(k:KeepU H H')(h:FzL K H a vs):FzL K H' a vs:=h.imp (fun⟨o,e⟩=>⟨o,k _ _ e rfl⟩) id
theorem Pq{α:Type}{as as':List α}(h:as <+: as'){k:Nat}{a:α}(e:as[k]?=some a):as'[k]?=some a:=by
 obtain⟨t,rfl⟩:=h;rw[List.getElem?_append_left ((gM e).1)];exact e
mutual
theorem Rl.mono{K:PySem.W.Frag}{as as':List Addr}{H H':Hp}(ha:as <+: as')(hH:KeepU H H'):∀(x:SV) (v:V),Rl K as H v x->Rl K as' H' v x
 | .non,v,h=>by unfold Rl at h ⊢;exact h
 | .bl _,v,h=>by unfold Rl at h ⊢;exact h
 | .int _,v,h=>by unfold Rl at h ⊢;exact h
 | .str _,v,h=>by unfold Rl at h ⊢;exact h
 | .tup xs,v,h=>by
   unfold Rl at h ⊢;obtain⟨p,vs,e,hp,h⟩:=h;exact⟨p,vs,e,hH p _ hp rfl,RlAll.mono ha hH xs vs h⟩
 | .ro xs,v,h=>by
   unfold Rl at h ⊢;obtain⟨p,vs,e,hp,h⟩:=h;exact⟨p,vs,e,hp.mono hH,RlAll.mono ha hH xs vs h⟩
 | .ty _,v,h=>by unfold Rl at h ⊢;exact h
 | .loc k,v,h=>by
   unfold Rl at h ⊢;obtain⟨a,e,z⟩:=h;exact⟨a,Pq ha e,z⟩
theorem RlAll.mono{K:PySem.W.Frag}{as as':List Addr}{H H':Hp}(ha:as <+: as')(hH:KeepU H H'):∀(xs:List SV) (vs:List V),RlAll K as H vs xs->RlAll K as' H' vs xs
 | [],vs,h=>by unfold RlAll at h ⊢;exact h
 | x::xs,vs,h=>by
   unfold RlAll at h ⊢;obtain⟨v,r,e,h1,h2⟩:=h;exact⟨v,r,e,Rl.mono ha hH x v h1,RlAll.mono ha hH xs r h2⟩
end
section
variable{K:PySem.W.Frag}{as:List Addr}{H:Hp}
theorem rl_non{v:V}:Rl K as H v .non↔v = .non:=by unfold Rl;exact Iff.rfl
theorem rl_bl{v:V}{b:Bool}:Rl K as H v (.bl b)↔v = .bl b:=by unfold Rl;exact Iff.rfl
theorem rl_int{v:V}{i:Int}:Rl K as H v (.int i)↔v = .int i:=by unfold Rl;exact Iff.rfl
theorem rl_str{v:V}{x:Str}:Rl K as H v (.str x)↔v = .str x:=by unfold Rl;exact Iff.rfl
theorem rl_tup{v:V}{xs:List SV}:Rl K as H v (.tup xs)↔∃ p vs,v = .ref p/\H p=some (.tup vs)/\RlAll K as H vs xs:=by rw[Rl]
theorem rl_loc{v:V}{k:Nat}:Rl K as H v (.loc k)↔∃ a,as[k]?=some a/\v = .ref a:=by unfold Rl;exact Iff.rfl
theorem rl_ro{v:V}{xs:List SV}:Rl K as H v (.ro xs)↔∃ a vs,v = .ref a/\FzL K H a vs/\RlAll K as H vs xs:=by rw[Rl]
theorem rl_ty{v:V}{n:TyN}:Rl K as H v (.ty n)↔v = .ty n.nm:=by unfold Rl;exact Iff.rfl
theorem rla_nil{vs:List V}:RlAll K as H vs []↔vs=[]:=by unfold RlAll;exact Iff.rfl
theorem rla_cons{vs:List V}{x:SV}{xs:List SV}:RlAll K as H vs (x::xs)↔∃ v r,vs=v::r/\Rl K as H v x/\RlAll K as H r xs:=by rw[RlAll]
theorem RlAll.nil:RlAll K as H [] []:=rla_nil.mpr rfl
theorem RlAll.cons{v:V}{x:SV}{vs:List V}{xs:List SV}(h:Rl K as H v x)(t:RlAll K as H vs xs):RlAll K as H (v::vs) (x::xs):=rla_cons.mpr ⟨v,vs,rfl,h,t⟩
theorem RlAll.length:∀{xs:List SV} {vs:List V},RlAll K as H vs xs->vs.length=xs.length
 | [],_,h=>by rw[rla_nil.mp h];rfl
 | x::xs,_,h=>by
   obtain⟨v,r,rfl,_,t⟩:=rla_cons.mp h;simp[t.length]
theorem RlAll.get:∀{xs:List SV} {vs:List V} {i:Nat} {x:SV},RlAll K as H vs xs->xs[i]?=some x->∃ v,vs[i]?=some v/\Rl K as H v x
 | [],_,i,_,_,e=>by simp at e
 | y::xs,_,0,_,h,e=>by
   obtain⟨v,r,rfl,a,_⟩:=rla_cons.mp h;simp at e;subst e;exact⟨v,rfl,a⟩
 | y::xs,_,i+1,_,h,e=>by
   obtain⟨v,r,rfl,_,t⟩:=rla_cons.mp h;simpa using t.get (by simpa using e)
theorem RlAll.append:∀{xs ys:List SV} {vs us:List V},RlAll K as H vs xs->RlAll K as H us ys->RlAll K as H (vs++us) (xs++ys)
 | [],_,_,_,h,h'=>by rw[rla_nil.mp h];exact h'
 | x::xs,_,_,_,h,h'=>by
   obtain⟨v,r,rfl,a,t⟩:=rla_cons.mp h;exact .cons a (t.append h')
theorem RlAll.take:∀{xs:List SV} {vs:List V} (n:Nat),RlAll K as H vs xs->RlAll K as H (vs.take n) (xs.take n)
 | _,_,0,_=>by simpa using RlAll.nil
 | [],_,n+1,h=>by rw[rla_nil.mp h];exact .nil
 | x::xs,_,n+1,h=>by
   obtain⟨v,r,rfl,a,t⟩:=rla_cons.mp h;exact .cons a (t.take n)
theorem RlAll.drop:∀{xs:List SV} {vs:List V} (n:Nat),RlAll K as H vs xs->RlAll K as H (vs.drop n) (xs.drop n)
 | _,_,0,h=>h
 | [],_,n+1,h=>by rw[rla_nil.mp h];exact .nil
 | x::xs,_,n+1,h=>by
   obtain⟨v,r,rfl,a,t⟩:=rla_cons.mp h;exact t.drop n
theorem RlAll.set{x:SV}{v:V}(hx:Rl K as H v x):∀{xs:List SV} {vs:List V} (n:Nat),RlAll K as H vs xs->RlAll K as H (vs.set n v) (xs.set n x)
 | [],_,n,h=>by rw[rla_nil.mp h];exact .nil
 | y::xs,_,0,h=>by
   obtain⟨_,r,rfl,_,t⟩:=rla_cons.mp h;exact .cons hx t
 | y::xs,_,n+1,h=>by
   obtain⟨_,r,rfl,a,t⟩:=rla_cons.mp h;exact .cons a (t.set hx n)
theorem RlAll.rev:∀{xs:List SV} {vs:List V},RlAll K as H vs xs->RlAll K as H vs.reverse xs.reverse
 | [],_,h=>by rw[rla_nil.mp h];exact .nil
 | x::xs,_,h=>by
   obtain⟨v,r,rfl,a,t⟩:=rla_cons.mp h;rw[List.reverse_cons,List.reverse_cons];exact t.rev.append (.cons a .nil)
theorem RlAll.ins{x:SV}{v:V}(hx:Rl K as H v x){xs:List SV}{vs:List V}(h:RlAll K as H vs xs)(n:Nat):RlAll K as H (vs.take n++v::vs.drop n) (xs.take n++x::xs.drop n):=(h.take n).append (.cons hx (h.drop n))
theorem RlAll.ints{is:List Int}:RlAll K as H (is.map V.int) (is.map SV.int):=by
 induction is with
 | nil=>exact .nil
 | cons i is ih=>exact .cons (rl_int.mpr rfl) ih
end
def RlD(K:PySem.W.Frag)(as:List Addr)(H:Hp):List (Key×V)->List (Int×SV)->Prop
 | ks,[]=>ks=[]
 | ks,p::r=>∃ v t,ks=(.inl p.1,v)::t/\Rl K as H v p.2/\RlD K as H t r
theorem RlD.mono{K:PySem.W.Frag}{as as':List Addr}{H H':Hp}(ha:as <+: as')(hH:KeepU H H'):∀(kvs:List (Int×SV)) (ks:List (Key×V)),RlD K as H ks kvs->RlD K as' H' ks kvs
 | [],_,h=>h
 | p::r,_,⟨v,t,e,h1,h2⟩=>⟨v,t,e,Rl.mono ha hH p.2 v h1,RlD.mono ha hH r t h2⟩
def RlO(K:PySem.W.Frag)(as:List Addr)(H:Hp)(a:Addr):SO->Prop
 | .lst xs=>∃ vs,H a=some (.lst vs)/\RlAll K as H vs xs
 | .iset ms=>∃ F,H a=some (.set F ms.length)/\∀ k,F k=decide (k∈ms)
 | .dct kvs=>∃ ks,H a=some (.dK ks)/\RlD K as H ks kvs
 | .dcf o ks kvs=>H a=some (.frz o (.dK ks))/\RlD K as H ks kvs
structure Ok(K:PySem.W.Frag)(as:List Addr)(H:Hp)(S:Sto):Prop where
 len:as.length=S.length
 nd:as.Nodup
 obj:∀(k:Nat) (o:SO) (a:Addr),S[k]?=some o->as[k]?=some a->RlO K as H a o
def EnvOk(K:PySem.W.Frag)(as:List Addr)(H:Hp)(σ:St)(ρ:EnvS):Prop:=σ.length=ρ.length/\∀(i:Nat) (x:SV),ρ[i]?=some (some x)->∃ v,σ[i]?=some (some v)/\Rl K as H v x
theorem EnvOk.mono{K:PySem.W.Frag}{as as':List Addr}{H H':Hp}{σ:St}{ρ:EnvS}(h:EnvOk K as H σ ρ)(ha:as <+: as')(hH:KeepU H H'):EnvOk K as' H' σ ρ:=⟨h.1,fun i x e=>let ⟨v,a,b⟩:=h.2 i x e;⟨v,a,Rl.mono ha hH x v b⟩⟩
theorem EnvOk.set{K:PySem.W.Frag}{as:List Addr}{H:Hp}{σ:St}{ρ:EnvS}(h:EnvOk K as H σ ρ){i:Nat}{v:V}{x:SV}(hx:Rl K as H v x):EnvOk K as H (σ.set i (some v)) (ρ.set i (some x)):=⟨by rw[List.length_set,List.length_set];exact h.1,fun j y e=>by
 by_cases hij:i=j
 ·subst hij;have hi:i<ρ.length:=by have:=(gM e).1;rwa [List.length_set]at this
  rw[List.getElem?_set_self hi]at e;rw[List.getElem?_set_self (by rw[h.1];exact hi)];cases e;exact⟨v,rfl,hx⟩
 ·rw[List.getElem?_set_ne hij]at e ⊢;exact h.2 j y e⟩
section
variable{K:PySem.W.Frag}{as:List Addr}{H:Hp}{S:Sto}
theorem RlO.mono{as':List Addr}{H':Hp}{a:Addr}(ha:as <+: as')(hH:KeepU H H')(e:∀ u,H a=some u->H' a=some u):∀{o:SO},RlO K as H a o->RlO K as' H' a o
 | .lst xs,⟨vs,h1,h2⟩=>⟨vs,e _ h1,RlAll.mono ha hH xs vs h2⟩
 | .iset ms,⟨F,h1,h2⟩=>⟨F,e _ h1,h2⟩
 | .dct kvs,⟨ks,h1,h2⟩=>⟨ks,e _ h1,RlD.mono ha hH kvs ks h2⟩
 | .dcf _ ks kvs,⟨h1,h2⟩=>⟨e _ h1,RlD.mono ha hH kvs ks h2⟩
theorem RlO.some{a:Addr}:∀{o:SO},RlO K as H a o->∃ u,H a=some u/\imm u=false
 | .lst _,⟨_,h,_⟩=>⟨_,h,rfl⟩
 | .iset _,⟨_,h,_⟩=>⟨_,h,rfl⟩
 | .dct _,⟨_,h,_⟩=>⟨_,h,rfl⟩
 | .dcf _ _ _,⟨h,_⟩=>⟨_,h,rfl⟩
theorem Ok.of(h:Ok K as H S){k:Nat}{a:Addr}(e:as[k]?=some a):∃ o,S[k]?=some o/\RlO K as H a o:=by
 have hk:k<S.length:=by rw[<-h.len];exact(gM e).1
 exact⟨S[k],List.getElem?_eq_getElem hk,h.obj k _ a (List.getElem?_eq_getElem hk) e⟩
theorem Ok.new(h:Ok K as H S){p:Addr}{o:HO}(hp:H p=none):Ok K as (upd H p o) S:=⟨h.len,h.nd,fun k u a e ea=>by
 have r:=h.obj k u a e ea;obtain⟨z,hz,_⟩:=r.some;exact r.mono (List.prefix_refl as) (BB hp) fun vs hv=>by rw[upd_ne (e8 hz hp)];exact hv⟩
theorem Ok.free(h:Ok K as H S){p:Addr}(hp:H p=none):p∉as:=fun hm=>by
 obtain⟨k,hk⟩:=List.getElem?_of_mem hm;obtain⟨o,_,r⟩:=h.of hk;obtain⟨z,hz,_⟩:=r.some;rw[hp]at hz;cases hz
theorem Ok.pushO(h:Ok K as H S){p:Addr}(hp:H p=none){u:HO}{x:SO}(r:RlO K (as++[p]) (upd H p u) p x):Ok K (as++[p]) (upd H p u) (S++[x]):=by
 have pre:as <+: as++[p]:=List.prefix_append _ _;refine⟨by rw[List.length_append,List.length_append,h.len];rfl,?_,fun k o a e ea=>?_⟩
 ·rw[List.nodup_append];refine⟨h.nd,by simp,fun a ha b hb=>?_⟩;rw[List.mem_singleton.mp hb];intro z;subst z;exact h.free hp ha
 ·by_cases hk:k<S.length
  ·rw[List.getElem?_append_left hk]at e;rw[List.getElem?_append_left (by rw[h.len];exact hk)]at ea;exact((h.new (o:=u) hp).obj k o a e ea).mono pre (KeepU.refl _) fun _ z=>z
  ·have hk':k=S.length:=by
    have:=(gM e).1;rw[List.length_append,List.length_singleton]at this;omega
   subst hk';rw[List.getElem?_concat_length]at e;rw[<-h.len,List.getElem?_concat_length]at ea;cases e;cases ea;exact r
theorem Ok.push(h:Ok K as H S){p:Addr}(hp:H p=none){vs:List V}{xs:List SV}(r:RlAll K as H vs xs):Ok K (as++[p]) (upd H p (.lst vs)) (S++[.lst xs]):=h.pushO hp ⟨vs,f7,RlAll.mono (List.prefix_append _ _) (BB hp) xs vs r⟩
theorem Ok.writeO(h:Ok K as H S){k:Nat}{a:Addr}{y x:SO}{u:HO}(e:S[k]?=some y)(ea:as[k]?=some a)(r:KeepU H (upd H a u)->RlO K as (upd H a u) a x):Ok K as (upd H a u) (S.set k x)/\KeepU H (upd H a u):=by
 obtain⟨z,h1,iz⟩:=(h.obj k _ a e ea).some;have ku:KeepU H (upd H a u):=Am h1 iz;refine⟨⟨by rw[List.length_set];exact h.len,h.nd,fun j o b eo eb=>?_⟩,ku⟩;by_cases hj:k=j
 ·subst hj;rw[List.getElem?_set_self ((gM e).1)]at eo;rw[ea]at eb;cases eo;cases eb;exact r ku
 ·rw[List.getElem?_set_ne hj]at eo
  have hab:b≠a:=fun z=>by
   subst z;exact hj ((List.getElem?_inj ((gM ea).1) h.nd).mp (ea.trans eb.symm))
  exact(h.obj j o b eo eb).mono (List.prefix_refl as) ku fun ws hw=>by rw[upd_ne hab];exact hw
theorem Ok.write(h:Ok K as H S){k:Nat}{a:Addr}{ys xs:List SV}{vs:List V}(e:S[k]?=some (.lst ys))(ea:as[k]?=some a)(r:RlAll K as H vs xs):Ok K as (upd H a (.lst vs)) (S.set k (.lst xs))/\KeepU H (upd H a (.lst vs)):=h.writeO e ea fun ku=>⟨vs,f7,RlAll.mono (List.prefix_refl as) ku xs vs r⟩
end
structure Go(as:List Addr)(H:Hp)(as':List Addr)(H':Hp):Prop where
 pre:as <+: as'
 keep:∀ b o,H b=some o->b∉as->H' b=some o/\b∉as'
theorem Go.refl(as:List Addr)(H:Hp):Go as H as H:=⟨List.prefix_refl _,fun _ _ h n=>⟨h,n⟩⟩
theorem Go.trans{as as1 as2:List Addr}{H H1 H2:Hp}(a:Go as H as1 H1)(b:Go as1 H1 as2 H2):Go as H as2 H2:=⟨a.pre.trans b.pre,fun x o h n=>let ⟨h1,n1⟩:=a.keep x o h n;b.keep x o h1 n1⟩
theorem Go.new{as:List Addr}{H:Hp}{p:Addr}{o:HO}(hp:H p=none):Go as H as (upd H p o):=⟨List.prefix_refl _,fun b u h n=>⟨by rw[upd_ne (e8 h hp)];exact h,n⟩⟩
theorem Go.push{as:List Addr}{H:Hp}{p:Addr}{o:HO}(hp:H p=none):Go as H (as++[p]) (upd H p o):=⟨List.prefix_append _ _,fun b u h n=>⟨by rw[upd_ne (e8 h hp)];exact h,by
 rw[List.mem_append,List.mem_singleton];rintro(z | z)
 ·exact n z
 ·exact e8 h hp z⟩⟩
theorem Go.write{as:List Addr}{H:Hp}{a:Addr}{o:HO}(ha:a∈as):Go as H as (upd H a o):=⟨List.prefix_refl _,fun b u h n=>⟨by rw[upd_ne (fun z=>n (by rw[z];exact ha))];exact h,n⟩⟩
section
variable{K:PySem.W.Frag}{as as':List Addr}{H H':Hp}{S:Sto}
theorem Ok.away(h:Ok K as H S){b:Addr}{o:HO}(e:H b=some o)(i:imm o=true):b∉as:=fun hm=>by
 obtain⟨k,hk⟩:=List.getElem?_of_mem hm;obtain⟨_,_,r⟩:=h.of hk;obtain⟨z,hz,iz⟩:=r.some;rw[e]at hz;cases hz;rw[i]at iz;cases iz
theorem Go.ku(g:Go as H as' H')(ok:Ok K as H S):KeepU H H':=fun b o h i=>(g.keep b o h (ok.away h i)).1
theorem Ok.other(h:Ok K as H S){b:Addr}{vs us:List V}(hb:H b=some (.lst vs))(n:b∉as):Ok K as (upd H b (.lst us)) S:=⟨h.len,h.nd,fun k o a e ea=>(h.obj k o a e ea).mono (List.prefix_refl as) (Am hb rfl) fun ws hw=>by
 rw[upd_ne (fun z=>n (by rw[<-z];exact List.mem_of_getElem? ea))];exact hw⟩
end
end Rf
namespace L2
open PySem PySem.Spec PyProof.Rows
def srt(ns:List Int):List Int:=ns.mergeSort (fun a b=>decide (a<=b))
theorem Bm(ns:List Int):(srt ns).Perm ns:=List.mergeSort_perm _ _
theorem Mu(ns:List Int):(srt ns).Pairwise (·<=·):=by
 have h:=List.pairwise_mergeSort (le:=fun(a b:Int)=>decide (a<=b)) (fun a b c h1 h2=>by simp only[decide_eq_true_eq]at *;omega) (fun a b=>by simp only[Bool.or_eq_true,decide_eq_true_eq];omega) ns;exact h.imp fun h=>of_decide_eq_true h
theorem TJ{ns ns':List Int}(hp:ns'.Perm ns)(hs:ns'.Pairwise (·<=·)):ns'=srt ns:=
 List.Perm.eq_of_pairwise (fun _ _ _ _ a b=>Int.le_antisymm a b) hs (Mu ns) (hp.trans (Bm ns).symm)
theorem Et:∀{ns:List Int} {us:List Value},IntsAre us ns->Vals (ns.map V.int) us
 | _,_,.nil => .nil
 | _,_,.cons _ _ t => .cons ⟨_,rfl⟩ (Et t)
theorem Mv:bootBuiltins "sorted"=some (.builtin "sorted"):=by decide +kernel
open PySem PySem.Spec PyProof.Rows
section
variable{κ:Type}[DecidableEq κ]
def Bn(kvs:List (κ×V))(k:κ):Option V:=(kvs.find? fun kv=>decide (kv.1=k)).map (·.2)
def BC(kvs:List (κ×V))(k:κ)(v:V):List (κ×V):=
 if (kvs.any fun kv=>decide (kv.1=k))=true then kvs.map (fun kv=>if kv.1=k then (kv.1,v) else kv) else kvs++[(k,v)]
theorem Dv{p:κ×V}{r:List (κ×V)}{k:κ}(e:p.1=k):Bn (p::r) k=some p.2:=by simp[Bn,List.find?_cons,e]
theorem Dw{p:κ×V}{r:List (κ×V)}{k:κ}(e:¬ p.1=k):Bn (p::r) k=Bn r k:=by simp[Bn,List.find?_cons,e]
theorem GR(k:κ):∀ kvs:List (κ×V),(kvs.any fun kv=>decide (kv.1=k))=(Bn kvs k).isSome
 | []=>rfl
 | p::r=>by
   rw[List.any_cons];by_cases e:p.1=k
   ·simp only[Dv e,decide_eq_true e,Bool.true_or,Option.isSome_some]
   ·rw[Dw e,decide_eq_false e,Bool.false_or];exact GR k r
theorem Bo(kvs:List (κ×V))(k:κ)(v:V):(BC kvs k v).length<=kvs.length+1:=by
 unfold BC;split
 ·rw[List.length_map];omega
 ·rw[List.length_append,List.length_cons,List.length_nil];omega
theorem RelO.isSome_eq{o:Option V}{u:Option Value}(r:RelO o u):o.isSome=u.isSome:=by
 cases o with
 | none=>cases u with
   | none=>rfl
   | some _=>exact(show False from r).elim
 | some _=>cases u with
   | none=>exact(show False from r).elim
   | some _=>rfl
theorem KV.val{kvs:List (κ×V)}{vs:List (κ×Value)}(r:KV kvs vs)(k:κ):RelO (Bn kvs k) (valueAt vs k):=by
 unfold KV at r
 induction r with
 | nil=>exact True.intro
 | @cons p q ps qs h t ih=>
   obtain⟨h1,h2⟩:=h;by_cases e:p.1=k
   ·have e':q.1=k:=h1.symm.trans e;have b:valueAt (q::qs) k=some q.2:=by simp[valueAt,List.find?_cons,e']
    rw[Dv e,b];exact h2
   ·have e':¬ q.1=k:=fun z=>e (h1.trans z);have b:valueAt (q::qs) k=valueAt qs k:=by simp[valueAt,List.find?_cons,e']
    rw[Dw e,b];exact ih
theorem KV.any{kvs:List (κ×V)}{vs:List (κ×Value)}(r:KV kvs vs)(k:κ):(kvs.any fun kv=>decide (kv.1=k))=vs.any fun kv=>decide (kv.1=k):=by
 unfold KV at r
 induction r with
 | nil=>rfl
 | cons h t ih=>rw[List.any_cons,List.any_cons,ih,h.1]
theorem KV.repl{kvs:List (κ×V)}{vs:List (κ×Value)}(r:KV kvs vs)(k:κ){y:V}{u:Value}(ry:RelV y u):
 KV (kvs.map fun kv=>if kv.1=k then (kv.1,y) else kv) (vs.map fun kv=>if kv.1=k then (kv.1,u) else kv):=by
 unfold KV at r ⊢
 induction r with
 | nil=>exact .nil
 | @cons p q ps qs h t ih=>
   rw[List.map_cons,List.map_cons];refine .cons ?_ ih;obtain⟨h1,h2⟩:=h;by_cases e:p.1=k
   ·rw[if_pos e,if_pos (h1.symm.trans e)];exact⟨h1,ry⟩
   ·rw[if_neg e,if_neg (fun z=>e (h1.trans z))];exact⟨h1,h2⟩
theorem KV.put{kvs:List (κ×V)}{vs:List (κ×Value)}(r:KV kvs vs)(k:κ){y:V}{u:Value}(ry:RelV y u):KV (BC kvs k y) (stored vs k u):=by
 unfold BC stored;rw[r.any k];by_cases e:(vs.any fun kv=>decide (kv.1=k))=true
 ·rw[if_pos e,if_pos e];exact r.repl k ry
 ·rw[if_neg e,if_neg e];exact Paired.snoc r ⟨rfl,ry⟩
theorem KV.keys{kvs:List (κ×V)}{vs:List (κ×Value)}(r:KV kvs vs):kvs.map (·.1)=vs.map (·.1):=by
 unfold KV at r
 induction r with
 | nil=>rfl
 | cons h t ih=>rw[List.map_cons,List.map_cons,ih,h.1]
theorem KV.length{kvs:List (κ×V)}{vs:List (κ×Value)}(r:KV kvs vs):kvs.length=vs.length:=Paired.length r
end
theorem Eu{P:Program}{w:World}{k:Key}{u:Value}(r:RelV (kV k) u):(m4 P w).is k u=true:=by
 cases k with
 | inl i=>obtain⟨t,e⟩:=(show ∃ t,u=Value.int i t from r);subst e;exact GB P w i t
 | inr x=>obtain⟨t,e⟩:=(show ∃ t,u=Value.str x t from r);subst e;exact GC P w x t
theorem Ev{P:Program}{w:World}:∀{ks:List Key} {us:List Value},Vals (ks.map kV) us->ItemsAre (m4 P w) ks us
 | [],_,r=>by rw[List.map_nil]at r;cases r;exact .nil
 | k::ks,_,r=>by
   rw[List.map_cons]at r;cases r with
   | cons h t=>exact .cons (Eu h) (Ev t)
abbrev KT(H:Hp):List (List Key×V)->List (List Key×Addr×Value)->Prop:=Paired fun p q=>p.1=q.1/\H q.2.1=some (.tup (p.1.map kV))/\RelV p.2 q.2.2
theorem KT.val{H:Hp}{kvs:List (List Key×V)}{xs:List (List Key×Addr×Value)}(r:KT H kvs xs)(k:List Key):RelO (Bn kvs k) ((atKey xs k).map (·.2)):=by
 induction r with
 | nil=>exact True.intro
 | @cons p q ps qs h t ih=>
   obtain⟨h1,_,h2⟩:=h;by_cases e:p.1=k
   ·have e':q.1=k:=h1.symm.trans e;have b:atKey (q::qs) k=some q.2:=by simp[atKey,List.find?_cons,e']
    rw[Dv e,b];exact h2
   ·have e':¬ q.1=k:=fun z=>e (h1.trans z);have b:atKey (q::qs) k=atKey qs k:=by simp[atKey,List.find?_cons,e']
    rw[Dw e,b];exact ih
theorem KT.repl{H:Hp}{kvs:List (List Key×V)}{xs:List (List Key×Addr×Value)}(r:KT H kvs xs)(k:List Key){y:V}{u:Value}(ry:RelV y u):
 KT H (kvs.map fun kv=>if kv.1=k then (kv.1,y) else kv) (xs.map (putAt k u)):=by
 induction r with
 | nil=>exact .nil
 | @cons p q ps qs h t ih=>
   rw[List.map_cons,List.map_cons];refine .cons ?_ ih;obtain⟨h1,h2,h3⟩:=h;unfold putAt;by_cases e:p.1=k
   ·rw[if_pos e,if_pos (h1.symm.trans e)];exact⟨h1,h2,ry⟩
   ·rw[if_neg e,if_neg (fun z=>e (h1.trans z))];exact⟨h1,h2,h3⟩
theorem KT.put{H:Hp}{kvs:List (List Key×V)}{xs:List (List Key×Addr×Value)}(r:KT H kvs xs)(k:List Key){b:Addr}{y:V}{u:Value}(hb:H b=some (.tup (k.map kV)))(ry:RelV y u):
 KT H (BC kvs k y) (storedH xs k b u):=by
 have e:(kvs.any fun kv=>decide (kv.1=k))=(atKey xs k).isSome:=by
  rw[GR,(r.val k).isSome_eq,Option.isSome_map]
 unfold BC storedH;rw[e];by_cases q:(atKey xs k).isSome=true
 ·rw[if_pos q,if_pos q];exact r.repl k ry
 ·rw[if_neg q,if_neg q];exact Paired.snoc r ⟨rfl,hb,ry⟩
theorem KT.keeps{H H':Hp}{kvs:List (List Key×V)}{xs:List (List Key×Addr×Value)}(r:KT H kvs xs)(ht:∀ b ys,H b=some (.tup ys)->H' b=some (.tup ys)):KT H' kvs xs:=
 Paired.mapP r fun _ _ z=>⟨z.1,ht _ _ z.2.1,z.2.2⟩
section
variable{P:Program}{w:World}{H:Hp}{h:Heap}{a:Addr}
theorem Rg{u:HO}(ok:HOk P w H h)(e:Rd H a u):ObjOk P w H h a u:=e.ok ok
theorem GS{kvs:List (Key×V)}(ok:HOk P w H h)(e:Rd H a (.dK kvs)):kvs.length<=sizeLine/\(a == sysModules)=false/\∃ vs,KV kvs vs/\h.DictOf (m4 P w) a vs:=
 show ObjOk P w H h a (.dK kvs) from Rg ok e
theorem Rh{kvs:List (Key×V)}(ok:HOk P w H h)(e:H a=some (.dK kvs)):kvs.length<=sizeLine/\(a == sysModules)=false/\∃ vs,KV kvs vs/\h.DictOf (m4 P w) a vs:=GS ok (.inl e)
theorem Dx{ks:List Key}(ok:HOk P w H h)(e:H a=some (.tup (ks.map kV))):(tupleKind (m4 P w)).is h ks a:=by
 obtain⟨_,its,r,o,h1,h2,n,h3⟩:=(show ObjOk P w H h a (.tup (ks.map kV)) from ok a _ e)
 exact⟨o,its.toArray,n,h1,h2,h3,by simpa using Ev r⟩
theorem GT{kvs:List (List Key×V)}(ok:HOk P w H h)(e:Rd H a (.dT kvs)):kvs.length<=sizeLine/\(a == sysModules)=false/\
 ∃ xs,KT H kvs xs/\h.DictOfH (tupleKind (m4 P w)) a xs:=by
 obtain⟨z,y,xs,r,o,es,ep,h1,h2,h3,h4,h5⟩:=(show ObjOk P w H h a (.dT kvs) from Rg ok e)
 refine⟨z,y,xs,r,o,es,ep,h1,h2,h3,h4,fun x hx=>?_,h5⟩
 have all:∀{l:List (List Key×V)} {m:List (List Key×Addr×Value)},KT H l m->∀ x∈m,(tupleKind (m4 P w)).is h x.1 x.2.1:=by
  intro l m q
  induction q with
  | nil=>intro x hx;exact nomatch hx
  | @cons p q ps qs hq t ih=>
    intro x hx;rcases List.mem_cons.mp hx with e | hx
    ·subst e;exact Dx ok (by rw[<-hq.1];exact hq.2.1)
    ·exact ih x hx
 exact all r x hx
theorem V2{kvs:List (List Key×V)}(ok:HOk P w H h)(e:H a=some (.dT kvs)):kvs.length<=sizeLine/\(a == sysModules)=false/\
 ∃ xs,KT H kvs xs/\h.DictOfH (tupleKind (m4 P w)) a xs:=GT ok (.inl e)
end
def FR(H:Hp)(a:Addr)(y:V)(r:Option V):Prop:=
 (∃ kvs k,Rd H a (.dK kvs)/\y=kV k/\r=Bn kvs k)\/∃ kvs k b,Rd H a (.dT kvs)/\y = .ref b/\H b=some (.tup (k.map kV))/\r=Bn kvs k
def V3(H:Hp)(a:Addr)(y v:V)(H':Hp):Prop:=
 (∃ kvs k,H a=some (.dK kvs)/\y=kV k/\kvs.length<sizeLine/\H'=upd H a (.dK (BC kvs k v)))\/
 ∃ kvs k b,H a=some (.dT kvs)/\y = .ref b/\H b=some (.tup (k.map kV))/\kvs.length<sizeLine/\H'=upd H a (.dT (BC kvs k v))
section
variable{X:Cx}{pins:List (Addr×Obj)}{σ:St}{H:Hp}{s:Shared}{a:Addr}{y v:V}{u r:Value}{o:Option V}{A:Around}{E:Value->Shared->Prop}
theorem Inv.big(I:Inv X pins σ H s):sysModules<s.heap.objs.size:=by
 have h:mainGlobals<s.heap.objs.size:=(I.mod.glob.keeps I.bk).lt;exact Nat.lt_trans (by decide) h
theorem Ku{Q:Value->Shared->Prop}(hu:A.units+1<cLine)(I:Inv X pins σ H s)(g:FR H a y (some v))(ry:RelV y u)(h:∀ w' s',Inv X pins σ H s'->RelV v w'->Q w' s'):
 wpAny (model X.prog X.w) A (getItem (.ref a) u) Q E s:=by
 rcases g with⟨kvs,k,e,ey,l⟩ | ⟨kvs,k,b,e,ey,eb,l⟩
 ·subst ey;obtain⟨z,hd,vs,rel,dd⟩:=GS I.hok e;obtain⟨w',hw,rw'⟩:=RelO.some_of (v:=v) (o:=valueAt vs k) (by rw[l];exact rel.val k);exact wpAny_getItem_of (Eu ry) dd.mapOf hw (h w' _ (I.tok _) rw')
 ·subst ey;cases(show u=Value.ref b from ry);obtain⟨z,hd,xs,rel,dd⟩:=GT I.hok e;obtain⟨w',hw,rw'⟩:=RelO.some_of (v:=v) (o:=(atKey xs k).map (·.2)) (by rw[l];exact rel.val k);obtain⟨p,hp,hp2⟩:=Option.map_eq_some_iff.mp hw;refine wpAny_getItem_heap (tupleKind_room_in1 hu) (Dx I.hok eb) dd hp ?_;rw[hp2];exact h w' _ (I.tok _) rw'
theorem W0{Q:Value->Shared->Prop}(hu:A.units+1<cLine)(I:Inv X pins σ H s)(g:FR H a y o)(ry:RelV y u)(h:∀ s',Inv X pins σ H s'->Q (.bool o.isSome) s'):
 wpAny (model X.prog X.w) A (compareOp .In u (.ref a)) Q E s:=by
 rcases g with⟨kvs,k,e,ey,l⟩ | ⟨kvs,k,b,e,ey,eb,l⟩
 ·subst ey;obtain⟨z,hd,vs,rel,dd⟩:=GS I.hok e;refine wpAny_in_of (Eu ry) hd dd.mapOf ?_;rw[<-(rel.val k).isSome_eq,<-l];exact h _ (I.tok _)
 ·subst ey;cases(show u=Value.ref b from ry);obtain⟨z,hd,xs,rel,dd⟩:=GT I.hok e;refine wpAny_in_heap (tupleKind_room_in1 hu) (Dx I.hok eb) hd dd ?_;have q:=(rel.val k).isSome_eq;rw[Option.isSome_map]at q;rw[<-q,<-l];exact h _ (I.tok _)
theorem Pr{Q:Value->Shared->Prop}(hu:A.units+1<cLine)(I:Inv X pins σ H s)(g:FR H a y o)(ry:RelV y u)(h:∀ s',Inv X pins σ H s'->Q (.bool (!o.isSome)) s'):
 wpAny (model X.prog X.w) A (compareOp .NotIn u (.ref a)) Q E s:=by
 rcases g with⟨kvs,k,e,ey,l⟩ | ⟨kvs,k,b,e,ey,eb,l⟩
 ·subst ey;obtain⟨z,hd,vs,rel,dd⟩:=GS I.hok e;refine wpAny_notIn_of (Eu ry) hd dd.mapOf ?_;rw[<-(rel.val k).isSome_eq,<-l];exact h _ (I.tok _)
 ·subst ey;cases(show u=Value.ref b from ry);obtain⟨z,hd,xs,rel,dd⟩:=GT I.hok e;refine wpAny_notIn_heap (tupleKind_room_in1 hu) (Dx I.hok eb) hd dd ?_;have q:=(rel.val k).isSome_eq;rw[Option.isSome_map]at q;rw[<-q,<-l];exact h _ (I.tok _)
theorem FS{h':Heap}{t':Nat}{ob:HO}(I:Inv X pins σ H s)(mu:Mut (H a))(hs:Heap.SameBut a s.heap h')(he:∃ q,h'.get? a=some q)(new:ObjOk X.prog X.w (upd H a ob) h' a ob):
 Inv X pins σ (upd H a ob) {s with heap:=h',toks:=t'}:=
 I.write (x:=a) (e:=a) mu (.inl rfl) (fun b q hb z=>(hs.2 b hb).trans z) he new
theorem FT{P:Program}{w:World}{H':Hp}{h':Heap}{kvs:List (Key×V)}{vs:List (Key×Value)}(z:kvs.length<=sizeLine)(hd:(a == sysModules)=false)(rel:KV kvs vs)(dd:h'.DictOf (m4 P w) a vs):
 ObjOk P w H' h' a (.dK kvs):=⟨z,hd,vs,rel,dd⟩
theorem Kv{H':Hp}{Q:Unit->Shared->Prop}(hu:A.units+1<cLine)(I:Inv X pins σ H s)(g:V3 H a y v H')(ry:RelV y u)(rv:RelV v r)(h:∀ s',Inv X pins σ H' s'->Q () s'):
 wpAny (model X.prog X.w) A (setItem (.ref a) u r) Q E s:=by
 rcases g with⟨kvs,k,e,ey,l,eH⟩ | ⟨kvs,k,b,e,ey,eb,l,eH⟩
 ·subst ey eH;obtain⟨z,hd,vs,rel,dd⟩:=Rh I.hok e;have hz:vs.length<=sizeLine:=by rw[<-rel.length];exact z
  have hl:(BC kvs k v).length<=sizeLine:=by have:=Bo kvs k v;omega
  refine wpAny_setItem_pairs (hsz:=hz) (Eu ry) dd fun h' dd' hs=>h _ ?_;have he:∃ q,h'.get? a=some q:=let ⟨q,_,_,hq,_⟩:=dd';⟨q,hq⟩
  exact FS I (by rw[e];exact True.intro) hs he (FT hl hd (rel.put k rv) dd')
 ·subst ey eH;cases(show u=Value.ref b from ry);obtain⟨z,hd,xs,rel,dd⟩:=V2 I.hok e;have hz:xs.length<=sizeLine:=by rw[<-Paired.length rel];exact z
  have hl:(BC kvs k v).length<=sizeLine:=by have:=Bo kvs k v;omega
  refine wpAny_setItem_heap (hsz:=hz) (tupleKind_room_in1 hu) (Dx I.hok eb) dd fun h' dd' hs=>h _ ?_;obtain⟨q,es,ep,hq,h2,h3,h4,_,h5⟩:=dd';refine FS I (by rw[e];exact True.intro) hs ⟨q,hq⟩ ⟨hl,hd,_,(rel.put k eb rv).keeps fun c ys ec=>?_,q,es,ep,hq,h2,h3,h4,h5⟩;rw[upd_ne (RS ec e (fun z=>nomatch z))];exact ec
end
def V4(i:Expr):Prop:=∀ ov iv,subscripted i false ov iv=operate [ov,iv] (getItem ov iv)
theorem Ps{prog:Program}{w:World}{A:Around}{E:Value->Shared->Prop}{s:Shared}{env:Env}{value slice:Expr}{pos:Pos}{T id:String}{Q:Value->Shared->Prop}
 (hl:typeLookup (.type T) "__getitem__"=pure (some (.builtin id))) (hs:V4 slice)
 (h:wpAny (model prog w) A (eval value env) (fun o s₁=>wpAny (model prog w) A (eval slice env) (fun i s₂=>s₂.TypeIs o T/\wpAny (model prog w) A (getItem o i) Q E s₂) E s₁) E s):
 wpAny (model prog w) A (eval (.Subscript value slice pos) env) Q E s:=by
 refine Subscript_ (wpAny_mono h (fun o s₁ h₁=>wpAny_mono h₁ (fun i s₂ h₂=>?_) fun _ _ x=>x) fun _ _ x=>x);obtain⟨hT,h₂⟩:=h₂;unfold subscriptTail;refine wpAny_bind ?_;rw[getitemInPython_of_ne hT.not_modules];refine wpAny_bind (wpAny_specialOf hT hl ?_)
 have fin:wpAny (model prog w) A (subscripted slice false o i) (fun r s₃=>wpAny (model prog w) A (letTemporaryGo value o r >>= fun _=>pure r) Q E s₃) E s₂:=by
  rw[hs o i];exact wpAny_operating (wpAny_mono h₂ (fun r s₃ h₃=>wpAny_bind (wpAny_letTemporaryGo (wpAny_pure h₃))) fun _ _ x=>x)
 first
  | exact wpAny_pure (wpAny_bind fin)
  | exact wpAny_bind (wpAny_pure (wpAny_bind fin))
  | exact wpAny_bind fin
theorem GU{X:Cx}{pins:List (Addr×Obj)}{σ:St}{H:Hp}{s:Shared}{a:Addr}{y:V}{o:Option V}(I:Inv X pins σ H s)(g:FR H a y o):s.TypeIs (.ref a) "dict":=by
 rcases g with⟨kvs,k,e,_,_⟩ | ⟨kvs,k,b,e,_,_,_⟩
 ·obtain⟨_,_,vs,_,dd⟩:=GS I.hok e;exact dd.typeIs
 ·obtain⟨_,_,xs,_,dd⟩:=GT I.hok e;exact dd.typeIs
def V5(td ty:TE):TE:=fun σ H Q=>td σ H fun x H1=>ty σ H1 fun y H2=>∃ a v,x = .ref a/\FR H2 a y (some v)/\Q v H2
def W3(ty td:TE):TE:=fun σ H Q=>ty σ H fun y H1=>td σ H1 fun x H2=>∃ a o,x = .ref a/\FR H2 a y o/\Q (.bl o.isSome) H2
def Pt(ty td:TE):TE:=fun σ H Q=>ty σ H fun y H1=>td σ H1 fun x H2=>∃ a o,x = .ref a/\FR H2 a y o/\Q (.bl (!o.isSome)) H2
section
variable{X:Cx}{o i e value:Expr}{pos pos' tpos:Pos}{td ty tv:TE}
theorem Pu(hu:X.A.units+1<cLine)(ho:PE X o td)(hi:PE X i ty)(hs:V4 i):PE X (.Subscript o i pos) (V5 td ty):=by
 intro pins s σ H Q I h;refine Ps PySem.F.slot_dict_getitem.lookup hs (thn (ho pins s σ H _ I h) fun u s1 ⟨x,H1,I1,rx,q1⟩=>thn (hi pins s1 σ H1 _ I1 q1) fun iv s2 ⟨y,H2,I2,ry,a,v,ex,g,q2⟩=>?_);subst ex;obtain rfl:u=Value.ref a:=rx;exact⟨GU I2 g,Ku hu I2 g ry fun w' s3 I3 rw'=>⟨v,H2,I3,rw',q2⟩⟩
theorem Mw(hu:X.A.units+1<cLine)(hi:PE X i ty)(ho:PE X o td):PC X .In i o (W3 ty td):=by
 intro pins s σ H Q I h;refine thn (hi pins s σ H _ I h) fun iv s1 ⟨y,H1,I1,ry,q1⟩=>thn (ho pins s1 σ H1 _ I1 q1) fun u s2 ⟨x,H2,I2,rx,a,ov,ex,g,q2⟩=>?_;subst ex;obtain rfl:u=Value.ref a:=rx;exact W0 hu I2 g ry fun s3 I3=>⟨.bl ov.isSome,H2,I3,rfl,q2⟩
theorem Ey(hu:X.A.units+1<cLine)(hi:PE X i ty)(ho:PE X o td):PC X .NotIn i o (Pt ty td):=by
 intro pins s σ H Q I h;refine thn (hi pins s σ H _ I h) fun iv s1 ⟨y,H1,I1,ry,q1⟩=>thn (ho pins s1 σ H1 _ I1 q1) fun u s2 ⟨x,H2,I2,rx,a,ov,ex,g,q2⟩=>?_;subst ex;obtain rfl:u=Value.ref a:=rx;exact Pr hu I2 g ry fun s3 I3=>⟨.bl (!ov.isSome),H2,I3,rfl,q2⟩
end
open PySem PySem.Spec PyProof.Rows
mutual
def Dat(H:Hp):V->PyData->Prop
 | x,.none=>x = .non
 | x,.bool b=>x = .bl b
 | x,.int i=>x = .int i
 | x,.str s=>x = .str s
 | x,.list ds=>∃ a xs,x = .ref a/\H a=some (.lst xs)/\DatAll H xs ds
 | x,.tuple ds=>∃ a xs,x = .ref a/\H a=some (.tup xs)/\DatAll H xs ds
 | _,.dict _=>False
def DatAll(H:Hp):List V->List PyData->Prop
 | [],[]=>True
 | x::xs,d::ds=>Dat H x d/\DatAll H xs ds
 | [],_::_=>False
 | _::_,[]=>False
end
mutual
theorem Dat.mono{H H':Hp}(k:∀ b o,H b=some o->H' b=some o):∀(x:V) (d:PyData),Dat H x d->Dat H' x d
 | _,.none,h=>by unfold Dat at h ⊢;exact h
 | _,.bool _,h=>by unfold Dat at h ⊢;exact h
 | _,.int _,h=>by unfold Dat at h ⊢;exact h
 | _,.str _,h=>by unfold Dat at h ⊢;exact h
 | x,.list ds,h=>by
   unfold Dat at h ⊢;obtain⟨a,xs,e,h1,h2⟩:=h;exact⟨a,xs,e,k _ _ h1,DatAll.mono k xs ds h2⟩
 | x,.tuple ds,h=>by
   unfold Dat at h ⊢;obtain⟨a,xs,e,h1,h2⟩:=h;exact⟨a,xs,e,k _ _ h1,DatAll.mono k xs ds h2⟩
 | _,.dict _,h=>by unfold Dat at h;exact h.elim
theorem DatAll.mono{H H':Hp}(k:∀ b o,H b=some o->H' b=some o):∀(xs:List V) (ds:List PyData),DatAll H xs ds->DatAll H' xs ds
 | [],[],_=>by unfold DatAll;trivial
 | x::xs,d::ds,h=>by
   unfold DatAll at h ⊢;exact⟨Dat.mono k x d h.1,DatAll.mono k xs ds h.2⟩
 | [],_::_,h=>by unfold DatAll at h;exact h.elim
 | _::_,[],h=>by unfold DatAll at h;exact h.elim
end
section
variable{X:Cx}{a b:Expr}{ta:TE}{pos:Pos}
theorem Kw:OpR X (compareOp .IsNot) (fun x y H Q=>∃ c d,x = .bl c/\y = .bl d/\Q (.bl (c != d)) H):=by
 intro pins s σ H x y v u Q I rx ry h;obtain⟨c,d,rfl,rfl,q⟩:=h;cases rx;cases ry;exact isnot_bool ⟨.bl (c != d),H,I,rfl,q⟩
end
section
variable{prog:Program}{w:World}{A:Around}{E:Value->Shared->Prop}{s:Shared}
open HT in
theorem EZ{t sl:Addr}{items:Array Value}{vl vu:Value}{lo hi:Option Int}{Q:Value->Shared->Prop}(ht:IsTup s.heap t items)(hs:s.heap.IsSliceOf sl vl vu .none)(pl:IsPart vl lo)(pu:IsPart vu hi)
 (hw:sIx items.size 0 lo=0/\sIx items.size items.size hi=items.size) (h:Q (.ref t) s):wpAny (model prog w) A (getItem (.ref t) (.ref sl)) Q E s:=by
 obtain⟨os,hos,hcs,hds⟩:=id hs;have hTs:s.TypeIs (.ref sl) "slice":=⟨os,hos,hcs⟩
 unfold getItem
 try with_reducible refine wpAny_holding ?_
 first | refine wpAny_bind (wpAny_pure ?_) | skip
 refine wpAny_bind (wpAny_sequenceKey ht.typeIs (by decide) ?_)
 refine wpAny_bind (wpAny_callSpecial?_slot (name:=Str.ofString "__getitem__") ht.typeIs PyProof.Rows.slot_tuple_getitem
  (wpAny_call_entry PyProof.Rows.slot_tuple_getitem ht.typeIs entry_tuple_getitem ?_ (args_tuple_getitem _ _)))
 show wpAny _ _ (Builtin.Tuple.tupleItemsOf (.ref t) >>= _) _ _ s;refine wpAny_bind (tupleItemsOf_ ht ?_);refine wpAny_bind (wpAny_typeOf hTs ?_);rw[if_pos (by decide)];refine wpAny_bind (BA hs pl pu ?_)
 have hyes:(((sIx items.size 0 lo:Nat):Int) == 0&&(1:Int) == 1&&(sIx items.size items.size hi - sIx items.size 0 lo) == items.size)=true:=by
  rw[hw.1,hw.2];simp
 show wpAny _ _ (if (((sIx items.size 0 lo:Nat):Int) == 0&&(1:Int) == 1&&(sIx items.size items.size hi - sIx items.size 0 lo) == items.size)=true then _ else _) _ _ s;rw[if_pos hyes];unfold Builtin.Tuple.tupleIsExact;refine wpAny_bind (wpAny_bind (wpAny_typeOf ht.typeIs (wpAny_pure ?_)));rw[if_pos (by decide)];exact wpAny_bind (wpAny_rule (wpAny_pure ⟨_,rfl,wpAny_pure h⟩))
end
section
variable{X:Cx}
def V6(K:PySem.W.Frag):V->Option Int->Option Int->Hp->VK->Prop:=fun x lo hi H Q=>∃ a xs,x = .ref a/\SqT K H a xs/\(HT.sIx xs.length 0 lo=0/\HT.sIx xs.length xs.length hi=xs.length)/\Q (.ref a) H
theorem Pv:SlR X (V6 X.K):=by
 intro pins s σ H x v vl vu lo hi sl Q I rx hs pl pu h;obtain⟨a,xs,rfl,hx,hw,q⟩:=h;cases rx;obtain⟨its,r,ht,hz⟩:=I.tuple hx;have hlen:its.toArray.size=xs.length:=by rw[List.size_toArray];exact r.length.symm
 exact⟨"tuple",_,PyProof.Rows.slot_tuple_getitem.lookup,ht.typeIs,EZ ht hs pl pu (by rw[hlen];exact hw) ⟨.ref a,H,I,rfl,q⟩⟩
end
open PySem PySem.Spec PyProof.Rows
def Up(xs:Array Nat):Prop:=∀ i j (hi:i<xs.size) (hj:j<xs.size),i<j->xs[i]<xs[j]
theorem up_list{xs:Array Nat}:Up xs↔xs.toList.Pairwise (·<·):=by
 rw[List.pairwise_iff_getElem]
 exact⟨fun h i j hi hj hij=>by simpa using h i j (by simpa using hi) (by simpa using hj) hij,fun h i j hi hj hij=>by
  have:=h i j (by simpa using hi) (by simpa using hj) hij
  rwa [Array.getElem_toList,Array.getElem_toList]at this⟩
theorem Mx{xs:Array Nat}(hu:Up xs)(j:Nat):∀(f lo hi:Nat),hi<=xs.size->lo<=hi->hi - lo<=f->(∀ i (h:i<xs.size),i<lo->xs[i]<j)->(∀ i (h:i<xs.size),hi<=i->j<=xs[i])->
 (SetTable.below.go xs j f lo hi)<=xs.size/\(∀ i (h:i<xs.size),i<SetTable.below.go xs j f lo hi->xs[i]<j)/\(∀ i (h:i<xs.size),SetTable.below.go xs j f lo hi<=i->j<=xs[i]):=by
 intro f
 induction f with
 | zero=>
   intro lo hi h1 h2 h3 h4 h5;have:lo=hi:=by omega
   subst this;unfold SetTable.below.go;exact⟨h1,h4,h5⟩
 | succ f ih=>
   intro lo hi h1 h2 h3 h4 h5;unfold SetTable.below.go;by_cases hlh:lo<hi
   ·rw[if_pos hlh];have hm:(lo+hi) / 2<xs.size:=by omega
    have e:xs.getD ((lo+hi) / 2) j=xs[(lo+hi) / 2]:=by simp[Array.getD,hm]
    dsimp only;rw[e];by_cases hc:xs[(lo+hi) / 2]<j
    ·rw[if_pos hc];refine ih _ _ h1 (by omega) (by omega) (fun i h hi'=>?_) h5;by_cases z:i=(lo+hi) / 2
     ·subst z;exact hc
     ·exact Nat.lt_trans (hu i _ h hm (by omega)) hc
    ·rw[if_neg hc];refine ih _ _ (by omega) (by omega) (by omega) h4 (fun i h hi'=>?_);by_cases z:i=(lo+hi) / 2
     ·subst z;omega
     ·have:=hu _ i hm h (by omega);omega
   ·rw[if_neg hlh];have:lo=hi:=by omega
    subst this;exact⟨h1,h4,h5⟩
theorem GV{xs:Array Nat}(hu:Up xs)(j:Nat):SetTable.below xs j<=xs.size/\(∀ i (h:i<xs.size),i<SetTable.below xs j->xs[i]<j)/\(∀ i (h:i<xs.size),SetTable.below xs j<=i->j<=xs[i]):=
 Mx hu j xs.size 0 xs.size (Nat.le_refl _) (Nat.zero_le _) (by omega) (fun i _ h=>absurd h (Nat.not_lt_zero _)) (fun i h h'=>absurd h (Nat.not_lt.mpr h'))
theorem TK{xs:Array Nat}(hu:Up xs){j:Nat}(hn:xs[SetTable.below xs j]?≠some j):Up (SetTable.insertAt xs (SetTable.below xs j) j):=by
 obtain⟨h1,h2,h3⟩:=GV hu j;rw[up_list,SetTable.toList_insertAt];have hl:=up_list.mp hu
 have hgt:∀ i (h:i<xs.size),SetTable.below xs j<=i->j<xs[i]:=by
  intro i h hi;have:=h3 i h hi;by_cases z:SetTable.below xs j=i
  ·have:xs[i]≠j:=fun e=>hn (by rw[z];simp[h,e]);omega
  ·have a:=hu _ i (by omega) h (Nat.lt_of_le_of_ne hi z);have b:=h3 (SetTable.below xs j) (by omega) (Nat.le_refl _);omega
 rw[List.pairwise_append];refine⟨hl.take,?_,?_⟩
 ·rw[List.pairwise_cons];refine⟨fun y hy=>?_,hl.drop⟩;obtain⟨i,hi,e⟩:=List.mem_iff_getElem.mp hy;rw[List.getElem_drop]at e;have hi':SetTable.below xs j+i<xs.size:=by simp at hi;omega
  have:=hgt _ hi' (Nat.le_add_right _ _);rw[<-e];simpa using this
 ·intro x hx y hy;obtain⟨i,hi,e⟩:=List.mem_iff_getElem.mp hx;have hib:i<SetTable.below xs j:=by simp at hi;omega
  have hx':x<j:=by
   rw[<-e,List.getElem_take];have:=h2 i (by omega) hib;simpa using this
  rcases List.mem_cons.mp hy with rfl | hy
  ·exact hx'
  ·obtain⟨k,hk,e2⟩:=List.mem_iff_getElem.mp hy;rw[List.getElem_drop]at e2;have hk':SetTable.below xs j+k<xs.size:=by simp at hk;omega
   have:=hgt _ hk' (Nat.le_add_right _ _);have h:xs.toList[SetTable.below xs j+k]'(by simpa using hk')=xs[SetTable.below xs j+k]:=by simp
   rw[h]at e2;omega
structure Tab(w:World)(t:SetTable):Prop where
 up:Up t.place
 no:t.dummies=#[]
 led:t.led=!w.params.followText "set-order"
theorem My{w:World}{t:SetTable}(T:Tab w t)(j:Nat):t.slot j ≠ .dummy:=by
 unfold SetTable.slot;rw[T.no];dsimp only;split
 ·exact fun z=>nomatch z
 ·have:SetTable.has #[] j=false:=rfl;rw[this];exact fun z=>nomatch z
theorem TL{w:World}{t:SetTable}(T:Tab w t)(g:Nat->Int)(h:Int):∀(f:Nat) (p:SetTable.Probe) (j:Nat) (d:Option Nat),p.dummy=none->SetTable.probe.go t g h f p=some (.empty j d)->t.slot j = .empty/\d=none:=by
 intro f
 induction f with
 | zero=>intro p j d _ e;unfold SetTable.probe.go at e;cases e
 | succ f ih=>
   intro p j d hp e
   have adv:∀ q:SetTable.Probe,q.dummy=none->(t.advance q).dummy=none:=by
    intro q hq;unfold SetTable.advance;split
    ·exact hq
    ·exact hq
   unfold SetTable.probe.go at e;split at e
   ·rename_i hs;cases e;exact⟨hs,hp⟩
   ·rename_i hs;exact absurd hs (My T _)
   ·split at e
    ·cases e
    ·exact ih _ _ _ (adv _ hp) e
theorem Mz{w:World}{t:SetTable}(T:Tab w t){h:Int}{j:Nat}{b:Bool}(e:t.freeSlot h=some (j,b)):t.place[SetTable.below t.place j]?≠some j:=by
 unfold SetTable.freeSlot at e;split at e
 ·rename_i j' d hp;unfold SetTable.probe at hp;obtain⟨hs,hd⟩:=TL T _ _ _ _ _ _ rfl hp;subst hd;cases e;unfold SetTable.slot at hs;dsimp only[Option.getD_none]at hs ⊢;split at hs
  ·cases hs
  ·rename_i hn;intro z;exact hn (by rw[z];simp)
 ·cases e
theorem C5{w:World}{t:SetTable}(T:Tab w t)(n:Nat):Tab w (t.standIn n):=by
 refine⟨?_,rfl,T.led⟩;show Up (Array.range n);intro i j hi hj hij;simpa using hij
theorem TM{w:World}{t:SetTable}(T:Tab w t)(n:Nat):Tab w (t.orStandIn n):=by
 unfold SetTable.orStandIn;split
 ·exact T
 ·exact C5 T n
theorem Pw{w:World}{t:SetTable}(T:Tab w t)(es:Array (Int×Value))(h:Int)(x:Value):Tab w (layNew t es h x).2.1:=by
 unfold layNew;split
 ·rename_i j b e;refine TM (t:=(t.put j).1) ⟨TK T.up (Mz T e),?_,T.led⟩ _;show(if SetTable.has t.dummies j=true then _ else t.dummies)=#[];rw[T.no];rfl
 ·exact C5 T _
theorem Kx{w:World}{t:SetTable}(T:Tab w t)(es:Array (Int×Value))(n:Nat):Tab w (relayAll t es n).2.1:=by
 unfold relayAll;split
 ·rename_i t' order e;dsimp only;split
  ·unfold SetTable.relaid SetTable.laid at e;obtain⟨owner,_,e⟩:=Option.bind_eq_some_iff.mp e;have e':=oj e;have e1:=congrArg Prod.fst e';subst e1;refine⟨?_,rfl,T.led⟩;rw[up_list]
   have key:∀ l:List Nat,l.Pairwise (·<·)->((l.filterMap fun j=>(owner.getD j none).map (j,·)).map (·.1)).Pairwise (·<·):=by
    intro l hl
    have:(l.filterMap fun j=>(owner.getD j none).map (j,·)).map (·.1)=l.filter fun j=>(owner.getD j none).isSome:=by
     induction l with
     | nil=>rfl
     | cons a l ih=>
       have ih:=ih (List.pairwise_cons.mp hl).2;cases ho:owner.getD a none with
       | none=>rw[List.filterMap_cons_none (by rw[ho];rfl),List.filter_cons_of_neg (by rw[ho];simp),ih]
       | some b=>rw[List.filterMap_cons_some (b:=(a,b)) (by rw[ho];rfl),List.filter_cons_of_pos (by rw[ho];rfl),List.map_cons,ih]
    rw[this];exact hl.filter _
   simpa using key _ List.pairwise_lt_range
  ·exact C5 T _
 ·exact C5 T _
def SetX(prog:Program)(w:World)(h:Heap)(a:Addr)(L:List Int):Prop:=
 ∃ o es ep t,h.get? a=some o/\o.ExactSet/\o.data = .set es ep t/\ElemsOf (intKind prog w) es.toList/\es.size<scanBound/\t.fits es.size=true/\Tab w t/\(es.toList.map fun e=>numOf e.2).Perm L
section
variable{prog:Program}{w:World}{A:Around}{E:Value->Shared->Prop}{s:Shared}
theorem SetX.keep{h h':Heap}{a:Addr}{L:List Int}(x:SetX prog w h a L)(k:∀ o,h.get? a=some o->h'.get? a=some o):SetX prog w h' a L:=by
 obtain⟨o,es,ep,t,ho,r⟩:=x;exact⟨o,es,ep,t,k o ho,r⟩
theorem DS{k:Int}{v:Value}(h:(intKind prog w).is k v=true):numOf v=k:=by
 obtain⟨t,rfl⟩:=Value.isInt_shape (k:=k) (v:=v) h;rfl
theorem N0{h:Heap}{a:Addr}{o:Obj}{es es':Array (Int×Value)}{ep:Nat}{t t':SetTable}{L:List Int}(ho:h.get? a=some o)(hx:o.ExactSet)(hd:o.data = .set es ep t)
 (he:ElemsOf (intKind prog w) es'.toList) (hb:es'.size<scanBound) (hf:t'.fits es'.size=true) (hT:Tab w t') (hp:(es'.toList.map fun e=>numOf e.2).Perm L):
 (h.update a (Obj.putSet es' t')).get? a=some {o with data := .set es' (ep+1) t'}/\SetX prog w (h.update a (Obj.putSet es' t')) a L:=by
 have g:=Heap.get?_update_self (Obj.putSet es' t') ho (by rw[putSet_of es' t' hd];rfl);rw[putSet_of es' t' hd]at g;exact⟨g,_,es',ep+1,t',g,hx,rfl,he,hb,hf,hT,hp⟩
theorem Ri{g:Bool->Sem Unit}(hg:∀(b:Bool) (s₁:Shared) (Q':Unit->Shared->Prop),Q' () s₁->wpAny (model prog w) A (g b) Q' E s₁){a:Addr}{o:Obj}{es es1:Array (Int×Value)}{ep:Nat}{t t2:SetTable}{L:List Int}{dm:Bool}
 {R:Option Bool->Shared->Prop} (ho:s.heap.get? a=some o) (hx:o.ExactSet) (hd:o.data = .set es ep t) (he:ElemsOf (intKind prog w) es1.toList) (hb:es1.size<scanBound) (hf:t2.fits es1.size=true) (hT:Tab w t2) (hp:(es1.toList.map fun e=>numOf e.2).Perm L)
 (h:∀ h',Heap.SameBut a s.heap h'->SetX prog w h' a L->R (some true) {s with heap:=h'}):
 wpAny (model prog w) A (do
  storeSet a es1 t2
  if (!dm&&t2.tooFull)=true then do
      g (relayAll t2 es1 (SetTable.grown es1.size)).2.2
      storeSet a (relayAll t2 es1 (SetTable.grown es1.size)).1 (relayAll t2 es1 (SetTable.grown es1.size)).2.1
      pure (some true)
   else pure (some true)) R E s:=by
 obtain⟨g1,x1⟩:=N0 (prog:=prog) ho hx hd he hb hf hT hp;have b1:=Heap.SameBut.update s.heap a (Obj.putSet es1 t2);refine wpAny_bind (wpAny_storeSet_of ho hd ?_ (fits_of_scanBound hb));by_cases hc:(!dm&&t2.tooFull)=true
 ·rw[if_pos hc];have hpr:=relayAll_perm t2 es1 (SetTable.grown es1.size);have hfr:=relayAll_fits t2 es1 (SetTable.grown es1.size);have hTr:=Kx hT es1 (SetTable.grown es1.size)
  have hsz:(relayAll t2 es1 (SetTable.grown es1.size)).1.size<scanBound:=by
   rw[<-Array.length_toList,hpr.length_eq,Array.length_toList];exact hb
  obtain⟨_,x2⟩:=N0 (prog:=prog) g1 hx rfl (he.perm hpr) hsz hfr hTr ((hpr.map _).trans hp);exact wpAny_bind (hg _ _ _ (wpAny_bind (wpAny_storeSet_of g1 rfl (wpAny_pure (h _ (b1.trans (Heap.SameBut.update _ a _)) x2)) (fits_of_scanBound hsz))))
 ·rw[if_neg hc];exact wpAny_pure (h _ b1 x1)
theorem W5{a:Addr}{L:List Int}{k:Int}{tk:Tok}{Q:Bool->Shared->Prop}(hX:SetX prog w s.heap a L)(hroom:L.length+1<scanBound)
 (h:∀ h' b,Heap.SameBut a s.heap h'->SetX prog w h' a (step_dedup L k)->Q b {s with heap:=h'}):wpAny (model prog w) A (setAddHashed a (.int k tk) ((intKind prog w).hash k)) Q E s:=by
 obtain⟨o,es,ep,t,ho,hx,hd,hel,hb,hf,hT,hp⟩:=hX;have hkey:(intKind prog w).is k (.int k tk)=true:=intKind_is _ _ _ _;have hsz:es.size=L.length:=by rw[<-hp.length_eq,List.length_map,Array.length_toList]
 unfold setAddHashed setAddHashedIn;refine wpAny_holding (wpAny_bind (wpAny_setState_of ho hd hf ?_));dsimp only;rw[byScan_of (knd:=intKind prog w) rfl hb hel,if_pos rfl];unfold setAddByScan;refine wpAny_bind (wpAny_bind (wpAny_rule (wpAny_bind (wpAny_setScan_of hkey ho hd hf hel ?_))))
 have hin:(L.any (· == k))=true↔∃ e∈es.toList,(intKind prog w).is k e.2=true:=by
  rw[List.any_eq_true];constructor
  ·rintro⟨x,hxL,e⟩;obtain⟨y,hy,ey⟩:=List.mem_map.mp (hp.mem_iff.mpr hxL);obtain⟨⟨k',hk',_⟩,_⟩:=hel y hy;have:numOf y.2=k':=DS hk';have:k'=k:=by rw[<-this,ey];simpa using e
   subst this;exact⟨y,hy,hk'⟩
  ·rintro⟨y,hy,hk'⟩;refine⟨k,hp.mem_iff.mp (List.mem_map.mpr ⟨y,hy,DS hk'⟩),by simp⟩
 cases hr:List.findIdx? (fun e=>(intKind prog w).is k e.2) es.toList with
 | some j=>
   obtain⟨hj,hpj,_⟩:=List.findIdx?_eq_some_iff_getElem.mp hr;have hL:step_dedup L k=L:=by unfold step_dedup;rw[if_pos (hin.mpr ⟨_,List.getElem_mem hj,hpj⟩)]
   refine wpAny_pure (wpAny_pure ?_);exact h s.heap _ (Heap.SameBut.refl a s.heap) (by rw[hL];exact⟨o,es,ep,t,ho,hx,hd,hel,hb,hf,hT,hp⟩)
 | none=>
   have hL:step_dedup L k=L++[k]:=by
    unfold step_dedup;rw[if_neg];intro z;obtain⟨e,he,hk'⟩:=hin.mp z;have:=List.findIdx?_eq_none_iff.mp hr e he;rw[hk']at this;cases this
   have q1:=layNew_perm t es ((intKind prog w).hash k) (.int k tk);have q2:=layNew_fits t es ((intKind prog w).hash k) (.int k tk);have q3:=Pw hT es ((intKind prog w).hash k) (.int k tk);generalize layNew t es ((intKind prog w).hash k) (.int k tk)=lay at q1 q2 q3 ⊢;obtain⟨es1,t1,dm,gv⟩:=lay;dsimp only at q1 q2 q3 ⊢;rw[Array.toList_push]at q1;have he1:ElemsOf (intKind prog w) es1.toList:=(hel.push hkey rfl).perm q1
   have hz1:es1.size<scanBound:=by
    rw[<-Array.length_toList,q1.length_eq,List.length_append,Array.length_toList,hsz];simpa using hroom
   have hp1:(es1.toList.map fun e=>numOf e.2).Perm (step_dedup L k):=by
    rw[hL];refine(q1.map _).trans ?_;rw[List.map_append];exact hp.append_right _
   have hgw:∀(b:Bool) (s₁:Shared) (Q':Unit->Shared->Prop),Q' () s₁->wpAny (model prog w) A (match b with | true=>rule "set.scan.the-table-gave-way" | false=>pure ()) Q' E s₁:=
    fun b s₁ Q' hq=>by cases b<;>first | exact wpAny_pure hq | exact wpAny_rule hq
   refine wpAny_bind (hgw _ _ _ ?_);split
   ·refine wpAny_bind ?_;rw[hashByValue_scannable 8 rfl];refine wpAny_pure (Ri hgw ho hx hd he1 hz1 q2 q3 hp1 fun h' hsb hX'=>?_);exact wpAny_pure (h h' _ hsb hX')
   ·refine wpAny_bind (wpAny_pure ?_);rw[if_pos rfl];refine Ri hgw ho hx hd he1 hz1 q2 q3 hp1 fun h' hsb hX'=>?_;exact wpAny_pure (h h' _ hsb hX')
end
section
variable{prog:Program}{w:World}{A:Around}{E:Value->Shared->Prop}{s:Shared}
abbrev N1(w:World):Obj:={cls := .type "set",dict:=none,data := .set #[] 0 (.fresh 0 0 (!w.params.followText "set-order"))}
theorem TN(h:Heap):SetX prog w (h.push (N1 w)) h.objs.size []:=
 ⟨_,#[],0,_,Heap.get?_push_size _ rfl,⟨rfl,rfl,rfl⟩,rfl,fun e he=>by simp at he,by decide,rfl,⟨fun i j hi=>absurd hi (Nat.not_lt_zero _),rfl,rfl⟩,by simp⟩
end
open PySem PySem.Spec PyProof.Rows
namespace SiF
theorem slot_si_next:Slot "set_iterator" "__next__" "set_iterator.__next__":=
 .of (owner:="set_iterator") (n:="__next__") (by rw[typeLookup_type,builtinLookup_eq_fast];kernel_rfl) (by decide +kernel) (by decide +kernel) (by decide +kernel)
  (by first | exact .inl (by decide +kernel) | exact .inr (by decide +kernel)) (by rw[isSubtype_type];kernel_rfl)
theorem entry_si_next:entryFor table "set_iterator.__next__"=some Builtin.«set_iterator.__next__»:=entryFor_of_fast (by kernel_rfl)
theorem args_si_next(a:Value):argsOk "set_iterator.__next__" ⟨[a],[]⟩:=by unfold argsOk;kernel_rfl
theorem slot_si_iter:Slot "set_iterator" "__iter__" "set_iterator.__iter__":=
 .of (owner:="set_iterator") (n:="__iter__") (by rw[typeLookup_type,builtinLookup_eq_fast];kernel_rfl) (by decide +kernel) (by decide +kernel) (by decide +kernel)
  (by first | exact .inl (by decide +kernel) | exact .inr (by decide +kernel)) (by rw[isSubtype_type];kernel_rfl)
theorem entry_si_iter:entryFor table "set_iterator.__iter__"=some Builtin.«dict_keyiterator.__iter__»:=entryFor_alias (id':="dict_keyiterator.__iter__") (by kernel_rfl) rfl (by decide +kernel) (by kernel_rfl)
theorem args_si_iter(a:Value):argsOk "set_iterator.__iter__" ⟨[a],[]⟩:=by unfold argsOk;kernel_rfl
theorem entry_set_iter:entryFor table "set.__iter__"=some Builtin.«frozenset.__iter__»:=entryFor_alias (id':="frozenset.__iter__") (by kernel_rfl) rfl (by decide +kernel) (by kernel_rfl)
end SiF
theorem CW{α:Type}:∀{l:List α} {i:Nat} (h:i<l.length),(l[i]::l.eraseIdx i).Perm l
 | a::l,0,h => .rfl
 | a::l,i+1,h=>(List.Perm.swap a _ _).trans ((CW (l:=l) (i:=i) (by simpa using h)).cons a)
section
variable{prog:Program}{w:World}{A:Around}{E:Value->Shared->Prop}
theorem Px{src:Source}{n:Nat}(hn:n≠0){s:Shared}{Q:Nat->Shared->Prop}(h:∀ i d,i<n->Q i {s with drawn:=d}):wpAny (model prog w) A (choose src n) Q E s:=by
 intro Γ p hΓ;show Sem.wp _ _ (.choose src n .pure) _ _ _ _;rw[Sem.wp_choose];exact⟨hn,h _ _ (Nat.mod_lt _ (Nat.pos_of_ne_zero hn))⟩
theorem Rj{α:Type}:∀(n:Nat) (xs:List α) (s:Shared) (Q:List α->Shared->Prop),xs.length=n->(∀ ys d,ys.Perm xs->Q ys {s with drawn:=d})->wpAny (model prog w) A (drawOrder n xs) Q E s
 | 0,xs,s,Q,hl,h=>by
   unfold drawOrder;have:xs=[]:=List.eq_nil_of_length_eq_zero hl;subst this;exact wpAny_pure (h [] s.drawn .rfl)
 | n+1,[],s,Q,hl,h=>by cases hl
 | n+1,x::xs,s,Q,hl,h=>by
   unfold drawOrder;refine wpAny_bind (Px (by simp) fun i d hi=>?_);rw[List.getElem?_eq_getElem hi];dsimp only;refine wpAny_bind (Rj n _ _ _ (by rw[List.length_eraseIdx_of_lt hi];simp at hl ⊢;omega) fun ys d' hp=>wpAny_pure (h _ d' ?_));exact((hp.cons _)).trans (CW hi)
end
theorem Jd{α:Type}(f:Nat->Nat):∀(n k:Nat) (left:List α) (out:Array α),left.length=n->(pickOrder.go f n k left out).toList.Perm (out.toList++left)
 | 0,k,left,out,hl=>by
   have:left=[]:=List.eq_nil_of_length_eq_zero hl;subst this;unfold pickOrder.go;simp
 | n+1,k,left,out,hl=>by
   unfold pickOrder.go;have hi:f k % left.length<left.length:=Nat.mod_lt _ (by omega);rw[List.getElem?_eq_getElem hi];dsimp only;refine(Jd f n (k+1) _ _ (by rw[List.length_eraseIdx_of_lt hi];omega)).trans ?_;rw[Array.toList_push,List.append_assoc];exact List.Perm.append_left _ (CW hi)
theorem Ky{α:Type}(f:Nat->Nat)(xs:Array α):(pickOrder f xs).toList.Perm xs.toList:=by
 unfold pickOrder;simpa using Jd f xs.size 0 xs.toList #[] (by simp)
end L2
set_option maxHeartbeats 400000
namespace L2
open PySem PySem.Spec PyProof.Rows
def SetAt(w:World)(h:Heap)(a:Addr)(es:Array (Int×Value))(ep:Nat)(t:SetTable):Prop:=∃ o,h.get? a=some o/\o.cls = .type "set"/\o.data = .set es ep t/\t.fits es.size=true/\Tab w t
theorem SetAt.keep{w:World}{h h':Heap}{a:Addr}{es:Array (Int×Value)}{ep:Nat}{t:SetTable}(x:SetAt w h a es ep t)(k:∀ o,h.get? a=some o->h'.get? a=some o):SetAt w h' a es ep t:=let ⟨o,e,r⟩:=x;⟨o,k o e,r⟩
def slotAt(t:SetTable)(i:Nat):Nat:=if i=0 then 0 else t.place.getD (i - 1) 0+1
theorem IT{w:World}{t:SetTable}(T:Tab w t){i:Nat}(hi:i<=t.place.size):SetTable.below t.place (slotAt t i)=i:=by
 obtain⟨h1,h2,h3⟩:=GV T.up (slotAt t i);by_cases z:i=0
 ·subst z;have e:slotAt t 0=0:=rfl;rw[e]at h2 h1 ⊢;by_cases q:SetTable.below t.place 0=0
  ·exact q
  ·have:=h2 0 (by omega) (by omega);omega
 ·have e:slotAt t i=t.place[i - 1]'(by omega)+1:=by unfold slotAt;rw[if_neg z];simp[Array.getD,show i - 1<t.place.size by omega]
  rw[e]at h1 h2 h3 ⊢;rcases Nat.lt_trichotomy (SetTable.below t.place (t.place[i - 1]'(by omega)+1)) i with q | q | q
  ·have:=h3 (i - 1) (by omega) (by omega);omega
  ·exact q
  ·have hi2:i<t.place.size:=by omega
   have a:=h2 i hi2 q;have b:=T.up (i - 1) i (by omega) hi2 (by omega);omega
inductive Way(w:World)(h:Heap)(T0 S:Addr)(es:Array (Int×Value))(ep:Nat)(t:SetTable)(fs:List (Int×Value))(i:Nat):Value->Prop where
 | text (hw:w.params.followText "set-order"=true) (hf:fs=(pickOrder (w.params.setOrder S ep) es).toList):Way w h T0 S es ep t fs i (.int 0 0)
 | table (hw:w.params.followText "set-order"=false) (hd:(!t.plain&&decide (es.size>1))=false) (hf:fs=es.toList):Way w h T0 S es ep t fs i (.int (slotAt t i:Nat) 0)
 | drawn (hw:w.params.followText "set-order"=false) (pl:List Nat) (o:Obj) (n:Nat) (ho:h.get? T0=some o) (hd:o.data = .seq (pl.map fun k=>Value.int (k:Nat) 0).toArray n) (hl:pl.length=fs.length)
    (hf:∀(k:Nat) p,pl[k]?=some p->es[p]?=fs[k]?):Way w h T0 S es ep t fs i (.ref T0)
def Sit(w:World)(h:Heap)(T0 I S:Addr)(es:Array (Int×Value))(ep:Nat)(t:SetTable)(fs:List (Int×Value))(i:Nat):Prop:=
 ∃ o first,h.get? I=some o/\o.cls = .type "set_iterator"/\o.data = .fields #[first,.int (i:Nat) 0,.ref S,.int (es.size:Nat) 0,.int (ep:Nat) 0]/\Way w h T0 S es ep t fs i first
section
variable{prog:Program}{w:World}{A:Around}{E:Value->Shared->Prop}{s:Shared}{T0 I S:Addr}{es:Array (Int×Value)}{ep:Nat}{t:SetTable}{fs:List (Int×Value)}{i:Nat}
theorem Sit.typeIs(x:Sit w s.heap T0 I S es ep t fs i):s.TypeIs (.ref I) "set_iterator":=let ⟨o,_,e,c,_⟩:=x;⟨o,e,c⟩
theorem BD{b:Bool}(hw:w.params.followText "set-order"=b){Q:Bool->Shared->Prop}(h:Q b s):wpAny (model prog w) A setsByText Q E s:=by
 unfold setsByText;refine wpAny_bind (wpAny_askSetting (wpAny_pure ?_));show Q (w.params.followText "set-order") s;rw[hw];exact h
theorem Cj{sl:Nat}{Q:Option (Value×Nat)->Shared->Prop}(y:SetAt w s.heap S es ep t)(hw:w.params.followText "set-order"=true)(h:Q (((pickOrder (w.params.setOrder S ep) es)[i]?).map fun e=>(e.2,sl)) s):
 wpAny (model prog w) A (setNext S sl i ep) Q E s:=by
 obtain⟨oS,hoS,hcS,hdS,hf,T⟩:=y;unfold setNext;refine wpAny_bind (wpAny_setState_of hoS hdS hf ?_);dsimp only;refine wpAny_bind (BD hw ?_);rw[if_pos rfl,if_neg (by simp)];refine wpAny_bind ?_;unfold setWalk;refine wpAny_bind (wpAny_setState_of hoS hdS hf ?_);dsimp only;refine wpAny_bind (BD hw ?_);rw[if_pos rfl];refine wpAny_bind (wpAny_askSetting (wpAny_pure ?_));exact wpAny_pure h
theorem CP{Q:Option (Value×Nat)->Shared->Prop}(y:SetAt w s.heap S es ep t)(hw:w.params.followText "set-order"=false)(hd:(!t.plain&&decide (es.size>1))=false)(hi:i<=es.size)
 (h:Q (match es[i]?,t.place[i]? with | some (_,x),some j=>some (x,j+1) | _,_=>none) s):wpAny (model prog w) A (setNext S (slotAt t i) i ep) Q E s:=by
 obtain⟨oS,hoS,hcS,hdS,hf,T⟩:=y
 have hsz:t.place.size=es.size:=by
  simp only[SetTable.fits,Bool.and_eq_true,beq_iff_eq]at hf;exact hf.1
 unfold setNext;refine wpAny_bind (wpAny_setState_of hoS hdS hf ?_);dsimp only;refine wpAny_bind (BD hw ?_);rw[if_neg Bool.false_ne_true];show wpAny _ _ (if (!t.plain&&decide (es.size>1))=true then _ else _) _ _ _;rw[hd,if_neg Bool.false_ne_true];show wpAny _ _ ((if (!t.led&&!es.isEmpty)=true then unsupported "set:maker-not-led" else pure ()) >>= _) _ _ _;rw[T.led,hw];refine wpAny_bind ?_;rw[show(!(!false)&&!es.isEmpty)=false from rfl,if_neg Bool.false_ne_true];refine wpAny_pure (wpAny_pure ?_);rw[IT T (by omega)];exact h
theorem Kz{e:Int×Value}{Q:Option Value->Shared->Prop}(x:Sit w s.heap T0 I S es ep t fs i)(y:SetAt w s.heap S es ep t)(hl:fs.length=es.size)(hi:fs[i]?=some e)
 (hQ:∀ h',Heap.SameBut I s.heap h'->Sit w h' T0 I S es ep t fs (i+1)->Q (some e.2) {s with heap:=h'}):wpAny (model prog w) A (pyNext (.ref I)) Q E s:=by
 obtain⟨o,first,ho,hc,hd,W⟩:=id x;obtain⟨oS,hoS,hcS,hdS,hf,T⟩:=id y;have hlt:i<es.size:=by rw[<-hl];exact(gM hi).1
 unfold pyNext;refine wpAny_bind (wpAny_attempt (wpAny_callSpecial?_slot (name:=Str.ofString "__next__") x.typeIs SiF.slot_si_next (wpAny_call_entry SiF.slot_si_next x.typeIs SiF.entry_si_next ?_ (SiF.args_si_next _))));unfold Builtin.«set_iterator.__next__»;refine wpAny_bind (m:=slotArgs "__next__" 0 ⟨[.ref I],[]⟩) (wpAny_pure ?_);refine wpAny_bind (wpAny_fieldsOf ho hd ?_);dsimp only;refine wpAny_bind (wpAny_setEntries_of hoS hdS hf ?_);rw[if_neg (by simp)]
 have step2:∀(nx:Nat) (v:Value),v=e.2->(∀ h',(∀ T o,T≠I->s.heap.get? T=some o->h'.get? T=some o)->Way w h' T0 S es ep t fs (i+1) (.int nx 0))->
  wpAny (model prog w) A.in1 (do setField (.ref I) 0 (rawInt nx);setField (.ref I) 1 (rawInt ((i:Int)+1));ret v) (fun fin s'=>∃ v,fin=Fin.done (Flow.ret v)/\wpAny (model prog w) A (pure (some v)) Q E s')
   (fun e s'=>wpAny (model prog w) A (do let __do_lift <- isInstance e (Value.type "StopIteration");if __do_lift=true then pure none else throw e) Q E s') s:=by
  intro nx v hv hW;subst hv;refine wpAny_bind (wpAny_setField ho hd (by simp) ?_);have g1:=Heap.get?_update_self (Obj.mapFields (·.setIfInBounds 0 (rawInt nx))) ho (Obj.isFreed_of_fields (Obj.data_mapFields hd _));refine wpAny_bind (wpAny_setField g1 (Obj.data_mapFields hd _) (by simp) ?_);have g2:=Heap.get?_update_self (Obj.mapFields (·.setIfInBounds 1 (rawInt ((i:Int)+1)))) g1 (Obj.isFreed_of_fields (Obj.data_mapFields (Obj.data_mapFields hd _) _));refine wpAny_pure ⟨_,rfl,wpAny_pure (hQ _ ((Heap.SameBut.update _ I _).trans (Heap.SameBut.update _ I _)) ⟨_,_,g2,?_,?_,hW _ fun T o hT e=>?_⟩)⟩
  ·exact((Obj.cls_mapFields ..).trans (Obj.cls_mapFields ..)).trans hc
  ·rw[Obj.data_mapFields (Obj.data_mapFields hd _)];simp[rawInt]
  ·exact(Heap.get?_update_other _ _ (Ne.symm hT)).trans ((Heap.get?_update_other _ _ (Ne.symm hT)).trans e)
 cases W with
 | text hw hf'=>
   dsimp only;refine wpAny_bind (Cj (i:=i) (ep:=ep) y hw ?_);have:(pickOrder (w.params.setOrder S ep) es)[i]?=some e:=by rw[<-Array.getElem?_toList,<-hf'];exact hi
   rw[this];exact step2 0 e.2 rfl fun h' _ => .text hw hf'
 | table hw hd' hf'=>
   dsimp only;refine wpAny_bind (CP (i:=i) (ep:=ep) y hw hd' (by omega) ?_)
   have hsz:t.place.size=es.size:=by
    simp only[SetTable.fits,Bool.and_eq_true,beq_iff_eq]at hf;exact hf.1
   have e1:es[i]?=some e:=by rw[<-Array.getElem?_toList,<-hf'];exact hi
   have e2:t.place[i]?=some (t.place[i]'(by omega)):=by simp[show i<t.place.size by omega]
   rw[e1,e2];refine step2 _ e.2 rfl fun h' _=>?_;have:t.place[i]'(by omega)+1=slotAt t (i+1):=by unfold slotAt;rw[if_neg (by omega)];simp[Array.getD,show i<t.place.size by omega]
   rw[this];exact .table hw hd' hf'
 | drawn hw pl oT nT hoT hdT hlT hfT=>
   dsimp only;refine wpAny_bind (wpAny_seqItems hoT hdT ?_);have hip:i<pl.length:=by omega
   have e1:pl[i]?=some (pl[i]'hip):=by simp
   have e2:(pl.map fun k=>Value.int (k:Nat) 0).toArray[(i:Int).toNat]?=some (.int ((pl[i]'hip:Nat):Int) 0):=by simp[hip]
   dsimp only;rw[e2];dsimp only;have e3:es[pl[i]'hip]?=some e:=by rw[hfT i _ e1];exact hi
   refine wpAny_bind ?_;unfold setNextDrawn;refine wpAny_bind (wpAny_setState_of hoS hdS hf ?_);dsimp only;rw[if_neg (by simp),Int.toNat_natCast,e3];refine wpAny_pure (wpAny_bind (wpAny_setField ho hd (by simp) ?_));have g1:=Heap.get?_update_self (Obj.mapFields (·.setIfInBounds 1 (rawInt ((i:Int)+1)))) ho (Obj.isFreed_of_fields (Obj.data_mapFields hd _));have hTI:T0≠I:=fun z=>by subst z;rw[ho]at hoT;cases hoT;rw[hd]at hdT;cases hdT
   refine wpAny_pure ⟨_,rfl,wpAny_pure (hQ _ (Heap.SameBut.update _ I _) ⟨_,_,g1,(Obj.cls_mapFields ..).trans hc,?_,.drawn hw pl oT nT ((Heap.get?_update_other _ _ (Ne.symm hTI)).trans hoT) hdT hlT hfT⟩)⟩;rw[Obj.data_mapFields hd];simp[rawInt]
theorem N3{Q:Option Value->Shared->Prop}(hh:A.handled=none)(hQ:∀ h',Heap.ExtBut I s.heap h'->Q none {s with heap:=h'})(k:Sem Unit)(hk:∀(Q':Unit->Shared->Prop) (E':Value->Shared->Prop),(∀ h',Heap.SameBut I s.heap h'->Q' () {s with heap:=h'})->wpAny (model prog w) A.in1 k Q' E' s):
 wpAny (model prog w) A.in1 (k >>= fun _=>newExc (.type "StopIteration") [] >>= fun e=>raiseNew (α:=Fin) e) (fun fin s'=>∃ v,fin=Fin.done (Flow.ret v)/\wpAny (model prog w) A (pure (some v)) Q E s')
  (fun e s'=>wpAny (model prog w) A (do let __do_lift <- isInstance e (Value.type "StopIteration");if __do_lift=true then pure none else throw e) Q E s') s:=by
 refine wpAny_bind (hk _ _ fun h' hs=>?_);refine wpAny_bind ?_;simp only[newExc,newTuple];refine wpAny_bind (wpAny_newObj_type ?_ (by size_fits));refine wpAny_bind (m:=firstArgMember _ _) (wpAny_of_eq (a:=Value.none) (by first | rfl | (simp only[firstArgMember];rfl)) ?_);refine wpAny_newObj_type ?_ (by size_fits);simp only[raiseNew];refine wpAny_bind (wpAny_handled ?_);rw[show A.in1.handled=none from hh];refine wpAny_bind (wpAny_pure (wpAny_throw ?_));refine wpAny_bind (wpAny_isInstance (T:="StopIteration") (b:=true) ⟨_,Heap.get?_push_size _ rfl,rfl⟩ isSubtype_stop ?_);exact wpAny_pure (hQ _ ((hs.extBut.push _).push _))
theorem N4{Q:Option Value->Shared->Prop}(hh:A.handled=none)(x:Sit w s.heap T0 I S es ep t fs es.size)(y:SetAt w s.heap S es ep t)(hl:fs.length=es.size)
 (hQ:∀ h',Heap.ExtBut I s.heap h'->Q none {s with heap:=h'}):wpAny (model prog w) A (pyNext (.ref I)) Q E s:=by
 obtain⟨o,first,ho,hc,hd,W⟩:=id x;obtain⟨oS,hoS,hcS,hdS,hf,T⟩:=id y;unfold pyNext;refine wpAny_bind (wpAny_attempt (wpAny_callSpecial?_slot (name:=Str.ofString "__next__") x.typeIs SiF.slot_si_next (wpAny_call_entry SiF.slot_si_next x.typeIs SiF.entry_si_next ?_ (SiF.args_si_next _))));unfold Builtin.«set_iterator.__next__»;refine wpAny_bind (m:=slotArgs "__next__" 0 ⟨[.ref I],[]⟩) (wpAny_pure ?_);refine wpAny_bind (wpAny_fieldsOf ho hd ?_);dsimp only;refine wpAny_bind (wpAny_setEntries_of hoS hdS hf ?_);rw[if_neg (by simp)];have one:∀(Q':Unit->Shared->Prop) (E':Value->Shared->Prop),(∀ h',Heap.SameBut I s.heap h'->Q' () {s with heap:=h'})->wpAny (model prog w) A.in1 (setField (.ref I) 2 .none) Q' E' s:=fun Q' E' q=>wpAny_setField ho hd (by simp) (q _ (Heap.SameBut.update ..));cases W with
 | text hw hf'=>
   dsimp only;refine wpAny_bind (Cj (i:=es.size) (ep:=ep) y hw ?_);have:(pickOrder (w.params.setOrder S ep) es)[es.size]?=none:=by rw[<-Array.getElem?_toList,<-hf'];exact List.getElem?_eq_none (by omega)
   rw[this];exact N3 hh hQ _ one
 | table hw hd' hf'=>
   dsimp only;refine wpAny_bind (CP (i:=es.size) (ep:=ep) y hw hd' (Nat.le_refl _) ?_);rw[show es[es.size]?=none by simp];exact N3 hh hQ _ one
 | drawn hw pl oT nT hoT hdT hlT hfT=>
   dsimp only;refine wpAny_bind (wpAny_seqItems hoT hdT ?_);have e2:(pl.map fun k=>Value.int (k:Nat) 0).toArray[((es.size:Nat):Int).toNat]?=none:=by simp;omega
   dsimp only;rw[e2];dsimp only
   have two:=N3 (prog:=prog) (w:=w) (A:=A) (E:=E) (s:=s) (I:=I) (Q:=Q) hh hQ (setField (.ref I) 0 (rawInt 0) >>= fun _=>setField (.ref I) 2 .none) fun Q' E' q=>by
    refine wpAny_bind (wpAny_setField ho hd (by simp) ?_);have g1:=Heap.get?_update_self (Obj.mapFields (·.setIfInBounds 0 (rawInt 0))) ho (Obj.isFreed_of_fields (Obj.data_mapFields hd _));exact wpAny_setField g1 (Obj.data_mapFields hd _) (by simp) (q _ ((Heap.SameBut.update _ I _).trans (Heap.SameBut.update _ I _)))
   rw[bind_assoc]at two;exact two
theorem L0{Q:Value->Shared->Prop}(x:Sit w s.heap T0 I S es ep t fs i)(h:Q (.ref I) s):wpAny (model prog w) A (pyIter (.ref I)) Q E s:=by
 refine wpAny_pyIter_slot x.typeIs SiF.slot_si_iter (wpAny_call_entry SiF.slot_si_iter x.typeIs SiF.entry_si_iter ?_ (SiF.args_si_iter _));show wpAny _ _ (ret (.ref I)) _ _ s;exact wpAny_pure ⟨_,rfl,"set_iterator",_,x.typeIs,SiF.slot_si_next.lookup,h⟩
theorem Sit.keep{h h':Heap}(x:Sit w h T0 I S es ep t fs i)(k:∀ b,b=I\/b=T0->∀ o,h.get? b=some o->h'.get? b=some o):Sit w h' T0 I S es ep t fs i:=by
 obtain⟨o,first,ho,hc,hd,W⟩:=x;refine⟨o,first,k I (.inl rfl) _ ho,hc,hd,?_⟩;cases W with
 | text hw hf=>exact .text hw hf
 | table hw hp hf=>exact .table hw hp hf
 | drawn hw pl oT n hoT hdT hl hf=>exact .drawn hw pl oT n (k T0 (.inr rfl) _ hoT) hdT hl hf
theorem V7(hh:A.handled=none)(T0 I S:Addr)(hne:S≠I)(es:Array (Int×Value))(ep:Nat)(t:SetTable)(fs:List (Int×Value))(hl:fs.length=es.size):
 Walks prog w A I [I,S,T0] [I] es.size (fun i v=>∃ e,fs[i]?=some e/\e.2=v) (fun i h=>Sit w h T0 I S es ep t fs i/\SetAt w h S es ep t) where
 sub:=fun b hb=>by simp at hb;simp[hb]
 frame:=fun _ _ _ st hk=>⟨st.1.keep fun b hb o e=>hk b (by rcases hb with rfl | rfl<;>simp) o e,st.2.keep fun o e=>hk S (by simp) o e⟩
 item:=fun i s Q E hi st hQ=>by
  have hi':i<fs.length:=by omega
  refine Kz (e:=fs[i]) st.1 st.2 hl (by simp) fun h' hs' x'=>?_;exact hQ fs[i].2 h' s.toks ⟨fs[i],by simp,rfl⟩ ⟨x',st.2.keep fun o e=>hs'.extBut _ _ hne e⟩ fun b o hb e=>hs'.extBut b o (fun h=>hb (by simp[h])) e
 done:=fun s Q E st hQ=>N4 hh st.1 st.2 hl fun h' he'=>hQ h' s.toks fun b o hb e=>he' b o (fun h=>hb (by simp[h])) e
 self:=fun _ _ _ _ st hQ=>L0 st.1 hQ
theorem V8{Q:Value->Shared->Prop}(y:SetAt w s.heap S es ep t)(hz:es.size<=sizeLine)
 (hQ:∀ h' d I T0 fs,(∀ b o,s.heap.get? b=some o->h'.get? b=some o)->s.heap.objs.size<=I->s.heap.objs.size<=T0->h'.objs.size=I+1->fs.Perm es.toList->Sit w h' T0 I S es ep t fs 0->Q (.ref I) {s with heap:=h',drawn:=d}):wpAny (model prog w) A (pyIter (.ref S)) Q E s:=by
 obtain⟨oS,hoS,hcS,hdS,hf,T⟩:=id y;have hT:s.TypeIs (.ref S) "set":=⟨oS,hoS,hcS⟩
 refine wpAny_pyIter_slot hT F.slot_set_iter (wpAny_call_entry F.slot_set_iter hT SiF.entry_set_iter ?_ (F.args_set_iter_1 _));unfold Builtin.«frozenset.__iter__»;refine wpAny_bind (m:=Builtin.Frozenset.slot0 "__iter__" ⟨[.ref S],[]⟩) (wpAny_pure ?_);refine wpAny_bind (m:=Builtin.Frozenset.sizeOf S) ?_;unfold Builtin.Frozenset.sizeOf;refine wpAny_bind (wpAny_setEntries_of hoS hdS hf (wpAny_pure ?_));refine wpAny_bind ?_;unfold setDrawn;refine wpAny_bind (wpAny_setState_of hoS hdS hf ?_);dsimp only
 have fin:∀(first:Value) (h:Heap) (d:Drawn) (fs:List (Int×Value)) (T0:Addr),(∀ b o,s.heap.get? b=some o->h.get? b=some o)->s.heap.objs.size<=h.objs.size->s.heap.objs.size<=T0->fs.Perm es.toList->(∀ h',(∀ b o,h.get? b=some o->h'.get? b=some o)->Way w h' T0 S es ep t fs 0 first)->
  wpAny (model prog w) A.in1 (setEpoch S >>= fun e=>newFields "set_iterator" [first,rawInt 0,.ref S,rawInt (es.size:Nat),rawInt e] >>= fun v=>ret v)
   (fun fin s'=>∃ r,fin=Fin.done (Flow.ret r)/\∃ T' r_1,s'.TypeIs r T'/\typeLookup (.type T') "__next__"=pure (some r_1)/\Q r s') E {s with heap:=h,drawn:=d}:=by
  intro first h d fs T0 hk h1 h2 hp hW
  refine wpAny_bind (wpAny_setEpoch_of (hk _ _ hoS) hdS hf ?_);refine wpAny_bind (wpAny_newObj_type ?_ (by size_fits));refine wpAny_pure ⟨_,rfl,"set_iterator",_,⟨_,Heap.get?_push_size _ rfl,rfl⟩,SiF.slot_si_next.lookup,?_⟩;have kp:∀ b o,h.get? b=some o->(h.push {cls := .type "set_iterator",data := .fields #[first,rawInt 0,.ref S,rawInt (es.size:Nat),rawInt (ep:Nat)]}).get? b=some o:=fun b o e=>Heap.get?_push_of_some _ e;exact hQ _ d h.objs.size T0 fs (fun b o e=>kp b o (hk b o e)) h1 h2 (Heap.size_push _ _) hp ⟨_,first,Heap.get?_push_size _ rfl,rfl,rfl,hW _ kp⟩
 cases hw:w.params.followText "set-order" with
 | true=>
   refine wpAny_bind (BD hw (wpAny_pure ?_));show wpAny _ _ (if (!true&&(!t.plain&&decide (es.size>1)))=true then _ else _) _ _ _;rw[if_neg (by simp)];refine wpAny_bind (wpAny_pure ?_);exact fin _ s.heap s.drawn _ s.heap.objs.size (fun _ _ e=>e) (Nat.le_refl _) (Nat.le_refl _) (Ky (w.params.setOrder S ep) es) fun h' _ => .text hw rfl
 | false=>
   refine wpAny_bind (BD hw (wpAny_pure ?_));show wpAny _ _ (if (!false&&(!t.plain&&decide (es.size>1)))=true then _ else _) _ _ _;cases hpl:(!t.plain&&decide (es.size>1)) with
   | false=>
     rw[if_neg (by simp)];refine wpAny_bind (wpAny_pure ?_);exact fin _ s.heap s.drawn es.toList s.heap.objs.size (fun _ _ e=>e) (Nat.le_refl _) (Nat.le_refl _) .rfl fun h' _ => .table hw hpl rfl
   | true=>
     rw[if_pos (by simp)];refine wpAny_bind (Rj es.size (List.range es.size) s _ (by simp) fun pl d hp=>?_);refine wpAny_bind (wpAny_newTuple ?_ (by rw[List.length_map,hp.length_eq,List.length_range];exact hz));have hin:∀ p∈pl,p<es.size:=fun p hpm=>List.mem_range.mp (hp.mem_iff.mp hpm);have efs:∃ fs:List (Int×Value),fs=pl.filterMap (fun p=>es[p]?):=⟨_,rfl⟩
     obtain⟨fs,efs⟩:=efs
     have hfs:∀(l:List Nat),(∀ p∈l,p<es.size)->(l.filterMap fun p=>es[p]?).length=l.length/\∀(k:Nat) p,l[k]?=some p->es[p]?=(l.filterMap fun p=>es[p]?)[k]?:=by
      intro l
      induction l with
      | nil=>intro _;exact⟨rfl,fun k p h=>by simp at h⟩
      | cons a l ih=>
        intro hl;obtain⟨i1,i2⟩:=ih fun p hp=>hl p (List.mem_cons_of_mem _ hp);have ha:=hl a (List.mem_cons_self ..);have ea:es[a]?=some es[a]:=by simp[ha]
        rw[List.filterMap_cons_some ea];refine⟨by simp[i1],fun k p h=>?_⟩;cases k with
        | zero=>simp at h;subst h;simp[ha]
        | succ k=>simpa using i2 k p (by simpa using h)
     obtain⟨l1,l2⟩:=hfs pl hin;refine fin _ _ d fs s.heap.objs.size (fun b o e=>Heap.get?_push_of_some _ e) (by rw[Heap.size_push];exact Nat.le_succ _) (Nat.le_refl _) ?_ fun h' k=>?_
     ·rw[efs];exact(hp.filterMap _).trans (by rw[filterMap_getElem?_range])
     ·exact .drawn hw pl _ 0 (k _ _ (Heap.get?_push_size _ rfl)) rfl (by rw[efs,l1]) (fun k p h=>by rw[efs];exact l2 k p h)
end
end L2
set_option maxHeartbeats 800000
namespace L2
open PySem PySem.Spec PyProof.Rows
section
variable{prog:Program}{w:World}{A:Around}{E:Value->Shared->Prop}{s:Shared}{S:Addr}{es:Array (Int×Value)}{ep:Nat}{t:SetTable}
theorem V9{Q:Bool->Shared->Prop}(hT:s.TypeIs (.ref S) "set")(h:Q false s):wpAny (model prog w) A (Builtin.List.listLengthHint (.ref S)) Q E s:=by
 unfold Builtin.List.listLengthHint;refine wpAny_bind (wpAny_specialOf hT PySem.F.slot_set_len.lookup ?_);generalize hid:("set.__len__":String)=id0
 wp_delta
 rw[show splitId id0=some ("set","__len__") from by subst hid;decide +kernel];subst hid;refine wpAny_bind (wpAny_isInstance (T:="set") (b:=true) hT sub_set_self ?_);refine wpAny_ite_split (fun z=>absurd z (by decide)) (fun _=>?_);refine wpAny_ite_split (fun _=>?_) (fun z=>absurd (by decide +kernel) z);exact wpAny_bind (wpAny_typeOf hT (wpAny_pure h))
theorem N5{Q:List Value->Shared->Prop}(hh:A.handled=none)(y:SetAt w s.heap S es ep t)(hz:es.size<=sizeLine)
 (hQ:∀ h' tk d (acc:List Value) (fs:List (Int×Value)),(∀ b o,s.heap.get? b=some o->h'.get? b=some o)->s.heap.objs.size<=h'.objs.size->fs.Perm es.toList->acc=fs.map (·.2)->Q acc {s with heap:=h',toks:=tk,drawn:=d}):
 wpAny (model prog w) A (collect (.ref S)) Q E s:=by
 obtain⟨oS,hoS,hcS,hdS,hf,T⟩:=id y;unfold collect;refine wpAny_bind (wpAny_runValue (codeAny_builtin PySem.F.entry_proto_collect ?_));rw[Around.under_plainId PySem.F.plain_proto_collect _];refine wpAny_bind (m:=newList []) (wpAny_newObj_type ?_);refine wpAny_pure ⟨plainId_quiet PySem.F.plain_list_iadd _,codeAny_builtin PySem.F.entry_list_iadd ?_⟩;rw[Around.under_plainId PySem.F.plain_list_iadd _];show wpAny _ A.in1 (Builtin.List.listExtendWith (.ref s.heap.objs.size) (.ref S) (.ref s.heap.objs.size)) _ _ {s with heap:=s.heap.push {cls := .type "list",data := .seq ([]:List Value).toArray}};have y1:SetAt w (s.heap.push {cls := .type "list",data := .seq ([]:List Value).toArray}) S es ep t:=y.keep fun o e=>Heap.get?_push_of_some _ e;have hne:s.heap.objs.size≠S:=fun z=>by rw[<-z]at hoS;exact absurd (Heap.lt_size hoS) (Nat.lt_irrefl _)
 have hL:(s.heap.push {cls := .type "list",data := .seq ([]:List Value).toArray}).get? s.heap.objs.size=some {cls := .type "list",data := .seq #[]}:=Heap.get?_push_size _ rfl;have hz1:(s.heap.push {cls := .type "list",data := .seq ([]:List Value).toArray}).objs.size=s.heap.objs.size+1:=Heap.size_push _ _;unfold Builtin.List.listExtendWith;refine wpAny_bind (wpAny_typeOf (T:="set") ⟨oS,Heap.get?_push_of_some _ hoS,hcS⟩ ?_);have b1:Builtin.List.listSameRef (.ref s.heap.objs.size) (.ref S)=false:=by simp[Builtin.List.listSameRef,hne]
 have b2:(Value.type "set" == Value.type "list")=false:=by decide
 have b3:(Value.type "set" == Value.type "tuple")=false:=by decide
 simp only[b1,b2,b3,Bool.or_false,Bool.false_eq_true,if_false];refine wpAny_bind (V8 (s:={s with heap:=s.heap.push {cls := .type "list",data := .seq ([]:List Value).toArray}}) y1 hz fun h2 d I T0 fs k2 hI hT0 hz2 hp x2=>?_);have y2:SetAt w h2 S es ep t:=y1.keep fun o e=>k2 _ _ e;refine wpAny_bind (wpAny_holding (V9 (s:={s with heap:=h2,drawn:=d}) ⟨oS,k2 _ _ (Heap.get?_push_of_some _ hoS),hcS⟩ ?_));have hL2:=k2 _ _ hL;have LI:s.heap.objs.size≠I:=by rw[hz1]at hI;exact Nat.ne_of_lt hI
 have LT:s.heap.objs.size≠T0:=by rw[hz1]at hT0;exact Nat.ne_of_lt hT0
 have SI:S≠I:=fun z=>by
  have h1:=Heap.lt_size hoS;rw[hz1,<-z]at hI;exact absurd (Nat.lt_of_succ_le hI) (Nat.not_lt_of_gt h1)
 have nf:s.heap.objs.size∉[I,S,T0]:=by
  simp only[List.mem_cons,List.not_mem_nil,or_false,not_or];exact⟨LI,hne,LT⟩
 have hlen:fs.length=es.size:=by rw[hp.length_eq,Array.length_toList]
 have W:=(V7 (prog:=prog) (w:=w) (A:=A.in1) hh T0 I S SI es ep t fs hlen).toS
 have key:∀(h:Heap) (c tk:Nat),Sit w h T0 I S es ep t fs 0->SetAt w h S es ep t->(∀ b o,b≠s.heap.objs.size->h2.get? b=some o->h.get? b=some o)->h.get? s.heap.objs.size=some {cls := .type "list",dict:=none,data := .seq #[] c,slots:=#[]}->s.heap.objs.size<=h.objs.size->
  codeAny (model prog w) A (.builtin "list.extend.loop" ⟨[.ref s.heap.objs.size,.ref I,.ref s.heap.objs.size],[]⟩) (wants (fun v s'=>∃ h' tk' acc c',v = .ref s.heap.objs.size/\s'={s with heap:=h',toks:=tk',drawn:=d}/\(∀ b o,s.heap.get? b=some o->h'.get? b=some o)/\s.heap.objs.size<=h'.objs.size/\h'.get? s.heap.objs.size=some {cls := .type "list",dict:=none,data := .seq acc c',slots:=#[]}/\ItemsOf (fun i v=>∃ e,fs[i]?=some e/\e.2=v) acc es.size) E) {s with heap:=h,toks:=tk,drawn:=d}:=by
  intro h c tk x3 y3 k3 hL3 hz3;refine codeAny_extend_loopS W hz s.heap.objs.size nf (.ref s.heap.objs.size) es.size 0 _ #[] c rfl (Nat.zero_le _) ⟨x3,y3⟩ hL3 (ItemsOf.nil _) fun s' acc c' hm hS' hacc=>?_;rw[Moved.eq_with hm];refine⟨s'.heap,s'.toks,acc,c',rfl,rfl,fun b o e=>hm.heap b o (fun z=>?_) (k3 b o (Nat.ne_of_lt (Heap.lt_size e)) (k2 _ _ (Heap.get?_push_of_some _ e))),Nat.le_of_lt (Heap.lt_size hS'),hS',hacc⟩;rcases List.mem_cons.mp z with z | z
  ·exact absurd z (Nat.ne_of_lt (Heap.lt_size e))
  ·have z':=List.mem_singleton.mp z;rw[hz1]at hI;have:=Heap.lt_size e;rw[z']at this;exact absurd this (Nat.not_lt_of_gt (Nat.lt_of_succ_le hI))
 have fin:∀ r s',wants (fun v s'=>∃ h' tk' acc c',v = .ref s.heap.objs.size/\s'={s with heap:=h',toks:=tk',drawn:=d}/\(∀ b o,s.heap.get? b=some o->h'.get? b=some o)/\s.heap.objs.size<=h'.objs.size/\h'.get? s.heap.objs.size=some {cls := .type "list",dict:=none,data := .seq acc c',slots:=#[]}/\ItemsOf (fun i v=>∃ e,fs[i]?=some e/\e.2=v) acc es.size) E r s'->
  wants (fun v s'=>wpAny (model prog w) A (match v with | .ref a=>load a >>= fun o=>(match o.data with | .seq xs _=>pure xs.toList | _=>unsupported "internal:collect") | _=>unsupported "internal:collect") Q E s') E r s':=by
  intro r s' hr;cases r with
  | error e=>exact hr
  | ok fl=>
    cases fl with
    | ret v=>
      obtain⟨h',tk',acc,c',rfl,rfl,h3,h4,h5,h6⟩:=hr;refine wpAny_bind (wpAny_load (s:={s with heap:=h',toks:=tk',drawn:=d}) h5 (wpAny_pure (hQ h' tk' d _ fs h3 h4 hp ?_)));refine List.ext_getElem? fun k=>?_;rw[List.getElem?_map,Array.getElem?_toList];by_cases hk:k<es.size
      ·have ha:acc[k]?=some (acc[k]'(by rw[h6.1];exact hk)):=by simp[h6.1,hk]
       obtain⟨e,he,ev⟩:=h6.2 k _ ha;rw[ha,he,<-ev];rfl
      ·rw[Array.getElem?_eq_none (by rw[h6.1];omega),List.getElem?_eq_none (by omega)];rfl
    | _=>exact hr.elim
 refine wpAny_ite_split (fun _=>?_) (fun _=>wpAny_pure ⟨plainId_quiet PySem.F.plain_extend_loop _,codeAny_mono (key _ _ _ x2 y2 (fun _ _ _ e=>e) hL2 (Nat.le_of_lt (Heap.lt_size hL2))) fin⟩);refine wpAny_bind (wpAny_rule (wpAny_bind ?_));show wpAny _ _ (updateSeq s.heap.objs.size (·.push .none) >>= fun _=>updateSeq s.heap.objs.size (·.pop)) _ _ _;refine wpAny_bind (wpAny_updateSeq hL2 rfl ?_);have u1:=Heap.get?_update_self (Obj.mapSeq (·.push Value.none)) hL2 rfl;refine wpAny_updateSeq (hz:=by seq_fits) u1 rfl ?_;have u2:=Heap.get?_update_self (Obj.mapSeq (·.pop)) u1 rfl;have oth:∀ b o,b≠s.heap.objs.size->h2.get? b=some o->((h2.update s.heap.objs.size (Obj.mapSeq (·.push Value.none))).update s.heap.objs.size (Obj.mapSeq (·.pop))).get? b=some o:=fun b o hb e=>(Heap.get?_update_other _ _ (Ne.symm hb)).trans ((Heap.get?_update_other _ _ (Ne.symm hb)).trans e);refine wpAny_pure ⟨plainId_quiet PySem.F.plain_extend_loop _,codeAny_mono (key _ _ _ (x2.keep fun b hb o e=>oth b o (by rcases hb with rfl | rfl;exact LI.symm;exact LT.symm) e) (y2.keep fun o e=>oth _ o hne.symm e) oth u2 ?_) fin⟩;rw[Heap.size_update,Heap.size_update];exact Nat.le_of_lt (Heap.lt_size hL2)
end
theorem _root_.L2.Inv.dr{X:Cx}{pins:List (Addr×Obj)}{σ:St}{H:Hp}{s:Shared}(I:Inv X pins σ H s)(d:Drawn):Inv X pins σ H {s with drawn:=d}:=
 ⟨I.ok,I.os,I.bare,I.base,I.loc,I.cell,I.free,I.freeC,I.pin,I.hok,I.len⟩
section
variable{prog:Program}{w:World}{A:Around}{E:Value->Shared->Prop}{s:Shared}
theorem Py{S:Addr}{L:List Int}{Q:Value->Shared->Prop}(hh:A.handled=none)(x:SetX prog w s.heap S L)(h64:L.length<64)
 (h:∀(h':Heap) (tk:Nat) (d:Drawn) (l:Addr) (out:Array Value) (e:Nat),(∀ b o,s.heap.get? b=some o->h'.get? b=some o)->s.heap.objs.size<=l->h'.get? l=some (seqObj "list" out e)->IntsAre out.toList (srt L)->Q (.ref l) {s with heap:=h',toks:=tk,drawn:=d}):
 wpAny (model prog w) A (call (.builtin "sorted") [.ref S]) Q E s:=by
 obtain⟨o,es,ep,t,ho,hx,hd,hel,hb,hf,hT,hp⟩:=x;refine Calls.call_function_entry kind_sorted plain_sorted entry_sorted (args_sorted1 _) ?_;unfold Builtin.«sorted»;refine wpAny_bind (m:=checkCount "sorted" 1 1 _) (wpAny_pure ?_);refine wpAny_bind (N5 (A:=A.in1) hh ⟨o,ho,hx.1,hd,hf,hT⟩ (fits_of_scanBound hb) fun h2 tk d acc fs k2 hz2 hpf hacc=>?_)
 have hints:∀ v∈acc,∃ n tt,v=Value.int n tt:=by
  intro v hv;rw[hacc]at hv;obtain⟨e,he,rfl⟩:=List.mem_map.mp hv;obtain⟨⟨k,hk,_⟩,_⟩:=hel e (hpf.mem_iff.mp he);obtain⟨tt,e2⟩:=Value.isInt_shape (k:=k) (v:=e.2) hk;exact⟨k,tt,e2⟩
 have hI:IntsAre acc (acc.map numOf):=intsAre_map acc hints
 have hpL:(acc.map numOf).Perm L:=by
  rw[hacc,List.map_map];exact(hpf.map _).trans hp
 have hl64:acc.length<64:=by have:=hpL.length_eq;rw[List.length_map]at this;omega
 refine wpAny_bind (wpAny_newList ?_ (by rw[sizeLine_eq];omega));have hoL:(h2.push (seqObj "list" acc.toArray 0)).get? h2.objs.size=some (seqObj "list" acc.toArray 0):=Heap.get?_push_size _ rfl;refine wpAny_bind (wpAny_holding (wpAny_call_entry (s:={s with heap:=h2.push (seqObj "list" acc.toArray 0),toks:=tk,drawn:=d}) slot_list_sort ⟨_,hoL,rfl⟩ entry_list_sort (list_sort_tree hoL hI hl64 fun out ns' a1 a2 a3=>⟨_,rfl,?_⟩) (args_list_sort _)));have en:ns'=srt L:=TJ (a2.trans hpL) a3;subst en;obtain⟨e,he⟩:=sortedHeap_at (vs:=acc) (out:=out) hoL;refine wpAny_pure ⟨_,rfl,h _ tk d h2.objs.size out e (fun b o eb=>?_) hz2 he a1⟩;have hlt:=Heap.lt_size (k2 b o eb);rw[sortedHeap_old (Nat.ne_of_lt hlt) (by rw[Heap.size_push];exact Nat.lt_succ_of_lt hlt)];exact Heap.get?_push_of_some _ (k2 b o eb)
end
section
variable{X:Cx}
theorem L1:bootBuiltins "sorted"=some (.builtin "sorted"):=by decide +kernel
def CL(ns:List Int):List Int:=firstMet (fun i=>ns.getD i 0) ns.length
end
end L2
set_option maxHeartbeats 2000000
namespace L2
open PySem PySem.Spec PyProof.Rows
open PySem.AutoSeq1 (wpAny_loadPart')
section
variable{X:Cx}
theorem VA:bootBuiltins "any"=some (.builtin "any"):=by decide +kernel
end
end L2
namespace Rf
open PySem L2
abbrev QE:=SV->Sto->Prop
abbrev WE:=EnvS->Sto->QE->Prop
abbrev WA:=EnvS->Sto->(List SV->Sto->Prop)->Prop
abbrev WT:=EnvS->Sto->(Bool->Sto->Prop)->Prop
def Post(K:PySem.W.Frag)(as:List Addr)(H:Hp)(Q:VK):QE:=fun x S'=>∀ as' H' v,Go as H as' H'->Ok K as' H' S'->Rl K as' H' v x->Q v H'
def VB(K:PySem.W.Frag)(as:List Addr)(H:Hp)(Q:List V->Hp->Prop):List SV->Sto->Prop:=fun xs S'=>∀ as' H' vs,Go as H as' H'->Ok K as' H' S'->RlAll K as' H' vs xs->Q vs H'
def PostT(K:PySem.W.Frag)(as:List Addr)(H:Hp)(Q:Bool->Hp->Prop):Bool->Sto->Prop:=fun b S'=>∀ as' H',Go as H as' H'->Ok K as' H' S'->Q b H'
def lift(K:PySem.W.Frag)(w:WE):TE:=fun σ H Q=>∃ as ρ S,Ok K as H S/\EnvOk K as H σ ρ/\w ρ S (Post K as H Q)
def liftA(K:PySem.W.Frag)(w:WA):TA:=fun σ H Q=>∃ as ρ S,Ok K as H S/\EnvOk K as H σ ρ/\w ρ S (VB K as H Q)
def liftT(K:PySem.W.Frag)(w:WT):TT:=fun σ H Q=>∃ as ρ S,Ok K as H S/\EnvOk K as H σ ρ/\w ρ S (PostT K as H Q)
def Mono(w:WE):Prop:=∀ ρ S (P P':QE),(∀ x S',P x S'->P' x S')->w ρ S P->w ρ S P'
def MonoA(w:WA):Prop:=∀ ρ S (P P':List SV->Sto->Prop),(∀ x S',P x S'->P' x S')->w ρ S P->w ρ S P'
def MonoT(w:WT):Prop:=∀ ρ S (P P':Bool->Sto->Prop),(∀ x S',P x S'->P' x S')->w ρ S P->w ρ S P'
theorem i5{X:Cx}{e:Expr}{t:TE}(t':TE)(h:PE X e t)(imp:∀ σ H Q,t' σ H Q->t σ H Q):PE X e t':=fun pins s σ H Q I hw=>h pins s σ H Q I (imp σ H Q hw)
theorem CY{X:Cx}{e:Expr}{t:TT}(t':TT)(h:PT X e t)(imp:∀ σ H Q,t' σ H Q->t σ H Q):PT X e t':=fun pins s σ H Q I hw=>h pins s σ H Q I (imp σ H Q hw)
theorem N6{X:Cx}{e:List Expr}{t:TA}(t':TA)(h:PA X e t)(imp:∀ σ H Q,t' σ H Q->t σ H Q):PA X e t':=fun p pins s σ H Q I hw=>h p pins s σ H Q I (imp σ H Q hw)
section
variable{K:PySem.W.Frag}{as as1 as2:List Addr}{H H1 H2:Hp}
theorem Post.mono{Q:VK}{x:SV}{S:Sto}(h:Post K as H Q x S)(g:Go as H as1 H1):Post K as1 H1 Q x S:=fun as' H' v g'=>h as' H' v (g.trans g')
end
abbrev S2:=SV->SV->Sto->QE->Prop
abbrev S1:=SV->Sto->QE->Prop
abbrev Sn:=List SV->Sto->QE->Prop
def w2(s:S2)(a b:WE):WE:=fun ρ S Q=>a ρ S fun x S1=>b ρ S1 fun y S2=>s x y S2 Q
def w1(s:S1)(a:WE):WE:=fun ρ S Q=>a ρ S fun x S1=>s x S1 Q
def wn(s:Sn)(a:WA):WE:=fun ρ S Q=>a ρ S fun xs S1=>s xs S1 Q
def Mono2(s:S2):Prop:=∀ x y S (P P':QE),(∀ x S',P x S'->P' x S')->s x y S P->s x y S P'
def Ez(s:S1):Prop:=∀ x S (P P':QE),(∀ x S',P x S'->P' x S')->s x S P->s x S P'
def MonoN(s:Sn):Prop:=∀ x S (P P':QE),(∀ x S',P x S'->P' x S')->s x S P->s x S P'
theorem Mono.two{s:S2}{a b:WE}(hs:Mono2 s)(ha:Mono a)(hb:Mono b):Mono (w2 s a b):=fun ρ S P P' i h=>ha _ _ _ _ (fun _ _ h=>hb _ _ _ _ (fun _ _ h=>hs _ _ _ _ _ i h) h) h
theorem Mono.one{s:S1}{a:WE}(hs:Ez s)(ha:Mono a):Mono (w1 s a):=fun ρ S P P' i h=>ha _ _ _ _ (fun _ _ h=>hs _ _ _ _ i h) h
theorem Mono.n{s:Sn}{a:WA}(hs:MonoN s)(ha:MonoA a):Mono (wn s a):=fun ρ S P P' i h=>ha _ _ _ _ (fun _ _ h=>hs _ _ _ _ i h) h
def Bc(K:PySem.W.Frag)(s:S2)(r:R2):Prop:=∀ as H S x y v u Q,Ok K as H S->Rl K as H v x->Rl K as H u y->s x y S (Post K as H Q)->r v u H Q
def W6(K:PySem.W.Frag)(s:S1)(r:V->Hp->VK->Prop):Prop:=∀ as H S x v Q,Ok K as H S->Rl K as H v x->s x S (Post K as H Q)->r v H Q
def VC(K:PySem.W.Frag)(s:Sn)(r:List V->Hp->VK->Prop):Prop:=∀ as H S xs vs Q,Ok K as H S->RlAll K as H vs xs->s xs S (Post K as H Q)->r vs H Q
theorem AF{K:PySem.W.Frag}{s:S2}{r:R2}{wa wb:WE}(sim:Bc K s r)(ms:Mono2 s)(ma:Mono wa)(mb:Mono wb):∀ σ H Q,lift K (w2 s wa wb) σ H Q->tOp r (lift K wa) (lift K wb) σ H Q:=by
 rintro σ H Q ⟨as,ρ,S,ok,en,h⟩;refine⟨as,ρ,S,ok,en,ma _ _ _ _ (fun x S1 hb as1 H1 v g1 ok1 rv=>?_) h⟩;refine⟨as1,ρ,S1,ok1,en.mono g1.pre (g1.ku ok),mb _ _ _ _ (fun y S2 hs as2 H2 u g2 ok2 ru=>?_) hb⟩;exact sim as2 H2 S2 x y v u Q ok2 (Rl.mono g2.pre (g2.ku ok1) x v rv) ru (ms _ _ _ _ _ (fun z S3 hz=>hz.mono (g1.trans g2)) hs)
theorem TQ{K:PySem.W.Frag}{s:S1}{r:V->Hp->VK->Prop}{wa:WE}(sim:W6 K s r)(ms:Ez s)(ma:Mono wa):∀ σ H Q,lift K (w1 s wa) σ H Q->tUn r (lift K wa) σ H Q:=by
 rintro σ H Q ⟨as,ρ,S,ok,en,h⟩;refine⟨as,ρ,S,ok,en,ma _ _ _ _ (fun x S1 hs as1 H1 v g1 ok1 rv=>?_) h⟩;exact sim as1 H1 S1 x v Q ok1 rv (ms _ _ _ _ (fun z S3 hz=>hz.mono g1) hs)
theorem VD{K:PySem.W.Frag}{s:Sn}{r:List V->Hp->VK->Prop}{wa:WA}(sim:VC K s r)(ms:MonoN s)(ma:MonoA wa):∀ σ H Q,lift K (wn s wa) σ H Q->tCB r (liftA K wa) σ H Q:=by
 rintro σ H Q ⟨as,ρ,S,ok,en,h⟩;refine⟨as,ρ,S,ok,en,ma _ _ _ _ (fun x S1 hs as1 H1 v g1 ok1 rv=>?_) h⟩;exact sim as1 H1 S1 x v Q ok1 rv (ms _ _ _ _ (fun z S3 hz=>hz.mono g1) hs)
def F0:WA:=fun _ S Q=>Q [] S
def Dy(a:WE)(b:WA):WA:=fun ρ S Q=>a ρ S fun x S1=>b ρ S1 fun xs S2=>Q (x::xs) S2
theorem MonoA.nil:MonoA F0:=fun _ _ _ _ i h=>i _ _ h
theorem MonoA.cons{a:WE}{b:WA}(ha:Mono a)(hb:MonoA b):MonoA (Dy a b):=fun _ _ _ _ i h=>ha _ _ _ _ (fun _ _ h=>hb _ _ _ _ (fun _ _ h=>i _ _ h) h) h
theorem Pz{X:Cx}{K:PySem.W.Frag}:PA X [] (liftA K F0):=N6 _ Bg fun σ H Q ⟨as,ρ,S,ok,en,h⟩=>h as H [] (Go.refl _ _) ok .nil
theorem N7{K:PySem.W.Frag}{a:WE}{b:WA}(ma:Mono a)(mb:MonoA b):∀ σ H Q,liftA K (Dy a b) σ H Q->Me (lift K a) (liftA K b) σ H Q:=by
 rintro σ H Q ⟨as,ρ,S,ok,en,h⟩;refine⟨as,ρ,S,ok,en,ma _ _ _ _ (fun x S1 hs as1 H1 v g1 ok1 rv=>?_) h⟩;refine⟨as1,ρ,S1,ok1,en.mono g1.pre (g1.ku ok),mb _ _ _ _ (fun xs S2 hq as2 H2 vs g2 ok2 rs=>?_) hs⟩;exact hq as2 H2 _ (g1.trans g2) ok2 (.cons (Rl.mono g2.pre (g2.ku ok1) x v rv) rs)
theorem N8{X:Cx}{K:PySem.W.Frag}{e:Expr}{es:List Expr}{a:WE}{b:WA}(ma:Mono a)(mb:MonoA b)(h1:PE X e (lift K a))(h2:PA X es (liftA K b))(hs:starEach (e::es) X.env=(false,eval e X.env)::starEach es X.env):PA X (e::es) (liftA K (Dy a b)):=N6 _ (AQ h1 h2 hs) (N7 ma mb)
def TR(i:Nat):WE:=fun ρ S Q=>∃ x,ρ[i]?=some (some x)/\Q x S
def wC(x:SV):WE:=fun _ S Q=>Q x S
theorem Mono.var{i:Nat}:Mono (TR i):=fun _ _ _ _ i ⟨x,a,b⟩=>⟨x,a,i _ _ b⟩
theorem Mono.c{x:SV}:Mono (wC x):=fun _ _ _ _ i h=>i _ _ h
theorem Q0{K:PySem.W.Frag}{i:Nat}:∀ σ H Q,lift K (TR i) σ H Q->PR i σ H Q:=fun σ H Q ⟨as,ρ,S,ok,en,x,e,h⟩=>let ⟨v,ev,rv⟩:=en.2 i x e;⟨v,ev,h as H v (Go.refl _ _) ok rv⟩
theorem GW{K:PySem.W.Frag}{x:SV}{v:V}(hx:∀ as H,Rl K as H v x):∀ σ H Q,lift K (wC x) σ H Q->tC v σ H Q:=fun σ H Q ⟨as,ρ,S,ok,en,h⟩=>h as H v (Go.refl _ _) ok (hx as H)
def big:Nat:=100000
theorem Bp{n:Nat}(h:n<=big):n<=sizeLine:=Nat.le_trans h (by decide)
theorem CZ{n:Nat}(h:n<big):n<sizeLine:=Nat.lt_of_lt_of_le h (by decide)
def Q1:Sn:=fun xs S Q=>xs.length<=big/\Q (.tup xs) S
def Q2:Sn:=fun xs S Q=>xs.length<=big/\Q (.loc S.length) (S++[.lst xs])
theorem MonoN.tup:MonoN Q1:=fun _ _ _ _ i h=>⟨h.1,i _ _ h.2⟩
theorem MonoN.lst:MonoN Q2:=fun _ _ _ _ i h=>⟨h.1,i _ _ h.2⟩
theorem TU{K:PySem.W.Frag}{as:List Addr}{H:Hp}{S:Sto}{p:Addr}(ok:Ok K as H S):Rl K (as++[p]) (upd H p (.lst vs)) (.ref p) (.loc S.length):=rl_loc.mpr ⟨p,by rw[<-ok.len,List.getElem?_concat_length],rfl⟩
theorem AW{K:PySem.W.Frag}{as:List Addr}{H:Hp}{S:Sto}{Q:VK}{xs:List SV}{vs:List V}(ok:Ok K as H S)(r:RlAll K as H vs xs)(h:Post K as H Q (.loc S.length) (S++[.lst xs])):∀ p,H p=none->Q (.ref p) (upd H p (.lst vs)):=fun p hp=>
 h (as++[p]) _ (.ref p) (Go.push hp) (ok.push hp r) (TU ok)
theorem Ck{K:PySem.W.Frag}{as:List Addr}{H:Hp}{S:Sto}{Q:VK}{xs:List SV}{vs:List V}(ok:Ok K as H S)(r:RlAll K as H vs xs)(h:Post K as H Q (.tup xs) S):∀ p,H p=none->Q (.ref p) (upd H p (.tup vs)):=fun p hp=>
 h as _ (.ref p) (Go.new hp) (ok.new hp) (rl_tup.mpr ⟨p,vs,rfl,f7,RlAll.mono (List.prefix_refl _) (BB hp) xs vs r⟩)
theorem Q3{K:PySem.W.Frag}{wa:WA}(ma:MonoA wa):∀ σ H Q,lift K (wn Q1 wa) σ H Q->Um (liftA K wa) σ H Q:=by
 rintro σ H Q ⟨as,ρ,S,ok,en,h⟩;refine⟨as,ρ,S,ok,en,ma _ _ _ _ (fun xs S1 hs as1 H1 vs g1 ok1 rv=>?_) h⟩;exact⟨by rw[rv.length];exact Bp hs.1,Ck ok1 rv (hs.2.mono g1)⟩
theorem Q4{K:PySem.W.Frag}{wa:WA}(ma:MonoA wa):∀ σ H Q,lift K (wn Q2 wa) σ H Q->Uo (liftA K wa) σ H Q:=by
 rintro σ H Q ⟨as,ρ,S,ok,en,h⟩;refine⟨as,ρ,S,ok,en,ma _ _ _ _ (fun xs S1 hs as1 H1 vs g1 ok1 rv=>?_) h⟩;exact⟨by rw[rv.length];exact Bp hs.1,AW ok1 rv (hs.2.mono g1)⟩
end Rf
namespace L2
open PySem PySem.Spec PyProof.Rows
section
variable{prog:Program}{w:World}{A:Around}{E:Value->Shared->Prop}{s:Shared}
theorem SetX.kind{h:Heap}{a:Addr}{L:List Int}(x:SetX prog w h a L):h.SetOf (intKind prog w) a (fun k=>decide (k∈L)) L.length:=by
 obtain⟨o,es,ep,t,ho,hx,hd,hel,hb,hf,hT,hp⟩:=x;refine⟨o,es,ep,t,ho,hx,hd,hel,fun k=>?_,hb,hf,by rw[<-hp.length_eq];simp⟩;rw[decide_eq_true_eq,<-hp.mem_iff,List.mem_map];constructor
 ·rintro⟨e,he,rfl⟩;obtain⟨⟨k,hk,_⟩,_⟩:=hel e he;exact⟨e,he,by rw[DS hk];exact hk⟩
 ·rintro⟨e,he,hk⟩;exact⟨e,he,DS hk⟩
end
section
variable{X:Cx}
def Je(ns:List Int):List Int:=firstMet (fun i=>ns.getD i 0) ns.length
theorem GX(ns:List Int)(k:Int):k∈Je ns↔k∈ns:=by
 have e:=firstMet_any (fun i=>ns.getD i 0) ns.length k
 have e2:(List.range ns.length).map (fun i=>ns.getD i 0)=ns:=by
  apply List.ext_getElem
  ·simp
  ·intro i h1 h2;simp[List.getElem?_eq_getElem h2]
 rw[e2]at e;have h1:(Je ns).any (· == k)=true↔k∈Je ns:=by simp
 have h2:ns.any (· == k)=true↔k∈ns:=by simp
 rw[<-h1,<-h2];unfold Je;rw[e]
theorem N9:OpR X (compareOp .In) (fun x y H Q=>∃(k:Int) (p:Addr) (S:Int->Bool) (n:Nat),x = .int k/\y = .ref p/\H p=some (.set S n)/\Q (.bl (S k)) H):=by
 intro pins s σ H x y v u Q I rx ry h;obtain⟨k,p,S,n,rfl,rfl,hp,q⟩:=h;obtain⟨t,rfl⟩:=rx;cases ry;have hS:s.heap.SetOf (intKind X.prog X.w) p S n:=I.hok p _ hp;exact wpAny_inSet_of (k:=k) (intKind_is _ _ _ _) rfl hS ⟨.bl _,H,I.tok _,rfl,q⟩
end
open PySem PySem.Spec PyProof.Rows
section
variable{X:Cx}
theorem Jf(hu:X.A.units<cLine):OpR X (compareOp .Eq) (fun x y H Q=>∃ a b xs,x = .ref a/\y = .ref b/\SqT X.K H a xs/\SqT X.K H b []/\Q (.bl xs.isEmpty) H):=by
 intro pins s σ H x y v u Q I rx ry h;obtain⟨a,b,xs,rfl,rfl,ha,hb,q⟩:=h;cases rx;cases ry;obtain⟨its1,r1,p1,_⟩:=I.tuple ha;obtain⟨its2,r2,p2,_⟩:=I.tuple hb;cases r2;refine SeqAt.eq_tupleAt (e:=fun _=>true) (show s.heap.IsTuple a its1.toArray from p1) (show s.heap.IsTuple b _ from p2) hu (fun j _ h2=>by simp at h2) ?_;refine⟨.bl xs.isEmpty,H,I,?_,q⟩;show Value.bool _=Value.bool _
 congr 1
 cases xs with
 | nil=>cases r1;rfl
 | cons x xs=>cases r1;simp
end
open PySem PySem.Spec PyProof.Rows
theorem Vals.rev:∀{xs:List V} {us:List Value},Vals xs us->Vals xs.reverse us.reverse
 | _,_,.nil => .nil
 | _,_,.cons r rr=>by
   rw[List.reverse_cons,List.reverse_cons];exact(Vals.rev rr).append (.cons r .nil)
section
variable{X:Cx}{e st:Expr}{te:TE}{tp:TO}{pos p2:Pos}
def W7(K:PySem.W.Frag)(te:TE)(tp:TO):TE:=fun σ H Q=>te σ H fun x H1=>tp σ H1 fun u H2=>u=some (-1)/\∃ a xs,x = .ref a/\SqL K H2 a xs/\∀ p,H2 p=none->Q (.ref p) (upd H2 p (.lst xs.reverse))
theorem TV(he:PE X e te)(hp:PO X (some st) tp):PE X (.Subscript e (.Slice none none (some st) p2) pos) (W7 X.K te tp):=by
 intro pins s σ H Q I h;refine Subscript_ (thn (he pins s σ H _ I h) fun v s1 ⟨x,H1,I1,r1,q1⟩=>?_);refine wpAny_Slice ?_;rw[evalPart_none];refine wpAny_pure (wpAny_pure ?_);refine thn (hp pins s1 σ H1 _ I1 q1) fun vu s3 ⟨u,H3,I3,pu,q3⟩=>?_;obtain⟨rfl,a,xs,rfl,hx,q⟩:=q3;cases r1;have I4:Inv X pins σ H3 {s3 with heap:=s3.heap.push {cls := .type "slice",data := .fields #[.none,.none,vu]}}:=I3.kept (t':=s3.toks) fun b ob q=>Heap.get?_push_of_some _ q;show wpAny (model X.prog X.w) X.A (subscriptTail e (.Slice none none (some st) p2) (.ref a) (.ref s3.heap.objs.size)) (EP X pins σ Q) X.xe {s3 with heap:=s3.heap.push {cls := .type "slice",data := .fields #[.none,.none,vu]}};obtain⟨its,r,ht,hz⟩:=I4.list hx;have hlen:=r.length;refine tail_any (ops:=[.ref a,.ref s3.heap.objs.size]) ht.isList.typeIs slot_list_getitem.lookup ?_ (by with_unfolding_all rfl);refine wpAny_getItem_list_slice ht.isList (Heap.IsSliceOf.new ..) .none .none pu (by decide) ?_ (by rw[List.size_toArray]<;>omega);rw[PySem.W.krv_pick];refine⟨.ref _,_,I4.laid (t':=s3.toks) (o := .lst xs.reverse) (fun b ob q=>Heap.get?_push_of_some _ q) (Nat.le_refl _) ?_,rfl,q _ (I4.hok.fresh (Nat.le_refl _))⟩;exact⟨by rw[List.length_reverse];exact hz,_,0,r.rev,Heap.get?_push_size _ rfl⟩
end
end L2
namespace Rf
open PySem L2
def Ap:SV->Bool
 | .non=>true | .bl _=>true | .int _=>true | .str _=>true | _=>false
def toV:SV->V
 | .non => .non | .bl b => .bl b | .int i => .int i | .str x => .str x | _ => .non
def eqF:SV->SV->Bool
 | .non,.non=>true
 | .bl a,.bl b=>a == b
 | .bl a,.int b=>(if a then 1 else 0) == b
 | .int a,.bl b=>a == (if b then 1 else 0)
 | .int a,.int b=>a == b
 | .str a,.str b=>a == b
 | _,_=>false
def FU(xs ys:List SV):Bool:=xs.length == ys.length&&(xs.zip ys).all fun p=>eqF p.1 p.2
def inS(x:SV)(xs:List SV):Bool:=xs.any fun y=>eqF y x
section
variable{K:PySem.W.Frag}{as:List Addr}{H:Hp}
theorem Jg{x:SV}{v:V}(f:Ap x=true)(r:Rl K as H v x):v=toV x:=by
 cases x with
 | non=>exact rl_non.mp r
 | bl _=>exact rl_bl.mp r
 | int _=>exact rl_int.mp r
 | str _=>exact rl_str.mp r
 | _=>cases f
theorem BE:∀{xs:List SV} {vs:List V},xs.all Ap=true->RlAll K as H vs xs->vs=xs.map toV
 | [],_,_,r=>rla_nil.mp r
 | x::xs,_,f,r=>by
   rw[List.all_cons,Bool.and_eq_true]at f;obtain⟨v,vs,rfl,r1,r2⟩:=rla_cons.mp r;rw[Jg f.1 r1,BE f.2 r2];rfl
theorem GY{x:SV}(f:Ap x=true):AL (toV x)=true:=by cases x<;>first | rfl | cases f
theorem D7{xs:List SV}(f:xs.all Ap=true):(xs.map toV).all AL=true:=by
 rw[List.all_eq_true]at f ⊢;intro v hv;obtain⟨x,hx,rfl⟩:=List.mem_map.mp hv;exact GY (f x hx)
theorem FV{x y:SV}(fx:Ap x=true)(fy:Ap y=true):eqV (toV x) (toV y)=eqF x y:=by
 cases x<;>first | cases fx;done | (cases y<;>first | rfl | cases fy)
theorem TW{x:SV}{xs:List SV}(fx:Ap x=true)(f:xs.all Ap=true):inV (toV x) (xs.map toV)=inS x xs:=by
 unfold inV inS;rw[List.any_map];rw[List.all_eq_true]at f;rw[Bool.eq_iff_iff,List.any_eq_true,List.any_eq_true];constructor
 ·rintro⟨y,hy,e⟩;exact⟨y,hy,by rw[<-FV (f y hy) fx];exact e⟩
 ·rintro⟨y,hy,e⟩;exact⟨y,hy,by show eqV (toV y) (toV x)=true;rw[FV (f y hy) fx];exact e⟩
theorem Q5:∀{xs ys:List SV},xs.all Ap=true->ys.all Ap=true->B8 (xs.map toV) (ys.map toV)=FU xs ys:=by
 intro xs ys fx fy;unfold B8 FU;rw[List.length_map,List.length_map,List.zip_map,List.all_map]
 congr 1
 rw[Bool.eq_iff_iff,List.all_eq_true,List.all_eq_true];rw[List.all_eq_true]at fx fy;constructor
 ·rintro h ⟨a,b⟩ hm;have:=h (a,b) hm;rw[<-FV (fx a (List.of_mem_zip hm).1) (fy b (List.of_mem_zip hm).2)];exact this
 ·rintro h ⟨a,b⟩ hm;have:=h (a,b) hm;show eqV (toV a) (toV b)=true;rw[FV (fx a (List.of_mem_zip hm).1) (fy b (List.of_mem_zip hm).2)];exact this
def BF:SV->Sto->Option (List SV)
 | .tup xs,_=>some xs
 | .ro xs,_=>some xs
 | .loc k,S=>match S[k]? with | some (.lst xs)=>some xs | _=>none
 | _,_=>none
theorem FW{x:SV}{v:V}{S:Sto}{xs:List SV}(ok:Ok K as H S)(r:Rl K as H v x)(h:BF x S=some xs):∃ a vs,v = .ref a/\(SqL K H a vs\/SqT K H a vs)/\RlAll K as H vs xs:=by
 cases x with
 | tup ys=>
   cases h;obtain⟨p,vs,rfl,hp,rr⟩:=rl_tup.mp r;exact⟨p,vs,rfl,.inr (SqT.of hp),rr⟩
 | ro ys=>
   cases h;obtain⟨p,vs,rfl,hp,rr⟩:=rl_ro.mp r;exact⟨p,vs,rfl,.inl hp.sq,rr⟩
 | loc k=>
   obtain⟨a,ea,rfl⟩:=rl_loc.mp r;unfold BF at h;cases hs:S[k]? with
   | none=>simp only[hs]at h;cases h
   | some o=>
     cases o with
     | lst ys=>
       simp only[hs]at h;cases h;obtain⟨vs,h1,rr⟩:=ok.obj k _ a hs ea;exact⟨a,vs,rfl,.inl (SqL.of h1),rr⟩
     | iset _=>simp only[hs]at h;cases h
     | dct _=>simp only[hs]at h;cases h
     | dcf _ _ _=>simp only[hs]at h;cases h
 | _=>cases h
theorem u5{k:Nat}{v:V}{S:Sto}{xs:List SV}(ok:Ok K as H S)(r:Rl K as H v (.loc k))(h:S[k]?=some (.lst xs)):∃ a vs,v = .ref a/\as[k]?=some a/\H a=some (.lst vs)/\RlAll K as H vs xs:=by
 obtain⟨a,ea,rfl⟩:=rl_loc.mp r;obtain⟨vs,h1,rr⟩:=ok.obj k _ a h ea;exact⟨a,vs,rfl,ea,h1,rr⟩
end
def NA:S2
 | .int i,.int j,S,Q=>Q (.int (i+j)) S
 | .loc k,.loc l,S,Q=>∃ xs ys,S[k]?=some (.lst xs)/\S[l]?=some (.lst ys)/\xs.length+ys.length<=big/\Q (.loc S.length) (S++[.lst (xs++ys)])
 | _,_,_,_=>False
def IU(C:Int->Int->Prop)(g:Int->Int->SV):S2
 | .int i,.int j,S,Q=>C i j/\Q (g i j) S
 | _,_,_,_=>False
def Cn(g:Int->Int->SV):S2
 | .int i,.int j,S,Q=>Q (g i j) S
 | _,_,_,_=>False
def NB:S2
 | .int i,.int j,S,Q=>CMul i j/\Q (.int (i * j)) S
 | .loc k,.int j,S,Q=>∃ xs,S[k]?=some (.lst xs)/\(-1000000<j/\j<1000000)/\xs.length * j.toNat<=big/\Q (.loc S.length) (S++[.lst (List.replicate j.toNat xs).flatten])
 | _,_,_,_=>False
theorem Mono2.add:Mono2 NA:=fun x y S P P' i h=>by
 unfold NA at h ⊢
 split at h<;>first
  | exact i _ _ h
  | exact⟨h.1,i _ _ h.2⟩
  | (obtain⟨xs,ys,a,b,c,d⟩:=h;exact⟨xs,ys,a,b,c,i _ _ d⟩)
  | exact h.elim
theorem Mono2.int{C:Int->Int->Prop}{g:Int->Int->SV}:Mono2 (IU C g):=fun x y S P P' i h=>by
 unfold IU at h ⊢;split at h
 ·exact⟨h.1,i _ _ h.2⟩
 ·exact h.elim
theorem Mono2.int0{g:Int->Int->SV}:Mono2 (Cn g):=fun x y S P P' i h=>by
 unfold Cn at h ⊢;split at h
 ·exact i _ _ h
 ·exact h.elim
theorem Mono2.mul:Mono2 NB:=fun x y S P P' i h=>by
 unfold NB at h ⊢;split at h
 ·exact⟨h.1,i _ _ h.2⟩
 ·obtain⟨xs,a,b,c,d⟩:=h;exact⟨xs,a,b,c,i _ _ d⟩
 ·exact h.elim
section
variable{K:PySem.W.Frag}
theorem Post.here{as:List Addr}{H:Hp}{Q:VK}{x:SV}{S:Sto}{v:V}(h:Post K as H Q x S)(ok:Ok K as H S)(r:Rl K as H v x):Q v H:=h as H v (Go.refl _ _) ok r
theorem FX{C:Int->Int->Prop}{g:Int->Int->SV}{g':Int->Int->V}(hg:∀ as H i j,Rl K as H (g' i j) (g i j)):Bc K (IU C g) (rI C g'):=fun as H S x y v u Q ok rx ry h=>by
 unfold IU at h;split at h
 ·rw[rl_int]at rx ry;exact⟨_,_,rx,ry,h.1,h.2.here ok (hg _ _ _ _)⟩
 ·exact h.elim
theorem Bq{g:Int->Int->SV}{g':Int->Int->V}(hg:∀ as H i j,Rl K as H (g' i j) (g i j)):Bc K (Cn g) (rI0 g'):=fun as H S x y v u Q ok rx ry h=>by
 unfold Cn at h;split at h
 ·rw[rl_int]at rx ry;exact⟨_,_,rx,ry,h.here ok (hg _ _ _ _)⟩
 ·exact h.elim
def VE(K:PySem.W.Frag):R2:=fun x y H Q=>(rI0 fun i j => .int (i+j)) x y H Q\/Uy x y H Q
theorem Q6{X:Cx}:OpR X (binaryOp .Add) (VE X.K):=op_add.or T9
theorem Q7:Bc K NA (VE K):=fun as H S x y v u Q ok rx ry h=>by
 unfold NA at h;split at h
 ·rw[rl_int]at rx ry;exact .inl ⟨_,_,rx,ry,h.here ok (rl_int.mpr rfl)⟩
 ·obtain⟨xs,ys,h1,h2,h3,h4⟩:=h;obtain⟨a,vs,rfl,_,ha,ra⟩:=u5 ok rx h1;obtain⟨b,us,rfl,_,hb,rb⟩:=u5 ok ry h2;exact(.inr (⟨a,b,vs,us,rfl,rfl,ha,hb,by rw[ra.length,rb.length];exact Bp h3,AW ok (ra.append rb) h4⟩))
 ·exact h.elim
theorem RlAll.rep{as:List Addr}{H:Hp}{vs:List V}{xs:List SV}(h:RlAll K as H vs xs):∀ n,RlAll K as H (List.replicate n vs).flatten (List.replicate n xs).flatten
 | 0=>by simpa using RlAll.nil
 | n+1=>by
   rw[List.replicate_succ,List.replicate_succ,List.flatten_cons,List.flatten_cons];exact h.append (RlAll.rep h n)
theorem Q8:Bc K NB (fun x y H Q=>(rI CMul fun i j => .int (i * j)) x y H Q\/Uz x y H Q):=fun as H S x y v u Q ok rx ry h=>by
 unfold NB at h;split at h
 ·rw[rl_int]at rx ry;exact .inl ⟨_,_,rx,ry,h.1,h.2.here ok (rl_int.mpr rfl)⟩
 ·rename_i k j;obtain⟨xs,h1,h2,h3,h4⟩:=h;obtain⟨a,vs,rfl,_,ha,ra⟩:=u5 ok rx h1;rw[rl_int]at ry;subst ry;exact .inr (⟨a,j,vs,rfl,rfl,ha,by omega,by omega,by rw[ra.length];exact Bp h3,AW ok (ra.rep _) h4⟩)
 ·exact h.elim
end
def scS:SV->SV->Option Bool
 | .int i,.int j=>some (decide (i=j))
 | .bl i,.bl j=>some (decide (i=j))
 | .str i,.str j=>some (decide (i=j))
 | .non,.non=>some true
 | .non,.int _=>some false | .int _,.non=>some false | .non,.bl _=>some false | .bl _,.non=>some false | .non,.str _=>some false | .str _,.non=>some false
 | .int _,.str _=>some false | .str _,.int _=>some false | .bl _,.str _=>some false | .str _,.bl _=>some false
 | _,_=>none
def IV:SV->SV->Sto->(Bool->Prop)->Prop
 | .loc k,.loc l,S,Q=>∃ xs ys,S[k]?=some (.lst xs)/\S[l]?=some (.lst ys)/\((xs.all Ap=true/\ys.all Ap=true)\/xs=[]\/ys=[])/\Q (FU xs ys)
 | _,_,_,_=>False
def sEq:S2:=fun x y S Q=>match scS x y with | some b=>Q (.bl b) S | none=>IV x y S fun b=>Q (.bl b) S
def sNe:S2:=fun x y S Q=>match scS x y with | some b=>Q (.bl (!b)) S | none=>IV x y S fun b=>Q (.bl (!b)) S
def F1:SV->Sto->Option (List Int)
 | .loc k,S=>match S[k]? with | some (.iset ms)=>some ms | _=>none
 | _,_=>none
def sIn(neg:Bool):S2:=fun x y S Q=>match F1 y S with
 | some ms=>∃ i,x = .int i/\neg=false/\Q (.bl (decide (i∈ms))) S
 | none=>Ap x=true/\∃ ys,BF y S=some ys/\ys.all Ap=true/\Q (.bl (if neg then !inS x ys else inS x ys)) S
def NC:SV->Bool
 | .non=>true
 | _=>false
def ND(neg:Bool):S2:=fun x y S Q=>(y = .non/\Q (.bl (if neg then !NC x else NC x)) S)\/∃ c d,neg=true/\x = .bl c/\y = .bl d/\Q (.bl (c != d)) S
theorem F2{x y:SV}{S:Sto}{P P':Bool->Prop}(i:∀ b,P b->P' b)(h:IV x y S P):IV x y S P':=by
 unfold IV at h ⊢;split at h
 ·obtain⟨xs,ys,a,b,c,d⟩:=h;exact⟨xs,ys,a,b,c,i _ d⟩
 ·exact h.elim
theorem Mono2.eq:Mono2 sEq:=fun x y S P P' i h=>by
 unfold sEq at h ⊢;split at h
 ·exact i _ _ h
 ·exact F2 (fun _=>i _ _) h
theorem Mono2.ne:Mono2 sNe:=fun x y S P P' i h=>by
 unfold sNe at h ⊢;split at h
 ·exact i _ _ h
 ·exact F2 (fun _=>i _ _) h
theorem Mono2.in'{n:Bool}:Mono2 (sIn n):=fun x y S P P' i h=>by
 unfold sIn at h ⊢;split at h
 ·obtain⟨j,e,z,h⟩:=h;exact⟨j,e,z,i _ _ h⟩
 ·obtain⟨f,ys,a,b,h⟩:=h;exact⟨f,ys,a,b,i _ _ h⟩
theorem Mono2.isN{n:Bool}:Mono2 (ND n):=fun x y S P P' i h=>h.imp (fun h=>⟨h.1,i _ _ h.2⟩) fun⟨c,d,z,a,b,h⟩=>⟨c,d,z,a,b,i _ _ h⟩
section
variable{K:PySem.W.Frag}
theorem NE{as:List Addr}{H:Hp}{x y:SV}{v u:V}{b:Bool}(e:scS x y=some b)(rx:Rl K as H v x)(ry:Rl K as H u y):So v u=true/\decide (v=u)=b:=by
 cases x<;>first | (unfold scS at e;cases e;done) | (cases y<;>first | (unfold scS at e;cases e;done) | (simp only[rl_non,rl_bl,rl_int,rl_str]at rx ry;subst rx ry;unfold scS at e;injection e with e;subst e;exact⟨rfl,by simp⟩))
theorem Jh{as:List Addr}{H:Hp}{S:Sto}{x y:SV}{v u:V}{Q:Bool->Prop}(ok:Ok K as H S)(rx:Rl K as H v x)(ry:Rl K as H u y)(h:IV x y S Q):∃ a b xs ys,v = .ref a/\u = .ref b/\SqL K H a xs/\SqL K H b ys/\((xs.all AL=true/\ys.all AL=true)\/xs=[]\/ys=[])/\Q (B8 xs ys):=by
 unfold IV at h;split at h
 ·obtain⟨xs,ys,h1,h2,h3,h4⟩:=h;obtain⟨a,vs,rfl,_,ha,ra⟩:=u5 ok rx h1;obtain⟨b,us,rfl,_,hb,rb⟩:=u5 ok ry h2;refine⟨a,b,vs,us,rfl,rfl,SqL.of ha,SqL.of hb,?_,?_⟩
  ·rcases h3 with⟨f1,f2⟩ | h3 | h3
   ·rw[BE f1 ra,BE f2 rb];exact .inl ⟨D7 f1,D7 f2⟩
   ·subst h3;exact .inr (.inl (rla_nil.mp ra))
   ·subst h3;exact .inr (.inr (rla_nil.mp rb))
  ·have e:B8 vs us=FU xs ys:=by
    rcases h3 with⟨f1,f2⟩ | h3 | h3
    ·rw[BE f1 ra,BE f2 rb,Q5 f1 f2]
    ·subst h3;have:=rla_nil.mp ra;subst this;have l:=rb.length;unfold B8 FU;simp[l]
    ·subst h3;have:=rla_nil.mp rb;subst this;have l:=ra.length;unfold B8 FU;simp[l]
   rw[e];exact h4
 ·exact h.elim
theorem TX:Bc K sEq (fun x y H Q=>rEq x y H Q\/Pp K false x y H Q):=fun as H S x y v u Q ok rx ry h=>by
 unfold sEq at h;split at h
 ·rename_i b e;obtain⟨h1,h2⟩:=NE e rx ry;exact .inl ⟨h1,by rw[h2];exact h.here ok (rl_bl.mpr rfl)⟩
 ·obtain⟨a,b,xs,ys,e1,e2,h1,h2,h3,h4⟩:=Jh ok rx ry h;exact .inr ⟨a,b,xs,ys,e1,e2,h1,h2,h3,h4.here ok (rl_bl.mpr rfl)⟩
theorem TY:Bc K sNe (fun x y H Q=>rNe x y H Q\/Pp K true x y H Q):=fun as H S x y v u Q ok rx ry h=>by
 unfold sNe at h;split at h
 ·rename_i b e;obtain⟨h1,h2⟩:=NE e rx ry;exact .inl ⟨h1,by rw[h2];exact h.here ok (rl_bl.mpr rfl)⟩
 ·obtain⟨a,b,xs,ys,e1,e2,h1,h2,h3,h4⟩:=Jh ok rx ry h;exact .inr ⟨a,b,xs,ys,e1,e2,h1,h2,h3,h4.here ok (rl_bl.mpr rfl)⟩
theorem Q9{as:List Addr}{H:Hp}{S:Sto}{y:SV}{u:V}{ms:List Int}(ok:Ok K as H S)(r:Rl K as H u y)(h:F1 y S=some ms):∃ a k F,y = .loc k/\u = .ref a/\as[k]?=some a/\S[k]?=some (.iset ms)/\H a=some (.set F ms.length)/\∀ k,F k=decide (k∈ms):=by
 cases y with
 | loc k=>
   obtain⟨a,ea,rfl⟩:=rl_loc.mp r;unfold F1 at h;cases hs:S[k]? with
   | none=>simp only[hs]at h;cases h
   | some o=>
     cases o with
     | lst ys=>simp only[hs]at h;cases h
     | iset ns=>
       simp only[hs]at h;cases h;obtain⟨F,h1,h2⟩:=ok.obj k _ a hs ea;exact⟨a,k,F,rfl,rfl,ea,hs,h1,h2⟩
     | dct _=>simp only[hs]at h;cases h
     | dcf _ _ _=>simp only[hs]at h;cases h
 | _=>cases h
def TZ(K:PySem.W.Frag)(neg:Bool):R2:=fun x y H Q=>rIn K neg x y H Q\/(neg=false/\∃(k:Int) (p:Addr) (S:Int->Bool) (n:Nat),x = .int k/\y = .ref p/\H p=some (.set S n)/\Q (.bl (S k)) H)
theorem Ta{X:Cx}:OpR X (compareOp .In) (TZ X.K false):=fun pins s σ H x y v u Q I rx ry h=>h.elim (Kk pins s σ H x y v u Q I rx ry) fun h=>N9 pins s σ H x y v u Q I rx ry h.2
theorem L3{X:Cx}:OpR X (compareOp .NotIn) (TZ X.K true):=fun pins s σ H x y v u Q I rx ry h=>h.elim (FN pins s σ H x y v u Q I rx ry) fun h=>by cases h.1
theorem NF{n:Bool}:Bc K (sIn n) (TZ K n):=fun as H S x y v u Q ok rx ry h=>by
 unfold sIn at h;split at h
 ·rename_i ms hi;obtain⟨i,rfl,rfl,h⟩:=h;obtain⟨a,k,F,rfl,rfl,ea,es,hF,hk⟩:=Q9 ok ry hi;rw[rl_int]at rx;exact .inr ⟨rfl,i,a,F,_,rx,rfl,hF,by rw[hk];exact h.here ok (rl_bl.mpr rfl)⟩
 ·obtain⟨f,ys,hs,fs,h⟩:=h;obtain⟨a,vs,rfl,hq,rr⟩:=FW ok ry hs;have ev:=Jg f rx;have es:=BE fs rr;subst ev es;exact .inl ⟨a,_,rfl,hq,GY f,D7 fs,by rw[TW f fs];exact h.here ok (rl_bl.mpr rfl)⟩
theorem GZ{as:List Addr}{H:Hp}{x:SV}{v:V}(r:Rl K as H v x):decide (v=V.non)=NC x:=by
 cases x with
 | non=>rw[rl_non.mp r];rfl
 | bl _=>rw[rl_bl.mp r];rfl
 | int _=>rw[rl_int.mp r];rfl
 | str _=>rw[rl_str.mp r];rfl
 | tup _=>obtain⟨p,vs,rfl,_⟩:=rl_tup.mp r;rfl
 | loc _=>obtain⟨p,_,rfl⟩:=rl_loc.mp r;rfl
 | ro _=>obtain⟨p,vs,rfl,_⟩:=rl_ro.mp r;rfl
 | ty _=>rw[rl_ty.mp r];rfl
theorem QA:Bc K (ND false) (fun x y H Q=>y = .non/\Q (.bl (decide (x = .non))) H):=fun as H S x y v u Q ok rx ry h=>by
 rcases h with⟨e,h⟩ | ⟨c,d,z,_⟩
 ·subst e;exact⟨rl_non.mp ry,by rw[GZ rx];exact h.here ok (rl_bl.mpr rfl)⟩
 ·cases z
theorem NG:Bc K (ND true) (fun x y H Q=>(y = .non/\Q (.bl (!decide (x = .non))) H)\/∃ c d,x = .bl c/\y = .bl d/\Q (.bl (c != d)) H):=fun as H S x y v u Q ok rx ry h=>by
 rcases h with⟨e,h⟩ | ⟨c,d,_,rfl,rfl,h⟩
 ·subst e;exact .inl ⟨rl_non.mp ry,by rw[GZ rx];exact h.here ok (rl_bl.mpr rfl)⟩
 ·exact .inr ⟨c,d,rl_bl.mp rx,rl_bl.mp ry,h.here ok (rl_bl.mpr rfl)⟩
end
def sIx:S2
 | x,.int i,S,Q=>∃ xs y,BF x S=some xs/\atI xs i=some y/\Q y S
 | _,_,_,_=>False
theorem Mono2.ix:Mono2 sIx:=fun x y S P P' i h=>by
 unfold sIx at h ⊢;split at h
 ·obtain⟨xs,z,a,b,c⟩:=h;exact⟨xs,z,a,b,i _ _ c⟩
 ·exact h.elim
section
variable{K:PySem.W.Frag}
theorem RlAll.atI{as:List Addr}{H:Hp}{xs:List SV}{vs:List V}{i:Int}{y:SV}(h:RlAll K as H vs xs)(e:L2.atI xs i=some y):∃ v,L2.atI vs i=some v/\Rl K as H v y:=by
 unfold L2.atI at e ⊢;rw[h.length];cases hj:ixN xs.length i with
 | none=>rw[hj]at e;cases e
 | some j=>
   rw[hj]at e;exact h.get e
theorem Tb:Bc K sIx (fun x y H Q=>Uu K x y H Q\/Uv K x y H Q):=fun as H S x y v u Q ok rx ry h=>by
 unfold sIx at h;split at h
 ·obtain⟨xs,z,h1,h2,h3⟩:=h;obtain⟨a,vs,rfl,hq,rr⟩:=FW ok rx h1;obtain⟨w,hw,rw'⟩:=rr.atI h2;rw[rl_int]at ry;rcases hq with hq | hq
  ·exact .inl ⟨a,vs,_,w,rfl,ry,hq,hw,h3.here ok rw'⟩
  ·exact .inr ⟨a,vs,_,w,rfl,ry,hq,hw,h3.here ok rw'⟩
 ·exact h.elim
end
open PySem L2
inductive BI where
 | len | abs | min | max | int | list | tuple | all | any | sorted | isi | str
 deriving DecidableEq
def BI.name:BI->Str
 | .len=>"len" | .abs=>"abs" | .min=>"min" | .max=>"max" | .int=>"int" | .list=>"list" | .tuple=>"tuple" | .all=>"all" | .any=>"any" | .sorted=>"sorted" | .isi=>"isinstance" | .str=>"str"
def blS:List SV->Option (List Bool)
 | []=>some []
 | .bl b::xs=>(blS xs).map (b::·)
 | _::_=>none
def tyS:SV->Sto->Option TyN
 | .non,_=>some .none
 | .bl _,_=>some .bool
 | .int _,_=>some .int
 | .str _,_=>some .str
 | .tup _,_=>some .tuple
 | .loc k,S=>match S[k]? with | some (.lst _)=>some .list | _=>none
 | _,_=>none
def IW:TyN->TyN->Bool
 | .bool,.int=>true
 | a,b=>decide (a=b)
def L4:List SV->Option (List TyN)
 | []=>some []
 | .ty t::xs=>(L4 xs).map (t::·)
 | _::_=>none
def a0(f:Sto->QE->Prop):Sn:=fun xs S Q=>match xs with | []=>f S Q | _=>False
def a1(f:S1):Sn:=fun xs S Q=>match xs with | [x]=>f x S Q | _=>False
def a2(f:S2):Sn:=fun xs S Q=>match xs with | [x,y]=>f x y S Q | _=>False
def oI(f:Int->Sto->QE->Prop):S1:=fun x S Q=>match x with | .int i=>f i S Q | _=>False
theorem VF{f:Sto->QE->Prop}{xs:List SV}{S:Sto}{Q:QE}(h:a0 f xs S Q):xs=[]/\f S Q:=match xs,h with | [],h=>⟨rfl,h⟩
theorem FY{f:S1}{xs:List SV}{S:Sto}{Q:QE}(h:a1 f xs S Q):∃ x,xs=[x]/\f x S Q:=match xs,h with | [x],h=>⟨x,rfl,h⟩
theorem NH{f:S2}{xs:List SV}{S:Sto}{Q:QE}(h:a2 f xs S Q):∃ x y,xs=[x,y]/\f x y S Q:=match xs,h with | [x,y],h=>⟨x,y,rfl,h⟩
theorem D8{f:Int->Sto->QE->Prop}{x:SV}{S:Sto}{Q:QE}(h:oI f x S Q):∃ i,x = .int i/\f i S Q:=match x,h with | .int i,h=>⟨i,rfl,h⟩
theorem Ay{f:S1}(m:Ez f):MonoN (a1 f):=fun xs S P P' i h=>by
 replace h:=FY h;obtain⟨x,rfl,h⟩:=h;exact m x S P P' i h
theorem DT{f:S2}(m:Mono2 f):MonoN (a2 f):=fun xs S P P' i h=>by
 replace h:=NH h;obtain⟨x,y,rfl,h⟩:=h;exact m x y S P P' i h
theorem QB{f:Int->Sto->QE->Prop}(m:∀ k S P P',(∀ x S',P x S'->P' x S')->f k S P->f k S P'):Ez (oI f):=fun x S P P' i h=>by
 replace h:=D8 h;obtain⟨k,rfl,h⟩:=h;exact m k S P P' i h
def VG:S1
 | .int i,S,Q=>Q (.int i) S
 | .bl b,S,Q=>Q (.int (if b then 1 else 0)) S
 | _,_,_=>False
theorem Rk{x:SV}{S:Sto}{Q:QE}(h:VG x S Q):(∃ i,x = .int i/\Q (.int i) S)\/∃ b,x = .bl b/\Q (.int (if b then 1 else 0)) S:=match x,h with
 | .int i,h => .inl ⟨i,rfl,h⟩
 | .bl b,h => .inr ⟨b,rfl,h⟩
def VH:S2:=fun x y S Q=>match y with
 | .ty t=>∃ a,t ≠ .none/\tyS x S=some a/\Q (.bl (IW a t)) S
 | .tup ts=>∃ a bs,TyN.none∉bs/\tyS x S=some a/\L4 ts=some bs/\Q (.bl (bs.any (IW a))) S
 | _=>False
theorem Rm{x y:SV}{S:Sto}{Q:QE}(h:VH x y S Q):(∃ t a,y = .ty t/\t ≠ .none/\tyS x S=some a/\Q (.bl (IW a t)) S)\/∃ ts a bs,y = .tup ts/\TyN.none∉bs/\tyS x S=some a/\L4 ts=some bs/\Q (.bl (bs.any (IW a))) S:=match y,h with
 | .ty t,⟨a,h⟩ => .inl ⟨t,a,rfl,h⟩
 | .tup ts,⟨a,bs,h⟩ => .inr ⟨ts,a,bs,rfl,h⟩
def W8:S1:=fun x S Q=>∃ xs,BF x S=some xs/\Q (.int xs.length) S
def W9:S1:=oI fun i S Q=>Q (.int (if i<0 then -i else i)) S
def WB:S2:=fun x y S Q=>oI (fun i S Q=>oI (fun j S Q=>Q (.int (if j<i then j else i)) S) y S Q) x S Q
def WC:S2:=fun x y S Q=>oI (fun i S Q=>oI (fun j S Q=>Q (.int (if j>i then j else i)) S) y S Q) x S Q
def VI:S1:=fun x S Q=>∃ xs,BF x S=some xs/\Q (.loc S.length) (S++[.lst xs])
def Tc:S1:=fun x S Q=>∃ xs,BF x S=some xs/\Q (.tup xs) S
def WD:S1:=fun x S Q=>∃ xs bs,x ≠ .tup xs/\BF x S=some xs/\blS xs=some bs/\Q (.bl (bs.all id)) S
def sBi:BI->Sn
 | .len=>a1 W8
 | .abs=>a1 W9
 | .min=>a2 WB
 | .max=>a2 WC
 | .int=>a1 VG
 | .list=>a1 VI
 | .tuple=>a1 Tc
 | .all=>a1 WD
 | .any=>fun _ _ _=>False
 | .sorted=>fun _ _ _=>False
 | .isi=>a2 VH
 | .str=>fun _ _ _=>False
theorem MonoN.bi:∀{b:BI},MonoN (sBi b)
 | .len=>Ay fun _ _ _ _ i ⟨a,c,d⟩=>⟨a,c,i _ _ d⟩
 | .abs=>Ay (QB fun _ _ _ _ i h=>i _ _ h)
 | .min=>DT fun x y S P P' i h=>by
   replace h:=D8 h;obtain⟨k,rfl,h1⟩:=h;obtain⟨l,rfl,h2⟩:=D8 h1;exact i _ _ h2
 | .max=>DT fun x y S P P' i h=>by
   replace h:=D8 h;obtain⟨k,rfl,h1⟩:=h;obtain⟨l,rfl,h2⟩:=D8 h1;exact i _ _ h2
 | .int=>Ay fun x S P P' i h=>by
   replace h:=Rk h;rcases h with⟨k,rfl,h⟩ | ⟨b,rfl,h⟩
   ·exact i _ _ h
   ·exact i _ _ h
 | .list=>Ay fun _ _ _ _ i ⟨a,c,d⟩=>⟨a,c,i _ _ d⟩
 | .tuple=>Ay fun _ _ _ _ i ⟨a,c,d⟩=>⟨a,c,i _ _ d⟩
 | .all=>Ay fun _ _ _ _ i ⟨a,b,c,d,e,f⟩=>⟨a,b,c,d,e,i _ _ f⟩
 | .any=>fun _ _ _ _ _ h=>h
 | .sorted=>fun _ _ _ _ _ h=>h
 | .isi=>DT fun x y S P P' i h=>by
   replace h:=Rm h;rcases h with⟨t,a,rfl,h1,h2,h⟩ | ⟨ts,a,bs,rfl,h1,h2,h3,h⟩
   ·exact⟨a,h1,h2,i _ _ h⟩
   ·exact⟨a,bs,h1,h2,h3,i _ _ h⟩
 | .str=>fun _ _ _ _ _ h=>h
section
variable{K:PySem.W.Frag}{as:List Addr}{H:Hp}{S:Sto}
theorem NI:∀{xs:List SV} {bs:List Bool} {vs:List V},blS xs=some bs->RlAll K as H vs xs->vs=bs.map V.bl
 | [],_,_,e,r=>by cases e;exact rla_nil.mp r
 | .bl b::xs,_,_,e,r=>by
   obtain⟨v,vs,rfl,r1,r2⟩:=rla_cons.mp r;unfold blS at e;cases h:blS xs with
   | none=>rw[h]at e;cases e
   | some cs=>
     rw[h]at e;cases e;rw[rl_bl.mp r1,NI h r2];rfl
 | .non::_,_,_,e,_=>by cases e
 | .int _::_,_,_,e,_=>by cases e
 | .str _::_,_,_,e,_=>by cases e
 | .tup _::_,_,_,e,_=>by cases e
 | .loc _::_,_,_,e,_=>by cases e
 | .ro _::_,_,_,e,_=>by cases e
 | .ty _::_,_,_,e,_=>by cases e
theorem BQ{x:SV}{v:V}{xs:List SV}(ok:Ok K as H S)(r:Rl K as H v x)(n:x ≠ .tup xs)(h:BF x S=some xs):∃ a vs,v = .ref a/\SqL K H a vs/\RlAll K as H vs xs:=by
 cases x with
 | tup ys=>cases h;exact absurd rfl n
 | ro ys=>
   cases h;obtain⟨p,vs,rfl,hp,rr⟩:=rl_ro.mp r;exact⟨p,vs,rfl,hp.sq,rr⟩
 | loc k=>
   obtain⟨a,ea,rfl⟩:=rl_loc.mp r;unfold BF at h;cases hs:S[k]? with
   | none=>simp only[hs]at h;cases h
   | some o=>
     cases o with
     | lst ys=>
       simp only[hs]at h;cases h;obtain⟨vs,h1,rr⟩:=ok.obj k _ a hs ea;exact⟨a,vs,rfl,SqL.of h1,rr⟩
     | iset _=>simp only[hs]at h;cases h
     | dct _=>simp only[hs]at h;cases h
     | dcf _ _ _=>simp only[hs]at h;cases h
 | _=>cases h
theorem Ea{vs:List V}{x:SV}(r:RlAll K as H vs [x]):∃ v,vs=[v]/\Rl K as H v x:=by
 obtain⟨v,t,rfl,r1,r2⟩:=rla_cons.mp r;rw[rla_nil.mp r2];exact⟨v,rfl,r1⟩
theorem QC{vs:List V}{x y:SV}(r:RlAll K as H vs [x,y]):∃ v u,vs=[v,u]/\Rl K as H v x/\Rl K as H u y:=by
 obtain⟨v,t,rfl,r1,r2⟩:=rla_cons.mp r;obtain⟨u,rfl,r3⟩:=Ea r2;exact⟨v,u,rfl,r1,r3⟩
end
theorem NJ{K:PySem.W.Frag}{as:List Addr}{H:Hp}{S:Sto}{Q:VK}{x:SV}{v:V}{ys:List SV}(ok:Ok K as H S)(r1:Rl K as H v x)(h1:BF x S=some ys)(h2:Post K as H Q (.tup ys) S):∃ p us,v = .ref p/\((SqL K H p us/\∀ l,H l=none->Q (.ref l) (upd H l (.tup us)))\/(SqT K H p us/\Q (.ref p) H)):=by
 cases x with
 | tup zs=>
   cases h1;obtain⟨p,us,rfl,hp,rr⟩:=rl_tup.mp r1;exact⟨p,us,rfl,.inr ⟨SqT.of hp,h2.here ok r1⟩⟩
 | loc k=>
   obtain⟨a,us,rfl,hq,rr⟩:=BQ ok r1 (by intro z;cases z) h1;exact⟨a,us,rfl,.inl ⟨hq,Ck ok rr h2⟩⟩
 | ro k=>
   obtain⟨a,us,rfl,hq,rr⟩:=BQ ok r1 (by intro z;cases z) h1;exact⟨a,us,rfl,.inl ⟨hq,Ck ok rr h2⟩⟩
 | _=>cases h1
section
variable{K:PySem.W.Frag}{as:List Addr}{H:Hp}{S:Sto}
theorem Rn{x:SV}{v:V}{a:TyN}(ok:Ok K as H S)(r:Rl K as H v x)(h:tyS x S=some a):TyOf K H v (.type a.nm):=by
 cases x with
 | non=>cases h;rw[rl_non.mp r];exact .non
 | bl b=>cases h;rw[rl_bl.mp r];exact .bl b
 | int b=>cases h;rw[rl_int.mp r];exact .int b
 | str b=>cases h;rw[rl_str.mp r];exact .str b
 | tup xs=>cases h;obtain⟨p,vs,rfl,hp,_⟩:=rl_tup.mp r;exact .tup hp
 | loc k=>
   obtain⟨b,eb,rfl⟩:=rl_loc.mp r;unfold tyS at h;cases hs:S[k]? with
   | none=>simp only[hs]at h;cases h
   | some o=>
     cases o with
     | lst ys=>
       simp only[hs]at h;cases h;obtain⟨vs,h1,_⟩:=ok.obj k _ b hs eb;exact .lst h1
     | iset _=>simp only[hs]at h;cases h
     | dct _=>simp only[hs]at h;cases h
     | dcf _ _ _=>simp only[hs]at h;cases h
 | _=>cases h
def ktn(t c:String):Option Bool:=if (Value.type t == Value.type c)=true then some true else if PySem.W.kitMeta c=true then (fastBuiltinMro t).map (·.contains (.type c)) else none
theorem Ji{K:PySem.W.Frag}(a:TyN)(t:TyN)(ht:t ≠ .none):PySem.W.kitOne K (.type a.nm) (.type t.nm)=some (IW a t):=by
 have e:PySem.W.kitOne K (.type a.nm) (.type t.nm)=ktn a.nm t.nm:=rfl;rw[e];cases a<;>cases t<;>first | exact absurd rfl ht | decide +kernel
theorem Jj{K:PySem.W.Frag}(a:TyN):∀(bs:List TyN),TyN.none∉bs->PySem.W.kitAny K (.type a.nm) ((bs.map TyN.nm).map Value.type)=some (bs.any (IW a))
 | [],_=>rfl
 | b::bs,h=>by
   rw[List.map_cons,List.map_cons,PySem.W.kitAny,Ji a b (fun z=>h (by rw[z];simp)),List.any_cons];cases IW a b with
   | true=>rfl
   | false=>exact Jj a bs (fun z=>h (List.mem_cons_of_mem _ z))
theorem NK:∀{xs:List SV} {bs:List TyN} {vs:List V},L4 xs=some bs->RlAll K as H vs xs->vs=(bs.map TyN.nm).map V.ty
 | [],_,_,e,r=>by cases e;exact rla_nil.mp r
 | .ty b::xs,_,_,e,r=>by
   obtain⟨v,vs,rfl,r1,r2⟩:=rla_cons.mp r;unfold L4 at e;cases h:L4 xs with
   | none=>rw[h]at e;cases e
   | some cs=>
     rw[h]at e;cases e;rw[rl_ty.mp r1,NK h r2];rfl
 | .non::_,_,_,e,_=>by cases e
 | .bl _::_,_,_,e,_=>by cases e
 | .str _::_,_,_,e,_=>by cases e
 | .tup _::_,_,_,e,_=>by cases e
 | .loc _::_,_,_,e,_=>by cases e
 | .ro _::_,_,_,e,_=>by cases e
 | .int _::_,_,_,e,_=>by cases e
end
def rBi(K:PySem.W.Frag):BI->List V->Hp->VK->Prop
 | .len=>fun xs H Q=>∃ p ys,xs=[.ref p]/\(SqL K H p ys\/SqT K H p ys)/\Q (.int ys.length) H
 | .abs=>fun xs H Q=>∃ i,xs=[.int i]/\Q (.int (if i<0 then -i else i)) H
 | .min=>fun xs H Q=>∃ i j,xs=[.int i,.int j]/\Q (.int (if j<i then j else i)) H
 | .max=>fun xs H Q=>∃ i j,xs=[.int i,.int j]/\Q (.int (if j>i then j else i)) H
 | .int=>fun xs H Q=>(∃ i,xs=[.int i]/\Q (.int i) H)\/∃ k,xs=[.bl k]/\Q (.int (if k then 1 else 0)) H
 | .list=>fun xs H Q=>∃ p ys,xs=[.ref p]/\(SqL K H p ys\/SqT K H p ys)/\∀ l,H l=none->Q (.ref l) (upd H l (.lst ys))
 | .tuple=>fun xs H Q=>∃ p ys,xs=[.ref p]/\((SqL K H p ys/\∀ l,H l=none->Q (.ref l) (upd H l (.tup ys)))\/(SqT K H p ys/\Q (.ref p) H))
 | .all=>fun xs H Q=>∃(a:Addr) (bs:List Bool),xs=[.ref a]/\SqL K H a (bs.map V.bl)/\Q (.bl (bs.all id)) H
 | .any=>fun _ _ _=>False
 | .sorted=>fun _ _ _=>False
 | .isi=>fun xs H Q=>(∃ x T t b,xs=[x,.ty T]/\TyOf K H x t/\PySem.W.kitOne K t (.type T)=some b/\Q (.bl b) H)\/(∃(x:V) (p:Addr) (Ts:List String) (t:Value) (b:Bool),xs=[x,.ref p]/\H p=some (.tup (Ts.map V.ty))/\TyOf K H x t/\PySem.W.kitAny K t (Ts.map Value.type)=some b/\Q (.bl b) H)
 | .str=>fun _ _ _=>False
theorem Td{K:PySem.W.Frag}:∀{b:BI},VC K (sBi b) (rBi K b)
 | .len=>fun as H S xs vs Q ok r h=>by
   replace h:=FY h;obtain⟨x,rfl,ys,h1,h2⟩:=h;obtain⟨v,rfl,r1⟩:=Ea r;obtain⟨a,us,rfl,hq,rr⟩:=FW ok r1 h1;exact⟨a,us,rfl,hq,by rw[rr.length];exact h2.here ok (rl_int.mpr rfl)⟩
 | .abs=>fun as H S xs vs Q ok r h=>by
   replace h:=FY h;obtain⟨x,rfl,h⟩:=h;replace h:=D8 h;obtain⟨i,rfl,h⟩:=h;obtain⟨v,rfl,r1⟩:=Ea r;exact⟨_,by rw[rl_int.mp r1],Post.here h ok (rl_int.mpr rfl)⟩
 | .min=>fun as H S xs vs Q ok r h=>by
   replace h:=NH h;obtain⟨x,y,rfl,h⟩:=h;replace h:=D8 h;obtain⟨i,rfl,h⟩:=h;replace h:=D8 h;obtain⟨j,rfl,h⟩:=h;obtain⟨v,u,rfl,r1,r2⟩:=QC r;exact⟨_,_,by rw[rl_int.mp r1,rl_int.mp r2],Post.here h ok (rl_int.mpr rfl)⟩
 | .max=>fun as H S xs vs Q ok r h=>by
   replace h:=NH h;obtain⟨x,y,rfl,h⟩:=h;replace h:=D8 h;obtain⟨i,rfl,h⟩:=h;replace h:=D8 h;obtain⟨j,rfl,h⟩:=h;obtain⟨v,u,rfl,r1,r2⟩:=QC r;exact⟨_,_,by rw[rl_int.mp r1,rl_int.mp r2],Post.here h ok (rl_int.mpr rfl)⟩
 | .int=>fun as H S xs vs Q ok r h=>by
   replace h:=FY h;obtain⟨x,rfl,h⟩:=h;obtain⟨v,rfl,r1⟩:=Ea r;replace h:=Rk h;rcases h with⟨k,rfl,h⟩ | ⟨b,rfl,h⟩
   ·exact .inl ⟨_,by rw[rl_int.mp r1],Post.here h ok (rl_int.mpr rfl)⟩
   ·exact .inr ⟨_,by rw[rl_bl.mp r1],Post.here h ok (rl_int.mpr rfl)⟩
 | .list=>fun as H S xs vs Q ok r h=>by
   replace h:=FY h;obtain⟨x,rfl,ys,h1,h2⟩:=h;obtain⟨v,rfl,r1⟩:=Ea r;obtain⟨a,us,rfl,hq,rr⟩:=FW ok r1 h1;exact⟨a,us,rfl,hq,AW ok rr h2⟩
 | .tuple=>fun as H S xs vs Q ok r h=>by
   replace h:=FY h;obtain⟨x,rfl,ys,h1,h2⟩:=h;obtain⟨v,rfl,r1⟩:=Ea r;obtain⟨p,us,rfl,z⟩:=NJ ok r1 h1 h2;exact⟨p,us,rfl,z⟩
 | .all=>fun as H S xs vs Q ok r h=>by
   replace h:=FY h;obtain⟨x,rfl,ys,bs,h0,h1,h2,h3⟩:=h;obtain⟨v,rfl,r1⟩:=Ea r;obtain⟨a,us,rfl,hq,rr⟩:=BQ ok r1 h0 h1;rw[NI h2 rr]at hq;exact⟨a,bs,rfl,hq,h3.here ok (rl_bl.mpr rfl)⟩
 | .any=>fun _ _ _ _ _ _ _ _ h=>False.elim h
 | .sorted=>fun _ _ _ _ _ _ _ _ h=>False.elim h
 | .isi=>fun as H S xs vs Q ok r h=>by
   replace h:=NH h;obtain⟨x,y,rfl,h⟩:=h;obtain⟨v,u,rfl,r1,r2⟩:=QC r;replace h:=Rm h;rcases h with⟨t,a,rfl,h0,h1,h2⟩ | ⟨ts,a,bs,rfl,h0,h1,h2,h3⟩
   ·rw[rl_ty.mp r2];exact .inl ⟨v,_,_,_,rfl,Rn ok r1 h1,Ji _ _ h0,h2.here ok (rl_bl.mpr rfl)⟩
   ·obtain⟨p,vs,rfl,hp,rr⟩:=rl_tup.mp r2;rw[NK h2 rr]at hp;exact .inr ⟨v,p,_,_,_,rfl,hp,Rn ok r1 h1,Jj _ _ h0,h3.here ok (rl_bl.mpr rfl)⟩
 | .str=>fun _ _ _ _ _ _ _ _ h=>False.elim h
inductive MT where
 | append | extend | pop | insert | reverse
 deriving DecidableEq
def MT.name:MT->Str
 | .append=>"append" | .extend=>"extend" | .pop=>"pop" | .insert=>"insert" | .reverse=>"reverse"
def oL(f:Nat->Sto->QE->Prop):S1:=fun x S Q=>match x with | .loc k=>f k S Q | _=>False
theorem DP{f:Nat->Sto->QE->Prop}{x:SV}{S:Sto}{Q:QE}(h:oL f x S Q):∃ k,x = .loc k/\f k S Q:=match x,h with | .loc k,h=>⟨k,rfl,h⟩
def Ro:Nat->Sto->QE->Prop:=fun k S Q=>∃ xs y,S[k]?=some (.lst xs)/\xs[xs.length - 1]?=some y/\Q y (S.set k (.lst xs.dropLast))
def Rp(k:Nat):Int->Sto->QE->Prop:=fun i S Q=>∃ xs y,S[k]?=some (.lst xs)/\(0<=i/\i<xs.length)/\xs.length<=big/\xs[i.toNat]?=some y/\Q y (S.set k (.lst (xs.eraseIdx i.toNat)))
def Rq(y:SV):Nat->Sto->QE->Prop:=fun k S Q=>oI (Rp k) y S Q
def VJ(x:SV):Sn:=fun xs S Q=>match xs with
 | []=>oL Ro x S Q
 | [y]=>oL (Rq y) x S Q
 | _=>False
def QD(x:SV):S1:=fun y S Q=>oL (fun k S Q=>∃ xs,S[k]?=some (.lst xs)/\xs.length<big/\Q .non (S.set k (.lst (xs++[y])))) x S Q
def QF(x:SV):S1:=fun y S Q=>oL (fun k S Q=>oL (fun l S Q=>∃ xs ys,S[k]?=some (.lst xs)/\S[l]?=some (.lst ys)/\xs.length+ys.length<=big/\Q .non (S.set k (.lst (xs++ys)))) y S Q) x S Q
def QG(x:SV):S2:=fun z y S Q=>oL (fun k S Q=>oI (fun i S Q=>∃ xs,S[k]?=some (.lst xs)/\(0<=i/\i<=xs.length)/\xs.length<big/\Q .non (S.set k (.lst (xs.take i.toNat++y::xs.drop i.toNat)))) z S Q) x S Q
def NL(x:SV):Sto->QE->Prop:=fun S Q=>oL (fun k S Q=>∃ xs,S[k]?=some (.lst xs)/\Q .non (S.set k (.lst xs.reverse))) x S Q
def sMt:MT->SV->Sn
 | .append,x=>a1 (QD x)
 | .extend,x=>a1 (QF x)
 | .pop,x=>VJ x
 | .insert,x=>a2 (QG x)
 | .reverse,x=>a0 (NL x)
theorem Rr{x:SV}{xs:List SV}{S:Sto}{Q:QE}(h:VJ x xs S Q):∃ k,x = .loc k/\((xs=[]/\∃ xs y,S[k]?=some (.lst xs)/\xs[xs.length - 1]?=some y/\Q y (S.set k (.lst xs.dropLast)))\/
 ∃ i,xs=[.int i]/\∃ xs y,S[k]?=some (.lst xs)/\(0<=i/\i<xs.length)/\xs.length<=big/\xs[i.toNat]?=some y/\Q y (S.set k (.lst (xs.eraseIdx i.toNat)))):=match xs,h with
 | [],h=>by
   have h:oL Ro x S Q:=h;obtain⟨k,e,h⟩:=DP h;exact⟨k,e,.inl ⟨rfl,h⟩⟩
 | [y],h=>by
   have h:oL (Rq y) x S Q:=h;obtain⟨k,e,h⟩:=DP h;have h:oI (Rp k) y S Q:=h;obtain⟨i,e2,h⟩:=D8 h;exact⟨k,e,.inr ⟨i,by rw[e2],h⟩⟩
theorem FZ:∀{m:MT} {x:SV},MonoN (sMt m x)
 | .append,x=>Ay fun y S P P' i h=>by
   replace h:=DP h;obtain⟨k,rfl,a,c,d,e⟩:=h;exact⟨a,c,d,i _ _ e⟩
 | .extend,x=>Ay fun y S P P' i h=>by
   replace h:=DP h;obtain⟨k,rfl,h⟩:=h;replace h:=DP h;obtain⟨l,rfl,a,c,d,e,f,g⟩:=h;exact⟨a,c,d,e,f,i _ _ g⟩
 | .pop,x=>fun xs S P P' i h=>by
   replace h:=Rr h;obtain⟨k,rfl,h⟩:=h;rcases h with⟨rfl,a,c,d,e,f⟩ | ⟨j,rfl,a,c,d,e,f,g,h⟩
   ·exact⟨a,c,d,e,i _ _ f⟩
   ·exact⟨a,c,d,e,f,g,i _ _ h⟩
 | .insert,x=>DT fun z y S P P' i h=>by
   replace h:=DP h;obtain⟨k,rfl,h⟩:=h;replace h:=D8 h;obtain⟨j,rfl,a,c,d,e,f⟩:=h;exact⟨a,c,d,e,i _ _ f⟩
 | .reverse,x=>fun xs S P P' i h=>by
   replace h:=VF h;obtain⟨rfl,h⟩:=h;replace h:=DP h;obtain⟨k,rfl,a,c,d⟩:=h;exact⟨a,c,i _ _ d⟩
def rMt:MT->V->List V->Hp->VK->Prop
 | .append=>JZ
 | .extend=>Ja
 | .pop=>fun x vs H Q=>Ux x vs H Q\/Mm x vs H Q
 | .insert=>Jb
 | .reverse=>GP
section
variable{K:PySem.W.Frag}{as:List Addr}{H:Hp}{S:Sto}
theorem RlAll.erase:∀{xs:List SV} {vs:List V} (n:Nat),RlAll K as H vs xs->RlAll K as H (vs.eraseIdx n) (xs.eraseIdx n)
 | [],_,n,h=>by rw[rla_nil.mp h];exact .nil
 | x::xs,_,0,h=>by
   obtain⟨v,r,rfl,a,t⟩:=rla_cons.mp h;exact t
 | x::xs,_,n+1,h=>by
   obtain⟨v,r,rfl,a,t⟩:=rla_cons.mp h;exact .cons a (t.erase n)
theorem RlAll.dropLast{xs:List SV}{vs:List V}(h:RlAll K as H vs xs):RlAll K as H vs.dropLast xs.dropLast:=by
 rw[List.dropLast_eq_take,List.dropLast_eq_take,h.length];exact h.take _
theorem AO{Q:VK}{k:Nat}{a:Addr}{xs ys:List SV}{us:List V}{x:SV}{v:V}(ok:Ok K as H S)(e:S[k]?=some (.lst xs))(ea:as[k]?=some a)(r:RlAll K as H us ys)(h:Post K as H Q x (S.set k (.lst ys)))(rx:Rl K as H v x):Q v (upd H a (.lst us)):=by
 obtain⟨ok',ku⟩:=ok.write e ea r;exact h as _ v (Go.write (List.mem_of_getElem? ea)) ok' (Rl.mono (List.prefix_refl _) ku x v rx)
theorem NM:∀{m:MT} {Q:VK} {x:SV} {v:V} {xs:List SV} {vs:List V} (ok:Ok K as H S) (rx:Rl K as H v x) (r:RlAll K as H vs xs) (h:sMt m x xs S (Post K as H Q)),rMt m v vs H Q
 | .append,Q,x,v,xs,vs,ok,rx,r,h=>by
   replace h:=FY h;obtain⟨y,rfl,h⟩:=h;replace h:=DP h;obtain⟨k,rfl,ys,h1,h2,h3⟩:=h;obtain⟨a,us,rfl,ea,ha,ra⟩:=u5 ok rx h1;obtain⟨u,rfl,ru⟩:=Ea r;exact⟨a,us,u,rfl,rfl,ha,by rw[ra.length];exact CZ h2,AO ok h1 ea (ra.append (.cons ru .nil)) h3 (rl_non.mpr rfl)⟩
 | .extend,Q,x,v,xs,vs,ok,rx,r,h=>by
   replace h:=FY h;obtain⟨y,rfl,h⟩:=h;replace h:=DP h;obtain⟨k,rfl,h⟩:=h;replace h:=DP h;obtain⟨l,rfl,ys,zs,h1,h2,h3,h4⟩:=h;obtain⟨a,us,rfl,ea,ha,ra⟩:=u5 ok rx h1;obtain⟨u,rfl,ru⟩:=Ea r;obtain⟨b,ws,rfl,eb,hb,rb⟩:=u5 ok ru h2;exact⟨a,b,us,ws,rfl,rfl,ha,hb,by rw[ra.length,rb.length];exact Bp h3,AO ok h1 ea (ra.append rb) h4 (rl_non.mpr rfl)⟩
 | .pop,Q,x,v,xs,vs,ok,rx,r,h=>by
   replace h:=Rr h;obtain⟨k,rfl,h⟩:=h;rcases h with⟨rfl,ys,y,h1,h2,h3⟩ | ⟨i,rfl,ys,y,h1,h2,h3,h4,h5⟩
   ·obtain⟨a,us,rfl,ea,ha,ra⟩:=u5 ok rx h1;obtain⟨z,hz,rz⟩:=ra.get h2;rw[rla_nil.mp r];exact .inl ⟨a,us,z,rfl,rfl,ha,by rw[ra.length];exact hz,AO ok h1 ea ra.dropLast h3 rz⟩
   ·obtain⟨a,us,rfl,ea,ha,ra⟩:=u5 ok rx h1;obtain⟨u,rfl,ru⟩:=Ea r;obtain⟨z,hz,rz⟩:=ra.get h4;rw[rl_int.mp ru];have hb:big=100000:=rfl;refine .inr ⟨a,us,i,i.toNat,z,rfl,rfl,ha,by omega,by omega,?_,hz,AO ok h1 ea (ra.erase _) h5 rz⟩;rw[ra.length];exact PySem.seqIndex_of h2.1 h2.2
 | .insert,Q,x,v,xs,vs,ok,rx,r,h=>by
   replace h:=NH h;obtain⟨z,y,rfl,h⟩:=h;replace h:=DP h;obtain⟨k,rfl,h⟩:=h;replace h:=D8 h;obtain⟨i,rfl,ys,h1,h2,h3,h4⟩:=h;obtain⟨a,us,rfl,ea,ha,ra⟩:=u5 ok rx h1;obtain⟨u,w,rfl,ru,rw'⟩:=QC r;rw[rl_int.mp ru];exact⟨a,us,i,w,rfl,rfl,ha,h2.1,by rw[ra.length];exact h2.2,by rw[ra.length];exact CZ h3,AO ok h1 ea (ra.ins rw' _) h4 (rl_non.mpr rfl)⟩
 | .reverse,Q,x,v,xs,vs,ok,rx,r,h=>by
   replace h:=VF h;obtain⟨rfl,h⟩:=h;replace h:=DP h;obtain⟨k,rfl,ys,h1,h2⟩:=h;obtain⟨a,us,rfl,ea,ha,ra⟩:=u5 ok rx h1;rw[rla_nil.mp r];exact⟨a,us,rfl,rfl,ha,AO ok h1 ea ra.rev h2 (rl_non.mpr rfl)⟩
end
end Rf
namespace L2
open PySem PySem.Spec PyProof.Rows
def QH(lo:Int)(n:Nat):It:=⟨fun i _=>i<n,fun i H x H'=>H'=H/\x = .int (lo+i * 2),fun i _=>n<=i⟩
theorem Gb{P:Program}{w:World}{K:PySem.W.Frag}{tg:Expr}(it:Addr)(lo:Int)(n:Nat):Turn P w K tg (QH lo n) [it] it (fun i h=>IsRangeIter h it (lo+(i:Nat) * 2) ((n:Int) - (i:Nat)) 2) where
 mem:=by simp
 obj:=fun i h st b hb=>by
  have e:b=it:=by simpa using hb
  subst e
  exact⟨_,st,fun v z=>by
   have z':Data.fields _=Data.cell v:=z;cases z'⟩
 keep:=fun i h h' st k=>k it (by simp) _ st
 item:=by
  intro X hP hw hK hc i pins s σ H E I hf st hg;subst hP hw hK;obtain⟨f0,f1,f2,f3,f4,f5⟩:=hf it (by simp);have W:=Walks.range (prog:=X.prog) (w:=X.w) (I.ok.hd hc) it lo 2 n;refine W.item i s _ _ hg st fun v h' tk hv st' kk=>?_;obtain⟨t,rfl⟩:=hv;have I1:Inv X pins σ H {s with heap:=h',toks:=tk}:=I.turned (fun b o hb e=>kk b o (by simpa using hb) e) f0 f1 f3 f4 f5;exact⟨_,rfl,GG (s:={s with heap:=h',toks:=tk}) (n:="range_iterator") st' rfl rfl (by decide) ⟨.int (lo+i * 2),H,I1,⟨t,rfl⟩,⟨rfl,rfl⟩,st',fun b hb=>(hf b hb).1⟩⟩
 done:=by
   intro X hP hw hK hc i pins s σ H E I hf st hg;subst hP hw hK;obtain⟨f0,f1,f2,f3,f4,f5⟩:=hf it (by simp);exact wpAny_pyNext_range_end (I.ok.hd hc) st (by have:n<=i:=hg;omega) fun h' eb=>⟨rfl,I.turned (t':=s.toks) (fun b o hb e=>eb b o hb e) f0 f1 f3 f4 f5⟩
 self:=fun _ _ _ _ _ st h=>wpAny_pyIter_rangeiter st h
def CM(i j:Int):Nat:=(if i<j then (j - i - 1) / 2+1 else 0).toNat
theorem Gc(i j:Int):Builtin.Range.rangeSize i j 2=(CM i j:Int):=by
 unfold Builtin.Range.rangeSize CM;rw[if_pos (by decide)];split<;>omega
theorem L5{a b:Int}(ha:-(2 ^ 61)<=a)(ha':a<2 ^ 61)(hb:-(2 ^ 61)<=b)(hb':b<2 ^ 61):Builtin.Range.small a b 2=true:=by
 unfold Builtin.Range.small;rw[Gc];unfold CM;simp only[Builtin.Range.rangeFitsLong,Bool.and_eq_true,Bool.or_eq_true,decide_eq_true_eq,beq_iff_eq,show(2:Int)>0 by decide,if_true];split<;>omega
section
variable{X:Cx}{tg:Expr}
theorem L6{pins:List (Addr×Obj)}{σ:St}{H:Hp}{s:Shared}{R:It->Hp->Prop}{E:Value->Shared->Prop}{lo hi:Int}{t u v:Tok}{tk:Nat}(I:Inv X pins σ H s)(h1:-(2 ^ 61)<=lo)(h2:lo<2 ^ 61)(h3:-(2 ^ 61)<=hi)(h4:hi<2 ^ 61)
 (q:R (QH lo (CM lo hi)) H):wpAny (model X.prog X.w) X.A (pyIter (.ref s.heap.objs.size)) (PIE X pins σ tg R) E {s with heap:=s.heap.push {cls := .type "range",data := .fields #[.int lo t,.int hi u,.int 2 v]},toks:=tk}:=by
 refine wpAny_pyIter_range (IsRange.new ..) (L5 h1 h2 h3 h4) ?_;have I1:Inv X pins σ H {s with heap:=s.heap.push {cls := .type "range",data := .fields #[.int lo t,.int hi u,.int 2 v]},toks:=tk}:=I.kept fun b o e=>Heap.get?_push_of_some _ e
 refine⟨(s.heap.push {cls := .type "range",data := .fields #[.int lo t,.int hi u,.int 2 v]}).objs.size,[(s.heap.push {cls := .type "range",data := .fields #[.int lo t,.int hi u,.int 2 v]}).objs.size],_,_,H,rfl,
  I1.kept (t':=tk) fun b o e=>Heap.get?_push_of_some _ e,Gb _ lo (CM lo hi),?_,fun b hb=>?_,q⟩
 ·have e1:lo+((0:Nat):Int) * 2=lo:=by simp
  have e2:((CM lo hi:Nat):Int) - ((0:Nat):Int)=Builtin.Range.rangeSize lo hi 2:=by rw[Gc];simp
  show IsRangeIter _ _ (lo+((0:Nat):Int) * 2) (((CM lo hi:Nat):Int) - ((0:Nat):Int)) 2;rw[e1,e2];exact Heap.get?_push_size _ rfl
 ·have e:b=(s.heap.push {cls := .type "range",data := .fields #[.int lo t,.int hi u,.int 2 v]}).objs.size:=by simpa using hb
  subst e;exact I1.fpOk (Nat.le_refl _) (I1.hok.fresh (Nat.le_refl _))
def VL(ta:TA):TI:=fun σ H R=>ta σ H fun vs H1=>∃ i j:Int,vs=[.int i,.int j,.int 2]/\(-(2 ^ 61)<=i/\i<2 ^ 61 /\ -(2 ^ 61)<=j/\j<2 ^ 61)/\R (QH i (CM i j)) H1
theorem L7{a b c:Expr}{ta:TA}{p pos:Pos}(hg:Gl X "range")(hm:X.mg "range"=none)(ha:PA X [a,b,c] ta)(hs:starEach [a,b,c] X.env=[(false,eval a X.env),(false,eval b X.env),(false,eval c X.env)])(hs2:starEach [b,c] X.env=[(false,eval b X.env),(false,eval c X.env)]):
 PI X tg (.Call (.Name "range" p) [a,b,c] [] pos) (VL ta):=by
 intro pins s σ H R I h;refine Call_ (Be I hg hm boot_range (PyProof.Rows.callWith_type1 (thn (ha pos pins s σ H _ I h) fun us s1 ⟨vs,H1,I1,r1,q1⟩=>?_) (by rw[hs,hs2]) (by rw[hs2];rfl)));obtain⟨i,j,e,⟨q1,q2,q3,q4⟩,q⟩:=q1;subst e;cases r1 with
 | cons r rr=>
   cases rr with
   | cons r' rr=>
     cases rr with
     | cons r'' rr=>
       cases rr;obtain⟨t,rfl⟩:=r;obtain⟨t',rfl⟩:=r';obtain⟨t'',rfl⟩:=r'';exact call_range_3 (by decide) (L6 I1 q1 q2 q3 q4 q) (.inl (PyProof.noPylong_small (by decide)))
end
open PySem PySem.Spec PyProof.Rows
section
variable{X:Cx}{pins:List (Addr×Obj)}{σ:St}{H:Hp}{s:Shared}{a:Addr}{u u':HO}
theorem Inv.retag(I:Inv X pins σ H s)(hu:H a=some u)(h1:∀ xs,u ≠ .tup xs)(h2:∀ y,u ≠ .own y)(h3:∀ ps,u ≠ .tbl ps)(h4:∀ o xs,u ≠ .frz o (.lst xs))(new:ObjOk X.prog X.w (upd H a u') s.heap a u'):Inv X pins σ (upd H a u') s:=by
 have ne:∀ b,H b=none->b≠a:=fun b n z=>by rw[z,hu]at n;cases n
 refine⟨I.ok,I.os,I.bare,⟨I.base.keep,I.base.slot,fun b o e n hx=>?_,I.base.there,fun b xs e=>?_,fun b o w e=>?_,fun b ps e=>?_⟩,I.loc,I.cell,?_,fun x c e=>?_,fun p hp=>?_,fun b o e=>?_,I.len⟩
 ·have q:=I.base.free b o e n hx;rw[upd_ne (ne b q)];exact q
 ·have q:=I.base.tups b xs e;by_cases hb:b=a
  ·rw[hb,hu]at q;exact absurd (oj q) (h1 xs)
  ·rw[upd_ne hb];exact q
 ·have q:=I.base.frzs b o w e;by_cases hb:b=a
  ·rw[hb,hu]at q;exact absurd (oj q) (h4 o w)
  ·rw[upd_ne hb];exact q
 ·obtain⟨m,q⟩:=I.base.tbls b ps e;by_cases hb:b=a
  ·rw[hb,hu]at q;exact absurd (oj q) (h3 _)
  ·exact⟨m,by rw[upd_ne hb];exact q⟩
 ·rw[upd_ne (ne _ I.free)];exact I.free
 ·rw[upd_ne (ne _ (I.freeC x c e))];exact I.freeC x c e
 ·obtain⟨p1,p2,p3⟩:=I.pin p hp;exact⟨p1,by rw[upd_ne (ne _ p2)];exact p2,p3⟩
 ·by_cases hb:b=a
  ·subst hb;rw[f7]at e;cases e;exact new
  ·rw[upd_ne hb]at e;refine(I.hok b o e).stay (fun _ _ _ q=>q) (fun c q=>?_) (fun c xs q=>?_)
   ·by_cases hc:c=a
    ·rw[hc,hu]at q;exact absurd (oj q) (h2 _)
    ·rw[upd_ne hc];exact q
   ·by_cases hc:c=a
    ·rw[hc,hu]at q;exact absurd (oj q) (h1 _)
    ·rw[upd_ne hc];exact q
theorem Inv.freeze{ks:List (Key×V)}{o:Obj}(I:Inv X pins σ H s)(hu:H a=some (.dK ks))(ho:s.heap.get? a=some o):Inv X pins σ (upd H a (.frz o (.dK ks))) s:=
 I.retag hu nofun nofun nofun (fun _ _ z=>by cases z) ⟨ho,I.hok a _ hu⟩
theorem Inv.melt{ks:List (Key×V)}{o:Obj}(I:Inv X pins σ H s)(hu:H a=some (.frz o (.dK ks))):Inv X pins σ (upd H a (.dK ks)) s:=
 I.retag hu nofun nofun nofun (fun o' xs z=>by injection z with z1 z2;cases z2) (show ObjOk X.prog X.w H s.heap a (.frz o (.dK ks)) from I.hok a _ hu).2
end
theorem VM{P:Program}{w:World}{k:Key}{u:Value}(h:(m4 P w).is k u=true):RelV (kV k) u:=by
 rw[IB]at h;cases k with
 | inl i=>cases u<;>first | (cases h;done) | (simp[Ch,Value.isInt]at h;subst h;exact⟨_,rfl⟩)
 | inr x=>cases u<;>first | (cases h;done) | (simp[Ch,Value.isStrOf]at h;subst h;exact⟨_,rfl⟩)
def Itk(d:Addr)(o:Obj)(ks:List (Key×V)):It:=⟨fun i H=>i<ks.length/\H d=some (.frz o (.dK ks)),fun i H x H'=>H'=H/\∃ p,ks[i]?=some p/\x=kV p.1,fun i H=>ks.length<=i/\H d=some (.frz o (.dK ks))⟩
theorem NN{P:Program}{w:World}{H:Hp}{h:Heap}{d:Addr}{o:Obj}{ks:List (Key×V)}{es0:Array DictEntry}{ep:Nat}(hd:o.data = .dict es0 ep)(ok:HOk P w H h)(e:H d=some (.frz o (.dK ks))):∃ vs,KV ks vs/\h.DictAt (m4 P w) d vs ep:=by
 obtain⟨ho,_,_,vs,kv,o',es,ep',ho',ex,dat,keys,prs,nd⟩:=(show ObjOk P w H h d (.frz o (.dK ks)) from ok d _ e)
 rw[ho]at ho';cases ho';rw[hd]at dat;cases dat;exact⟨vs,kv,o,_,ho,ex,hd,keys,prs,nd⟩
theorem QI{P:Program}{w:World}{K:PySem.W.Frag}{tg:Expr}(it d:Addr)(o:Obj)(ks:List (Key×V)){es0:Array DictEntry}{ep:Nat}(hd:o.data = .dict es0 ep):Turn P w K tg (Itk d o ks) [it] it (fun i h=>h.IsKeyIter it d i ks.length ep) where
 mem:=by simp
 obj:=fun i h st b hb=>by
  have e:b=it:=by simpa using hb
  subst e;obtain⟨o,ho,_,hd⟩:=st;exact⟨o,ho,fun v z=>by rw[hd]at z;cases z⟩
 keep:=fun i h h' st k=>st.at fun o e=>k it (by simp) o e
 item:=by
  intro X hP hw hK hc i pins s σ H E I hf st hg;subst hP hw hK;obtain⟨f0,f1,f2,f3,f4,f5⟩:=hf it (by simp);obtain⟨vs,kv,dm⟩:=NN hd I.hok hg.2;have hl:ks.length=vs.length:=kv.length;have hi:i<vs.length:=by rw[<-hl];exact hg.1
  have hkk:ks[i].1=vs[i].1:=by
   have:=KV.keys kv;have h2:=congrArg (fun l=>l[i]?) this;simp only[List.getElem?_map,List.getElem?_eq_getElem hg.1,List.getElem?_eq_getElem hi]at h2;exact oj h2
  refine wpAny_pyNext_dict_item (by rw[<-hl];exact st) dm (List.getElem?_eq_getElem hi) fun key h' hkey hit' hs'=>?_;have I1:Inv X pins σ H {s with heap:=h'}:=I.turned (t':=s.toks) (fun b o hb e=>hs'.extBut b o hb e) f0 f1 f3 f4 f5;obtain⟨oi,hoi,hci,hdi⟩:=id hit';refine⟨_,rfl,GG (s:={s with heap:=h'}) (n:="dict_keyiterator") hoi hci hdi (by decide) ⟨kV ks[i].1,H,I1,?_,⟨rfl,ks[i],List.getElem?_eq_getElem hg.1,rfl⟩,by rw[<-hl]at hit';exact hit',fun b hb=>(hf b hb).1⟩⟩;rw[hkk];exact VM hkey
 done:=by
   intro X hP hw hK hc i pins s σ H E I hf st hg;subst hP hw hK;obtain⟨f0,f1,f2,f3,f4,f5⟩:=hf it (by simp);obtain⟨vs,kv,dm⟩:=NN hd I.hok hg.2;have hl:ks.length=vs.length:=kv.length;exact wpAny_pyNext_dict_end (I.ok.hd hc) (by rw[<-hl];exact st) dm (by rw[List.getElem?_eq_none];rw[<-hl];exact hg.1) fun h' he'=>⟨rfl,I.turned (t':=s.toks) (fun b o hb e=>he' b o hb e) f0 f1 f3 f4 f5⟩
 self:=fun _ _ _ _ _ st h=>wpAny_pyIter_keyiter st h
section
variable{X:Cx}{tg:Expr}
def iDk(td:TE):TI:=fun σ H R=>td σ H fun x H1=>∃ a ks,x = .ref a/\((H1 a=some (.dK ks)/\∀ o,R (Itk a o ks) (upd H1 a (.frz o (.dK ks))))\/∃ o,H1 a=some (.frz o (.dK ks))/\R (Itk a o ks) H1)
theorem VN{l:Expr}{td:TE}(hl:PE X l td):PI X tg l (iDk td):=by
 intro pins s σ H R I h;refine thn (hl pins s σ H _ I h) fun v s1 ⟨x,H1,I1,r1,q1⟩=>?_;obtain⟨a,ks,e,q⟩:=q1;subst e;cases r1
 have go:∀(H2:Hp) (o:Obj),Inv X pins σ H2 s1->H2 a=some (.frz o (.dK ks))->R (Itk a o ks) H2->wpAny (model X.prog X.w) X.A (pyIter (.ref a)) (PIE X pins σ tg R) X.xe s1:=fun H2 o I2 e2 q=>by
  obtain⟨ho,len,nsys,vs,kv,o',es,ep,ho',ex,dat,keys,prs,nd⟩:=(show ObjOk X.prog X.w H2 s1.heap a (.frz o (.dK ks)) from I2.hok a _ e2)
  rw[ho]at ho';cases ho';have hl:ks.length=vs.length:=kv.length;refine wpAny_pyIter_dict nsys (⟨o,es,ho,ex,dat,keys,prs,nd⟩:s1.heap.DictAt (m4 X.prog X.w) a vs ep) ?_;refine⟨s1.heap.objs.size,[s1.heap.objs.size],_,_,_,rfl,I2.kept (t':=s1.toks) fun b o e=>Heap.get?_push_of_some _ e,QI s1.heap.objs.size a o ks dat,⟨_,Heap.get?_push_size _ rfl,rfl,by rw[hl];rfl⟩,fun b hb=>?_,q⟩;have e:b=s1.heap.objs.size:=by simpa using hb
  subst e;exact I2.fpOk (Nat.le_refl _) (I2.hok.fresh (Nat.le_refl _))
 rcases q with⟨hq,q⟩ | ⟨o,hq,q⟩
 ·obtain⟨_,_,_,_,o,_,_,ho,_⟩:=(show ObjOk X.prog X.w H1 s1.heap a (.dK ks) from I1.hok a _ hq)
  exact go _ o (I1.freeze hq ho) f7 (q o)
 ·exact go _ o I1 hq q
def WF(H H':Hp):Prop:=∃ a o ks,H a=some (.frz o (.dK ks))/\H'=upd H a (.dK ks)
def NO(td ty tv:TE):TS:=fun D σ H=>tv σ H fun v H1=>td σ H1 fun x H2=>ty σ H2 fun y H3=>∃ a H3' H4,x = .ref a/\(H3'=H3\/WF H3 H3')/\V3 H3' a y v H4/\D.nx σ H4
theorem NP{o i value:Expr}{pos pos':Pos}{td ty tv:TE}(hu:X.A.units+1<cLine)(ho:PE X o td)(hi:PE X i ty)(hv:PE X value tv)(hs:swapsWith value (some (.Subscript o i pos')) pos.line X.env=pure false):
 PS X (.Assign [.Subscript o i pos'] value pos) (NO td ty tv):=by
 intro pins s σ H D I h;refine wpAny_Assign_Subscript (thn (hv pins s σ H _ I h) fun r s1 ⟨v,H1,I1,rv,q1⟩=>thn (ho pins s1 σ H1 _ I1 q1) fun u s2 ⟨x,H2,I2,rx,q2⟩=>thn (hi pins s2 σ H2 _ I2 q2) fun iv s3 ⟨y,H3,I3,ry,a,H3',H4,ex,m,g,q3⟩=>?_) hs;subst ex;obtain rfl:u=Value.ref a:=rx
 have I3':Inv X pins σ H3' s3:=by
  rcases m with rfl | ⟨b,o',ks,e1,rfl⟩
  ·exact I3
  ·exact I3.melt e1
 exact Kv hu I3' g ry rv fun s4 I4=>⟨σ,H4,I4,q3⟩
end
open PySem PySem.Spec PyProof.Rows
section
variable{X:Cx}
def NQ(X:Cx)(f:Value)(ks:List Str)(r:List V->List V->Hp->VK->Prop):Prop:=
 ∀(pins:List (Addr×Obj)) (s:Shared) (σ:St) (H:Hp) (vs zs:List V) (us ws:List Value) (Q:VK),Inv X pins σ H s->Vals vs us->Vals zs ws->r vs zs H Q->wpAny (model X.prog X.w) X.A (call f us (ks.zip ws)) (EP X pins σ Q) X.xe s
def WG(r:List V->List V->Hp->VK->Prop)(t tk:TA):TE:=fun σ H Q=>t σ H fun vs H1=>tk σ H1 fun zs H2=>r vs zs H2 Q
theorem L8{id:String}{ks:List Str}{r:List V->List V->Hp->VK->Prop}{x:Str}{p pos:Pos}{e:Expr}{es:List Expr}{kws:List Keyword}{t tk:TA}(hc:NQ X (.builtin id) ks r)(hg:Gl X x)(hm:X.mg x=none)(hv:bootBuiltins x=some (.builtin id))(ha:PA X (e::es) t)(hkw:PK X kws tk)
 (hks:(backToKw pos (keywordEach kws X.env)).filterMap (·.1)=ks:=by rfl) (hn:x≠"__name__":=by decide) (hdb:(x == ("__debug__":Str))=false:=by decide)
 (he:backTo pos (starEach (e::es) X.env)=(false,eval e X.env)::backTo pos (starEach es X.env):=by rfl) (hpl:(backTo pos (starEach (e::es) X.env)).any (·.1)=false:=by rfl)
 (hall:(backToKw pos (keywordEach kws X.env)).all (·.1.isSome)=true:=by rfl) (hno:(backToKw pos (keywordEach kws X.env)).any (·.1.isNone)=false:=by rfl):PE X (.Call (.Name x p) (e::es) kws pos) (WG r t tk):=by
 intro pins s σ H Q I h;refine wpAny_Call_Name_kw (Be I hg hm hv ?_ hn hdb);refine callWith_kw (thn (ha pos pins s σ H _ I h) fun us s1 ⟨vs,H1,I1,r1,q1⟩=>thn (hkw pos pins s1 σ H1 _ I1 q1) fun ws s2 ⟨zs,H2,I2,r2,q2⟩=>?_) he hpl hall hno;rw[hks];exact hc pins s2 σ H2 vs zs us ws Q I2 r1 r2 q2
end
open PySem PySem.Spec PyProof.Rows
section
variable{prog:Program}{w:World}{A:Around}{R:Result->Shared->Prop}{I:Addr}{fp wr:List Addr}{n:Nat}{P:Nat->Value->Prop}{St:Nat->Heap->Prop}
structure CmpMx(prog:Program)(w:World)(A:Around)(wr:List Addr)(S:Addr)(P:Nat->Value->Prop)(bt:Nat->Nat->Bool)(G:Heap->Prop):Prop where
 keep:∀ h h',G h->(∀ b o,b∉wr->b≠S->h.get? b=some o->h'.get? b=some o)->G h'
 cmp:∀(s:Shared),G s.heap->∀(i j:Nat) (vi vj:Value) (Q:Value->Shared->Prop) (E:Value->Shared->Prop),P i vi->P j vj->Q (.bool (bt i j)) s->wpAny (model prog w) A (richCompare .Gt vi vj) Q E s
theorem Fa{kw:List (Str×Value)}(W:Walks prog w A.in1 I fp wr n P St){bt:Nat->Nat->Bool}{S:Addr}{G:Heap->Prop}(C:CmpMx prog w A.in1 wr S P bt G)(hSf:S∉fp)(k:Nat):
 ∀(j:Nat) (s:Shared) (vb:Value) (c:Nat),n=j+1+k->St (j+1) s.heap->G s.heap->P (argBest bt j) vb->
 s.heap.get? S=some {cls := .type "list",dict:=none,data := .seq #[vb,vb] c,slots:=#[]}->
 (∀ v h' tk,P (argBest bt (n - 1)) v->(∀ b o,b∉wr->b≠S->s.heap.get? b=some o->h'.get? b=some o)->R (.ok (.ret v)) {s with heap:=h',toks:=tk})->
 codeAny (model prog w) A (.builtin "max.loop" ⟨[.ref I,.none,.ref S],kw⟩) R s:=by
 have hSw:S∉wr:=fun z=>hSf (W.sub _ z);have nm:(toString "max"++toString ".loop":String)="max.loop":=by decide
 induction k with
 | zero=>
   intro j s vb c hk hst hG hPb hS hR;refine codeAny_builtin F.entry_max_loop ?_;rw[Around.under_plainId F.plain_max_loop _];refine wpAny_bind (m:=seqItems? (.ref S)) (wpAny_seqItems hS rfl ?_);have hst':St n s.heap:=by rw[hk];exact hst
   refine wpAny_bind (m:=tryCatch (pyNext (.ref I)) _) (wpAny_tryCatch (W.done s _ _ hst' fun h1 tk k1=>?_));have hS1:=k1 S _ hSw hS;refine wpAny_bind (m:=updateSeq S (fun _=>#[])) (wpAny_updateSeq hS1 rfl (wpAny_bind (wpAny_letGo (wpAny_pure ?_))));exact hR vb _ tk (by rw[hk];exact hPb) fun b o hb hn e=>(Heap.get?_update_other _ _ (Ne.symm hn)).trans (k1 b o hb e)
 | succ k ih=>
   intro j s vb c hk hst hG hPb hS hR;refine codeAny_builtin F.entry_max_loop ?_;rw[Around.under_plainId F.plain_max_loop _];refine wpAny_bind (m:=seqItems? (.ref S)) (wpAny_seqItems hS rfl ?_);refine wpAny_bind (m:=tryCatch (pyNext (.ref I)) _) (wpAny_tryCatch (W.item (j+1) s _ _ (by omega) hst fun v h1 tk hP st1 k1=>?_));have hS1:=k1 S _ hSw hS;have hG1:=C.keep _ _ hG fun b o hb _ e=>k1 b o hb e;refine wpAny_bind (m:=tryCatch (holding [v,v] (richCompare .Gt v vb >>= _)) _) (wpAny_tryCatch (wpAny_holding (wpAny_bind (C.cmp _ hG1 (j+1) (argBest bt j) v vb _ _ hP hPb ?_))));refine wpAny_bind (wpAny_holding (wpAny_truthy_bool (wpAny_bind (wpAny_letGo (wpAny_pure ?_)))));cases hb:bt (j+1) (argBest bt j) with
   | true=>
     simp only[if_true];refine wpAny_bind (wpAny_updateSeq hS1 rfl (wpAny_bind (wpAny_letGo ?_)));rw[nm];have up:∀ b o,b≠S->h1.get? b=some o->(Heap.update h1 S (Obj.mapSeq fun _=>#[v,v])).get? b=some o:=fun b o hn e=>(Heap.get?_update_other _ _ (Ne.symm hn)).trans e;refine wpAny_pure ⟨plainId_quiet F.plain_max_loop _,ih (j+1) _ v _ (by omega) (W.frame _ _ _ st1 fun b hbf o e=>up b o (fun z=>hSf (z▸hbf)) e) (C.keep _ _ hG1 fun b o _ hn e=>up b o hn e) ?_ (Heap.get?_update_self _ hS1 rfl) fun v' h2 tk2 hP' k2=>?_⟩
     ·simp only[argBest,hb,if_true];exact hP
     ·exact hR v' h2 tk2 hP' fun b o hbw hn e=>k2 b o hbw hn (up b o hn (k1 b o hbw e))
   | false=>
     simp only[Bool.false_eq_true,if_false];refine wpAny_bind (wpAny_letGo ?_);rw[nm];refine wpAny_pure ⟨plainId_quiet F.plain_max_loop _,ih (j+1) _ vb c (by omega) st1 hG1 ?_ hS1 fun v' h2 tk2 hP' k2=>?_⟩
     ·simp only[argBest,hb,Bool.false_eq_true,if_false];exact hPb
     ·exact hR v' h2 tk2 hP' fun b o hbw hn e=>k2 b o hbw hn (k1 b o hbw e)
theorem Eb{d:Value}(W:Walks prog w A.in1 I fp wr n P St){bt:Nat->Nat->Bool}{S:Addr}{G:Heap->Prop}(C:CmpMx prog w A.in1 wr S P bt G)(hSf:S∉fp){s:Shared}{c:Nat}(hst:St 0 s.heap)(hG:G s.heap)
 (hS:s.heap.get? S=some {cls := .type "list",dict:=none,data := .seq #[] c,slots:=#[]})
 (h0:n=0->∀ h' tk,(∀ b o,b∉wr->b≠S->s.heap.get? b=some o->h'.get? b=some o)->R (.ok (.ret d)) {s with heap:=h',toks:=tk})
 (hR:0<n->∀ v h' tk,P (argBest bt (n - 1)) v->(∀ b o,b∉wr->b≠S->s.heap.get? b=some o->h'.get? b=some o)->R (.ok (.ret v)) {s with heap:=h',toks:=tk}):
 codeAny (model prog w) A (.builtin "max.loop" ⟨[.ref I,.none,.ref S],[(Str.ofString "default",d)]⟩) R s:=by
 have hSw:S∉wr:=fun z=>hSf (W.sub _ z);have nm:(toString "max"++toString ".loop":String)="max.loop":=by decide
 refine codeAny_builtin F.entry_max_loop ?_;rw[Around.under_plainId F.plain_max_loop _];refine wpAny_bind (m:=seqItems? (.ref S)) (wpAny_seqItems hS rfl ?_);by_cases hn:n=0
 ·subst hn;refine wpAny_bind (m:=tryCatch (pyNext (.ref I)) _) (wpAny_tryCatch (W.done s _ _ hst fun h1 tk k1=>?_));exact wpAny_bind (wpAny_rule (wpAny_pure (h0 rfl h1 tk fun b o hb _ e=>k1 b o hb e)))
 ·refine wpAny_bind (m:=tryCatch (pyNext (.ref I)) _) (wpAny_tryCatch (W.item 0 s _ _ (by omega) hst fun v h1 tk hP st1 k1=>?_));have hS1:=k1 S _ hSw hS;have up:∀ b o,b≠S->h1.get? b=some o->(Heap.update h1 S (Obj.mapSeq fun _=>#[v,v])).get? b=some o:=fun b o hn e=>(Heap.get?_update_other _ _ (Ne.symm hn)).trans e;refine wpAny_bind (m:=updateSeq S (fun _=>#[v,v])) (wpAny_updateSeq hS1 rfl ?_);rw[nm];refine wpAny_pure ⟨plainId_quiet F.plain_max_loop _,Fa W C hSf (n - 1) 0 _ v _ (by omega) (W.frame _ _ _ st1 fun b hbf o e=>up b o (fun z=>hSf (z▸hbf)) e) (C.keep _ _ (C.keep _ _ hG fun b o hb _ e=>k1 b o hb e) fun b o _ hn e=>up b o hn e) hP (Heap.get?_update_self _ hS1 rfl) fun v' h2 tk2 hP' k2=>?_⟩;exact hR (by omega) v' h2 tk2 hP' fun b o hbw hn e=>k2 b o hbw hn (up b o hn (k1 b o hbw e))
end
theorem Fb(a v:Value):argsOk "max" ⟨[a],[(Str.ofString "default",v)]⟩:=by unfold argsOk;kernel_rfl
section
variable{prog:Program}{w:World}{A:Around}{E:Value->Shared->Prop}{s:Shared}
theorem Fc{l:Addr}{items:Array Value}{d:Value}{Q:Value->Shared->Prop}(hh:A.handled=none)(hl:s.heap.IsList l items)(bt:Nat->Nat->Bool)(G:Heap->Prop)(hG:G s.heap)
 (hkeep:∀ h h',G h->(∀ b o,b<s.heap.objs.size->h.get? b=some o->h'.get? b=some o)->G h')
 (hcmp:∀(s':Shared),G s'.heap->∀(i j:Nat) (vi vj:Value) (Q:Value->Shared->Prop) (E:Value->Shared->Prop),items[i]?=some vi->items[j]?=some vj->Q (.bool (bt i j)) s'->wpAny (model prog w) A.in1 (richCompare .Gt vi vj) Q E s')
 (h0:items.size=0->∀ h' tk,(∀ b o,s.heap.get? b=some o->h'.get? b=some o)->Q d {s with heap:=h',toks:=tk})
 (hR:0<items.size->∀ v h' tk,items[argBest bt (items.size - 1)]?=some v->(∀ b o,s.heap.get? b=some o->h'.get? b=some o)->Q v {s with heap:=h',toks:=tk}):
 wpAny (model prog w) A (call (.builtin "max") [.ref l] [(Str.ofString "default",d)]) Q E s:=by
 have nm:(toString "max"++toString ".loop":String)="max.loop":=by decide
 have hlt:l<s.heap.objs.size:=by obtain⟨o,ho,_⟩:=hl;exact Heap.lt_size ho
 refine kmb_tree F.kind_max F.plain_max F.entry_max (Fb _ _) ?_;refine wpAny_bind (m:=Builtin.Builtins.bindParams "max" ["key","default"] 0 ⟨[],[(Str.ofString "default",d)]⟩) (wpAny_of_eq (show Builtin.Builtins.bindParams "max" ["key","default"] 0 ⟨[],[(Str.ofString "default",d)]⟩=pure [none,some d] from rfl) ?_);refine wpAny_bind (wpAny_pure ?_);refine wpAny_bind (wpAny_pyIter_list hl ?_);refine wpAny_bind (wpAny_newObj_type ?_);rw[nm];have W:=Walks.list (prog:=prog) (w:=w) (A:=A.in1) hh s.heap.objs.size l (Nat.ne_of_lt hlt) items;have k1:∀ b o,s.heap.get? b=some o->((s.heap.push {cls := .type "list_iterator",data := .fields #[.ref l,.int 0 0]}).push {cls := .type "list",data := .seq ([]:List Value).toArray}).get? b=some o:=fun b o e=>Heap.get?_push_of_some _ (Heap.get?_push_of_some _ e);have nS:(s.heap.push {cls := .type "list_iterator",data := .fields #[.ref l,.int 0 0]}).objs.size=s.heap.objs.size+1:=by simp[Heap.size_push]
 have C:CmpMx prog w A.in1 [s.heap.objs.size] (s.heap.push {cls := .type "list_iterator",data := .fields #[.ref l,.int 0 0]}).objs.size (fun i v=>items[i]?=some v) bt G:=⟨fun h h' g k=>hkeep h h' g fun b o hb e=>k b o (by simp;exact Nat.ne_of_lt hb) (by rw[nS];exact Nat.ne_of_lt (Nat.lt_succ_of_lt hb)) e,hcmp⟩
 have old:∀(h:Heap),(∀ b o,b∉[s.heap.objs.size]->b≠(s.heap.push {cls := .type "list_iterator",data := .fields #[.ref l,.int 0 0]}).objs.size->((s.heap.push {cls := .type "list_iterator",data := .fields #[.ref l,.int 0 0]}).push {cls := .type "list",data := .seq ([]:List Value).toArray}).get? b=some o->h.get? b=some o)->∀ b o,s.heap.get? b=some o->h.get? b=some o:=fun h k b o e=>k b o (by simp;exact Nat.ne_of_lt (Heap.lt_size e)) (by rw[nS];have:=Heap.lt_size e;exact Nat.ne_of_lt (Nat.lt_succ_of_lt this)) (k1 b o e);refine wpAny_pure ⟨plainId_quiet F.plain_max_loop _,Eb (d:=d) W C ?_ ?_ (hkeep _ _ hG fun b o _ e=>k1 b o e) (Heap.get?_push_size _ rfl) (fun hz h' tk k=>h0 hz h' tk (old h' k)) (fun hz v h' tk hv k=>hR hz v h' tk hv (old h' k))⟩
 ·rw[nS];simp only[List.mem_cons,List.not_mem_nil,or_false,not_or];exact⟨Nat.succ_ne_self _,fun z=>absurd hlt (by rw[<-z];exact Nat.not_lt_of_gt (Nat.lt_succ_self _))⟩
 ·exact⟨⟨_,Heap.get?_push_of_some _ (Heap.get?_push_size _ rfl),rfl,rfl⟩,hl.at fun o e=>k1 _ _ e⟩
end
section
variable{X:Cx}
def gtB(ns:List Int)(a b:Nat):Bool:=decide (ns.getD a 0>ns.getD b 0)
theorem Jk(ns:List Int):∀ k j,j<=k->ns.getD j 0<=ns.getD (argBest (gtB ns) k) 0
 | 0,j,hj=>by
   have:j=0:=by omega
   subst this;exact Int.le_refl _
 | k+1,j,hj=>by
   have ih:=Jk ns k;simp only[argBest];split
   ·rename_i hb;have hb:=of_decide_eq_true hb;by_cases e:j=k+1
    ·subst e;exact Int.le_refl _
    ·have:=ih j (by omega);omega
   ·rename_i hb;have hb:¬ ns.getD (k+1) 0>ns.getD (argBest (gtB ns) k) 0:=fun z=>hb (decide_eq_true z);by_cases e:j=k+1
    ·subst e;omega
    ·exact ih j (by omega)
theorem Gd(bt:Nat->Nat->Bool):∀ k,argBest bt k<=k
 | 0=>Nat.le_refl _
 | k+1=>by
   simp only[argBest];split
   ·exact Nat.le_refl _
   ·exact Nat.le_succ_of_le (Gd bt k)
def Grt(ns:List Int)(m:Int):Prop:=m∈ns/\∀ n∈ns,n<=m
theorem Ge{ns:List Int}(h:0<ns.length):Grt ns (ns.getD (argBest (gtB ns) (ns.length - 1)) 0):=by
 have hb:=Gd (gtB ns) (ns.length - 1);have hlt:argBest (gtB ns) (ns.length - 1)<ns.length:=by omega
 refine⟨by rw[show ns.getD (argBest (gtB ns) (ns.length - 1)) 0=ns[argBest (gtB ns) (ns.length - 1)] by simp[List.getD,hlt]];exact List.getElem_mem hlt,fun n hn=>?_⟩;obtain⟨j,hj⟩:=List.getElem?_of_mem hn;have hjl:=(gM hj).1;have:=Jk ns (ns.length - 1) j (by omega);rw[show ns.getD j 0=n by simp[List.getD,hj]]at this;exact this
def VO:List V->List V->Hp->VK->Prop:=fun xs zs H Q=>∃ l ns d,xs=[.ref l]/\zs=[.int d]/\H l=some (.lst (ns.map V.int))/\(ns=[]->Q (.int d) H)/\∀ m,Grt ns m->Q (.int m) H
theorem DU{ns:List Int}{its:List Value}(rv:Vals (ns.map V.int) its){i:Nat}{v:Value}(h:its[i]?=some v):∃ n t,ns[i]?=some n/\v = .int n t:=by
 have hl:=rv.length;rw[List.length_map]at hl;have hi:i<ns.length:=by have:=(gM h).1;omega
 have e:(ns.map V.int)[i]?=some (.int ns[i]):=by simp[hi]
 obtain⟨u,eu,ru⟩:=rv.get e;rw[h]at eu;cases eu;obtain⟨t,rfl⟩:=ru;exact⟨_,t,by simp[hi],rfl⟩
theorem L9(hc:X.calm=true):NQ X (.builtin "max") ["default"] VO:=by
 intro pins s σ H xs zs us ws Q I r rz h;obtain⟨l,ns,d,rfl,rfl,hl,q0,q1⟩:=h;obtain⟨u,rfl,ru⟩:=BY r;cases ru;obtain⟨z,rfl,rz'⟩:=BY rz;obtain⟨t,rfl⟩:=rz';obtain⟨its,rv,pl,hz⟩:=I.list (SqL.of hl);have hl2:ns.length=its.length:=by have:=rv.length;rwa [List.length_map]at this
 refine Fc (I.ok.hd hc) pl.isList (gtB ns) (fun _=>True) trivial (fun _ _ _ _=>trivial) ?_ ?_ ?_
 ·intro s' _ i j vi vj Q' E' hi hj q
  exact CmpOf.ints_gt (P:=fun i v=>its.toArray[i]?=some v) (fun i=>ns.getD i 0) (fun i v h=>by
   obtain⟨n,t1,e1,rfl⟩:=DU rv (show its[i]?=some v by simpa using h);exact⟨t1,by simp[List.getD,e1]⟩) i j vi vj s' Q' E' hi hj q
 ·intro hz' h' tk k
  have:ns=[]:=by
   cases ns with
   | nil=>rfl
   | cons p r=>rw[List.size_toArray]at hz';simp at hl2;omega
  exact⟨.int d,H,I.kept (t':=tk) k,⟨t,rfl⟩,q0 this⟩
 ·intro hp v h' tk hv k;obtain⟨n,t1,e1,rfl⟩:=DU rv (show its[argBest (gtB ns) (its.toArray.size - 1)]?=some v by simpa using hv);have hsz:its.toArray.size=ns.length:=by rw[List.size_toArray];omega
  rw[hsz]at e1 hp;have g:=Ge hp;rw[show ns.getD (argBest (gtB ns) (ns.length - 1)) 0=n by simp[List.getD,e1]]at g;exact⟨.int n,H,I.kept (t':=tk) k,⟨t1,rfl⟩,q1 n g⟩
theorem LA(hc:X.calm=true):CallR X (.builtin "max") (fun xs H Q=>∃ l ns,xs=[.ref l]/\H l=some (.lst (ns.map V.int))/\0<ns.length/\∀ m,Grt ns m->Q (.int m) H):=by
 intro pins s σ H xs us Q I r h;obtain⟨l,ns,rfl,hl,hn,q1⟩:=h;obtain⟨u,rfl,ru⟩:=BY r;cases ru;obtain⟨its,rv,pl,hz⟩:=I.list (SqL.of hl);have hl2:ns.length=its.length:=by have:=rv.length;rwa [List.length_map]at this
 have hlt:l<s.heap.objs.size:=by obtain⟨o,ho,_⟩:=pl.isList;exact Heap.lt_size ho
 have hne:l≠s.heap.objs.size:=Nat.ne_of_lt hlt;refine call_max_walk (wpAny_pyIter_list pl.isList ⟨s.heap.objs.size,[s.heap.objs.size,l],[s.heap.objs.size],its.toArray.size,_,_,gtB ns,rfl,Walks.list (prog:=X.prog) (w:=X.w) (A:=X.A.in1) (I.ok.hd hc) s.heap.objs.size l hne its.toArray,?_,?_,?_,?_,?_⟩)
 ·exact⟨⟨_,Heap.get?_push_size _ rfl,rfl,rfl⟩,pl.isList.at fun o e=>Heap.get?_push_of_some _ e⟩
 ·intro b hb;rcases List.mem_cons.mp hb with rfl | hb
  ·show _<(s.heap.push _).objs.size;rw[Heap.size_push];exact Nat.lt_succ_self _
  ·rw[List.mem_singleton.mp hb];show _<(s.heap.push _).objs.size;rw[Heap.size_push];exact Nat.lt_succ_of_lt hlt
 ·rw[List.size_toArray];omega
 ·exact CmpOf.ints_gt (fun i=>ns.getD i 0) (fun i v h=>by
   obtain⟨n,t1,e1,rfl⟩:=DU rv (show its[i]?=some v by simpa using h);exact⟨t1,by simp[List.getD,e1]⟩)
 ·intro v h' tk hv k;obtain⟨n,t1,e1,rfl⟩:=DU rv (show its[argBest (gtB ns) (its.toArray.size - 1)]?=some v by simpa using hv);have hsz:its.toArray.size=ns.length:=by rw[List.size_toArray];omega
  rw[hsz]at e1;have g:=Ge hn;rw[show ns.getD (argBest (gtB ns) (ns.length - 1)) 0=n by simp[List.getD,e1]]at g;refine⟨.int n,H,I.kept (t':=tk) (fun b o e=>k b o (fun z=>?_) (Heap.get?_push_of_some _ e)),⟨t1,rfl⟩,q1 n g⟩;rw[List.mem_singleton.mp z]at e;exact Nat.lt_irrefl _ (Heap.lt_size e)
end
end L2
namespace Rf
open PySem L2
mutual
inductive Tg where
 | nm (i:Nat) | tup (ts:Tgs)
inductive Tgs where
 | nil | cons (t:Tg) (ts:Tgs)
end
mutual
inductive Ex where
 | var (i:Nat) | c (x:SV) | op (o:Operator) (a b:Ex) | neg (a:Ex) | cmp (o:CmpOp) (a b:Ex) | chn (o p:CmpOp) (a b c:Ex)
 | and (a b:Ex) | or (a b:Ex) | not (a:Ex) | ife (t a b:Ex) | tup (es:Exs) | lst (es:Exs) | ix (a b:Ex) | slc (a:Ex) (lo hi:Eo)
 | call (f:Nat) (es:Exs) | bi (b:BI) (es:Exs) | mt (m:MT) (a:Ex) (es:Exs) | comp (own cn:List Str) (js:List Nat) (g:Tg) (it:Itb) (t:Eo) (e:Ex) | comp2 (own cn:List Str) (js:List Nat) (g:Tg) (it:Itb) (t:Eo) (g2:Tg) (it2:Itb) (t2:Eo) (e:Ex) | tyc (t:TyN) | lrng1 (a:Ex) | rev (a:Ex) | max1 (a:Ex) | maxd (a d:Ex) | dcomp (own cn:List Str) (js:List Nat) (g:Tg) (it:Itb) (t:Eo) (e f:Ex) | srtsc (own cn:List Str) (js:List Nat) (g:Tg) (it:Itb) (t:Eo) (e:Ex) | eqt0 (a b:Ex) | dget (a b:Ex) | din (n:Bool) (a b:Ex) | no
inductive Exs where
 | nil | cons (e:Ex) (es:Exs)
inductive Eo where
 | no | yes (e:Ex)
inductive Itb where
 | seq (e:Ex) | rng1 (a:Ex) | enum (e:Ex) | rngT (a b:Ex) | dk (e:Ex)
end
inductive Stm where
 | asg (t:Tg) (e:Ex) | put (o i e:Ex) | augS (o i e:Ex) | dput (o i e:Ex) | expr (e:Ex) | iff (t:Ex) (a b:List Stm) | loop (g:Tg) (it:Itb) (b:List Stm) | whl (t:Ex) (b:List Stm)
 | ret (e:Ex) | retN | no
def sOp:Operator->S2
 | .Add=>NA
 | .Sub=>Cn fun i j => .int (i - j)
 | .Mult=>NB
 | .FloorDiv=>IU Uf fun i j => .int (i / j)
 | .Mod=>IU (fun _ j=>0<j) fun i j => .int (i % j)
 | .Pow=>IU Ug fun i j => .int (i ^ j.toNat)
 | _=>fun _ _ _ _=>False
def BR:CmpOp->S2
 | .Eq=>sEq
 | .NotEq=>sNe
 | .Lt=>Cn fun i j => .bl (decide (i<j))
 | .LtE=>Cn fun i j => .bl (decide (i<=j))
 | .Gt=>Cn fun i j => .bl (decide (j<i))
 | .GtE=>Cn fun i j => .bl (decide (j<=i))
 | .In=>sIn false
 | .NotIn=>sIn true
 | .Is=>ND false
 | .IsNot=>ND true
def NR:S1
 | .int i,S,Q=>Q (.int (-i)) S
 | _,_,_=>False
def NS:SV->Sto->Option Bool
 | .bl b,_=>some b
 | .loc k,S=>match S[k]? with | some (.lst xs)=>some (!xs.isEmpty) | _=>none
 | _,_=>none
def Te(w:WE):WT:=fun ρ S Q=>w ρ S fun x S'=>∃ b,NS x S'=some b/\Q b S'
def NT(a b:WE):WE:=fun ρ S Q=>a ρ S fun x S1=>∃ c,x = .bl c/\if c=true then b ρ S1 Q else Q (.bl false) S1
def wOr(a b:WE):WE:=fun ρ S Q=>a ρ S fun x S1=>∃ c,x = .bl c/\if c=true then Q (.bl true) S1 else b ρ S1 Q
def QJ(a:WE):WE:=fun ρ S Q=>a ρ S fun x S1=>∃ c,x = .bl c/\Q (.bl (!c)) S1
def Dz(a b:WT):WT:=fun ρ S Q=>a ρ S fun c S1=>if c=true then b ρ S1 Q else Q false S1
def IY(a b:WT):WT:=fun ρ S Q=>a ρ S fun c S1=>if c=true then Q true S1 else b ρ S1 Q
def Jl(a:WT):WT:=fun ρ S Q=>a ρ S fun c S1=>Q (!c) S1
def QK(t:WT)(a b:WE):WE:=fun ρ S Q=>t ρ S fun c S1=>if c=true then a ρ S1 Q else b ρ S1 Q
def NU(s s':S2)(a b c:WE):WE:=fun ρ S Q=>a ρ S fun x S1=>b ρ S1 fun y S2=>s x y S2 fun z S3=>∃ k,z = .bl k/\if k=true then c ρ S3 fun u S4=>s' y u S4 Q else Q (.bl false) S3
abbrev WO:=EnvS->Sto->(Option Int->Sto->Prop)->Prop
def Tf:WO:=fun _ S Q=>Q none S
def NV(w:WE):WO:=fun ρ S Q=>w ρ S fun x S1=>∃ i,x = .int i/\Q (some i) S1
def Fd(xs:List SV)(lo hi:Option Int):List SV:=(xs.drop (HT.sIx xs.length 0 lo)).take (HT.sIx xs.length xs.length hi - HT.sIx xs.length 0 lo)
def NW:SV->Option Int->Option Int->Sto->QE->Prop
 | .loc k,lo,hi,S,Q=>∃ xs,S[k]?=some (.lst xs)/\Q (.loc S.length) (S++[.lst (Fd xs lo hi)])
 | .tup xs,lo,hi,S,Q=>Q (.tup (Fd xs lo hi)) S
 | _,_,_,_,_=>False
def Th(a:WE)(lo hi:WO):WE:=fun ρ S Q=>a ρ S fun x S1=>lo ρ S1 fun l S2=>hi ρ S2 fun h S3=>NW x l h S3 Q
abbrev WI:=EnvS->Sto->((Sto->Prop)->List SV->Sto->Prop)->Prop
def DL:SV->Sto->Sto->Prop
 | .loc k,S,S'=>S'[k]?=S[k]?
 | _,_,_=>True
def Rs(w:WE):WI:=fun ρ S R=>w ρ S fun x S1=>∃ xs,BF x S1=some xs/\R (DL x S1) xs S1
def CN(lo hi:Int):List SV:=(List.range (hi - lo).toNat).map fun(i:Nat) => .int (lo+i)
def NX(w:WE):WI:=fun ρ S R=>w ρ S fun x S1=>∃ j,x = .int j/\(-(2 ^ 62)<=j/\j<2 ^ 62)/\R (fun _=>True) (CN 0 j) S1
def rngT(lo hi:Int):List SV:=(List.range (CM lo hi)).map fun(i:Nat) => .int (lo+i * 2)
def NY(w u:WE):WI:=fun ρ S R=>w ρ S fun x S1=>u ρ S1 fun y S2=>∃ i j,x = .int i/\y = .int j/\(-(2 ^ 61)<=i/\i<2 ^ 61 /\ -(2 ^ 61)<=j/\j<2 ^ 61)/\R (fun _=>True) (rngT i j) S2
def Br(xs:List SV):List SV:=(List.range xs.length).zipWith (fun(i:Nat) x => .tup [.int i,x]) xs
def NZ(w:WE):WI:=fun ρ S R=>w ρ S fun x S1=>∃ xs,BF x S1=some xs/\R (DL x S1) (Br xs) S1
def IZ(a:WE):WE:=fun ρ S Q=>a ρ S fun x S1=>∃ j,x = .int j/\(-(2 ^ 62)<=j/\j<=100000)/\Q (.loc S1.length) (S1++[.lst (CN 0 j)])
def QL:S1
 | .loc k,S,Q=>∃ xs,S[k]?=some (.lst xs)/\Q (.loc S.length) (S++[.lst xs.reverse])
 | _,_,_=>False
def Na(a:WE):WE:=fun ρ S Q=>a ρ S fun x S1=>∃ k ns,x = .loc k/\S1[k]?=some (.lst (ns.map SV.int))/\0<ns.length/\∀ m,Grt ns m->Q (.int m) S1
def Nb(a d:WE):WE:=fun ρ S Q=>a ρ S fun x S1=>d ρ S1 fun y S2=>∃ k ns i,x = .loc k/\y = .int i/\S2[k]?=some (.lst (ns.map SV.int))/\(ns=[]->Q (.int i) S2)/\∀ m,Grt ns m->Q (.int m) S2
def DQ(kvs:List (Int×SV))(i:Int):Option SV:=(kvs.find? fun p=>decide (p.1=i)).map (·.2)
def Az(kvs:List (Int×SV))(i:Int)(x:SV):List (Int×SV):=if (kvs.any fun p=>decide (p.1=i))=true then kvs.map (fun p=>if p.1=i then (p.1,x) else p) else kvs++[(i,x)]
def Co:SV->Sto->Option (List (Int×SV))
 | .loc k,S=>match S[k]? with | some (.dct kvs)=>some kvs | some (.dcf _ _ kvs)=>some kvs | _=>none
 | _,_=>none
def Jm:S2:=fun x y S Q=>∃ kvs i v,Co x S=some kvs/\y = .int i/\DQ kvs i=some v/\Q v S
def LB(neg:Bool):S2:=fun y x S Q=>∃ kvs i,Co x S=some kvs/\y = .int i/\Q (.bl (if neg then !(DQ kvs i).isSome else (DQ kvs i).isSome)) S
def Gf:S2:=fun x y S Q=>∃ xs,x = .tup xs/\y = .tup []/\Q (.bl xs.isEmpty) S
def VP(w:WE):WI:=fun ρ S R=>w ρ S fun x S1=>∃ k kvs,x = .loc k/\S1[k]?=some (.dct kvs)/\∀ o ks,R (fun S'=>S'[k]?=some (.dcf o ks kvs)) (kvs.map fun p => .int p.1) (S1.set k (.dcf o ks kvs))
def Jn:SV->SV->SV->Sto->(Sto->Prop)->Prop:=fun x y v S Q=>∃ k i kvs,x = .loc k/\y = .int i/\(S[k]?=some (.dct kvs)\/∃ o ks,S[k]?=some (.dcf o ks kvs))/\kvs.length<big/\Q (S.set k (.dct (Az kvs i v)))
def wMt(m:MT)(a:WE)(b:WA):WE:=fun ρ S Q=>a ρ S fun x S1=>(∃ k xs,x = .loc k/\S1[k]?=some (.lst xs))/\b ρ S1 fun xs S2=>sMt m x xs S2 Q
mutual
def wTg:Tg->SV->EnvS->(EnvS->Prop)->Prop
 | .nm i,x,ρ,Q=>Q (ρ.set i (some x))
 | .tup ts,.tup xs,ρ,Q=>Aw ts xs ρ Q
 | .tup _,_,_,_=>False
def Aw:Tgs->List SV->EnvS->(EnvS->Prop)->Prop
 | .nil,[],ρ,Q=>Q ρ
 | .cons t ts,x::xs,ρ,Q=>wTg t x ρ fun ρ'=>Aw ts xs ρ' Q
 | _,_,_,_=>False
end
def Ad(k:Nat)(js:List Nat)(ρ:EnvS):EnvS:=List.replicate k none++js.map fun j=>(ρ[j]?).join
def w9(keep:Sto->Prop)(g:Tg)(t:WT)(e:WE)(ρ:EnvS)(Q:List SV->Sto->Prop):List SV->List SV->Sto->Prop
 | [],ys,S=>keep S/\Q ys S
 | x::xs,ys,S=>keep S/\wTg g x ρ fun ρ2=>t ρ2 S fun b S1=>if b=true then e ρ2 S1 fun y S2=>ys.length<big/\w9 keep g t e ρ Q xs (ys++[y]) S2 else w9 keep g t e ρ Q xs ys S1
def Jo(k:Nat)(js:List Nat)(g:Tg)(i:WI)(t:WT)(e:WE):WE:=fun ρ S Q=>i ρ S fun keep xs S1=>w9 keep g t e (Ad k js ρ) (fun ys S2=>Q (.loc S2.length) (S2++[.lst ys])) xs [] S1
def u4(keep:Sto->Prop)(g:Tg)(t:WT)(e:WE)(Q:List SV->Sto->Prop):List SV->EnvS->List SV->Sto->Prop
 | [],_,ys,S=>keep S/\Q ys S
 | x::xs,ρ,ys,S=>keep S/\wTg g x ρ fun ρ2=>t ρ2 S fun b S1=>if b=true then e ρ2 S1 fun y S2=>ys.length<big/\u4 keep g t e Q xs ρ2 (ys++[y]) S2 else u4 keep g t e Q xs ρ2 ys S1
def r6(keep:Sto->Prop)(g:Tg)(t:WT)(g2:Tg)(i2:WI)(t2:WT)(e:WE)(ρ:EnvS)(Q:List SV->Sto->Prop):List SV->List SV->Sto->Prop
 | [],ys,S=>keep S/\Q ys S
 | x::xs,ys,S=>keep S/\wTg g x ρ fun ρ2=>t ρ2 S fun b S1=>if b=true then i2 ρ2 S1 fun keep2 xs2 S2=>u4 keep2 g2 t2 e (fun ys' S3=>r6 keep g t g2 i2 t2 e ρ Q xs ys' S3) xs2 ρ2 ys S2 else r6 keep g t g2 i2 t2 e ρ Q xs ys S1
def Fe(k:Nat)(js:List Nat)(g:Tg)(i:WI)(t:WT)(g2:Tg)(i2:WI)(t2:WT)(e:WE):WE:=fun ρ S Q=>i ρ S fun keep xs S1=>r6 keep g t g2 i2 t2 e (Ad k js ρ) (fun ys S2=>Q (.loc S2.length) (S2++[.lst ys])) xs [] S1
def v6(keep:Sto->Prop)(g:Tg)(t:WT)(e f:WE)(ρ:EnvS)(Q:List (Int×SV)->Sto->Prop):List SV->List (Int×SV)->Sto->Prop
 | [],kvs,S=>keep S/\Q kvs S
 | x::xs,kvs,S=>keep S/\wTg g x ρ fun ρ2=>t ρ2 S fun b S1=>if b=true then e ρ2 S1 fun y S2=>f ρ2 S2 fun z S3=>∃ i,y = .int i/\kvs.length<big/\v6 keep g t e f ρ Q xs (Az kvs i z) S3 else v6 keep g t e f ρ Q xs kvs S1
def Ff(k:Nat)(js:List Nat)(g:Tg)(i:WI)(t:WT)(e f:WE):WE:=fun ρ S Q=>i ρ S fun keep xs S1=>v6 keep g t e f (Ad k js ρ) (fun kvs S2=>Q (.loc S2.length) (S2++[.dct kvs])) xs [] S1
def v7(keep:Sto->Prop)(g:Tg)(t:WT)(e:WE)(ρ:EnvS)(Q:List Int->Sto->Prop):List SV->List Int->Sto->Prop
 | [],ns,S=>keep S/\Q ns S
 | x::xs,ns,S=>keep S/\wTg g x ρ fun ρ2=>t ρ2 S fun b S1=>if b=true then e ρ2 S1 fun y S2=>∃ i,y = .int i/\ns.length<900/\v7 keep g t e ρ Q xs (ns++[i]) S2 else v7 keep g t e ρ Q xs ns S1
def Fg(k:Nat)(js:List Nat)(g:Tg)(i:WI)(t:WT)(e:WE):WE:=fun ρ S Q=>i ρ S fun keep xs S1=>v7 keep g t e (Ad k js ρ) (fun ns S2=>ns.length<64/\Q (.loc S2.length) (S2++[.lst ((srt (CL ns)).map SV.int)])) xs [] S1
def tt1(w:WE):WE×WT:=(w,Te w)
def wBl(w:WE):WT:=fun ρ S Q=>w ρ S fun x S'=>∃ b,x = .bl b/\Q b S'
def tt2(w:WE):WE×WT:=(w,wBl w)
def VQ:WT:=fun _ S Q=>Q true S
mutual
def wEx(Δ:Nat->Sn):Ex->WE×WT
 | .var i=>tt1 (TR i)
 | .c x=>tt1 (wC x)
 | .op o a b=>tt1 (w2 (sOp o) (wEx Δ a).1 (wEx Δ b).1)
 | .neg a=>tt1 (w1 NR (wEx Δ a).1)
 | .cmp o a b=>tt2 (w2 (BR o) (wEx Δ a).1 (wEx Δ b).1)
 | .chn o p a b c=>tt2 (NU (BR o) (BR p) (wEx Δ a).1 (wEx Δ b).1 (wEx Δ c).1)
 | .and a b=>(NT (wEx Δ a).1 (wEx Δ b).1,Dz (wEx Δ a).2 (wEx Δ b).2)
 | .or a b=>(wOr (wEx Δ a).1 (wEx Δ b).1,IY (wEx Δ a).2 (wEx Δ b).2)
 | .not a=>(QJ (wEx Δ a).1,Jl (wEx Δ a).2)
 | .ife t a b=>(QK (wEx Δ t).2 (wEx Δ a).1 (wEx Δ b).1,fun _ _ _=>False)
 | .tup es=>tt1 (wn Q1 (Gg Δ es))
 | .lst es=>tt1 (wn Q2 (Gg Δ es))
 | .ix a b=>tt1 (w2 sIx (wEx Δ a).1 (wEx Δ b).1)
 | .slc a lo hi=>tt1 (Th (wEx Δ a).1 (wEo Δ lo).1 (wEo Δ hi).1)
 | .call f es=>tt1 (wn (Δ f) (Gg Δ es))
 | .bi b es=>tt1 (wn (sBi b) (Gg Δ es))
 | .mt m a es=>tt1 (wMt m (wEx Δ a).1 (Gg Δ es))
 | .comp own _ js g it t e=>tt1 (Jo own.length js g (Fh Δ it) (wEo Δ t).2 (wEx Δ e).1)
 | .comp2 own _ js g it t g2 it2 t2 e=>tt1 (Fe own.length js g (Fh Δ it) (wEo Δ t).2 g2 (Fh Δ it2) (wEo Δ t2).2 (wEx Δ e).1)
 | .tyc t=>tt1 (wC (.ty t))
 | .lrng1 a=>tt1 (IZ (wEx Δ a).1)
 | .rev a=>tt1 (w1 QL (wEx Δ a).1)
 | .max1 a=>tt1 (Na (wEx Δ a).1)
 | .maxd a d=>tt1 (Nb (wEx Δ a).1 (wEx Δ d).1)
 | .dcomp own _ js g it t e f=>tt1 (Ff own.length js g (Fh Δ it) (wEo Δ t).2 (wEx Δ e).1 (wEx Δ f).1)
 | .srtsc own _ js g it t e=>tt1 (Fg own.length js g (Fh Δ it) (wEo Δ t).2 (wEx Δ e).1)
 | .eqt0 a b=>tt2 (w2 Gf (wEx Δ a).1 (wEx Δ b).1)
 | .dget a b=>tt1 (w2 Jm (wEx Δ a).1 (wEx Δ b).1)
 | .din n a b=>tt2 (w2 (LB n) (wEx Δ a).1 (wEx Δ b).1)
 | .no=>(fun _ _ _=>False,fun _ _ _=>False)
def Gg(Δ:Nat->Sn):Exs->WA
 | .nil=>F0
 | .cons e es=>Dy (wEx Δ e).1 (Gg Δ es)
def wEo(Δ:Nat->Sn):Eo->WO×WT
 | .no=>(Tf,VQ)
 | .yes e=>(NV (wEx Δ e).1,(wEx Δ e).2)
def Fh(Δ:Nat->Sn):Itb->WI
 | .seq e=>Rs (wEx Δ e).1
 | .rng1 a=>NX (wEx Δ a).1
 | .enum e=>NZ (wEx Δ e).1
 | .rngT a b=>NY (wEx Δ a).1 (wEx Δ b).1
 | .dk e=>VP (wEx Δ e).1
end
structure EndsS where
 nx:EnvS->Sto->Prop
 rt:SV->Sto->Prop
 bk:EnvS->Sto->Prop:=fun _ _=>False
 ct:EnvS->Sto->Prop:=fun _ _=>False
abbrev WS:=EndsS->EnvS->Sto->Prop
def Ia:SV->SV->SV->Sto->(Sto->Prop)->Prop
 | .loc k,.int i,v,S,Q=>∃ xs j,S[k]?=some (.lst xs)/\ixN xs.length i=some j/\Q (S.set k (.lst (xs.set j v)))
 | _,_,_,_,_=>False
def AG(keep:Sto->Prop)(g:Tg)(b:WS)(D:EndsS):List SV->EnvS->Sto->Prop
 | [],ρ,S=>keep S/\D.nx ρ S
 | x::xs,ρ,S=>keep S/\wTg g x ρ fun ρ2=>b {D with nx:=AG keep g b D xs,ct:=AG keep g b D xs,bk:=D.nx} ρ2 S
def Ti(t:WT)(b:WS):WS:=fun D ρ S=>∃ W:Nat->EnvS->Sto->Prop,(∃ m,W m ρ S)/\∀ m ρ S,W m ρ S->t ρ S fun c S1=>if c=true then
 b {D with nx:=fun ρ' S'=>∃ m',m'<m/\W m' ρ' S',ct:=fun ρ' S'=>∃ m',m'<m/\W m' ρ' S',bk:=D.nx} ρ S1 else D.nx ρ S1
mutual
def wSt(Δ:Nat->Sn):Stm->WS
 | .asg t e=>fun D ρ S=>(wEx Δ e).1 ρ S fun x S1=>wTg t x ρ fun ρ'=>D.nx ρ' S1
 | .put o i e=>fun D ρ S=>(wEx Δ e).1 ρ S fun v S1=>(wEx Δ o).1 ρ S1 fun x S2=>(wEx Δ i).1 ρ S2 fun y S3=>Ia x y v S3 fun S4=>D.nx ρ S4
 | .augS o i e=>fun D ρ S=>(wEx Δ o).1 ρ S fun x S1=>(wEx Δ i).1 ρ S1 fun y S2=>∃(k:Nat) (j:Nat) (xs:List SV) (a:Int),x = .loc k/\y = .int j/\S2[k]?=some (.lst xs)/\xs[j]?=some (.int a)/\(wEx Δ e).1 ρ S2 fun v S4=>∃(b:Int) (ys:List SV),v = .int b/\S4[k]?=some (.lst ys)/\j<ys.length/\D.nx ρ (S4.set k (.lst (ys.set j (.int (a+b)))))
 | .dput o i e=>fun D ρ S=>(wEx Δ e).1 ρ S fun v S1=>(wEx Δ o).1 ρ S1 fun x S2=>(wEx Δ i).1 ρ S2 fun y S3=>Jn x y v S3 fun S4=>D.nx ρ S4
 | .expr e=>fun D ρ S=>(wEx Δ e).1 ρ S fun _ S1=>D.nx ρ S1
 | .iff t a b=>fun D ρ S=>(wEx Δ t).2 ρ S fun c S1=>if c=true then wSs Δ a D ρ S1 else wSs Δ b D ρ S1
 | .loop g it b=>fun D ρ S=>Fh Δ it ρ S fun keep xs S1=>AG keep g (wSs Δ b) D xs ρ S1
 | .whl t b=>Ti (wEx Δ t).2 (wSs Δ b)
 | .ret e=>fun D ρ S=>(wEx Δ e).1 ρ S D.rt
 | .retN=>fun D _ S=>D.rt .non S
 | .no=>fun _ _ _=>False
def wSs(Δ:Nat->Sn):List Stm->WS
 | []=>fun D ρ S=>D.nx ρ S
 | s::ss=>fun D ρ S=>wSt Δ s {D with nx:=wSs Δ ss D} ρ S
end
open PySem L2
theorem y0{α:Type}{P:Prop}{x:α}(h:(none:Option α)=some x):P:=nomatch h
def A9(scope sc:Scope):Scope:={scope with names:=scope.names.map fun(n,k)=>if (k == .free&&sc.kind == .function&&sc.names.lookup n == some .cell) then (n,.cell) else (n,k)}
def f9:Expr->Bool
 | .Starred ..=>false
 | _=>true
theorem l7{e:Expr}{es:List Expr}{env:Env}(h:f9 e=true):starEach (e::es) env=(false,eval e env)::starEach es env:=by
 cases e<;>first | rfl | cases h
theorem Cp{env:Env}{pos:Pos}:∀{es:List Expr},es.all f9=true->(backTo pos (starEach es env)).any (·.1)=false
 | [],_=>rfl
 | e::es,h=>by
   rw[List.all_cons,Bool.and_eq_true]at h;rw[l7 h.1];exact Cp (es:=es) h.2
theorem F3{env:Env}{pos:Pos}:∀{es:List Expr},es.all f9=true->(backTo pos (starEach es env)).all (fun x=>!x.1)=true
 | [],_=>rfl
 | e::es,h=>by
   rw[List.all_cons,Bool.and_eq_true]at h;rw[l7 h.1];exact F3 (es:=es) h.2
def glo(sc:Scope)(x:Str):Bool:=sc.names.lookup x == some .globalImplicit&&!(x == ("__name__":Str))&&!(x == ("__debug__":Str))
def vis(sc:Scope)(x:Str):Bool:=sc.names.lookup x == some .local||sc.names.lookup x == some .cell||sc.names.lookup x == some .free
def loc(sc:Scope)(x:Str):Bool:=sc.names.lookup x == some .local||sc.names.lookup x == some .cell
def Tj:SV->Const->Bool
 | .non,.none=>true
 | .bl a,.bool b=>a == b
 | .int i,.int j=>decide (i=j)
 | .str x,.str y=>decide (x=y)
 | _,_=>false
def y9:Expr->Bool
 | .Slice ..=>false
 | _=>true
def m5:Expr->Bool
 | .Set ..=>false
 | _=>true
def Nc:Expr->Bool
 | .UnaryOp .Not _ _=>false
 | .BoolOp ..=>false
 | .IfExp ..=>false
 | .Compare ..=>false
 | _=>true
def DV:Expr->Bool
 | .Call (.Name _ _) [] [] _=>false
 | _=>true
def Cq:Expr->Option Str
 | .Name x _=>some x
 | _=>none
def Fi:Expr->Option Const
 | .Constant k _ _=>some k
 | _=>none
def VR:Expr->Option (Expr×Operator×Expr)
 | .BinOp a o b _=>some (a,o,b)
 | _=>none
def vUn:Expr->Option (UnaryOp×Expr)
 | .UnaryOp o a _=>some (o,a)
 | _=>none
def Nd:Expr->Option (Expr×List CmpOp×List Expr)
 | .Compare a os bs _=>some (a,os,bs)
 | _=>none
def Nf:Expr->Option (BoolOp×List Expr×Pos)
 | .BoolOp o vs p=>some (o,vs,p)
 | _=>none
def VS:Expr->Option (Expr×Expr×Expr)
 | .IfExp t a b _=>some (t,a,b)
 | _=>none
def LC:Expr->Option (List Expr)
 | .Tuple es _ _=>some es
 | _=>none
def VT:Expr->Option (List Expr)
 | .List es _=>some es
 | _=>none
def Gh:Expr->Option (Expr×Expr)
 | .Subscript a b _=>some (a,b)
 | _=>none
def Tk:Expr->Option (Option Expr×Option Expr×Option Expr)
 | .Slice l h s _=>some (l,h,s)
 | _=>none
def E1:Expr->Option (Expr×List Expr×List Keyword)
 | .Call f as ks _=>some (f,as,ks)
 | _=>none
def Ib:Expr->Nat
 | .Call _ _ _ p=>p.line
 | _=>0
def Ng:Expr->Option (Expr×Str×Nat)
 | .Attribute o n p=>some (o,n,p.endLine)
 | _=>none
def Gi:Expr->Option (Expr×List Comprehension×Scope)
 | .ListComp e gs s _=>some (e,gs,s)
 | _=>none
def Ic:Expr->Option (Expr×Expr×List Comprehension×Scope)
 | .DictComp e f gs s _=>some (e,f,gs,s)
 | _=>none
def Nh:Expr->Option (Expr×List Comprehension×Scope)
 | .SetComp e gs s _=>some (e,gs,s)
 | _=>none
theorem F4{r:Expr}{x:Expr×Expr×List Comprehension×Scope}(h:Ic r=some x):∃ p,r = .DictComp x.1 x.2.1 x.2.2.1 x.2.2.2 p:=by cases r<;>first | (cases h;exact⟨_,rfl⟩) | exact y0 h
theorem LD{r:Expr}{x:Expr×List Comprehension×Scope}(h:Nh r=some x):∃ p,r = .SetComp x.1 x.2.1 x.2.2 p:=by cases r<;>first | (cases h;exact⟨_,rfl⟩) | exact y0 h
theorem Bs{r:Expr}{x:Str}(h:Cq r=some x):∃ p,r = .Name x p:=by cases r<;>first | (cases h;exact⟨_,rfl⟩) | exact y0 h
theorem D9{r:Expr}{x:Const}(h:Fi r=some x):∃ j p,r = .Constant x j p:=by cases r<;>first | (cases h;exact⟨_,_,rfl⟩) | exact y0 h
theorem QM{r:Expr}{x:Expr×Operator×Expr}(h:VR r=some x):∃ p,r = .BinOp x.1 x.2.1 x.2.2 p:=by cases r<;>first | (cases h;exact⟨_,rfl⟩) | exact y0 h
theorem Id{r:Expr}{x:UnaryOp×Expr}(h:vUn r=some x):∃ p,r = .UnaryOp x.1 x.2 p:=by cases r<;>first | (cases h;exact⟨_,rfl⟩) | exact y0 h
theorem DW{r:Expr}{x:Expr×List CmpOp×List Expr}(h:Nd r=some x):∃ p,r = .Compare x.1 x.2.1 x.2.2 p:=by cases r<;>first | (cases h;exact⟨_,rfl⟩) | exact y0 h
theorem Gj{r:Expr}{x:BoolOp×List Expr×Pos}(h:Nf r=some x):r = .BoolOp x.1 x.2.1 x.2.2:=by cases r<;>first | (cases h;exact rfl) | exact y0 h
theorem QN{r:Expr}{x:Expr×Expr×Expr}(h:VS r=some x):∃ p,r = .IfExp x.1 x.2.1 x.2.2 p:=by cases r<;>first | (cases h;exact⟨_,rfl⟩) | exact y0 h
theorem DX{r:Expr}{x:List Expr}(h:LC r=some x):∃ j p,r = .Tuple x j p:=by cases r<;>first | (cases h;exact⟨_,_,rfl⟩) | exact y0 h
theorem QO{r:Expr}{x:List Expr}(h:VT r=some x):∃ p,r = .List x p:=by cases r<;>first | (cases h;exact⟨_,rfl⟩) | exact y0 h
theorem BS{r:Expr}{x:Expr×Expr}(h:Gh r=some x):∃ p,r = .Subscript x.1 x.2 p:=by cases r<;>first | (cases h;exact⟨_,rfl⟩) | exact y0 h
theorem Jp{r:Expr}{x:Option Expr×Option Expr×Option Expr}(h:Tk r=some x):∃ p,r = .Slice x.1 x.2.1 x.2.2 p:=by cases r<;>first | (cases h;exact⟨_,rfl⟩) | exact y0 h
theorem E2{r:Expr}{x:Expr×List Expr×List Keyword}(h:E1 r=some x):∃ p,r = .Call x.1 x.2.1 x.2.2 p/\Ib r=p.line:=by cases r<;>first | (cases h;exact⟨_,rfl,rfl⟩) | exact y0 h
theorem Ni{r:Expr}{x:Expr×Str×Nat}(h:Ng r=some x):∃ p,r = .Attribute x.1 x.2.1 p/\x.2.2=p.endLine:=by cases r<;>first | (cases h;exact⟨_,rfl,rfl⟩) | exact y0 h
theorem Cr{r:Expr}{x:Expr×List Comprehension×Scope}(h:Gi r=some x):∃ p,r = .ListComp x.1 x.2.1 x.2.2 p:=by cases r<;>first | (cases h;exact⟨_,rfl⟩) | exact y0 h
theorem a7{α:Type}{o:Option α}{p:α->Bool}(h:o.any p=true):∃ x,o=some x/\p x=true:=by
 cases o with
 | none=>cases h
 | some x=>exact⟨x,rfl,h⟩
theorem B0{α:Type}{l:List α}{x:α}(h:l.head?=some x):l=x::l.tail:=by
 cases l with
 | nil=>cases h
 | cons y r=>cases h;rfl
def l1{α:Type}:List α->Option α
 | [x]=>some x
 | _=>none
def l2{α:Type}:List α->Option (α×α)
 | [x,y]=>some (x,y)
 | _=>none
theorem A0{α:Type}{l:List α}{x:α}(h:l1 l=some x):l=[x]:=by
 match l,h with
 | [y],h=>cases h;rfl
theorem Nj{α:Type}{l:List α}{x:α×α}(h:l2 l=some x):l=[x.1,x.2]:=by
 match l,h with
 | [y,z],h=>cases h;rfl
def l3{α:Type}:List α->Option (α×α×α)
 | [x,y,z]=>some (x,y,z)
 | _=>none
theorem VU{α:Type}{l:List α}{x:α×α×α}(h:l3 l=some x):l=[x.1,x.2.1,x.2.2]:=by
 match l,h with
 | [y,z,w],h=>cases h;rfl
def Tl(r:Expr):Option (Str×List Expr×Keyword):=(E1 r).bind fun c=>match c.2.2 with
 | [kw]=>(Cq c.1).map fun x=>(x,c.2.1,kw)
 | _=>none
theorem QP{r:Expr}{x:Str×List Expr×Keyword}(h:Tl r=some x):∃ p q,r = .Call (.Name x.1 p) x.2.1 [x.2.2] q:=by
 unfold Tl at h;cases hc:E1 r with
 | none=>rw[hc]at h;cases h
 | some c=>
   rw[hc]at h;obtain⟨q,e,_⟩:=E2 hc;obtain⟨f,as,ks⟩:=c
   match ks,h with
   | [kw],h=>
     replace h:(Cq f).map (fun x=>(x,as,kw))=some x:=h;cases hn:Cq f with
     | none=>rw[hn]at h;cases h
     | some nm=>
       rw[hn]at h;cases h;obtain⟨p,e2⟩:=Bs hn;exact⟨p,q,by rw[e,e2]⟩
   | [],h=>cases h
   | _::_::_,h=>cases h
def vFn(r:Expr):Option (Str×List Expr):=(E1 r).bind fun c=>if c.2.2.isEmpty then (Cq c.1).map fun x=>(x,c.2.1) else none
theorem BT{r:Expr}{x:Str×List Expr}(h:vFn r=some x):∃ p q,r = .Call (.Name x.1 p) x.2 [] q:=by
 unfold vFn at h;cases hc:E1 r with
 | none=>rw[hc]at h;cases h
 | some c=>
   rw[hc]at h;obtain⟨q,e,_⟩:=E2 hc;simp only[Option.bind_some]at h;by_cases hk:c.2.2.isEmpty=true
   ·rw[if_pos hk]at h;cases hn:Cq c.1 with
    | none=>rw[hn]at h;cases h
    | some y=>
      rw[hn]at h;cases h;obtain⟨p,ep⟩:=Bs hn;rw[e,ep,List.isEmpty_iff.mp hk];exact⟨p,q,rfl⟩
   ·rw[if_neg hk]at h;cases h
def vMt(r:Expr):Option (Expr×Str×List Expr):=(E1 r).bind fun c=>if c.2.2.isEmpty then (Ng c.1).bind fun a=>if a.2.2 == Ib r then some (a.1,a.2.1,c.2.1) else none else none
theorem Tm{r:Expr}{x:Expr×Str×List Expr}(h:vMt r=some x):∃ ap cp,r = .Call (.Attribute x.1 x.2.1 ap) x.2.2 [] cp/\(ap.endLine == cp.line)=true:=by
 unfold vMt at h;cases hc:E1 r with
 | none=>rw[hc]at h;cases h
 | some c=>
   rw[hc]at h;obtain⟨q,e,el⟩:=E2 hc;simp only[Option.bind_some]at h;by_cases hk:c.2.2.isEmpty=true
   ·rw[if_pos hk]at h;cases hn:Ng c.1 with
    | none=>rw[hn]at h;cases h
    | some y=>
      rw[hn]at h;simp only[Option.bind_some]at h;obtain⟨p,ep,el2⟩:=Ni hn;by_cases hl:(y.2.2 == Ib r)=true
      ·rw[if_pos hl]at h;cases h;refine⟨p,q,?_,?_⟩
       ·rw[e,ep,List.isEmpty_iff.mp hk]
       ·rw[<-el2,<-el];exact hl
      ·rw[if_neg hl]at h;cases h
   ·rw[if_neg hk]at h;cases h
mutual
def AM(k:Nat)(N:List Str)(sc:Scope):Tg->Expr->Bool
 | .nm i,r=>(Cq r).any fun x=>decide (i<k)&&decide (N[i]?=some x)&&loc sc x
 | .tup ts,r=>(LC r).any fun es=>Aq k N sc ts es
def Aq(k:Nat)(N:List Str)(sc:Scope):Tgs->List Expr->Bool
 | .nil,r=>r.isEmpty
 | .cons t ts,r=>(r.head?).any fun e=>AM k N sc t e&&f9 e&&Aq k N sc ts r.tail
end
def nmB(N:List Str)(sc:Scope)(i:Nat)(x:Str):Bool:=decide (N[i]?=some x)&&vis sc x&&!(x == ("__debug__":Str))&&!(x == ("__classdict__":Str))
mutual
def i9(T:List Str)(N:List Str)(sc:Scope):Ex->Expr->Bool
 | .var i,r=>(Cq r).any fun x=>nmB N sc i x
 | .c x,r=>(Fi r).any fun k=>Tj x k
 | .op o a b,r=>(VR r).any fun v=>decide (o=v.2.1)&&i9 T N sc a v.1&&i9 T N sc b v.2.2
 | .neg a,r=>(vUn r).any fun v=>decide (v.1 = .USub)&&i9 T N sc a v.2
 | .cmp o a b,r=>(Nd r).any fun v=>(l1 v.2.2).any fun rb=>decide (v.2.1=[o])&&i9 T N sc a v.1&&i9 T N sc b rb&&m5 rb
 | .chn o p a b c,r=>(Nd r).any fun v=>(l2 v.2.2).any fun rs=>decide (v.2.1=[o,p])&&i9 T N sc a v.1&&i9 T N sc b rs.1&&i9 T N sc c rs.2&&m5 rs.2
 | .and a b,r=>(Nf r).any fun v=>decide (v.1 = .And)&&(v.2.1.head?).any fun x=>i9 T N sc a x&&(match l1 v.2.1.tail with | some y=>i9 T N sc b y | none=>decide (2<=v.2.1.tail.length)&&i9 T N sc b (.BoolOp .And v.2.1.tail v.2.2))
 | .or a b,r=>(Nf r).any fun v=>decide (v.1 = .Or)&&(v.2.1.head?).any fun x=>i9 T N sc a x&&(match l1 v.2.1.tail with | some y=>i9 T N sc b y | none=>decide (2<=v.2.1.tail.length)&&i9 T N sc b (.BoolOp .Or v.2.1.tail v.2.2))
 | .not a,r=>(vUn r).any fun v=>decide (v.1 = .Not)&&i9 T N sc a v.2
 | .ife t a b,r=>(VS r).any fun v=>i9 T N sc t v.1&&i9 T N sc a v.2.1&&i9 T N sc b v.2.2
 | .tup es,r=>(LC r).any fun rs=>BG T N sc es rs
 | .lst es,r=>(VT r).any fun rs=>BG T N sc es rs
 | .ix a b,r=>(Gh r).any fun v=>i9 T N sc a v.1&&i9 T N sc b v.2&&y9 v.2
 | .slc a lo hi,r=>(Gh r).any fun v=>(Tk v.2).any fun s=>i9 T N sc a v.1&&Nk T N sc lo s.1&&Nk T N sc hi s.2.1&&s.2.2.isNone
 | .call f es,r=>(vFn r).any fun v=>decide (T[f]?=some v.1)&&glo sc v.1&&BG T N sc es v.2&&!v.2.isEmpty
 | .bi b es,r=>(vFn r).any fun v=>decide (b.name=v.1)&&glo sc v.1&&BG T N sc es v.2&&!v.2.isEmpty
 | .mt m a es,r=>(vMt r).any fun v=>decide (v.2.1=m.name)&&DV v.1&&decide (v.2.2.length<29)&&i9 T N sc a v.1&&BG T N sc es v.2.2
 | .comp own cn js g it t e,r=>(Gi r).any fun v=>(l1 v.2.1).any fun c=>decide (c.is_async=0)&&j2 sc v.2.2 own cn N js&&AM own.length (own++cn) (A9 v.2.2 sc) g c.target&&E3 T N sc it c.target c.iter&&m5 c.iter&&Ba T (own++cn) (A9 v.2.2 sc) t c.ifs&&i9 T (own++cn) (A9 v.2.2 sc) e v.1
 | .comp2 own cn js g it t g2 it2 t2 e,r=>(Gi r).any fun v=>(l2 v.2.1).any fun c=>decide (c.1.is_async=0)&&decide (c.2.is_async=0)&&j2 sc v.2.2 own cn N js&&AM own.length (own++cn) (A9 v.2.2 sc) g c.1.target&&E3 T N sc it c.1.target c.1.iter&&m5 c.1.iter&&Ba T (own++cn) (A9 v.2.2 sc) t c.1.ifs&&AM own.length (own++cn) (A9 v.2.2 sc) g2 c.2.target&&E3 T (own++cn) (A9 v.2.2 sc) it2 c.2.target c.2.iter&&m5 c.2.iter&&Ba T (own++cn) (A9 v.2.2 sc) t2 c.2.ifs&&i9 T (own++cn) (A9 v.2.2 sc) e v.1
 | .tyc t,r=>(Cq r).any fun x=>decide (x=Str.ofString t.nm)&&glo sc x&&decide (t ≠ .none)
 | .lrng1 a,r=>(vFn r).any fun v=>(l1 v.2).any fun z=>(vFn z).any fun u=>(l1 u.2).any fun ra=>decide (v.1=("list":Str))&&decide (u.1=("range":Str))&&glo sc v.1&&glo sc u.1&&i9 T N sc a ra&&f9 ra
 | .rev a,r=>(Gh r).any fun v=>(Tk v.2).any fun s=>s.1.isNone&&s.2.1.isNone&&s.2.2.any fun st=>(vUn st).any fun u=>decide (u.1 = .USub)&&(Fi u.2).any fun c=>decide (c = .int 1)&&i9 T N sc a v.1
 | .max1 a,r=>(vFn r).any fun v=>(l1 v.2).any fun ra=>decide (v.1=("max":Str))&&glo sc v.1&&i9 T N sc a ra&&f9 ra
 | .maxd a d,r=>(Tl r).any fun v=>(l1 v.2.1).any fun ra=>decide (v.1=("max":Str))&&glo sc v.1&&i9 T N sc a ra&&i9 T N sc d v.2.2.value&&f9 ra&&decide (v.2.2.arg=some ("default":Str))
 | .dcomp own cn js g it t e f,r=>(Ic r).any fun v=>(l1 v.2.2.1).any fun c=>decide (c.is_async=0)&&j2 sc v.2.2.2 own cn N js&&AM own.length (own++cn) (A9 v.2.2.2 sc) g c.target&&E3 T N sc it c.target c.iter&&m5 c.iter&&Ba T (own++cn) (A9 v.2.2.2 sc) t c.ifs&&i9 T (own++cn) (A9 v.2.2.2 sc) e v.1&&i9 T (own++cn) (A9 v.2.2.2 sc) f v.2.1
 | .srtsc own cn js g it t e,r=>(vFn r).any fun u=>(l1 u.2).any fun z=>(Nh z).any fun v=>(l1 v.2.1).any fun c=>decide (u.1=("sorted":Str))&&glo sc u.1&&decide (c.is_async=0)&&j2 sc v.2.2 own cn N js&&AM own.length (own++cn) (A9 v.2.2 sc) g c.target&&E3 T N sc it c.target c.iter&&m5 c.iter&&Ba T (own++cn) (A9 v.2.2 sc) t c.ifs&&i9 T (own++cn) (A9 v.2.2 sc) e v.1
 | .eqt0 a b,r=>(Nd r).any fun v=>(l1 v.2.2).any fun rb=>decide (v.2.1=[.Eq])&&i9 T N sc a v.1&&i9 T N sc b rb&&m5 rb
 | .dget a b,r=>(Gh r).any fun v=>i9 T N sc a v.1&&i9 T N sc b v.2&&y9 v.2
 | .din n a b,r=>(Nd r).any fun v=>(l1 v.2.2).any fun rb=>decide (v.2.1=[if n then .NotIn else .In])&&i9 T N sc a v.1&&i9 T N sc b rb&&m5 rb
 | .no,_=>true
def BG(T:List Str)(N:List Str)(sc:Scope):Exs->List Expr->Bool
 | .nil,r=>r.isEmpty
 | .cons e es,r=>(r.head?).any fun x=>i9 T N sc e x&&f9 x&&BG T N sc es r.tail
def Nk(T:List Str)(N:List Str)(sc:Scope):Eo->Option Expr->Bool
 | .no,r=>r.isNone
 | .yes e,r=>r.any fun x=>i9 T N sc e x
def Ba(T:List Str)(N:List Str)(sc:Scope):Eo->List Expr->Bool
 | .no,r=>r.isEmpty
 | .yes e,r=>(l1 r).any fun x=>i9 T N sc e x
def E3(T:List Str)(N:List Str)(sc:Scope):Itb->Expr->Expr->Bool
 | .seq e,_,r=>i9 T N sc e r
 | .rng1 a,_,r=>(vFn r).any fun v=>(l1 v.2).any fun ra=>decide (v.1=("range":Str))&&glo sc v.1&&i9 T N sc a ra&&f9 ra
 | .enum e,tg,r=>(LC tg).isSome&&(vFn r).any fun v=>(l1 v.2).any fun a=>decide (v.1=("enumerate":Str))&&glo sc v.1&&i9 T N sc e a&&f9 a
 | .rngT a b,_,r=>(vFn r).any fun v=>(l3 v.2).any fun ra=>(Fi ra.2.2).any fun c=>decide (v.1=("range":Str))&&glo sc v.1&&i9 T N sc a ra.1&&f9 ra.1&&i9 T N sc b ra.2.1&&f9 ra.2.1&&decide (c = .int 2)
 | .dk e,_,r=>i9 T N sc e r
end
open PySem L2
def spS(K:PySem.W.Frag)(w:Sn):Sp:=fun vs H Q _=>∃ as S xs,Ok K as H S/\RlAll K as H vs xs/\w xs S (Post K as H Q)
structure Cal(P:Program)(w:World)(K:PySem.W.Frag)(mg:Str->Option Value)(base:Heap)(k:Nat)(x:Str)(ps:List Str)(sp:Sp):Prop where
 ex:∃ f fd,FnOk P w K mg base CX0 k f fd ps sp/\mg x=some (.ref f)/\PySem.W.keepIn K (.ref f)=true/\Binds K fd ps []
structure Cok(T:List Str)(Δ:Nat->Sn)(X:Cx)(k:Nat)(N:List Str)(sc:Scope):Prop where
 hN:X.N=N
 hs:X.env.scope=sc
 nd:N.Nodup
 calm:X.calm=true
 fn:∀ i x,i<k->N[i]?=some x->sc.names.lookup x=some .cell->X.fn x=true
 un:X.A.units+100<cLine
 bl:∀ b:BI,X.mg b.name=none
 rng:X.mg "range"=none
 enm:X.mg "enumerate"=none
 zip:X.mg "zip"=none
 st0:X.mg "set"=none
 dc0:X.mg "dict"=none
 ty:∀ t:TyN,t ≠ .none->X.mg (Str.ofString t.nm)=none
 gd:X.A.guards=some []
 call:∀ f x,T[f]?=some x->∃ k ps,Cal X.prog X.w X.K X.mg X.base k x ps (spS X.K (Δ f))/\Room k X.A
 mono:∀ f,MonoN (Δ f)
structure Good(X:Cx)(r:Expr)(w:WE×WT):Prop where
 pe:PE X r (lift X.K w.1)
 pt:PT X r (liftT X.K w.2)
 m:Mono w.1
 mt:MonoT w.2
 pw:∀ op vs p,r = .BoolOp op vs p->PW X r (liftT X.K w.2)
section
variable{X:Cx}{r:Expr}{w:WE}
theorem MonoT.tru(m:Mono w):MonoT (Te w):=fun ρ S P P' i h=>m _ _ _ _ (fun x S' ⟨b,e,q⟩=>⟨b,e,i _ _ q⟩) h
theorem MonoT.bl(m:Mono w):MonoT (wBl w):=fun ρ S P P' i h=>m _ _ _ _ (fun x S' ⟨b,e,q⟩=>⟨b,e,i _ _ q⟩) h
theorem To{K:PySem.W.Frag}{as:List Addr}{H:Hp}{S:Sto}{x:SV}{v:V}{b:Bool}(ok:Ok K as H S)(r:Rl K as H v x)(e:NS x S=some b):Pg K v H b:=by
 cases x with
 | bl c=>cases e;rw[rl_bl.mp r];exact rfl
 | loc k=>
   unfold NS at e;cases hs:S[k]? with
   | none=>simp only[hs]at e;cases e
   | some o=>
     cases o with
     | lst xs=>
       simp only[hs]at e;cases e;obtain⟨a,vs,rfl,_,ha,rr⟩:=u5 ok r hs;refine .inl ⟨vs,SqL.of ha,?_⟩;have:=rr.length;cases vs<;>cases xs<;>first | rfl | (simp at this)
     | iset _=>simp only[hs]at e;cases e
     | dct _=>simp only[hs]at e;cases e
     | dcf _ _ _=>simp only[hs]at e;cases e
 | _=>cases e
theorem Ec{env:Env}(h:Nc r=true):∀ whole,isTrue r env whole=(do let v <- whole;standAt r.pos;holding [v] (truthy v)):=by
 intro whole;cases r<;>first | rfl | (cases h;done) | (rename_i o _ _;cases o<;>first | rfl | cases h)
theorem QQ{K:PySem.W.Frag}(m:Mono w):∀ σ H Q,liftT K (Te w) σ H Q->lift K w σ H fun x H'=>∃ k,Pg K x H' k/\Q k H':=by
 rintro σ H Q ⟨as,ρ,S,ok,en,h⟩;exact⟨as,ρ,S,ok,en,m _ _ _ _ (fun x S' ⟨b,e,q⟩ as' H' v g ok' r=>⟨b,To ok' r e,q as' H' g ok'⟩) h⟩
theorem E4{K:PySem.W.Frag}(m:Mono w):∀ σ H Q,liftT K (wBl w) σ H Q->lift K w σ H fun x H'=>∃ k,x = .bl k/\Q k H':=by
 rintro σ H Q ⟨as,ρ,S,ok,en,h⟩;exact⟨as,ρ,S,ok,en,m _ _ _ _ (fun x S' ⟨b,e,q⟩ as' H' v g ok' r=>⟨b,by subst e;exact rl_bl.mp r,q as' H' g ok'⟩) h⟩
theorem Good.one(hp:PE X r (lift X.K w))(m:Mono w)(h:Nc r=true):Good X r (tt1 w) where
 pe:=hp
 pt:=CY _ (Mc hp (Ec h)) (QQ m)
 m:=m
 mt := .tru m
 pw:=fun op vs p e=>by rw[e]at h;cases h
theorem Nl{X:Cx}{r:Expr}:PE X r (lift X.K fun _ _ _=>False):=fun _ _ _ _ _ _ h=>let ⟨_,_,_,_,_,z⟩:=h;z.elim
theorem Gk{X:Cx}{r:Expr}:PT X r (liftT X.K fun _ _ _=>False):=fun _ _ _ _ _ _ h=>let ⟨_,_,_,_,_,z⟩:=h;z.elim
theorem Nm{X:Cx}{r:Expr}:PW X r (liftT X.K fun _ _ _=>False):=fun _ _ _ _ _ _ _ h=>let ⟨_,_,_,_,_,z⟩:=h;z.elim
theorem Good.never:Good X r (fun _ _ _=>False,fun _ _ _=>False):=⟨Nl,Gk,fun _ _ _ _ _ h=>h,fun _ _ _ _ _ h=>h,fun _ _ _ _=>Nm⟩
end
theorem Jq{o:Operator}:Mono2 (sOp o):=by
 unfold sOp;split<;>first | exact .add | exact .int0 | exact .mul | exact .int | exact fun _ _ _ _ _ _ h=>h
theorem AX{o:CmpOp}:Mono2 (BR o):=by
 unfold BR;split<;>first | exact .eq | exact .ne | exact .int0 | exact .in' | exact .isN
section
variable{X:Cx}
theorem Nn{o:Operator}{ra rb:Expr}{p:Pos}{wa wb:WE}(ha:PE X ra (lift X.K wa))(hb:PE X rb (lift X.K wb))(ma:Mono wa)(mb:Mono wb):PE X (.BinOp ra o rb p) (lift X.K (w2 (sOp o) wa wb)):=by
 have go:∀{s:S2} {rr:R2},Mono2 s->OpR X (binaryOp o) rr->Bc X.K s rr->PE X (.BinOp ra o rb p) (lift X.K (w2 s wa wb)):=fun ms ho sim=>i5 _ (Ud ho ha hb) (AF sim ms ma mb);have no:PE X (.BinOp ra o rb p) (lift X.K (w2 (fun _ _ _ _=>False) wa wb)):=go (fun _ _ _ _ _ _ h=>h) (rr:=fun _ _ _ _=>False) (fun _ _ _ _ _ _ _ _ _ _ _ _ h=>h.elim) (fun _ _ _ _ _ _ _ _ _ _ _ h=>h);cases o with
 | Add=>exact go .add Q6 Q7
 | Sub=>exact go .int0 Sk (Bq fun _ _ _ _=>rl_int.mpr rfl)
 | Mult=>exact go .mul (op_mul.or TB) Q8
 | FloorDiv=>exact go .int Pf (FX fun _ _ _ _=>rl_int.mpr rfl)
 | Mod=>exact go .int Sl (FX fun _ _ _ _=>rl_int.mpr rfl)
 | Pow=>exact go .int Sm (FX fun _ _ _ _=>rl_int.mpr rfl)
 | _=>exact no
theorem E5(o:CmpOp)(hu:X.A.units<cLine):∃ rr:R2,OpR X (compareOp o) rr/\Bc X.K (BR o) rr:=by
 cases o with
 | Eq=>exact⟨_,op_eq.or (TF hu),TX⟩
 | NotEq=>exact⟨_,op_ne.or (TH hu),TY⟩
 | Lt=>exact⟨_,Uh,Bq fun _ _ _ _=>rl_bl.mpr rfl⟩
 | LtE=>exact⟨_,Ui,Bq fun _ _ _ _=>rl_bl.mpr rfl⟩
 | Gt=>exact⟨_,Uj,Bq fun _ _ _ _=>rl_bl.mpr rfl⟩
 | GtE=>exact⟨_,Uk,Bq fun _ _ _ _=>rl_bl.mpr rfl⟩
 | Is=>exact⟨_,Sq,QA⟩
 | IsNot=>exact⟨_,op_notN.or Kw,NG⟩
 | In=>exact⟨_,Ta,NF⟩
 | NotIn=>exact⟨_,L3,NF⟩
theorem AH{o:CmpOp}{r:Expr}(h:m5 r=true):behindInMarks o r=false:=by
 cases r<;>first | rfl | cases h
theorem LF{o:CmpOp}{ra rb:Expr}{p:Pos}{wa wb:WE}(hu:X.A.units<cLine)(ha:PE X ra (lift X.K wa))(hb:PE X rb (lift X.K wb))(ma:Mono wa)(mb:Mono wb)(hn:m5 rb=true):Good X (.Compare ra [o] [rb] p) (tt2 (w2 (BR o) wa wb)):=by
 obtain⟨rr,ho,sim⟩:=E5 (X:=X) o hu;have m:Mono (w2 (BR o) wa wb) := .two AX ma mb
 exact{pe:=i5 _ (JQ ho ha hb (AH hn)) (AF sim AX ma mb)
       pt:=CY _ (JR ho ha hb (AH hn)) fun σ H Q h=>AF sim AX ma mb σ H _ (E4 m σ H Q h)
       m:=m
       mt := .bl m
       pw:=fun _ _ _ e=>by cases e}
theorem Gn{o p:CmpOp}{a b c:WE}(ma:Mono a)(mb:Mono b)(mc:Mono c):Mono (NU (BR o) (BR p) a b c):=fun ρ S P P' i h=>ma _ _ _ _ (fun x S1 h=>mb _ _ _ _ (fun y S2 h=>AX _ _ _ _ _ (fun z S3 ⟨k,e,q⟩=>⟨k,e,by
 cases k with
 | true=>rw[if_pos rfl]at q ⊢;exact mc _ _ _ _ (fun u S4 h=>AX _ _ _ _ _ i h) q
 | false=>rw[if_neg Bool.false_ne_true]at q ⊢;exact i _ _ q⟩) h) h) h
theorem Jr{K:PySem.W.Frag}{o p:CmpOp}{r r':R2}{a b c:WE}(s1:Bc K (BR o) r)(s2:Bc K (BR p) r')(ma:Mono a)(mb:Mono b)(mc:Mono c):∀ σ H Q,lift K (NU (BR o) (BR p) a b c) σ H Q->IF r r' (lift K a) (lift K b) (lift K c) σ H Q:=by
 rintro σ H Q ⟨as,ρ,S,ok,en,h⟩;refine⟨as,ρ,S,ok,en,ma _ _ _ _ (fun x S1 h as1 H1 v g1 ok1 rv=>?_) h⟩;refine⟨as1,ρ,S1,ok1,en.mono g1.pre (g1.ku ok),mb _ _ _ _ (fun y S2 h as2 H2 u g2 ok2 ru=>?_) h⟩;refine s1 as2 H2 S2 x y v u _ ok2 (Rl.mono g2.pre (g2.ku ok1) x v rv) ru (AX _ _ _ _ _ (fun z S3 ⟨k,e,q⟩ as3 H3 t g3 ok3 rt=>?_) h);subst e;refine⟨k,rl_bl.mp rt,?_⟩;cases k with
 | true=>
   rw[if_pos rfl]at q ⊢;refine⟨as3,ρ,S3,ok3,(en.mono g1.pre (g1.ku ok)).mono (g2.trans g3).pre ((g2.trans g3).ku ok1),mc _ _ _ _ (fun n S4 h as4 H4 m g4 ok4 rm=>?_) q⟩;exact s2 as4 H4 S4 y n u m Q ok4 (Rl.mono (g3.trans g4).pre ((g3.trans g4).ku ok2) y u ru) rm (AX _ _ _ _ _ (fun f S5 hf=>hf.mono (((g1.trans g2).trans g3).trans g4)) h)
 | false=>
   rw[if_neg Bool.false_ne_true]at q ⊢;exact q as3 H3 _ ((g1.trans g2).trans g3) ok3 (rl_bl.mpr rfl)
theorem LG{o q:CmpOp}{ra rb rc:Expr}{p:Pos}{wa wb wc:WE}(hu:X.A.units<cLine)(ha:PE X ra (lift X.K wa))(hb:PE X rb (lift X.K wb))(hc:PE X rc (lift X.K wc))(ma:Mono wa)(mb:Mono wb)(mc:Mono wc)(hn:m5 rc=true):Good X (.Compare ra [o,q] [rb,rc] p) (tt2 (NU (BR o) (BR q) wa wb wc)):=by
 obtain⟨r1,ho,sim⟩:=E5 (X:=X) o hu;obtain⟨r2,hq,sim2⟩:=E5 (X:=X) q hu;have m:Mono (NU (BR o) (BR q) wa wb wc):=Gn ma mb mc;have hm:lastMarks [o,q] [rb,rc]=false:=AH hn
 exact{pe:=i5 _ (Ma ho hq ha hb hc hm) (Jr sim sim2 ma mb mc)
       pt:=CY _ (Mb ho hq ha hb hc hm) fun σ H Q h=>Jr sim sim2 ma mb mc σ H _ (E4 m σ H Q h)
       m:=m
       mt := .bl m
       pw:=fun _ _ _ e=>by cases e}
end
open PySem L2
section
variable{K:PySem.W.Frag}
theorem i4{c:Bool}{A B A' B':Prop}(ha:A->A')(hb:B->B')(h:if c=true then A else B):if c=true then A' else B':=by
 cases c with
 | true=>rw[if_pos rfl]at h ⊢;exact ha h
 | false=>rw[if_neg Bool.false_ne_true]at h ⊢;exact hb h
theorem Mono.and{a b:WE}(ma:Mono a)(mb:Mono b):Mono (NT a b):=fun ρ S P P' i h=>ma _ _ _ _ (fun x S1 ⟨c,e,q⟩=>⟨c,e,i4 (mb _ _ _ _ i) (i _ _) q⟩) h
theorem Mono.or{a b:WE}(ma:Mono a)(mb:Mono b):Mono (wOr a b):=fun ρ S P P' i h=>ma _ _ _ _ (fun x S1 ⟨c,e,q⟩=>⟨c,e,i4 (i _ _) (mb _ _ _ _ i) q⟩) h
theorem Mono.not{a:WE}(ma:Mono a):Mono (QJ a):=fun ρ S P P' i h=>ma _ _ _ _ (fun x S1 ⟨c,e,q⟩=>⟨c,e,i _ _ q⟩) h
theorem MonoT.and{a b:WT}(ma:MonoT a)(mb:MonoT b):MonoT (Dz a b):=fun ρ S P P' i h=>ma _ _ _ _ (fun x S1 q=>i4 (mb _ _ _ _ i) (i _ _) q) h
theorem MonoT.or{a b:WT}(ma:MonoT a)(mb:MonoT b):MonoT (IY a b):=fun ρ S P P' i h=>ma _ _ _ _ (fun x S1 q=>i4 (i _ _) (mb _ _ _ _ i) q) h
theorem MonoT.not{a:WT}(ma:MonoT a):MonoT (Jl a):=fun ρ S P P' i h=>ma _ _ _ _ (fun x S1 q=>i _ _ q) h
theorem Mono.ifE{t:WT}{a b:WE}(mt:MonoT t)(ma:Mono a)(mb:Mono b):Mono (QK t a b):=fun ρ S P P' i h=>mt _ _ _ _ (fun x S1 q=>i4 (ma _ _ _ _ i) (mb _ _ _ _ i) q) h
theorem Post.at{as as1:List Addr}{H H1:Hp}{Q:VK}{x:SV}{S:Sto}{v:V}(h:Post K as H Q x S)(g:Go as H as1 H1)(ok:Ok K as1 H1 S)(r:Rl K as1 H1 v x):Q v H1:=h as1 H1 v g ok r
theorem Js{a b:WE}(ma:Mono a)(mb:Mono b):∀ σ H Q,lift K (NT a b) σ H Q->RU (lift K a) (lift K b) σ H Q:=by
 rintro σ H Q ⟨as,ρ,S,ok,en,h⟩;refine⟨as,ρ,S,ok,en,ma _ _ _ _ (fun x S1 ⟨c,e,q⟩ as1 H1 v g1 ok1 rv=>?_) h⟩;subst e;refine⟨c,rl_bl.mp rv,i4 (fun q=>?_) (fun q=>q.at g1 ok1 (rl_bl.mpr rfl)) q⟩;exact⟨as1,ρ,S1,ok1,en.mono g1.pre (g1.ku ok),mb _ _ _ _ (fun y S2 h=>h.mono g1) q⟩
theorem No{a b:WE}(ma:Mono a)(mb:Mono b):∀ σ H Q,lift K (wOr a b) σ H Q->US (lift K a) (lift K b) σ H Q:=by
 rintro σ H Q ⟨as,ρ,S,ok,en,h⟩;refine⟨as,ρ,S,ok,en,ma _ _ _ _ (fun x S1 ⟨c,e,q⟩ as1 H1 v g1 ok1 rv=>?_) h⟩;subst e;refine⟨c,rl_bl.mp rv,i4 (fun q=>q.at g1 ok1 (rl_bl.mpr rfl)) (fun q=>?_) q⟩;exact⟨as1,ρ,S1,ok1,en.mono g1.pre (g1.ku ok),mb _ _ _ _ (fun y S2 h=>h.mono g1) q⟩
theorem QR{a:WE}(ma:Mono a):∀ σ H Q,lift K (QJ a) σ H Q->RV (lift K a) σ H Q:=by
 rintro σ H Q ⟨as,ρ,S,ok,en,h⟩;refine⟨as,ρ,S,ok,en,ma _ _ _ _ (fun x S1 ⟨c,e,q⟩ as1 H1 v g1 ok1 rv=>?_) h⟩;subst e;exact⟨c,rl_bl.mp rv,q.at g1 ok1 (rl_bl.mpr rfl)⟩
theorem PostT.mono{as as1:List Addr}{H H1:Hp}{Q:Bool->Hp->Prop}{x:Bool}{S:Sto}(h:PostT K as H Q x S)(g:Go as H as1 H1):PostT K as1 H1 Q x S:=fun as' H' g'=>h as' H' (g.trans g')
theorem Gp{a b:WT}(ma:MonoT a)(mb:MonoT b):∀ σ H Q,liftT K (Dz a b) σ H Q->UQ (liftT K a) (liftT K b) σ H Q:=by
 rintro σ H Q ⟨as,ρ,S,ok,en,h⟩;refine⟨as,ρ,S,ok,en,ma _ _ _ _ (fun c S1 q as1 H1 g1 ok1=>?_) h⟩;refine i4 (fun q=>?_) (fun q=>q as1 H1 g1 ok1) q;exact⟨as1,ρ,S1,ok1,en.mono g1.pre (g1.ku ok),mb _ _ _ _ (fun y S2 h=>h.mono g1) q⟩
theorem Jt{a b:WT}(ma:MonoT a)(mb:MonoT b):∀ σ H Q,liftT K (IY a b) σ H Q->tOr (liftT K a) (liftT K b) σ H Q:=by
 rintro σ H Q ⟨as,ρ,S,ok,en,h⟩;refine⟨as,ρ,S,ok,en,ma _ _ _ _ (fun c S1 q as1 H1 g1 ok1=>?_) h⟩;refine i4 (fun q=>q as1 H1 g1 ok1) (fun q=>?_) q;exact⟨as1,ρ,S1,ok1,en.mono g1.pre (g1.ku ok),mb _ _ _ _ (fun y S2 h=>h.mono g1) q⟩
theorem Np{a:WT}(ma:MonoT a):∀ σ H Q,liftT K (Jl a) σ H Q->UR (liftT K a) σ H Q:=by
 rintro σ H Q ⟨as,ρ,S,ok,en,h⟩;exact⟨as,ρ,S,ok,en,ma _ _ _ _ (fun c S1 q as1 H1 g1 ok1=>q as1 H1 g1 ok1) h⟩
theorem QS{t:WT}{a b:WE}(mt:MonoT t)(ma:Mono a)(mb:Mono b):∀ σ H Q,lift K (QK t a b) σ H Q->tIf (liftT K t) (lift K a) (lift K b) σ H Q:=by
 rintro σ H Q ⟨as,ρ,S,ok,en,h⟩;refine⟨as,ρ,S,ok,en,mt _ _ _ _ (fun c S1 q as1 H1 g1 ok1=>?_) h⟩;refine i4 (fun q=>?_) (fun q=>?_) q
 ·exact⟨as1,ρ,S1,ok1,en.mono g1.pre (g1.ku ok),ma _ _ _ _ (fun y S2 h=>h.mono g1) q⟩
 ·exact⟨as1,ρ,S1,ok1,en.mono g1.pre (g1.ku ok),mb _ _ _ _ (fun y S2 h=>h.mono g1) q⟩
end
section
variable{X:Cx}
theorem Fj{e:Expr}{t:TT}(t':TT)(h:PW X e t)(imp:∀ σ H Q,t' σ H Q->t σ H Q):PW X e t':=fun wh pins s σ H Q I hw=>h wh pins s σ H Q I (imp σ H Q hw)
theorem Ie{x y:Expr}{p:Pos}{a b:WE×WT}(ha:Good X x a)(hb:Good X y b):Good X (.BoolOp .And [x,y] p) (NT a.1 b.1,Dz a.2 b.2):=
 have pw:PW X (.BoolOp .And [x,y] p) (liftT X.K (Dz a.2 b.2)):=Fj _ (MM ha.pt (PX hb.pt)) (Gp ha.mt hb.mt)
 {pe:=i5 _ (MO ha.pe (MN hb.pe)) (Js ha.m hb.m),pt:=pw.pt,m := .and ha.m hb.m,mt := .and ha.mt hb.mt,pw:=fun _ _ _ _=>pw}
theorem Ig{x y z:Expr}{zs:List Expr}{p:Pos}{a b:WE×WT}(ha:Good X x a)(hb:Good X (.BoolOp .And (y::z::zs) p) b):Good X (.BoolOp .And (x::y::z::zs) p) (NT a.1 b.1,Dz a.2 b.2):=
 have pw:PW X (.BoolOp .And (x::y::z::zs) p) (liftT X.K (Dz a.2 b.2)):=Fj _ (MM ha.pt (hb.pw _ _ _ rfl)) (Gp ha.mt hb.mt)
 {pe:=i5 _ (MO ha.pe hb.pe) (Js ha.m hb.m),pt:=pw.pt,m := .and ha.m hb.m,mt := .and ha.mt hb.mt,pw:=fun _ _ _ _=>pw}
theorem LH{x y:Expr}{p:Pos}{a b:WE×WT}(ha:Good X x a)(hb:Good X y b):Good X (.BoolOp .Or [x,y] p) (wOr a.1 b.1,IY a.2 b.2):=
 have pw:PW X (.BoolOp .Or [x,y] p) (liftT X.K (IY a.2 b.2)):=Fj _ (RT ha.pt (SY hb.pt)) (Jt ha.mt hb.mt)
 {pe:=i5 _ (RW ha.pe (MN hb.pe)) (No ha.m hb.m),pt:=pw.pt,m := .or ha.m hb.m,mt := .or ha.mt hb.mt,pw:=fun _ _ _ _=>pw}
theorem LJ{x y z:Expr}{zs:List Expr}{p:Pos}{a b:WE×WT}(ha:Good X x a)(hb:Good X (.BoolOp .Or (y::z::zs) p) b):Good X (.BoolOp .Or (x::y::z::zs) p) (wOr a.1 b.1,IY a.2 b.2):=
 have pw:PW X (.BoolOp .Or (x::y::z::zs) p) (liftT X.K (IY a.2 b.2)):=Fj _ (RT ha.pt (hb.pw _ _ _ rfl)) (Jt ha.mt hb.mt)
 {pe:=i5 _ (RW ha.pe hb.pe) (No ha.m hb.m),pt:=pw.pt,m := .or ha.m hb.m,mt := .or ha.mt hb.mt,pw:=fun _ _ _ _=>pw}
theorem LK{x:Expr}{p:Pos}{a:WE×WT}(ha:Good X x a):Good X (.UnaryOp .Not x p) (QJ a.1,Jl a.2) where
 pe:=i5 _ (Sb ha.pe) (QR ha.m)
 pt:=CY _ (SZ ha.pt) (Np ha.mt)
 m := .not ha.m
 mt := .not ha.mt
 pw:=fun _ _ _ e=>by cases e
theorem LL{t x y:Expr}{p:Pos}{c a b:WE×WT}(hc:Good X t c)(ha:Good X x a)(hb:Good X y b):Good X (.IfExp t x y p) (QK c.2 a.1 b.1,fun _ _ _=>False) where
 pe:=i5 _ (MP hc.pt ha.pe hb.pe) (QS hc.mt ha.m hb.m)
 pt:=Gk
 m := .ifE hc.mt ha.m hb.m
 mt:=fun _ _ _ _ _ h=>h
 pw:=fun _ _ _ e=>by cases e
theorem Tp{i:Nat}{x:Str}{p:Pos}{N:List Str}{sc:Scope}{T:List Str}{Δ:Nat->Sn}{k:Nat}(C:Cok T Δ X k N sc)(hi:N[i]?=some x)(hv:vis sc x=true)(h1:(x == ("__debug__":Str))=false)(h2:(x == ("__classdict__":Str))=false):PE X (.Name x p) (PR i):=by
 have hv':Vis X.env.scope x:=by
  rw[C.hs];unfold vis at hv;simp only[Bool.or_eq_true,beq_iff_eq]at hv;rcases hv with(hv | hv) | hv
  ·exact .inl hv
  ·exact .inr (.inl hv)
  ·exact .inr (.inr hv)
 exact SU (i:=i) (by rw[C.hN];exact hi) hv' h1 h2
theorem QT{x:SV}{k:Const}{j:Nat}{p:Pos}(h:Tj x k=true):Good X (.Constant k j p) (tt1 (wC x)):=by
 refine .one ?_ .c rfl;unfold Tj at h;split at h
 ·exact i5 _ SW (GW fun _ _=>rl_non.mpr rfl)
 ·rw[beq_iff_eq]at h;subst h;exact i5 _ UP (GW fun _ _=>rl_bl.mpr rfl)
 ·have h:=of_decide_eq_true h;subst h;exact i5 _ IC (GW fun _ _=>rl_int.mpr rfl)
 ·have h:=of_decide_eq_true h;subst h;exact i5 _ SX (GW fun _ _=>rl_str.mpr rfl)
 ·cases h
theorem E6:Ez NR:=fun x S P P' i h=>by
 unfold NR at h ⊢;split at h
 ·exact i _ _ h
 ·exact h.elim
theorem LM{x:Expr}{p:Pos}{a:WE×WT}(ha:Good X x a):Good X (.UnaryOp .USub x p) (tt1 (w1 NR a.1)):=by
 refine .one (i5 _ (RY MY ha.pe) (TQ (fun as H S x v Q ok r h=>?_) E6 ha.m)) (.one E6 ha.m) rfl;unfold NR at h;split at h
 ·exact⟨_,rl_int.mp r,h.here ok (rl_int.mpr rfl)⟩
 ·exact h.elim
theorem E7{b:Expr}(h:y9 b=true):JX b:=fun o i=>by cases b<;>first | rfl | cases h
theorem Nq{x y:Expr}{p:Pos}{a b:WE×WT}(ha:Good X x a)(hb:Good X y b)(h:y9 y=true):Good X (.Subscript x y p) (tt1 (w2 sIx a.1 b.1)):=
 .one (i5 _ (Ut (ix_list.or Sy) ha.pe hb.pe (E7 h)) (AF Tb .ix ha.m hb.m)) (.two .ix ha.m hb.m) rfl
def VV(K:PySem.W.Frag)(as:List Addr)(H:Hp)(Q:Option Int->Hp->Prop):Option Int->Sto->Prop:=fun b S'=>∀ as' H',Go as H as' H'->Ok K as' H' S'->Q b H'
def Gq(K:PySem.W.Frag)(w:WO):St->Hp->(Option Int->Hp->Prop)->Prop:=fun σ H Q=>∃ as ρ S,Ok K as H S/\EnvOk K as H σ ρ/\w ρ S (VV K as H Q)
def MonoO(w:WO):Prop:=∀ ρ S (P P':Option Int->Sto->Prop),(∀ x S',P x S'->P' x S')->w ρ S P->w ρ S P'
theorem MonoO.no:MonoO Tf:=fun _ _ _ _ i h=>i _ _ h
theorem MonoO.yes{w:WE}(m:Mono w):MonoO (NV w):=fun _ _ _ _ i h=>m _ _ _ _ (fun x S1 ⟨k,e,q⟩=>⟨k,e,i _ _ q⟩) h
theorem VW:PO X none (Gq X.K Tf):=fun pins s σ H Q I ⟨as,ρ,S,ok,en,h⟩=>Pk pins s σ H Q I (h as H (Go.refl _ _) ok)
theorem Tq{x:Expr}{a:WE×WT}(ha:Good X x a):PO X (some x) (Gq X.K (NV a.1)):=fun pins s σ H Q I ⟨as,ρ,S,ok,en,h⟩=>
 JU ha.pe pins s σ H Q I ⟨as,ρ,S,ok,en,ha.m _ _ _ _ (fun y S1 ⟨k,e,q⟩ as1 H1 v g1 ok1 rv=>⟨k,by subst e;exact rl_int.mp rv,q as1 H1 g1 ok1⟩) h⟩
theorem RlAll.cut{K:PySem.W.Frag}{as:List Addr}{H:Hp}{xs:List SV}{vs:List V}(h:RlAll K as H vs xs)(lo hi:Option Int):RlAll K as H (GJ vs lo hi) (Fd xs lo hi):=by
 unfold GJ Fd;rw[h.length];exact(h.drop _).take _
theorem E8{x:SV}{lo hi:Option Int}{S:Sto}{P P':QE}(i:∀ x S',P x S'->P' x S')(h:NW x lo hi S P):NW x lo hi S P':=by
 unfold NW at h ⊢;split at h
 ·obtain⟨xs,a,b⟩:=h;exact⟨xs,a,i _ _ b⟩
 ·exact i _ _ h
 ·exact h.elim
theorem QU{K:PySem.W.Frag}{as:List Addr}{H:Hp}{S:Sto}{Q:VK}{x:SV}{v:V}{l k:Option Int}(ok:Ok K as H S)(r:Rl K as H v x)(h:NW x l k S (Post K as H Q)):Uw K v l k H Q\/Us K v l k H Q\/V6 K v l k H Q:=by
 cases x with
 | loc j=>
   obtain⟨xs,h1,h2⟩:=h;obtain⟨b,vs,rfl,_,hb,rr⟩:=u5 ok r h1;exact .inl ⟨b,vs,rfl,SqL.of hb,AW ok (rr.cut l k) h2⟩
 | tup xs=>
   obtain⟨b,vs,rfl,hb,rr⟩:=rl_tup.mp r;by_cases hw:HT.sIx vs.length 0 l=0/\HT.sIx vs.length vs.length k=vs.length
   ·refine .inr (.inr ⟨b,vs,rfl,SqT.of hb,hw,?_⟩)
    have e:Fd xs l k=xs:=by
     unfold Fd;rw[<-rr.length,hw.1,hw.2,rr.length];simp
    have h':Post K as H Q (.tup (Fd xs l k)) S:=h;rw[e]at h';exact h'.here ok r
   ·exact .inr (.inl ⟨b,vs,rfl,SqT.of hb,hw,Ck ok (rr.cut l k) h⟩)
 | _=>exact False.elim h
theorem LN{x:Expr}{rl rh:Option Expr}{p p2:Pos}{a:WE×WT}{lo hi:WO}(ha:Good X x a)(hl:PO X rl (Gq X.K lo))(hh:PO X rh (Gq X.K hi))(ml:MonoO lo)(mh:MonoO hi):Good X (.Subscript x (.Slice rl rh none p2) p) (tt1 (Th a.1 lo hi)):=by
 refine .one (i5 _ (Mg (sl_list.or (sl_tup.or Pv)) ha.pe hl hh) ?_) (fun ρ S P P' i h=>ha.m _ _ _ _ (fun x S1 h=>ml _ _ _ _ (fun l S2 h=>mh _ _ _ _ (fun k S3 h=>E8 i h) h) h) h) rfl;rintro σ H Q ⟨as,ρ,S,ok,en,h⟩;refine⟨as,ρ,S,ok,en,ha.m _ _ _ _ (fun x S1 h as1 H1 v g1 ok1 rv=>?_) h⟩;refine⟨as1,ρ,S1,ok1,en.mono g1.pre (g1.ku ok),ml _ _ _ _ (fun l S2 h as2 H2 g2 ok2=>?_) h⟩;refine⟨as2,ρ,S2,ok2,(en.mono g1.pre (g1.ku ok)).mono g2.pre (g2.ku ok1),mh _ _ _ _ (fun k S3 h as3 H3 g3 ok3=>?_) h⟩;have rv3:=Rl.mono (g2.trans g3).pre ((g2.trans g3).ku ok1) x v rv;have g:=(g1.trans g2).trans g3;exact QU ok3 rv3 (E8 (fun _ _ h=>h.mono g) h)
end
end Rf
namespace L2
open PySem PySem.Spec PyProof.Rows
section
variable{prog:Program}{w:World}{A:Around}{R:Result->Shared->Prop}{I:Addr}{fp wr:List Addr}{G:Array GenState->Array GenState->Prop}{n:Nat}{P:Nat->Value->Prop}{St:Nat->Shared->Prop}
def TupsAt(prog:Program)(w:World)(h:Heap)(n:Nat)(ta:Nat->Addr)(kv:Nat->Key×Value):Prop:=∀ i,i<n->∃ key,(m4 prog w).is (kv i).1 key=true/\h.IsTuple (ta i) #[key,(kv i).2]
theorem TupsAt.keep{h h':Heap}{ta:Nat->Addr}{kv:Nat->Key×Value}(t:TupsAt prog w h n ta kv)(k:∀ i o,i<n->h.get? (ta i)=some o->h'.get? (ta i)=some o):TupsAt prog w h' n ta kv:=fun i hi=>by
 obtain⟨key,hk,o,ho,r⟩:=t i hi;exact⟨key,hk,o,k i o hi ho,r⟩
end
end L2
namespace Rf
open PySem L2
structure GoodA(X:Cx)(rs:List Expr)(w:WA):Prop where
 pa:PA X rs (liftA X.K w)
 m:MonoA w
section
variable{X:Cx}
theorem LO:GoodA X [] F0:=⟨Pz,.nil⟩
theorem Ih{x:Expr}{xs:List Expr}{a:WE×WT}{b:WA}(ha:Good X x a)(hb:GoodA X xs b)(hs:f9 x=true):GoodA X (x::xs) (Dy a.1 b):=⟨N8 ha.m hb.m ha.pe hb.pa (l7 hs),.cons ha.m hb.m⟩
theorem LP{rs:List Expr}{j:Nat}{p:Pos}{w:WA}(h:GoodA X rs w):Good X (.Tuple rs j p) (tt1 (wn Q1 w)) := .one (i5 _ (Ss h.pa) (Q3 h.m)) (.n .tup h.m) rfl
theorem LQ{rs:List Expr}{p:Pos}{w:WA}(h:GoodA X rs w):Good X (.List rs p) (tt1 (wn Q2 w)) := .one (i5 _ (Su h.pa) (Q4 h.m)) (.n .lst h.m) rfl
theorem Nr{K:PySem.W.Frag}{s:Sn}{w:WA}(ms:MonoN s)(m:MonoA w):∀ σ H Q,lift K (wn s w) σ H Q->Rb (spS K s) [] E0 (liftA K w) σ H Q:=by
 rintro σ H Q ⟨as,ρ,S,ok,en,h⟩;refine⟨as,ρ,S,ok,en,m _ _ _ _ (fun xs S1 hs as1 H1 vs g1 ok1 rv=>?_) h⟩;show spS K s (vs++[]) H1 Q E0;rw[List.append_nil];exact⟨as1,S1,xs,ok1,rv,ms _ _ _ _ (fun z S3 hz=>hz.mono g1) hs⟩
theorem Ii{T:List Str}{Δ:Nat->Sn}{k f:Nat}{N:List Str}{sc:Scope}{x:Str}{y:Expr}{ys:List Expr}{p q:Pos}{w:WA}(C:Cok T Δ X k N sc)(hf:T[f]?=some x)(hg:glo sc x=true)(h:GoodA X (y::ys) w)(hy:f9 y=true)(hs:ys.all f9=true):Good X (.Call (.Name x p) (y::ys) [] q) (tt1 (wn (Δ f) w)):=by
 obtain⟨d,ps,hC,hr⟩:=C.call f x hf;obtain⟨fa,fd,F,hm,hk,hb⟩:=hC.ex;unfold glo at hg;simp only[Bool.and_eq_true,beq_iff_eq,Bool.not_eq_true']at hg;have gl:Gl X x:=by show X.env.scope.names.lookup x=_;rw[C.hs];exact hg.1.1
 exact .one (i5 _ (Ph F hr gl hm hk hb .nil V0 h.pa hg.2 (l7 hy) (Cp hs)) (Nr (C.mono f) h.m)) (.n (C.mono f) h.m) rfl
theorem VX:bootBuiltins "abs"=some (.builtin "abs"):=by decide +kernel
theorem VY:bootBuiltins "min"=some (.builtin "min"):=by decide +kernel
theorem Nt:bootBuiltins "max"=some (.builtin "max"):=by decide +kernel
theorem VZ:bootBuiltins "len"=some (.builtin "len"):=by decide +kernel
theorem Va:bootBuiltins "all"=some (.builtin "all"):=by decide +kernel
theorem Rt:bootBuiltins "int"=some (.type "int"):=by decide +kernel
theorem Ij:bootBuiltins "list"=some (.type "list"):=by decide +kernel
theorem Vb:bootBuiltins "isinstance"=some (.builtin "isinstance"):=by decide +kernel
theorem Ru:bootBuiltins "str"=some (.type "str"):=by decide +kernel
theorem Tt:bootBuiltins "bool"=some (.type "bool"):=by decide +kernel
theorem QV:bootBuiltins "range"=some (.type "range"):=by decide +kernel
theorem Ju:bootBuiltins "tuple"=some (.type "tuple"):=by decide +kernel
theorem Nu{T:List Str}{Δ:Nat->Sn}{k:Nat}{N:List Str}{sc:Scope}{b:BI}{y:Expr}{ys:List Expr}{p q:Pos}{w:WA}(C:Cok T Δ X k N sc)(hg:glo sc b.name=true)(h:GoodA X (y::ys) w)(hy:f9 y=true)(hs:ys.all f9=true):Good X (.Call (.Name b.name p) (y::ys) [] q) (tt1 (wn (sBi b) w)):=by
 unfold glo at hg;simp only[Bool.and_eq_true,beq_iff_eq,Bool.not_eq_true']at hg;have gl:Gl X b.name:=by show X.env.scope.names.lookup b.name=_;rw[C.hs];exact hg.1.1
 have hm:=C.bl b;have e1:=l7 (es:=ys) (env:=X.env) hy;have e2:=Cp (env:=X.env) (pos:=q) hs;refine .one (i5 (t:=tCB (rBi X.K b) (liftA X.K w)) _ ?_ (VD Td .bi h.m)) (.n .bi h.m) rfl;cases b with
 | len=>exact AD FO gl hm VZ h.pa (by decide) hg.2 e1 e2
 | abs=>exact AD Md gl hm VX h.pa (by decide) hg.2 e1 e2
 | min=>exact AD (Kf C.calm) gl hm VY h.pa (by decide) hg.2 e1 e2
 | max=>exact AD (Ke C.calm) gl hm Nt h.pa (by decide) hg.2 e1 e2
 | int=>exact Al Kg gl hm Rt h.pa (by decide) hg.2 e1 e2
 | list=>exact Al FP gl hm Ij h.pa (by decide) hg.2 e1 e2
 | tuple=>exact Al EY gl hm Ju h.pa (by decide) hg.2 e1 e2
 | all=>exact AD (Kr C.calm) gl hm Va h.pa (by decide) hg.2 e1 e2
 | any=>exact AD (fun _ _ _ _ _ _ _ _ _ h=>False.elim h) gl hm VA h.pa (by decide) hg.2 e1 e2
 | sorted=>exact AD (fun _ _ _ _ _ _ _ _ _ h=>False.elim h) gl hm Mv h.pa (by decide) hg.2 e1 e2
 | isi=>exact AD (call_isi1.or Kq) gl hm Vb h.pa (by decide) hg.2 e1 e2
 | str=>exact Al (fun _ _ _ _ _ _ _ _ _ h=>False.elim h) gl hm Ru h.pa (by decide) hg.2 e1 e2
theorem Mono.mt{m:MT}{a:WE}{b:WA}(ma:Mono a)(mb:MonoA b):Mono (wMt m a b):=fun ρ S P P' i h=>ma _ _ _ _ (fun x S1 ⟨e,h⟩=>⟨e,mb _ _ _ _ (fun xs S2 h=>FZ _ _ _ _ i h) h⟩) h
theorem y8{ro:Expr}{nm:Str}{env:Env}{wh:Sem Value}(h:DV ro=true):attributeBase ro nm env wh=wh:=by
 unfold attributeBase;split
 ·cases h
 ·rfl
theorem Nv{K:PySem.W.Frag}{as:List Addr}{H:Hp}{S:Sto}{k:Nat}{v:V}{xs:List SV}(ok:Ok K as H S)(r:Rl K as H v (.loc k))(hs:S[k]?=some (.lst xs)):tyV K "list" v H:=by
 obtain⟨a,vs,rfl,_,h1,_⟩:=u5 ok r hs;exact .inl ⟨rfl,_,SqL.of h1⟩
theorem Tu{K:PySem.W.Frag}{m:MT}{a:WE}{b:WA}(ma:Mono a)(mb:MonoA b):∀ σ H Q,lift K (wMt m a b) σ H Q->tBM K "list" (rMt m) (lift K a) (liftA K b) σ H Q:=by
 rintro σ H Q ⟨as,ρ,S,ok,en,h⟩;refine⟨as,ρ,S,ok,en,ma _ _ _ _ (fun x S1 ⟨⟨j,zs,e,hz⟩,h⟩ as1 H1 v g1 ok1 rv=>?_) h⟩;subst e;refine⟨Nv ok1 rv hz,as1,ρ,S1,ok1,en.mono g1.pre (g1.ku ok),mb _ _ _ _ (fun xs S2 h as2 H2 vs g2 ok2 rs=>?_) h⟩;exact NM ok2 (Rl.mono g2.pre (g2.ku ok1) _ v rv) rs (FZ _ _ _ _ (fun z S3 hz=>hz.mono (g1.trans g2)) h)
theorem QW{K:PySem.W.Frag}{m:MT}{a:WE}(ma:Mono a):∀ σ H Q,lift K (wMt m a F0) σ H Q->Sz K "list" (rMt m) (lift K a) σ H Q:=by
 rintro σ H Q ⟨as,ρ,S,ok,en,h⟩;refine⟨as,ρ,S,ok,en,ma _ _ _ _ (fun x S1 ⟨⟨j,zs,e,hz⟩,h⟩ as1 H1 v g1 ok1 rv=>?_) h⟩;subst e;exact⟨Nv ok1 rv hz,NM ok1 rv .nil (FZ _ _ _ _ (fun z S3 hz=>hz.mono g1) h)⟩
theorem MtR.orM{id:String}{r r':V->List V->Hp->VK->Prop}(h:MtM X id r)(h':MtM X id r'):MtR X id (fun x xs H Q=>r x xs H Q\/r' x xs H Q):=fun pins s σ H x xs v us Q I rx rs q=>q.elim (h pins s σ H x xs v us Q I rx rs) (h' pins s σ H x xs v us Q I rx rs)
theorem Nw{m:MT}{ro y:Expr}{ys:List Expr}{ap cp:Pos}{a:WE×WT}{b:WA}(ha:Good X ro a)(hb:GoodA X (y::ys) b)(hn:DV ro=true)(hl:(ap.endLine == cp.line)=true)(hk:(y::ys).length<29)(hy:f9 y=true)(hs:ys.all f9=true):Good X (.Call (.Attribute ro m.name ap) (y::ys) [] cp) (tt1 (wMt m a.1 b)):=by
 have e1:=l7 (es:=ys) (env:=X.env) hy;have e2:=Cp (env:=X.env) (pos:=cp) hs
 have e3:((backTo cp (starEach (y::ys) X.env)).all (fun x=>!x.1)&&(backToKw cp (keywordEach [] X.env)).all (fun x=>x.1.isSome)
  && decide ((y::ys).length+([]:List Keyword).length+(if ([]:List Keyword).isEmpty then 0 else 1)<30))=true:=by
  rw[F3 (by rw[List.all_cons,hy,hs];rfl)];simp only[Bool.true_and,Bool.and_eq_true,decide_eq_true_eq];exact⟨rfl,by show(y::ys).length+0+0<30;omega⟩
 refine .one (i5 (t:=tBM X.K "list" (rMt m) (lift X.K a.1) (liftA X.K b)) _ ?_ (Tu ha.m hb.m)) (.mt ha.m hb.m) rfl;cases m with
 | append=>exact GM PySem.F.plainAttrs_list PySem.F.slot_list_append PySem.F.type_list_append C4 ha.pe hb.pa (y8 hn) e3 hl e1 e2
 | extend=>exact GM PySem.F.plainAttrs_list PySem.F.slot_list_extend PySem.F.type_list_extend Ep ha.pe hb.pa (y8 hn) e3 hl e1 e2
 | pop=>exact GM PySem.F.plainAttrs_list PySem.F.slot_list_pop PySem.F.type_list_pop (MtR.orM Ml GO) ha.pe hb.pa (y8 hn) e3 hl e1 e2
 | insert=>exact GM PySem.F.plainAttrs_list PySem.F.slot_list_insert PySem.F.type_list_insert Es ha.pe hb.pa (y8 hn) e3 hl e1 e2
 | reverse=>exact GM PySem.F.plainAttrs_list PySem.F.slot_list_reverse PySem.F.type_list_reverse Dp ha.pe hb.pa (y8 hn) e3 hl e1 e2
theorem LR{m:MT}{ro:Expr}{ap cp:Pos}{a:WE×WT}(ha:Good X ro a)(hn:DV ro=true)(hl:(ap.endLine == cp.line)=true):Good X (.Call (.Attribute ro m.name ap) [] [] cp) (tt1 (wMt m a.1 F0)):=by
 refine .one (i5 (t:=Sz X.K "list" (rMt m) (lift X.K a.1)) _ ?_ (QW ha.m)) (.mt ha.m .nil) rfl;cases m with
 | append=>exact Do PySem.F.plainAttrs_list PySem.F.slot_list_append PySem.F.type_list_append C4 ha.pe (y8 hn) hl
 | extend=>exact Do PySem.F.plainAttrs_list PySem.F.slot_list_extend PySem.F.type_list_extend Ep ha.pe (y8 hn) hl
 | pop=>exact Do PySem.F.plainAttrs_list PySem.F.slot_list_pop PySem.F.type_list_pop (MtR.orM Ml GO) ha.pe (y8 hn) hl
 | insert=>exact Do PySem.F.plainAttrs_list PySem.F.slot_list_insert PySem.F.type_list_insert Es ha.pe (y8 hn) hl
 | reverse=>exact Do PySem.F.plainAttrs_list PySem.F.slot_list_reverse PySem.F.type_list_reverse Dp ha.pe (y8 hn) hl
theorem LS{T:List Str}{Δ:Nat->Sn}{k:Nat}{N:List Str}{sc:Scope}{t:TyN}{p:Pos}(C:Cok T Δ X k N sc)(hg:glo sc (Str.ofString t.nm)=true)(ht:t ≠ .none):Good X (.Name (Str.ofString t.nm) p) (tt1 (wC (.ty t))):=by
 unfold glo at hg;simp only[Bool.and_eq_true,beq_iff_eq,Bool.not_eq_true']at hg;have gl:Gl X (Str.ofString t.nm):=by show X.env.scope.names.lookup _=_;rw[C.hs];exact hg.1.1
 have b:bootBuiltins (Str.ofString t.nm)=some (.type t.nm):=by cases t<;>first | exact Rt | exact Tt | exact Ru | exact Ij | exact Ju | exact absurd rfl ht
 exact .one (i5 _ (PV (v := .ty t.nm) gl (C.ty t ht) b rfl (by cases t<;>first | decide | exact absurd rfl ht) hg.2) (GW fun _ _=>rl_ty.mpr rfl)) .c rfl
theorem Tv{K:PySem.W.Frag}{as:List Addr}{H:Hp}{lo hi:Int}:RlAll K as H (Kt lo (hi - lo).toNat) (CN lo hi):=by
 unfold Kt CN
 induction List.range (hi - lo).toNat with
 | nil=>exact .nil
 | cons i r ih=>exact .cons (rl_int.mpr rfl) ih
theorem E9{a:WE}(m:Mono a):Mono (IZ a):=fun ρ S P P' i h=>m _ _ _ _ (fun x S1 ⟨j,e,z,q⟩=>⟨j,e,z,i _ _ q⟩) h
theorem Gr{T:List Str}{Δ:Nat->Sn}{k:Nat}{N:List Str}{sc:Scope}{r:Expr}{p p2 q q2:Pos}{a:WE×WT}(C:Cok T Δ X k N sc)(hg:glo sc "list"=true)(hg2:glo sc "range"=true)(ha:Good X r a)(hs:f9 r=true):Good X (.Call (.Name "list" p) [.Call (.Name "range" p2) [r] [] q2] [] q) (tt1 (IZ a.1)):=by
 unfold glo at hg hg2;simp only[Bool.and_eq_true,beq_iff_eq,Bool.not_eq_true']at hg hg2;have gl:Gl X "list":=by show X.env.scope.names.lookup ("list":Str)=_;rw[C.hs];exact hg.1.1
 have gr:Gl X "range":=by show X.env.scope.names.lookup ("range":Str)=_;rw[C.hs];exact hg2.1.1
 have e1:=Al (p:=p2) (pos:=q2) Ks gr C.rng QV (AQ ha.pe Bg (l7 hs)) (by decide) hg2.2 (l7 hs) rfl;refine .one (i5 _ (Al (p:=p) (pos:=q) (FQ C.calm) gl (C.bl .list) Ij (AQ e1 Bg rfl) (by decide) hg.2 rfl rfl) ?_) (E9 ha.m) rfl;rintro σ H Q ⟨as,ρ,S,ok,en,h⟩;refine⟨as,ρ,S,ok,en,ha.m _ _ _ _ (fun x S1 ⟨j,e,z,q⟩ as1 H1 v g1 ok1 rv=>?_) h⟩;subst e;refine⟨j,by rw[rl_int.mp rv],fun p hp=>⟨p,0,j,rfl,f7,by decide,by decide,z.1,by omega,by omega,?_⟩⟩;exact AW (ok1.new hp) Tv (q.mono (g1.trans (Go.new hp)))
theorem Gv:Ez QL:=fun x S P P' i h=>by
 unfold QL at h ⊢;split at h
 ·obtain⟨xs,e,h⟩:=h;exact⟨xs,e,i _ _ h⟩
 ·exact h.elim
theorem LU{r:Expr}{j:Nat}{p p2 p3 p4:Pos}{a:WE×WT}(ha:Good X r a):Good X (.Subscript r (.Slice none none (some (.UnaryOp .USub (.Constant (.int 1) j p4) p3)) p2) p) (tt1 (w1 QL a.1)):=by
 refine .one (i5 _ (TV ha.pe (JU (RY MY IC))) ?_) (.one Gv ha.m) rfl;rintro σ H Q ⟨as,ρ,S,ok,en,h⟩;refine⟨as,ρ,S,ok,en,ha.m _ _ _ _ (fun x S1 h as1 H1 v g1 ok1 rv=>?_) h⟩;refine⟨1,rfl,-1,rfl,rfl,?_⟩;cases x with
 | loc k=>
   obtain⟨xs,h1,h2⟩:=h;obtain⟨b,vs,rfl,_,hb,rr⟩:=u5 ok1 rv h1;exact⟨b,vs,rfl,SqL.of hb,AW ok1 rr.rev (h2.mono g1)⟩
 | _=>exact False.elim h
end
section
variable{X:Cx}
theorem Fk{K:PySem.W.Frag}{as:List Addr}{H:Hp}:∀{ns:List Int} {vs:List V},RlAll K as H vs (ns.map SV.int)->vs=ns.map V.int
 | [],vs,h=>rla_nil.mp h
 | n::ns,vs,h=>by
   obtain⟨v,r,rfl,h1,h2⟩:=rla_cons.mp h;rw[rl_int.mp h1,Fk h2];rfl
theorem F5{a:WE}(m:Mono a):Mono (Na a):=fun ρ S P P' i h=>m _ _ _ _ (fun x S1 ⟨k,ns,a,b,c,q⟩=>⟨k,ns,a,b,c,fun m g=>i _ _ (q m g)⟩) h
theorem F6{a d:WE}(m:Mono a)(m':Mono d):Mono (Nb a d):=fun ρ S P P' i h=>m _ _ _ _ (fun x S1 h=>m' _ _ _ _ (fun y S2 ⟨k,ns,z,a,b,c,q0,q⟩=>⟨k,ns,z,a,b,c,fun e=>i _ _ (q0 e),fun m g=>i _ _ (q m g)⟩) h) h
theorem Ik{T:List Str}{Δ:Nat->Sn}{k:Nat}{N:List Str}{sc:Scope}{r:Expr}{p q:Pos}{a:WE×WT}(C:Cok T Δ X k N sc)(hg:glo sc "max"=true)(ha:Good X r a)(hs:f9 r=true):Good X (.Call (.Name "max" p) [r] [] q) (tt1 (Na a.1)):=by
 unfold glo at hg;simp only[Bool.and_eq_true,beq_iff_eq,Bool.not_eq_true']at hg;have gl:Gl X "max":=by show X.env.scope.names.lookup ("max":Str)=_;rw[C.hs];exact hg.1.1
 refine .one (i5 _ (AD (LA C.calm) gl (C.bl .max) Nt (AQ ha.pe Bg (l7 hs)) (by decide) hg.2 (l7 hs) rfl) ?_) (F5 ha.m) rfl;rintro σ H Q ⟨as,ρ,S,ok,en,h⟩;refine⟨as,ρ,S,ok,en,ha.m _ _ _ _ (fun x S1 ⟨k,ns,e0,h1,h2,q⟩ as1 H1 v g1 ok1 rv=>?_) h⟩;subst e0;obtain⟨a,us,rfl,ea,ha,rr⟩:=u5 ok1 rv h1;rw[Fk rr]at ha;exact⟨a,ns,rfl,ha,h2,fun m g=>q m g as1 H1 _ g1 ok1 (rl_int.mpr rfl)⟩
theorem Il{T:List Str}{Δ:Nat->Sn}{k:Nat}{N:List Str}{sc:Scope}{r u:Expr}{p q kp:Pos}{a d:WE×WT}(C:Cok T Δ X k N sc)(hg:glo sc "max"=true)(ha:Good X r a)(hd:Good X u d)(hs:f9 r=true):Good X (.Call (.Name "max" p) [r] [⟨some "default",u,kp⟩] q) (tt1 (Nb a.1 d.1)):=by
 unfold glo at hg;simp only[Bool.and_eq_true,beq_iff_eq,Bool.not_eq_true']at hg;have gl:Gl X "max":=by show X.env.scope.names.lookup ("max":Str)=_;rw[C.hs];exact hg.1.1
 refine .one (i5 _ (L8 (L9 C.calm) gl (C.bl .max) Nt (AQ ha.pe Bg (l7 hs)) (Pi hd.pe Sw) rfl (by decide) hg.2 (by rw[l7 hs];rfl) (by rw[l7 hs];rfl) rfl rfl) ?_) (F6 ha.m hd.m) rfl;rintro σ H Q ⟨as,ρ,S,ok,en,h⟩;refine⟨as,ρ,S,ok,en,ha.m _ _ _ _ (fun x S1 h as1 H1 v g1 ok1 rv=>?_) h⟩;have en1:=en.mono g1.pre (g1.ku ok);refine⟨as1,ρ,S1,ok1,en1,hd.m _ _ _ _ (fun y S2 ⟨k,ns,i,e0,e1,h1,q0,q⟩ as2 H2 v2 g2 ok2 rv2=>?_) h⟩;subst e0;subst e1;rw[rl_int]at rv2;obtain⟨a,us,ev,ea,ha,rr⟩:=u5 ok2 (Rl.mono g2.pre (g2.ku ok1) _ _ rv) h1;rw[Fk rr]at ha;exact⟨a,ns,i,by rw[ev],by rw[rv2],ha,fun e=>q0 e as2 H2 _ (g1.trans g2) ok2 (rl_int.mpr rfl),fun m g=>q m g as2 H2 _ (g1.trans g2) ok2 (rl_int.mpr rfl)⟩
end
section
variable{K:PySem.W.Frag}{as:List Addr}{H:Hp}{S:Sto}
theorem RlD.length:∀{kvs:List (Int×SV)} {ks:List (Key×V)},RlD K as H ks kvs->ks.length=kvs.length
 | [],_,h=>by rw[show _=[] from h];rfl
 | p::r,_,⟨v,t,e,_,h⟩=>by rw[e,List.length_cons,List.length_cons,RlD.length h]
theorem RlD.get:∀{kvs:List (Int×SV)} {ks:List (Key×V)} {i:Nat} {p:Int×SV},RlD K as H ks kvs->kvs[i]?=some p->∃ v,ks[i]?=some (.inl p.1,v)
 | q::r,_,0,p,⟨v,t,e,_,_⟩,hp=>by cases hp;subst e;exact⟨v,rfl⟩
 | q::r,_,i+1,p,⟨v,t,e,_,h⟩,hp=>by
   subst e;obtain⟨u,hu⟩:=RlD.get (i:=i) h (show r[i]?=some p from hp);exact⟨u,hu⟩
theorem RlD.val:∀{kvs:List (Int×SV)} {ks:List (Key×V)},RlD K as H ks kvs->∀ i,(∃ x v,DQ kvs i=some x/\Bn ks (.inl i)=some v/\Rl K as H v x)\/(DQ kvs i=none/\Bn ks (.inl i)=none)
 | [],_,h,i=>by rw[show _=[] from h];exact .inr ⟨rfl,rfl⟩
 | p::r,_,⟨v,t,e,h1,h2⟩,i=>by
   subst e;by_cases hp:p.1=i
   ·refine .inl ⟨p.2,v,?_,?_,h1⟩
    ·unfold DQ;rw[List.find?_cons_of_pos (by simp[hp])];rfl
    ·unfold Bn;rw[List.find?_cons_of_pos (by simp[hp])];rfl
   ·have e1:DQ (p::r) i=DQ r i:=by unfold DQ;rw[List.find?_cons_of_neg (by simp[hp])]
    have e2:Bn ((Sum.inl p.1,v)::t) (Sum.inl i)=Bn t (Sum.inl i):=by unfold Bn;rw[List.find?_cons_of_neg (by simp[hp])]
    rw[e1,e2];exact RlD.val h2 i
theorem RlD.any:∀{kvs:List (Int×SV)} {ks:List (Key×V)},RlD K as H ks kvs->∀ i,(ks.any fun kv=>decide (kv.1=Sum.inl i))=kvs.any fun p=>decide (p.1=i)
 | [],_,h,i=>by rw[show _=[] from h];rfl
 | p::r,_,⟨v,t,e,h1,h2⟩,i=>by
   subst e;rw[List.any_cons,List.any_cons,RlD.any h2 i]
   congr 1
   simp
theorem RlD.set{v:V}{x:SV}(rv:Rl K as H v x):∀{kvs:List (Int×SV)} {ks:List (Key×V)},RlD K as H ks kvs->∀ i,RlD K as H (ks.map fun kv=>if kv.1=Sum.inl i then (kv.1,v) else kv) (kvs.map fun p=>if p.1=i then (p.1,x) else p)
 | [],_,h,i=>by rw[show _=[] from h];rfl
 | p::r,_,⟨u,t,e,h1,h2⟩,i=>by
   subst e;rw[List.map_cons,List.map_cons];by_cases hp:p.1=i
   ·rw[if_pos hp,if_pos (by rw[hp])];exact⟨v,_,rfl,rv,RlD.set rv h2 i⟩
   ·rw[if_neg hp,if_neg (fun z=>hp (Sum.inl.inj z))];exact⟨u,_,rfl,h1,RlD.set rv h2 i⟩
theorem RlD.snoc{v:V}{x:SV}(rv:Rl K as H v x)(i:Int):∀{kvs:List (Int×SV)} {ks:List (Key×V)},RlD K as H ks kvs->RlD K as H (ks++[(Sum.inl i,v)]) (kvs++[(i,x)])
 | [],_,h=>by rw[show _=[] from h];exact⟨v,[],rfl,rv,rfl⟩
 | p::r,_,⟨u,t,e,h1,h2⟩=>by subst e;exact⟨u,_,rfl,h1,RlD.snoc rv i h2⟩
theorem RlD.put{kvs:List (Int×SV)}{ks:List (Key×V)}{v:V}{x:SV}(h:RlD K as H ks kvs)(rv:Rl K as H v x)(i:Int):RlD K as H (BC ks (Sum.inl i) v) (Az kvs i x):=by
 unfold BC Az;rw[h.any i];by_cases z:(kvs.any fun p=>decide (p.1=i))=true
 ·rw[if_pos z,if_pos z];exact h.set rv i
 ·rw[if_neg z,if_neg z];exact h.snoc rv i
theorem Nx{x:SV}{v:V}{kvs:List (Int×SV)}(ok:Ok K as H S)(r:Rl K as H v x)(h:Co x S=some kvs):∃ a k ks,x = .loc k/\v = .ref a/\as[k]?=some a/\Rd H a (.dK ks)/\RlD K as H ks kvs:=by
 cases x with
 | loc k=>
   obtain⟨a,ea,rfl⟩:=rl_loc.mp r;unfold Co at h;cases hs:S[k]? with
   | none=>simp only[hs]at h;cases h
   | some o=>
     have ro:=ok.obj k o a hs ea;cases o with
     | lst _=>simp only[hs]at h;cases h
     | iset _=>simp only[hs]at h;cases h
     | dct kv=>simp only[hs]at h;cases h;obtain⟨ks,h1,h2⟩:=ro;exact⟨a,k,ks,rfl,rfl,ea,.inl h1,h2⟩
     | dcf o ks kv=>simp only[hs]at h;cases h;exact⟨a,k,ks,rfl,rfl,ea,.inr ⟨o,ro.1⟩,ro.2⟩
 | _=>cases h
theorem DA:Mono2 Jm:=fun x y S P P' i ⟨kvs,j,v,a,b,c,q⟩=>⟨kvs,j,v,a,b,c,i _ _ q⟩
theorem BH{n:Bool}:Mono2 (LB n):=fun x y S P P' i ⟨kvs,j,a,b,q⟩=>⟨kvs,j,a,b,i _ _ q⟩
theorem Ny:Bc K Jm (fun x y H Q=>∃ a v,x = .ref a/\FR H a y (some v)/\Q v H):=fun as H S x y v u Q ok rx ry h=>by
 obtain⟨kvs,i,w,h1,rfl,h2,q⟩:=h;obtain⟨a,k,ks,rfl,rfl,ea,rd,rr⟩:=Nx ok rx h1;rw[rl_int]at ry;subst ry;rcases rr.val i with⟨x',v',e1,e2,r'⟩ | ⟨e1,_⟩
 ·rw[h2]at e1;cases e1;exact⟨a,v',rfl,.inl ⟨ks,.inl i,rd,rfl,e2.symm⟩,q.here ok r'⟩
 ·rw[h2]at e1;cases e1
theorem DY{n:Bool}:Bc K (LB n) (fun y x H Q=>∃ a o,x = .ref a/\FR H a y o/\Q (.bl (if n then !o.isSome else o.isSome)) H):=fun as H S y x u v Q ok ry rx h=>by
 obtain⟨kvs,i,h1,rfl,q⟩:=h;obtain⟨a,k,ks,rfl,rfl,ea,rd,rr⟩:=Nx ok rx h1;rw[rl_int]at ry;subst ry
 have e:(Bn ks (Sum.inl i)).isSome=(DQ kvs i).isSome:=by
  rcases rr.val i with⟨x',v',e1,e2,r'⟩ | ⟨e1,e2⟩<;>rw[e1,e2]<;>rfl
 refine⟨a,_,rfl,.inl ⟨ks,.inl i,rd,rfl,rfl⟩,?_⟩;rw[e];exact q.here ok (rl_bl.mpr rfl)
end
section
variable{X:Cx}
theorem Im{x y:Expr}{p:Pos}{a b:WE×WT}(hu:X.A.units+1<cLine)(ha:Good X x a)(hb:Good X y b)(h:y9 y=true):Good X (.Subscript x y p) (tt1 (w2 Jm a.1 b.1)):=
 .one (i5 _ (Pu hu ha.pe hb.pe (E7 h)) (AF Ny DA ha.m hb.m)) (.two DA ha.m hb.m) rfl
theorem LV{n:Bool}{x y:Expr}{p:Pos}{a b:WE×WT}(hu:X.A.units+1<cLine)(ha:Good X x a)(hb:Good X y b)(h:m5 y=true):Good X (.Compare x [if n then .NotIn else .In] [y] p) (tt2 (w2 (LB n) a.1 b.1)):=by
 have m:Mono (w2 (LB n) a.1 b.1) := .two BH ha.m hb.m;cases n with
 | false=>exact{pe:=i5 _ (MK (Mw hu ha.pe hb.pe) (AH h)) (AF DY BH ha.m hb.m)
                pt:=CY _ (ML (Mw hu ha.pe hb.pe) (AH h)) fun σ H Q h=>AF DY BH ha.m hb.m σ H _ (E4 m σ H Q h)
                m:=m
                mt := .bl m
                pw:=fun _ _ _ e=>by cases e}
 | true=>exact{pe:=i5 _ (MK (Ey hu ha.pe hb.pe) (AH h)) (AF DY BH ha.m hb.m)
               pt:=CY _ (ML (Ey hu ha.pe hb.pe) (AH h)) fun σ H Q h=>AF DY BH ha.m hb.m σ H _ (E4 m σ H Q h)
               m:=m
               mt := .bl m
               pw:=fun _ _ _ e=>by cases e}
end
section
variable{K:PySem.W.Frag}{as:List Addr}{H:Hp}{S:Sto}
theorem C6:Mono2 Gf:=fun x y S P P' i ⟨xs,a,b,q⟩=>⟨xs,a,b,i _ _ q⟩
theorem Gx:Bc K Gf (fun x y H Q=>∃ a b xs,x = .ref a/\y = .ref b/\SqT K H a xs/\SqT K H b []/\Q (.bl xs.isEmpty) H):=fun as H S x y v u Q ok rx ry h=>by
 obtain⟨xs,rfl,rfl,q⟩:=h;obtain⟨a,vs,rfl,hv,rv⟩:=rl_tup.mp rx;obtain⟨b,ws,rfl,hw,rw'⟩:=rl_tup.mp ry;obtain rfl:=rla_nil.mp rw';have e:vs.isEmpty=xs.isEmpty:=by have:=rv.length;cases vs<;>cases xs<;>first | rfl | (simp at this)
 refine⟨a,b,vs,rfl,rfl,SqT.of hv,SqT.of hw,?_⟩;rw[e];exact q.here ok (rl_bl.mpr rfl)
end
section
variable{X:Cx}
theorem Io{ra rb:Expr}{p:Pos}{wa wb:WE}(hu:X.A.units+1<cLine)(ha:PE X ra (lift X.K wa))(hb:PE X rb (lift X.K wb))(ma:Mono wa)(mb:Mono wb)(hn:m5 rb=true):Good X (.Compare ra [.Eq] [rb] p) (tt2 (w2 Gf wa wb)):=by
 have m:Mono (w2 Gf wa wb) := .two C6 ma mb
 exact{pe:=i5 _ (JQ (Jf (by omega)) ha hb (AH hn)) (AF Gx C6 ma mb)
       pt:=CY _ (JR (Jf (by omega)) ha hb (AH hn)) fun σ H Q h=>AF Gx C6 ma mb σ H _ (E4 m σ H Q h)
       m:=m
       mt := .bl m
       pw:=fun _ _ _ e=>by cases e}
end
open PySem L2
def AY(K:PySem.W.Frag)(g:Tg):TG:=fun v σ H Q=>∃ as ρ S x,Ok K as H S/\EnvOk K as H σ ρ/\Rl K as H v x/\wTg g x ρ fun ρ'=>∀ σ',EnvOk K as H σ' ρ'->Q σ' H
def Tw(K:PySem.W.Frag)(g:Tgs):TGs:=fun vs σ H Q=>∃ as ρ S xs,Ok K as H S/\EnvOk K as H σ ρ/\RlAll K as H vs xs/\Aw g xs ρ fun ρ'=>∀ σ',EnvOk K as H σ' ρ'->Q σ' H
mutual
theorem j6:∀(g:Tg) {x:SV} {ρ:EnvS} {P P':EnvS->Prop},(∀ r,P r->P' r)->wTg g x ρ P->wTg g x ρ P'
 | .nm i,x,ρ,P,P',h,q=>by unfold wTg at q ⊢;exact h _ q
 | .tup ts,x,ρ,P,P',h,q=>by
   cases x with
   | tup xs=>unfold wTg at q ⊢;exact Gy ts h q
   | _=>unfold wTg at q;exact q.elim
theorem Gy:∀(g:Tgs) {x:List SV} {ρ:EnvS} {P P':EnvS->Prop},(∀ r,P r->P' r)->Aw g x ρ P->Aw g x ρ P'
 | .nil,x,ρ,P,P',h,q=>by
   cases x with
   | nil=>unfold Aw at q ⊢;exact h _ q
   | cons _ _=>unfold Aw at q;exact q.elim
 | .cons t ts,x,ρ,P,P',h,q=>by
   cases x with
   | nil=>unfold Aw at q;exact q.elim
   | cons y ys=>unfold Aw at q ⊢;exact j6 t (fun r q=>Gy ts h q) q
end
theorem Bt{env:Env}:∀{es:List Expr},es.all f9=true->(assignEach es env).length=es.length/\(assignEach es env).findIdx? (·.1)=none/\∀ e r,es=e::r->(assignEach (e::r) env).map (·.2)=assign e env::(assignEach r env).map (·.2)
 | [],_=>⟨rfl,rfl,fun e r h=>by cases h⟩
 | e::es,h=>by
   rw[List.all_cons,Bool.and_eq_true]at h;obtain⟨h1,h2,_⟩:=Bt (env:=env) h.2;have:assignEach (e::es) env=(false,assign e env)::assignEach es env:=by cases e<;>first | rfl | (have:=h.1;cases this)
   rw[this];refine⟨by simp[h1],by rw[List.findIdx?_cons,h2];rfl,fun e' r z=>?_⟩;injection z with z1 z2;subst z1 z2;rw[this];rfl
theorem DB{k:Nat}{N:List Str}{sc:Scope}:∀{g:Tgs} {es:List Expr},Aq k N sc g es=true->es.all f9=true
 | .nil,es,h=>by unfold Aq at h;rw[List.isEmpty_iff]at h;subst h;rfl
 | .cons t ts,es,h=>by
   rw[Aq]at h;replace h:=a7 h;obtain⟨e,he,h⟩:=h;simp only[Bool.and_eq_true]at h;rw[B0 he,List.all_cons,h.1.2,DB h.2];rfl
section
variable{X:Cx}{T:List Str}{Δ:Nat->Sn}{k:Nat}{N:List Str}{sc:Scope}
mutual
theorem v8(C:Cok T Δ X k N sc):∀(g:Tg) (r:Expr),AM k N sc g r=true->PG X r (AY X.K g)
 | .nm i,r,h=>by
   rw[AM]at h;replace h:=a7 h;obtain⟨x,hx,h⟩:=h;obtain⟨p,rfl⟩:=Bs hx
   ·simp only[Bool.and_eq_true,decide_eq_true_eq]at h;obtain⟨⟨h1,h2⟩,h3⟩:=h;unfold loc at h3;simp only[Bool.or_eq_true,beq_iff_eq]at h3;have hl:Loc X.env.scope x:=by rw[C.hs];exact h3
    have hf:X.fn x=true\/X.env.scope.names.lookup x=some .local:=by
     rw[C.hs];rcases h3 with h3 | h3
     ·exact .inr h3
     ·exact .inl (C.fn i x h1 h2 h3)
    have b:=Pb (X:=X) (pos:=p) (i:=i) (by rw[C.hN];exact C.nd) (by rw[C.hN];exact h2) hl hf;intro pins s σ H v u Q I rr hq;obtain⟨as,ρ,S,y,ok,en,rv,q⟩:=hq;unfold wTg at q;exact b pins s σ H v u Q I rr (q _ (en.set rv))
 | .tup ts,r,h=>by
   rw[AM]at h;replace h:=a7 h;obtain⟨es,he,h⟩:=h;obtain⟨j,p,rfl⟩:=DX he
   ·have st:=Bt (env:=X.env) (DB h);have b:=Se (X:=X) (k:=j) (pos:=p) C.calm (F7 C ts es h) st.1 st.2.1;intro pins s σ H v u Q I rr hq;refine b pins s σ H v u Q I rr ?_;obtain⟨as,ρ,S,y,ok,en,rv,q⟩:=hq;cases y with
    | tup xs=>
      obtain⟨a,vs,rfl,ha,ra⟩:=rl_tup.mp rv;unfold wTg at q;refine⟨a,vs,rfl,SqT.of ha,?_,as,ρ,S,xs,ok,en,ra,q⟩;rw[ra.length];exact Jv ts es xs h q
    | _=>unfold wTg at q;exact q.elim
theorem F7(C:Cok T Δ X k N sc):∀(g:Tgs) (es:List Expr),Aq k N sc g es=true->PGs X es (Tw X.K g)
 | .nil,es,h=>by
   rw[Aq]at h;rw[List.isEmpty_iff]at h;subst h;intro pins s σ H vs us Q I rr hq;refine Pc pins s σ H vs us Q I rr ?_;obtain⟨as,ρ,S,xs,ok,en,rv,q⟩:=hq;cases xs with
   | nil=>unfold Aw at q;exact⟨rla_nil.mp rv,q _ en⟩
   | cons _ _=>unfold Aw at q;exact q.elim
 | .cons t ts,el,h=>by
   have st:=Bt (env:=X.env) (DB h);rw[Aq]at h;replace h:=a7 h;obtain⟨e,he,h⟩:=h;simp only[Bool.and_eq_true]at h;rw[B0 he]at st ⊢;generalize el.tail=es at h st;intro pins s σ H vs us Q I rr hq;refine MS (v8 C t e h.1.1) (F7 C ts es h.2) (st.2.2 _ _ rfl) pins s σ H vs us Q I rr ?_;obtain⟨as,ρ,S,xs,ok,en,rv,q⟩:=hq;cases xs with
   | nil=>unfold Aw at q;exact q.elim
   | cons y ys=>
     unfold Aw at q;obtain⟨v,r,rfl,r1,r2⟩:=rla_cons.mp rv;exact⟨v,r,rfl,as,ρ,S,y,ok,en,r1,j6 t (fun ρ' q σ' en'=>⟨as,ρ',S,ys,ok,en',r2,q⟩) q⟩
theorem Jv:∀(g:Tgs) (es:List Expr) (xs:List SV) {ρ:EnvS} {P:EnvS->Prop},Aq k N sc g es=true->Aw g xs ρ P->xs.length=es.length
 | .nil,es,xs,ρ,P,h,q=>by
   rw[Aq]at h;rw[List.isEmpty_iff]at h;subst h;cases xs with
   | nil=>rfl
   | cons _ _=>unfold Aw at q;exact q.elim
 | .cons t ts,el,xs,ρ,P,h,q=>by
   rw[Aq]at h;replace h:=a7 h;obtain⟨e,he,h⟩:=h;simp only[Bool.and_eq_true]at h;rw[B0 he];generalize el.tail=es at h;cases xs with
   | nil=>unfold Aw at q;exact q.elim
   | cons y ys=>
     unfold Aw at q;obtain⟨ρ',q'⟩:=Jw t q;simp[Jv ts es ys h.2 q']
theorem Jw:∀(g:Tg) {x:SV} {ρ:EnvS} {P:EnvS->Prop},wTg g x ρ P->∃ ρ',P ρ'
 | .nm i,x,ρ,P,q=>by unfold wTg at q;exact⟨_,q⟩
 | .tup ts,x,ρ,P,q=>by
   cases x with
   | tup xs=>unfold wTg at q;exact Gz ts q
   | _=>unfold wTg at q;exact q.elim
theorem Gz:∀(g:Tgs) {xs:List SV} {ρ:EnvS} {P:EnvS->Prop},Aw g xs ρ P->∃ ρ',P ρ'
 | .nil,xs,ρ,P,q=>by
   cases xs with
   | nil=>unfold Aw at q;exact⟨_,q⟩
   | cons _ _=>unfold Aw at q;exact q.elim
 | .cons t ts,xs,ρ,P,q=>by
   cases xs with
   | nil=>unfold Aw at q;exact q.elim
   | cons y ys=>
     unfold Aw at q;obtain⟨ρ',q'⟩:=Jw t q;exact Gz ts q'
end
end
structure Gu(as:List Addr)(H:Hp)(as':List Addr)(H':Hp):Prop where
 pre:as <+: as'
 kp:KeepU H H'
theorem Gu.ku{K:PySem.W.Frag}{as as':List Addr}{H H':Hp}{S:Sto}(g:Gu as H as' H')(_:Ok K as H S):KeepU H H':=g.kp
theorem Go.gu{K:PySem.W.Frag}{as as':List Addr}{H H':Hp}{S:Sto}(g:Go as H as' H')(ok:Ok K as H S):Gu as H as' H':=⟨g.pre,g.ku ok⟩
def Walks(K:PySem.W.Frag)(as0:List Addr)(H0:Hp)(J:It)(keep:Sto->Prop)(xs:List SV):Prop:=∀ as H S,Gu as0 H0 as H->Ok K as H S->keep S->
 (∀(i:Nat) (x:SV),xs[i]?=some x->J.go i H/\∀ v H',J.yld i H v H'->Go as H as H'/\Ok K as H' S/\Rl K as H' v x)/\J.stop xs.length H
def Vc(K:PySem.W.Frag)(as:List Addr)(H:Hp)(R:It->Hp->Prop):(Sto->Prop)->List SV->Sto->Prop:=fun keep xs S1=>∀ as1 H1 J,Go as H as1 H1->Ok K as1 H1 S1->Walks K as1 H1 J keep xs->R J H1
def liftI(K:PySem.W.Frag)(w:WI):TI:=fun σ H R=>∃ as ρ S,Ok K as H S/\EnvOk K as H σ ρ/\w ρ S (Vc K as H R)
def MonoI(w:WI):Prop:=∀ ρ S (P P':(Sto->Prop)->List SV->Sto->Prop),(∀ k x S',P k x S'->P' k x S')->w ρ S P->w ρ S P'
structure GoodI(X:Cx)(tg r:Expr)(w:WI):Prop where
 pi:PI X tg r (liftI X.K w)
 m:MonoI w
section
variable{X:Cx}{K:PySem.W.Frag}
theorem HA{as0 as:List Addr}{H0 H:Hp}{S1 S:Sto}{x:SV}{v:V}{xs:List SV}(ok1:Ok K as0 H0 S1)(r:Rl K as0 H0 v x)(h:BF x S1=some xs)(g:Gu as0 H0 as H)(ok:Ok K as H S)(kp:DL x S1 S):Rl K as H v x/\BF x S=some xs:=by
 refine⟨Rl.mono g.pre (g.ku ok1) x v r,?_⟩;cases x with
 | loc k=>
   have kp:S[k]?=S1[k]?:=kp;unfold BF at h ⊢;simp only[kp];exact h
 | _=>exact h
theorem LW{as0:List Addr}{H0:Hp}{S1:Sto}{x:SV}{a:Addr}{xs:List SV}(ok1:Ok K as0 H0 S1)(r:Rl K as0 H0 (.ref a) x)(n:x ≠ .tup xs)(h:BF x S1=some xs):Walks K as0 H0 (Itl K a) (DL x S1) xs:=fun as H S g ok kp=>by
 obtain⟨r',h'⟩:=HA ok1 r h g ok kp;obtain⟨b,vs,e,hq,rr⟩:=BQ ok r' n h';cases e;refine⟨fun i y hy=>?_,vs,hq,by rw[rr.length];exact Nat.le_refl _⟩;obtain⟨v,hv,rv⟩:=rr.get hy;refine⟨⟨vs,v,hq,hv⟩,fun u H' yl=>?_⟩;obtain⟨e,yl⟩:=yl;subst e;have:=yl vs hq;rw[hv]at this;cases this;exact⟨Go.refl _ _,ok,rv⟩
theorem Nz{as0:List Addr}{H0:Hp}{S1:Sto}{a:Addr}{xs:List SV}(ok1:Ok K as0 H0 S1)(r:Rl K as0 H0 (.ref a) (.tup xs)):Walks K as0 H0 (Itt K a) (DL (.tup xs) S1) xs:=fun as H S g ok kp=>by
 have r':=Rl.mono g.pre (g.ku ok1) _ _ r;obtain⟨b,vs,e,hb,rr⟩:=rl_tup.mp r';cases e;refine⟨fun i y hy=>?_,vs,SqT.of hb,by rw[rr.length];exact Nat.le_refl _⟩;obtain⟨v,hv,rv⟩:=rr.get hy;refine⟨⟨vs,v,SqT.of hb,hv⟩,fun u H' yl=>?_⟩;obtain⟨e,yl⟩:=yl;subst e;have:=yl vs (SqT.of hb);rw[hv]at this;cases this;exact⟨Go.refl _ _,ok,rv⟩
theorem O6{as0:List Addr}{H0:Hp}{lo hi:Int}:Walks K as0 H0 (Itr lo (hi - lo).toNat) (fun _=>True) (CN lo hi):=fun as H S g ok _=>by
 have hl:(CN lo hi).length=(hi - lo).toNat:=by unfold CN;simp
 refine⟨fun i y hy=>?_,by show(hi - lo).toNat<=(CN lo hi).length;rw[hl];exact Nat.le_refl _⟩;have hi':i<(hi - lo).toNat:=by rw[<-hl];exact(gM hy).1
 refine⟨hi',fun u H' yl=>?_⟩;obtain⟨e,rfl⟩:=yl;subst e
 have:y = .int (lo+i):=by
  unfold CN at hy;rw[List.getElem?_map,List.getElem?_range hi']at hy;exact(oj hy).symm
 subst this;exact⟨Go.refl _ _,ok,rl_int.mpr rfl⟩
theorem HB{xs:List SV}{i:Nat}{y:SV}(h:(Br xs)[i]?=some y):∃ x,xs[i]?=some x/\y = .tup [.int i,x]:=by
 unfold Br at h;rw[List.getElem?_zipWith]at h;cases h1:(List.range xs.length)[i]? with
 | none=>rw[h1]at h;cases h
 | some j=>
   cases h2:xs[i]? with
   | none=>rw[h1,h2]at h;cases h
   | some x=>
     rw[h1,h2]at h;have hi:=(gM h2).1;rw[List.getElem?_range hi]at h1;cases h1;cases h;exact⟨x,rfl,rfl⟩
theorem HC{xs:List SV}:(Br xs).length=xs.length:=by unfold Br;simp
theorem Ip{as0:List Addr}{H0:Hp}{S1:Sto}{x:SV}{a:Addr}{xs:List SV}(ok1:Ok K as0 H0 S1)(r:Rl K as0 H0 (.ref a) x)(n:x ≠ .tup xs)(h:BF x S1=some xs):Walks K as0 H0 (TC K a) (DL x S1) (Br xs):=fun as H S g ok kp=>by
 obtain⟨r',h'⟩:=HA ok1 r h g ok kp;obtain⟨b,vs,e,hq,rr⟩:=BQ ok r' n h';cases e;refine⟨fun i y hy=>?_,vs,hq,by rw[rr.length,HC]⟩;obtain⟨z,hz,rfl⟩:=HB hy;obtain⟨v,hv,rv⟩:=rr.get hz;refine⟨⟨vs,v,hq,hv⟩,fun u H' yl=>?_⟩;obtain⟨p,w,hp,rfl,yl,rfl⟩:=yl;have:=yl vs hq;rw[hv]at this;cases this;exact⟨Go.new hp,ok.new hp,rl_tup.mpr ⟨p,_,rfl,f7,.cons (rl_int.mpr rfl) (.cons (Rl.mono (List.prefix_refl _) (BB hp) z v rv) .nil)⟩⟩
theorem Iq{as0:List Addr}{H0:Hp}{S1:Sto}{a:Addr}{xs:List SV}(ok1:Ok K as0 H0 S1)(r:Rl K as0 H0 (.ref a) (.tup xs)):Walks K as0 H0 (TD K a) (DL (.tup xs) S1) (Br xs):=fun as H S g ok kp=>by
 have r':=Rl.mono g.pre (g.ku ok1) _ _ r;obtain⟨b,vs,e,hb,rr⟩:=rl_tup.mp r';cases e;refine⟨fun i y hy=>?_,vs,SqT.of hb,by rw[rr.length,HC]⟩;obtain⟨z,hz,rfl⟩:=HB hy;obtain⟨v,hv,rv⟩:=rr.get hz;refine⟨⟨vs,v,SqT.of hb,hv⟩,fun u H' yl=>?_⟩;obtain⟨p,w,hp,rfl,yl,rfl⟩:=yl;have:=yl vs (SqT.of hb);rw[hv]at this;cases this;exact⟨Go.new hp,ok.new hp,rl_tup.mpr ⟨p,_,rfl,f7,.cons (rl_int.mpr rfl) (.cons (Rl.mono (List.prefix_refl _) (BB hp) z v rv) .nil)⟩⟩
theorem EA{tg l:Expr}{w:TI}(w':TI)(h:PI X tg l w)(imp:∀ σ H R,w' σ H R->w σ H R):PI X tg l w':=fun pins s σ H R I hw=>h pins s σ H R I (imp σ H R hw)
def WH(K:PySem.W.Frag)(tl:TE):TI:=fun σ H R=>tl σ H fun x H1=>∃ a,x = .ref a/\(((∃ xs,SqL K H1 a xs)/\R (Itl K a) H1)\/((∃ xs,SqT K H1 a xs)/\R (Itt K a) H1))
theorem Tx{tg l:Expr}{tl:TE}(hl:PE X l tl):PI X tg l (WH X.K tl):=by
 intro pins s σ H R I h;refine thn (hl pins s σ H _ I h) fun v s1 ⟨x,H1,I1,r1,q1⟩=>?_;obtain⟨a,e,q⟩:=q1;subst e;cases r1;have I2:∀{ob:Obj},Inv X pins σ H1 {s1 with heap:=s1.heap.push ob}:=I1.kept (t':=s1.toks) fun b o e=>Heap.get?_push_of_some _ e
 have fp:∀ b∈[s1.heap.objs.size],FpOk X pins H1 b:=fun b hb=>by
  rw[List.mem_singleton.mp hb];exact I1.fpOk (Nat.le_refl _) (I1.hok.fresh (Nat.le_refl _))
 rcases q with⟨⟨xs,hq⟩,q⟩ | ⟨⟨xs,hq⟩,q⟩
 ·obtain⟨its,rv,p,hz⟩:=I1.list hq;exact wpAny_pyIter_list p.isList ⟨s1.heap.objs.size,[s1.heap.objs.size],_,_,H1,rfl,I2,Kb a _,⟨_,Heap.get?_push_size _ rfl,rfl,rfl⟩,fp,q⟩
 ·obtain⟨its,rv,p,hz⟩:=I1.tuple hq;exact wpAny_pyIter_tuple (show s1.heap.IsTuple a its.toArray from p) ⟨s1.heap.objs.size,[s1.heap.objs.size],_,_,H1,rfl,I2,ID a _,⟨_,Heap.get?_push_size _ rfl,rfl,rfl⟩,fp,q⟩
theorem LX{tg r:Expr}{a:WE×WT}(ha:Good X r a):GoodI X tg r (Rs a.1) where
 m:=fun ρ S P P' i h=>ha.m _ _ _ _ (fun x S1 ⟨xs,e,q⟩=>⟨xs,e,i _ _ _ q⟩) h
 pi:=EA _ (Tx ha.pe) (by
  rintro σ H R ⟨as,ρ,S,ok,en,h⟩;refine⟨as,ρ,S,ok,en,ha.m _ _ _ _ (fun x S1 ⟨xs,e,q⟩ as1 H1 v g1 ok1 rv=>?_) h⟩;by_cases ht:x = .tup xs
  ·subst ht;obtain⟨p,vs,rfl,hp,rr⟩:=rl_tup.mp rv;exact⟨p,rfl,.inr ⟨⟨vs,SqT.of hp⟩,q as1 H1 _ g1 ok1 (Nz ok1 rv)⟩⟩
  ·obtain⟨p,vs,rfl,hq,rr⟩:=BQ ok1 rv ht e;exact⟨p,rfl,.inl ⟨⟨vs,hq⟩,q as1 H1 _ g1 ok1 (LW ok1 rv ht e)⟩⟩)
theorem Ir{T:List Str}{Δ:Nat->Sn}{k:Nat}{N:List Str}{sc:Scope}{elts:List Expr}{kx:Nat}{tp p q:Pos}{r:Expr}{a:WE×WT}(C:Cok T Δ X k N sc)(hg:glo sc "enumerate"=true)(ha:Good X r a)(hs:f9 r=true):GoodI X (.Tuple elts kx tp) (.Call (.Name "enumerate" p) [r] [] q) (NZ a.1) where
 m:=fun ρ S P P' i h=>ha.m _ _ _ _ (fun x S1 ⟨xs,e,q⟩=>⟨xs,e,i _ _ _ q⟩) h
 pi:=by
  unfold glo at hg;simp only[Bool.and_eq_true,beq_iff_eq,Bool.not_eq_true']at hg;have gl:Gl X "enumerate":=by show X.env.scope.names.lookup ("enumerate":Str)=_;rw[C.hs];exact hg.1.1
  refine EA _ (Po gl C.enm (AQ ha.pe Bg (l7 hs)) (l7 hs)) ?_;rintro σ H R ⟨as,ρ,S,ok,en,h⟩;refine⟨as,ρ,S,ok,en,ha.m _ _ _ _ (fun x S1 ⟨xs,e,q⟩ as1 H1 v g1 ok1 rv=>?_) h⟩;by_cases ht:x = .tup xs
  ·subst ht;obtain⟨p,vs,rfl,hp,rr⟩:=rl_tup.mp rv;exact⟨p,rfl,.inr ⟨⟨vs,SqT.of hp⟩,q as1 H1 _ g1 ok1 (Iq ok1 rv)⟩⟩
  ·obtain⟨p,vs,rfl,hq,rr⟩:=BQ ok1 rv ht e;exact⟨p,rfl,.inl ⟨⟨vs,hq⟩,q as1 H1 _ g1 ok1 (Ip ok1 rv ht e)⟩⟩
theorem Iu{T:List Str}{Δ:Nat->Sn}{k:Nat}{N:List Str}{sc:Scope}{tg r:Expr}{p q:Pos}{a:WE×WT}(C:Cok T Δ X k N sc)(hg:glo sc "range"=true)(ha:Good X r a)(hs:f9 r=true):GoodI X tg (.Call (.Name "range" p) [r] [] q) (NX a.1) where
 m:=fun ρ S P P' i h=>ha.m _ _ _ _ (fun x S1 ⟨j,e,z,q⟩=>⟨j,e,z,i _ _ _ q⟩) h
 pi:=by
  unfold glo at hg;simp only[Bool.and_eq_true,beq_iff_eq,Bool.not_eq_true']at hg;have gl:Gl X "range":=by show X.env.scope.names.lookup ("range":Str)=_;rw[C.hs];exact hg.1.1
  refine EA _ (Kc gl C.rng (AQ ha.pe Bg (l7 hs)) (l7 hs)) ?_;rintro σ H R ⟨as,ρ,S,ok,en,h⟩;refine⟨as,ρ,S,ok,en,ha.m _ _ _ _ (fun x S1 ⟨j,e,z,q⟩ as1 H1 v g1 ok1 rv=>?_) h⟩;subst e;refine⟨j,by rw[rl_int.mp rv],z.1,z.2,?_⟩;have:=q as1 H1 (Itr 0 (j - 0).toNat) g1 ok1 O6
  rwa [Int.sub_zero]at this
theorem LY{as0:List Addr}{H0:Hp}{lo hi:Int}:Walks K as0 H0 (QH lo (CM lo hi)) (fun _=>True) (rngT lo hi):=fun as H S g ok _=>by
 have hl:(rngT lo hi).length=CM lo hi:=by unfold rngT;simp
 refine⟨fun i y hy=>?_,by show CM lo hi<=(rngT lo hi).length;rw[hl];exact Nat.le_refl _⟩;have hi':i<CM lo hi:=by rw[<-hl];exact(gM hy).1
 refine⟨hi',fun u H' yl=>?_⟩;obtain⟨e,rfl⟩:=yl;subst e
 have:y = .int (lo+i * 2):=by
  unfold rngT at hy;rw[List.getElem?_map,List.getElem?_range hi']at hy;exact(oj hy).symm
 subst this;exact⟨Go.refl _ _,ok,rl_int.mpr rfl⟩
theorem Iv{T:List Str}{Δ:Nat->Sn}{k:Nat}{N:List Str}{sc:Scope}{tg r r2:Expr}{p q p3:Pos}{j3:Nat}{a b:WE×WT}(C:Cok T Δ X k N sc)(hg:glo sc "range"=true)(ha:Good X r a)(hb:Good X r2 b)(hs:f9 r=true)(hs2:f9 r2=true):GoodI X tg (.Call (.Name "range" p) [r,r2,.Constant (.int 2) j3 p3] [] q) (NY a.1 b.1) where
 m:=fun ρ S P P' i h=>ha.m _ _ _ _ (fun x S1 h=>hb.m _ _ _ _ (fun y S2 ⟨l,j,e,e2,z,q⟩=>⟨l,j,e,e2,z,i _ _ _ q⟩) h) h
 pi:=by
  unfold glo at hg;simp only[Bool.and_eq_true,beq_iff_eq,Bool.not_eq_true']at hg;have gl:Gl X "range":=by show X.env.scope.names.lookup ("range":Str)=_;rw[C.hs];exact hg.1.1
  refine EA _ (L7 gl C.rng (AQ ha.pe (AQ hb.pe (AQ IC Bg rfl) (l7 hs2)) (l7 hs)) (by rw[l7 hs,l7 hs2];rfl) (by rw[l7 hs2];rfl)) ?_;rintro σ H R ⟨as,ρ,S,ok,en,h⟩;refine⟨as,ρ,S,ok,en,ha.m _ _ _ _ (fun x S1 h as1 H1 v g1 ok1 rv=>?_) h⟩;refine⟨as1,ρ,S1,ok1,en.mono g1.pre (g1.ku ok),hb.m _ _ _ _ (fun y S2 ⟨l,j,e,e2,z,q⟩ as2 H2 u g2 ok2 ru=>?_) h⟩;subst e e2;exact⟨l,j,by rw[rl_int.mp rv,rl_int.mp ru],z,q as2 H2 _ (g1.trans g2) ok2 LY⟩
theorem QX{as1:List Addr}{H1:Hp}{a:Addr}{k:Nat}{o:Obj}{ks:List (Key×V)}{kvs:List (Int×SV)}(ea:as1[k]?=some a):Walks K as1 H1 (Itk a o ks) (fun S'=>S'[k]?=some (.dcf o ks kvs)) (kvs.map fun p=>SV.int p.1):=fun as H S g ok kp=>by
 have ea':as[k]?=some a:=by
  obtain⟨t,rfl⟩:=g.pre;rw[List.getElem?_append_left ((gM ea).1)];exact ea
 obtain⟨h1,h2⟩:=(show RlO K as H a (.dcf o ks kvs) from ok.obj k _ a kp ea')
 refine⟨fun i x hx=>?_,by rw[h2.length,List.length_map];exact Nat.le_refl _,h1⟩;rw[List.getElem?_map]at hx;cases hp:kvs[i]? with
 | none=>rw[hp]at hx;cases hx
 | some p=>
   rw[hp]at hx;cases hx;obtain⟨v,hv⟩:=h2.get hp;refine⟨⟨(gM hv).1,h1⟩,fun u H' yl=>?_⟩;obtain⟨rfl,q,hq,rfl⟩:=yl;rw[hv]at hq;cases hq;exact⟨Go.refl _ _,ok,rl_int.mpr rfl⟩
theorem O7{tg r:Expr}{a:WE×WT}(ha:Good X r a):GoodI X tg r (VP a.1) where
 m:=fun ρ S P P' i h=>ha.m _ _ _ _ (fun x S1 ⟨k,kvs,e,hk,q⟩=>⟨k,kvs,e,hk,fun o ks=>i _ _ _ (q o ks)⟩) h
 pi:=EA _ (VN ha.pe) (by
  rintro σ H R ⟨as,ρ,S,ok,en,h⟩;refine⟨as,ρ,S,ok,en,ha.m _ _ _ _ (fun x S1 ⟨k,kvs,e,hk,q⟩ as1 H1 v g1 ok1 rv=>?_) h⟩;subst e;obtain⟨a,ea,rfl⟩:=rl_loc.mp rv;obtain⟨ks,h1,h2⟩:=ok1.obj k _ a hk ea;refine⟨a,ks,rfl,.inl ⟨h1,fun o=>?_⟩⟩;obtain⟨ok2,ku⟩:=ok1.writeO (x := .dcf o ks kvs) (u := .frz o (.dK ks)) hk ea (fun ku=>⟨f7,RlD.mono (List.prefix_refl _) ku kvs ks h2⟩);exact q o ks as1 _ (Itk a o ks) (g1.trans (Go.write (List.mem_of_getElem? ea))) ok2 (QX ea))
end
end Rf
namespace L2
open PySem PySem.Spec PyProof.Rows
def Rv(kx vx:Expr):Value->Env->Sem Unit:=fun acc env=>do
 let kv <- eval kx env
 let vv <- holding [kv] (eval vx env)
 match acc with
 | .ref d=>do
   standAt {kx.pos with endLine:=vx.pos.endLine,endCol:=vx.pos.endCol}
   holding [kv,vv] (dictSet d kv vv)
 | _=>unsupported "internal:dictcomp"
theorem EB{prog:Program}{w:World}{A:Around}{kx vx tg iter:Expr}{ifs:List Expr}{scope:Scope}{pos:Pos}:CForm prog w A (.DictComp kx vx [⟨tg,iter,ifs,0⟩] scope pos) tg iter ifs (Rv kx vx) where
 turn:=fun _ _ _=>rfl
 und:=fun _ _ _=>rfl
 den:=fun _ _ _=>rfl
 start:=fun h0 h=>codeAny_compStart_dict h0 h
def QY(tk tv:TE)(D:Addr)(ks:List (Key×V))(σ:St)(H:Hp)(N:List (Key×V)->Hp->Prop):Prop:=
 tk σ H fun k H1=>tv σ H1 fun v H2=>∃ key,k=kV key/\H2 D=some (.dK ks)/\ks.length<sizeLine/\N (BC ks key v) (upd H2 D (.dK (BC ks key v)))
def Iw(wi:TI)(g:TG)(tt:TT)(tk tv:TE)(k:Nat)(js:List Nat):TE:=fun σ H Q=>wi σ H fun J H1=>∀ D,H1 D=none->
 ∃ W:Nat->Nat->List (Key×V)->Hp->Prop,(∃ m,W 0 m [] (upd H1 D (.dK [])))/\Dq J g tt (QY tk tv D) (Ac k js σ) (fun H=>Q (.ref D) H) W
section
variable{X:Cx}{tg iter:Expr}{ifs:List Expr}{scope:Scope}{pos:Pos}{g:TG}{tt:TT}
theorem HD{kx vx:Expr}{tk tv:TE}{own cn:List Str}(hk:∀ s2 H2 cs C fp,PE (c6 X scope (own++cn) s2 H2 cs C fp) kx tk)(hv:∀ s2 H2 cs C fp,PE (c6 X scope (own++cn) s2 H2 cs C fp) vx tv):
 ∀ D s2 H2 cs C fp pins s σ H (a:List (Key×V)) (N:List (Key×V)->Hp->Prop),Inv (c6 X scope (own++cn) s2 H2 cs C fp) pins σ H s->QY tk tv D a σ H N->wpAny (model X.prog X.w) X.A (Rv kx vx (.ref D) (compEnvC scope cs C X.env)) (fun _ s1=>∃ σ1 a1 H1,Inv (c6 X scope (own++cn) s2 H2 cs C fp) pins σ1 H1 s1/\N a1 H1) (fun _ _=>False) s:=by
 intro D s2 H2 cs C fp pins s σ H ks N I h;refine wpAny_bind (thn (hk s2 H2 cs C fp pins s σ H _ I h) fun kv s1 ⟨k,H1,I1,r1,q1⟩=>?_);refine wpAny_bind (wpAny_holding (thn (hv s2 H2 cs C fp pins s1 σ H1 _ I1 q1) fun vv s3 ⟨v,H3,I3,r3,key,ek,eD,hl,q3⟩=>?_));subst ek;refine wpAny_bind (wpAny_standAt (wpAny_holding ?_));obtain⟨z,hd,vs,rel,dd⟩:=Rh I3.hok eD;have hz:vs.length<=sizeLine:=by rw[<-rel.length];exact z
 have hlp:(BC ks key v).length<=sizeLine:=by have:=Bo ks key v;omega
 refine wpAny_dictSet_pairs (Eu r1) dd (fun h' dd' hs=>?_) hz;have he:∃ q,h'.get? D=some q:=let ⟨q,_,_,hq,_⟩:=dd';⟨q,hq⟩
 exact⟨_,_,_,FS I3 (by rw[eD];exact True.intro) hs he (FT hlp hd (rel.put key r3) dd'),q3⟩
theorem O9{wi:TI}{kx vx:Expr}{tk tv:TE}(own cn:List Str)(js:List Nat)(hi:PI X tg iter wi)(hg:∀ s2 H2 cs C fp,PG (c6 X scope (own++cn) s2 H2 cs C fp) tg g)(ht:∀ s2 H2 cs C fp,Ai (c6 X scope (own++cn) s2 H2 cs C fp) ifs tt)
 (hk:∀ s2 H2 cs C fp,PE (c6 X scope (own++cn) s2 H2 cs C fp) kx tk) (hv:∀ s2 H2 cs C fp,PE (c6 X scope (own++cn) s2 H2 cs C fp) vx tv) (hc:X.calm=true) (hok:j2 X.env.scope scope own cn X.N js=true)
 (hs:∀ x,foldedSetIterable iter X.env x=pure x):PE X (.DictComp kx vx [⟨tg,iter,ifs,0⟩] scope pos) (Iw wi g tt tk tv own.length js):=by
 intro pins s σ H Q I h;have hok':=hok;unfold j2 at hok';simp only[Bool.and_eq_true,decide_eq_true_eq,List.all_eq_true,Bool.or_eq_true,Bool.not_eq_true',decide_eq_false_iff_not]at hok';obtain⟨⟨⟨⟨⟨⟨k1,k2⟩,k3⟩,k4⟩,k5⟩,k6⟩,k7⟩:=hok'
 have hfree:∀ x∈scope.names,x.2 = .free->∃ c,X.env.cells.lookup x.1=some c:=fun x hx hf=>I.ok.has x.1 (by
  rcases k2 x hx with(z | z) | z
  ·exact absurd hf z
  ·exact .inl z
  ·exact .inr z)
 rw[arm_eval_DictComp];refine wpAny_comprehension_free (use:=none) rfl hs (l8 hfree) k1 (fun x hx hl=>?_) (thn (hi pins s σ H _ I h) fun v s1 h1=>thn h1 fun itv s2 h2=>?_)
 ·have:=g8 k3 (show(x.1,x.2)∈scope.names from hx);rw[this,hl]
 ·obtain⟨it,fp,tn,J,H2,e,I2,T,st2,f2,q⟩:=h2;subst e;refine AV (RR:=fun acc C=>compPost (model X.prog X.w) X.A X.xe none (EP X pins σ Q) acc C) (o0:={cls := .type "dict",data := .dict #[]}) (u0 := .dK []) (a0:=[]) (tem:=QY tk tv) EB (fun hq=>wpAny_newObj_type hq) rfl (fun H h e=>?_) hok hc hg ht (HD hk hv) I2 T st2 f2 (q _ I2.fresh) ?_
  ·exact FT (Nat.zero_le _) (beq_eq_false_iff_ne.mpr (Ne.symm (Nat.ne_of_lt I2.big))) .nil (let ⟨o,es,ep,ho,r⟩:=Heap.DictOf.new (knd:=m4 X.prog X.w) s2.heap;by
    rw[Heap.get?_push_size _ rfl]at ho;cases ho;exact⟨_,es,ep,e,r⟩)
  intro C H' s' I' fC ⟨m,hn⟩ q';obtain⟨f0,f1,f2',f3,f4,f5⟩:=fC;refine⟨m,hn,fun h' hs'=>⟨.ref s2.heap.objs.size,H',?_,rfl,q'⟩⟩;exact I'.turned (t':=s'.toks) (fun b o hb e=>(hs'.2 b hb).trans e) f0 f1 f3 f4 f5
end
def SetXO(prog:Program)(w:World)(o:Obj)(L:List Int):Prop:=
 ∃ es ep t,o.ExactSet/\o.data = .set es ep t/\ElemsOf (intKind prog w) es.toList/\es.size<scanBound/\t.fits es.size=true/\Tab w t/\(es.toList.map fun e=>numOf e.2).Perm L
theorem SetXO.at{prog:Program}{w:World}{o:Obj}{L:List Int}{h:Heap}{a:Addr}(x:SetXO prog w o L)(e:h.get? a=some o):SetX prog w h a L:=let ⟨es,ep,t,r⟩:=x;⟨o,es,ep,t,e,r⟩
theorem SetX.obj{prog:Program}{w:World}{L:List Int}{h:Heap}{a:Addr}(x:SetX prog w h a L):∃ o,h.get? a=some o/\SetXO prog w o L:=let ⟨o,es,ep,t,e,r⟩:=x;⟨o,e,es,ep,t,r⟩
def hoS(o:Obj)(L:List Int):HO := .frz o (.set (fun k=>decide (k∈L)) L.length)
theorem OA{P:Program}{w:World}{H:Hp}{h:Heap}{a:Addr}{o:Obj}{L:List Int}(x:SetXO P w o L)(e:h.get? a=some o):ObjOk P w H h a (hoS o L):=by
 refine⟨e,?_⟩;show h.SetOf (intKind P w) a _ _;exact(x.at e).kind
def Rx(elt:Expr):Value->Env->Sem Unit:=fun acc env=>do
 let v <- eval elt env
 standAt elt.pos
 let _ <- call (.builtin "set.add") [acc,v]
theorem Bd{prog:Program}{w:World}{A:Around}{R:Result->Shared->Prop}{s:Shared}{elt target iter ifs rest scope pos it acc env}
 (h0:codeAny (model prog w) A (.compLoop (.SetComp elt (⟨target,iter,ifs,0⟩::rest) scope pos) 0 it acc env) R s)
 (h:wpAny (model prog w) A (pyIter it) (fun it' s'=>codeAny (model prog w) A (.compLoop (.SetComp elt (⟨target,iter,ifs,0⟩::rest) scope pos) 0 it' acc env) R s')
   (notedBy (model prog w) A env fun x s'=>R (.error x) s') s):
 codeAny (model prog w) A (.compStart (.SetComp elt (⟨target,iter,ifs,0⟩::rest) scope pos) 0 it acc env) R s:=by
 refine codeAny_of_tree ?_;show wpAny _ A ((compStart (.SetComp elt (⟨target,iter,ifs,0⟩::rest) scope pos) 0 it acc env).onRaise (fun x=>do noteFrame x env;standAt theWindowsPlace)) _ _ s;refine wpAny_notedAt ?_;unfold compStart;show wpAny _ A (ask >>= _) _ _ s;refine wpAny_bind (wpAny_askSetting (wpAny_ite ?_));split
 ·first
   | exact wpAny_bind (wpAny_pure (wpAny_pure (And.intro rfl h0)))
   | exact wpAny_pure (And.intro rfl h0)
 ·first
   | exact wpAny_bind (wpAny_rule (wpAny_bind (wpAny_standAt (wpAny_bind (wpAny_mono h (fun it' s' h'=>wpAny_pure (And.intro rfl h')) fun _ _ x=>x)))))
   | (refine wpAny_bind (wpAny_rule ?_);show wpAny _ _ (standAt iter.pos >>= _) _ _ s;exact wpAny_bind (wpAny_standAt (wpAny_bind (wpAny_mono h (fun it' s' h'=>wpAny_pure (And.intro rfl h')) fun _ _ x=>x))))
theorem LZ{prog:Program}{w:World}{A:Around}{elt tg iter:Expr}{ifs:List Expr}{scope:Scope}{pos:Pos}:CForm prog w A (.SetComp elt [⟨tg,iter,ifs,0⟩] scope pos) tg iter ifs (Rx elt) where
 turn:=fun _ _ _=>rfl
 und:=fun _ _ _=>rfl
 den:=fun _ _ _=>rfl
 start:=fun h0 h=>Bd h0 h
section
variable{prog:Program}{w:World}{A:Around}{E:Value->Shared->Prop}{s:Shared}
theorem QZ{Q:Value->Shared->Prop}(h:Q (.ref s.heap.objs.size) {s with heap:=s.heap.push (N1 w)}):wpAny (model prog w) A (newSet (.type "set")) Q E s:=by
 unfold newSet setsByText;refine wpAny_bind (wpAny_bind (wpAny_askSetting (wpAny_pure ?_)));exact wpAny_newObj_type h
theorem Qa{H:Hp}{a:Addr}{u v:HO}:upd (upd H a u) a v=upd H a v:=by
 funext b
 by_cases hb:b=a
 ·subst hb;rw[f7,f7]
 ·rw[upd_ne hb,upd_ne hb,upd_ne hb]
theorem OB{a:Addr}{L:List Int}{k:Int}{tk:Tok}{Q:Value->Shared->Prop}(hX:SetX prog w s.heap a L)(hroom:L.length+1<scanBound)
 (h:∀ h',Heap.SameBut a s.heap h'->SetX prog w h' a (step_dedup L k)->Q .none {s with heap:=h',toks:=s.toks+1}):wpAny (model prog w) A (call (.builtin "set.add") [.ref a,.int k tk]) Q E s:=by
 have hT:s.TypeIs (.ref a) "set":=by
  obtain⟨o,es,ep,t,ho,hx,r⟩:=hX;exact⟨o,ho,hx.1⟩
 refine wpAny_call_entry F.slot_set_add hT F.entry_set_add ?_ (F.args_set_add_2 _ _);unfold Builtin.«set.add» Builtin.Frozenset.oneOther;simp only[List.isEmpty_nil,bind_assoc];unfold Builtin.Frozenset.addrOf setAdd;refine wpAny_bind (wpAny_pure ?_)
 try dsimp only
 refine wpAny_bind (wpAny_pure ?_)
 try dsimp only
 refine wpAny_bind ?_;refine wpAny_holding ?_;refine wpAny_bind ((intKind prog w).pyHash (k:=k) (intKind_is _ _ _ _) ?_);refine W5 (s:={s with toks:=s.toks+1}) hX hroom fun h' b hsb hS'=>?_;show wpAny _ _ (ret Value.none) _ _ _;exact wpAny_pure ⟨_,rfl,h h' hsb hS'⟩
end
def Ty(P:Program)(w:World)(te:TE)(D:Addr)(L:List Int)(σ:St)(H:Hp)(N:List Int->Hp->Prop):Prop:=
 te σ H fun v H4=>∃ k o,v = .int k/\SetXO P w o L/\H4 D=some (hoS o L)/\L.length<=900/\∀ o',SetXO P w o' (step_dedup L k)->N (step_dedup L k) (upd H4 D (hoS o' (step_dedup L k)))
def Jx(P:Program)(w:World)(wi:TI)(g:TG)(tt:TT)(te:TE)(k:Nat)(js:List Nat):TE:=fun σ H Q=>wi σ H fun J H1=>∀ D,H1 D=none->
 ∃ W:Nat->Nat->List Int->Hp->Prop,(∃ m,∀ o,SetXO P w o []->W 0 m [] (upd H1 D (hoS o [])))/\Dq J g tt (Ty P w te D) (Ac k js σ) (fun H=>∃ L o,SetXO P w o L/\H D=some (hoS o L)/\L.length<64/\∀ l,H l=none->Q (.ref l) (upd H l (.lst ((srt L).map V.int)))) W
section
variable{X:Cx}{tg iter:Expr}{ifs:List Expr}{scope:Scope}{pos:Pos}{g:TG}{tt:TT}
theorem OC{elt:Expr}{te:TE}{own cn:List Str}(he:∀ s2 H2 cs C fp,PE (c6 X scope (own++cn) s2 H2 cs C fp) elt te):
 ∀ D s2 H2 cs C fp pins s σ H (a:List Int) (N:List Int->Hp->Prop),Inv (c6 X scope (own++cn) s2 H2 cs C fp) pins σ H s->Ty X.prog X.w te D a σ H N->wpAny (model X.prog X.w) X.A (Rx elt (.ref D) (compEnvC scope cs C X.env)) (fun _ s1=>∃ σ1 a1 H1,Inv (c6 X scope (own++cn) s2 H2 cs C fp) pins σ1 H1 s1/\N a1 H1) (fun _ _=>False) s:=by
 intro D s2 H2 cs C fp pins s σ H L N I h;refine wpAny_bind (thn (he s2 H2 cs C fp pins s σ H _ I h) fun v s1 ⟨x,H1,I1,r1,k,o,ex,ho,eD,hl,q1⟩=>?_);subst ex;obtain⟨tk,rfl⟩:=r1;have hX:SetX X.prog X.w s1.heap D L:=ho.at (I1.hok D _ eD).1;refine wpAny_bind (wpAny_standAt (wpAny_bind (OB hX (by show _<4096;omega) fun h' hs X'=>wpAny_pure ?_)));obtain⟨o',ho',xo'⟩:=X'.obj;have eS:ObjOk X.prog X.w (upd H1 D (.set (fun k=>decide (k∈L)) L.length)) s1.heap D (.set (fun k=>decide (k∈L)) L.length):=hX.kind;have I2:=I1.retag (u' := .set (fun k=>decide (k∈L)) L.length) eD (fun _ z=>by cases z) (fun _ z=>by cases z) (fun _ z=>by cases z) (fun o xs z=>by injection z with z1 z2;cases z2) eS;have I3:=I2.write (x:=D) (e:=D) (o:=hoS o' (step_dedup L k)) (h':=h') (t':=s1.toks+1) (by rw[f7];exact True.intro) (.inl rfl) (fun b u hb e=>(hs.2 b hb).trans e) ⟨o',ho'⟩ (OA xo' ho');rw[Qa]at I3;exact⟨_,_,_,I3,q1 o' xo'⟩
theorem La{wi:TI}{elt:Expr}{te:TE}{p1 pos1:Pos}(own cn:List Str)(js:List Nat)(hi:PI X tg iter wi)(hg:∀ s2 H2 cs C fp,PG (c6 X scope (own++cn) s2 H2 cs C fp) tg g)(ht:∀ s2 H2 cs C fp,Ai (c6 X scope (own++cn) s2 H2 cs C fp) ifs tt)
 (he:∀ s2 H2 cs C fp,PE (c6 X scope (own++cn) s2 H2 cs C fp) elt te) (hc:X.calm=true) (hok:j2 X.env.scope scope own cn X.N js=true)
 (hs:∀ x,foldedSetIterable iter X.env x=pure x) (hl:Gl X "sorted") (hml:X.mg "sorted"=none)
 (h2:starEach [.SetComp elt [⟨tg,iter,ifs,0⟩] scope pos] X.env=(false,eval (.SetComp elt [⟨tg,iter,ifs,0⟩] scope pos) X.env)::starEach [] X.env:=by rfl)
 (h3:(backTo pos1 (starEach [] X.env)).any (·.1)=false:=by rfl):PE X (.Call (.Name "sorted" p1) [.SetComp elt [⟨tg,iter,ifs,0⟩] scope pos] [] pos1) (Jx X.prog X.w wi g tt te own.length js):=by
 intro pins s σ H Q I h;have hok':=hok;unfold j2 at hok';simp only[Bool.and_eq_true,decide_eq_true_eq,List.all_eq_true,Bool.or_eq_true,Bool.not_eq_true',decide_eq_false_iff_not]at hok';obtain⟨⟨⟨⟨⟨⟨k1,k2⟩,k3⟩,k4⟩,k5⟩,k6⟩,k7⟩:=hok'
 have hfree:∀ x∈scope.names,x.2 = .free->∃ c,X.env.cells.lookup x.1=some c:=fun x hx hf=>I.ok.has x.1 (by
  rcases k2 x hx with(z | z) | z
  ·exact absurd hf z
  ·exact .inl z
  ·exact .inr z)
 refine wpAny_Call_Name_kw (Be I hl hml L1 ?_ (by decide) (by decide));refine PyProof.Rows.callWith_builtin1 ?_ h2 h3;rw[h2];show wpAny _ _ (spliced ((false,eval (.SetComp elt [⟨tg,iter,ifs,0⟩] scope pos) X.env)::backTo pos1 (starEach [] X.env))) _ _ s;refine Calls.spliced_cons ?_;rw[arm_eval_SetComp];refine wpAny_comprehension_free (use:=none) rfl hs (l8 hfree) k1 (fun x hx hl=>?_) (thn (hi pins s σ H _ I h) fun v s1 h1=>thn h1 fun itv s2 h2=>?_)
 ·have:=g8 k3 (show(x.1,x.2)∈scope.names from hx);rw[this,hl]
 ·obtain⟨it,fp,tn,J,H2,e,I2,T,st2,f2,q⟩:=h2;subst e;obtain⟨W,⟨m0,w0⟩,cw⟩:=q _ I2.fresh
  have x0:SetXO X.prog X.w (N1 X.w) []:=by
   obtain⟨o,ho,xo⟩:=(TN (prog:=X.prog) (w:=X.w) s2.heap).obj;rw[Heap.get?_push_size _ rfl]at ho;cases ho;exact xo
  refine AV (α:=List Int) (RR:=fun acc C=>compPost (model X.prog X.w) X.A X.xe none _ acc C) (o0:=N1 X.w) (u0:=hoS (N1 X.w) []) (a0:=[]) (tem:=Ty X.prog X.w te) LZ (fun hq=>QZ hq) rfl (fun H h e=>OA x0 e) hok hc hg ht (OC he) I2 T st2 f2 ⟨W,⟨m0,w0 _ x0⟩,cw⟩ ?_;intro C H' s' I' fC ⟨m,hn⟩ ⟨L,o,xo,eD,hL,q'⟩;obtain⟨f0,f1,f2',f3,f4,f5⟩:=fC;refine⟨m,hn,fun h' hs'=>?_⟩;have I3:Inv X pins σ H' {s' with heap:=h'}:=I'.turned (t':=s'.toks) (fun b o hb e=>(hs'.2 b hb).trans e) f0 f1 f3 f4 f5;have hX:SetX X.prog X.w h' s2.heap.objs.size L:=xo.at (I3.hok _ _ eD).1;refine Calls.spliced_nil ?_;refine Py (s:={s' with heap:=h'}) (I3.ok.hd hc) hX hL fun h3 tk3 d l out e k3 hz3 hl3 ho3=>?_;have J:=(I3.dr d).laid (h':=h3) (a:=l) (o := .lst ((srt L).map V.int)) (t':=tk3) k3 hz3 (show ObjOk X.prog X.w _ _ _ (.lst ((srt L).map V.int)) from ⟨?_,out.toList,e,Et ho3,by simpa using hl3⟩)
  ·exact⟨.ref l,_,J,rfl,q' l ((I3.dr d).hok.fresh hz3)⟩
  ·rw[List.length_map,(Bm _).length_eq];exact Nat.le_of_lt (Kn (by omega))
end
open PySem PySem.Spec PyProof.Rows
section
variable{X:Cx}{tg iter:Expr}{ifs:List Expr}{scope:Scope}{pos:Pos}{g:TG}{tt:TT}
theorem HE{wi:TI}{kx vx:Expr}{tk tv:TE}{i:Nat}{x:Str}{px spos:Pos}(own cn:List Str)(js:List Nat)(hN:X.N.Nodup)(hix:X.N[i]?=some x)(hx:X.env.scope.names.lookup x=some .local)(hi:PI X tg iter wi)
 (hg:∀ s2 H2 cs C fp,PG (c6 X scope (own++cn) s2 H2 cs C fp) tg g) (ht:∀ s2 H2 cs C fp,Ai (c6 X scope (own++cn) s2 H2 cs C fp) ifs tt)
 (hk:∀ s2 H2 cs C fp,PE (c6 X scope (own++cn) s2 H2 cs C fp) kx tk) (hv:∀ s2 H2 cs C fp,PE (c6 X scope (own++cn) s2 H2 cs C fp) vx tv) (hc:X.calm=true) (hok:j2 X.env.scope scope own cn X.N js=true)
 (hsw:swapsWith (.DictComp kx vx [⟨tg,iter,ifs,0⟩] scope pos) (some (.Name x px)) spos.line X.env=pure true)
 (hs:∀ x,foldedSetIterable iter X.env x=pure x):PS X (.Assign [.Name x px] (.DictComp kx vx [⟨tg,iter,ifs,0⟩] scope pos) spos) (GF (Iw wi g tt tk tv own.length js) (Eh i)):=by
 intro pins s σ H D I h;have hok':=hok;unfold j2 at hok';simp only[Bool.and_eq_true,decide_eq_true_eq,List.all_eq_true,Bool.or_eq_true,Bool.not_eq_true',decide_eq_false_iff_not]at hok';obtain⟨⟨⟨⟨⟨⟨k1,k2⟩,k3⟩,k4⟩,k5⟩,k6⟩,k7⟩:=hok'
 have hfree:∀ x∈scope.names,x.2 = .free->∃ c,X.env.cells.lookup x.1=some c:=fun x hx hf=>I.ok.has x.1 (by
  rcases k2 x hx with(z | z) | z
  ·exact absurd hf z
  ·exact .inl z
  ·exact .inr z)
 rw[exec_Assign_Name_used _ _ _ _ hsw];refine wpAny_bind (wpAny_standAt (wpAny_bind ?_));show wpAny _ X.A (do let _ <- comprehension (.DictComp kx vx [⟨tg,iter,ifs,0⟩] scope pos) scope X.env _ newDict false (eval iter X.env) (some (assign (.Name x px) X.env))) _ _ s
 refine wpAny_bind (wpAny_mono (wpAny_comprehension_free (use:=some (assign (.Name x px) X.env)) (Q:=fun _ s'=>SP X pins D .next s') rfl hs (l8 hfree) k1 (fun x hx hl=>?_)
  (thn (hi pins s σ H _ I h) fun v s1 h1=>thn h1 fun itv s2 h2=>?_)) (fun _ s' hq=>wpAny_pure (wpAny_pure hq)) fun _ _ e=>e)
 ·have:=g8 k3 (show(x.1,x.2)∈scope.names from hx);rw[this,hl]
 ·obtain⟨it,fp,tn,J,H2,e,I2,T,st2,f2,q⟩:=h2;subst e;refine AV (RR:=fun acc C=>compPost (model X.prog X.w) X.A X.xe (some (assign (.Name x px) X.env)) (fun _ s'=>SP X pins D .next s') acc C) (o0:={cls := .type "dict",data := .dict #[]}) (u0 := .dK []) (a0:=[]) (tem:=QY tk tv) EB (fun hq=>wpAny_newObj_type hq) rfl (fun H h e=>?_) hok hc hg ht (HD hk hv) I2 T st2 f2 (q _ I2.fresh) ?_
  ·exact FT (Nat.zero_le _) (beq_eq_false_iff_ne.mpr (Ne.symm (Nat.ne_of_lt I2.big))) .nil (let ⟨o,es,ep,ho,r⟩:=Heap.DictOf.new (knd:=m4 X.prog X.w) s2.heap;by
    rw[Heap.get?_push_size _ rfl]at ho;cases ho;exact⟨_,es,ep,e,r⟩)
  intro C H' s' I' fC ⟨m,hn⟩ q';obtain⟨f0,f1,f2',f3,f4,f5⟩:=fC;show wpAny _ X.A (assign (.Name x px) X.env (.ref s2.heap.objs.size)) _ _ _;refine wpAny_assign_Name (C3 I' hN hix (.inl hx) (v := .ref s2.heap.objs.size) rfl (fun s3 I3 hch=>?_) (.inr hx));obtain⟨a,hsb,ha⟩:=hch
  have hCa:C≠a:=by
   rcases ha with z | z
   ·rw[z];exact f1
   ·exact fun e=>f4 x a z e.symm
  refine⟨m,hn.sameBut hsb hCa,fun h' hs'=>?_⟩;exact⟨_,H',I3.turned (t':=s3.toks) (fun b o hb e=>(hs'.2 b hb).trans e) f0 f1 f3 f4 f5,q'⟩
end
open PySem PySem.Spec PyProof.Rows
def Jy(E iter2:Expr)(acc:Value)(env:Env):Sem Unit:=do
 let x <- eval iter2 env
 standAt iter2.pos
 let x <- foldedSetIterable iter2 env x
 let _ <- runOwn (.compStart E 1 (<- holding [x] (pyIter x)) acc env) env
section
variable{prog:Program}{w:World}{A:Around}{elt tg iter tg2 iter2:Expr}{ifs ifs2:List Expr}{scope:Scope}{pos:Pos}
theorem Ca{R:Result->Shared->Prop}{s:Shared}{it acc:Value}{env:Env}
 (h0:codeAny (model prog w) A (.compLoop (.ListComp elt [⟨tg,iter,ifs,0⟩,⟨tg2,iter2,ifs2,0⟩] scope pos) 1 it acc env) R s)
 (h:wpAny (model prog w) A (pyIter it) (fun it' s'=>codeAny (model prog w) A (.compLoop (.ListComp elt [⟨tg,iter,ifs,0⟩,⟨tg2,iter2,ifs2,0⟩] scope pos) 1 it' acc env) R s')
   (notedBy (model prog w) A env fun x s'=>R (.error x) s') s):
 codeAny (model prog w) A (.compStart (.ListComp elt [⟨tg,iter,ifs,0⟩,⟨tg2,iter2,ifs2,0⟩] scope pos) 1 it acc env) R s:=by
 refine codeAny_of_tree ?_;show wpAny _ _ ((compStart (.ListComp elt [⟨tg,iter,ifs,0⟩,⟨tg2,iter2,ifs2,0⟩] scope pos) 1 it acc env).onRaise (fun x=>do noteFrame x env;standAt theWindowsPlace)) _ _ s;refine wpAny_notedAt ?_;unfold compStart;show wpAny _ _ (ask >>= _) _ _ s;refine wpAny_bind (wpAny_askSetting (wpAny_ite ?_));split
 ·first
   | exact wpAny_bind (wpAny_pure (wpAny_pure (And.intro rfl h0)))
   | exact wpAny_pure (And.intro rfl h0)
 ·first
   | exact wpAny_bind (wpAny_rule (wpAny_bind (wpAny_standAt (wpAny_bind (wpAny_mono h (fun it' s' h'=>wpAny_pure (And.intro rfl h')) fun _ _ x=>x)))))
   | (refine wpAny_bind (wpAny_rule ?_);show wpAny _ _ (standAt iter2.pos >>= _) _ _ s;exact wpAny_bind (wpAny_standAt (wpAny_bind (wpAny_mono h (fun it' s' h'=>wpAny_pure (And.intro rfl h')) fun _ _ x=>x))))
theorem Qb:CForm prog w A (.ListComp elt [⟨tg,iter,ifs,0⟩,⟨tg2,iter2,ifs2,0⟩] scope pos) tg iter ifs (Jy (.ListComp elt [⟨tg,iter,ifs,0⟩,⟨tg2,iter2,ifs2,0⟩] scope pos) iter2) where
 turn:=fun _ _ _=>by
  unfold Jy;simp only[bind_assoc,pure_bind];rfl
 und:=fun _ _ _=>rfl
 den:=fun _ _ _=>rfl
 start:=fun h0 h=>codeAny_compStart_list h0 h
theorem cform2b:CForm prog w A (.ListComp elt [⟨tg,iter,ifs,0⟩,⟨tg2,iter2,ifs2,0⟩] scope pos) tg2 iter2 ifs2 (Rc elt) 1 where
 turn:=fun _ _ _=>by rfl
 und:=fun _ _ _=>rfl
 den:=fun _ _ _=>rfl
 start:=fun h0 h=>Ca h0 h
end
def Qc(wi2:TI)(g2:TG)(tt2:TT)(te:TE)(D:Addr)(ys:List V)(σ:St)(H:Hp)(N:List V->Hp->Prop):Prop:=
 wi2 σ H fun J H1=>∃ W:Nat->Nat->List V->St->Hp->Prop,(∃ m,W 0 m ys σ H1)/\∀ i m zs σ H,W i m zs σ H->(J.stop i H/\N zs H)\/
  (J.go i H/\∃ N2:List V->St->Hp->Prop,(∀ zs' σ' H',N2 zs' σ' H'->∃ m',m'<m/\W (i+1) m' zs' σ' H')/\∀ x H',J.yld i H x H'->g2 x σ H' fun σ2 H2=>tt2 σ2 H2 fun b H3=>
    if b=true then te σ2 H3 fun v H4=>H4 D=some (.lst zs)/\zs.length<sizeLine/\N2 (zs++[v]) σ2 (upd H4 D (.lst (zs++[v]))) else N2 zs σ2 H3)
def Ix(wi:TI)(g:TG)(tt:TT)(wi2:TI)(g2:TG)(tt2:TT)(te:TE)(k:Nat)(js:List Nat):TE:=fun σ H Q=>wi σ H fun J H1=>∀ D,H1 D=none->
 ∃ W:Nat->Nat->List V->Hp->Prop,(∃ m,W 0 m [] (upd H1 D (.lst [])))/\Dq J g tt (Qc wi2 g2 tt2 te D) (Ac k js σ) (fun H=>Q (.ref D) H) W
section
variable{Y:Cx}{tg elt iter tg2 iter2:Expr}{ifs ifs2:List Expr}{scope:Scope}{pos:Pos}{g2:TG}{tt2:TT}{te:TE}{wi2:TI}
theorem OD(hc:Y.calm=true)(hi:PI Y tg2 iter2 wi2)(hg:PG Y tg2 g2)(ht:Ai Y ifs2 tt2)(he:PE Y elt te)(hs:∀ x,foldedSetIterable iter2 Y.env x=pure x){D:Addr}{pins:List (Addr×Obj)}{s:Shared}{σ:St}{H:Hp}{ys:List V}{N:List V->Hp->Prop}(I:Inv Y pins σ H s)(hx:Y.xe=fun _ _=>False)
 (h:Qc wi2 g2 tt2 te D ys σ H N):wpAny (model Y.prog Y.w) Y.A (Jy (.ListComp elt [⟨tg,iter,ifs,0⟩,⟨tg2,iter2,ifs2,0⟩] scope pos) iter2 (.ref D) Y.env) (fun _ s1=>∃ σ1 a1 H1,Inv Y pins σ1 H1 s1/\N a1 H1) (fun _ _=>False) s:=by
 unfold Jy;have hi':=hi pins s σ H _ I h;rw[hx]at hi';refine wpAny_bind (thn hi' fun v s1 h1=>?_);refine wpAny_bind (wpAny_standAt ?_);rw[hs];refine wpAny_bind (wpAny_pure ?_);refine wpAny_bind (wpAny_holding (thn h1 fun itv s2 h2=>?_));obtain⟨it,fp,tn,J,H2,e,I2,T,st2,f2,W,⟨m0,w0⟩,turn⟩:=h2;subst e;refine wpAny_bind (wpAny_runOwn (h:=none) ?_ ?_)
 rotate_left
 ·intro e;cases e
 have stat:∀{H':Hp},(∀ b∈fp,H' b=none)->∀ b∈fp,FpOk Y pins H' b:=fun hn b hb=>⟨hn b hb,(f2 b hb).2⟩
 have loop:∀ R:Result->Shared->Prop,(∀ s',(∃ σ1 a1 H1,Inv Y pins σ1 H1 s'/\N a1 H1)->R (.ok .next) s')->codeAny (model Y.prog Y.w) Y.A (.compLoop (.ListComp elt [⟨tg,iter,ifs,0⟩,⟨tg2,iter2,ifs2,0⟩] scope pos) 1 (.ref it) (.ref D) Y.env) R s2:=fun R hR=>by
  refine cform2b.loop (fun n s'=>∃ i zs σ' H',Inv Y pins σ' H' s'/\tn i s'.heap/\(∀ b∈fp,H' b=none)/\W i n zs σ' H') ?_ m0 ⟨0,ys,σ,H2,I2,st2,fun b hb=>(f2 b hb).1,w0⟩;rintro n s3 ⟨i,zs,σ3,H3,I3,st3,fr3,w3⟩;rcases turn i n zs σ3 H3 w3 with⟨stop,qn⟩ | ⟨go,N2,hN,step⟩
  ·refine thn (T.done Y rfl rfl rfl hc i pins s3 σ3 H3 _ I3 (stat fr3) st3 stop) fun r s4 ⟨hr,I4⟩=>?_;subst hr;exact hR _ ⟨_,_,_,I4,qn⟩
  ·refine thn (T.item Y rfl rfl rfl hc i pins s3 σ3 H3 _ I3 (stat fr3) st3 go) fun r s4 ⟨u,hr,h4⟩=>?_;subst hr;refine thn h4 fun _ s5 ⟨x,H5,I5,r5,y5,st5,fr5⟩=>?_;have I5':=I5.pinned (stat fr5) (T.obj _ _ st5);have e1:=hg _ s5 σ3 H5 x u _ I5' r5 (step x H5 y5);rw[hx]at e1;refine thn e1 fun _ s6 ⟨σ6,H6,I6,q6⟩=>?_;have e2:=ht _ s6 σ6 H6 _ I6 q6;rw[hx]at e2;refine thn e2 fun b s7 ⟨H7,I7,q7⟩=>?_
   have again:∀{σ7:St} {H7:Hp} {s7:Shared} {zs7:List V},Inv Y (pins++Bf fp s5.heap) σ7 H7 s7->N2 zs7 σ7 H7->∃ m,m<n/\∃ i zs σ' H',Inv Y pins σ' H' s7/\tn i s7.heap/\(∀ b∈fp,H' b=none)/\W i m zs σ' H':=fun{σ7 H7 s7 zs7} I7 n7=>by
    obtain⟨m',hm,w7⟩:=hN zs7 σ7 H7 n7;refine⟨m',hm,i+1,zs7,σ7,H7,I7.unpinned,T.keep _ _ _ st5 fun b hb o e=>(I7.pin (b,o) (List.mem_append_right _ (List.mem_append_right _ (AN hb e)))).1,fun b hb=>?_,w7⟩;obtain⟨o,e,d⟩:=T.obj _ _ st5 b hb;exact(I7.pin (b,o) (List.mem_append_right _ (List.mem_append_right _ (AN hb e)))).2.1
   cases b with
   | false=>
     rw[if_neg Bool.false_ne_true];rw[if_neg Bool.false_ne_true]at q7;exact again I7 q7
   | true=>
     rw[if_pos rfl];rw[if_pos rfl]at q7;have e3:=he _ s7 σ6 H7 _ I7 q7;rw[hx]at e3;refine wpAny_bind (thn e3 fun y s8 ⟨v,H8,I8,r8,hD8,hz8,q8⟩=>?_);have e4:=C4 (X:=Y) _ s8 σ6 H8 (.ref D) [v] (.ref D) [y] (fun _ H9=>H9=upd H8 D (.lst (zs++[v]))) I8 rfl (.cons r8 .nil) ⟨_,zs,v,rfl,rfl,hD8,hz8,rfl⟩;rw[hx]at e4;refine wpAny_bind (thn e4 fun _ s9 ⟨z,H9,I9,r9,e9⟩=>?_);subst e9;exact wpAny_pure (again I9 q8)
 show codeAny _ (Y.A.mark none) _ _ s2;have hm:Y.A.mark none=Y.A:=rfl;rw[hm];refine cform2b.start (loop _ fun s' h=>wpAny_pure h) (T.self _ 0 _ _ _ st2 (loop _ fun s' h=>wpAny_pure h))
end
section
variable{X:Cx}{pins:List (Addr×Obj)}{σ:St}{H2:Hp}{s2:Shared}{tg elt iter tg2 iter2:Expr}{ifs ifs2:List Expr}{scope:Scope}{pos:Pos}{own cn:List Str}{js:List Nat}{g g2:TG}{tt tt2:TT}{te:TE}{wi2:TI}
theorem DM(hok:j2 X.env.scope scope own cn X.N js=true)(hc:X.calm=true)
 (hg:∀ s2 H2 cs C fp,PG (c6 X scope (own++cn) s2 H2 cs C fp) tg g) (ht:∀ s2 H2 cs C fp,Ai (c6 X scope (own++cn) s2 H2 cs C fp) ifs tt) (hi2:∀ s2 H2 cs C fp,PI (c6 X scope (own++cn) s2 H2 cs C fp) tg2 iter2 wi2) (hg2:∀ s2 H2 cs C fp,PG (c6 X scope (own++cn) s2 H2 cs C fp) tg2 g2) (ht2:∀ s2 H2 cs C fp,Ai (c6 X scope (own++cn) s2 H2 cs C fp) ifs2 tt2) (he:∀ s2 H2 cs C fp,PE (c6 X scope (own++cn) s2 H2 cs C fp) elt te)
 (hs2:∀ s2 H2 cs C fp x,foldedSetIterable iter2 (c6 X scope (own++cn) s2 H2 cs C fp).env x=pure x)
 (I2:Inv X pins σ H2 s2) {it:Addr} {fp:List Addr} {tn:Nat->Heap->Prop} {J:It} (T:Turn X.prog X.w X.K tg J fp it tn) (st2:tn 0 s2.heap) (f2:∀ b∈fp,FpOk X pins H2 b)
 {Qe:Hp->Prop} (hW:∃ W:Nat->Nat->List V->Hp->Prop,(∃ m,W 0 m [] (upd H2 s2.heap.objs.size (.lst [])))/\Dq J g tt (Qc wi2 g2 tt2 te s2.heap.objs.size) (Ac own.length js σ) Qe W)
 {RR:Value->Addr->Result->Shared->Prop}
 (hRR:∀ C H' s',Inv X pins σ H' s'->FpOk X pins H' C->(∃ m,s'.heap.Ns C m)->Qe H'->RR (.ref s2.heap.objs.size) C (.ok .next) s'):
 wpAny (model X.prog X.w) X.A (newList []) (fun acc s₃=>wpAny (model X.prog X.w) X.A (newFunctionEnv scope X.env.globals (AB X.env scope.names []) [] X.env.qual none .none (some X.env)) (fun cenv s₄=>
  codeAny (model X.prog X.w) X.A (.compStart (.ListComp elt [⟨tg,iter,ifs,0⟩,⟨tg2,iter2,ifs2,0⟩] scope pos) 0 (.ref it) acc {cenv with scope:=relabel scope X.env}) (RR acc cenv.locals) s₄) X.xe s₃) X.xe s2:=
 AV (RR:=RR) (a0:=[]) (o0:={cls := .type "list",dict:=none,data := .seq ([]:List Value).toArray}) (u0 := .lst []) (tem:=Qc wi2 g2 tt2 te) Qb (fun hq=>wpAny_newObj_type hq) rfl (fun _ _ hD=>⟨Nat.zero_le _,[],0,.nil,hD⟩) hok hc hg ht (fun D s2 H2 cs C fp pins s σ H ys N I h=>OD (Y:=c6 X scope (own++cn) s2 H2 cs C fp) hc (hi2 s2 H2 cs C fp) (hg2 s2 H2 cs C fp) (ht2 s2 H2 cs C fp) (he s2 H2 cs C fp) (hs2 s2 H2 cs C fp) I rfl h) I2 T st2 f2 hW hRR
theorem OE{wi:TI}(own cn:List Str)(js:List Nat)(hi:PI X tg iter wi)(hg:∀ s2 H2 cs C fp,PG (c6 X scope (own++cn) s2 H2 cs C fp) tg g)(ht:∀ s2 H2 cs C fp,Ai (c6 X scope (own++cn) s2 H2 cs C fp) ifs tt)
 (hi2:∀ s2 H2 cs C fp,PI (c6 X scope (own++cn) s2 H2 cs C fp) tg2 iter2 wi2) (hg2:∀ s2 H2 cs C fp,PG (c6 X scope (own++cn) s2 H2 cs C fp) tg2 g2) (ht2:∀ s2 H2 cs C fp,Ai (c6 X scope (own++cn) s2 H2 cs C fp) ifs2 tt2)
 (he:∀ s2 H2 cs C fp,PE (c6 X scope (own++cn) s2 H2 cs C fp) elt te) (hs2:∀ s2 H2 cs C fp x,foldedSetIterable iter2 (c6 X scope (own++cn) s2 H2 cs C fp).env x=pure x) (hc:X.calm=true:=by rfl) (hok:j2 X.env.scope scope own cn X.N js=true:=by kernel_rfl)
 (hs:∀ x,foldedSetIterable iter X.env x=pure x:=by intro _;rfl):PE X (.ListComp elt [⟨tg,iter,ifs,0⟩,⟨tg2,iter2,ifs2,0⟩] scope pos) (Ix wi g tt wi2 g2 tt2 te own.length js):=by
 intro pins s σ H Q I h;have hok':=hok;unfold j2 at hok';simp only[Bool.and_eq_true,decide_eq_true_eq,List.all_eq_true,Bool.or_eq_true,Bool.not_eq_true',decide_eq_false_iff_not]at hok';obtain⟨⟨⟨⟨⟨⟨k1,k2⟩,k3⟩,k4⟩,k5⟩,k6⟩,k7⟩:=hok'
 have hfree:∀ x∈scope.names,x.2 = .free->∃ c,X.env.cells.lookup x.1=some c:=fun x hx hf=>I.ok.has x.1 (by
  rcases k2 x hx with(z | z) | z
  ·exact absurd hf z
  ·exact .inl z
  ·exact .inr z)
 rw[eval_ListComp];refine wpAny_comprehension_free (use:=none) rfl hs (l8 hfree) k1 (fun x hx hl=>?_) (thn (hi pins s σ H _ I h) fun v s1 h1=>thn h1 fun itv s2 h2=>?_)
 ·have:=g8 k3 (show(x.1,x.2)∈scope.names from hx);rw[this,hl]
 ·obtain⟨it,fp,tn,J,H2,e,I2,T,st2,f2,q⟩:=h2;subst e;refine DM (RR:=fun acc C=>compPost (model X.prog X.w) X.A X.xe none (EP X pins σ Q) acc C) hok hc hg ht hi2 hg2 ht2 he hs2 I2 T st2 f2 (q _ I2.fresh) ?_;intro C H' s' I' fC ⟨m,hn⟩ q';obtain⟨f0,f1,f2',f3,f4,f5⟩:=fC;refine⟨m,hn,fun h' hs'=>⟨.ref s2.heap.objs.size,H',?_,rfl,q'⟩⟩;exact I'.turned (t':=s'.toks) (fun b o hb e=>(hs'.2 b hb).trans e) f0 f1 f3 f4 f5
theorem HF{wi:TI}{i:Nat}{x:Str}{px spos:Pos}(own cn:List Str)(js:List Nat)(hN:X.N.Nodup)(hix:X.N[i]?=some x)(hx:X.env.scope.names.lookup x=some .local)(hi:PI X tg iter wi)
 (hg:∀ s2 H2 cs C fp,PG (c6 X scope (own++cn) s2 H2 cs C fp) tg g) (ht:∀ s2 H2 cs C fp,Ai (c6 X scope (own++cn) s2 H2 cs C fp) ifs tt)
 (hi2:∀ s2 H2 cs C fp,PI (c6 X scope (own++cn) s2 H2 cs C fp) tg2 iter2 wi2) (hg2:∀ s2 H2 cs C fp,PG (c6 X scope (own++cn) s2 H2 cs C fp) tg2 g2) (ht2:∀ s2 H2 cs C fp,Ai (c6 X scope (own++cn) s2 H2 cs C fp) ifs2 tt2)
 (he:∀ s2 H2 cs C fp,PE (c6 X scope (own++cn) s2 H2 cs C fp) elt te) (hs2:∀ s2 H2 cs C fp x,foldedSetIterable iter2 (c6 X scope (own++cn) s2 H2 cs C fp).env x=pure x) (hc:X.calm=true:=by rfl) (hok:j2 X.env.scope scope own cn X.N js=true:=by kernel_rfl)
 (hsw:swapsWith (.ListComp elt [⟨tg,iter,ifs,0⟩,⟨tg2,iter2,ifs2,0⟩] scope pos) (some (.Name x px)) spos.line X.env=pure true:=by rfl)
 (hs:∀ x,foldedSetIterable iter X.env x=pure x:=by intro _;rfl):PS X (.Assign [.Name x px] (.ListComp elt [⟨tg,iter,ifs,0⟩,⟨tg2,iter2,ifs2,0⟩] scope pos) spos) (GF (Ix wi g tt wi2 g2 tt2 te own.length js) (Eh i)):=by
 intro pins s σ H D I h;have hok':=hok;unfold j2 at hok';simp only[Bool.and_eq_true,decide_eq_true_eq,List.all_eq_true,Bool.or_eq_true,Bool.not_eq_true',decide_eq_false_iff_not]at hok';obtain⟨⟨⟨⟨⟨⟨k1,k2⟩,k3⟩,k4⟩,k5⟩,k6⟩,k7⟩:=hok'
 have hfree:∀ x∈scope.names,x.2 = .free->∃ c,X.env.cells.lookup x.1=some c:=fun x hx hf=>I.ok.has x.1 (by
  rcases k2 x hx with(z | z) | z
  ·exact absurd hf z
  ·exact .inl z
  ·exact .inr z)
 rw[exec_Assign_Name_used _ _ _ _ hsw];refine wpAny_bind (wpAny_standAt (wpAny_bind ?_));show wpAny _ X.A (do let _ <- comprehension (.ListComp elt [⟨tg,iter,ifs,0⟩,⟨tg2,iter2,ifs2,0⟩] scope pos) scope X.env _ (newList []) false (eval iter X.env) (some (assign (.Name x px) X.env))) _ _ s
 refine wpAny_bind (wpAny_mono (wpAny_comprehension_free (use:=some (assign (.Name x px) X.env)) (Q:=fun _ s'=>SP X pins D .next s') rfl hs (l8 hfree) k1 (fun x hx hl=>?_)
  (thn (hi pins s σ H _ I h) fun v s1 h1=>thn h1 fun itv s2 h2=>?_)) (fun _ s' hq=>wpAny_pure (wpAny_pure hq)) fun _ _ e=>e)
 ·have:=g8 k3 (show(x.1,x.2)∈scope.names from hx);rw[this,hl]
 ·obtain⟨it,fp,tn,J,H2,e,I2,T,st2,f2,q⟩:=h2;subst e;refine DM (RR:=fun acc C=>compPost (model X.prog X.w) X.A X.xe (some (assign (.Name x px) X.env)) (fun _ s'=>SP X pins D .next s') acc C) hok hc hg ht hi2 hg2 ht2 he hs2 I2 T st2 f2 (q _ I2.fresh) ?_;intro C H' s' I' fC ⟨m,hn⟩ q';obtain⟨f0,f1,f2',f3,f4,f5⟩:=fC;show wpAny _ X.A (assign (.Name x px) X.env (.ref s2.heap.objs.size)) _ _ _;refine wpAny_assign_Name (C3 I' hN hix (.inl hx) (v := .ref s2.heap.objs.size) rfl (fun s3 I3 hch=>?_) (.inr hx));obtain⟨a,hsb,ha⟩:=hch
  have hCa:C≠a:=by
   rcases ha with z | z
   ·rw[z];exact f1
   ·exact fun e=>f4 x a z e.symm
  refine⟨m,hn.sameBut hsb hCa,fun h' hs'=>?_⟩;exact⟨_,H',I3.turned (t':=s3.toks) (fun b o hb e=>(hs'.2 b hb).trans e) f0 f1 f3 f4 f5,q'⟩
end
end L2
namespace Rf
open PySem L2
theorem join_some{α:Type}{o:Option (Option α)}{x:α}(h:o.join=some x):o=some (some x):=by
 cases o with
 | none=>cases h
 | some o=>cases o with
   | none=>cases h
   | some y=>cases h;rfl
theorem EnvOk.cap{K:PySem.W.Frag}{as:List Addr}{H:Hp}{σ:St}{ρ:EnvS}(h:EnvOk K as H σ ρ)(k:Nat)(js:List Nat):EnvOk K as H (Ac k js σ) (Ad k js ρ):=by
 refine⟨by unfold Ac Ad;simp,fun i x e=>?_⟩;unfold Ad at e;unfold Ac;by_cases hi:i<k
 ·rw[List.getElem?_append_left (by simpa using hi),List.getElem?_replicate,if_pos hi]at e;cases e
 ·rw[List.getElem?_append_right (by simpa using hi),List.length_replicate,List.getElem?_map]at e;rw[List.getElem?_append_right (by simpa using hi),List.length_replicate,List.getElem?_map];cases hj:js[i - k]? with
  | none=>rw[hj]at e;cases e
  | some j=>
    rw[hj]at e;have e':(ρ[j]?).join=some x:=oj e;obtain⟨v,hv,rv⟩:=h.2 j x (join_some e');exact⟨v,by simp only[Option.map_some];rw[hv];rfl,rv⟩
theorem Ok.adopt{K:PySem.W.Frag}{as:List Addr}{H:Hp}{S:Sto}{D:Addr}{vs:List V}{xs:List SV}(h:Ok K as H S)(n:D∉as)(hD:H D=some (.lst vs))(r:RlAll K as H vs xs):Ok K (as++[D]) H (S++[.lst xs]):=by
 have pre:as <+: as++[D]:=List.prefix_append _ _;refine⟨by rw[List.length_append,List.length_append,h.len];rfl,?_,fun k o a e ea=>?_⟩
 ·rw[List.nodup_append];refine⟨h.nd,by simp,fun a ha b hb=>?_⟩;rw[List.mem_singleton.mp hb];intro z;subst z;exact n ha
 ·by_cases hk:k<S.length
  ·rw[List.getElem?_append_left hk]at e;rw[List.getElem?_append_left (by rw[h.len];exact hk)]at ea;exact(h.obj k o a e ea).mono pre (KeepU.refl _) fun _ z=>z
  ·have hk':k=S.length:=by
    have:=(gM e).1;rw[List.length_append,List.length_singleton]at this;omega
   subst hk';rw[List.getElem?_concat_length]at e;rw[<-h.len,List.getElem?_concat_length]at ea;cases e;cases ea;exact⟨vs,hD,RlAll.mono pre (KeepU.refl _) xs vs r⟩
theorem Cb{keep:Sto->Prop}{g:Tg}{t:WT}{e:WE}{ρ:EnvS}(mt:MonoT t)(me:Mono e){Q Q':List SV->Sto->Prop}(i:∀ ys S,Q ys S->Q' ys S):∀(xs ys:List SV) (S:Sto),w9 keep g t e ρ Q xs ys S->w9 keep g t e ρ Q' xs ys S
 | [],ys,S,h=>by unfold w9 at h ⊢;exact⟨h.1,i _ _ h.2⟩
 | x::xs,ys,S,h=>by
   unfold w9 at h ⊢;refine⟨h.1,j6 g (fun ρ2 q=>mt _ _ _ _ (fun b S1 q=>i4 (fun q=>me _ _ _ _ (fun y S2 q=>⟨q.1,Cb mt me i xs _ _ q.2⟩) q) (fun q=>Cb mt me i xs _ _ q) q) q) h.2⟩
theorem Mono.comp{k:Nat}{js:List Nat}{g:Tg}{i:WI}{t:WT}{e:WE}(mi:MonoI i)(mt:MonoT t)(me:Mono e):Mono (Jo k js g i t e):=fun ρ S P P' im h=>mi _ _ _ _ (fun keep xs S1 h=>Cb mt me (fun ys S2 q=>im _ _ q) xs [] S1 h) h
theorem HG{K:PySem.W.Frag}{k:Nat}{js:List Nat}{g:Tg}{i:WI}{t:WT}{e:WE}(mi:MonoI i)(mt:MonoT t)(me:Mono e):∀ σ H Q,lift K (Jo k js g i t e) σ H Q->Mr (liftI K i) (AY K g) (liftT K t) (lift K e) k js σ H Q:=by
 rintro σ H Q ⟨as,ρ,S,ok,en,h⟩;refine⟨as,ρ,S,ok,en,mi _ _ _ _ (fun keep xs S1 h as1 H1 J g1 ok1 W=>?_) h⟩;intro D hD;have Dn:D∉as1:=ok1.free hD
 refine⟨fun i m vs H2=>m=xs.length - i/\i<=xs.length/\∃ as2 S2 ys,Go as1 H1 as2 H2/\Ok K as2 H2 S2/\D∉as2/\H2 D=some (.lst vs)/\RlAll K as2 H2 vs ys/\
  w9 keep g t e (Ad k js ρ) (fun ys S2=>Post K as H Q (.loc S2.length) (S2++[.lst ys])) (xs.drop i) ys S2,⟨xs.length,by simp,Nat.zero_le _,as1,S1,[],Go.new hD,ok1.new hD,Dn,f7,.nil,h⟩,?_⟩
 rintro i m vs H2 ⟨rfl,hi,as2,S2,ys,g2,ok2,n2,d2,rs,h⟩;by_cases hlt:i<xs.length
 ·right;rw[List.drop_eq_getElem_cons hlt]at h;unfold w9 at h;obtain⟨kp,h⟩:=h;obtain⟨w1,_⟩:=W as2 H2 S2 (g2.gu ok1) ok2 kp;obtain⟨go,yl⟩:=w1 i xs[i] (List.getElem?_eq_getElem hlt)
  refine⟨go,fun vs' H'=>∃ as2 S2 ys,Go as1 H1 as2 H'/\Ok K as2 H' S2/\D∉as2/\H' D=some (.lst vs')/\RlAll K as2 H' vs' ys/\
   w9 keep g t e (Ad k js ρ) (fun ys S2=>Post K as H Q (.loc S2.length) (S2++[.lst ys])) (xs.drop (i+1)) ys S2,fun vs' H' z=>⟨xs.length - (i+1),by omega,rfl,hlt,z⟩,fun x H3 y3=>?_⟩
  obtain⟨g3,ok3,rx⟩:=yl x H3 y3;have en3:EnvOk K as2 H3 (Ac k js σ) (Ad k js ρ):=((en.mono g1.pre (g1.ku ok)).mono (g2.trans g3).pre ((g2.trans g3).ku ok1)).cap k js;have rs3:=RlAll.mono g3.pre (g3.ku ok2) ys vs rs;obtain⟨d3,n3⟩:=g3.keep D _ d2 n2;refine⟨as2,Ad k js ρ,S2,_,ok3,en3,rx,j6 g (fun ρ2 q σ2 en2=>?_) h⟩;refine⟨as2,ρ2,S2,ok3,en2,mt _ _ _ _ (fun b S4 q as4 H4 g4 ok4=>?_) q⟩;obtain⟨d4,n4⟩:=g4.keep D _ d3 n3;have rs4:=RlAll.mono g4.pre (g4.ku ok3) ys vs rs3;refine i4 (fun q=>?_) (fun q=>?_) q
  ·refine⟨as4,ρ2,S4,ok4,en2.mono g4.pre (g4.ku ok3),me _ _ _ _ (fun y S5 q as5 H5 v g5 ok5 rv=>?_) q⟩;obtain⟨d5,n5⟩:=g5.keep D _ d4 n4;have rs5:=RlAll.mono g5.pre (g5.ku ok4) ys vs rs4;refine⟨d5,by rw[rs.length];exact CZ q.1,as5,S5,ys++[y],?_,ok5.other d5 n5,n5,f7,?_,q.2⟩
   ·refine⟨(((g2.trans g3).trans g4).trans g5).pre,fun b o hb nb=>?_⟩;obtain⟨z1,z2⟩:=(((g2.trans g3).trans g4).trans g5).keep b o hb nb;exact⟨by rw[upd_ne (e8 hb hD)];exact z1,z2⟩
   ·exact RlAll.mono (List.prefix_refl _) (Am d5 rfl) _ _ (rs5.append (.cons rv .nil))
  ·exact⟨as4,S4,ys,(g2.trans g3).trans g4,ok4,n4,d4,rs4,q⟩
 ·left;have hi':i=xs.length:=by omega
  subst hi';rw[List.drop_length]at h;unfold w9 at h;obtain⟨kp,h⟩:=h;obtain⟨_,w2⟩:=W as2 H2 S2 (g2.gu ok1) ok2 kp;refine⟨w2,h (as2++[D]) H2 (.ref D) ?_ (ok2.adopt n2 d2 rs) (rl_loc.mpr ⟨D,by rw[<-ok2.len,List.getElem?_concat_length],rfl⟩)⟩;refine⟨(g1.pre.trans g2.pre).trans (List.prefix_append _ _),fun b o hb nb=>?_⟩;obtain⟨h1,n1⟩:=g1.keep b o hb nb;obtain⟨h2,n2'⟩:=g2.keep b o h1 n1;refine⟨h2,?_⟩;rw[List.mem_append,List.mem_singleton];rintro(z | z)
  ·exact n2' z
  ·exact e8 h1 hD z
theorem B3{keep:Sto->Prop}{g:Tg}{t:WT}{e:WE}(mt:MonoT t)(me:Mono e){Q Q':List SV->Sto->Prop}(i:∀ ys S,Q ys S->Q' ys S):∀(xs:List SV) (ρ:EnvS) (ys:List SV) (S:Sto),u4 keep g t e Q xs ρ ys S->u4 keep g t e Q' xs ρ ys S
 | [],ρ,ys,S,h=>by unfold u4 at h ⊢;exact⟨h.1,i _ _ h.2⟩
 | x::xs,ρ,ys,S,h=>by
   unfold u4 at h ⊢;refine⟨h.1,j6 g (fun ρ2 q=>mt _ _ _ _ (fun b S1 q=>i4 (fun q=>me _ _ _ _ (fun y S2 q=>⟨q.1,B3 mt me i xs _ _ _ q.2⟩) q) (fun q=>B3 mt me i xs _ _ _ q) q) q) h.2⟩
theorem Bu{keep:Sto->Prop}{g g2:Tg}{t t2:WT}{i2:WI}{e:WE}{ρ:EnvS}(mt:MonoT t)(mi2:MonoI i2)(mt2:MonoT t2)(me:Mono e){Q Q':List SV->Sto->Prop}(i:∀ ys S,Q ys S->Q' ys S):∀(xs ys:List SV) (S:Sto),r6 keep g t g2 i2 t2 e ρ Q xs ys S->r6 keep g t g2 i2 t2 e ρ Q' xs ys S
 | [],ys,S,h=>by unfold r6 at h ⊢;exact⟨h.1,i _ _ h.2⟩
 | x::xs,ys,S,h=>by
   unfold r6 at h ⊢;refine⟨h.1,j6 g (fun ρ2 q=>mt _ _ _ _ (fun b S1 q=>i4 (fun q=>mi2 _ _ _ _ (fun keep2 xs2 S2 q=>B3 mt2 me (fun ys' S3 q=>Bu mt mi2 mt2 me i xs _ _ q) _ _ _ _ q) q) (fun q=>Bu mt mi2 mt2 me i xs _ _ q) q) q) h.2⟩
theorem Mono.comp2{k:Nat}{js:List Nat}{g g2:Tg}{i i2:WI}{t t2:WT}{e:WE}(mi:MonoI i)(mt:MonoT t)(mi2:MonoI i2)(mt2:MonoT t2)(me:Mono e):Mono (Fe k js g i t g2 i2 t2 e):=fun ρ S P P' im h=>mi _ _ _ _ (fun keep xs S1 h=>Bu mt mi2 mt2 me (fun ys S2 q=>im _ _ q) xs [] S1 h) h
theorem F8{K:PySem.W.Frag}{k:Nat}{js:List Nat}{g g2:Tg}{i i2:WI}{t t2:WT}{e:WE}(mi:MonoI i)(mt:MonoT t)(mi2:MonoI i2)(mt2:MonoT t2)(me:Mono e):∀ σ H Q,lift K (Fe k js g i t g2 i2 t2 e) σ H Q->Ix (liftI K i) (AY K g) (liftT K t) (liftI K i2) (AY K g2) (liftT K t2) (lift K e) k js σ H Q:=by
 rintro σ H Q ⟨as,ρ,S,ok,en,h⟩;refine⟨as,ρ,S,ok,en,mi _ _ _ _ (fun keep xs S1 h as1 H1 J g1 ok1 W=>?_) h⟩;intro D hD;have Dn:D∉as1:=ok1.free hD
 refine⟨fun i m vs H2=>m=xs.length - i/\i<=xs.length/\∃ as2 S2 ys,Go as1 H1 as2 H2/\Ok K as2 H2 S2/\D∉as2/\H2 D=some (.lst vs)/\RlAll K as2 H2 vs ys/\
  r6 keep g t g2 i2 t2 e (Ad k js ρ) (fun ys S2=>Post K as H Q (.loc S2.length) (S2++[.lst ys])) (xs.drop i) ys S2,⟨xs.length,by simp,Nat.zero_le _,as1,S1,[],Go.new hD,ok1.new hD,Dn,f7,.nil,h⟩,?_⟩
 rintro i m vs H2 ⟨rfl,hi,as2,S2,ys,g2,ok2,n2,d2,rs,h⟩;by_cases hlt:i<xs.length
 ·right;rw[List.drop_eq_getElem_cons hlt]at h;unfold r6 at h;obtain⟨kp,h⟩:=h;obtain⟨w1,_⟩:=W as2 H2 S2 (g2.gu ok1) ok2 kp;obtain⟨go,yl⟩:=w1 i xs[i] (List.getElem?_eq_getElem hlt)
  refine⟨go,fun vs' H'=>∃ as2 S2 ys,Go as1 H1 as2 H'/\Ok K as2 H' S2/\D∉as2/\H' D=some (.lst vs')/\RlAll K as2 H' vs' ys/\
   r6 keep g t _ i2 t2 e (Ad k js ρ) (fun ys S2=>Post K as H Q (.loc S2.length) (S2++[.lst ys])) (xs.drop (i+1)) ys S2,fun vs' H' z=>⟨xs.length - (i+1),by omega,rfl,hlt,z⟩,fun x H3 y3=>?_⟩
  obtain⟨g3,ok3,rx⟩:=yl x H3 y3;have en3:EnvOk K as2 H3 (Ac k js σ) (Ad k js ρ):=((en.mono g1.pre (g1.ku ok)).mono (g2.trans g3).pre ((g2.trans g3).ku ok1)).cap k js;have rs3:=RlAll.mono g3.pre (g3.ku ok2) ys vs rs;obtain⟨d3,n3⟩:=g3.keep D _ d2 n2;refine⟨as2,Ad k js ρ,S2,_,ok3,en3,rx,j6 g (fun ρ2 q σ2 en2=>?_) h⟩;refine⟨as2,ρ2,S2,ok3,en2,mt _ _ _ _ (fun b S4 q as4 H4 g4 ok4=>?_) q⟩;obtain⟨d4,n4⟩:=g4.keep D _ d3 n3;have rs4:=RlAll.mono g4.pre (g4.ku ok3) ys vs rs3;refine i4 (fun q=>?_) (fun q=>?_) q
  ·refine⟨as4,ρ2,S4,ok4,en2.mono g4.pre (g4.ku ok3),mi2 _ _ _ _ (fun keep2 xs2 S5 q as5 H5 J2 g5 ok5 W2=>?_) q⟩;obtain⟨d5,n5⟩:=g5.keep D _ d4 n4;have rs5:=RlAll.mono g5.pre (g5.ku ok4) ys vs rs4;have en5:=(en2.mono g4.pre (g4.ku ok3)).mono g5.pre (g5.ku ok4);have G5:=((g2.trans g3).trans g4).trans g5
   refine⟨fun i' m zs σ' H'=>m=xs2.length - i'/\i'<=xs2.length/\∃ as6 S6 ws ρ6,Go as1 H1 as6 H'/\Gu as5 H5 as6 H'/\Ok K as6 H' S6/\D∉as6/\H' D=some (.lst zs)/\RlAll K as6 H' zs ws/\EnvOk K as6 H' σ' ρ6/\
    u4 keep2 _ t2 e (fun ys' S3=>r6 keep g t _ i2 t2 e (Ad k js ρ) (fun ys S2=>Post K as H Q (.loc S2.length) (S2++[.lst ys])) (xs.drop (i+1)) ys' S3) (xs2.drop i') ρ6 ws S6,⟨xs2.length,by simp,Nat.zero_le _,as5,S5,ys,ρ2,G5,⟨List.prefix_refl _,KeepU.refl _⟩,ok5,n5,d5,rs5,en5,q⟩,?_⟩
   rintro i' m zs σ' H6 ⟨rfl,hi',as6,S6,ws,ρ6,G6,u6,ok6,n6,d6,rs6,en6,h⟩;by_cases hlt':i'<xs2.length
   ·right;rw[List.drop_eq_getElem_cons hlt']at h;unfold u4 at h;obtain⟨kp,h⟩:=h;obtain⟨w1,_⟩:=W2 as6 H6 S6 u6 ok6 kp;obtain⟨go,yl⟩:=w1 i' xs2[i'] (List.getElem?_eq_getElem hlt')
    refine⟨go,fun zs' σ' H'=>∃ as6 S6 ws ρ6,Go as1 H1 as6 H'/\Gu as5 H5 as6 H'/\Ok K as6 H' S6/\D∉as6/\H' D=some (.lst zs')/\RlAll K as6 H' zs' ws/\EnvOk K as6 H' σ' ρ6/\
     u4 keep2 _ t2 e (fun ys' S3=>r6 keep g t _ i2 t2 e (Ad k js ρ) (fun ys S2=>Post K as H Q (.loc S2.length) (S2++[.lst ys])) (xs.drop (i+1)) ys' S3) (xs2.drop (i'+1)) ρ6 ws S6,fun zs' σ' H' z=>⟨xs2.length - (i'+1),by omega,rfl,hlt',z⟩,fun x H7 y7=>?_⟩
    obtain⟨g7,ok7,rx⟩:=yl x H7 y7;have en7:=en6.mono g7.pre (g7.ku ok6);have rs7:=RlAll.mono g7.pre (g7.ku ok6) ws zs rs6;obtain⟨d7,n7⟩:=g7.keep D _ d6 n6;refine⟨as6,ρ6,S6,_,ok7,en7,rx,j6 _ (fun ρ8 q σ8 en8=>?_) h⟩;refine⟨as6,ρ8,S6,ok7,en8,mt2 _ _ _ _ (fun b S9 q as9 H9 g9 ok9=>?_) q⟩;obtain⟨d9,n9⟩:=g9.keep D _ d7 n7;have rs9:=RlAll.mono g9.pre (g9.ku ok7) ws zs rs7;have en9:=en8.mono g9.pre (g9.ku ok7);have u9:Gu as5 H5 as9 H9:=⟨(u6.pre.trans g7.pre).trans g9.pre,(u6.kp.trans (g7.ku ok6)).trans (g9.ku ok7)⟩
    refine i4 (fun q=>?_) (fun q=>?_) q
    ·refine⟨as9,ρ8,S9,ok9,en9,me _ _ _ _ (fun y Sa q asa Ha v ga oka rv=>?_) q⟩;obtain⟨da,na⟩:=ga.keep D _ d9 n9;have rsa:=RlAll.mono ga.pre (ga.ku ok9) ws zs rs9;have kd:KeepU Ha (upd Ha D (.lst (zs++[v]))):=Am da rfl;refine⟨da,by rw[rs6.length];exact CZ q.1,asa,Sa,ws++[y],ρ8,?_,⟨u9.pre.trans ga.pre,(u9.kp.trans (ga.ku ok9)).trans kd⟩,oka.other da na,na,f7,RlAll.mono (List.prefix_refl _) kd _ _ (rsa.append (.cons rv .nil)),(en9.mono ga.pre (ga.ku ok9)).mono (List.prefix_refl _) kd,q.2⟩;have Ga:=((G6.trans g7).trans g9).trans ga;refine⟨Ga.pre,fun b o hb nb=>?_⟩;obtain⟨z1,z2⟩:=Ga.keep b o hb nb;exact⟨by rw[upd_ne (e8 hb hD)];exact z1,z2⟩
    ·exact⟨as9,S9,ws,ρ8,(G6.trans g7).trans g9,u9,ok9,n9,d9,rs9,en9,q⟩
   ·left;have hi2:i'=xs2.length:=by omega
    subst hi2;rw[List.drop_length]at h;unfold u4 at h;obtain⟨kp,h⟩:=h;obtain⟨_,w2⟩:=W2 as6 H6 S6 u6 ok6 kp;exact⟨w2,as6,S6,ws,G6,ok6,n6,d6,rs6,h⟩
  ·exact⟨as4,S4,ys,(g2.trans g3).trans g4,ok4,n4,d4,rs4,q⟩
 ·left;have hi':i=xs.length:=by omega
  subst hi';rw[List.drop_length]at h;unfold r6 at h;obtain⟨kp,h⟩:=h;obtain⟨_,w2⟩:=W as2 H2 S2 (g2.gu ok1) ok2 kp;refine⟨w2,h (as2++[D]) H2 (.ref D) ?_ (ok2.adopt n2 d2 rs) (rl_loc.mpr ⟨D,by rw[<-ok2.len,List.getElem?_concat_length],rfl⟩)⟩;refine⟨(g1.pre.trans g2.pre).trans (List.prefix_append _ _),fun b o hb nb=>?_⟩;obtain⟨h1,n1⟩:=g1.keep b o hb nb;obtain⟨h2,n2'⟩:=g2.keep b o h1 n1;refine⟨h2,?_⟩;rw[List.mem_append,List.mem_singleton];rintro(z | z)
  ·exact n2' z
  ·exact e8 h1 hD z
theorem Ok.adoptO{K:PySem.W.Frag}{as:List Addr}{H:Hp}{S:Sto}{D:Addr}{x:SO}(h:Ok K as H S)(n:D∉as)(r:RlO K (as++[D]) H D x):Ok K (as++[D]) H (S++[x]):=by
 have pre:as <+: as++[D]:=List.prefix_append _ _;refine⟨by rw[List.length_append,List.length_append,h.len];rfl,?_,fun k o a e ea=>?_⟩
 ·rw[List.nodup_append];refine⟨h.nd,by simp,fun a ha b hb=>?_⟩;rw[List.mem_singleton.mp hb];intro z;subst z;exact n ha
 ·by_cases hk:k<S.length
  ·rw[List.getElem?_append_left hk]at e;rw[List.getElem?_append_left (by rw[h.len];exact hk)]at ea;exact(h.obj k o a e ea).mono pre (KeepU.refl _) fun _ z=>z
  ·have hk':k=S.length:=by
    have:=(gM e).1;rw[List.length_append,List.length_singleton]at this;omega
   subst hk';rw[List.getElem?_concat_length]at e;rw[<-h.len,List.getElem?_concat_length]at ea;cases e;cases ea;exact r
theorem Ok.otherO{K:PySem.W.Frag}{as:List Addr}{H:Hp}{S:Sto}(h:Ok K as H S){b:Addr}{u v:HO}(hb:H b=some u)(hi:imm u=false)(n:b∉as):Ok K as (upd H b v) S:=⟨h.len,h.nd,fun k o a e ea=>(h.obj k o a e ea).mono (List.prefix_refl as) (Am hb hi) fun ws hw=>by
 rw[upd_ne (fun z=>n (by rw[<-z];exact List.mem_of_getElem? ea))];exact hw⟩
theorem Bv{keep:Sto->Prop}{g:Tg}{t:WT}{e f:WE}{ρ:EnvS}(mt:MonoT t)(me:Mono e)(mf:Mono f){Q Q':List (Int×SV)->Sto->Prop}(i:∀ ys S,Q ys S->Q' ys S):∀(xs:List SV) (ys:List (Int×SV)) (S:Sto),v6 keep g t e f ρ Q xs ys S->v6 keep g t e f ρ Q' xs ys S
 | [],ys,S,h=>by unfold v6 at h ⊢;exact⟨h.1,i _ _ h.2⟩
 | x::xs,ys,S,h=>by
   unfold v6 at h ⊢;refine⟨h.1,j6 g (fun ρ2 q=>mt _ _ _ _ (fun b S1 q=>i4 (fun q=>me _ _ _ _ (fun y S2 q=>mf _ _ _ _ (fun z S3 ⟨j,a,b,c⟩=>⟨j,a,b,Bv mt me mf i xs _ _ c⟩) q) q) (fun q=>Bv mt me mf i xs _ _ q) q) q) h.2⟩
theorem Mono.dcomp{k:Nat}{js:List Nat}{g:Tg}{i:WI}{t:WT}{e f:WE}(mi:MonoI i)(mt:MonoT t)(me:Mono e)(mf:Mono f):Mono (Ff k js g i t e f):=fun ρ S P P' im h=>mi _ _ _ _ (fun keep xs S1 h=>Bv mt me mf (fun ys S2 q=>im _ _ q) xs [] S1 h) h
theorem F9{K:PySem.W.Frag}{k:Nat}{js:List Nat}{g:Tg}{i:WI}{t:WT}{e f:WE}(mi:MonoI i)(mt:MonoT t)(me:Mono e)(mf:Mono f):∀ σ H Q,lift K (Ff k js g i t e f) σ H Q->Iw (liftI K i) (AY K g) (liftT K t) (lift K e) (lift K f) k js σ H Q:=by
 rintro σ H Q ⟨as,ρ,S,ok,en,h⟩;refine⟨as,ρ,S,ok,en,mi _ _ _ _ (fun keep xs S1 h as1 H1 J g1 ok1 W=>?_) h⟩;intro D hD;have Dn:D∉as1:=ok1.free hD
 refine⟨fun i m ks H2=>m=xs.length - i/\i<=xs.length/\∃ as2 S2 kvs,Go as1 H1 as2 H2/\Ok K as2 H2 S2/\D∉as2/\H2 D=some (.dK ks)/\RlD K as2 H2 ks kvs/\
  v6 keep g t e f (Ad k js ρ) (fun kvs S2=>Post K as H Q (.loc S2.length) (S2++[.dct kvs])) (xs.drop i) kvs S2,⟨xs.length,by simp,Nat.zero_le _,as1,S1,[],Go.new hD,ok1.new hD,Dn,f7,rfl,h⟩,?_⟩
 rintro i m ks H2 ⟨rfl,hi,as2,S2,kvs,g2,ok2,n2,d2,rs,h⟩;by_cases hlt:i<xs.length
 ·right;rw[List.drop_eq_getElem_cons hlt]at h;unfold v6 at h;obtain⟨kp,h⟩:=h;obtain⟨w1,_⟩:=W as2 H2 S2 (g2.gu ok1) ok2 kp;obtain⟨go,yl⟩:=w1 i xs[i] (List.getElem?_eq_getElem hlt)
  refine⟨go,fun ks' H'=>∃ as2 S2 kvs,Go as1 H1 as2 H'/\Ok K as2 H' S2/\D∉as2/\H' D=some (.dK ks')/\RlD K as2 H' ks' kvs/\
   v6 keep g t e f (Ad k js ρ) (fun kvs S2=>Post K as H Q (.loc S2.length) (S2++[.dct kvs])) (xs.drop (i+1)) kvs S2,fun vs' H' z=>⟨xs.length - (i+1),by omega,rfl,hlt,z⟩,fun x H3 y3=>?_⟩
  obtain⟨g3,ok3,rx⟩:=yl x H3 y3;have en3:EnvOk K as2 H3 (Ac k js σ) (Ad k js ρ):=((en.mono g1.pre (g1.ku ok)).mono (g2.trans g3).pre ((g2.trans g3).ku ok1)).cap k js;have rs3:=RlD.mono g3.pre (g3.ku ok2) kvs ks rs;obtain⟨d3,n3⟩:=g3.keep D _ d2 n2;refine⟨as2,Ad k js ρ,S2,_,ok3,en3,rx,j6 g (fun ρ2 q σ2 en2=>?_) h⟩;refine⟨as2,ρ2,S2,ok3,en2,mt _ _ _ _ (fun b S4 q as4 H4 g4 ok4=>?_) q⟩;obtain⟨d4,n4⟩:=g4.keep D _ d3 n3;have rs4:=RlD.mono g4.pre (g4.ku ok3) kvs ks rs3;refine i4 (fun q=>?_) (fun q=>?_) q
  ·refine⟨as4,ρ2,S4,ok4,en2.mono g4.pre (g4.ku ok3),me _ _ _ _ (fun y S5 q as5 H5 kv g5 ok5 rk=>?_) q⟩;obtain⟨d5,n5⟩:=g5.keep D _ d4 n4;have rs5:=RlD.mono g5.pre (g5.ku ok4) kvs ks rs4;refine⟨as5,ρ2,S5,ok5,(en2.mono g4.pre (g4.ku ok3)).mono g5.pre (g5.ku ok4),mf _ _ _ _ (fun z S6 ⟨j,ey,hb,q6⟩ as6 H6 v g6 ok6 rv=>?_) q⟩;subst ey;obtain rfl:=rl_int.mp rk;obtain⟨d6,n6⟩:=g6.keep D _ d5 n5;have rs6:=RlD.mono g6.pre (g6.ku ok5) kvs ks rs5;refine⟨.inl j,rfl,d6,by rw[rs.length];exact CZ hb,as6,S6,Az kvs j z,?_,ok6.otherO d6 rfl n6,n6,f7,?_,q6⟩
   ·refine⟨((((g2.trans g3).trans g4).trans g5).trans g6).pre,fun b o hb nb=>?_⟩;obtain⟨z1,z2⟩:=((((g2.trans g3).trans g4).trans g5).trans g6).keep b o hb nb;exact⟨by rw[upd_ne (e8 hb hD)];exact z1,z2⟩
   ·exact RlD.mono (List.prefix_refl _) (Am d6 rfl) _ _ (rs6.put rv j)
  ·exact⟨as4,S4,kvs,(g2.trans g3).trans g4,ok4,n4,d4,rs4,q⟩
 ·left;have hi':i=xs.length:=by omega
  subst hi';rw[List.drop_length]at h;unfold v6 at h;obtain⟨kp,h⟩:=h;obtain⟨_,w2⟩:=W as2 H2 S2 (g2.gu ok1) ok2 kp;refine⟨w2,h (as2++[D]) H2 (.ref D) ?_ (ok2.adoptO n2 ⟨ks,d2,RlD.mono (List.prefix_append _ _) (KeepU.refl _) _ _ rs⟩) (rl_loc.mpr ⟨D,by rw[<-ok2.len,List.getElem?_concat_length],rfl⟩)⟩;refine⟨(g1.pre.trans g2.pre).trans (List.prefix_append _ _),fun b o hb nb=>?_⟩;obtain⟨h1,n1⟩:=g1.keep b o hb nb;obtain⟨h2,n2'⟩:=g2.keep b o h1 n1;refine⟨h2,?_⟩;rw[List.mem_append,List.mem_singleton];rintro(z | z)
  ·exact n2' z
  ·exact e8 h1 hD z
theorem Bw{keep:Sto->Prop}{g:Tg}{t:WT}{e:WE}{ρ:EnvS}(mt:MonoT t)(me:Mono e){Q Q':List Int->Sto->Prop}(i:∀ ys S,Q ys S->Q' ys S):∀(xs:List SV) (ys:List Int) (S:Sto),v7 keep g t e ρ Q xs ys S->v7 keep g t e ρ Q' xs ys S
 | [],ys,S,h=>by unfold v7 at h ⊢;exact⟨h.1,i _ _ h.2⟩
 | x::xs,ys,S,h=>by
   unfold v7 at h ⊢;refine⟨h.1,j6 g (fun ρ2 q=>mt _ _ _ _ (fun b S1 q=>i4 (fun q=>me _ _ _ _ (fun y S2 ⟨j,a,b,c⟩=>⟨j,a,b,Bw mt me i xs _ _ c⟩) q) (fun q=>Bw mt me i xs _ _ q) q) q) h.2⟩
theorem Mono.srtsc{k:Nat}{js:List Nat}{g:Tg}{i:WI}{t:WT}{e:WE}(mi:MonoI i)(mt:MonoT t)(me:Mono e):Mono (Fg k js g i t e):=fun ρ S P P' im h=>mi _ _ _ _ (fun keep xs S1 h=>Bw mt me (fun ys S2 q=>⟨q.1,im _ _ q.2⟩) xs [] S1 h) h
theorem Lk(ns:List Int)(i:Int):CL (ns++[i])=PyProof.Rows.step_dedup (CL ns) i:=by
 unfold CL;rw[List.length_append,List.length_singleton,PyProof.Rows.firstMet_succ];have e1:(ns++[i]).getD ns.length 0=i:=by simp
 have e2:PyProof.Rows.firstMet (fun j=>(ns++[i]).getD j 0) ns.length=PyProof.Rows.firstMet (fun j=>ns.getD j 0) ns.length:=by
  unfold PyProof.Rows.firstMet
  congr 1
  refine List.map_congr_left fun j hj=>?_;have hj:=List.mem_range.mp hj;simp[List.getElem?_append_left hj]
 rw[e1,e2]
theorem Ll{P:Program}{w:World}{K:PySem.W.Frag}{k:Nat}{js:List Nat}{g:Tg}{i:WI}{t:WT}{e:WE}(mi:MonoI i)(mt:MonoT t)(me:Mono e):∀ σ H Q,lift K (Fg k js g i t e) σ H Q->Jx P w (liftI K i) (AY K g) (liftT K t) (lift K e) k js σ H Q:=by
 rintro σ H Q ⟨as,ρ,S,ok,en,h⟩;refine⟨as,ρ,S,ok,en,mi _ _ _ _ (fun keep xs S1 h as1 H1 J g1 ok1 W=>?_) h⟩;intro D hD;have Dn:D∉as1:=ok1.free hD
 refine⟨fun i m L H2=>m=xs.length - i/\i<=xs.length/\∃ as2 S2 ns o,Go as1 H1 as2 H2/\Ok K as2 H2 S2/\D∉as2/\H2 D=some (hoS o L)/\SetXO P w o L/\L=CL ns/\
  v7 keep g t e (Ad k js ρ) (fun ns S2=>ns.length<64/\Post K as H Q (.loc S2.length) (S2++[.lst ((srt (CL ns)).map SV.int)])) (xs.drop i) ns S2,⟨xs.length,fun o xo=>⟨by simp,Nat.zero_le _,as1,S1,[],o,Go.new hD,ok1.new hD,Dn,f7,xo,rfl,h⟩⟩,?_⟩
 rintro i m L H2 ⟨rfl,hi,as2,S2,ns,o,g2,ok2,n2,d2,xo,rfl,h⟩;by_cases hlt:i<xs.length
 ·right;rw[List.drop_eq_getElem_cons hlt]at h;unfold v7 at h;obtain⟨kp,h⟩:=h;obtain⟨w1,_⟩:=W as2 H2 S2 (g2.gu ok1) ok2 kp;obtain⟨go,yl⟩:=w1 i xs[i] (List.getElem?_eq_getElem hlt)
  refine⟨go,fun L' H'=>∃ as2 S2 ns o,Go as1 H1 as2 H'/\Ok K as2 H' S2/\D∉as2/\H' D=some (hoS o L')/\SetXO P w o L'/\L'=CL ns/\
   v7 keep g t e (Ad k js ρ) (fun ns S2=>ns.length<64/\Post K as H Q (.loc S2.length) (S2++[.lst ((srt (CL ns)).map SV.int)])) (xs.drop (i+1)) ns S2,fun vs' H' z=>⟨xs.length - (i+1),by omega,rfl,hlt,z⟩,fun x H3 y3=>?_⟩
  obtain⟨g3,ok3,rx⟩:=yl x H3 y3;have en3:EnvOk K as2 H3 (Ac k js σ) (Ad k js ρ):=((en.mono g1.pre (g1.ku ok)).mono (g2.trans g3).pre ((g2.trans g3).ku ok1)).cap k js;obtain⟨d3,n3⟩:=g3.keep D _ d2 n2;refine⟨as2,Ad k js ρ,S2,_,ok3,en3,rx,j6 g (fun ρ2 q σ2 en2=>?_) h⟩;refine⟨as2,ρ2,S2,ok3,en2,mt _ _ _ _ (fun b S4 q as4 H4 g4 ok4=>?_) q⟩;obtain⟨d4,n4⟩:=g4.keep D _ d3 n3;refine i4 (fun q=>?_) (fun q=>?_) q
  ·refine⟨as4,ρ2,S4,ok4,en2.mono g4.pre (g4.ku ok3),me _ _ _ _ (fun y S5 ⟨j,ey,hb,q5⟩ as5 H5 kv g5 ok5 rk=>?_) q⟩;subst ey;obtain rfl:=rl_int.mp rk;obtain⟨d5,n5⟩:=g5.keep D _ d4 n4;refine⟨j,o,rfl,xo,d5,Nat.le_trans (PyProof.Rows.firstMet_length_le _ _) (Nat.le_of_lt hb),fun o' xo'=>⟨as5,S5,ns++[j],o',?_,ok5.otherO d5 rfl n5,n5,f7,xo',(Lk ns j).symm,q5⟩⟩;refine⟨(((g2.trans g3).trans g4).trans g5).pre,fun b o hb nb=>?_⟩;obtain⟨z1,z2⟩:=(((g2.trans g3).trans g4).trans g5).keep b o hb nb;exact⟨by rw[upd_ne (e8 hb hD)];exact z1,z2⟩
  ·exact⟨as4,S4,ns,o,(g2.trans g3).trans g4,ok4,n4,d4,xo,rfl,q⟩
 ·left;have hi':i=xs.length:=by omega
  subst hi';rw[List.drop_length]at h;unfold v7 at h;obtain⟨kp,hl,h⟩:=h;obtain⟨_,w2⟩:=W as2 H2 S2 (g2.gu ok1) ok2 kp;refine⟨w2,CL ns,o,xo,d2,Nat.lt_of_le_of_lt (PyProof.Rows.firstMet_length_le _ _) hl,?_⟩;exact AW ok2 RlAll.ints (h.mono (g1.trans g2))
theorem HH{scope sc:Scope}{x:Str}(h:scope.names.lookup x=some .local):(A9 scope sc).names.lookup x=some .local:=by
 have go:∀ l:List (Str×NameKind),l.lookup x=some .local->(l.map fun(n,k)=>if (k == .free&&sc.kind == .function&&sc.names.lookup n == some .cell) then (n,.cell) else (n,k)).lookup x=some .local:=by
  intro l
  induction l with
  | nil=>intro h;cases h
  | cons a r ih=>
    obtain⟨n,k⟩:=a;intro h;rw[List.lookup_cons]at h;rw[List.map_cons];cases hb:x == n with
    | true=>
      rw[hb]at h;have:k = .local:=oj h;subst this;show List.lookup x ((n,NameKind.local)::_)=_;rw[List.lookup_cons,hb]
    | false=>
      rw[hb]at h
      have e:∀ k',List.lookup x ((n,k')::(r.map fun(n,k)=>if (k == .free&&sc.kind == .function&&sc.names.lookup n == some .cell) then (n,.cell) else (n,k)))=some .local:=fun k'=>by
       rw[List.lookup_cons,hb];exact ih h
      show List.lookup x ((if (k == .free&&sc.kind == .function&&sc.names.lookup n == some .cell)=true then (n,NameKind.cell) else (n,k))::_)=_;split<;>exact e _
 exact go _ h
theorem Cok.comp{T:List Str}{Δ:Nat->Sn}{X:Cx}{k:Nat}{N:List Str}{sc scope:Scope}{own cn:List Str}{js:List Nat}(C:Cok T Δ X k N sc)(hok:j2 sc scope own cn N js=true)(s2:Shared)(H2:Hp)(cs:List (Str×Addr))(A:Addr)(fp:List Addr):Cok T Δ (c6 X scope (own++cn) s2 H2 cs A fp) own.length (own++cn) (A9 scope sc) where
 hN:=rfl
 hs:=by rw[<-C.hs];rfl
 nd:=by
  unfold j2 at hok;simp only[Bool.and_eq_true,decide_eq_true_eq]at hok;exact hok.1.2
 calm:=C.calm
 fn:=fun i x hi hx hc=>by
  unfold j2 at hok;simp only[Bool.and_eq_true,decide_eq_true_eq,List.all_eq_true,Bool.or_eq_true]at hok
  have hm:x∈own:=by
   rw[List.getElem?_append_left hi]at hx;exact List.mem_of_getElem? hx
  show(scope.names.lookup x == some .cell)=true;rcases hok.1.1.1.2 x hm with h | h
  ·rw[HH h]at hc;cases hc
  ·rw[h];rfl
 un:=C.un
 bl:=C.bl
 rng:=C.rng
 enm:=C.enm
 zip:=C.zip
 st0:=C.st0
 dc0:=C.dc0
 ty:=C.ty
 gd:=C.gd
 call:=C.call
 mono:=C.mono
theorem j5{r:Expr}(h:m5 r=true){env:Env}:∀ x,foldedSetIterable r env x=pure x:=fun x=>by cases r<;>first | rfl | cases h
theorem C7{T N:List Str}{sc:Scope}:∀{es:Exs} {rs:List Expr},BG T N sc es rs=true->rs.all f9=true
 | .nil,rs,h=>by unfold BG at h;rw[List.isEmpty_iff]at h;subst h;rfl
 | .cons e es,rs,h=>by
   unfold BG at h;replace h:=a7 h;obtain⟨x,hx,h⟩:=h;simp only[Bool.and_eq_true]at h;rw[B0 hx,List.all_cons,h.1.2,C7 h.2];rfl
theorem Tz{X:Cx}{i:Nat}{x:Str}{p:Pos}{N:List Str}{sc:Scope}{T:List Str}{Δ:Nat->Sn}{k:Nat}(C:Cok T Δ X k N sc)(h:nmB N sc i x=true):PE X (.Name x p) (PR i):=by
 unfold nmB at h;simp only[Bool.and_eq_true,decide_eq_true_eq,Bool.not_eq_true']at h;exact Tp C h.1.1.1 h.1.1.2 h.1.2 h.2
theorem Jz{α:Type}{l:List α}(h:(!l.isEmpty)=true):∃ y ys,l=y::ys:=by
 cases l with
 | nil=>cases h
 | cons y ys=>exact⟨y,ys,rfl⟩
theorem U0{X:Cx}{c:Expr}{a:WE×WT}(h:Good X c a):Ai X [c] (liftT X.K a.2):=Mp h.pt
theorem OF{X:Cx}:Ai X [] (liftT X.K VQ):=fun pins s σ H Q I hw=>Mo pins s σ H Q I (let ⟨as,ρ,S,ok,en,h⟩:=hw;h as H (Go.refl _ _) ok)
theorem Iy{T:List Str}{Δ:Nat->Sn}{X:Cx}{k:Nat}{N:List Str}{sc scope:Scope}{own cn:List Str}{js:List Nat}{tg ri re:Expr}{ifs:List Expr}{p:Pos}{g:Tg}{i:WI}{t:WT}{e:WE×WT}(C:Cok T Δ X k N sc)(hok:j2 sc scope own cn N js=true)(hi:GoodI X tg ri i)
 (hg:∀ s2 H2 cs A fp,PG (c6 X scope (own++cn) s2 H2 cs A fp) tg (AY X.K g)) (ht:∀ s2 H2 cs A fp,Ai (c6 X scope (own++cn) s2 H2 cs A fp) ifs (liftT X.K t)) (mt:MonoT t) (he:∀ s2 H2 cs A fp,PE (c6 X scope (own++cn) s2 H2 cs A fp) re (lift X.K e.1)) (me:Mono e.1) (hn:m5 ri=true):
 Good X (.ListComp re [⟨tg,ri,ifs,0⟩] scope p) (tt1 (Jo own.length js g i t e.1)):=
 .one (i5 _ (Pn own cn js hi.pi hg ht he C.calm (by rw[C.hs,C.hN];exact hok) (j5 hn)) (HG hi.m mt me)) (.comp hi.m mt me) rfl
theorem HI{T:List Str}{Δ:Nat->Sn}{X:Cx}{k:Nat}{N:List Str}{sc scope:Scope}{own cn:List Str}{js:List Nat}{tg ri re tg2 ri2:Expr}{ifs ifs2:List Expr}{p:Pos}{g g2:Tg}{i i2:WI}{t t2:WT}{e:WE×WT}(C:Cok T Δ X k N sc)(hok:j2 sc scope own cn N js=true)(hi:GoodI X tg ri i)
 (hg:∀ s2 H2 cs A fp,PG (c6 X scope (own++cn) s2 H2 cs A fp) tg (AY X.K g)) (ht:∀ s2 H2 cs A fp,Ai (c6 X scope (own++cn) s2 H2 cs A fp) ifs (liftT X.K t)) (mt:MonoT t) (hi2:∀ s2 H2 cs A fp,PI (c6 X scope (own++cn) s2 H2 cs A fp) tg2 ri2 (liftI X.K i2)) (mi2:MonoI i2)
 (hg2:∀ s2 H2 cs A fp,PG (c6 X scope (own++cn) s2 H2 cs A fp) tg2 (AY X.K g2)) (ht2:∀ s2 H2 cs A fp,Ai (c6 X scope (own++cn) s2 H2 cs A fp) ifs2 (liftT X.K t2)) (mt2:MonoT t2) (he:∀ s2 H2 cs A fp,PE (c6 X scope (own++cn) s2 H2 cs A fp) re (lift X.K e.1)) (me:Mono e.1) (hn:m5 ri=true) (hn2:m5 ri2=true):
 Good X (.ListComp re [⟨tg,ri,ifs,0⟩,⟨tg2,ri2,ifs2,0⟩] scope p) (tt1 (Fe own.length js g i t g2 i2 t2 e.1)):=
 .one (i5 _ (OE own cn js hi.pi hg ht hi2 hg2 ht2 he (fun _ _ _ _ _=>j5 hn2) C.calm (by rw[C.hs,C.hN];exact hok) (j5 hn)) (F8 hi.m mt mi2 mt2 me)) (.comp2 hi.m mt mi2 mt2 me) rfl
theorem HJ{T:List Str}{Δ:Nat->Sn}{X:Cx}{k:Nat}{N:List Str}{sc scope:Scope}{own cn:List Str}{js:List Nat}{tg ri re rf:Expr}{ifs:List Expr}{p:Pos}{g:Tg}{i:WI}{t:WT}{e f:WE×WT}(C:Cok T Δ X k N sc)(hok:j2 sc scope own cn N js=true)(hi:GoodI X tg ri i)
 (hg:∀ s2 H2 cs A fp,PG (c6 X scope (own++cn) s2 H2 cs A fp) tg (AY X.K g)) (ht:∀ s2 H2 cs A fp,Ai (c6 X scope (own++cn) s2 H2 cs A fp) ifs (liftT X.K t)) (mt:MonoT t) (he:∀ s2 H2 cs A fp,PE (c6 X scope (own++cn) s2 H2 cs A fp) re (lift X.K e.1)) (me:Mono e.1) (hf:∀ s2 H2 cs A fp,PE (c6 X scope (own++cn) s2 H2 cs A fp) rf (lift X.K f.1)) (mf:Mono f.1) (hn:m5 ri=true):
 Good X (.DictComp re rf [⟨tg,ri,ifs,0⟩] scope p) (tt1 (Ff own.length js g i t e.1 f.1)):=
 .one (i5 _ (O9 own cn js hi.pi hg ht he hf C.calm (by rw[C.hs,C.hN];exact hok) (j5 hn)) (F9 hi.m mt me mf)) (.dcomp hi.m mt me mf) rfl
theorem HK{T:List Str}{Δ:Nat->Sn}{X:Cx}{k:Nat}{N:List Str}{sc scope:Scope}{own cn:List Str}{js:List Nat}{tg ri re:Expr}{ifs:List Expr}{p p1 q1:Pos}{g:Tg}{i:WI}{t:WT}{e:WE×WT}(C:Cok T Δ X k N sc)(hgl:glo sc "sorted"=true)(hok:j2 sc scope own cn N js=true)(hi:GoodI X tg ri i)
 (hg:∀ s2 H2 cs A fp,PG (c6 X scope (own++cn) s2 H2 cs A fp) tg (AY X.K g)) (ht:∀ s2 H2 cs A fp,Ai (c6 X scope (own++cn) s2 H2 cs A fp) ifs (liftT X.K t)) (mt:MonoT t) (he:∀ s2 H2 cs A fp,PE (c6 X scope (own++cn) s2 H2 cs A fp) re (lift X.K e.1)) (me:Mono e.1) (hn:m5 ri=true):
 Good X (.Call (.Name "sorted" p1) [.SetComp re [⟨tg,ri,ifs,0⟩] scope p] [] q1) (tt1 (Fg own.length js g i t e.1)):=by
 unfold glo at hgl;simp only[Bool.and_eq_true,beq_iff_eq,Bool.not_eq_true']at hgl;have gl:Gl X "sorted":=by show X.env.scope.names.lookup ("sorted":Str)=_;rw[C.hs];exact hgl.1.1
 exact .one (i5 _ (La own cn js hi.pi hg ht he C.calm (by rw[C.hs,C.hN];exact hok) (j5 hn) gl (C.bl .sorted) rfl rfl) (Ll hi.m mt me)) (.srtsc hi.m mt me) rfl
mutual
theorem c4{T:List Str}{Δ:Nat->Sn}:∀(e:Ex) (r:Expr) {X:Cx} {k:Nat} {N:List Str} {sc:Scope},Cok T Δ X k N sc->i9 T N sc e r=true->Good X r (wEx Δ e)
 | .var i,r,X,k,N,sc,C,h=>by
   replace h:=a7 h;obtain⟨x,hx,h⟩:=h;obtain⟨p,rfl⟩:=Bs hx;exact .one (i5 _ (Tz C h) Q0) .var rfl
 | .c x,r,X,k,N,sc,C,h=>by
   replace h:=a7 h;obtain⟨x,hx,h⟩:=h;obtain⟨j,p,rfl⟩:=D9 hx;exact QT h
 | .op o a b,r,X,k,N,sc,C,h=>by
   replace h:=a7 h;obtain⟨v,hv,h⟩:=h;obtain⟨p,rfl⟩:=QM hv;simp only[Bool.and_eq_true,decide_eq_true_eq]at h;have ga:=c4 a _ C h.1.2;have gb:=c4 b _ C h.2;rw[<-h.1.1];exact .one (Nn ga.pe gb.pe ga.m gb.m) (.two Jq ga.m gb.m) rfl
 | .neg a,r,X,k,N,sc,C,h=>by
   replace h:=a7 h;obtain⟨v,hv,h⟩:=h;obtain⟨p,rfl⟩:=Id hv;simp only[Bool.and_eq_true,decide_eq_true_eq]at h;rw[h.1];exact LM (c4 a _ C h.2)
 | .cmp o a b,r,X,k,N,sc,C,h=>by
   replace h:=a7 h;obtain⟨v,hv,h⟩:=h;replace h:=a7 h;obtain⟨rb,hb,h⟩:=h;obtain⟨p,rfl⟩:=DW hv;simp only[Bool.and_eq_true,decide_eq_true_eq]at h;obtain⟨⟨⟨h0,h1⟩,h2⟩,h3⟩:=h;rw[h0,A0 hb];have ga:=c4 a _ C h1;have gb:=c4 b _ C h2;have:=C.un;exact LF (by omega) ga.pe gb.pe ga.m gb.m h3
 | .chn o p a b c,r,X,k,N,sc,C,h=>by
   replace h:=a7 h;obtain⟨v,hv,h⟩:=h;replace h:=a7 h;obtain⟨rs,hb,h⟩:=h;obtain⟨p,rfl⟩:=DW hv;simp only[Bool.and_eq_true,decide_eq_true_eq]at h;obtain⟨⟨⟨⟨h0,h1⟩,h2⟩,h3⟩,h4⟩:=h;rw[h0,Nj hb];have ga:=c4 a _ C h1;have gb:=c4 b _ C h2;have gc:=c4 c _ C h3;have:=C.un;exact LG (by omega) ga.pe gb.pe gc.pe ga.m gb.m gc.m h4
 | .and a b,r,X,k,N,sc,C,h=>by
   replace h:=a7 h;obtain⟨v,hv,h⟩:=h;have e:=Gj hv;subst e;rw[Bool.and_eq_true,decide_eq_true_eq]at h;obtain⟨h0,h⟩:=h;replace h:=a7 h;obtain⟨x,hx,h⟩:=h;rw[Bool.and_eq_true]at h;have ga:=c4 a _ C h.1;rw[h0,B0 hx];have h2:=h.2;generalize v.2.1.tail=tl at h2;cases hl:l1 tl with
   | some y=>
     rw[hl]at h2;rw[A0 hl];exact Ie ga (c4 b _ C h2)
   | none=>
     rw[hl]at h2;rw[Bool.and_eq_true,decide_eq_true_eq]at h2;have gb:=c4 b _ C h2.2
     match tl,h2,gb with
     | y::z::zs,h2,gb=>exact Ig ga gb
     | [],h2,_=>exact absurd h2.1 (by simp)
     | [_],h2,_=>exact absurd h2.1 (by simp)
 | .or a b,r,X,k,N,sc,C,h=>by
   replace h:=a7 h;obtain⟨v,hv,h⟩:=h;have e:=Gj hv;subst e;rw[Bool.and_eq_true,decide_eq_true_eq]at h;obtain⟨h0,h⟩:=h;replace h:=a7 h;obtain⟨x,hx,h⟩:=h;rw[Bool.and_eq_true]at h;have ga:=c4 a _ C h.1;rw[h0,B0 hx];have h2:=h.2;generalize v.2.1.tail=tl at h2;cases hl:l1 tl with
   | some y=>
     rw[hl]at h2;rw[A0 hl];exact LH ga (c4 b _ C h2)
   | none=>
     rw[hl]at h2;rw[Bool.and_eq_true,decide_eq_true_eq]at h2;have gb:=c4 b _ C h2.2
     match tl,h2,gb with
     | y::z::zs,h2,gb=>exact LJ ga gb
     | [],h2,_=>exact absurd h2.1 (by simp)
     | [_],h2,_=>exact absurd h2.1 (by simp)
 | .not a,r,X,k,N,sc,C,h=>by
   replace h:=a7 h;obtain⟨v,hv,h⟩:=h;obtain⟨p,rfl⟩:=Id hv;simp only[Bool.and_eq_true,decide_eq_true_eq]at h;rw[h.1];exact LK (c4 a _ C h.2)
 | .ife t a b,r,X,k,N,sc,C,h=>by
   replace h:=a7 h;obtain⟨v,hv,h⟩:=h;obtain⟨p,rfl⟩:=QN hv;simp only[Bool.and_eq_true]at h;exact LL (c4 t _ C h.1.1) (c4 a _ C h.1.2) (c4 b _ C h.2)
 | .tup es,r,X,k,N,sc,C,h=>by
   replace h:=a7 h;obtain⟨v,hv,h⟩:=h;obtain⟨j,p,rfl⟩:=DX hv;exact LP (An es _ C h)
 | .lst es,r,X,k,N,sc,C,h=>by
   replace h:=a7 h;obtain⟨v,hv,h⟩:=h;obtain⟨p,rfl⟩:=QO hv;exact LQ (An es _ C h)
 | .ix a b,r,X,k,N,sc,C,h=>by
   replace h:=a7 h;obtain⟨v,hv,h⟩:=h;obtain⟨p,rfl⟩:=BS hv;simp only[Bool.and_eq_true]at h;exact Nq (c4 a _ C h.1.1) (c4 b _ C h.1.2) h.2
 | .slc a lo hi,r,X,k,N,sc,C,h=>by
   replace h:=a7 h;obtain⟨v,hv,h⟩:=h;replace h:=a7 h;obtain⟨w,hw,h⟩:=h;obtain⟨p,rfl⟩:=BS hv;obtain⟨p2,ew⟩:=Jp hw;simp only[Bool.and_eq_true]at h;have hl:=HL lo _ C h.1.1.2;have hh:=HL hi _ C h.1.2;rw[ew,Option.isNone_iff_eq_none.mp h.2];exact LN (c4 a _ C h.1.1.1) hl.1 hh.1 hl.2 hh.2
 | .call f es,r,X,k,N,sc,C,h=>by
   replace h:=a7 h;obtain⟨v,hv,h⟩:=h;obtain⟨p,q,rfl⟩:=BT hv;simp only[Bool.and_eq_true,decide_eq_true_eq]at h;obtain⟨⟨⟨h1,h2⟩,h3⟩,h4⟩:=h;obtain⟨y,ys,e⟩:=Jz h4;have st:=C7 h3;have g:=An es _ C h3;rw[e]at st g ⊢;rw[List.all_cons,Bool.and_eq_true]at st;exact Ii C h1 h2 g st.1 st.2
 | .bi b es,r,X,k,N,sc,C,h=>by
   replace h:=a7 h;obtain⟨v,hv,h⟩:=h;obtain⟨p,q,rfl⟩:=BT hv;simp only[Bool.and_eq_true,decide_eq_true_eq]at h;obtain⟨⟨⟨h1,h2⟩,h3⟩,h4⟩:=h;obtain⟨y,ys,e⟩:=Jz h4;have st:=C7 h3;have g:=An es _ C h3;rw[e]at st g ⊢;rw[List.all_cons,Bool.and_eq_true]at st;rw[<-h1]at h2 ⊢;exact Nu C h2 g st.1 st.2
 | .mt m a es,r,X,k,N,sc,C,h=>by
   replace h:=a7 h;obtain⟨v,hv,h⟩:=h;obtain⟨ap,cp,rfl,hl⟩:=Tm hv;simp only[Bool.and_eq_true,decide_eq_true_eq]at h;obtain⟨⟨⟨⟨h0,h1⟩,h3⟩,h4⟩,h5⟩:=h;have st:=C7 h5;have ga:=c4 a _ C h4;have gs:=An es _ C h5;rw[h0];generalize v.2.2=args at h3 h5 st gs ⊢;cases args with
   | nil=>
     cases es with
     | nil=>exact LR ga h1 hl
     | cons _ _=>rw[BG]at h5;cases h5
   | cons y ys=>
     rw[List.all_cons,Bool.and_eq_true]at st;exact Nw ga gs h1 hl h3 st.1 st.2
 | .comp own cn js g it t e,r,X,k,N,sc,C,h=>by
   replace h:=a7 h;obtain⟨v,hv,h⟩:=h;replace h:=a7 h;obtain⟨c,hc,h⟩:=h;obtain⟨p,rfl⟩:=Cr hv;simp only[Bool.and_eq_true,decide_eq_true_eq]at h;obtain⟨⟨⟨⟨⟨⟨h0,h1⟩,h2⟩,h3⟩,h4⟩,h5⟩,h6⟩:=h;have hI:=w6 it _ _ C h3;have hT:=fun s2 H2 cs A fp=>AI t _ (C.comp h1 s2 H2 cs A fp) h5;have hE:=fun s2 H2 cs A fp=>c4 e _ (C.comp h1 s2 H2 cs A fp) h6;rw[A0 hc];obtain⟨tg,ri,ifs,az⟩:=c;have h0:az=0:=h0;subst h0;exact Iy C h1 hI (fun s2 H2 cs A fp=>v8 (C.comp h1 s2 H2 cs A fp) g _ h2) (fun s2 H2 cs A fp=>(hT s2 H2 cs A fp).1) (hT X.s₀ X.H₀ [] 0 []).2 (fun s2 H2 cs A fp=>(hE s2 H2 cs A fp).pe) (hE X.s₀ X.H₀ [] 0 []).m h4
 | .comp2 own cn js g it t g2 it2 t2 e,r,X,k,N,sc,C,h=>by
   replace h:=a7 h;obtain⟨v,hv,h⟩:=h;replace h:=a7 h;obtain⟨c,hc,h⟩:=h;obtain⟨p,rfl⟩:=Cr hv;simp only[Bool.and_eq_true,decide_eq_true_eq]at h;obtain⟨⟨⟨⟨⟨⟨⟨⟨⟨⟨⟨h0,h0'⟩,h1⟩,h2⟩,h3⟩,h4⟩,h5⟩,h6⟩,h7⟩,h8⟩,h9⟩,ha⟩:=h;have hI:=w6 it _ _ C h3;have hT:=fun s2 H2 cs A fp=>AI t _ (C.comp h1 s2 H2 cs A fp) h5;have hI2:=fun s2 H2 cs A fp=>w6 it2 _ _ (C.comp h1 s2 H2 cs A fp) h7;have hT2:=fun s2 H2 cs A fp=>AI t2 _ (C.comp h1 s2 H2 cs A fp) h9;have hE:=fun s2 H2 cs A fp=>c4 e _ (C.comp h1 s2 H2 cs A fp) ha;rw[Nj hc];obtain⟨⟨tg,ri,ifs,az⟩,⟨tg2,ri2,ifs2,az2⟩⟩:=c;have h0:az=0:=h0;have h0':az2=0:=h0';subst h0;subst h0';exact HI C h1 hI (fun s2 H2 cs A fp=>v8 (C.comp h1 s2 H2 cs A fp) g _ h2) (fun s2 H2 cs A fp=>(hT s2 H2 cs A fp).1) (hT X.s₀ X.H₀ [] 0 []).2 (fun s2 H2 cs A fp=>(hI2 s2 H2 cs A fp).pi) (hI2 X.s₀ X.H₀ [] 0 []).m (fun s2 H2 cs A fp=>v8 (C.comp h1 s2 H2 cs A fp) g2 _ h6) (fun s2 H2 cs A fp=>(hT2 s2 H2 cs A fp).1) (hT2 X.s₀ X.H₀ [] 0 []).2 (fun s2 H2 cs A fp=>(hE s2 H2 cs A fp).pe) (hE X.s₀ X.H₀ [] 0 []).m h4 h8
 | .tyc t,r,X,k,N,sc,C,h=>by
   replace h:=a7 h;obtain⟨x,hx,h⟩:=h;obtain⟨p,rfl⟩:=Bs hx;simp only[Bool.and_eq_true,decide_eq_true_eq]at h;obtain⟨⟨rfl,h1⟩,h2⟩:=h;exact LS C h1 h2
 | .lrng1 a,r,X,k,N,sc,C,h=>by
   replace h:=a7 h;obtain⟨v,hv,h⟩:=h;replace h:=a7 h;obtain⟨z,hz,h⟩:=h;replace h:=a7 h;obtain⟨u,hu,h⟩:=h;replace h:=a7 h;obtain⟨ra,hra,h⟩:=h;obtain⟨p,q,rfl⟩:=BT hv;obtain⟨p2,q2,rfl⟩:=BT hu;simp only[Bool.and_eq_true,decide_eq_true_eq]at h;obtain⟨⟨⟨⟨⟨e1,e2⟩,h1⟩,h2⟩,h3⟩,h4⟩:=h;rw[A0 hz,A0 hra,e1,e2];rw[e1]at h1;rw[e2]at h2;exact Gr C h1 h2 (c4 a _ C h3) h4
 | .rev a,r,X,k,N,sc,C,h=>by
   replace h:=a7 h;obtain⟨v,hv,h⟩:=h;replace h:=a7 h;obtain⟨w,hw,h⟩:=h;obtain⟨p,rfl⟩:=BS hv;obtain⟨p2,ew⟩:=Jp hw;rw[Bool.and_eq_true,Bool.and_eq_true]at h;obtain⟨⟨n1,n2⟩,h⟩:=h;replace h:=a7 h;obtain⟨st,hst,h⟩:=h;replace h:=a7 h;obtain⟨u,hu,h⟩:=h;obtain⟨p3,rfl⟩:=Id hu;rw[Bool.and_eq_true,decide_eq_true_eq]at h;obtain⟨e1,h⟩:=h;replace h:=a7 h;obtain⟨c,hc,h⟩:=h;obtain⟨j,p4,ec⟩:=D9 hc;rw[Bool.and_eq_true,decide_eq_true_eq]at h;rw[ew,Option.isNone_iff_eq_none.mp n1,Option.isNone_iff_eq_none.mp n2,hst,e1,ec,h.1];exact LU (c4 a _ C h.2)
 | .max1 a,r,X,k,N,sc,C,h=>by
   replace h:=a7 h;obtain⟨v,hv,h⟩:=h;replace h:=a7 h;obtain⟨ra,hra,h⟩:=h;obtain⟨p,q,rfl⟩:=BT hv;simp only[Bool.and_eq_true,decide_eq_true_eq]at h;obtain⟨⟨⟨e1,h1⟩,h3⟩,h4⟩:=h;rw[e1]at h1;rw[A0 hra,e1];exact Ik C h1 (c4 a _ C h3) h4
 | .maxd a d,r,X,k,N,sc,C,h=>by
   replace h:=a7 h;obtain⟨⟨x,as,kw⟩,hv,h⟩:=h;replace h:=a7 h;obtain⟨ra,hra,h⟩:=h;obtain⟨p,q,rfl⟩:=QP hv;obtain⟨ka,kv,kp⟩:=kw;simp only[Bool.and_eq_true,decide_eq_true_eq]at h;obtain⟨⟨⟨⟨⟨e1,h1⟩,h3⟩,h5⟩,h4⟩,e2⟩:=h;subst e1;subst e2;rw[A0 hra];exact Il C h1 (c4 a _ C h3) (c4 d _ C h5) h4
 | .dcomp own cn js g it t e f,r,X,k,N,sc,C,h=>by
   replace h:=a7 h;obtain⟨v,hv,h⟩:=h;replace h:=a7 h;obtain⟨c,hc,h⟩:=h;obtain⟨p,rfl⟩:=F4 hv;simp only[Bool.and_eq_true,decide_eq_true_eq]at h;obtain⟨⟨⟨⟨⟨⟨⟨h0,h1⟩,h2⟩,h3⟩,h4⟩,h5⟩,h6⟩,h7⟩:=h;have hI:=w6 it _ _ C h3;have hT:=fun s2 H2 cs A fp=>AI t _ (C.comp h1 s2 H2 cs A fp) h5;have hE:=fun s2 H2 cs A fp=>c4 e _ (C.comp h1 s2 H2 cs A fp) h6;have hF:=fun s2 H2 cs A fp=>c4 f _ (C.comp h1 s2 H2 cs A fp) h7;rw[A0 hc];obtain⟨tg,ri,ifs,az⟩:=c;have h0:az=0:=h0;subst h0;exact HJ C h1 hI (fun s2 H2 cs A fp=>v8 (C.comp h1 s2 H2 cs A fp) g _ h2) (fun s2 H2 cs A fp=>(hT s2 H2 cs A fp).1) (hT X.s₀ X.H₀ [] 0 []).2 (fun s2 H2 cs A fp=>(hE s2 H2 cs A fp).pe) (hE X.s₀ X.H₀ [] 0 []).m (fun s2 H2 cs A fp=>(hF s2 H2 cs A fp).pe) (hF X.s₀ X.H₀ [] 0 []).m h4
 | .srtsc own cn js g it t e,r,X,k,N,sc,C,h=>by
   replace h:=a7 h;obtain⟨u,hu,h⟩:=h;replace h:=a7 h;obtain⟨z,hz,h⟩:=h;replace h:=a7 h;obtain⟨v,hv,h⟩:=h;replace h:=a7 h;obtain⟨c,hc,h⟩:=h;obtain⟨p1,q1,rfl⟩:=BT hu;obtain⟨p,rfl⟩:=LD hv;simp only[Bool.and_eq_true,decide_eq_true_eq]at h;obtain⟨⟨⟨⟨⟨⟨⟨⟨e1,hgl⟩,h0⟩,h1⟩,h2⟩,h3⟩,h4⟩,h5⟩,h6⟩:=h;have hI:=w6 it _ _ C h3;have hT:=fun s2 H2 cs A fp=>AI t _ (C.comp h1 s2 H2 cs A fp) h5;have hE:=fun s2 H2 cs A fp=>c4 e _ (C.comp h1 s2 H2 cs A fp) h6;rw[e1]at hgl;rw[A0 hz,e1,A0 hc];obtain⟨tg,ri,ifs,az⟩:=c;have h0:az=0:=h0;subst h0;exact HK C hgl h1 hI (fun s2 H2 cs A fp=>v8 (C.comp h1 s2 H2 cs A fp) g _ h2) (fun s2 H2 cs A fp=>(hT s2 H2 cs A fp).1) (hT X.s₀ X.H₀ [] 0 []).2 (fun s2 H2 cs A fp=>(hE s2 H2 cs A fp).pe) (hE X.s₀ X.H₀ [] 0 []).m h4
 | .eqt0 a b,r,X,k,N,sc,C,h=>by
   replace h:=a7 h;obtain⟨v,hv,h⟩:=h;replace h:=a7 h;obtain⟨rb,hb,h⟩:=h;obtain⟨p,rfl⟩:=DW hv;simp only[Bool.and_eq_true,decide_eq_true_eq]at h;obtain⟨⟨⟨h0,h1⟩,h2⟩,h3⟩:=h;rw[h0,A0 hb];have ga:=c4 a _ C h1;have gb:=c4 b _ C h2;have:=C.un;exact Io (by omega) ga.pe gb.pe ga.m gb.m h3
 | .dget a b,r,X,k,N,sc,C,h=>by
   replace h:=a7 h;obtain⟨v,hv,h⟩:=h;obtain⟨p,rfl⟩:=BS hv;simp only[Bool.and_eq_true]at h;have:=C.un;exact Im (by omega) (c4 a _ C h.1.1) (c4 b _ C h.1.2) h.2
 | .din n a b,r,X,k,N,sc,C,h=>by
   replace h:=a7 h;obtain⟨v,hv,h⟩:=h;replace h:=a7 h;obtain⟨rb,hb,h⟩:=h;obtain⟨p,rfl⟩:=DW hv;simp only[Bool.and_eq_true,decide_eq_true_eq]at h;obtain⟨⟨⟨h0,h1⟩,h2⟩,h3⟩:=h;rw[h0,A0 hb];have:=C.un;exact LV (by omega) (c4 a _ C h1) (c4 b _ C h2) h3
 | .no,r,X,k,N,sc,C,h => .never
theorem An{T:List Str}{Δ:Nat->Sn}:∀(es:Exs) (rs:List Expr) {X:Cx} {k:Nat} {N:List Str} {sc:Scope},Cok T Δ X k N sc->BG T N sc es rs=true->GoodA X rs (Gg Δ es)
 | .nil,rs,X,k,N,sc,C,h=>by
   rw[BG,List.isEmpty_iff]at h;subst h;exact LO
 | .cons e es,rs,X,k,N,sc,C,h=>by
   rw[BG]at h;replace h:=a7 h;obtain⟨x,hx,h⟩:=h;simp only[Bool.and_eq_true]at h;rw[B0 hx];exact Ih (c4 e _ C h.1.1) (An es _ C h.2) h.1.2
theorem HL{T:List Str}{Δ:Nat->Sn}:∀(o:Eo) (r:Option Expr) {X:Cx} {k:Nat} {N:List Str} {sc:Scope},Cok T Δ X k N sc->Nk T N sc o r=true->PO X r (Gq X.K (wEo Δ o).1)/\MonoO (wEo Δ o).1
 | .no,r,X,k,N,sc,C,h=>by
   rw[Nk]at h;rw[Option.isNone_iff_eq_none.mp h];exact⟨VW,.no⟩
 | .yes e,r,X,k,N,sc,C,h=>by
   rw[Nk]at h;replace h:=a7 h;obtain⟨x,hx,h⟩:=h;subst hx;exact⟨Tq (c4 e _ C h),.yes (c4 e _ C h).m⟩
theorem AI{T:List Str}{Δ:Nat->Sn}:∀(o:Eo) (rs:List Expr) {X:Cx} {k:Nat} {N:List Str} {sc:Scope},Cok T Δ X k N sc->Ba T N sc o rs=true->Ai X rs (liftT X.K (wEo Δ o).2)/\MonoT (wEo Δ o).2
 | .no,rs,X,k,N,sc,C,h=>by
   rw[Ba,List.isEmpty_iff]at h;subst h;exact⟨OF,fun _ _ _ _ i q=>i _ _ q⟩
 | .yes e,rs,X,k,N,sc,C,h=>by
   rw[Ba]at h;replace h:=a7 h;obtain⟨x,hx,h⟩:=h;rw[A0 hx];exact⟨U0 (c4 e _ C h),(c4 e _ C h).mt⟩
theorem w6{T:List Str}{Δ:Nat->Sn}:∀(it:Itb) (tg r:Expr) {X:Cx} {k:Nat} {N:List Str} {sc:Scope},Cok T Δ X k N sc->E3 T N sc it tg r=true->GoodI X tg r (Fh Δ it)
 | .seq e,tg,r,X,k,N,sc,C,h=>by
   exact LX (c4 e _ C h)
 | .rng1 a,tg,r,X,k,N,sc,C,h=>by
   replace h:=a7 h;obtain⟨v,hv,h⟩:=h;replace h:=a7 h;obtain⟨ra,hra,h⟩:=h;obtain⟨p,q,rfl⟩:=BT hv;simp only[Bool.and_eq_true,decide_eq_true_eq]at h;obtain⟨⟨⟨e1,h1⟩,h2⟩,h3⟩:=h;rw[e1]at h1;rw[A0 hra,e1];exact Iu C h1 (c4 a _ C h2) h3
 | .enum e,tg,r,X,k,N,sc,C,h=>by
   replace h:((LC tg).isSome&&(vFn r).any fun v=>(l1 v.2).any fun a=>decide (v.1=("enumerate":Str))&&glo sc v.1&&i9 T N sc e a&&f9 a)=true:=h;rw[Bool.and_eq_true]at h;obtain⟨ht,h⟩:=h;obtain⟨es,he⟩:=Option.isSome_iff_exists.mp ht;obtain⟨j,tp,rfl⟩:=DX he;replace h:=a7 h;obtain⟨v,hv,h⟩:=h;replace h:=a7 h;obtain⟨ra,hra,h⟩:=h;obtain⟨p,q,rfl⟩:=BT hv;simp only[Bool.and_eq_true,decide_eq_true_eq]at h;obtain⟨⟨⟨e1,h1⟩,h2⟩,h3⟩:=h;rw[e1]at h1;rw[A0 hra,e1];exact Ir C h1 (c4 e _ C h2) h3
 | .rngT a b,tg,r,X,k,N,sc,C,h=>by
   replace h:=a7 h;obtain⟨v,hv,h⟩:=h;replace h:=a7 h;obtain⟨ra,hra,h⟩:=h;replace h:=a7 h;obtain⟨c,hc,h⟩:=h;obtain⟨p,q,rfl⟩:=BT hv;obtain⟨j3,p3,e3⟩:=D9 hc;simp only[Bool.and_eq_true,decide_eq_true_eq]at h;obtain⟨⟨⟨⟨⟨⟨e1,h1⟩,h2⟩,h3⟩,h4⟩,h5⟩,h6⟩:=h;rw[e1]at h1;rw[VU hra,e1,e3,h6];exact Iv C h1 (c4 a _ C h2) (c4 b _ C h4) h3 h5
 | .dk e,tg,r,X,k,N,sc,C,h=>by
   exact O7 (c4 e _ C h)
end
open PySem L2
def Cc:Expr->Option Scope
 | .ListComp _ _ s _=>some s
 | .SetComp _ _ s _=>some s
 | .DictComp _ _ _ s _=>some s
 | _=>none
def DN(sc:Scope)(e:Expr)(x:Str)(px:Pos):Bool:=match Cc e with
 | none=>false
 | some s=>sc.names.lookup x == some .local&&px.line == e.pos.line&&!(s.names.any fun(n,k)=>n == x&&(k == .local||k == .cell))
theorem DZ{env:Env}{e:Expr}{x:Str}{px:Pos}{l:Nat}(hk:env.scope.kind = .function):swapsWith e (some (.Name x px)) l env=pure (DN env.scope e x px):=by
 have hb:env.blockKind = .function:=by unfold Env.blockKind;rw[hk];rfl
 unfold swapsWith DN Cc
 cases e<;>first
  | rfl
  | (show(pure _:Sem Bool)=_;rw[hb];rfl)
def OG:Expr->Bool
 | .Tuple ..=>false
 | _=>true
def Iz:Expr->Option (Str×Pos)
 | .Name x p=>some (x,p)
 | _=>none
theorem Lm{r:Expr}{x:Str×Pos}(h:Iz r=some x):r = .Name x.1 x.2:=by cases r<;>first | (cases h;rfl) | exact y0 h
def Qd:Stmt->Option (List Expr×Expr)
 | .Assign ts e _=>some (ts,e)
 | _=>none
def Vd:Stmt->Option Expr
 | .Expr e _=>some e
 | _=>none
def Ve:Stmt->Option (Expr×List Stmt×List Stmt)
 | .If t a b _=>some (t,a,b)
 | _=>none
def Vf:Stmt->Option (Expr×Expr×List Stmt×List Stmt)
 | .For g i b o _=>some (g,i,b,o)
 | _=>none
def Vg:Stmt->Option (Expr×List Stmt×List Stmt)
 | .While t b o _=>some (t,b,o)
 | _=>none
def U1:Stmt->Option (Option Expr)
 | .Return e _=>some e
 | _=>none
def Vh:Stmt->Option (Expr×Operator×Expr)
 | .AugAssign t o e _=>some (t,o,e)
 | _=>none
theorem Qf{r:Stmt}{x:Expr×Operator×Expr}(h:Vh r=some x):∃ p,r = .AugAssign x.1 x.2.1 x.2.2 p:=by cases r<;>first | (cases h;exact⟨_,rfl⟩) | exact y0 h
def Ry:Operator->Bool
 | .Add=>true
 | _=>false
theorem OH{o:Operator}(h:Ry o=true):o = .Add:=by cases o<;>first | rfl | (cases h;done)
theorem Fl{r:Stmt}{x:List Expr×Expr}(h:Qd r=some x):∃ p,r = .Assign x.1 x.2 p:=by cases r<;>first | (cases h;exact⟨_,rfl⟩) | exact y0 h
theorem Qg{r:Stmt}{x:Expr}(h:Vd r=some x):∃ p,r = .Expr x p:=by cases r<;>first | (cases h;exact⟨_,rfl⟩) | exact y0 h
theorem Qh{r:Stmt}{x:Expr×List Stmt×List Stmt}(h:Ve r=some x):∃ p,r = .If x.1 x.2.1 x.2.2 p:=by cases r<;>first | (cases h;exact⟨_,rfl⟩) | exact y0 h
theorem Qi{r:Stmt}{x:Expr×Expr×List Stmt×List Stmt}(h:Vf r=some x):∃ p,r = .For x.1 x.2.1 x.2.2.1 x.2.2.2 p:=by cases r<;>first | (cases h;exact⟨_,rfl⟩) | exact y0 h
theorem Qj{r:Stmt}{x:Expr×List Stmt×List Stmt}(h:Vg r=some x):∃ p,r = .While x.1 x.2.1 x.2.2 p:=by cases r<;>first | (cases h;exact⟨_,rfl⟩) | exact y0 h
theorem K0{r:Stmt}{x:Option Expr}(h:U1 r=some x):∃ p,r = .Return x p:=by cases r<;>first | (cases h;exact⟨_,rfl⟩) | exact y0 h
def U2(e:Expr):Bool:=(Gi e).any fun v=>(l1 v.2.1).isSome
def OI(e:Expr):Bool:=(Gi e).any fun v=>(l2 v.2.1).isSome
def U3(e:Expr):Bool:=(Ic e).any fun v=>(l1 v.2.2.1).isSome
def U4(sc:Scope)(rt re:Expr):Bool:=match Iz rt with
 | some x=>!DN sc re x.1 x.2||U2 re||U3 re||OI re
 | none=>(LC rt).isSome&&OG re
mutual
def Vi(T:List Str)(N:List Str)(sc:Scope):Stm->Stmt->Bool
 | .asg t e,r=>(Qd r).any fun v=>(l1 v.1).any fun rt=>AM N.length N sc t rt&&i9 T N sc e v.2&&f9 rt&&U4 sc rt v.2
 | .put o i e,r=>(Qd r).any fun v=>(l1 v.1).any fun rt=>(Gh rt).any fun oi=>i9 T N sc o oi.1&&i9 T N sc i oi.2&&i9 T N sc e v.2&&y9 oi.2
 | .augS o i e,r=>(Vh r).any fun v=>(Gh v.1).any fun oi=>Ry v.2.1&&i9 T N sc o oi.1&&i9 T N sc i oi.2&&i9 T N sc e v.2.2&&y9 oi.2
 | .dput o i e,r=>(Qd r).any fun v=>(l1 v.1).any fun rt=>(Gh rt).any fun oi=>i9 T N sc o oi.1&&i9 T N sc i oi.2&&i9 T N sc e v.2&&y9 oi.2
 | .expr e,r=>(Vd r).any fun re=>i9 T N sc e re&&(Cc re).isNone
 | .iff t a b,r=>(Ve r).any fun v=>i9 T N sc t v.1&&Cs T N sc a v.2.1&&Cs T N sc b v.2.2
 | .loop g it b,r=>(Vf r).any fun v=>AM N.length N sc g v.1&&E3 T N sc it v.1 v.2.1&&m5 v.2.1&&Cs T N sc b v.2.2.1&&v.2.2.2.isEmpty
 | .whl t b,r=>(Vg r).any fun v=>i9 T N sc t v.1&&Cs T N sc b v.2.1&&v.2.2.isEmpty
 | .ret e,r=>(U1 r).any fun o=>o.any fun re=>i9 T N sc e re
 | .retN,r=>(U1 r).any fun o=>o.isNone
 | .no,_=>true
def Cs(T:List Str)(N:List Str)(sc:Scope):List Stm->List Stmt->Bool
 | [],r=>r.isEmpty
 | s::ss,r=>(r.head?).any fun x=>Vi T N sc s x&&Cs T N sc ss r.tail
end
def HM(K:PySem.W.Frag)(as:List Addr)(H:Hp)(D:Ends):EndsS where
 nx:=fun ρ' S'=>∀ as' H' σ',Go as H as' H'->Ok K as' H' S'->EnvOk K as' H' σ' ρ'->D.nx σ' H'
 rt:=Post K as H D.rt
 bk:=fun ρ' S'=>∀ as' H' σ',Go as H as' H'->Ok K as' H' S'->EnvOk K as' H' σ' ρ'->D.bk σ' H'
 ct:=fun ρ' S'=>∀ as' H' σ',Go as H as' H'->Ok K as' H' S'->EnvOk K as' H' σ' ρ'->D.ct σ' H'
def liftS(K:PySem.W.Frag)(w:WS):TS:=fun D σ H=>∃ as ρ S,Ok K as H S/\EnvOk K as H σ ρ/\w (HM K as H D) ρ S
structure Le(D D':EndsS):Prop where
 nx:∀ ρ S,D.nx ρ S->D'.nx ρ S
 rt:∀ x S,D.rt x S->D'.rt x S
 bk:∀ ρ S,D.bk ρ S->D'.bk ρ S
 ct:∀ ρ S,D.ct ρ S->D'.ct ρ S
def MonoS(w:WS):Prop:=∀ D D' ρ S,Le D D'->w D ρ S->w D' ρ S
theorem MonoS.go{w:WS}(m:MonoS w){D D':EndsS}{ρ:EnvS}{S:Sto}(h:w D ρ S)(l:Le D D'):w D' ρ S:=m D D' ρ S l h
theorem Le.go{K:PySem.W.Frag}{as as':List Addr}{H H':Hp}{D:Ends}(g:Go as H as' H'):Le (HM K as H D) (HM K as' H' D) where
 nx:=fun ρ S h as2 H2 σ2 g2=>h as2 H2 σ2 (g.trans g2)
 rt:=fun x S h=>Post.mono h g
 bk:=fun ρ S h as2 H2 σ2 g2=>h as2 H2 σ2 (g.trans g2)
 ct:=fun ρ S h as2 H2 σ2 g2=>h as2 H2 σ2 (g.trans g2)
structure GoodS(X:Cx)(r:Stmt)(w:WS):Prop where
 ps:PS X r (liftS X.K w)
 m:MonoS w
structure GoodSs(X:Cx)(r:List Stmt)(w:WS):Prop where
 ps:PSs X r (liftS X.K w)
 m:MonoS w
theorem y4{X:Cx}{st:Stmt}{t:TS}(t':TS)(h:PS X st t)(imp:∀ D σ H,t' D σ H->t D σ H):PS X st t':=fun pins s σ H D I hw=>h pins s σ H D I (imp D σ H hw)
theorem HN{X:Cx}{st:List Stmt}{t:TS}(t':TS)(h:PSs X st t)(imp:∀ D σ H,t' D σ H->t D σ H):PSs X st t':=fun pins s σ H D I hw=>h pins s σ H D I (imp D σ H hw)
section
variable{X:Cx}
theorem J0:GoodSs X [] (fun D ρ S=>D.nx ρ S):=⟨HN _ PY fun D σ H ⟨as,ρ,S,ok,en,h⟩=>h as H σ (Go.refl _ _) ok en,fun D D' ρ S l h=>l.nx _ _ h⟩
theorem HP{s:Stmt}{ss:List Stmt}{w u:WS}(h1:GoodS X s w)(h2:GoodSs X ss u):GoodSs X (s::ss) (fun D ρ S=>w {D with nx:=u D} ρ S) where
 ps:=HN _ (MQ h1.ps h2.ps) (by
  rintro D σ H ⟨as,ρ,S,ok,en,h⟩;refine⟨as,ρ,S,ok,en,h1.m.go h ⟨fun ρ' S' q as' H' σ' g ok' en'=>?_,fun _ _ h=>h,fun _ _ h=>h,fun _ _ h=>h⟩⟩;exact⟨as',ρ',S',ok',en',h2.m _ _ _ _ (Le.go g) q⟩)
 m:=fun D D' ρ S l h=>h1.m.go (D:={D with nx:=u D}) h ⟨fun ρ' S' q=>h2.m _ _ _ _ l q,l.rt,l.bk,l.ct⟩
theorem Qk{K:PySem.W.Frag}{g:Tg}{w:WE}(m:Mono w):∀ D σ H,liftS K (fun D ρ S=>w ρ S fun x S1=>wTg g x ρ fun ρ'=>D.nx ρ' S1) D σ H->GF (lift K w) (AY K g) D σ H:=by
 rintro D σ H ⟨as,ρ,S,ok,en,h⟩;refine⟨as,ρ,S,ok,en,m _ _ _ _ (fun x S1 q as1 H1 v g1 ok1 rv=>?_) h⟩;exact⟨as1,ρ,S1,x,ok1,en.mono g1.pre (g1.ku ok),rv,j6 g (fun ρ' q σ' en'=>q as1 H1 σ' g1 ok1 en') q⟩
theorem Ct{K:PySem.W.Frag}{i:Nat}{w:WE}(m:Mono w):∀ D σ H,liftS K (fun D ρ S=>w ρ S fun x S1=>wTg (.nm i) x ρ fun ρ'=>D.nx ρ' S1) D σ H->GF (lift K w) (Eh i) D σ H:=by
 rintro D σ H ⟨as,ρ,S,ok,en,h⟩;refine⟨as,ρ,S,ok,en,m _ _ _ _ (fun x S1 q as1 H1 v g1 ok1 rv=>?_) h⟩;unfold wTg at q;exact q as1 H1 _ g1 ok1 ((en.mono g1.pre (g1.ku ok)).set rv)
theorem HQ{g:Tg}{w:WE}(m:Mono w):MonoS (fun D ρ S=>w ρ S fun x S1=>wTg g x ρ fun ρ'=>D.nx ρ' S1):=fun D D' ρ S l h=>m _ _ _ _ (fun x S1 q=>j6 g (fun ρ' q=>l.nx _ _ q) q) h
theorem U5{K:PySem.W.Frag}{t:WT}{a b:WS}(mt:MonoT t)(ma:MonoS a)(mb:MonoS b):∀ D σ H,liftS K (fun D ρ S=>t ρ S fun c S1=>if c=true then a D ρ S1 else b D ρ S1) D σ H->UW (liftT K t) (liftS K a) (liftS K b) D σ H:=by
 rintro D σ H ⟨as,ρ,S,ok,en,h⟩;refine⟨as,ρ,S,ok,en,mt _ _ _ _ (fun c S1 q as1 H1 g1 ok1=>?_) h⟩;refine i4 (fun q=>?_) (fun q=>?_) q
 ·exact⟨as1,ρ,S1,ok1,en.mono g1.pre (g1.ku ok),ma _ _ _ _ (Le.go g1) q⟩
 ·exact⟨as1,ρ,S1,ok1,en.mono g1.pre (g1.ku ok),mb _ _ _ _ (Le.go g1) q⟩
theorem C8{keep:Sto->Prop}{g:Tg}{b:WS}(mb:MonoS b):∀(xs:List SV) {D D':EndsS},Le D D'->∀ ρ S,AG keep g b D xs ρ S->AG keep g b D' xs ρ S
 | [],D,D',l,ρ,S,h=>by unfold AG at h ⊢;exact⟨h.1,l.nx _ _ h.2⟩
 | x::xs,D,D',l,ρ,S,h=>by
   unfold AG at h ⊢;exact⟨h.1,j6 g (fun ρ2 q=>mb.go (D:={D with nx:=AG keep g b D xs,ct:=AG keep g b D xs,bk:=D.nx}) q ⟨C8 mb xs l,l.rt,l.nx,C8 mb xs l⟩) h.2⟩
theorem Ql{K:PySem.W.Frag}{g:Tg}{i:WI}{b:WS}(mi:MonoI i)(mb:MonoS b):∀ D σ H,liftS K (fun D ρ S=>i ρ S fun keep xs S1=>AG keep g b D xs ρ S1) D σ H->Uc (liftI K i) (AY K g) (liftS K b) D σ H:=by
 rintro D σ H ⟨as,ρ,S,ok,en,h⟩;refine⟨as,ρ,S,ok,en,mi _ _ _ _ (fun keep xs S1 h as1 H1 J g1 ok1 W=>?_) h⟩
 refine⟨fun i m σ2 H2=>m=xs.length - i/\i<=xs.length/\∃ as2 ρ2 S2,Go as1 H1 as2 H2/\Ok K as2 H2 S2/\EnvOk K as2 H2 σ2 ρ2/\AG keep g b (HM K as H D) (xs.drop i) ρ2 S2,
  ⟨xs.length,by simp,Nat.zero_le _,as1,ρ,S1,Go.refl _ _,ok1,en.mono g1.pre (g1.ku ok),h⟩,?_⟩
 rintro i m σ2 H2 ⟨rfl,hi,as2,ρ2,S2,g2,ok2,en2,h⟩;by_cases hlt:i<xs.length
 ·right;rw[List.drop_eq_getElem_cons hlt]at h;unfold AG at h;obtain⟨kp,h⟩:=h;obtain⟨w1,_⟩:=W as2 H2 S2 (g2.gu ok1) ok2 kp;obtain⟨go,yl⟩:=w1 i xs[i] (List.getElem?_eq_getElem hlt);refine⟨go,fun σ' H'=>∃ as2 ρ2 S2,Go as1 H1 as2 H'/\Ok K as2 H' S2/\EnvOk K as2 H' σ' ρ2/\AG keep g b (HM K as H D) (xs.drop (i+1)) ρ2 S2,fun σ' H' z=>⟨xs.length - (i+1),by omega,rfl,hlt,z⟩,fun x H3 y3=>?_⟩;obtain⟨g3,ok3,rx⟩:=yl x H3 y3;refine⟨as2,ρ2,S2,_,ok3,en2.mono g3.pre (g3.ku ok2),rx,j6 g (fun ρ3 q σ3 en3=>?_) h⟩;have g03:=(g1.trans g2).trans g3;refine⟨as2,ρ3,S2,ok3,en3,mb.go q ⟨fun ρ' S' q as' H' σ' g' ok' en'=>?_,fun x S h=>Post.mono h g03,fun ρ' S' q as' H' σ' g' ok' en'=>q as' H' σ' (g03.trans g') ok' en',fun ρ' S' q as' H' σ' g' ok' en'=>?_⟩⟩
  ·exact⟨as',ρ',S',(g2.trans g3).trans g',ok',en',q⟩
  ·exact⟨as',ρ',S',(g2.trans g3).trans g',ok',en',q⟩
 ·left;have hi':i=xs.length:=by omega
  subst hi';rw[List.drop_length]at h;unfold AG at h;obtain⟨kp,h⟩:=h;obtain⟨_,w2⟩:=W as2 H2 S2 (g2.gu ok1) ok2 kp;exact⟨w2,h as2 H2 σ2 (g1.trans g2) ok2 en2⟩
theorem HR{t:WT}{b:WS}(mt:MonoT t)(mb:MonoS b):MonoS (Ti t b):=fun D D' ρ S l ⟨W,w0,h⟩=>⟨W,w0,fun m ρ S w=>mt _ _ _ _ (fun c S1 q=>i4 (fun q=>mb.go (D:={D with nx:=fun ρ' S'=>∃ m',m'<m/\W m' ρ' S',ct:=fun ρ' S'=>∃ m',m'<m/\W m' ρ' S',bk:=D.nx}) q ⟨fun _ _ h=>h,l.rt,l.nx,fun _ _ h=>h⟩) (fun q=>l.nx _ _ q) q) (h m ρ S w)⟩
theorem Qm{K:PySem.W.Frag}{t:WT}{b:WS}(mt:MonoT t)(mb:MonoS b):∀ D σ H,liftS K (Ti t b) D σ H->MV (liftT K t) (liftS K b) D σ H:=by
 rintro D σ H ⟨as,ρ,S,ok,en,W,⟨m0,w0⟩,h⟩;refine⟨fun m σ1 H1=>∃ as1 ρ1 S1,Go as H as1 H1/\Ok K as1 H1 S1/\EnvOk K as1 H1 σ1 ρ1/\W m ρ1 S1,⟨m0,as,ρ,S,Go.refl _ _,ok,en,w0⟩,?_⟩;rintro m σ1 H1 ⟨as1,ρ1,S1,g1,ok1,en1,w1⟩;refine⟨as1,ρ1,S1,ok1,en1,mt _ _ _ _ (fun c S2 q as2 H2 g2 ok2=>?_) (h m ρ1 S1 w1)⟩;refine i4 (fun q=>?_) (fun q=>q as2 H2 σ1 (g1.trans g2) ok2 (en1.mono g2.pre (g2.ku ok1))) q;refine⟨fun σ' H'=>∃ m',m'<m/\∃ as1 ρ1 S1,Go as H as1 H'/\Ok K as1 H' S1/\EnvOk K as1 H' σ' ρ1/\W m' ρ1 S1,fun σ' H' z=>z,?_⟩;refine⟨as2,ρ1,S2,ok2,en1.mono g2.pre (g2.ku ok1),mb.go q ⟨fun ρ' S' ⟨m',hm,w'⟩ as' H' σ' g' ok' en'=>?_,fun x S h=>Post.mono h (g1.trans g2),fun ρ' S' q as' H' σ' g' ok' en'=>q as' H' σ' ((g1.trans g2).trans g') ok' en',fun ρ' S' ⟨m',hm,w'⟩ as' H' σ' g' ok' en'=>?_⟩⟩
 ·exact⟨m',hm,as',ρ',S',(g1.trans g2).trans g',ok',en',w'⟩
 ·exact⟨m',hm,as',ρ',S',(g1.trans g2).trans g',ok',en',w'⟩
theorem EC{x y v:SV}{S:Sto}{P P':Sto->Prop}(i:∀ S,P S->P' S)(h:Ia x y v S P):Ia x y v S P':=by
 unfold Ia at h ⊢;split at h
 ·obtain⟨xs,j,a,b,c⟩:=h;exact⟨xs,j,a,b,i _ c⟩
 ·exact h.elim
theorem K5{K:PySem.W.Frag}{as:List Addr}{H:Hp}{S:Sto}{x y z:SV}{o i v:V}{Q:Hp->Prop}(ok:Ok K as H S)(ro:Rl K as H o x)(ri:Rl K as H i y)(rv:Rl K as H v z)(h:Ia x y z S fun S'=>∀ H',Go as H as H'->Ok K as H' S'->Q H'):JY o i v H Q:=by
 cases x with
 | loc k=>
   cases y with
   | int n=>
     obtain⟨xs,j,h1,h2,h3⟩:=h;obtain⟨a,vs,rfl,ea,ha,ra⟩:=u5 ok ro h1;rw[rl_int]at ri;subst ri;refine⟨a,vs,n,j,rfl,rfl,ha,by rw[ra.length];exact h2,h3 _ (Go.write (List.mem_of_getElem? ea)) (ok.write h1 ea (ra.set rv j)).1⟩
   | _=>exact False.elim h
 | _=>exact False.elim h
theorem Qn{K:PySem.W.Frag}{o i e:WE}(mo:Mono o)(mi:Mono i)(me:Mono e):∀ D σ H,liftS K (fun D ρ S=>e ρ S fun v S1=>o ρ S1 fun x S2=>i ρ S2 fun y S3=>Ia x y v S3 fun S4=>D.nx ρ S4) D σ H->GF (lift K e) (UZ (lift K o) (lift K i) JY) D σ H:=by
 rintro D σ H ⟨as,ρ,S,ok,en,h⟩;refine⟨as,ρ,S,ok,en,me _ _ _ _ (fun z S1 q as1 H1 v g1 ok1 rv=>?_) h⟩;have en1:=en.mono g1.pre (g1.ku ok);refine⟨as1,ρ,S1,ok1,en1,mo _ _ _ _ (fun x S2 q as2 H2 u g2 ok2 ru=>?_) q⟩;have en2:=en1.mono g2.pre (g2.ku ok1);refine⟨as2,ρ,S2,ok2,en2,mi _ _ _ _ (fun y S3 q as3 H3 t g3 ok3 rt=>?_) q⟩;have en3:=en2.mono g3.pre (g3.ku ok2);refine K5 ok3 (Rl.mono g3.pre (g3.ku ok2) x u ru) rt (Rl.mono (g2.trans g3).pre ((g2.trans g3).ku ok1) z v rv) (EC (fun S4 q H4 g4 ok4=>?_) q);exact q as3 H4 σ (((g1.trans g2).trans g3).trans g4) ok4 (en3.mono g4.pre (g4.ku ok3))
theorem Qo{n j:Nat}(h:j<n):ixN n (j:Int)=some j:=by
 unfold ixN;rw[if_pos (by omega),if_pos (by omega)];simp
def Vj(K:PySem.W.Frag):V->V->Hp->VK->Prop:=fun x y H Q=>∃ p xs v,∃ i:Nat,x = .ref p/\y = .int i/\SqL K H p xs/\xs[i]?=some v/\Q v H
theorem U6{X:Cx}:Ua X (Vj X.K):=by
 intro pins s σ H x y v u Q I rx ry h;obtain⟨p,xs,z,i,rfl,rfl,hq,he,q⟩:=h;cases rx;obtain⟨t,rfl⟩:=ry;obtain⟨its,r,pl,hz⟩:=I.list hq;obtain⟨w,ew,rw'⟩:=r.get he;have hl:=r.length;have hn:=CU;have hi:=(gM he).1;exact wpAny_getItem_list pl.isList (Int.natCast_nonneg _) (by omega) (by rw[Int.toNat_natCast];simpa using ew) ⟨z,H,I,rw',q⟩
theorem Qp{K:PySem.W.Frag}{o i e:WE}(mo:Mono o)(mi:Mono i)(me:Mono e):∀ D σ H,liftS K (fun D ρ S=>o ρ S fun x S1=>i ρ S1 fun y S2=>∃(k:Nat) (j:Nat) (xs:List SV) (a:Int),x = .loc k/\y = .int j/\S2[k]?=some (.lst xs)/\xs[j]?=some (.int a)/\e ρ S2 fun v S4=>∃(b:Int) (ys:List SV),v = .int b/\S4[k]?=some (.lst ys)/\j<ys.length/\D.nx ρ (S4.set k (.lst (ys.set j (.int (a+b)))))) D σ H->RX (lift K o) (lift K i) (lift K e) (Vj K) (ipI fun i j=>i+j) JY D σ H:=by
 rintro D σ H ⟨as,ρ,S,ok,en,h⟩;refine⟨as,ρ,S,ok,en,mo _ _ _ _ (fun x S1 q as1 H1 u g1 ok1 ru=>?_) h⟩;have en1:=en.mono g1.pre (g1.ku ok);refine⟨as1,ρ,S1,ok1,en1,mi _ _ _ _ (fun y S2 q as2 H2 t g2 ok2 rt=>?_) q⟩;have en2:=en1.mono g2.pre (g2.ku ok1);have ru2:=Rl.mono g2.pre (g2.ku ok1) x u ru;obtain⟨k,j,xs,a,rfl,rfl,h1,h2,q⟩:=q;obtain⟨p,vs,rfl,ea,ha,ra⟩:=u5 ok2 ru2 h1;rw[rl_int]at rt;subst rt;obtain⟨v0,e0,r0⟩:=ra.get h2;rw[rl_int]at r0;subst r0;refine⟨p,vs,_,j,rfl,rfl,SqL.of ha,e0,as2,ρ,S2,ok2,en2,me _ _ _ _ (fun d S4 ⟨b,ys,e2,h4,hj,q⟩ as4 H4 z g4 ok4 rz=>?_) q⟩;subst e2;rw[rl_int]at rz;have en4:=en2.mono g4.pre (g4.ku ok2);refine⟨a,b,rfl,rz,K5 ok4 (Rl.mono g4.pre (g4.ku ok2) (.loc k) (.ref p) ru2) (rl_int.mpr rfl) (rl_int.mpr rfl) (show Ia (.loc k) (.int j) (.int (a+b)) S4 _ from ⟨ys,j,h4,Qo hj,fun H5 g5 ok5=>?_⟩)⟩;exact q as4 H5 σ (((g1.trans g2).trans g4).trans g5) ok5 (en4.mono g5.pre (g5.ku ok4))
theorem FA{x y v:SV}{S:Sto}{Q Q':Sto->Prop}(i:∀ S',Q S'->Q' S')(h:Jn x y v S Q):Jn x y v S Q':=let ⟨k,j,kvs,a,b,c,d,q⟩:=h;⟨k,j,kvs,a,b,c,d,i _ q⟩
theorem OJ{K:PySem.W.Frag}{o i e:WE}(mo:Mono o)(mi:Mono i)(me:Mono e):∀ D σ H,liftS K (fun D ρ S=>e ρ S fun v S1=>o ρ S1 fun x S2=>i ρ S2 fun y S3=>Jn x y v S3 fun S4=>D.nx ρ S4) D σ H->NO (lift K o) (lift K i) (lift K e) D σ H:=by
 rintro D σ H ⟨as,ρ,S,ok,en,h⟩;refine⟨as,ρ,S,ok,en,me _ _ _ _ (fun z S1 q as1 H1 v g1 ok1 rv=>?_) h⟩;have en1:=en.mono g1.pre (g1.ku ok);refine⟨as1,ρ,S1,ok1,en1,mo _ _ _ _ (fun x S2 q as2 H2 u g2 ok2 ru=>?_) q⟩;have en2:=en1.mono g2.pre (g2.ku ok1);refine⟨as2,ρ,S2,ok2,en2,mi _ _ _ _ (fun y S3 q as3 H3 t g3 ok3 rt=>?_) q⟩;have en3:=en2.mono g3.pre (g3.ku ok2);have ru':=Rl.mono g3.pre (g3.ku ok2) x u ru;have rv':=Rl.mono (g2.trans g3).pre ((g2.trans g3).ku ok1) z v rv;obtain⟨k,j,kvs,rfl,rfl,hk,hb,q⟩:=q;obtain⟨a,ea,rfl⟩:=rl_loc.mp ru';rw[rl_int]at rt;subst rt;rcases hk with hk | ⟨o',ks,hk⟩
 ·obtain⟨ks,h1,h2⟩:=ok3.obj k _ a hk ea;obtain⟨ok4,ku⟩:=ok3.writeO (x := .dct (Az kvs j z)) (u := .dK (BC ks (Sum.inl j) v)) hk ea (fun ku=>⟨_,f7,RlD.mono (List.prefix_refl _) ku _ _ (h2.put rv' j)⟩);refine⟨a,H3,_,rfl,.inl rfl,.inl ⟨ks,.inl j,h1,rfl,by rw[h2.length];exact CZ hb,rfl⟩,?_⟩;exact q as3 _ σ (((g1.trans g2).trans g3).trans (Go.write (List.mem_of_getElem? ea))) ok4 (en3.mono (List.prefix_refl _) ku)
 ·obtain⟨h1,h2⟩:=(show RlO K as3 H3 a (.dcf o' ks kvs) from ok3.obj k _ a hk ea)
  obtain⟨ok4,ku⟩:=ok3.writeO (x := .dct (Az kvs j z)) (u := .dK (BC ks (Sum.inl j) v)) hk ea (fun ku=>⟨_,f7,RlD.mono (List.prefix_refl _) ku _ _ (h2.put rv' j)⟩)
  have e:upd (upd H3 a (.dK ks)) a (.dK (BC ks (Sum.inl j) v))=upd H3 a (.dK (BC ks (Sum.inl j) v)):=by
   funext b
   by_cases hb:b=a
   ·rw[hb,f7,f7]
   ·rw[upd_ne hb,upd_ne hb,upd_ne hb]
  refine⟨a,upd H3 a (.dK ks),upd H3 a (.dK (BC ks (Sum.inl j) v)),rfl,.inr ⟨a,o',ks,h1,rfl⟩,.inl ⟨ks,.inl j,f7,rfl,by rw[h2.length];exact CZ hb,e.symm⟩,?_⟩;exact q as3 _ σ (((g1.trans g2).trans g3).trans (Go.write (List.mem_of_getElem? ea))) ok4 (en3.mono (List.prefix_refl _) ku)
end
theorem U7{env:Env}{es:List Expr}{k:Nat}{p:Pos}{e:Expr}{l:Nat}:swapsWithSole [.Tuple es k p] e l env=pure false:=by
 unfold swapsWithSole swapsWith;cases e<;>rfl
theorem U8{env:Env}{o i:Expr}{p:Pos}{e:Expr}{l:Nat}:swapsWithSole [.Subscript o i p] e l env=pure false:=by
 unfold swapsWithSole swapsWith;cases e<;>rfl
theorem U9{env:Env}{es:List Expr}{k:Nat}{p:Pos}{e:Expr}(h:OG e=true):swappedStores [.Tuple es k p] e env=pure none:=by
 unfold swappedStores;cases e<;>first | rfl | cases h
theorem UA{env:Env}{o i:Expr}{p:Pos}{e:Expr}:swappedStores [.Subscript o i p] e env=pure none:=by
 unfold swappedStores;cases e<;>rfl
open PySem L2
theorem HS{t:WT}{a b:WS}(mt:MonoT t)(ma:MonoS a)(mb:MonoS b):MonoS (fun D ρ S=>t ρ S fun c S1=>if c=true then a D ρ S1 else b D ρ S1):=fun D D' ρ S l h=>mt _ _ _ _ (fun c S1 q=>i4 (fun q=>ma.go q l) (fun q=>mb.go q l) q) h
section
variable{T:List Str}{Δ:Nat->Sn}{X:Cx}{N:List Str}{sc:Scope}
theorem Rz{env:Env}{e:Expr}(h:f9 e=true):(assignEach [e] env).map (·.2)=[assign e env]:=by cases e<;>first | rfl | cases h
theorem J1{env:Env}{o i:Expr}{p:Pos}(h:y9 i=true):∀ v,assign (.Subscript o i p) env v=(do
 let ov <- holding [v] (eval o env)
 let iv <- holding [v,ov] (eval i env)
 standAt p
 holding [v,ov,iv] (setItem ov iv v)
 release [v,ov,iv] []):=fun v=>by cases i<;>first | rfl | cases h
theorem Qq{i:Expr}(h:y9 i=true):∀ ov iv new,augStore i ov iv new=(do holding [new,ov,iv] (setItem ov iv new);release [new,ov,iv] [];pure .next):=fun _ _ _=>by cases i<;>first | rfl | cases h
theorem Ln(C:Cok T Δ X N.length N sc)(hk:sc.kind = .function){t:Tg}{e:Ex}{rt re:Expr}{pos:Pos}(h1:AM N.length N sc t rt=true)(h2:i9 T N sc e re=true)(h3:f9 rt=true)(h4:U4 sc rt re=true):PS X (.Assign [rt] re pos) (liftS X.K fun D ρ S=>(wEx Δ e).1 ρ S fun x S1=>wTg t x ρ fun ρ'=>D.nx ρ' S1):=by
 have ge:=c4 e re C h2;unfold U4 at h4;cases hv:Iz rt with
 | none=>
   rw[hv]at h4;rw[Bool.and_eq_true]at h4;obtain⟨es,hes⟩:=Option.isSome_iff_exists.mp h4.1;obtain⟨j,p,rfl⟩:=DX hes;exact y4 _ (MU ge.pe (v8 C t _ h1) U7 (U9 h4.2) (Rz rfl)) (Qk ge.m)
 | some xp=>
   rw[hv]at h4;have e0:=Lm hv;obtain⟨x,px⟩:=xp;subst e0;cases t with
   | tup ts=>rw[AM]at h1;cases h1
   | nm i=>
     rw[AM]at h1;have h1:(decide (i<N.length)&&decide (N[i]?=some x)&&loc sc x)=true:=h1;simp only[Bool.and_eq_true,decide_eq_true_eq]at h1;obtain⟨⟨hi,hx⟩,hl⟩:=h1;unfold loc at hl;simp only[Bool.or_eq_true,beq_iff_eq]at hl;have hND:X.N.Nodup:=by rw[C.hN];exact C.nd
     have hNi:X.N[i]?=some x:=by rw[C.hN];exact hx
     have hloc:Loc X.env.scope x:=by rw[C.hs];exact hl
     have hf:X.fn x=true\/X.env.scope.names.lookup x=some .local:=by
      rw[C.hs];rcases hl with hl | hl
      ·exact .inr hl
      ·exact .inl (C.fn i x hi hx hl)
     have hke:X.env.scope.kind = .function:=by rw[C.hs];exact hk
     cases hsw:DN sc re x px with
     | false=>exact y4 _ (Sg hND hNi hloc ge.pe (by rw[DZ hke,C.hs,hsw]) hf) (Ct ge.m)
     | true=>
       have h4:(!DN sc re x px||U2 re||U3 re||OI re)=true:=h4;rw[hsw,Bool.not_true,Bool.false_or,Bool.or_eq_true,Bool.or_eq_true]at h4;rcases h4 with(h4 | h4) | h4
       ·unfold U2 at h4;obtain⟨v,hv',h4⟩:=a7 h4;obtain⟨gen,hgen⟩:=Option.isSome_iff_exists.mp h4;obtain⟨p',rfl⟩:=Cr hv';rw[A0 hgen]at h2 ge hsw ⊢
        have hxl:X.env.scope.names.lookup x=some .local:=by
         rw[C.hs];unfold DN Cc at hsw;simp only[Bool.and_eq_true,beq_iff_eq]at hsw;exact hsw.1.1
        have hs1:swapsWith (.ListComp v.1 [gen] v.2.2 p') (some (.Name x px)) pos.line X.env=pure true:=by rw[DZ hke,C.hs,hsw]
        cases e with
        | comp own cn js g it t' e'=>
          obtain⟨tg,ri,ifs,az⟩:=gen;have h2:(decide (az=0)&&j2 sc v.2.2 own cn N js&&AM own.length (own++cn) (A9 v.2.2 sc) g tg&&E3 T N sc it tg ri&&m5 ri&&Ba T (own++cn) (A9 v.2.2 sc) t' ifs&&i9 T (own++cn) (A9 v.2.2 sc) e' v.1)=true:=h2;simp only[Bool.and_eq_true,decide_eq_true_eq]at h2;obtain⟨⟨⟨⟨⟨⟨k0,k1⟩,k2⟩,k3⟩,k4⟩,k5⟩,k6⟩:=h2;subst k0;have hI:=w6 it _ _ C k3;have hT:=fun s2 H2 cs A fp=>AI t' _ (C.comp k1 s2 H2 cs A fp) k5;have hE:=fun s2 H2 cs A fp=>c4 e' _ (C.comp k1 s2 H2 cs A fp) k6;have mt:=(hT X.s₀ X.H₀ [] 0 []).2;have me:=(hE X.s₀ X.H₀ [] 0 []).m;have b:=IP (i:=i) (g:=AY X.K g) (tt:=liftT X.K (wEo Δ t').2) (te:=lift X.K (wEx Δ e').1) own cn js hND hNi hxl hI.pi (fun s2 H2 cs A fp=>v8 (C.comp k1 s2 H2 cs A fp) g _ k2) (fun s2 H2 cs A fp=>(hT s2 H2 cs A fp).1) (fun s2 H2 cs A fp=>(hE s2 H2 cs A fp).pe) C.calm (by rw[C.hs,C.hN];exact k1) hs1 (j5 k4);refine y4 _ b fun D σ H h=>?_;have:=Ct ge.m D σ H h;exact HG hI.m mt me σ H _ this
        | no=>exact fun _ _ _ _ _ _ h=>let ⟨_,_,_,_,_,z⟩:=h;z.elim
        | _=>exact absurd h2 nofun
       ·unfold U3 at h4;obtain⟨v,hv',h4⟩:=a7 h4;obtain⟨gen,hgen⟩:=Option.isSome_iff_exists.mp h4;obtain⟨p',rfl⟩:=F4 hv';rw[A0 hgen]at h2 ge hsw ⊢
        have hxl:X.env.scope.names.lookup x=some .local:=by
         rw[C.hs];unfold DN Cc at hsw;simp only[Bool.and_eq_true,beq_iff_eq]at hsw;exact hsw.1.1
        have hs1:swapsWith (.DictComp v.1 v.2.1 [gen] v.2.2.2 p') (some (.Name x px)) pos.line X.env=pure true:=by rw[DZ hke,C.hs,hsw]
        cases e with
        | dcomp own cn js g it t' e' f'=>
          obtain⟨tg,ri,ifs,az⟩:=gen;have h2:(decide (az=0)&&j2 sc v.2.2.2 own cn N js&&AM own.length (own++cn) (A9 v.2.2.2 sc) g tg&&E3 T N sc it tg ri&&m5 ri&&Ba T (own++cn) (A9 v.2.2.2 sc) t' ifs&&i9 T (own++cn) (A9 v.2.2.2 sc) e' v.1&&i9 T (own++cn) (A9 v.2.2.2 sc) f' v.2.1)=true:=h2;simp only[Bool.and_eq_true,decide_eq_true_eq]at h2;obtain⟨⟨⟨⟨⟨⟨⟨k0,k1⟩,k2⟩,k3⟩,k4⟩,k5⟩,k6⟩,k7⟩:=h2;subst k0;have hI:=w6 it _ _ C k3;have hT:=fun s2 H2 cs A fp=>AI t' _ (C.comp k1 s2 H2 cs A fp) k5;have hE:=fun s2 H2 cs A fp=>c4 e' _ (C.comp k1 s2 H2 cs A fp) k6;have hF:=fun s2 H2 cs A fp=>c4 f' _ (C.comp k1 s2 H2 cs A fp) k7;have mt:=(hT X.s₀ X.H₀ [] 0 []).2;have me:=(hE X.s₀ X.H₀ [] 0 []).m;have mf:=(hF X.s₀ X.H₀ [] 0 []).m;have b:=HE (i:=i) (g:=AY X.K g) (tt:=liftT X.K (wEo Δ t').2) (tk:=lift X.K (wEx Δ e').1) (tv:=lift X.K (wEx Δ f').1) own cn js hND hNi hxl hI.pi (fun s2 H2 cs A fp=>v8 (C.comp k1 s2 H2 cs A fp) g _ k2) (fun s2 H2 cs A fp=>(hT s2 H2 cs A fp).1) (fun s2 H2 cs A fp=>(hE s2 H2 cs A fp).pe) (fun s2 H2 cs A fp=>(hF s2 H2 cs A fp).pe) C.calm (by rw[C.hs,C.hN];exact k1) hs1 (j5 k4);refine y4 _ b fun D σ H h=>?_;have:=Ct ge.m D σ H h;exact F9 hI.m mt me mf σ H _ this
        | no=>exact fun _ _ _ _ _ _ h=>let ⟨_,_,_,_,_,z⟩:=h;z.elim
        | _=>exact absurd h2 nofun
       ·unfold OI at h4;obtain⟨v,hv',h4⟩:=a7 h4;obtain⟨gen,hgen⟩:=Option.isSome_iff_exists.mp h4;obtain⟨p',rfl⟩:=Cr hv';rw[Nj hgen]at h2 ge hsw ⊢
        have hxl:X.env.scope.names.lookup x=some .local:=by
         rw[C.hs];unfold DN Cc at hsw;simp only[Bool.and_eq_true,beq_iff_eq]at hsw;exact hsw.1.1
        have hs1:swapsWith (.ListComp v.1 [gen.1,gen.2] v.2.2 p') (some (.Name x px)) pos.line X.env=pure true:=by rw[DZ hke,C.hs,hsw]
        cases e with
        | comp2 own cn js g it t' g2 it2 t2 e'=>
          obtain⟨⟨tg,ri,ifs,az⟩,⟨tg2,ri2,ifs2,az2⟩⟩:=gen;have h2:(decide (az=0)&&decide (az2=0)&&j2 sc v.2.2 own cn N js&&AM own.length (own++cn) (A9 v.2.2 sc) g tg&&E3 T N sc it tg ri&&m5 ri&&Ba T (own++cn) (A9 v.2.2 sc) t' ifs&&AM own.length (own++cn) (A9 v.2.2 sc) g2 tg2&&E3 T (own++cn) (A9 v.2.2 sc) it2 tg2 ri2&&m5 ri2&&Ba T (own++cn) (A9 v.2.2 sc) t2 ifs2&&i9 T (own++cn) (A9 v.2.2 sc) e' v.1)=true:=h2;simp only[Bool.and_eq_true,decide_eq_true_eq]at h2;obtain⟨⟨⟨⟨⟨⟨⟨⟨⟨⟨⟨k0,k0'⟩,k1⟩,k2⟩,k3⟩,k4⟩,k5⟩,k6⟩,k7⟩,k8⟩,k9⟩,ka⟩:=h2;subst k0;subst k0';have hI:=w6 it _ _ C k3;have hT:=fun s2 H2 cs A fp=>AI t' _ (C.comp k1 s2 H2 cs A fp) k5;have hI2:=fun s2 H2 cs A fp=>w6 it2 _ _ (C.comp k1 s2 H2 cs A fp) k7;have hT2:=fun s2 H2 cs A fp=>AI t2 _ (C.comp k1 s2 H2 cs A fp) k9;have hE:=fun s2 H2 cs A fp=>c4 e' _ (C.comp k1 s2 H2 cs A fp) ka;have mt:=(hT X.s₀ X.H₀ [] 0 []).2;have mi2:=(hI2 X.s₀ X.H₀ [] 0 []).m;have mt2:=(hT2 X.s₀ X.H₀ [] 0 []).2;have me:=(hE X.s₀ X.H₀ [] 0 []).m;have b:=HF (i:=i) (g:=AY X.K g) (tt:=liftT X.K (wEo Δ t').2) (wi2:=liftI X.K (Fh Δ it2)) (g2:=AY X.K g2) (tt2:=liftT X.K (wEo Δ t2).2) (te:=lift X.K (wEx Δ e').1) own cn js hND hNi hxl hI.pi (fun s2 H2 cs A fp=>v8 (C.comp k1 s2 H2 cs A fp) g _ k2) (fun s2 H2 cs A fp=>(hT s2 H2 cs A fp).1) (fun s2 H2 cs A fp=>(hI2 s2 H2 cs A fp).pi) (fun s2 H2 cs A fp=>v8 (C.comp k1 s2 H2 cs A fp) g2 _ k6) (fun s2 H2 cs A fp=>(hT2 s2 H2 cs A fp).1) (fun s2 H2 cs A fp=>(hE s2 H2 cs A fp).pe) (fun _ _ _ _ _=>j5 k8) C.calm (by rw[C.hs,C.hN];exact k1) hs1 (j5 k4);refine y4 _ b fun D σ H h=>?_;have:=Ct ge.m D σ H h;exact F8 hI.m mt mi2 mt2 me σ H _ this
        | no=>exact fun _ _ _ _ _ _ h=>let ⟨_,_,_,_,_,z⟩:=h;z.elim
        | _=>exact absurd h2 nofun
mutual
theorem OK(C:Cok T Δ X N.length N sc)(hp:PassesOwn (model X.prog X.w) X.A X.env X.xe)(hk:sc.kind = .function):∀(s:Stm) (r:Stmt),Vi T N sc s r=true->GoodS X r (wSt Δ s)
 | .asg t e,r,h=>by
   replace h:=a7 h;obtain⟨v,hv,h⟩:=h;replace h:=a7 h;obtain⟨rt,hrt,h⟩:=h;obtain⟨pos,rfl⟩:=Fl hv;simp only[Bool.and_eq_true]at h;obtain⟨⟨⟨h1,h2⟩,h3⟩,h4⟩:=h;rw[A0 hrt];exact⟨Ln C hk h1 h2 h3 h4,HQ (c4 e _ C h2).m⟩
 | .put o i e,r,h=>by
   replace h:=a7 h;obtain⟨v,hv,h⟩:=h;replace h:=a7 h;obtain⟨rt,hrt,h⟩:=h;replace h:=a7 h;obtain⟨oi,hoi,h⟩:=h;obtain⟨pos,rfl⟩:=Fl hv;obtain⟨p2,e2⟩:=BS hoi;simp only[Bool.and_eq_true]at h;rw[A0 hrt,e2];have go:=c4 o _ C h.1.1.1;have gi:=c4 i _ C h.1.1.2;have ge:=c4 e _ C h.1.2;refine⟨y4 _ (MU ge.pe (Sf go.pe gi.pe GL (J1 h.2)) U8 UA (Rz rfl)) (Qn go.m gi.m ge.m),?_⟩;exact fun D D' ρ S l h=>ge.m _ _ _ _ (fun v S1 q=>go.m _ _ _ _ (fun x S2 q=>gi.m _ _ _ _ (fun y S3 q=>EC (fun S4 q=>l.nx _ _ q) q) q) q) h
 | .augS o i e,r,h=>by
   replace h:=a7 h;obtain⟨v,hv,h⟩:=h;replace h:=a7 h;obtain⟨oi,hoi,h⟩:=h;obtain⟨pos,rfl⟩:=Qf hv;obtain⟨p2,e2⟩:=BS hoi;simp only[Bool.and_eq_true]at h;rw[OH h.1.1.1.1,e2];have go:=c4 o _ C h.1.1.1.2;have gi:=c4 i _ C h.1.1.2;have ge:=c4 e _ C h.1.2;refine⟨y4 _ (Pd go.pe gi.pe U6 ge.pe Sh GL (Qq h.2)) (Qp go.m gi.m ge.m),?_⟩;exact fun D D' ρ S l h=>go.m _ _ _ _ (fun x S1 q=>gi.m _ _ _ _ (fun y S2 ⟨k,j,xs,a,e1,e2,h1,h2,q⟩=>⟨k,j,xs,a,e1,e2,h1,h2,ge.m _ _ _ _ (fun v S4 ⟨b,ys,e1,h4,h5,q⟩=>⟨b,ys,e1,h4,h5,l.nx _ _ q⟩) q⟩) q) h
 | .dput o i e,r,h=>by
   replace h:=a7 h;obtain⟨v,hv,h⟩:=h;replace h:=a7 h;obtain⟨rt,hrt,h⟩:=h;replace h:=a7 h;obtain⟨oi,hoi,h⟩:=h;obtain⟨pos,rfl⟩:=Fl hv;obtain⟨p2,e2⟩:=BS hoi;simp only[Bool.and_eq_true]at h;rw[A0 hrt,e2];have go:=c4 o _ C h.1.1.1;have gi:=c4 i _ C h.1.1.2;have ge:=c4 e _ C h.1.2;have:=C.un;refine⟨y4 _ (NP (by omega) go.pe gi.pe ge.pe (by unfold swapsWith;cases v.2<;>rfl)) (OJ go.m gi.m ge.m),?_⟩;exact fun D D' ρ S l h=>ge.m _ _ _ _ (fun v S1 q=>go.m _ _ _ _ (fun x S2 q=>gi.m _ _ _ _ (fun y S3 q=>FA (fun S4 q=>l.nx _ _ q) q) q) q) h
 | .expr e,r,h=>by
   replace h:=a7 h;obtain⟨re,hre,h⟩:=h;obtain⟨pos,rfl⟩:=Qg hre;simp only[Bool.and_eq_true]at h;have ge:=c4 e _ C h.1
   have hs:swapsWith re none pos.line X.env=pure false:=by
    have:=h.2;unfold swapsWith;cases re<;>first | rfl | (unfold Cc at this;cases this)
   refine⟨y4 _ (PZ ge.pe hs) ?_,fun D D' ρ S l h=>ge.m _ _ _ _ (fun x S1 q=>l.nx _ _ q) h⟩;rintro D σ H ⟨as,ρ,S,ok,en,h⟩;exact⟨as,ρ,S,ok,en,ge.m _ _ _ _ (fun x S1 q as1 H1 v g1 ok1 rv=>q as1 H1 σ g1 ok1 (en.mono g1.pre (g1.ku ok))) h⟩
 | .iff t a b,r,h=>by
   replace h:=a7 h;obtain⟨v,hv,h⟩:=h;obtain⟨pos,rfl⟩:=Qh hv;simp only[Bool.and_eq_true]at h;have gt:=c4 t _ C h.1.1;have ga:=BJ C hp hk a _ h.1.2;have gb:=BJ C hp hk b _ h.2;exact⟨y4 _ (UX gt.pt ga.ps gb.ps) (U5 gt.mt ga.m gb.m),HS gt.mt ga.m gb.m⟩
 | .loop g it b,r,h=>by
   replace h:=a7 h;obtain⟨v,hv,h⟩:=h;obtain⟨pos,rfl⟩:=Qi hv;simp only[Bool.and_eq_true,List.isEmpty_iff]at h;obtain⟨⟨⟨⟨h1,h2⟩,h3⟩,h4⟩,h5⟩:=h;rw[h5];have gi:=w6 it _ _ C h2;have gb:=BJ C hp hk b _ h4;refine⟨y4 _ (Si hp C.calm gi.pi (v8 C g _ h1) gb.ps (j5 h3)) (Ql gi.m gb.m),?_⟩;exact fun D D' ρ S l h=>gi.m _ _ _ _ (fun keep xs S1 q=>C8 gb.m xs l _ _ q) h
 | .whl t b,r,h=>by
   replace h:=a7 h;obtain⟨v,hv,h⟩:=h;obtain⟨pos,rfl⟩:=Qj hv;simp only[Bool.and_eq_true,List.isEmpty_iff]at h;rw[h.2];have gt:=c4 t _ C h.1.1;have gb:=BJ C hp hk b _ h.1.2;exact⟨y4 _ (MW hp gt.pt gb.ps) (Qm gt.mt gb.m),HR gt.mt gb.m⟩
 | .ret e,r,h=>by
   replace h:=a7 h;obtain⟨o,ho,h⟩:=h;replace h:=a7 h;obtain⟨re,hre,h⟩:=h;obtain⟨pos,rfl⟩:=K0 ho;rw[hre];have ge:=c4 e _ C h;exact⟨y4 _ (Sc ge.pe) fun D σ H ⟨as,ρ,S,ok,en,h⟩=>⟨as,ρ,S,ok,en,h⟩,fun D D' ρ S l h=>ge.m _ _ _ _ l.rt h⟩
 | .retN,r,h=>by
   replace h:=a7 h;obtain⟨o,ho,h⟩:=h;obtain⟨pos,rfl⟩:=K0 ho;rw[Option.isNone_iff_eq_none.mp h];exact⟨y4 _ Pa fun D σ H ⟨as,ρ,S,ok,en,h⟩=>Post.here h ok (rl_non.mpr rfl),fun D D' ρ S l h=>l.rt _ _ h⟩
 | .no,r,h=>⟨fun _ _ _ _ _ _ h=>let ⟨_,_,_,_,_,z⟩:=h;z.elim,fun _ _ _ _ _ h=>h⟩
theorem BJ(C:Cok T Δ X N.length N sc)(hp:PassesOwn (model X.prog X.w) X.A X.env X.xe)(hk:sc.kind = .function):∀(s:List Stm) (r:List Stmt),Cs T N sc s r=true->GoodSs X r (wSs Δ s)
 | [],r,h=>by
   rw[Cs,List.isEmpty_iff]at h;subst h;exact J0
 | s::ss,r,h=>by
   rw[Cs]at h;replace h:=a7 h;obtain⟨x,hx,h⟩:=h;rw[Bool.and_eq_true]at h;rw[B0 hx];have:=HP (OK C hp hk s x h.1) (BJ C hp hk ss _ h.2);rw[wSs];exact this
end
end
open PySem L2
mutual
theorem a8{Δ:Nat->Sn}(hΔ:∀ f,MonoN (Δ f)):∀(e:Ex),Mono (wEx Δ e).1/\MonoT (wEx Δ e).2
 | .var i=>⟨.var,.tru .var⟩
 | .c x=>⟨.c,.tru .c⟩
 | .op o a b=>have m:Mono _ := .two (s:=sOp o) Jq (a8 hΔ a).1 (a8 hΔ b).1;⟨m,.tru m⟩
 | .neg a=>have m:Mono _ := .one E6 (a8 hΔ a).1;⟨m,.tru m⟩
 | .cmp o a b=>have m:Mono _ := .two (s:=BR o) AX (a8 hΔ a).1 (a8 hΔ b).1;⟨m,.bl m⟩
 | .chn o p a b c=>have m:=Gn (o:=o) (p:=p) (a8 hΔ a).1 (a8 hΔ b).1 (a8 hΔ c).1;⟨m,.bl m⟩
 | .and a b=>⟨.and (a8 hΔ a).1 (a8 hΔ b).1,.and (a8 hΔ a).2 (a8 hΔ b).2⟩
 | .or a b=>⟨.or (a8 hΔ a).1 (a8 hΔ b).1,.or (a8 hΔ a).2 (a8 hΔ b).2⟩
 | .not a=>⟨.not (a8 hΔ a).1,.not (a8 hΔ a).2⟩
 | .ife t a b=>⟨.ifE (a8 hΔ t).2 (a8 hΔ a).1 (a8 hΔ b).1,fun _ _ _ _ _ h=>h⟩
 | .tup es=>have m:Mono _ := .n .tup (BK hΔ es);⟨m,.tru m⟩
 | .lst es=>have m:Mono _ := .n .lst (BK hΔ es);⟨m,.tru m⟩
 | .ix a b=>have m:Mono _ := .two .ix (a8 hΔ a).1 (a8 hΔ b).1;⟨m,.tru m⟩
 | .slc a lo hi=>have m:Mono _:=(fun ρ S P P' i h=>(a8 hΔ a).1 _ _ _ _ (fun x S1 h=>(i7 hΔ lo).1 _ _ _ _ (fun l S2 h=>(i7 hΔ hi).1 _ _ _ _ (fun k S3 h=>E8 i h) h) h) h:Mono (Th _ _ _));⟨m,.tru m⟩
 | .call f es=>have m:Mono _ := .n (hΔ f) (BK hΔ es);⟨m,.tru m⟩
 | .bi b es=>have m:Mono _ := .n (s:=sBi b) .bi (BK hΔ es);⟨m,.tru m⟩
 | .mt m' a es=>have m:Mono _:=Mono.mt (m:=m') (a8 hΔ a).1 (BK hΔ es);⟨m,.tru m⟩
 | .comp own cn js g it t e=>have m:Mono _:=Mono.comp (k:=own.length) (js:=js) (g:=g) (Ar hΔ it) (i7 hΔ t).2 (a8 hΔ e).1;⟨m,.tru m⟩
 | .comp2 own cn js g it t g2 it2 t2 e=>have m:Mono _:=Mono.comp2 (k:=own.length) (js:=js) (g:=g) (g2:=g2) (Ar hΔ it) (i7 hΔ t).2 (Ar hΔ it2) (i7 hΔ t2).2 (a8 hΔ e).1;⟨m,.tru m⟩
 | .tyc t=>⟨.c,.tru .c⟩
 | .lrng1 a=>have m:=E9 (a8 hΔ a).1;⟨m,.tru m⟩
 | .rev a=>have m:Mono _ := .one Gv (a8 hΔ a).1;⟨m,.tru m⟩
 | .max1 a=>have m:=F5 (a8 hΔ a).1;⟨m,.tru m⟩
 | .maxd a d=>have m:=F6 (a8 hΔ a).1 (a8 hΔ d).1;⟨m,.tru m⟩
 | .dcomp own cn js g it t e f=>have m:Mono _:=Mono.dcomp (k:=own.length) (js:=js) (g:=g) (Ar hΔ it) (i7 hΔ t).2 (a8 hΔ e).1 (a8 hΔ f).1;⟨m,.tru m⟩
 | .srtsc own cn js g it t e=>have m:Mono _:=Mono.srtsc (k:=own.length) (js:=js) (g:=g) (Ar hΔ it) (i7 hΔ t).2 (a8 hΔ e).1;⟨m,.tru m⟩
 | .eqt0 a b=>have m:Mono _ := .two C6 (a8 hΔ a).1 (a8 hΔ b).1;⟨m,.bl m⟩
 | .dget a b=>have m:Mono _ := .two DA (a8 hΔ a).1 (a8 hΔ b).1;⟨m,.tru m⟩
 | .din n a b=>have m:Mono _ := .two (s:=LB n) BH (a8 hΔ a).1 (a8 hΔ b).1;⟨m,.bl m⟩
 | .no=>⟨fun _ _ _ _ _ h=>h,fun _ _ _ _ _ h=>h⟩
theorem BK{Δ:Nat->Sn}(hΔ:∀ f,MonoN (Δ f)):∀(es:Exs),MonoA (Gg Δ es)
 | .nil => .nil
 | .cons e es => .cons (a8 hΔ e).1 (BK hΔ es)
theorem i7{Δ:Nat->Sn}(hΔ:∀ f,MonoN (Δ f)):∀(o:Eo),MonoO (wEo Δ o).1/\MonoT (wEo Δ o).2
 | .no=>⟨.no,fun _ _ _ _ i q=>i _ _ q⟩
 | .yes e=>⟨.yes (a8 hΔ e).1,(a8 hΔ e).2⟩
theorem Ar{Δ:Nat->Sn}(hΔ:∀ f,MonoN (Δ f)):∀(it:Itb),MonoI (Fh Δ it)
 | .seq e=>fun ρ S P P' i h=>(a8 hΔ e).1 _ _ _ _ (fun x S1 ⟨xs,e,q⟩=>⟨xs,e,i _ _ _ q⟩) h
 | .rng1 a=>fun ρ S P P' i h=>(a8 hΔ a).1 _ _ _ _ (fun x S1 ⟨j,e,z,q⟩=>⟨j,e,z,i _ _ _ q⟩) h
 | .enum e=>fun ρ S P P' i h=>(a8 hΔ e).1 _ _ _ _ (fun x S1 ⟨xs,e,q⟩=>⟨xs,e,i _ _ _ q⟩) h
 | .dk e=>fun ρ S P P' i h=>(a8 hΔ e).1 _ _ _ _ (fun x S1 ⟨k,kvs,e,hk,q⟩=>⟨k,kvs,e,hk,fun o ks=>i _ _ _ (q o ks)⟩) h
 | .rngT a b=>fun ρ S P P' i h=>(a8 hΔ a).1 _ _ _ _ (fun x S1 h=>(a8 hΔ b).1 _ _ _ _ (fun y S2 ⟨l,j,e,e2,z,q⟩=>⟨l,j,e,e2,z,i _ _ _ q⟩) h) h
end
mutual
theorem Qr{Δ:Nat->Sn}(hΔ:∀ f,MonoN (Δ f)):∀(s:Stm),MonoS (wSt Δ s)
 | .asg t e=>by exact HQ (a8 hΔ e).1
 | .put o i e=>by exact fun D D' ρ S l h=>(a8 hΔ e).1 _ _ _ _ (fun v S1 q=>(a8 hΔ o).1 _ _ _ _ (fun x S2 q=>(a8 hΔ i).1 _ _ _ _ (fun y S3 q=>EC (fun S4 q=>l.nx _ _ q) q) q) q) h
 | .augS o i e=>by exact fun D D' ρ S l h=>(a8 hΔ o).1 _ _ _ _ (fun x S1 q=>(a8 hΔ i).1 _ _ _ _ (fun y S2 ⟨k,j,xs,a,e1,e2,h1,h2,q⟩=>⟨k,j,xs,a,e1,e2,h1,h2,(a8 hΔ e).1 _ _ _ _ (fun v S4 ⟨b,ys,e1,h4,h5,q⟩=>⟨b,ys,e1,h4,h5,l.nx _ _ q⟩) q⟩) q) h
 | .dput o i e=>by exact fun D D' ρ S l h=>(a8 hΔ e).1 _ _ _ _ (fun v S1 q=>(a8 hΔ o).1 _ _ _ _ (fun x S2 q=>(a8 hΔ i).1 _ _ _ _ (fun y S3 q=>FA (fun S4 q=>l.nx _ _ q) q) q) q) h
 | .expr e=>by exact fun D D' ρ S l h=>(a8 hΔ e).1 _ _ _ _ (fun x S1 q=>l.nx _ _ q) h
 | .iff t a b=>by exact HS (a8 hΔ t).2 (j4 hΔ a) (j4 hΔ b)
 | .loop g it b=>by exact fun D D' ρ S l h=>Ar hΔ it _ _ _ _ (fun keep xs S1 q=>C8 (j4 hΔ b) xs l _ _ q) h
 | .whl t b=>by exact HR (a8 hΔ t).2 (j4 hΔ b)
 | .ret e=>by exact fun D D' ρ S l h=>(a8 hΔ e).1 _ _ _ _ l.rt h
 | .retN=>by exact fun D D' ρ S l h=>l.rt _ _ h
 | .no=>by exact fun D D' ρ S l h=>h
theorem j4{Δ:Nat->Sn}(hΔ:∀ f,MonoN (Δ f)):∀(s:List Stm),MonoS (wSs Δ s)
 | []=>by exact fun D D' ρ S l h=>l.nx _ _ h
 | s::ss=>by exact fun D D' ρ S l h=>(Qr hΔ s).go (D:={D with nx:=wSs Δ ss D}) h ⟨fun ρ' S' q=>(j4 hΔ ss) _ _ _ _ l q,l.rt,l.bk,l.ct⟩
end
theorem Ed{P:List Value->Prop}(h:∀ a,P [a]):∀ us:List Value,us.length=1->P us
 | [a],_=>h a
theorem Cd{P:List Value->Prop}(h:∀ a b,P [a,b]):∀ us:List Value,us.length=2->P us
 | [a,b],_=>h a b
theorem OL{P:List Value->Prop}(h:∀ a b c,P [a,b,c]):∀ us:List Value,us.length=3->P us
 | [a,b,c],_=>h a b c
theorem UB{P:List Value->Prop}(h:∀ a b c d,P [a,b,c,d]):∀ us:List Value,us.length=4->P us
 | [a,b,c,d],_=>h a b c d
structure Df where
 name:Str
 st:Stmt
 ps:List Str
 N:List Str
 body:List Stm
def Ae(Q:QE):EndsS:=⟨fun _ S'=>Q .non S',Q,fun _ _=>False,fun _ _=>False⟩
def OM(n:Nat)(xs:List SV):EnvS:=xs.map some++List.replicate (n - xs.length) none
def i8(Δ:Nat->Sn)(D:Df):Sn:=fun xs S Q=>xs.length=D.ps.length/\wSs Δ D.body (Ae Q) (OM D.N.length xs) S
def W(prog:List Df):Nat->Nat->Sn
 | 0,_=>fun _ _ _=>False
 | d+1,f=>match prog[f]? with
   | some D=>i8 (W prog d) D
   | none=>fun _ _ _=>False
theorem ON{Δ:Nat->Sn}(hΔ:∀ f,MonoN (Δ f))(D:Df):MonoN (i8 Δ D):=fun xs S P P' i h=>⟨h.1,(j4 hΔ D.body).go h.2 ⟨fun _ _ q=>i _ _ q,i,fun _ _ q=>q,fun _ _ q=>q⟩⟩
theorem ED{prog:List Df}:∀(d f:Nat),MonoN (W prog d f)
 | 0,f=>fun _ _ _ _ _ h=>h
 | d+1,f=>by
   unfold W;split
   ·exact ON (ED d) _
   ·exact fun _ _ _ _ _ h=>h
def fnB(N ps:List Str)(sc:Scope):Bool:=decide (sc.kind = .function)&&!sc.isCoroutine&&!sc.isGenerator&&decide N.Nodup&&decide (N.take ps.length=ps)&&ps.all (loc sc)&&sc.names.all (fun y=>!decide (y.2 = .free))
theorem UC{N ps:List Str}{sc:Scope}(h:fnB N ps sc=true):FnScope N ps sc:=by
 unfold fnB at h;simp only[Bool.and_eq_true,decide_eq_true_eq,Bool.not_eq_true',List.all_eq_true,decide_eq_false_iff_not]at h;obtain⟨⟨⟨⟨⟨⟨h1,h2⟩,h3⟩,h4⟩,h5⟩,h6⟩,h7⟩:=h;refine⟨h1,h2,h3,h4,h5,fun x hx=>?_,h7⟩;have:=h6 x hx;unfold loc at this;simpa using this
def Qs(T:List Str)(D:Df):Bool:=fnB D.N D.ps (defScope D.st)&&Cs T D.N (defScope D.st) D.body (defBody D.st)
structure Bl(mg:Str->Option Value):Prop where
 bl:∀ b:BI,mg b.name=none
 rng:mg "range"=none
 enm:mg "enumerate"=none
 zip:mg "zip"=none
 st0:mg "set"=none
 dc0:mg "dict"=none
 ty:∀ t:TyN,t ≠ .none->mg (Str.ofString t.nm)=none
section
variable{P:Program}{w:World}{K:PySem.W.Frag}{mg:Str->Option Value}{base:Heap}
theorem Lo{as:List Addr}{H:Hp}{N:List Str}{vs:List V}{xs:List SV}(r:RlAll K as H vs xs):EnvOk K as H (L2.start N vs) (OM N.length xs):=by
 unfold L2.start OM;rw[<-r.length];refine⟨by simp[r.length],fun i x e=>?_⟩;by_cases hi:i<vs.length
 ·rw[List.getElem?_append_left (by rw[List.length_map,<-r.length];exact hi),List.getElem?_map]at e;rw[List.getElem?_append_left (by simpa using hi),List.getElem?_map];cases hx:xs[i]? with
  | none=>rw[hx]at e;cases e
  | some y=>
    rw[hx]at e;have:y=x:=by simpa using e
    subst this;obtain⟨v,hv,rv⟩:=r.get hx;exact⟨v,by rw[hv];rfl,rv⟩
 ·rw[List.getElem?_append_right (by rw[List.length_map,<-r.length];omega),List.getElem?_replicate]at e;split at e<;>cases e
theorem OO{T:List Str}{Δ:Nat->Sn}{D:Df}{f:Addr}{fd:FuncData}{k:Nat}(F:Fun K D.name D.name D.st f fd)(hc:Qs T D=true)(B:Bl mg)(hcall:∀ f x,T[f]?=some x->∃ ps,Cal P w K mg base k x ps (spS K (Δ f)))(hΔ:∀ f,MonoN (Δ f)):FnOk P w K mg base CX0 (k+1) f fd D.ps (spS K (i8 Δ D)):=by
 unfold Qs at hc;rw[Bool.and_eq_true]at hc;have S:=UC hc.1;refine F.ok S (fun vs H Q E h=>?_) (fun cdv A outer s H vs Q E hr h=>?_)
 ·obtain⟨as,S,xs,ok,r,hl,_⟩:=h;rw[r.length];exact hl
 ·have C:Cok T Δ (II CX0 P w K mg base D.N D.name (defScope D.st) f cdv A outer s H E).nox D.N.length D.N (defScope D.st):={
   hN:=rfl,hs:=rfl,nd:=S.nd,calm:=rfl,fn:=fun _ _ _ _ _=>rfl
   un:=by have:=hr.un;show(A.deeper _).units+100<cLine;omega
   bl:=B.bl,rng:=B.rng,enm:=B.enm,zip:=B.zip,st0:=B.st0,dc0:=B.dc0,ty:=B.ty,gd:=hr.gd
   call:=fun g x hx=>let ⟨ps,c⟩:=hcall g x hx;⟨k,ps,c,hr⟩
   mono:=hΔ}
  refine⟨_,(BJ C PassesOwn.never S.kind D.body _ hc.2).ps,?_⟩;obtain⟨as,S,xs,ok,r,hl,h⟩:=h;refine⟨as,_,S,ok,Lo r,(j4 hΔ D.body).go h ⟨fun ρ' S' q as' H' σ' g ok' en'=>q as' H' _ g ok' (rl_non.mpr rfl),fun x S' q=>q,fun _ _ q=>q.elim,fun _ _ q=>q.elim⟩⟩
structure PIn(K:PySem.W.Frag)(mg:Str->Option Value)(D:Df):Prop where
 ex:∃ f fd,Fun K D.name D.name D.st f fd/\mg D.name=some (.ref f)/\PySem.W.keepIn K (.ref f)=true/\Binds K fd D.ps []
theorem K7{prog:List Df}(hc:prog.all (Qs (prog.map (·.name)))=true)(B:Bl mg)(hin:∀ D∈prog,PIn K mg D):∀(d f:Nat) (D:Df),prog[f]?=some D->Cal P w K mg base d D.name D.ps (spS K (W prog d f))
 | 0,f,D,hf=>by
   obtain⟨fa,fd,F,hm,hk,hb⟩:=(hin D (List.mem_of_getElem? hf)).ex;refine⟨fa,fd,⟨fun vs H Q E h=>?_,fun A outer s H args us vs Q E hr he hbn hv h=>?_⟩,hm,hk,hb⟩
   ·obtain⟨_,_,_,_,_,z⟩:=h;exact z.elim
   ·obtain⟨_,_,_,_,_,z⟩:=h;exact z.elim
 | d+1,f,D,hf=>by
   obtain⟨fa,fd,F,hm,hk,hb⟩:=(hin D (List.mem_of_getElem? hf)).ex;have h1:=List.all_eq_true.mp hc D (List.mem_of_getElem? hf)
   have:=OO (Δ:=W prog d) (P:=P) (w:=w) (base:=base) (k:=d) F h1 B (fun g x hx=>by
    rw[List.getElem?_map]at hx;cases hg:prog[g]? with
    | none=>rw[hg]at hx;cases hx
    | some D'=>
      rw[hg]at hx;have:D'.name=x:=by simpa using hx
      subst this;exact⟨D'.ps,K7 hc B hin d g D' hg⟩) (ED d)
   have e:W prog (d+1) f=i8 (W prog d) D:=by rw[W,hf]
   rw[e];exact⟨fa,fd,this,hm,hk,hb⟩
theorem UD{prog:List Df}{d f:Nat}{H:Hp}{a:Addr}{ns:List Int}(main:W prog d f [.ro (ns.map SV.int)] [] fun x _=>x = .bl true)(hO:Pm H)(hS:SqL K H a (ns.map V.int)):spS K (W prog d f) [.ref a] H (fun v _=>v = .bl true) fun _ _ _=>False:=by
 have hz:FzL K H a (ns.map V.int):=by
  rcases hS with(h | ⟨o,h⟩) | h
  ·rcases hO a with z | ⟨o,xs,z⟩<;>rw[h]at z<;>cases z
  ·exact .inl ⟨o,h⟩
  ·exact .inr h
 refine⟨[],[],_,⟨rfl,List.nodup_nil,fun k o a e=>by simp at e⟩,.cons (rl_ro.mpr ⟨a,_,rfl,hz,RlAll.ints⟩) .nil,ED d f _ _ _ _ (fun x S' e as' H' v g ok r=>?_) main⟩;subst e;exact rl_bl.mp r
end
open PySem L2
theorem c5{k:Nat}{S:Sto}{xs:List SV}(h:S[k]?=some (.lst xs)):BF (.loc k) S=some xs:=by simp only[BF,h]
theorem OP{k:Nat}{S:Sto}{xs:List SV}(h:S[k]?=some (.lst xs)):F1 (.loc k) S=none:=by simp only[F1,h]
theorem Da{k:Nat}{S:Sto}{xs:List SV}(h:S[k]?=some (.lst xs)):NS (.loc k) S=some (!xs.isEmpty):=by simp only[NS,h]
theorem OQ{k:Nat}{S:Sto}{xs:List SV}(h:S[k]?=some (.lst xs)):tyS (.loc k) S=some .list:=by simp only[tyS,h]
theorem ifT{b:Bool}{A B:Prop}(h:b=true)(a:A):if b=true then A else B:=by rw[if_pos h];exact a
theorem ifF{b:Bool}{A B:Prop}(h:b=false)(a:B):if b=true then A else B:=by rw[if_neg (by rw[h];decide)];exact a
theorem ifD{c A B:Prop}[Decidable c](h1:c->A)(h2:¬ c->B):if decide c=true then A else B:=by
 by_cases h:c
 ·rw[if_pos (decide_eq_true h)];exact h1 h
 ·rw[if_neg (by simpa using h)];exact h2 h
theorem ifB{b:Bool}{A B:Prop}(h1:b=true->A)(h2:b=false->B):if b=true then A else B:=by
 cases b with
 | true=>rw[if_pos rfl];exact h1 rfl
 | false=>rw[if_neg (by decide)];exact h2 rfl
theorem j7{S:Sto}{k:Nat}{o u:SO}(h:S[k]?=some o):(S.set k u)[k]?=some u:=List.getElem?_set_self ((gM h).1)
theorem j8{S:Sto}{k j:Nat}{u:SO}(h:k≠j):(S.set k u)[j]?=S[j]?:=List.getElem?_set_ne h
theorem c8{S:Sto}{o:SO}:(S++[o])[S.length]?=some o:=List.getElem?_concat_length
theorem f6{S:Sto}{o u:SO}{k:Nat}(h:S[k]?=some u):(S++[o])[k]?=some u:=by
 rw[List.getElem?_append_left ((gM h).1)];exact h
theorem v5{S:Sto}{o:SO}{k:Nat}(h:S[k]?=some o):k<S.length:=(gM h).1
structure TapeS(S:Sto)(t:Nat):Prop where
 ex:∃ a b:Int,S[t]?=some (.lst [.int a,.int b])/\0<=a/\0<=b/\b<2147483647
structure On(t:Nat)(S S':Sto):Prop where
 len:S.length<=S'.length
 keep:∀ k o,k≠t->S[k]?=some o->S'[k]?=some o
theorem On.refl(t:Nat)(S:Sto):On t S S:=⟨Nat.le_refl _,fun _ _ _ h=>h⟩
theorem On.trans{t:Nat}{S S' S'':Sto}(a:On t S S')(b:On t S' S''):On t S S'':=⟨Nat.le_trans a.len b.len,fun k o n h=>b.keep k o n (a.keep k o n h)⟩
theorem On.push{t:Nat}{S S':Sto}{o:SO}(a:On t S S'):On t S (S'++[o]):=⟨by rw[List.length_append];have:=a.len;omega,fun k u n h=>f6 (a.keep k u n h)⟩
theorem On.tape{t:Nat}{S S':Sto}{o:SO}(a:On t S S'):On t S (S'.set t o):=⟨by rw[List.length_set];exact a.len,fun k u n h=>by rw[j8 (Ne.symm n)];exact a.keep k u n h⟩
theorem On.new{t k:Nat}{S S':Sto}{o:SO}(a:On t S S')(h:S.length<=k):On t S (S'.set k o):=⟨by rw[List.length_set];exact a.len,fun j u n hj=>by
 rw[j8 (fun z=>by have:=v5 hj;omega)];exact a.keep j u n hj⟩
theorem TapeS.push{S:Sto}{t:Nat}{o:SO}(h:TapeS S t):TapeS (S++[o]) t:=let ⟨a,b,e,z⟩:=h.ex;⟨a,b,f6 e,z⟩
theorem TapeS.other{S:Sto}{t k:Nat}{o:SO}(h:TapeS S t)(n:k≠t):TapeS (S.set k o) t:=let ⟨a,b,e,z⟩:=h.ex;⟨a,b,by rw[j8 n];exact e,z⟩
theorem TapeS.lt{S:Sto}{t:Nat}(h:TapeS S t):t<S.length:=let ⟨_,_,e,_⟩:=h.ex;v5 e
theorem v9{keep:Sto->Prop}{g:Tg}{b:WS}{D:EndsS}(mb:MonoS b)(I:Nat->EnvS->Sto->Prop){xs:List SV}{ρ:EnvS}{S:Sto}(h0:I 0 ρ S)(hk:∀ i ρ S,I i ρ S->keep S)
 (hs:∀ i x ρ S,xs[i]?=some x->I i ρ S->wTg g x ρ fun ρ2=>b {D with nx:=I (i+1),ct:=I (i+1),bk:=D.nx} ρ2 S) (hd:∀ ρ S,I xs.length ρ S->D.nx ρ S):AG keep g b D xs ρ S:=by
 have go:∀(ys:List SV) (i:Nat) (ρ:EnvS) (S:Sto),xs.drop i=ys->i<=xs.length->I i ρ S->AG keep g b D ys ρ S:=by
  intro ys
  induction ys with
  | nil=>
    intro i ρ S e hi h
    have:i=xs.length:=by
     have:=congrArg List.length e;rw[List.length_drop,List.length_nil]at this;omega
    subst this;unfold AG;exact⟨hk _ _ _ h,hd _ _ h⟩
  | cons y ys ih=>
    intro i ρ S e hi h
    have hy:xs[i]?=some y:=by
     rw[<-List.head?_drop,e];rfl
    have hlt:=(gM hy).1;have e2:xs.drop (i+1)=ys:=by rw[<-List.tail_drop,e];rfl
    unfold AG;refine⟨hk _ _ _ h,j6 g (fun ρ2 q=>?_) (hs i y ρ S hy h)⟩;exact mb.go (D:={D with nx:=I (i+1),ct:=I (i+1),bk:=D.nx}) q ⟨fun ρ' S' z=>ih (i+1) ρ' S' e2 hlt z,fun _ _ z=>z,fun _ _ z=>z,fun ρ' S' z=>ih (i+1) ρ' S' e2 hlt z⟩
 exact go xs 0 ρ S rfl (Nat.zero_le _) h0
theorem BU{keep:Sto->Prop}{g:Tg}{b:WS}{D:EndsS}(mb:MonoS b)(I:Nat->EnvS->Sto->Prop){xs:List SV}{ρ:EnvS}{S:Sto}(h0:I 0 ρ S)(hk:∀ i ρ S,I i ρ S->keep S)
 (hs:∀ i x ρ S (E:EndsS),(∀ ρ S,I (i+1) ρ S->E.nx ρ S)->(∀ y S,D.rt y S->E.rt y S)->xs[i]?=some x->I i ρ S->wTg g x ρ fun ρ2=>b E ρ2 S) (hd:∀ ρ S,I xs.length ρ S->D.nx ρ S):AG keep g b D xs ρ S:=
 v9 mb I h0 hk (fun i x ρ S hx hI=>hs i x ρ S {D with nx:=I (i+1),ct:=I (i+1),bk:=D.nx} (fun _ _ h=>h) (fun _ _ h=>h) hx hI) hd
theorem K9{b:WS}{nx ct bk:EnvS->Sto->Prop}{rt:SV->Sto->Prop}{ρ:EnvS}{S:Sto}(h:∀ E:EndsS,(∀ ρ S,nx ρ S->E.nx ρ S)->(∀ x S,rt x S->E.rt x S)->b E ρ S):b ⟨nx,rt,bk,ct⟩ ρ S:=h _ (fun _ _ z=>z) (fun _ _ z=>z)
theorem l9{keep:Sto->Prop}{g:Tg}{t:WT}{e:WE}{ρ:EnvS}{Q:List SV->Sto->Prop}(mt:MonoT t)(me:Mono e)(I:Nat->List SV->Sto->Prop){xs:List SV}{S:Sto}(h0:I 0 [] S)(hk:∀ i ys S,I i ys S->keep S)
 (hs:∀ i x ys S,xs[i]?=some x->I i ys S->wTg g x ρ fun ρ2=>t ρ2 S fun b S1=>if b=true then e ρ2 S1 fun y S2=>ys.length<big/\I (i+1) (ys++[y]) S2 else I (i+1) ys S1) (hd:∀ ys S,I xs.length ys S->Q ys S):w9 keep g t e ρ Q xs [] S:=by
 have go:∀(zs:List SV) (i:Nat) (ys:List SV) (S:Sto),xs.drop i=zs->i<=xs.length->I i ys S->w9 keep g t e ρ Q zs ys S:=by
  intro zs
  induction zs with
  | nil=>
    intro i ys S e' hi h
    have:i=xs.length:=by
     have:=congrArg List.length e';rw[List.length_drop,List.length_nil]at this;omega
    subst this;unfold w9;exact⟨hk _ _ _ h,hd _ _ h⟩
  | cons y zs ih=>
    intro i ys S e' hi h;have hy:xs[i]?=some y:=by rw[<-List.head?_drop,e'];rfl
    have hlt:=(gM hy).1;have e2:xs.drop (i+1)=zs:=by rw[<-List.tail_drop,e'];rfl
    unfold w9;refine⟨hk _ _ _ h,j6 g (fun ρ2 q=>mt _ _ _ _ (fun b S1 q=>i4 (fun q=>me _ _ _ _ (fun v S2 q=>⟨q.1,ih (i+1) _ S2 e2 hlt q.2⟩) q) (fun q=>ih (i+1) _ S1 e2 hlt q) q) q) (hs i y ys S hy h)⟩
 exact go xs 0 [] S rfl (Nat.zero_le _) h0
theorem AT{lo hi:Int}{i:Nat}{x:SV}(h:(CN lo hi)[i]?=some x):x = .int (lo+i)/\lo+i<hi:=by
 unfold CN at h
 have hi':i<(hi - lo).toNat:=by
  have:=(gM h).1;simpa using this
 rw[List.getElem?_map,List.getElem?_range hi']at h;exact⟨(oj h).symm,by omega⟩
theorem B4{lo hi:Int}:(CN lo hi).length=(hi - lo).toNat:=by unfold CN;simp
def pairS(e:Nat×Nat):SV := .tup [.int e.1,.int e.2]
open PySem L2
def SA:List Stm:=[(.asg (.nm 2) (.c (.int 0))),(.iff (.cmp .Lt (.var 1) (.bi .len (.cons (.var 0) .nil))) [(.asg (.nm 2) (.ix (.var 0) (.var 1)))] []),(.asg (.nm 3) (.op .Mult (.bi .abs (.cons (.var 2) .nil)) (.bi .int (.cons (.cmp .GtE (.bi .abs (.cons (.var 2) .nil)) (.op .Pow (.c (.int 10)) (.c (.int 18)))) .nil)))),(.ret (.lst (.cons (.var 3) (.cons (.op .Mod (.op .Mult (.op .Mod (.op .Add (.op .Add (.var 2) (.op .Mult (.c (.int 7919)) (.var 1))) (.c (.int 1))) (.c (.int 2147483647))) (.c (.int 48271))) (.c (.int 2147483647))) .nil))))]
def SB:List Stm:=[(.iff (.cmp .Gt (.ix (.var 0) (.c (.int 0))) (.c (.int 0))) [(.asg (.nm 2) (.op .Mod (.ix (.var 0) (.c (.int 0))) (.var 1))),(.put (.var 0) (.c (.int 0)) (.op .FloorDiv (.ix (.var 0) (.c (.int 0))) (.var 1))),(.ret (.var 2))] []),(.put (.var 0) (.c (.int 1)) (.op .Mod (.op .Add (.op .Mult (.ix (.var 0) (.c (.int 1))) (.c (.int 48271))) (.c (.int 12345))) (.c (.int 2147483647)))),(.asg (.nm 3) (.op .Mod (.op .Mult (.ix (.var 0) (.c (.int 1))) (.op .Add (.op .Mod (.ix (.var 0) (.c (.int 1))) (.c (.int 1009))) (.c (.int 3)))) (.c (.int 2147483629)))),(.ret (.op .Mod (.op .Mod (.op .Mult (.var 3) (.op .Add (.op .Mod (.var 3) (.c (.int 997))) (.c (.int 5)))) (.c (.int 998244353))) (.var 1)))]
def Bx(s:Sn):Prop:=∀{t:Nat} {m:Int} {S:Sto} {Q:QE},TapeS S t->0<m->m<1073741824->(∀(r:Int) (S':Sto),0<=r->r<m->TapeS S' t->On t S S'->S'.length=S.length->Q (.int r) S')->s [.loc t,.int m] S Q
def OR(s:Sn):Prop:=∀{ns:List Int} {k:Nat} {S:Sto} {Q:QE},ns.length<=63->k<=1000->(∀ a b:Int,0<=a->0<=b->b<2147483647->Q (.loc S.length) (S++[.lst [.int a,.int b]]))->s [.ro (ns.map SV.int),.int k] S Q
theorem b01(b:Bool):-(2 ^ 64)<(if b=true then (1:Int) else 0)/\(if b=true then (1:Int) else 0)<2 ^ 64:=by cases b<;>decide
theorem b00(b:Bool):0<=(if b=true then (1:Int) else 0):=by cases b<;>decide
theorem Qt{Δ:Nat->Sn}{D:Df}(hb:D.body=SB)(hN:D.N.length=4)(hp:D.ps.length=2):Bx (i8 Δ D):=by
 intro t m S Q T h0 h1 q;obtain⟨a,b,hS,ha,hb0,hb1⟩:=T.ex;unfold i8;rw[hb,hN];refine⟨hp.symm,?_⟩;have go:∀ r a' b':Int,0<=r->r<m->0<=a'->0<=b'->b'<2147483647->Q (.int r) (S.set t (.lst [.int a',.int b'])):=fun r a' b' r0 r1 a0 b0 b1=>q r _ r0 r1 ⟨a',b',j7 hS,a0,b0,b1⟩ (On.refl t S).tape (by rw[List.length_set]);refine⟨_,rfl,_,_,c5 hS,rfl,_,rfl,ifD (fun h=>?_) (fun h=>?_)⟩
 ·refine⟨_,rfl,_,_,c5 hS,rfl,_,rfl,h0,?_⟩;refine⟨_,rfl,_,_,c5 hS,rfl,_,rfl,⟨h0,h1⟩,_,rfl,_,_,hS,rfl,_,rfl,?_⟩;exact go _ _ _ (Int.emod_nonneg _ (by omega)) (Int.emod_lt_of_pos _ h0) (Int.ediv_nonneg ha (by omega)) hb0 hb1
 ·refine⟨_,rfl,_,_,c5 hS,rfl,.inr (by decide),show(0:Int)<2147483647 by decide,_,rfl,_,_,hS,rfl,?_⟩;have e0:0<=(b * 48271+12345) % 2147483647:=Int.emod_nonneg _ (by decide);have e1:(b * 48271+12345) % 2147483647<2147483647:=Int.emod_lt_of_pos _ (by decide);have hS1:(S.set t (.lst [.int a,.int ((b * 48271+12345) % 2147483647)]))[t]?=some (.lst [.int a,.int ((b * 48271+12345) % 2147483647)]):=j7 hS;refine⟨_,rfl,_,_,c5 hS1,rfl,_,rfl,_,_,c5 hS1,rfl,show(0:Int)<1009 by decide,.inl ⟨by omega,by omega⟩,show(0:Int)<2147483629 by decide,?_⟩;have f0:0<=((b * 48271+12345) % 2147483647 * ((b * 48271+12345) % 2147483647 % 1009+3)) % 2147483629:=Int.emod_nonneg _ (by decide);have f1:((b * 48271+12345) % 2147483647 * ((b * 48271+12345) % 2147483647 % 1009+3)) % 2147483629<2147483629:=Int.emod_lt_of_pos _ (by decide);refine⟨_,rfl,_,rfl,show(0:Int)<997 by decide,.inl ⟨by omega,by omega⟩,show(0:Int)<998244353 by decide,_,rfl,h0,?_⟩;exact go _ _ _ (Int.emod_nonneg _ (by omega)) (Int.emod_lt_of_pos _ h0) ha e0 e1
theorem Qu{Δ:Nat->Sn}{D:Df}(hb:D.body=SA)(hN:D.N.length=4)(hp:D.ps.length=2):OR (i8 Δ D):=by
 intro ns k S Q hl hk q;unfold i8;rw[hb,hN];refine⟨hp.symm,?_⟩
 have fin:∀ c:Int,wSs Δ [(.asg (.nm 3) (.op .Mult (.bi .abs (.cons (.var 2) .nil)) (.bi .int (.cons (.cmp .GtE (.bi .abs (.cons (.var 2) .nil)) (.op .Pow (.c (.int 10)) (.c (.int 18)))) .nil)))),(.ret (.lst (.cons (.var 3) (.cons (.op .Mod (.op .Mult (.op .Mod (.op .Add (.op .Add (.var 2) (.op .Mult (.c (.int 7919)) (.var 1))) (.c (.int 1))) (.c (.int 2147483647))) (.c (.int 48271))) (.c (.int 2147483647))) .nil))))] (Ae Q) [some (.ro (ns.map SV.int)),some (.int k),some (.int c),none] S:=fun c=>by
  refine⟨_,rfl,_,rfl,⟨by decide,by decide,by decide⟩,.inr (b01 _),?_⟩;refine⟨_,rfl,_,rfl,_,rfl,.inl ⟨by decide,by decide⟩,show(0:Int)<2147483647 by decide,.inr ⟨by decide,by decide⟩,show(0:Int)<2147483647 by decide,by show 2<=big;decide,?_⟩;refine q _ _ (Int.mul_nonneg (by split<;>omega) (b00 _)) (Int.emod_nonneg _ (by decide)) (Int.emod_lt_of_pos _ (by decide))
 refine⟨_,rfl,_,rfl,_,rfl,_,rfl,ifD (fun h=>?_) (fun h=>fin 0)⟩
 have hk':k<ns.length:=by
  have:((ns.map SV.int).length:Int)=ns.length:=by rw[List.length_map]
  omega
 refine⟨_,rfl,_,rfl,_,_,rfl,f8 (v := .int ns[k]) (by rw[List.getElem?_map,List.getElem?_eq_getElem hk'];rfl),?_⟩;exact fin _
open PySem L2
structure Ah(t:Nat)(S0 S:Sto)(l:Nat)(es:EE):Prop where
 tape:TapeS S t
 on:On t S0 S
 at':S[l]?=some (.lst (es.map pairS))
 new:S0.length<=l
 t0:t<S0.length
theorem Ah.ne{t l:Nat}{S0 S:Sto}{es:EE}(h:Ah t S0 S l es):l≠t:=by have:=h.new;have:=h.t0;omega
theorem Ah.draw{t l:Nat}{S0 S S':Sto}{es:EE}(h:Ah t S0 S l es)(T:TapeS S' t)(O:On t S S'):Ah t S0 S' l es:=⟨T,h.on.trans O,O.keep _ _ h.ne h.at',h.new,h.t0⟩
theorem Ah.push{t l:Nat}{S0 S:Sto}{es:EE}{o:SO}(h:Ah t S0 S l es):Ah t S0 (S++[o]) l es:=⟨h.tape.push,h.on.push,f6 h.at',h.new,h.t0⟩
theorem Ah.put{t l:Nat}{S0 S:Sto}{es fs:EE}(h:Ah t S0 S l es):Ah t S0 (S.set l (.lst (fs.map pairS))) l fs:=⟨h.tape.other h.ne,h.on.new h.new,j7 h.at',h.new,h.t0⟩
open PySem L2
def i3(n:Nat)(es:EE):SV := .tup [.int n,.tup (es.map pairS)]
theorem EF{xs:List SV}:FU xs []=xs.isEmpty:=by cases xs<;>rfl
open PySem L2
def OS:List Stm:=[(.ret (.and (.bi .isi (.cons (.var 0) (.cons (.tyc .int) .nil))) (.not (.bi .isi (.cons (.var 0) (.cons (.tyc .bool) .nil))))))]
def FB(k:Nat):List Stm:=[(.ret (.and (.call k (.cons (.var 1) .nil)) (.chn .LtE .Lt (.c (.int 0)) (.var 1) (.ix (.var 0) (.c (.int 0))))))]
def KA(k:Nat):List Stm:=[(.ret (.and (.call k (.cons (.var 1) .nil)) (.chn .LtE .Lt (.c (.int 0)) (.var 1) (.bi .len (.cons (.ix (.var 0) (.c (.int 1))) .nil)))))]
def Fm(k:Nat):List Stm:=[(.iff (.not (.call k (.cons (.var 0) (.cons (.var 1) .nil)))) [.no] [])]
def KB(k:Nat):List Stm:=[(.expr (.call k (.cons (.var 0) (.cons (.var 1) .nil)))),(.ret (.comp ["tie","ends"] ["place"] [1] (.tup (.cons (.nm 0) (.cons (.nm 1) .nil))) (.enum (.ix (.var 0) (.c (.int 1)))) (.yes (.cmp .In (.var 2) (.var 1))) (.var 0)))]
def KC(k:Nat):List Stm:=[(.expr (.call k (.cons (.var 0) (.cons (.var 1) .nil)))),(.asg (.tup (.cons (.nm 3) (.cons (.nm 4) .nil))) (.ix (.ix (.var 0) (.c (.int 1))) (.var 1))),(.iff (.cmp .Eq (.var 2) (.var 3)) [(.ret (.var 4))] []),(.iff (.cmp .Eq (.var 2) (.var 4)) [(.ret (.var 3))] []),.no]
def Db(s:Sn):Prop:=∀{i:Int} {S:Sto} {Q:QE},Q (.bl true) S->s [.int i] S Q
def Ce(s:Sn):Prop:=∀{n p:Nat} {es:EE} {S:Sto} {Q:QE},p<n->Q (.bl true) S->s [i3 n es,.int p] S Q
def EG(s:Sn):Prop:=∀{n j:Nat} {es:EE} {S:Sto} {Q:QE},j<es.length->Q (.bl true) S->s [i3 n es,.int j] S Q
def BV(s:Sn):Prop:=∀{n p:Nat} {es:EE} {S:Sto} {Q:QE},p<n->Q .non S->s [i3 n es,.int p] S Q
def BW(s:Sn):Prop:=∀{n j:Nat} {es:EE} {S:Sto} {Q:QE},j<es.length->Q .non S->s [i3 n es,.int j] S Q
def c9(es:EE)(p:Nat)(i:Nat):List Nat:=(List.range i).filter fun j=>match es[j]? with | some e=>decide (e.1=p)||decide (e.2=p) | none=>false
def natS(xs:List Nat):List SV:=xs.map fun(i:Nat)=>SV.int i
def As(s:Sn):Prop:=∀{n p:Nat} {es:EE} {S:Sto} {Q:QE},es.length<=5000->p<n->Q (.loc S.length) (S++[.lst (natS (c9 es p es.length))])->s [i3 n es,.int p] S Q
def farE(e:Nat×Nat)(p:Nat):Nat:=if p=e.1 then e.2 else e.1
def A6(s:Sn):Prop:=∀{n p j:Nat} {es:EE} {e:Nat×Nat} {S:Sto} {Q:QE},es[j]?=some e->(p=e.1\/p=e.2)->Q (.int (farE e p)) S->s [i3 n es,.int j,.int p] S Q
section
variable{Δ:Nat->Sn}
theorem OT{D:Df}(hb:D.body=OS)(hN:D.N.length=1)(hp:D.ps.length=1):Db (i8 Δ D):=by
 intro i S Q q;unfold i8;rw[hb,hN];exact⟨hp.symm,_,rfl,_,nofun,rfl,_,rfl,ifT rfl ⟨_,rfl,_,nofun,rfl,_,rfl,q⟩⟩
theorem HU{k:Nat}(h0:Db (Δ k)){D:Df}(hb:D.body=FB k)(hN:D.N.length=2)(hp:D.ps.length=2):Ce (i8 Δ D):=by
 intro n p es S Q h q;unfold i8;rw[hb,hN];refine⟨hp.symm,_,rfl,h0 ⟨_,rfl,ifT rfl ⟨_,rfl,_,rfl,ifT (decide_eq_true (Int.natCast_nonneg p)) ⟨_,rfl,_,_,rfl,rfl,?_⟩⟩⟩⟩;show Q (.bl (decide ((p:Int)<n))) S;rw[decide_eq_true (by omega)];exact q
theorem Lp{k:Nat}(h0:Db (Δ k)){D:Df}(hb:D.body=KA k)(hN:D.N.length=2)(hp:D.ps.length=2):EG (i8 Δ D):=by
 intro n p es S Q h q;unfold i8;rw[hb,hN];refine⟨hp.symm,_,rfl,h0 ⟨_,rfl,ifT rfl ⟨_,rfl,_,rfl,ifT (decide_eq_true (Int.natCast_nonneg p)) ⟨_,rfl,_,_,rfl,rfl,_,rfl,?_⟩⟩⟩⟩;show Q (.bl (decide ((p:Int)<(es.map pairS).length))) S;rw[decide_eq_true (by rw[List.length_map];omega)];exact q
theorem Ee{k:Nat}(h0:Ce (Δ k)){D:Df}(hb:D.body=Fm k)(hN:D.N.length=2)(hp:D.ps.length=2):BV (i8 Δ D):=by
 intro n p es S Q h q;unfold i8;rw[hb,hN];exact⟨hp.symm,_,rfl,_,rfl,h0 h ⟨_,rfl,ifF rfl q⟩⟩
theorem HV{k:Nat}(h0:EG (Δ k)){D:Df}(hb:D.body=Fm k)(hN:D.N.length=2)(hp:D.ps.length=2):BW (i8 Δ D):=by
 intro n p es S Q h q;unfold i8;rw[hb,hN];exact⟨hp.symm,_,rfl,_,rfl,h0 h ⟨_,rfl,ifF rfl q⟩⟩
theorem EH{xs:List SV}{i:Nat}{x:SV}(h:(Br xs)[i]?=some x):∃ y,xs[i]?=some y/\x = .tup [.int i,y]:=by
 unfold Br at h;rw[List.getElem?_zipWith]at h;cases hy:xs[i]? with
 | none=>rw[hy]at h;revert h;cases(List.range xs.length)[i]?<;>exact nofun
 | some y=>
   have hi:=(gM hy).1;rw[hy,List.getElem?_range hi]at h;exact⟨y,rfl,(oj h).symm⟩
theorem Dc{xs:List SV}:(Br xs).length=xs.length:=by unfold Br;simp
theorem At{es:EE}{i:Nat}{x:SV}(h:(es.map pairS)[i]?=some x):∃ e,es[i]?=some e/\x=pairS e:=by
 rw[List.getElem?_map]at h;cases he:es[i]? with
 | none=>rw[he]at h;cases h
 | some e=>rw[he]at h;exact⟨e,rfl,(oj h).symm⟩
theorem Dd(p:Nat)(e:Nat×Nat):inS (.int p) [.int e.1,.int e.2]=(decide (e.1=p)||decide (e.2=p)):=by
 have k:∀ a:Nat,((a:Int) == (p:Int))=decide (a=p):=fun a=>by
  rw[Bool.eq_iff_iff];simp[Int.natCast_inj]
 unfold inS;simp only[List.any_cons,List.any_nil,Bool.or_false,eqF,k]
theorem By(es:EE)(p i:Nat){e:Nat×Nat}(h:es[i]?=some e):c9 es p (i+1)=c9 es p i++if (decide (e.1=p)||decide (e.2=p))=true then [i] else []:=by
 unfold c9;rw[List.range_succ,List.filter_append]
 congr 1
 rw[List.filter_cons,h];rfl
theorem BX(es:EE)(p i:Nat):(c9 es p i).length<=i:=by
 have:=List.length_filter_le (fun j=>match es[j]? with | some e=>decide (e.1=p)||decide (e.2=p) | none=>false) (List.range i);rw[List.length_range]at this;exact this
theorem mem_tiesAt{es:EE}{p j:Nat}:j∈c9 es p es.length↔∃ e,es[j]?=some e/\(e.1=p\/e.2=p):=by
 unfold c9;rw[List.mem_filter,List.mem_range];constructor
 ·rintro⟨h,h2⟩;rw[List.getElem?_eq_getElem h]at h2;exact⟨_,List.getElem?_eq_getElem h,by simpa using h2⟩
 ·rintro⟨e,h,h2⟩;refine⟨(gM h).1,?_⟩;rw[h];simpa using h2
theorem Lq{k:Nat}(hΔ:∀ f,MonoN (Δ f))(h0:BV (Δ k)){D:Df}(hb:D.body=KB k)(hN:D.N.length=2)(hp:D.ps.length=2):As (i8 Δ D):=by
 intro n p es S Q hl h q;unfold i8;rw[hb,hN];refine⟨hp.symm,_,rfl,_,rfl,h0 h ⟨_,rfl,_,_,rfl,rfl,_,rfl,?_⟩⟩;refine l9 (i7 hΔ _).2 (a8 hΔ _).1 (fun i ys S'=>S'=S/\ys=natS (c9 es p i)) ⟨rfl,rfl⟩ (fun _ _ _ _=>trivial) ?_ ?_
 ·rintro i x ys S' hx ⟨rfl,rfl⟩;obtain⟨y,hy,rfl⟩:=EH hx;obtain⟨e,he,rfl⟩:=At hy;have hi:=(gM he).1;have ht:=BX es p i;refine⟨_,rfl,_,rfl,rfl,_,rfl,rfl,_,rfl,?_⟩;show if inS (.int p) [.int e.1,.int e.2]=true then _ else _
  rw[Dd];refine ifB (fun h=>?_) (fun h=>?_)
  ·refine⟨_,rfl,by show(natS _).length<100000;unfold natS;rw[List.length_map];omega,rfl,?_⟩;rw[By es p i he,if_pos h];unfold natS;rw[List.map_append];rfl
  ·refine⟨rfl,?_⟩;rw[By es p i he,if_neg (by rw[h];decide),List.append_nil]
 ·rintro ys S' ⟨rfl,rfl⟩;rw[Dc,List.length_map];exact q
theorem Ls{k:Nat}(h0:BW (Δ k)){D:Df}(hb:D.body=KC k)(hN:D.N.length=5)(hp:D.ps.length=3):A6 (i8 Δ D):=by
 intro n p j es e S Q he h q;unfold i8;rw[hb,hN];refine⟨hp.symm,_,rfl,_,rfl,h0 (gM he).1 ⟨_,rfl,_,_,rfl,rfl,_,rfl,_,pairS e,rfl,f8 (by rw[List.getElem?_map,he];rfl),?_⟩⟩;refine⟨_,rfl,_,rfl,_,rfl,?_⟩;refine ifD (fun h1=>⟨_,rfl,?_⟩) (fun h1=>⟨_,rfl,_,rfl,_,rfl,ifD (fun h2=>⟨_,rfl,?_⟩) (fun h2=>?_)⟩)
 ·have h1:p=e.1:=Int.natCast_inj.mp h1;unfold farE at q;rw[if_pos h1]at q;exact q
 ·have h1:¬ p=e.1:=fun z=>h1 (congrArg _ z);unfold farE at q;rw[if_neg h1]at q;exact q
 ·rcases h with h | h
  ·exact absurd (congrArg Nat.cast h) h1
  ·exact absurd (congrArg Nat.cast h) h2
end
open PySem L2
theorem e6{xs:List Nat}:(natS xs).length=xs.length:=by unfold natS;rw[List.length_map]
theorem AZ{xs:List Nat}{i x:Nat}(h:xs[i]?=some x):(natS xs)[i]?=some (.int x):=by unfold natS;rw[List.getElem?_map,h];rfl
theorem j9{xs ys:List Nat}:natS (xs++ys)=natS xs++natS ys:=by unfold natS;rw[List.map_append]
theorem Qv(m:Nat):CN 0 (m:Int)=natS (List.range m):=by
 unfold CN natS;simp
open PySem L2
def HW(kf:Nat):List Stm:=[(.asg (.nm 3) (.lst .nil)),(.whl (.cmp .IsNot (.ix (.var 2) (.var 1)) (.c .non)) [(.expr (.mt .append (.var 3) (.cons (.ix (.var 2) (.var 1)) .nil))),(.asg (.nm 1) (.call kf (.cons (.var 0) (.cons (.ix (.var 2) (.var 1)) (.cons (.var 1) .nil)))))]),(.ret (.var 3))]
def Aj:Option Nat->SV
 | some j => .int j
 | none => .non
def optsS(xs:List (Option Nat)):List SV:=xs.map Aj
theorem i6{xs:List (Option Nat)}{i:Nat}{x:Option Nat}(h:xs[i]?=some x):(optsS xs)[i]?=some (Aj x):=by unfold optsS;rw[List.getElem?_map,h];rfl
structure Tr(n:Nat)(es:EE)(bk:List (Option Nat))(dep:Nat->Nat):Prop where
 len:bk.length=n
 up:∀ p j:Nat,bk[p]?=some (some j)->∃ e,es[j]?=some e/\(p=e.1\/p=e.2)/\farE e p<n/\dep p=dep (farE e p)+1
 few:∀ p,dep p<=1000
def upW(es:EE)(bk:List (Option Nat)):Nat->Nat->List Nat
 | 0,_=>[]
 | f+1,p=>match bk[p]? with
   | some (some j)=>j::upW es bk f (match es[j]? with | some e=>farE e p | none=>0)
   | _=>[]
theorem C9(es:EE)(bk:List (Option Nat)):∀ f p,(upW es bk f p).length<=f
 | 0,_=>Nat.le_refl _
 | f+1,p=>by
   unfold upW;split
   ·rw[List.length_cons];have:=C9 es bk f;exact Nat.succ_le_succ (this _)
   ·exact Nat.zero_le _
theorem EI{es:EE}{bk:List (Option Nat)}{f p j:Nat}{e:Nat×Nat}(h:bk[p]?=some (some j))(he:es[j]?=some e):upW es bk (f+1) p=j::upW es bk f (farE e p):=by
 rw[upW,h];simp only[he]
theorem OU{es:EE}{bk:List (Option Nat)}{f p:Nat}(h:bk[p]?=some none):upW es bk f p=[]:=by
 cases f with
 | zero=>rfl
 | succ f=>rw[upW,h]
def DC(s:Sn):Prop:=∀{n p b:Nat} {es:EE} {bk:List (Option Nat)} {dep:Nat->Nat} {S:Sto} {Q:QE},Tr n es bk dep->p<n->S[b]?=some (.lst (optsS bk))->Q (.loc S.length) (S++[.lst (natS (upW es bk (dep p) p))])->s [i3 n es,.int p,.loc b] S Q
theorem J3{Δ:Nat->Sn}{kf:Nat}(hf:A6 (Δ kf)){D:Df}(hb:D.body=HW kf)(hN:D.N.length=4)(hp:D.ps.length=3):DC (i8 Δ D):=by
 intro n p b es bk dep S Q T hpn hS q;unfold i8;rw[hb,hN];refine⟨hp.symm,by show 0<=big;decide,?_⟩;refine⟨fun m ρ S'=>∃(p':Nat) (ds:List Nat),ρ=[some (i3 n es),some (.int p'),some (.loc b),some (.loc S.length)]/\S'=S++[.lst (natS ds)]/\ds++upW es bk (dep p') p'=upW es bk (dep p) p/\dep p'=m/\p'<n,⟨_,p,[],rfl,rfl,rfl,rfl,hpn⟩,?_⟩;rintro m ρ _ ⟨p',ds,rfl,rfl,hd,rfl,hp'⟩;have hS2:(S++[SO.lst (natS ds)])[b]?=some (.lst (optsS bk)):=f6 hS;have hlt:p'<bk.length:=by rw[T.len];exact hp'
 have hbl:=v5 hS;cases hx:bk[p'] with
 | none=>
   have h:bk[p']?=some none:=by rw[List.getElem?_eq_getElem hlt,hx]
   rw[OU h,List.append_nil]at hd;refine⟨_,rfl,_,rfl,_,_,c5 hS2,f8 (i6 h),.inl ⟨rfl,_,rfl,ifF rfl ⟨_,rfl,?_⟩⟩⟩;rw[hd];exact q
 | some j=>
   have h:bk[p']?=some (some j):=by rw[List.getElem?_eq_getElem hlt,hx]
   obtain⟨e,he,hend,hfn,hdep⟩:=T.up p' j h
   have hdl:ds.length<=1000:=by
    have h1:=congrArg List.length hd;rw[List.length_append]at h1;have h2:=C9 es bk (dep p) p;have h3:=T.few p;omega
   have e1:(S++[SO.lst (natS ds)]).set S.length (.lst (natS ds++[.int j]))=S++[.lst (natS (ds++[j]))]:=by
    rw[List.set_append_right _ _ (Nat.le_refl _),Nat.sub_self,j9];rfl
   refine⟨_,rfl,_,rfl,_,_,c5 hS2,f8 (i6 h),.inl ⟨rfl,_,rfl,ifT rfl ?_⟩⟩;refine⟨_,rfl,⟨_,_,rfl,c8⟩,_,rfl,_,rfl,_,_,c5 hS2,f8 (i6 h),_,c8,by rw[e6];show _<100000;omega,?_⟩;show wSs Δ _ _ _ ((S++[SO.lst (natS ds)]).set S.length (.lst (natS ds++[.int j])));rw[e1];have hS3:(S++[SO.lst (natS (ds++[j]))])[b]?=some (.lst (optsS bk)):=f6 hS;refine⟨_,rfl,_,rfl,_,rfl,_,_,c5 hS3,f8 (i6 h),_,rfl,hf he hend ?_⟩;refine⟨dep (farE e p'),by omega,farE e p',ds++[j],rfl,rfl,?_,rfl,hfn⟩;rw[List.append_assoc,<-hd,hdep,EI h he];rfl
open PySem L2
structure Gw(S S':Sto):Prop where
 len:S.length<=S'.length
 keep:∀(k:Nat) (o:SO),S[k]?=some o->S'[k]?=some o
theorem Gw.refl(S:Sto):Gw S S:=⟨Nat.le_refl _,fun _ _ h=>h⟩
theorem Gw.push{S S':Sto}{o:SO}(h:Gw S S'):Gw S (S'++[o]):=⟨by rw[List.length_append];have:=h.len;omega,fun k u z=>f6 (h.keep k u z)⟩
theorem Gw.put{S S':Sto}{o:SO}{k:Nat}(h:Gw S S')(hk:S.length<=k):Gw S (S'.set k o):=⟨by rw[List.length_set];exact h.len,fun j u z=>by
 rw[j8 (fun e=>by have:=v5 z;omega)];exact h.keep j u z⟩
theorem Gw.trans{S S' S'':Sto}(a:Gw S S')(b:Gw S' S''):Gw S S'':=⟨Nat.le_trans a.len b.len,fun k o h=>b.keep k o (a.keep k o h)⟩
def w1':Stm:=(.asg (.tup (.cons (.nm 3) (.cons (.nm 4) .nil))) (.ix (.ix (.var 0) (.c (.int 1))) (.var 1)))
def w2'(kw:Nat):Stm:=(.asg (.nm 5) (.call kw (.cons (.var 0) (.cons (.var 3) (.cons (.var 2) .nil)))))
def w3'(kw:Nat):Stm:=(.asg (.nm 6) (.call kw (.cons (.var 0) (.cons (.var 4) (.cons (.var 2) .nil)))))
def w4':Stm:=(.whl (.and (.var 5) (.and (.var 6) (.cmp .Eq (.ix (.var 5) (.neg (.c (.int 1)))) (.ix (.var 6) (.neg (.c (.int 1))))))) [(.expr (.mt .pop (.var 5) .nil)),(.expr (.mt .pop (.var 6) .nil))])
def w5':Stm:=(.ret (.op .Add (.op .Add (.var 5) (.rev (.var 6))) (.lst (.cons (.var 1) .nil))))
def SC(kw:Nat):List Stm:=[w1',w2' kw,w3' kw,w4',w5']
structure Cut(as bs us ds:List Nat):Prop where
 ex:∃ cm,as=us++cm/\bs=ds++cm
 ne:∀(x y:Nat) (us' ds':List Nat),us=us'++[x]->ds=ds'++[y]->x≠y
def Fn(s:Sn):Prop:=∀{n j b:Nat} {es:EE} {e:Nat×Nat} {bk:List (Option Nat)} {dep:Nat->Nat} {S:Sto} {Q:QE},Tr n es bk dep->es[j]?=some e->e.1<n->e.2<n->S[b]?=some (.lst (optsS bk))->
 (∀(us ds:List Nat) (l:Nat) (S':Sto),Cut (upW es bk (dep e.1) e.1) (upW es bk (dep e.2) e.2) us ds->Gw S S'->S.length<=l->S'[l]?=some (.lst (natS (us++ds.reverse++[j])))->Q (.loc l) S')->s [i3 n es,.int j,.loc b] S Q
theorem OV{xs:List Nat}:(natS xs).reverse=natS xs.reverse:=by unfold natS;rw[List.map_reverse]
theorem Cu{xs:List Nat}{x:Nat}:(natS (xs++[x])).dropLast=natS xs:=by rw[j9];exact List.dropLast_concat
theorem CA{xs:List Nat}{x:Nat}:(natS (xs++[x]))[(natS (xs++[x])).length - 1]?=some (.int x):=by
 rw[j9,List.length_append];exact List.getElem?_concat_length
theorem Aa(xs:List Nat):xs=[]\/∃ ys y,xs=ys++[y]:=by
 rcases List.eq_nil_or_concat xs with h | ⟨ys,y,h⟩
 ·exact .inl h
 ·exact .inr ⟨ys,y,by rw[h,List.concat_eq_append]⟩
theorem Qw{Δ:Nat->Sn}{kw:Nat}(hw:DC (Δ kw)){D:Df}(hb:D.body=SC kw)(hN:D.N.length=7)(hp:D.ps.length=3):Fn (i8 Δ D):=by
 intro n j b es e bk dep S Q T he h1 h2 hS q;unfold i8;rw[hb,hN];refine⟨hp.symm,_,rfl,_,_,rfl,rfl,_,rfl,_,pairS e,rfl,f8 (by rw[List.getElem?_map,he];rfl),?_⟩;refine⟨_,rfl,_,rfl,_,rfl,hw T h1 hS ?_⟩;refine⟨_,rfl,_,rfl,_,rfl,hw T h2 (f6 hS) ?_⟩;have la:=C9 es bk (dep e.1) e.1;have lb:=C9 es bk (dep e.2) e.2;have fa:=T.few e.1;have fb:=T.few e.2;generalize upW es bk (dep e.1) e.1=as at *;generalize upW es bk (dep e.2) e.2=bs at *;have hl2:S.length<(S++[SO.lst (natS as)]).length:=by simp
 generalize hk:(S++[SO.lst (natS as)]).length=k2 at *
 refine⟨fun m ρ S'=>∃ us ds cm,ρ=[some (i3 n es),some (.int j),some (.loc b),some (.int e.1),some (.int e.2),some (.loc S.length),some (.loc k2)]/\Gw S S'/\S'[S.length]?=some (.lst (natS us))/\S'[k2]?=some (.lst (natS ds))/\as=us++cm/\bs=ds++cm/\us.length=m,
  ⟨_,as,bs,[],rfl,(Gw.refl S).push.push,f6 c8,by rw[<-hk];exact c8,by simp,by simp,rfl⟩,?_⟩
 rintro m ρ S' ⟨us,ds,cm,rfl,G,hu,hd,ea,eb,rfl⟩;have hul:us.length<=1000:=by have:=congrArg List.length ea;rw[List.length_append]at this;omega
 have hdl:ds.length<=1000:=by have:=congrArg List.length eb;rw[List.length_append]at this;omega
 have fin:(∀(x y:Nat) (us' ds':List Nat),us=us'++[x]->ds=ds'++[y]->x≠y)->wSs Δ [w5'] (Ae Q) [some (i3 n es),some (.int j),some (.loc b),some (.int e.1),some (.int e.2),some (.loc S.length),some (.loc k2)] S':=by
  intro hne;refine⟨_,rfl,_,rfl,_,hd,_,_,f6 hu,c8,by rw[List.length_reverse,e6,e6];show _<=100000;omega,_,rfl,by show 1<=big;decide,_,_,f6 c8,c8,by rw[List.length_append,List.length_reverse,e6,e6];show _+1<=100000;omega,?_⟩;refine q us ds _ _ ⟨⟨cm,ea,eb⟩,hne⟩ G.push.push.push.push ?_ ?_
  ·have:=G.len;simp;omega
  ·rw[c8,j9,j9,OV];rfl
 refine⟨_,rfl,_,Da hu,?_⟩;rcases Aa us with rfl | ⟨us',x,rfl⟩
 ·exact ifF rfl (ifF rfl (fin fun x y us' ds' h=>by simp at h))
 refine ifT (by rw[j9];simp[natS]) ⟨_,rfl,_,Da hd,?_⟩;rcases Aa ds with rfl | ⟨ds',y,rfl⟩
 ·exact ifF rfl (ifF rfl (fin fun x y us' ds' _ h=>by simp at h))
 refine ifT (by rw[j9];simp[natS]) ?_;have ax:atI (natS (us'++[x])) (-1)=some (.int x):=by rw[j9];exact GK _ _
 have ay:atI (natS (ds'++[y])) (-1)=some (.int y):=by rw[j9];exact GK _ _
 refine⟨_,rfl,_,_,c5 hu,ax,_,rfl,_,_,c5 hd,ay,_,rfl,?_⟩;refine ifD (fun hxy=>?_) (fun hxy=>fin fun x' y' us2 ds2 hu2 hd2 z=>hxy ?_)
 ·have hxy:x=y:=Int.natCast_inj.mp hxy;subst hxy;refine⟨_,rfl,⟨_,_,rfl,hu⟩,_,_,hu,CA,?_⟩;rw[Cu];have hd3:(S'.set S.length (.lst (natS us')))[k2]?=some (.lst (natS (ds'++[x]))):=by rw[j8 (by omega)];exact hd
  refine⟨_,rfl,⟨_,_,rfl,hd3⟩,_,_,hd3,CA,?_⟩;rw[Cu];refine⟨us'.length,by simp,us',ds',x::cm,rfl,(G.put (Nat.le_refl _)).put (by omega),by rw[j8 (by omega)];exact j7 hu,j7 hd3,by rw[ea];simp,by rw[eb];simp,rfl⟩
 ·have e1:=List.append_inj' hu2 rfl;have e2:=List.append_inj' hd2 rfl;have e1:x=x':=by simpa using e1.2
  have e2:y=y':=by simpa using e2.2
  rw[e1,e2,z]
open PySem L2
def IsSet(sd:List (Option Nat))(p:Nat):Prop:=∃ v,sd[p]?=some (some v)
def upd(f:Nat->Nat)(p x:Nat):Nat->Nat:=fun q=>if q=p then x else f q
theorem A7{f:Nat->Nat}{p x:Nat}:upd f p x p=x:=if_pos rfl
theorem upd_ne{f:Nat->Nat}{p x q:Nat}(h:q≠p):upd f p x q=f q:=if_neg h
theorem AJ{e:Nat×Nat}{p:Nat}(hp:p=e.1\/p=e.2):farE e p=e.1\/farE e p=e.2:=by
 unfold farE;by_cases h:p=e.1
 ·rw[if_pos h];exact .inr rfl
 ·rw[if_neg h];exact .inl rfl
theorem BL{e:Nat×Nat}{p:Nat}(he:e.1≠e.2)(hp:p=e.1\/p=e.2):farE e (farE e p)=p:=by
 unfold farE;by_cases h:p=e.1
 ·rw[if_pos h,if_neg (Ne.symm he),h]
 ·rw[if_neg h,if_pos rfl];rcases hp with hp | hp
  ·exact absurd hp h
  ·exact hp.symm
structure Gs(n:Nat)(es:EE)(sd bk:List (Option Nat))(dep rt:Nat->Nat)(op:Nat->Nat->Prop):Prop where
 ls:sd.length=n
 lb:bk.length=n
 val:∀ p v:Nat,sd[p]?=some (some v)->v=dep p % 2
 up:∀ p j:Nat,bk[p]?=some (some j)->∃ e,es[j]?=some e/\(p=e.1\/p=e.2)/\IsSet sd p/\IsSet sd (farE e p)/\dep p=dep (farE e p)+1/\rt (farE e p)=rt p
 root:∀ p:Nat,IsSet sd p->bk[p]?=some none->rt p=p/\dep p=0
 low:∀ p:Nat,IsSet sd p->dep p<sd.countP Option.isSome
 un:∀ p:Nat,¬ IsSet sd p->dep p=0
 cl:∀(p j:Nat) (e:Nat×Nat),IsSet sd p->es[j]?=some e->(p=e.1\/p=e.2)->op p j\/(IsSet sd (farE e p)/\rt (farE e p)=rt p)
 lo:∀ p:Nat,IsSet sd p->rt p<=p
theorem AC{sd:List (Option Nat)}{f q x:Nat}(h:IsSet (sd.set f (some x)) q):q=f\/IsSet sd q:=by
 by_cases hq:q=f
 ·exact .inl hq
 ·obtain⟨v,hv⟩:=h;rw[List.getElem?_set_ne (Ne.symm hq)]at hv;exact .inr ⟨v,hv⟩
theorem l6{sd:List (Option Nat)}{f q x:Nat}(hf:f<sd.length)(h:IsSet sd q):IsSet (sd.set f (some x)) q:=by
 by_cases hq:q=f
 ·subst hq;exact⟨x,List.getElem?_set_self hf⟩
 ·obtain⟨v,hv⟩:=h;exact⟨v,by rw[List.getElem?_set_ne (Ne.symm hq)];exact hv⟩
theorem Ao{sd:List (Option Nat)}{f x:Nat}(h:sd[f]?=some none):(sd.set f (some x)).countP Option.isSome=sd.countP Option.isSome+1:=by
 obtain⟨hf,hx⟩:=gM h;rw[List.countP_set hf,hx];simp
theorem Gs.give{n:Nat}{es:EE}{sd bk:List (Option Nat)}{dep rt:Nat->Nat}{op op':Nat->Nat->Prop}(G:Gs n es sd bk dep rt op){p j:Nat}{e:Nat×Nat}(hp:IsSet sd p)(he:es[j]?=some e)(hpe:p=e.1\/p=e.2)(hne:e.1≠e.2)(hf:sd[farE e p]?=some none)
 (ho:∀ q i,op q i->op' q i\/(q=p/\i=j)) (hn:∀ i,op' (farE e p) i) (hlo:rt p<=farE e p):Gs n es (sd.set (farE e p) (some (1 - dep p % 2))) (bk.set (farE e p) (some j)) (upd dep (farE e p) (dep p+1)) (upd rt (farE e p) (rt p)) op':=by
 have hfl:farE e p<sd.length:=(gM hf).1;have hns:∀ q,IsSet sd q->q≠farE e p:=fun q ⟨v,hv⟩ z=>by rw[z,hf]at hv;cases hv
 have hself:IsSet (sd.set (farE e p) (some (1 - dep p % 2))) (farE e p):=⟨_,List.getElem?_set_self hfl⟩
 have hpf:=hns p hp;refine⟨by rw[List.length_set];exact G.ls,by rw[List.length_set];exact G.lb,fun q v hv=>?_,fun q i hi=>?_,fun q hq hi=>?_,fun q hq=>?_,fun q hq=>?_,fun q i e' hq hi hqe=>?_,fun q hq=>?_⟩
 ·by_cases hqf:q=farE e p
  ·subst hqf;rw[List.getElem?_set_self hfl]at hv;rw[A7];have:=oj (oj hv);omega
  ·rw[List.getElem?_set_ne (Ne.symm hqf)]at hv;rw[upd_ne hqf];exact G.val q v hv
 ·by_cases hqf:q=farE e p
  ·subst hqf;rw[List.getElem?_set_self (by rw[G.lb,<-G.ls];exact hfl)]at hi;have:=oj (oj hi);subst this;refine⟨e,he,AJ hpe,hself,?_⟩;rw[BL hne hpe,A7,A7,upd_ne hpf,upd_ne hpf];exact⟨l6 hfl hp,rfl,rfl⟩
  ·rw[List.getElem?_set_ne (Ne.symm hqf)]at hi;obtain⟨e',h1,h2,h3,h4,h5,h6⟩:=G.up q i hi;refine⟨e',h1,h2,l6 hfl h3,l6 hfl h4,?_⟩;rw[upd_ne hqf,upd_ne hqf,upd_ne (hns _ h4),upd_ne (hns _ h4)];exact⟨h5,h6⟩
 ·by_cases hqf:q=farE e p
  ·subst hqf;rw[List.getElem?_set_self (by rw[G.lb,<-G.ls];exact hfl)]at hi;cases hi
  ·rw[List.getElem?_set_ne (Ne.symm hqf)]at hi;rw[upd_ne hqf,upd_ne hqf];rcases AC hq with h | h
   ·exact absurd h hqf
   ·exact G.root q h hi
 ·rw[Ao hf];by_cases hqf:q=farE e p
  ·subst hqf;rw[A7];have:=G.low p hp;omega
  ·rw[upd_ne hqf];rcases AC hq with h | h
   ·exact absurd h hqf
   ·have:=G.low q h;omega
 ·have hqf:q≠farE e p:=fun z=>hq (z▸hself);rw[upd_ne hqf];exact G.un q fun z=>hq (l6 hfl z)
 ·by_cases hqf:q=farE e p
  ·exact .inl (hqf▸hn i)
  ·rcases AC hq with h | h
   ·exact absurd h hqf
   ·rcases G.cl q i e' h hi hqe with z | ⟨z1,z2⟩
    ·rcases ho q i z with z | ⟨rfl,rfl⟩
     ·exact .inl z
     ·rw[he]at hi;have:=oj hi;subst this;refine .inr ⟨hself,?_⟩;rw[A7,upd_ne hqf]
    ·refine .inr ⟨l6 hfl z1,?_⟩;rw[upd_ne (hns _ z1),upd_ne hqf];exact z2
 ·by_cases hqf:q=farE e p
  ·rw[hqf,A7];exact hlo
  ·rw[upd_ne hqf];rcases AC hq with h | h
   ·exact absurd h hqf
   ·exact G.lo q h
theorem Gs.tr{n:Nat}{es:EE}{sd bk:List (Option Nat)}{dep rt:Nat->Nat}{op:Nat->Nat->Prop}(G:Gs n es sd bk dep rt op)(hn:n<=1000):Tr n es bk dep:=by
 refine⟨G.lb,fun p j h=>?_,fun p=>?_⟩
 ·obtain⟨e,h1,h2,h3,⟨v,h4⟩,h5,h6⟩:=G.up p j h;refine⟨e,h1,h2,?_,h5⟩;rw[<-G.ls];exact(gM h4).1
 ·by_cases h:IsSet sd p
  ·have h1:=G.low p h;have h2:=List.countP_le_length (p:=Option.isSome) (l:=sd);rw[G.ls]at h2;omega
  ·rw[G.un p h];omega
theorem Gs.begin{n:Nat}{es:EE}{sd bk:List (Option Nat)}{dep rt:Nat->Nat}{op op':Nat->Nat->Prop}(G:Gs n es sd bk dep rt op){s:Nat}(hs:sd[s]?=some none)(ho:∀ q i,op q i->op' q i)(hn:∀ i,op' s i):Gs n es (sd.set s (some 0)) bk dep (upd rt s s) op':=by
 have hsl:s<sd.length:=(gM hs).1;have hns:∀ q,IsSet sd q->q≠s:=fun q ⟨v,hv⟩ z=>by rw[z,hs]at hv;cases hv
 have hself:IsSet (sd.set s (some 0)) s:=⟨_,List.getElem?_set_self hsl⟩
 have hd:dep s=0:=G.un s fun z=>hns s z rfl;refine⟨by rw[List.length_set];exact G.ls,G.lb,fun q v hv=>?_,fun q i hi=>?_,fun q hq hi=>?_,fun q hq=>?_,fun q hq=>?_,fun q i e' hq hi hqe=>?_,fun q hq=>?_⟩
 ·by_cases hqf:q=s
  ·subst hqf;rw[List.getElem?_set_self hsl]at hv;have:=oj (oj hv);rw[hd];omega
  ·rw[List.getElem?_set_ne (Ne.symm hqf)]at hv;exact G.val q v hv
 ·obtain⟨e',h1,h2,h3,h4,h5,h6⟩:=G.up q i hi;refine⟨e',h1,h2,l6 hsl h3,l6 hsl h4,h5,?_⟩;rw[upd_ne (hns _ h3),upd_ne (hns _ h4)];exact h6
 ·by_cases hqf:q=s
  ·subst hqf;rw[A7];exact⟨rfl,hd⟩
  ·rw[upd_ne hqf];rcases AC hq with h | h
   ·exact absurd h hqf
   ·exact G.root q h hi
 ·rw[Ao hs];rcases AC hq with h | h
  ·rw[h,hd];omega
  ·have:=G.low q h;omega
 ·exact G.un q fun z=>hq (l6 hsl z)
 ·by_cases hqf:q=s
  ·exact .inl (hqf▸hn i)
  ·rcases AC hq with h | h
   ·exact absurd h hqf
   ·rcases G.cl q i e' h hi hqe with z | ⟨z1,z2⟩
    ·exact .inl (ho q i z)
    ·refine .inr ⟨l6 hsl z1,?_⟩;rw[upd_ne (hns _ z1),upd_ne hqf];exact z2
 ·by_cases hqf:q=s
  ·rw[hqf,A7];exact Nat.le_refl _
  ·rw[upd_ne hqf];rcases AC hq with h | h
   ·exact absurd h hqf
   ·exact G.lo q h
theorem Gs.close{n:Nat}{es:EE}{sd bk:List (Option Nat)}{dep rt:Nat->Nat}{op op':Nat->Nat->Prop}(G:Gs n es sd bk dep rt op){p j:Nat}{e:Nat×Nat}(he:es[j]?=some e)(hpe:p=e.1\/p=e.2)(hne:e.1≠e.2)(hf:IsSet sd (farE e p))
 (ho:∀ q i,op q i->op' q i\/(q=p/\i=j)) (hs:op (farE e p) j->rt (farE e p)=rt p):Gs n es sd bk dep rt op':=by
 have hr:rt (farE e p)=rt p:=by
  rcases G.cl (farE e p) j e hf he (AJ hpe) with z | ⟨z1,z2⟩
  ·exact hs z
  ·rw[BL hne hpe]at z2;exact z2.symm
 refine⟨G.ls,G.lb,G.val,G.up,G.root,G.low,G.un,fun q i e' hq hi hqe=>?_,G.lo⟩;rcases G.cl q i e' hq hi hqe with z | z
 ·rcases ho q i z with z | ⟨rfl,rfl⟩
  ·exact .inl z
  ·rw[he]at hi;have:=oj hi;subst this;exact .inr ⟨hf,hr⟩
 ·exact .inr z
theorem Gs.more{n:Nat}{es:EE}{sd bk:List (Option Nat)}{dep rt:Nat->Nat}{op op':Nat->Nat->Prop}(G:Gs n es sd bk dep rt op)(ho:∀ q i e,es[i]?=some e->(q=e.1\/q=e.2)->op q i->op' q i):Gs n es sd bk dep rt op':=
 ⟨G.ls,G.lb,G.val,G.up,G.root,G.low,G.un,fun q i e' hq hi hqe=>(G.cl q i e' hq hi hqe).imp (ho q i e' hi hqe) id,G.lo⟩
open PySem L2
def z1:Stm:=(.put (.var 2) (.var 1) (.c (.int 0)))
def z2:Stm:=(.asg (.nm 4) (.lst (.cons (.var 1) .nil)))
def zin(kf:Nat):List Stm:=[(.asg (.nm 7) (.call kf (.cons (.var 0) (.cons (.var 6) (.cons (.var 5) .nil))))),(.iff (.cmp .Is (.ix (.var 2) (.var 7)) (.c .non)) [(.put (.var 2) (.var 7) (.op .Sub (.c (.int 1)) (.ix (.var 2) (.var 5)))),(.put (.var 3) (.var 7) (.var 6)),(.expr (.mt .append (.var 4) (.cons (.var 7) .nil)))] [])]
def z3(kt kf:Nat):Stm:=(.whl (.var 4) [(.asg (.nm 5) (.mt .pop (.var 4) .nil)),(.loop (.nm 6) (.seq (.call kt (.cons (.var 0) (.cons (.var 5) .nil)))) (zin kf))])
def SD(kt kf:Nat):List Stm:=[z1,z2,z3 kt kf]
structure Gm(a b w:Nat)(S0 S:Sto)(sd bk:List (Option Nat))(wt:List Nat):Prop where
 ha:S[a]?=some (.lst (optsS sd))
 hb:S[b]?=some (.lst (optsS bk))
 hw:S[w]?=some (.lst (natS wt))
 len:S0.length<=S.length
 keep:∀(k:Nat) (o:SO),k≠a->k≠b->S0[k]?=some o->S[k]?=some o
 ab:a≠b
 a0:a<S0.length
 b0:b<S0.length
 w0:S0.length<=w
section
variable{a b w:Nat}{S0 S:Sto}{sd bk sd' bk':List (Option Nat)}{wt wt':List Nat}
theorem Gm.push{o:SO}(G:Gm a b w S0 S sd bk wt):Gm a b w S0 (S++[o]) sd bk wt:=⟨f6 G.ha,f6 G.hb,f6 G.hw,by rw[List.length_append];have:=G.len;omega,fun k u h1 h2 h=>f6 (G.keep k u h1 h2 h),G.ab,G.a0,G.b0,G.w0⟩
theorem Gm.seta(G:Gm a b w S0 S sd bk wt):Gm a b w S0 (S.set a (.lst (optsS sd'))) sd' bk wt:=
 ⟨j7 G.ha,by rw[j8 G.ab];exact G.hb,by rw[j8 (by have:=G.a0;have:=G.w0;omega)];exact G.hw,by rw[List.length_set];exact G.len,fun k u h1 h2 h=>by rw[j8 (Ne.symm h1)];exact G.keep k u h1 h2 h,G.ab,G.a0,G.b0,G.w0⟩
theorem Gm.setb(G:Gm a b w S0 S sd bk wt):Gm a b w S0 (S.set b (.lst (optsS bk'))) sd bk' wt:=
 ⟨by rw[j8 (Ne.symm G.ab)];exact G.ha,j7 G.hb,by rw[j8 (by have:=G.b0;have:=G.w0;omega)];exact G.hw,by rw[List.length_set];exact G.len,fun k u h1 h2 h=>by rw[j8 (Ne.symm h2)];exact G.keep k u h1 h2 h,G.ab,G.a0,G.b0,G.w0⟩
theorem Gm.setw(G:Gm a b w S0 S sd bk wt):Gm a b w S0 (S.set w (.lst (natS wt'))) sd bk wt':=
 ⟨by rw[j8 (by have:=G.a0;have:=G.w0;omega)];exact G.ha,by rw[j8 (by have:=G.b0;have:=G.w0;omega)];exact G.hb,j7 G.hw,by rw[List.length_set];exact G.len,fun k u h1 h2 h=>by rw[j8 (by have:=v5 h;have:=G.w0;omega)];exact G.keep k u h1 h2 h,G.ab,G.a0,G.b0,G.w0⟩
end
theorem Cf{n j:Nat}(h:j<n):ixN n (j:Int)=some j:=by
 unfold ixN;rw[if_pos (by omega),if_pos (by omega)];simp
theorem m9{xs:List (Option Nat)}:(optsS xs).length=xs.length:=by unfold optsS;rw[List.length_map]
theorem CB{xs:List (Option Nat)}{j v:Nat}:(optsS xs).set j (.int v)=optsS (xs.set j (some v)):=by unfold optsS;rw[List.map_set];rfl
section
variable{Δ:Nat->Sn}{kt kf:Nat}
def GI(n:Nat)(es:EE)(s a b w p c:Nat)(S0:Sto)(sd0:List (Option Nat))(l:Nat)(o:SO)(ts:List Nat)(S:Sto):Prop:=
 S[l]?=some o/\∃ sd bk dep rt wt,Gs n es sd bk dep rt (fun q i=>q∈wt\/(q=p/\i∈ts))/\Gm a b w S0 S sd bk wt/\(∀ q∈wt,IsSet sd q/\rt q=s)/\IsSet sd p/\rt p=s/\2 * (n - sd.countP Option.isSome)+wt.length<=c/\wt.length<=sd.countP Option.isSome/\∀ q,IsSet sd0 q->IsSet sd q
theorem Lu(hf:A6 (Δ kf)){n s a b w p c j l:Nat}{o:SO}(la:l≠a)(lb:l≠b)(lw:l≠w){es:EE}{e:Nat×Nat}{S0 S:Sto}{sd0:List (Option Nat)}{ts:List Nat}{D:EndsS}{o7:Option SV}(hen:∀ e∈es,e.1<e.2/\e.2<n)(hn:n<=1000)(he:es[j]?=some e)(hpe:p=e.1\/p=e.2)(hbl:∀ q,q<s->IsSet sd0 q)
 (I:GI n es s a b w p c S0 sd0 l o (j::ts) S) (q:∀(o7:Option SV) (S':Sto),GI n es s a b w p c S0 sd0 l o ts S'->D.nx [some (i3 n es),some (.int s),some (.loc a),some (.loc b),some (.loc w),some (.int p),some (.int j),o7] S'):
 wSs Δ (zin kf) D [some (i3 n es),some (.int s),some (.loc a),some (.loc b),some (.loc w),some (.int p),some (.int j),o7] S:=by
 obtain⟨hlo,sd,bk,dep,rt,wt,G,M,hwt,hp,hr,hc,hw,h0⟩:=I;have hne:e.1≠e.2:=by have:=hen e (List.mem_of_getElem? he);omega
 have hfl:farE e p<n:=by
  have:=hen e (List.mem_of_getElem? he);rcases AJ hpe with h | h<;>omega
 have hcn:=List.countP_le_length (p:=Option.isSome) (l:=sd);rw[G.ls]at hcn
 have ho:∀(wt':List Nat),(∀ x∈wt,x∈wt')->∀ q i,(q∈wt\/(q=p/\i∈j::ts))->(q∈wt'\/(q=p/\i∈ts))\/(q=p/\i=j):=by
  rintro wt' hs q i (h | ⟨h,h2⟩)
  ·exact .inl (.inl (hs _ h))
  ·rcases List.mem_cons.mp h2 with h2 | h2
   ·exact .inr ⟨h,h2⟩
   ·exact .inl (.inr ⟨h,h2⟩)
 refine⟨_,rfl,_,rfl,_,rfl,hf he hpe ?_⟩;cases hx:sd[farE e p]'(by rw[G.ls];exact hfl) with
 | some v=>
   have h:sd[farE e p]?=some (some v):=by rw[List.getElem?_eq_getElem (by rw[G.ls];exact hfl),hx]
   refine⟨_,rfl,_,rfl,_,_,c5 M.ha,f8 (i6 h),.inl ⟨rfl,_,rfl,ifF rfl ?_⟩⟩;refine q _ _ ⟨hlo,sd,bk,dep,rt,wt,G.close he hpe hne ⟨v,h⟩ (ho wt fun _ h=>h) ?_,M,hwt,hp,hr,hc,hw,h0⟩;rintro(z | ⟨z,_⟩)
   ·rw[(hwt _ z).2,hr]
   ·rw[z]
 | none=>
   have h:sd[farE e p]?=some none:=by rw[List.getElem?_eq_getElem (by rw[G.ls];exact hfl),hx]
   obtain⟨v,hv⟩:=hp;have hvv:=G.val p v hv;refine⟨_,rfl,_,rfl,_,_,c5 M.ha,f8 (i6 h),.inl ⟨rfl,_,rfl,ifT rfl ?_⟩⟩;refine⟨_,rfl,_,rfl,_,_,c5 M.ha,f8 (i6 hv),_,rfl,_,rfl,_,_,M.ha,Cf (by rw[m9,G.ls];exact hfl),?_⟩;have e1:(1:Int) - (v:Int)=((1 - dep p % 2:Nat):Int):=by omega
   have e2:(optsS sd).set (farE e p) ((fun(i j:Int)=>SV.int (i - j)) 1 v)=optsS (sd.set (farE e p) (some (1 - dep p % 2))):=by
    show(optsS sd).set _ (.int ((1:Int) - (v:Int)))=_;rw[e1,CB]
   rw[e2];have M1:=M.seta (sd':=sd.set (farE e p) (some (1 - dep p % 2)));refine⟨_,rfl,_,rfl,_,rfl,_,_,M1.hb,Cf (by rw[m9,G.lb];exact hfl),?_⟩;rw[CB];have M2:=M1.setb (bk':=bk.set (farE e p) (some j));refine⟨_,rfl,⟨_,_,rfl,M2.hw⟩,_,rfl,_,M2.hw,by rw[e6];show _<100000;omega,?_⟩;have M3:=M2.setw (wt':=wt++[farE e p]);rw[j9]at M3;have hsl:farE e p<sd.length:=by rw[G.ls];exact hfl
   have hns:∀ q,IsSet sd q->q≠farE e p:=fun q ⟨v,hv⟩ z=>by rw[z,h]at hv;cases hv
   have hlt:sd.countP Option.isSome<n:=by
    have h1:=List.countP_le_length (p:=Option.isSome) (l:=sd.set (farE e p) (some 0));rw[Ao h,List.length_set,G.ls]at h1;exact h1
   refine q _ _ ⟨by rw[j8 (Ne.symm lw),j8 (Ne.symm lb),j8 (Ne.symm la)];exact hlo,_,_,_,_,wt++[farE e p],G.give ⟨v,hv⟩ he hpe hne h (ho _ fun _ h=>List.mem_append_left _ h) (fun _ => .inl (by simp)) (by rw[hr];exact Nat.le_of_not_lt fun z=>hns _ (h0 _ (hbl _ z)) rfl),M3,fun y hy=>?_,l6 hsl ⟨v,hv⟩,?_,?_,?_,fun y hy=>l6 hsl (h0 y hy)⟩
   ·rcases List.mem_append.mp hy with hy | hy
    ·rw[upd_ne (hns _ (hwt y hy).1)];exact⟨l6 hsl (hwt y hy).1,(hwt y hy).2⟩
    ·rw[List.mem_singleton.mp hy,A7];exact⟨⟨_,List.getElem?_set_self hsl⟩,hr⟩
   ·rw[upd_ne (hns _ ⟨v,hv⟩)];exact hr
   ·rw[Ao h,List.length_append];simp;omega
   ·rw[Ao h,List.length_append];simp;omega
def J4(s:Sn):Prop:=∀{n st a b:Nat} {es:EE} {sd bk:List (Option Nat)} {dep rt:Nat->Nat} {S:Sto} {Q:QE},(∀ e∈es,e.1<e.2/\e.2<n)->es.length<=5000->n<=1000->Gs n es sd bk dep rt (fun _ _=>False)->sd[st]?=some none->(∀ q,q<st->IsSet sd q)->a≠b->S[a]?=some (.lst (optsS sd))->S[b]?=some (.lst (optsS bk))->
 (∀(sd' bk':List (Option Nat)) (dep' rt':Nat->Nat) (S':Sto),Gs n es sd' bk' dep' rt' (fun _ _=>False)->(∀ q,IsSet sd q->IsSet sd' q)->IsSet sd' st->S'[a]?=some (.lst (optsS sd'))->S'[b]?=some (.lst (optsS bk'))->S.length<=S'.length->(∀(k:Nat) (o:SO),k≠a->k≠b->S[k]?=some o->S'[k]?=some o)->Q .non S')->s [i3 n es,.int st,.loc a,.loc b] S Q
theorem Qx(hΔ:∀ f,MonoN (Δ f))(ht:As (Δ kt))(hf:A6 (Δ kf)){D:Df}(hb':D.body=SD kt kf)(hN:D.N.length=8)(hps:D.ps.length=4):J4 (i8 Δ D):=by
 intro n st a b es sd bk dep rt S Q hen hel hn G0 hst hbl ab hSa hSb q;have hsl:st<sd.length:=(gM hst).1;unfold i8;rw[hb',hN];refine⟨hps.symm,_,rfl,_,rfl,_,_,hSa,Cf (by rw[m9];exact hsl),?_⟩;have e0:(optsS sd).set st (.int 0)=optsS (sd.set st (some 0)):=CB (v:=0);rw[e0];refine⟨_,rfl,by show 1<=big;decide,?_⟩;generalize hw0:(S.set a (.lst (optsS (sd.set st (some 0))))).length=w;have hw1:S.length=w:=by rw[<-hw0,List.length_set]
 have M0:Gm a b w S (S.set a (.lst (optsS (sd.set st (some 0))))++[.lst (natS [st])]) (sd.set st (some 0)) bk [st]:=
  ⟨f6 (j7 hSa),f6 (by rw[j8 ab];exact hSb),by rw[<-hw0];exact c8,by simp,fun k o h1 h2 h=>f6 (by rw[j8 (Ne.symm h1)];exact h),ab,v5 hSa,v5 hSb,by omega⟩
 refine⟨fun m ρ S'=>∃ sd' bk' dep' rt' wt o5 o6 o7,ρ=[some (i3 n es),some (.int st),some (.loc a),some (.loc b),some (.loc w),o5,o6,o7]/\Gs n es sd' bk' dep' rt' (fun q _=>q∈wt)/\Gm a b w S S' sd' bk' wt/\(∀ q∈wt,IsSet sd' q/\rt' q=st)/\2 * (n - sd'.countP Option.isSome)+wt.length<=m/\wt.length<=sd'.countP Option.isSome/\∀ q,IsSet (sd.set st (some 0)) q->IsSet sd' q,
  ⟨_,_,_,_,_,[st],none,none,none,rfl,G0.begin hst (fun _ _ h=>h.elim) (fun _=>by simp),M0,fun q hq=>?_,Nat.le_refl _,by rw[Ao hst];simp,fun _ h=>h⟩,?_⟩
 ·rw[List.mem_singleton.mp hq,A7];exact⟨⟨_,List.getElem?_set_self hsl⟩,rfl⟩
 rintro m ρ S1 ⟨sd1,bk1,dep1,rt1,wt,o5,o6,o7,rfl,G,M,hwt,hm,hwc,hk⟩;refine⟨_,rfl,_,Da M.hw,?_⟩;rcases Aa wt with rfl | ⟨wt',p,rfl⟩
 ·refine ifF rfl ?_;exact q sd1 bk1 dep1 rt1 S1 (G.more fun _ _ _ _ _ h=>by simp at h) (fun y hy=>hk y (l6 hsl hy)) (hk st ⟨_,List.getElem?_set_self hsl⟩) M.ha M.hb M.len M.keep
 refine ifT (by rw[j9];simp[natS]) ?_;refine⟨_,rfl,⟨_,_,rfl,M.hw⟩,_,_,M.hw,CA,?_⟩;rw[Cu];have M1:=M.setw (wt':=wt');obtain⟨⟨v,hv⟩,hpr⟩:=hwt p (by simp);have hpn:p<n:=by rw[<-G.ls];exact(gM hv).1
 rw[List.length_append]at hm hwc;simp only[List.length_cons,List.length_nil]at hm hwc;refine⟨_,rfl,_,rfl,ht hel hpn ⟨_,c5 c8,?_⟩⟩;have M2:=M1.push (o:=SO.lst (natS (c9 es p es.length)));have hnew:=c8 (S:=S1.set w (.lst (natS wt'))) (o:=SO.lst (natS (c9 es p es.length)));have l1:=v5 M1.ha;have l2:=v5 M1.hb;have l3:=v5 M1.hw;generalize (S1.set w (.lst (natS wt'))).length=l at *;generalize (S1.set w (.lst (natS wt')))++[SO.lst (natS (c9 es p es.length))]=S3 at *
 refine v9 (j4 hΔ _) (fun i ρ S2=>∃ o6 o7,ρ=[some (i3 n es),some (.int st),some (.loc a),some (.loc b),some (.loc w),some (.int p),o6,o7]/\GI n es st a b w p (m - 1) S (sd.set st (some 0)) l (.lst (natS (c9 es p es.length))) ((c9 es p es.length).drop i) S2)
  ⟨o6,o7,rfl,hnew,sd1,bk1,dep1,rt1,wt',G.more (fun y i e he hye h=>?_),M2,fun y hy=>hwt y (by simp[hy]),⟨v,hv⟩,hpr,by omega,by omega,hk⟩ ?_ ?_ ?_
 ·rcases List.mem_append.mp h with h | h
  ·exact .inl h
  ·have:=List.mem_singleton.mp h;exact .inr ⟨this,mem_tiesAt.mpr ⟨e,he,by rw[<-this];exact hye.imp Eq.symm Eq.symm⟩⟩
 ·rintro i ρ S2 ⟨_,_,_,h,_⟩;show S2[l]?=_;rw[h,hnew]
 ·rintro i x ρ S2 hx ⟨o6,o7,rfl,I⟩;have hi:i<(c9 es p es.length).length:=by have:=(gM hx).1;rwa [e6]at this
  have hx2:=AZ (List.getElem?_eq_getElem hi);rw[hx2]at hx;have hx:=oj hx;subst hx;obtain⟨e,he,hpe⟩:=mem_tiesAt.mp (List.getElem_mem hi);rw[List.drop_eq_getElem_cons hi]at I;exact Lu hf (by omega) (by omega) (by omega) hen hn he (hpe.imp Eq.symm Eq.symm) (fun q hq=>l6 hsl (hbl q hq)) I fun o7 S' I'=>⟨_,_,rfl,I'⟩
 ·rintro ρ S2 ⟨o6,o7,rfl,_,sd2,bk2,dep2,rt2,wt2,G2,N2,h1,h2,h3,h4,h5,h6⟩;rw[e6,List.drop_length]at G2;exact⟨m - 1,by omega,sd2,bk2,dep2,rt2,wt2,_,_,_,rfl,G2.more (fun _ _ _ _ _ h=>h.elim id fun h=>by simp at h),N2,h1,h4,h5,h6⟩
end
open PySem L2
def t1':Stm:=(.asg (.nm 1) (.op .Mult (.lst (.cons (.c .non) .nil)) (.ix (.var 0) (.c (.int 0)))))
def t2':Stm:=(.asg (.nm 2) (.op .Mult (.lst (.cons (.c .non) .nil)) (.ix (.var 0) (.c (.int 0)))))
def t3'(kg:Nat):Stm:=(.loop (.nm 3) (.rng1 (.ix (.var 0) (.c (.int 0)))) [(.iff (.cmp .Is (.ix (.var 1) (.var 3)) (.c .non)) [(.expr (.call kg (.cons (.var 0) (.cons (.var 3) (.cons (.var 1) (.cons (.var 2) .nil))))))] [])])
def t4'(kr:Nat):Stm:=(.loop (.tup (.cons (.nm 4) (.cons (.tup (.cons (.nm 5) (.cons (.nm 6) .nil))) .nil))) (.enum (.ix (.var 0) (.c (.int 1)))) [(.iff (.cmp .Eq (.ix (.var 1) (.var 5)) (.ix (.var 1) (.var 6))) [(.ret (.tup (.cons (.c (.str "ring")) (.cons (.call kr (.cons (.var 0) (.cons (.var 4) (.cons (.var 2) .nil)))) .nil))))] [])])
def t5':Stm:=(.ret (.tup (.cons (.c (.str "sides")) (.cons (.var 1) .nil))))
structure Full(n:Nat)(es:EE)(sd bk:List (Option Nat))(dep rt:Nat->Nat):Prop where
 gs:Gs n es sd bk dep rt (fun _ _=>False)
 all:∀ p,p<n->sd[p]?=some (some (dep p % 2))
theorem OW{Δ:Nat->Sn}{kr:Nat}(hΔ:∀ f,MonoN (Δ f))(hr:Fn (Δ kr)){n a b:Nat}{es:EE}{sd bk:List (Option Nat)}{dep rt:Nat->Nat}{S:Sto}{Q:QE}{o3 o4 o5 o6:Option SV}(hen:∀ e∈es,e.1<e.2/\e.2<n)(hn:n<=1000)(F:Full n es sd bk dep rt)(hSa:S[a]?=some (.lst (optsS sd)))(hSb:S[b]?=some (.lst (optsS bk)))
 (q1:(∀ e∈es,dep e.1 % 2≠dep e.2 % 2)->Q (.tup [.str "sides",.loc a]) S)
 (q2:∀(j:Nat) (e:Nat×Nat) (us ds:List Nat) (l:Nat) (S':Sto),es[j]?=some e->dep e.1 % 2=dep e.2 % 2->Cut (upW es bk (dep e.1) e.1) (upW es bk (dep e.2) e.2) us ds->Gw S S'->S.length<=l->S'[l]?=some (.lst (natS (us++ds.reverse++[j])))->Q (.tup [.str "ring",.loc l]) S'):
 wSs Δ [t4' kr,t5'] (Ae Q) [some (i3 n es),some (.loc a),some (.loc b),o3,o4,o5,o6] S:=by
 refine⟨_,rfl,_,_,rfl,rfl,_,rfl,?_⟩;refine v9 (j4 hΔ _) (fun i ρ S2=>∃ o4 o5 o6,ρ=[some (i3 n es),some (.loc a),some (.loc b),o3,o4,o5,o6]/\S2=S/\∀(j:Nat) (e:Nat×Nat),j<i->es[j]?=some e->dep e.1 % 2≠dep e.2 % 2) ⟨o4,o5,o6,rfl,rfl,fun _ _ h=>by omega⟩ (fun _ _ _ _=>trivial) ?_ ?_
 ·rintro i x ρ _ hx ⟨p4,p5,p6,rfl,rfl,hd⟩;obtain⟨y,hy,rfl⟩:=EH hx;obtain⟨e,he,rfl⟩:=At hy;have hee:=hen e (List.mem_of_getElem? he);refine⟨_,rfl,_,rfl,_,_,c5 hSa,f8 (i6 (F.all e.1 (by omega))),_,rfl,_,rfl,_,_,c5 hSa,f8 (i6 (F.all e.2 hee.2)),_,rfl,?_⟩;refine ifD (fun h=>?_) (fun h=>⟨_,_,_,rfl,rfl,fun j e' hj he'=>?_⟩)
  ·refine⟨_,rfl,_,rfl,_,rfl,hr (F.gs.tr hn) he (by omega) hee.2 hSb fun us ds l S' hc hg hl hS=>⟨by show 2<=big;decide,?_⟩⟩;exact q2 i e us ds l S' he (Int.natCast_inj.mp h) hc hg hl hS
  ·by_cases hji:j=i
   ·subst hji;rw[he]at he';have:=oj he';subst this;exact fun z=>h (congrArg Nat.cast z)
   ·exact hd j e' (by omega) he'
 ·rintro ρ _ ⟨p4,p5,p6,rfl,rfl,hd⟩;rw[Dc,List.length_map]at hd;refine⟨_,rfl,by show 2<=big;decide,q1 fun e he=>?_⟩;obtain⟨j,hj,he⟩:=List.getElem_of_mem he;exact hd j e hj (by rw[List.getElem?_eq_getElem hj,he])
def Vk(kg kr:Nat):List Stm:=[t1',t2',t3' kg,t4' kr,t5']
def OX(s:Sn):Prop:=∀{n:Nat} {es:EE} {S:Sto} {Q:QE},(∀ e∈es,e.1<e.2/\e.2<n)->es.length<=5000->n<=1000->
 (∀(sd bk:List (Option Nat)) (dep rt:Nat->Nat) (a:Nat) (S':Sto),Full n es sd bk dep rt->(∀ e∈es,dep e.1 % 2≠dep e.2 % 2)->Gw S S'->S.length<=a->S'[a]?=some (.lst (optsS sd))->Q (.tup [.str "sides",.loc a]) S')->
 (∀(sd bk:List (Option Nat)) (dep rt:Nat->Nat) (j:Nat) (e:Nat×Nat) (us ds:List Nat) (l:Nat) (S':Sto),Full n es sd bk dep rt->es[j]?=some e->dep e.1 % 2=dep e.2 % 2->Cut (upW es bk (dep e.1) e.1) (upW es bk (dep e.2) e.2) us ds->Gw S S'->S.length<=l->S'[l]?=some (.lst (natS (us++ds.reverse++[j])))->Q (.tup [.str "ring",.loc l]) S')->s [i3 n es] S Q
theorem KD(n:Nat):(List.replicate ((n:Int)).toNat [SV.non]).flatten=optsS (List.replicate n none):=by
 rw[Int.toNat_natCast]
 induction n with
 | zero=>rfl
 | succ n ih=>rw[List.replicate_succ,List.flatten_cons,ih];rfl
theorem OY(n:Nat)(es:EE):Gs n es (List.replicate n none) (List.replicate n none) (fun _=>0) (fun p=>p) (fun _ _=>False):=by
 have h:∀ p,¬ IsSet (List.replicate n none) p:=fun p ⟨v,hv⟩=>by
  have:=List.mem_of_getElem? hv;rw[List.mem_replicate]at this;cases this.2
 refine⟨by simp,by simp,fun p v hv=>absurd ⟨v,hv⟩ (h p),fun p j hj=>absurd ⟨j,hj⟩ (h p),fun p hp=>absurd hp (h p),fun p hp=>absurd hp (h p),fun _ _=>rfl,fun p _ _ hp=>absurd hp (h p),fun p hp=>absurd hp (h p)⟩
theorem UE{Δ:Nat->Sn}{kg kr:Nat}(hΔ:∀ f,MonoN (Δ f))(hg:J4 (Δ kg))(hr:Fn (Δ kr)){D:Df}(hb:D.body=Vk kg kr)(hN:D.N.length=7)(hp:D.ps.length=1):OX (i8 Δ D):=by
 intro n es S Q hen hel hn q1 q2;unfold i8;rw[hb,hN];refine⟨hp.symm,by show 1<=big;decide,_,rfl,_,_,rfl,rfl,_,c8,⟨by omega,by omega⟩,by simp;show _<=100000;omega,?_⟩;rw[KD];refine⟨by show 1<=big;decide,_,rfl,_,_,rfl,rfl,_,c8,⟨by omega,by omega⟩,by simp;show _<=100000;omega,?_⟩;rw[KD];generalize ha:(S++[SO.lst [SV.non]]).length=a;have ha1:S.length<a:=by rw[<-ha];simp
 have hSa:(S++[SO.lst [SV.non]]++[SO.lst (optsS (List.replicate n none))])[a]?=some (.lst (optsS (List.replicate n none))):=by rw[<-ha];exact c8
 have G0:Gw S (S++[SO.lst [SV.non]]++[SO.lst (optsS (List.replicate n none))]):=(Gw.refl S).push.push;generalize S++[SO.lst [SV.non]]++[SO.lst (optsS (List.replicate n none))]=S1 at *;generalize hb2:(S1++[SO.lst [SV.non]]).length=b;have hb1:S1.length<b:=by rw[<-hb2];simp
 have hSb:(S1++[SO.lst [SV.non]]++[SO.lst (optsS (List.replicate n none))])[b]?=some (.lst (optsS (List.replicate n none))):=by rw[<-hb2];exact c8
 have hS2:=f6 (o:=SO.lst (optsS (List.replicate n none))) (f6 (o:=SO.lst [SV.non]) hSa);have G2:=(G0.push (o:=SO.lst [SV.non])).push (o:=SO.lst (optsS (List.replicate n none)));have hab:=v5 hSa;generalize S1++[SO.lst [SV.non]]++[SO.lst (optsS (List.replicate n none))]=S2 at *;refine⟨_,rfl,_,_,rfl,rfl,_,rfl,⟨by omega,by omega⟩,?_⟩
 refine v9 (j4 hΔ _) (fun i ρ S'=>∃ sd bk dep rt o3,ρ=[some (i3 n es),some (.loc a),some (.loc b),o3,none,none,none]/\Gs n es sd bk dep rt (fun _ _=>False)/\(∀ p,p<i->IsSet sd p)/\S'[a]?=some (.lst (optsS sd))/\S'[b]?=some (.lst (optsS bk))/\Gw S S')
  ⟨_,_,_,_,none,rfl,OY n es,fun _ h=>by omega,hS2,hSb,G2⟩ (fun _ _ _ _=>trivial) ?_ ?_
 ·rintro i x ρ S' hx ⟨sd,bk,dep,rt,o3,rfl,G,hs,ha',hb',Gw'⟩;obtain⟨rfl,hi⟩:=AT hx;rw[Int.zero_add]at hi ⊢;have hil:i<sd.length:=by rw[G.ls];omega
  cases hx:sd[i] with
  | some v=>
    have h:sd[i]?=some (some v):=by rw[List.getElem?_eq_getElem hil,hx]
    refine⟨_,rfl,_,rfl,_,_,c5 ha',f8 (i6 h),.inl ⟨rfl,_,rfl,ifF rfl ?_⟩⟩;refine⟨sd,bk,dep,rt,_,rfl,G,fun p hp=>?_,ha',hb',Gw'⟩;by_cases hpi:p=i
    ·rw[hpi];exact⟨v,h⟩
    ·exact hs p (by omega)
  | none=>
    have h:sd[i]?=some none:=by rw[List.getElem?_eq_getElem hil,hx]
    refine⟨_,rfl,_,rfl,_,_,c5 ha',f8 (i6 h),.inl ⟨rfl,_,rfl,ifT rfl ?_⟩⟩;refine⟨_,rfl,_,rfl,_,rfl,_,rfl,hg hen hel hn G h hs (by omega) ha' hb' fun sd' bk' dep' rt' S'' G' k1 k2 h1 h2 h3 h4=>?_⟩;refine⟨sd',bk',dep',rt',_,rfl,G',fun p hp=>?_,h1,h2,⟨Nat.le_trans Gw'.len h3,fun k o hk=>h4 k o (by have:=v5 hk;omega) (by have:=v5 hk;omega) (Gw'.keep k o hk)⟩⟩;by_cases hpi:p=i
    ·rw[hpi];exact k2
    ·exact k1 p (hs p (by omega))
 ·rintro ρ S' ⟨sd,bk,dep,rt,o3,rfl,G,hs,ha',hb',Gw'⟩;rw[B4]at hs
  have F:Full n es sd bk dep rt:=⟨G,fun p hp=>by
   obtain⟨v,hv⟩:=hs p (by omega);rw[hv,G.val p v hv]⟩
  exact OW hΔ hr hen hn F ha' hb' (fun h=>q1 sd bk dep rt a S' F h Gw' (by omega) ha') fun j e us ds l S'' he h hc hg' hl hS=>q2 sd bk dep rt j e us ds l S'' F he h hc (Gw'.trans hg') (Nat.le_trans Gw'.len hl) hS
open PySem L2
def Pth(es:EE):List Nat->Nat->Nat->List Nat->Prop
 | [],p,q,vs=>p=q/\vs=[]
 | t::ts,p,q,vs=>∃ e vs',es[t]?=some e/\(p=e.1\/p=e.2)/\vs=p::vs'/\Pth es ts (farE e p) q vs'
theorem Pth.app{es:EE}:∀{a b:List Nat} {p q r:Nat} {vs ws:List Nat},Pth es a p q vs->Pth es b q r ws->Pth es (a++b) p r (vs++ws)
 | [],b,p,q,r,vs,ws,h,k=>by obtain⟨rfl,rfl⟩:=h;exact k
 | t::a,b,p,q,r,vs,ws,h,k=>by
   obtain⟨e,vs',h1,h2,rfl,h3⟩:=h;exact⟨e,vs'++ws,h1,h2,rfl,h3.app k⟩
theorem Pth.rev{es:EE}(hu:∀ e∈es,e.1≠e.2):∀{a:List Nat} {p q:Nat} {vs:List Nat},Pth es a p q vs->∃ ws,Pth es a.reverse q p ws/\ws++[p]=(vs++[q]).reverse
 | [],p,q,vs,h=>by obtain⟨rfl,rfl⟩:=h;exact⟨[],⟨rfl,rfl⟩,rfl⟩
 | t::a,p,q,vs,h=>by
   obtain⟨e,vs',h1,h2,rfl,h3⟩:=h;obtain⟨ws,k1,k2⟩:=h3.rev hu;refine⟨ws++[farE e p],?_,?_⟩
   ·rw[List.reverse_cons];exact k1.app ⟨e,[],h1,AJ h2,rfl,BL (hu e (List.mem_of_getElem? h1)) h2,rfl⟩
   ·rw[k2];simp
theorem EJ{n:Nat}{es:EE}{bk:List (Option Nat)}{dep:Nat->Nat}(T:Tr n es bk dep){p t:Nat}{us:List Nat}(h:upW es bk (dep p) p=t::us):∃ e,bk[p]?=some (some t)/\es[t]?=some e/\(p=e.1\/p=e.2)/\farE e p<n/\dep p=dep (farE e p)+1/\us=upW es bk (dep (farE e p)) (farE e p):=by
 cases hd:dep p with
 | zero=>rw[hd]at h;cases h
 | succ f=>
   rw[hd]at h;cases hb:bk[p]? with
   | none=>rw[upW,hb]at h;cases h
   | some x=>
     cases x with
     | none=>rw[upW,hb]at h;cases h
     | some j=>
       obtain⟨e,h1,h2,h3,h4⟩:=T.up p j hb;rw[EI hb h1]at h;have e1:=List.cons.inj h;obtain⟨rfl,e2⟩:=e1;refine⟨e,rfl,h1,h2,h3,by omega,?_⟩;rw[<-e2]
       congr 1
       omega
structure UpC(n:Nat)(es:EE)(bk:List (Option Nat))(dep rt:Nat->Nat)(us cm:List Nat)(p m:Nat)(vs:List Nat):Prop where
 pth:Pth es us p m vs
 rest:upW es bk (dep m) m=cm
 far:dep p=dep m+us.length
 rt':rt m=rt p
 lt:m<n
 nd:vs.Nodup
 inn:∀ x∈vs,dep m<dep x/\dep x<=dep p/\∃ us1 us2,us=us1++us2/\us2≠[]/\upW es bk (dep x) x=us2++cm
theorem J5{n:Nat}{es:EE}{sd bk:List (Option Nat)}{dep rt:Nat->Nat}(F:Full n es sd bk dep rt)(hn:n<=1000):∀(us cm:List Nat) (p:Nat),p<n->upW es bk (dep p) p=us++cm->∃ m vs,UpC n es bk dep rt us cm p m vs
 | [],cm,p,hp,h=>⟨p,[],⟨rfl,rfl⟩,h,rfl,rfl,hp,List.nodup_nil,fun _ h=>nomatch h⟩
 | t::us,cm,p,hp,h=>by
   obtain⟨e,h1,h2,h3,h4,h5,h6⟩:=EJ (F.gs.tr hn) h;obtain⟨e',g1,g2,g3,g4,g5,g6⟩:=F.gs.up p t h1;rw[h2]at g1;have:=oj g1;subst this;obtain⟨m,vs,U⟩:=J5 F hn us cm (farE e p) h4 h6.symm;refine⟨m,p::vs,⟨e,vs,h2,h3,rfl,U.pth⟩,U.rest,?_,U.rt'.trans g6,U.lt,?_,fun x hx=>?_⟩
   ·rw[h5,U.far,List.length_cons];omega
   ·refine List.nodup_cons.mpr ⟨fun z=>?_,U.nd⟩;have:=(U.inn p z).2.1;omega
   ·rcases List.mem_cons.mp hx with rfl | hx
    ·exact⟨by rw[h5,U.far];omega,Nat.le_refl _,[],t::us,rfl,nofun,h⟩
    ·obtain⟨a1,a2,us1,us2,a3,a4,a5⟩:=U.inn x hx;exact⟨a1,by omega,t::us1,us2,by rw[a3];rfl,a4,a5⟩
theorem Lv{n:Nat}{es:EE}{sd bk:List (Option Nat)}{dep rt:Nat->Nat}(F:Full n es sd bk dep rt)(hn:n<=1000){m m':Nat}{cm:List Nat}(hm:m<n)(hm':m'<n)(h:upW es bk (dep m) m=cm)(h':upW es bk (dep m') m'=cm)(hr:rt m=rt m'):m=m':=by
 have T:=F.gs.tr hn;cases cm with
 | cons t us=>
   obtain⟨e,a1,a2,a3,a4,a5,a6⟩:=EJ T h;obtain⟨e',b1,b2,b3,b4,b5,b6⟩:=EJ T h';rw[a2]at b2;have:=oj b2;subst this;by_cases he:m=m'
   ·exact he
   ·exfalso;rcases a3 with a3 | a3<;>rcases b3 with b3 | b3
    ·exact he (a3.trans b3.symm)
    ·have f1:farE e m=m':=by unfold farE;rw[if_pos a3,b3]
     have f2:farE e m'=m:=by unfold farE;rw[if_neg (by omega),a3]
     rw[f1]at a5;rw[f2]at b5;omega
    ·have f1:farE e m'=m:=by unfold farE;rw[if_pos b3,a3]
     have f2:farE e m=m':=by unfold farE;rw[if_neg (by omega),b3]
     rw[f2]at a5;rw[f1]at b5;omega
    ·exact he (a3.trans b3.symm)
 | nil=>
   have root:∀ p,p<n->upW es bk (dep p) p=[]->rt p=p:=fun p hp hu=>by
    have hlt:p<bk.length:=by rw[F.gs.lb];exact hp
    cases hx:bk[p] with
    | none=>exact(F.gs.root p ⟨_,F.all p hp⟩ (by rw[List.getElem?_eq_getElem hlt,hx])).1
    | some j=>
      have hb:bk[p]?=some (some j):=by rw[List.getElem?_eq_getElem hlt,hx]
      obtain⟨e,h1,h2,h3,h4⟩:=T.up p j hb;rw[h4,EI hb h1]at hu;cases hu
   rw[<-root m hm h,<-root m' hm' h',hr]
theorem OZ{n:Nat}{es:EE}{sd bk:List (Option Nat)}{dep rt:Nat->Nat}(F:Full n es sd bk dep rt)(hn:n<=1000)(hen:∀ e∈es,e.1<e.2/\e.2<n){j:Nat}{e:Nat×Nat}{us ds:List Nat}(he:es[j]?=some e)(hl:dep e.1 % 2=dep e.2 % 2)
 (C:Cut (upW es bk (dep e.1) e.1) (upW es bk (dep e.2) e.2) us ds):∃ vs,Pth es (us++ds.reverse++[j]) e.1 e.1 vs/\vs.Nodup/\3<=(us++ds.reverse++[j]).length/\(us++ds.reverse++[j]).length % 2=1:=by
 have hee:=hen e (List.mem_of_getElem? he);have hun:∀ e∈es,e.1≠e.2:=fun e he=>by have:=hen e he;omega
 obtain⟨cm,ca,cb⟩:=C.ex;obtain⟨m,vs,U⟩:=J5 F hn us cm e.1 (by omega) ca;obtain⟨m',ws,V⟩:=J5 F hn ds cm e.2 hee.2 cb
 have hrt:rt e.1=rt e.2:=by
  rcases F.gs.cl e.2 j e ⟨_,F.all e.2 hee.2⟩ he (.inr rfl) with h | ⟨_,h⟩
  ·exact h.elim
  ·unfold farE at h;rw[if_neg (by omega)]at h;exact h
 have hmm:m=m':=Lv F hn U.lt V.lt U.rest V.rest (by rw[U.rt',V.rt',hrt]);subst hmm;obtain⟨rs,R1,R2⟩:=V.pth.rev hun;have hback:Pth es [j] e.2 e.1 [e.2]:=⟨e,[],he,.inr rfl,rfl,by unfold farE;rw[if_neg (by omega)],rfl⟩
 refine⟨_,(U.pth.app R1).app hback,?_,?_,?_⟩
 ·rw[List.append_assoc,R2,List.reverse_append];show(vs++(m::ws.reverse)).Nodup;rw[List.nodup_append];refine⟨U.nd,List.nodup_cons.mpr ⟨fun z=>?_,(List.reverse_perm ws).nodup_iff.mpr V.nd⟩,fun x hx y hy hxy=>?_⟩
  ·have:=(V.inn m (List.mem_reverse.mp z)).1;omega
  ·subst hxy;obtain⟨a1,a2,us1,us2,a3,a4,a5⟩:=U.inn x hx;rcases List.mem_cons.mp hy with hy | hy
   ·rw[hy]at a1;omega
   ·obtain⟨b1,b2,ds1,ds2,b3,b4,b5⟩:=V.inn x (List.mem_reverse.mp hy);rw[a5]at b5;have:=List.append_cancel_right b5;subst this;rcases Aa us2 with h | ⟨u3,z,h⟩
    ·exact a4 h
    ·exact C.ne z z (us1++u3) (ds1++u3) (by rw[a3,h,List.append_assoc]) (by rw[b3,h,List.append_assoc]) rfl
 ·have h1:=U.far;have h2:=V.far;rw[List.length_append,List.length_append,List.length_reverse,List.length_singleton]
  have:us.length≠0\/ds.length≠0:=by
   apply Classical.byContradiction;intro z;have z1:us=[]:=List.length_eq_zero_iff.mp (by omega);have z2:ds=[]:=List.length_eq_zero_iff.mp (by omega);have p1:=U.pth;have p2:=V.pth;rw[z1]at p1;rw[z2]at p2;have:=p1.1.trans p2.1.symm;omega
  omega
 ·have h1:=U.far;have h2:=V.far;rw[List.length_append,List.length_append,List.length_reverse,List.length_singleton];omega
open PySem L2
theorem DD(xs:List Nat):(natS xs).all Ap=true:=by
 unfold natS;rw[List.all_map,List.all_eq_true];exact fun _ _=>rfl
open PySem L2
structure Ms(n:Nat)(es:EE)(i:Nat)(ms:List Nat):Prop where
 len:ms.length=n
 le:∀ p v:Nat,ms[p]?=some v->v<=p
 one:∀(j:Nat) (e:Nat×Nat),j<i->es[j]?=some e->ms[e.1]?=ms[e.2]?
theorem Qy(a b:Nat):(if (b:Int)<a then (b:Int) else a)=((min a b:Nat):Int):=by split<;>omega
theorem Qz(a b:Nat):(if (b:Int)>a then (b:Int) else a)=((max a b:Nat):Int):=by split<;>omega
open PySem L2
theorem UF(b:Bool)(n:Nat):blS (List.replicate n (.bl b))=some (List.replicate n b):=by
 induction n with
 | zero=>rfl
 | succ n ih=>rw[List.replicate_succ,List.replicate_succ];simp[blS,ih]
theorem Oa{Δ:Nat->Sn}(hΔ:∀ f,MonoN (Δ f)){e:Ex}{keep:Sto->Prop}{g:Tg}{ρ:EnvS}{Q:List SV->Sto->Prop}{b:Bool}{xs:List SV}{S:Sto}(hl:xs.length<=1000)(hk:∀ S',Gw S S'->keep S')
 (hs:∀(i:Nat) (x:SV) (S':Sto),xs[i]?=some x->Gw S S'->wTg g x ρ fun ρ2=>(wEx Δ e).1 ρ2 S' fun y S2=>y = .bl b/\Gw S S2)
 (q:∀ S',Gw S S'->Q (List.replicate xs.length (.bl b)) S'):w9 keep g (wEo Δ .no).2 (wEx Δ e).1 ρ Q xs [] S:=by
 refine l9 (i7 hΔ _).2 (a8 hΔ _).1 (fun i ys S'=>Gw S S'/\ys=List.replicate i (.bl b)) ⟨Gw.refl S,rfl⟩ (fun _ _ _ h=>hk _ h.1) ?_ ?_
 ·rintro i x ys S' hx ⟨G,rfl⟩;have hi:=(gM hx).1;refine j6 g (fun ρ2 h=>?_) (hs i x S' hx G);refine(a8 hΔ e).1 _ _ _ _ (fun y S2 h=>⟨by rw[List.length_replicate];show _<100000;omega,h.2,?_⟩) h;rw[h.1,List.replicate_succ']
 ·rintro ys S' ⟨G,rfl⟩;exact q S' G
section
variable{Δ:Nat->Sn}
theorem R4(n:Nat):(List.replicate n true).all id=true:=by simp
structure Odd(es:EE)(ts:List Nat):Prop where
 lt:∀ t∈ts,t<es.length
 few:ts.length<=500
 three:3<=ts.length
 odd:ts.length % 2=1
 ex:∃ p vs,Pth es ts p p vs/\vs.Nodup
end
end Rf
namespace Hue
def DE(ms:List Nat)(e:Nat×Nat):Nat:=min (ms.getD e.1 0) (ms.getD e.2 0)
def CQ(ms:List Nat)(e:Nat×Nat):Nat:=max (ms.getD e.1 0) (ms.getD e.2 0)
def u7(ms:List Nat)(e:Nat×Nat):List Nat:=ms.map fun x=>if x=CQ ms e then DE ms e else x
def marks(n:Nat)(es:EE):List Nat:=es.foldl u7 (List.range n)
structure Mk(n:Nat)(ms:List Nat):Prop where
 len:ms.length=n
 le:∀ i (h:i<ms.length),ms[i]<=i
 fix:∀ i (h:i<ms.length),ms[ms[i]]?=some ms[i]
theorem mk_range(n:Nat):Mk n (List.range n):=⟨by simp,fun i h=>by simp,fun i h=>by
 have hi:i<n:=by simpa using h
 simp[List.getElem?_range,hi]⟩
theorem Ob{n:Nat}{ms:List Nat}(M:Mk n ms){e:Nat×Nat}(h1:e.1<n)(h2:e.2<n):Mk n (u7 ms e):=by
 have l1:e.1<ms.length:=by rw[M.len];exact h1
 have l2:e.2<ms.length:=by rw[M.len];exact h2
 have g1:ms.getD e.1 0=ms[e.1]:=by simp[List.getD,l1]
 have g2:ms.getD e.2 0=ms[e.2]:=by simp[List.getD,l2]
 have fl:ms[DE ms e]?=some (DE ms e):=by
  unfold DE;rw[g1,g2];rcases Nat.le_total ms[e.1] ms[e.2] with z | z
  ·rw[Nat.min_eq_left z];exact M.fix _ l1
  ·rw[Nat.min_eq_right z];exact M.fix _ l2
 have hlh:DE ms e<=CQ ms e:=by unfold DE CQ;omega
 have at':∀ i (h:i<(u7 ms e).length),(u7 ms e)[i]=if ms[i]'(by simpa[u7] using h)=CQ ms e then DE ms e else ms[i]'(by simpa[u7] using h):=fun i h=>by simp[u7]
 refine⟨by rw[u7,List.length_map,M.len],fun i h=>?_,fun i h=>?_⟩
 ·rw[at' i h];have hi:i<ms.length:=by simpa[u7] using h
  have:=M.le i hi;split
  ·rename_i q;omega
  ·exact this
 ·have hi:i<ms.length:=by simpa[u7] using h
  have key:∀ v,ms[v]?=some v->(v≠CQ ms e\/v=DE ms e)->(u7 ms e)[v]?=some v:=by
   intro v hv q;unfold u7;rw[List.getElem?_map,hv];show some (if v=CQ ms e then DE ms e else v)=some v;rcases q with q | q
   ·rw[if_neg q]
   ·split
    ·rw[<-q]
    ·rfl
  rw[at' i h];split
  ·exact key _ fl (.inr rfl)
  ·rename_i q;exact key _ (M.fix i hi) (.inl q)
theorem mk_marks{n:Nat}:∀{es:EE} {ms:List Nat},Mk n ms->(∀ e∈es,e.1<n/\e.2<n)->Mk n (es.foldl u7 ms)
 | [],_,M,_=>M
 | e::es,ms,M,h=>mk_marks (es:=es) (ms:=u7 ms e) (Ob M (h e (List.mem_cons_self ..)).1 (h e (List.mem_cons_self ..)).2) fun f hf=>h f (List.mem_cons_of_mem _ hf)
def Cl(es:EE)(C:Nat->Prop):Prop:=∀ e∈es,C e.1↔C e.2
theorem Bz{ms:List Nat}{e:Nat×Nat}{p:Nat}(h:p<ms.length):(u7 ms e).getD p 0=if ms.getD p 0=CQ ms e then DE ms e else ms.getD p 0:=by
 unfold u7;simp[List.getD,h]
theorem CC{ms:List Nat}{e:Nat×Nat}:(u7 ms e).length=ms.length:=by simp[u7]
theorem HX(ms:List Nat)(e:Nat×Nat):(DE ms e=ms.getD e.1 0/\CQ ms e=ms.getD e.2 0)\/(DE ms e=ms.getD e.2 0/\CQ ms e=ms.getD e.1 0):=by
 unfold DE CQ;rcases Nat.le_total (ms.getD e.1 0) (ms.getD e.2 0) with z | z
 ·exact .inl ⟨Nat.min_eq_left z,Nat.max_eq_right z⟩
 ·exact .inr ⟨Nat.min_eq_right z,Nat.max_eq_left z⟩
theorem HY{n:Nat}{C:Nat->Prop}:∀{es:EE} {ms:List Nat},ms.length=n->(∀ e∈es,e.1<n/\e.2<n)->Cl es C->(∀ p,p<n->(C p↔C (ms.getD p 0)))->∀ p,p<n->(C p↔C ((es.foldl u7 ms).getD p 0))
 | [],_,_,_,_,h=>h
 | e::es,ms,hl,hn,hc,h=>by
   refine HY (es:=es) (ms:=u7 ms e) (by rw[CC,hl]) (fun f hf=>hn f (List.mem_cons_of_mem _ hf)) (fun f hf=>hc f (List.mem_cons_of_mem _ hf)) fun p hp=>?_;have he:=hn e (List.mem_cons_self ..);have c1:=h e.1 he.1;have c2:=h e.2 he.2;have c0:=hc e (List.mem_cons_self ..);have hp0:=h p hp;rw[Bz (by omega)];split
   ·rename_i z;rw[z]at hp0;rcases HX ms e with⟨a,b⟩ | ⟨a,b⟩
    ·rw[a];rw[b]at hp0;exact hp0.trans (c2.symm.trans (c0.symm.trans c1))
    ·rw[a];rw[b]at hp0;exact hp0.trans (c1.symm.trans (c0.trans c2))
   ·exact hp0
theorem cl_marks{n:Nat}{es:EE}{C:Nat->Prop}(hn:∀ e∈es,e.1<n/\e.2<n)(hc:Cl es C){p:Nat}(hp:p<n):C p↔C ((marks n es).getD p 0):=by
 refine HY (ms:=List.range n) (by simp) hn hc (fun q hq=>?_) p hp;simp[List.getD,hq]
theorem HZ{n:Nat}{a b:Nat}:∀{es:EE} {ms:List Nat},ms.length=n->a<n->b<n->ms.getD a 0=ms.getD b 0->(es.foldl u7 ms).getD a 0=(es.foldl u7 ms).getD b 0
 | [],_,_,_,_,h=>h
 | e::es,ms,hl,ha,hb,h=>by
   refine HZ (es:=es) (ms:=u7 ms e) (by rw[CC,hl]) ha hb ?_;rw[Bz (by omega),Bz (by omega),h]
theorem FC{n:Nat}:∀{es:EE} {ms:List Nat},ms.length=n->(∀ e∈es,e.1<n/\e.2<n)->∀ e∈es,(es.foldl u7 ms).getD e.1 0=(es.foldl u7 ms).getD e.2 0
 | f::es,ms,hl,hn,e,he=>by
   rcases List.mem_cons.mp he with rfl | he
   ·have hb:=hn e (List.mem_cons_self ..);refine HZ (es:=es) (ms:=u7 ms e) (by rw[CC,hl]) hb.1 hb.2 ?_;rw[Bz (by omega),Bz (by omega)];rcases HX ms e with⟨a,b⟩ | ⟨a,b⟩
    ·rw[a,b];simp
    ·rw[a,b];simp
   ·exact FC (es:=es) (ms:=u7 ms f) (by rw[CC,hl]) (fun g hg=>hn g (List.mem_cons_of_mem _ hg)) e he
theorem marks_ends{n:Nat}{es:EE}(hn:∀ e∈es,e.1<n/\e.2<n):∀ e∈es,(marks n es).getD e.1 0=(marks n es).getD e.2 0:=FC (by simp) hn
abbrev Sds:=List (Option Nat)
end Hue
namespace Rf
open PySem L2
section
variable{Δ:Nat->Sn}
structure One(S0 S:Sto)(l:Nat)(s:Hue.Sds):Prop where
 g:Gw S0 S
 l0:S0.length<=l
 at':S[l]?=some (.lst (optsS s))
end
open PySem L2
theorem KF{n:Nat}{es:EE}{sd bk:List (Option Nat)}{dep rt:Nat->Nat}(F:Full n es sd bk dep rt){α:Type}(g:Nat->α)(hg:∀ e∈es,g e.1=g e.2):∀(d p:Nat),dep p=d->p<n->rt p<n/\dep (rt p)=0/\g (rt p)=g p
 | d,p,hd,hp=>by
   have hpl:p<bk.length:=by rw[F.gs.lb];exact hp
   have hs:IsSet sd p:=⟨_,F.all p hp⟩
   cases hx:bk[p] with
   | none=>
     obtain⟨h1,h2⟩:=F.gs.root p hs (by rw[List.getElem?_eq_getElem hpl,hx]);rw[h1];exact⟨hp,h2,rfl⟩
   | some j=>
     obtain⟨e,h1,h2,h3,⟨v,h4⟩,h5,h6⟩:=F.gs.up p j (by rw[List.getElem?_eq_getElem hpl,hx]);have hl:=(gM h4).1;rw[F.gs.ls]at hl;obtain⟨k1,k2,k3⟩:=KF F g hg (d - 1) (farE e p) (by omega) hl;rw[h6]at k1 k2 k3;refine⟨k1,k2,k3.trans ?_⟩;have he:=hg e (List.mem_of_getElem? h1);unfold farE;rcases h2 with h | h
     ·rw[if_pos h,h,he]
     ·by_cases z:p=e.1
      ·rw[if_pos z,z,he]
      ·rw[if_neg z,h,he]
termination_by d=>d
decreasing_by omega
theorem J6{n:Nat}{es:EE}{sd bk:List (Option Nat)}{dep rt:Nat->Nat}(F:Full n es sd bk dep rt){ms:List Nat}(M:Ms n es es.length ms){f:Nat}(hf:ms[f]?=some f):dep f=0:=by
 have hfn:f<n:=by rw[<-M.len];exact(gM hf).1
 obtain⟨h1,h2,h3⟩:=KF F (fun p=>ms[p]?) (fun e he=>by
  obtain⟨j,hj,he'⟩:=List.getElem_of_mem he;exact M.one j e hj (by rw[List.getElem?_eq_getElem hj,he'])) _ f rfl hfn
 have h4:=M.le _ _ (h3.trans hf);have h5:=F.gs.lo f ⟨_,F.all f hfn⟩;have:rt f=f:=by omega
 rw[this]at h2;exact h2
theorem Oc{n:Nat}{es:EE}(hn:∀ e∈es,e.1<n/\e.2<n):Ms n es es.length (Hue.marks n es):=by
 have M:Hue.Mk n (Hue.marks n es):=Hue.mk_marks (Hue.mk_range n) hn
 have g:∀ p,p<n->(Hue.marks n es)[p]?=some ((Hue.marks n es).getD p 0):=fun p hp=>by
  rw[List.getD_eq_getElem?_getD,List.getElem?_eq_getElem (by rw[M.len];exact hp)];rfl
 refine⟨M.len,fun p v h=>?_,fun j e _ he=>?_⟩
 ·obtain⟨h1,h2⟩:=gM h;rw[<-h2];exact M.le p h1
 ·have he:=List.mem_of_getElem? he;rw[g _ (hn e he).1,g _ (hn e he).2,Hue.marks_ends hn e he]
theorem KG{es:EE}{c:Nat->Nat}(hc:∀ e∈es,c e.1<2/\c e.2<2/\c e.1≠c e.2):∀{ts:List Nat} {p q:Nat} {vs:List Nat},Pth es ts p q vs->(c p+ts.length) % 2=c q % 2
 | [],p,q,vs,h=>by obtain⟨rfl,_⟩:=h;rfl
 | t::ts,p,q,vs,h=>by
   obtain⟨e,vs',h1,h2,_,h3⟩:=h;have ih:=KG hc h3;have he:=hc e (List.mem_of_getElem? h1);rw[List.length_cons];unfold farE at ih;rcases h2 with h | h
   ·rw[if_pos h]at ih;rw[h];omega
   ·by_cases z:p=e.1
    ·rw[if_pos z]at ih;rw[z];omega
    ·rw[if_neg z]at ih;rw[h];omega
theorem R6{n:Nat}{es:EE}{sd bk:List (Option Nat)}{dep rt:Nat->Nat}(F:Full n es sd bk dep rt)(hn:n<=249)(hen:∀ e∈es,e.1<e.2/\e.2<n){j:Nat}{e:Nat×Nat}{us ds:List Nat}(he:es[j]?=some e)(hl:dep e.1 % 2=dep e.2 % 2)
 (C:Cut (upW es bk (dep e.1) e.1) (upW es bk (dep e.2) e.2) us ds):Odd es (us++ds.reverse++[j]):=by
 obtain⟨vs,P,nd,h3,ho⟩:=OZ F (by omega) hen he hl C
 have lt:∀{ts:List Nat} {p q:Nat} {vs:List Nat},Pth es ts p q vs->∀ t∈ts,t<es.length:=by
  intro ts
  induction ts with
  | nil=>intro _ _ _ _ t ht;exact nomatch ht
  | cons t ts ih=>
    rintro p q vs ⟨e,vs',h1,_,_,h2⟩ u hu;rcases List.mem_cons.mp hu with rfl | hu
    ·exact(gM h1).1
    ·exact ih h2 u hu
 refine⟨lt P,?_,h3,ho,_,vs,P,nd⟩;obtain⟨cm,ca,cb⟩:=C.ex;have l1:=C9 es bk (dep e.1) e.1;have l2:=C9 es bk (dep e.2) e.2;have d1:=(F.gs.tr (by omega)).few e.1;have d2:=(F.gs.tr (by omega)).few e.2;have hee:=hen e (List.mem_of_getElem? he);have k1:=F.gs.low e.1 ⟨_,F.all e.1 (by omega)⟩;have k2:=F.gs.low e.2 ⟨_,F.all e.2 hee.2⟩;have k3:=List.countP_le_length (p:=Option.isSome) (l:=sd);rw[F.gs.ls]at k3;rw[ca,List.length_append]at l1;rw[cb,List.length_append]at l2;rw[List.length_append,List.length_append,List.length_reverse,List.length_singleton];omega
open PySem L2
theorem Od{es:EE}:∀{ts:List Nat} {p q:Nat} {vs:List Nat},Pth es ts p q vs->vs.length=ts.length/\∀ i,i<ts.length->es.getD (ts.getD i 0) (0,0)∈es/\((vs++[q]).getD i 0=(es.getD (ts.getD i 0) (0,0)).1\/(vs++[q]).getD i 0=(es.getD (ts.getD i 0) (0,0)).2)/\(vs++[q]).getD (i+1) 0=farE (es.getD (ts.getD i 0) (0,0)) ((vs++[q]).getD i 0)
 | [],p,q,vs,h=>by obtain⟨rfl,rfl⟩:=h;exact⟨rfl,fun i hi=>nomatch hi⟩
 | t::ts,p,q,vs,h=>by
   obtain⟨e,vs',h1,h2,rfl,h3⟩:=h;obtain⟨k1,k2⟩:=Od h3;have he:es.getD t (0,0)=e:=by rw[List.getD_eq_getElem?_getD,h1];rfl
   refine⟨by rw[List.length_cons,List.length_cons,k1],fun i hi=>?_⟩;cases i with
   | zero=>
     show es.getD t (0,0)∈es/\(p=(es.getD t (0,0)).1\/p=(es.getD t (0,0)).2)/\(vs'++[q]).getD 0 0=farE (es.getD t (0,0)) p;rw[he];refine⟨List.mem_of_getElem? h1,h2,?_⟩;cases ts with
     | nil=>obtain⟨rfl,rfl⟩:=h3;rfl
     | cons t' ts'=>obtain⟨e',vs'',_,_,rfl,_⟩:=h3;rfl
   | succ i=>exact k2 i (by rw[List.length_cons]at hi;omega)
theorem UG{es:EE}{ts:List Nat}{b:Nat×Nat->Bool}(hu:∀ e∈es,e.1≠e.2)(hM:∀ e∈es,∀ e'∈es,∀ v,(v=e.1\/v=e.2)->(v=e'.1\/v=e'.2)->b e=b e'->e=e')(O:Odd es ts):False:=by
 obtain⟨p,vs,P,nd⟩:=O.ex;obtain⟨hl,H⟩:=Od P;have h3:=O.three;have ho:=O.odd
 have hd:∀ i j,i<j->j<ts.length->(vs++[p]).getD i 0≠(vs++[p]).getD j 0:=fun i j hij hj=>by
  rw[List.getD_eq_getElem?_getD,List.getD_eq_getElem?_getD,List.getElem?_append_left (by omega),List.getElem?_append_left (by omega),List.getElem?_eq_getElem (by omega),List.getElem?_eq_getElem (by omega)];exact(List.pairwise_iff_getElem.mp nd) i j (by omega) (by omega) hij
 have h0:(vs++[p]).getD 0 0=p:=by
  cases ts with
  | nil=>simp at h3
  | cons t ts=>obtain⟨_,_,_,_,rfl,_⟩:=P;rfl
 have hL:(vs++[p]).getD ts.length 0=p:=by
  rw[List.getD_eq_getElem?_getD,<-hl,List.getElem?_concat_length];rfl
 generalize hw:(fun i=>(vs++[p]).getD i 0)=w at *;have hw':∀ i,(vs++[p]).getD i 0=w i:=fun i=>congrFun hw i;generalize hE:(fun i=>es.getD (ts.getD i 0) (0,0))=E at *;have hE':∀ i,es.getD (ts.getD i 0) (0,0)=E i:=fun i=>congrFun hE i;simp only[hw',hE']at H hd h0 hL;generalize ts.length=L at *
 have step:∀ i,i+1<L->b (E (i+1))=!b (E i):=fun i hi=>by
  obtain⟨a1,a2,a3⟩:=H i (by omega);obtain⟨c1,c2,c3⟩:=H (i+1) hi;cases hb:b (E (i+1))<;>cases hb2:b (E i)<;>try rfl
  all_goals
   exfalso;have e:=hM _ a1 _ c1 (w (i+1)) (by rw[a3];exact AJ a2) c2 (by rw[hb,hb2]);rw[<-e,a3,BL (hu _ a1) a2]at c3;by_cases hz:i+2<L
   ·exact hd i (i+2) (by omega) hz c3.symm
   ·have:i+1+1=L:=by omega
    rw[this,hL,<-h0]at c3;exact hd 0 i (by omega) (by omega) c3
 have par:∀ i,i<L->b (E i)=if i % 2=0 then b (E 0) else !b (E 0):=by
  intro i
  induction i with
  | zero=>intro _;rfl
  | succ i ih=>
    intro hi;rw[step i hi,ih (by omega)];by_cases h:i % 2=0
    ·rw[if_pos h,if_neg (by omega)]
    ·rw[if_neg h,if_pos (by omega),Bool.not_not]
 have hlast:=par (L - 1) (by omega);rw[if_pos (by omega)]at hlast;obtain⟨a1,a2,a3⟩:=H 0 (by omega);obtain⟨c1,c2,c3⟩:=H (L - 1) (by omega);rw[show L - 1+1=L by omega,hL,<-h0]at c3;have e:=hM _ a1 _ c1 (w 0) a2 (by rw[c3];exact AJ c2) hlast.symm;rw[<-e]at c3 c2;have:farE (E 0) (w 0)=w (L - 1):=by rw[c3,BL (hu _ a1) c2]
 rw[<-a3]at this;exact hd 1 (L - 1) (by omega) (by omega) this
open PySem L2
def B9(ts:List Nat):EE:=(List.range (ts.length / 2)).map fun i=>(ts.getD (2 * i) 0,ts.getD (2 * i+1) 0)
def tieE(es:EE)(t:Nat):Nat×Nat:=es.getD t (0,0)
theorem A8{es:EE}{t:Nat}(h:t<es.length):es[t]?=some (tieE es t):=by
 unfold tieE;rw[List.getD_eq_getElem?_getD,List.getElem?_eq_getElem h];rfl
theorem Hb{es:EE}{t:Nat}(h:t<es.length):tieE es t∈es:=List.mem_of_getElem? (A8 h)
theorem CD{es:EE}{p t:Nat}(h:t∈c9 es p es.length):t<es.length/\((tieE es t).1=p\/(tieE es t).2=p):=by
 obtain⟨e,he,h⟩:=mem_tiesAt.mp h;have hl:=(gM he).1;refine⟨hl,?_⟩;rw[A8 hl]at he;rw[oj he];exact h
theorem FD(es:EE)(p m:Nat):(c9 es p m).Pairwise (·<·):=List.Pairwise.filter _ List.pairwise_lt_range
theorem J7{ts:List Nat}{i:Nat}(h:i<ts.length / 2):ts[2 * i]?=some (ts.getD (2 * i) 0)/\ts[2 * i+1]?=some (ts.getD (2 * i+1) 0):=by
 rw[List.getD_eq_getElem?_getD,List.getD_eq_getElem?_getD,List.getElem?_eq_getElem (show 2 * i<ts.length by omega),List.getElem?_eq_getElem (show 2 * i+1<ts.length by omega)];exact⟨rfl,rfl⟩
theorem Cv{ts:List Nat}{c:Nat×Nat}(h:c∈B9 ts):∃ i,i<ts.length / 2/\ts[2 * i]?=some c.1/\ts[2 * i+1]?=some c.2:=by
 obtain⟨i,hi,rfl⟩:=List.mem_map.mp h;rw[List.mem_range]at hi;exact⟨i,hi,J7 hi⟩
theorem Oe{ts:List Nat}(h:ts.Pairwise (·<·)){i j a b:Nat}(hi:ts[i]?=some a)(hj:ts[j]?=some b)(hij:i<j):a<b:=by
 obtain⟨h1,rfl⟩:=gM hi;obtain⟨h2,rfl⟩:=gM hj;exact(List.pairwise_iff_getElem.mp h) i j h1 h2 hij
theorem Fo{ts:List Nat}(h:ts.Pairwise (·<·)){i j a:Nat}(hi:ts[i]?=some a)(hj:ts[j]?=some a):i=j:=by
 rcases Nat.lt_trichotomy i j with z | z | z
 ·exact absurd (Oe h hi hj z) (Nat.lt_irrefl _)
 ·exact z
 ·exact absurd (Oe h hj hi z) (Nat.lt_irrefl _)
theorem bal{f:Nat->Bool}:∀(k:Nat) (ts:List Nat),ts.length<=k->(∀ i a b,ts[2 * i]?=some a->ts[2 * i+1]?=some b->f a≠f b)->ts.countP f<=ts.countP (fun t=>!f t)+1/\ts.countP (fun t=>!f t)<=ts.countP f+1
 | _,[],_,_=>⟨by simp,by simp⟩
 | _,[a],_,_=>by
   constructor<;>simp only[List.countP_cons,List.countP_nil]<;>split<;>omega
 | 0,a::b::r,h,_=>by simp at h
 | k+1,a::b::r,h,hf=>by
   have h1:=hf 0 a b rfl rfl;have ih:=bal k r (by simp at h;omega) (fun i x y hx hy=>hf (i+1) x y (by rw[show 2 * (i+1)=2 * i+1+1 by omega];exact hx) (by rw[show 2 * (i+1)+1=2 * i+1+1+1 by omega];exact hy));simp only[List.countP_cons];cases ha:f a<;>cases hb:f b
   ·exact absurd (ha.trans hb.symm) h1
   ·simp;omega
   ·simp;omega
   ·exact absurd (ha.trans hb.symm) h1
open PySem L2
section
variable{Δ:Nat->Sn}
theorem m3{D:EndsS}{ρ:EnvS}{S:Sto}(h:D.nx ρ S):wSs Δ [] D ρ S:=h
theorem UH{s:Sn}{x y:SV}{S:Sto}{Q:QE}(e:x=y)(h:s [y] S Q):s [x] S Q:=e▸h
def Hc(k:Nat):List Stm:=[(.asg (.tup (.cons (.nm 1) (.cons (.nm 2) .nil))) (.call k (.cons (.var 0) .nil))),(.iff (.cmp .Eq (.var 1) (.c (.str "ring"))) [.no] []),(.ret (.var 2))]
def Unl(s:Hue.Sds)(es:EE):Prop:=∀ e∈es,∃ a b,a<2/\b<2/\a≠b/\s[e.1]?=some (some a)/\s[e.2]?=some (some b)
def Vl(k:Nat):List Stm:=[(.asg (.nm 2) (.call k (.cons (.var 0) (.cons (.var 1) .nil)))),(.ret (.comp ["at"] ["ties"] [2] (.nm 0) (.rngT (.c (.int 0)) (.op .Sub (.bi .len (.cons (.var 2) .nil)) (.c (.int 1)))) .no (.tup (.cons (.ix (.var 1) (.var 0)) (.cons (.ix (.var 1) (.op .Add (.var 0) (.c (.int 1)))) .nil)))))]
def KH(s:Sn):Prop:=∀{n p:Nat} {es:EE} {S:Sto} {Q:QE},es.length<=5000->p<n->(∀(l:Nat) (S':Sto),Gw S S'->S.length<=l->S'[l]?=some (.lst ((B9 (c9 es p es.length)).map pairS))->Q (.loc l) S')->s [i3 n es,.int p] S Q
theorem Of{hi:Int}{i:Nat}{x:SV}(h:(rngT 0 hi)[i]?=some x):x = .int ((2 * i:Nat):Int):=by
 unfold rngT at h
 have hi':i<CM 0 hi:=by
  have:=(gM h).1;simpa using this
 rw[List.getElem?_map,List.getElem?_range hi']at h;rw[<-oj h];show SV.int (0+(i:Int) * 2)=_;rw[show(0:Int)+(i:Int) * 2=((2 * i:Nat):Int) by omega]
theorem Hd(k:Nat):CM 0 ((k:Int) - 1)=k / 2:=by unfold CM;split<;>omega
theorem Cw(ts:List Nat):(B9 ts).length=ts.length / 2:=by unfold B9;simp
theorem Ef{es:EE}{i:Nat}{e:Nat×Nat}(h:es[i]?=some e):(es.take i).map pairS++[pairS e]=(es.take (i+1)).map pairS:=by
 rw[List.take_succ,h,List.map_append];rfl
theorem UI(hΔ:∀ f,MonoN (Δ f)){k:Nat}(ht:As (Δ k)){D:Df}(hb:D.body=Vl k)(hN:D.N.length=3)(hp:D.ps.length=2):KH (i8 Δ D):=by
 intro n p es S Q hel hpn q;unfold i8;rw[hb,hN];refine⟨hp.symm,_,rfl,_,rfl,ht hel hpn ?_⟩;have tl:=BX es p es.length;generalize c9 es p es.length=ts at *;have hS:(S++[SO.lst (natS ts)])[S.length]?=some (.lst (natS ts)):=c8;refine⟨_,rfl,_,c5 hS,_,_,rfl,rfl,⟨by decide,by decide,by rw[e6];omega,by rw[e6];omega⟩,?_⟩;refine l9 (i7 hΔ _).2 (a8 hΔ _).1 (fun i ys S2=>S2=S++[SO.lst (natS ts)]/\ys=((B9 ts).take i).map pairS) ⟨rfl,rfl⟩ (fun _ _ _ _=>trivial) ?_ ?_
 ·rintro i x ys S2 hx ⟨rfl,rfl⟩
  have hi:i<ts.length / 2:=by
   have:=(gM hx).1;unfold rngT at this;rw[List.length_map,List.length_range,e6,Hd]at this;exact this
  have hx:=Of hx;subst hx;obtain⟨h1,h2⟩:=J7 hi;have hc:(B9 ts)[i]?=some (ts.getD (2 * i) 0,ts.getD (2 * i+1) 0):=by unfold B9;rw[List.getElem?_map,List.getElem?_range hi];rfl
  refine⟨_,rfl,_,rfl,_,_,c5 hS,f8 (AZ h1),_,rfl,_,rfl,_,.int ((ts.getD (2 * i+1) 0:Nat):Int),c5 hS,?_,by show 2<=big;decide,?_,rfl,Ef hc⟩
  ·rw[show((2 * i:Nat):Int)+1=((2 * i+1:Nat):Int) by omega];exact f8 (AZ h2)
  ·rw[List.length_map,List.length_take,Cw];show _<100000;omega
 ·rintro ys S2 ⟨rfl,rfl⟩;rw[show(rngT 0 (((natS ts).length:Int) - 1)).length=(B9 ts).length by unfold rngT;rw[List.length_map,List.length_range,e6,Hd,Cw],List.take_length];exact q _ _ (Gw.refl S).push.push (by rw[List.length_append];omega) c8
end
end Rf
namespace Hue
section
variable{n:Nat}{es:EE}(hn:∀ e∈es,e.1<n/\e.2<n)
include hn
end
section
variable{n x:Nat}{es:EE}
variable(hn:∀ e∈es,e.1<n/\e.2<n)
include hn
end
end Hue
namespace Rf
open PySem L2
abbrev Cm:=List (Nat×Option Nat)
def keys(cm:Cm):List Nat:=cm.map (·.1)
def lk(cm:Cm)(p:Nat):Option (Option Nat):=(cm.find? fun c=>decide (c.1=p)).map (·.2)
def Ax(cm:Cm)(p:Nat)(v:Option Nat):Cm:=if (cm.any fun c=>decide (c.1=p))=true then cm.map (fun c=>if c.1=p then (c.1,v) else c) else cm++[(p,v)]
def Fp(es:EE)(P:List (Option Nat))(p:Nat)(st:Cm×List Nat)(t:Nat):Cm×List Nat:=
 if (lk st.1 (farE (tieE es t) p)).isSome then st else match P.getD (farE (tieE es t) p) none with
  | none=>(Ax st.1 (farE (tieE es t) p) (some t),st.2)
  | some u=>(Ax (Ax st.1 (farE (tieE es t) p) (some t)) (farE (tieE es u) (farE (tieE es t) p)) (some u),st.2++[farE (tieE es u) (farE (tieE es t) p)])
def J8(es:EE)(P:List (Option Nat))(st:Cm×List Nat)(p:Nat):Cm×List Nat:=(c9 es p es.length).foldl (Fp es P p) (st.1,st.2.dropLast)
def Eg(es:EE)(P:List (Option Nat)):Nat->Cm×List Nat->Cm
 | 0,st=>st.1
 | f+1,st=>match st.2.getLast? with
   | none=>st.1
   | some p=>Eg es P f (J8 es P st p)
def CS(n:Nat)(es:EE)(P:List (Option Nat))(starts:List Nat):Cm:=Eg es P (n+1) (starts.map fun p=>(p,none),starts)
theorem R7{cm:Cm}{p:Nat}:lk cm p=none↔p∉keys cm:=by
 unfold lk keys;rw[Option.map_eq_none_iff,List.find?_eq_none];constructor
 ·intro h hm;obtain⟨c,hc,rfl⟩:=List.mem_map.mp hm;exact h c hc (by simp)
 ·intro h c hc z;exact h (List.mem_map.mpr ⟨c,hc,of_decide_eq_true z⟩)
theorem lk_some{cm:Cm}{p:Nat}:(lk cm p).isSome=true↔p∈keys cm:=by
 rw[Option.isSome_iff_ne_none,ne_eq,R7];exact Decidable.not_not
theorem EK{cm:Cm}{p:Nat}{v:Option Nat}(h:lk cm p=some v):(p,v)∈cm:=by
 unfold lk at h;cases hc:cm.find? fun c=>decide (c.1=p) with
 | none=>rw[hc]at h;cases h
 | some c=>
   rw[hc]at h;have h1:=List.find?_some hc;have h2:=List.mem_of_find?_eq_some hc;have h3:c.2=v:=oj h;have h4:c.1=p:=of_decide_eq_true h1;rw[<-h3,<-h4];exact h2
theorem Og{cm:Cm}(nd:(keys cm).Nodup){p:Nat}{v:Option Nat}(h:(p,v)∈cm):lk cm p=some v:=by
 have hk:p∈keys cm:=List.mem_map.mpr ⟨_,h,rfl⟩;have:=lk_some.mpr hk;obtain⟨u,hu⟩:=Option.isSome_iff_exists.mp this;have hm:=EK hu
 have:u=v:=by
  obtain⟨i,hi⟩:=List.getElem?_of_mem h;obtain⟨j,hj⟩:=List.getElem?_of_mem hm;have e1:(keys cm)[i]?=some p:=by unfold keys;rw[List.getElem?_map,hi];rfl
  have e2:(keys cm)[j]?=some p:=by unfold keys;rw[List.getElem?_map,hj];rfl
  have il:=(gM e1).1;have jl:=(gM e2).1
  have:i=j:=by
   rcases Nat.lt_trichotomy i j with z | z | z
   ·exact absurd ((gM e1).2.trans (gM e2).2.symm) ((List.pairwise_iff_getElem.mp nd) i j il jl z)
   ·exact z
   ·exact absurd ((gM e2).2.trans (gM e1).2.symm) ((List.pairwise_iff_getElem.mp nd) j i jl il z)
  subst this;rw[hi]at hj;have:=oj hj;exact(congrArg Prod.snd this).symm
 rw[hu,this]
theorem Cy{cm:Cm}{p:Nat}{v:Option Nat}(h:p∉keys cm):Ax cm p v=cm++[(p,v)]:=by
 unfold Ax;rw[if_neg];rw[List.any_eq_true];rintro⟨c,hc,z⟩;exact h (List.mem_map.mpr ⟨c,hc,of_decide_eq_true z⟩)
theorem e7{cm:Cm}{p:Nat}{v:Option Nat}:keys (cm++[(p,v)])=keys cm++[p]:=by unfold keys;rw[List.map_append];rfl
structure Cons(n:Nat)(es:EE)(P:List (Option Nat)):Prop where
 len:P.length=n
 two:∀ p t,P[p]?=some (some t)->∃ e,es[t]?=some e/\(p=e.1\/p=e.2)/\P[farE e p]?=some (some t)
structure Sdd(n:Nat)(es:EE)(sd:Nat->Nat):Prop where
 en:∀ e∈es,e.1<e.2/\e.2<n
 two:∀ p,sd p<2
 ne:∀ e∈es,sd e.1≠sd e.2
section
variable{n:Nat}{es:EE}{sd:Nat->Nat}{P:List (Option Nat)}
theorem Sdd.far(H:Sdd n es sd){t p:Nat}{e:Nat×Nat}(he:es[t]?=some e)(hp:p=e.1\/p=e.2):farE e p<n/\sd (farE e p)=1 - sd p/\farE e (farE e p)=p/\(farE e p=e.1\/farE e p=e.2)/\p<n:=by
 have hm:=List.mem_of_getElem? he;have h1:=H.en e hm;have h2:=H.ne e hm;have a:=H.two e.1;have b:=H.two e.2;have hne:e.1≠e.2:=by omega
 refine⟨?_,?_,BL hne hp,AJ hp,?_⟩
 ·rcases AJ hp with z | z<;>omega
 ·unfold farE;rcases hp with z | z
  ·subst z;rw[if_pos rfl];omega
  ·subst z;rw[if_neg (Ne.symm hne)];omega
 ·rcases hp with z | z<;>omega
structure Came(n:Nat)(es:EE)(sd:Nat->Nat)(P:List (Option Nat))(starts:List Nat)(cm:Cm):Prop where
 nd:(keys cm).Nodup
 lt:∀ p∈keys cm,p<n
 st:∀ p,(p,none)∈cm->p∈starts
 up:∀ i q t,cm[i]?=some (q,some t)->∃ e,es[t]?=some e/\(q=e.1\/q=e.2)/\farE e q∈keys (cm.take i)
 s0:∀ p v,(p,v)∈cm->sd p=0->P[p]?=some v
 pr:∀ q,q∈keys cm->sd q=1->∀ u e,P[q]?=some (some u)->es[u]?=some e->farE e q∈keys cm
 hs:∀ p∈starts,p∈keys cm
structure Open(starts:List Nat)(sd:Nat->Nat)(n:Nat)(P:List (Option Nat)):Prop where
 nd:starts.Nodup
 ok:∀ p∈starts,p<n/\sd p=0/\P[p]?=some none
def Shut(es:EE)(sd:Nat->Nat)(cm:Cm)(wt:List Nat)(p:Nat)(ts:List Nat):Prop:=∀ q∈keys cm,sd q=0->q∈wt\/∀ t e,es[t]?=some e->(q=e.1\/q=e.2)->(q=p/\t∈ts)\/farE e q∈keys cm
theorem Came.start(O:Open starts sd n P):Came n es sd P starts (starts.map fun p=>(p,none)):=by
 have hk:keys (starts.map fun p=>(p,(none:Option Nat)))=starts:=by unfold keys;rw[List.map_map];exact List.map_id'' (fun _=>rfl) starts
 refine⟨by rw[hk];exact O.nd,fun p hp=>(O.ok p (by rw[hk]at hp;exact hp)).1,fun p h=>?_,fun i q t h=>?_,fun p v h _=>?_,fun q hq h1=>?_,fun p hp=>by rw[hk];exact hp⟩
 ·obtain⟨q,hq,e⟩:=List.mem_map.mp h;cases e;exact hq
 ·rw[List.getElem?_map]at h;cases hx:starts[i]? with
  | none=>rw[hx]at h;cases h
  | some x=>rw[hx]at h;cases h
 ·obtain⟨q,hq,e⟩:=List.mem_map.mp h;cases e;exact(O.ok p hq).2.2
 ·rw[hk]at hq;have:=(O.ok q hq).2.1;omega
theorem Came.snoc{starts:List Nat}{cm:Cm}{q t:Nat}{e:Nat×Nat}(C:Came n es sd P starts cm)(hn:q∉keys cm)(hq:q<n)(he:es[t]?=some e)(hqe:q=e.1\/q=e.2)(hf:farE e q∈keys cm)(h0:sd q=0->P[q]?=some (some t))(h1:sd q=1->∀ u e,P[q]?=some (some u)->es[u]?=some e->farE e q∈keys cm):Came n es sd P starts (cm++[(q,some t)]):=by
 refine⟨?_,fun p hp=>?_,fun p h=>?_,fun i r u h=>?_,fun p v h hs=>?_,fun r hr hs u e' hu he'=>?_,fun p hp=>?_⟩
 ·rw[e7,List.nodup_append];refine⟨C.nd,by simp,fun a ha b hb=>?_⟩;rw[List.mem_singleton.mp hb];exact fun z=>hn (z▸ha)
 ·rw[e7]at hp;rcases List.mem_append.mp hp with hp | hp
  ·exact C.lt p hp
  ·rw[List.mem_singleton.mp hp];exact hq
 ·rcases List.mem_append.mp h with h | h
  ·exact C.st p h
  ·have:=List.mem_singleton.mp h;cases this
 ·by_cases hi:i<cm.length
  ·rw[List.getElem?_append_left hi]at h;rw[List.take_append_of_le_length (Nat.le_of_lt hi)];exact C.up i r u h
  ·have hl:=(gM h).1;rw[List.length_append,List.length_singleton]at hl;have:i=cm.length:=by omega
   subst this;rw[List.getElem?_concat_length]at h;cases h;rw[List.take_left];exact⟨e,he,hqe,hf⟩
 ·rcases List.mem_append.mp h with h | h
  ·exact C.s0 p v h hs
  ·have:=List.mem_singleton.mp h;cases this;exact h0 hs
 ·rw[e7]at hr ⊢;rcases List.mem_append.mp hr with hr | hr
  ·exact List.mem_append_left _ (C.pr r hr hs u e' hu he')
  ·have:=List.mem_singleton.mp hr;subst this;exact List.mem_append_left _ (h1 hs u e' hu he')
 ·rw[e7];exact List.mem_append_left _ (C.hs p hp)
theorem Came.two{starts:List Nat}{cm:Cm}{q t u:Nat}{e f:Nat×Nat}(C:Came n es sd P starts cm)(H:Sdd n es sd)(hn:q∉keys cm)(he:es[t]?=some e)(hqe:q=e.1\/q=e.2)(hf:farE e q∈keys cm)(hs:sd q=1)(K:Cons n es P)(hu:P[q]?=some (some u))(hfu:es[u]?=some f)(hqf:q=f.1\/q=f.2)(hn2:farE f q∉keys cm):Came n es sd P starts (cm++[(q,some t)]++[(farE f q,some u)]):=by
 obtain⟨f1,f2,f3,f4,f5⟩:=H.far hfu hqf;have hne:farE f q≠q:=fun z=>by rw[z]at f2;omega
 have hPf:P[farE f q]?=some (some u):=by
  obtain⟨e',he',_,h⟩:=K.two q u hu;rw[hfu]at he';cases he';exact h
 refine⟨?_,fun p hp=>?_,fun p h=>?_,fun i r v h=>?_,fun p v h hs'=>?_,fun r hr hs' v e' hv he'=>?_,fun p hp=>?_⟩
 ·rw[e7,e7,List.append_assoc,List.nodup_append];refine⟨C.nd,by simp;exact Ne.symm hne,fun a ha b hb=>?_⟩;rcases List.mem_append.mp hb with hb | hb
  ·rw[List.mem_singleton.mp hb];exact fun z=>hn (z▸ha)
  ·rw[List.mem_singleton.mp hb];exact fun z=>hn2 (z▸ha)
 ·rw[e7,e7]at hp;rcases List.mem_append.mp hp with hp | hp
  ·rcases List.mem_append.mp hp with hp | hp
   ·exact C.lt p hp
   ·rw[List.mem_singleton.mp hp];exact f5
  ·rw[List.mem_singleton.mp hp];exact f1
 ·rcases List.mem_append.mp h with h | h
  ·rcases List.mem_append.mp h with h | h
   ·exact C.st p h
   ·have:=List.mem_singleton.mp h;cases this
  ·have:=List.mem_singleton.mp h;cases this
 ·have up1:∀ i r v,(cm++[(q,some t)])[i]?=some (r,some v)->∃ e,es[v]?=some e/\(r=e.1\/r=e.2)/\farE e r∈keys ((cm++[(q,some t)]).take i):=fun i r v h=>by
   by_cases hi:i<cm.length
   ·rw[List.getElem?_append_left hi]at h;rw[List.take_append_of_le_length (Nat.le_of_lt hi)];exact C.up i r v h
   ·have hl:=(gM h).1;rw[List.length_append,List.length_singleton]at hl;have:i=cm.length:=by omega
    subst this;rw[List.getElem?_concat_length]at h;cases h;rw[List.take_left];exact⟨e,he,hqe,hf⟩
  by_cases hi:i<(cm++[(q,some t)]).length
  ·rw[List.getElem?_append_left hi]at h;rw[List.take_append_of_le_length (Nat.le_of_lt hi)];exact up1 i r v h
  ·have hl:=(gM h).1;rw[List.length_append,List.length_singleton]at hl;have:i=(cm++[(q,some t)]).length:=by omega
   subst this;rw[List.getElem?_concat_length]at h;cases h;rw[List.take_left];refine⟨f,hfu,f4,?_⟩;rw[f3,e7];exact List.mem_append_right _ (List.mem_singleton.mpr rfl)
 ·rcases List.mem_append.mp h with h | h
  ·rcases List.mem_append.mp h with h | h
   ·exact C.s0 p v h hs'
   ·have:=List.mem_singleton.mp h;cases this;omega
  ·have:=List.mem_singleton.mp h;cases this;exact hPf
 ·rw[e7,e7]at hr ⊢;rcases List.mem_append.mp hr with hr | hr
  ·rcases List.mem_append.mp hr with hr | hr
   ·exact List.mem_append_left _ (List.mem_append_left _ (C.pr r hr hs' v e' hv he'))
   ·have:=List.mem_singleton.mp hr;subst this;rw[hu]at hv;cases hv;rw[hfu]at he';cases he';exact List.mem_append_right _ (List.mem_singleton.mpr rfl)
  ·have:=List.mem_singleton.mp hr;subst this;omega
 ·rw[e7,e7];exact List.mem_append_left _ (List.mem_append_left _ (C.hs p hp))
end
open PySem L2
section
variable{n:Nat}{es:EE}{sd:Nat->Nat}{P:List (Option Nat)}{starts:List Nat}
theorem KI{xs:List (Option Nat)}{p:Nat}{v:Option Nat}(h:xs[p]?=some v):xs.getD p none=v:=by rw[List.getD_eq_getElem?_getD,h];rfl
theorem DF{xs:List (Option Nat)}{p:Nat}(h:p<xs.length):xs[p]?=some (xs.getD p none):=by rw[List.getD_eq_getElem?_getD,List.getElem?_eq_getElem h];rfl
structure WInv(n:Nat)(es:EE)(sd:Nat->Nat)(P:List (Option Nat))(starts:List Nat)(p m:Nat)(ts:List Nat)(st:Cm×List Nat):Prop where
 C:Came n es sd P starts st.1
 wk:∀ q∈st.2,q∈keys st.1/\sd q=0
 sh:Shut es sd st.1 st.2 p ts
 pk:p∈keys st.1/\sd p=0
 ms:(n - st.1.length)+st.2.length<=m
theorem BM{cm:Cm}:(keys cm).length=cm.length:=by unfold keys;rw[List.length_map]
theorem Fq{n:Nat}:∀{l:List Nat},l.Nodup->(∀ x∈l,x<n)->l.length<=n:=by
 induction n with
 | zero=>
   intro l _ h;cases l with
   | nil=>exact Nat.le_refl _
   | cons x l=>exact absurd (h x (List.mem_cons_self ..)) (Nat.not_lt_zero x)
 | succ n ih=>
   intro l nd h;by_cases hm:n∈l
   ·have e:=List.length_erase_of_mem hm
    have:=ih (l:=l.erase n) (nd.erase n) fun x hx=>by
     have h1:=h x (List.mem_of_mem_erase hx);have h2:x≠n:=fun z=>by rw[z]at hx;exact(List.Nodup.not_mem_erase nd) hx
     omega
    have:0<l.length:=List.length_pos_of_mem hm;omega
   ·have:=ih nd fun x hx=>by
     have h1:=h x hx;have h2:x≠n:=fun z=>hm (z▸hx);omega
    omega
theorem Came.len{cm:Cm}(C:Came n es sd P starts cm):cm.length<=n:=by rw[<-BM];exact Fq C.nd C.lt
theorem Fs(H:Sdd n es sd)(K:Cons n es P){p m t:Nat}{ts:List Nat}{st:Cm×List Nat}(ht:t<es.length)(hp:p=(tieE es t).1\/p=(tieE es t).2)(W:WInv n es sd P starts p m (t::ts) st):WInv n es sd P starts p m ts (Fp es P p st t):=by
 obtain⟨cm,wt⟩:=st;obtain⟨C,wk,sh,⟨pk,p0⟩,ms⟩:=W;have he:=A8 ht;generalize tieE es t=e at *;obtain⟨f1,f2,f3,f4,f5⟩:=H.far he hp;have fs:sd (farE e p)=1:=by omega
 unfold Fp;have hte:tieE es t=e:=by have:=A8 ht;rw[he]at this;exact(oj this).symm
 rw[hte];by_cases hk:farE e p∈keys cm
 ·rw[if_pos (lk_some.mpr hk)];refine⟨C,wk,fun q hq h0=>?_,⟨pk,p0⟩,ms⟩;rcases sh q hq h0 with z | z
  ·exact .inl z
  ·refine .inr fun t' e' he' hq'=>?_;rcases z t' e' he' hq' with⟨z1,z2⟩ | z
   ·rcases List.mem_cons.mp z2 with z2 | z2
    ·subst z2;rw[he]at he';cases he';rw[z1];exact .inr hk
    ·exact .inl ⟨z1,z2⟩
   ·exact .inr z
 ·rw[if_neg (fun z=>hk (lk_some.mp z))];have hfl:farE e p<P.length:=by rw[K.len];exact f1
  have hPf:=DF hfl;have cl:=C.len;cases hv:P.getD (farE e p) none with
  | none=>
    rw[hv]at hPf;simp only;rw[Cy hk];have C':Came n es sd P starts (cm++[(farE e p,some t)]):=C.snoc hk f1 he f4 (by rw[f3];exact pk) (fun z=>by omega) (fun _ u e' hu=>by rw[hPf]at hu;cases hu);have cl':=C'.len;rw[List.length_append,List.length_singleton]at cl';refine⟨C',fun q hq=>⟨by rw[e7];exact List.mem_append_left _ (wk q hq).1,(wk q hq).2⟩,fun q hq h0=>?_,⟨by rw[e7];exact List.mem_append_left _ pk,p0⟩,by show(n - (cm++[(farE e p,some t)]).length)+wt.length<=m;rw[List.length_append,List.length_singleton];have ms:(n - cm.length)+wt.length<=m:=ms;omega⟩;rw[e7]at hq;rcases List.mem_append.mp hq with hq | hq
    ·rcases sh q hq h0 with z | z
     ·exact .inl z
     ·refine .inr fun t' e' he' hq'=>?_;rw[e7];rcases z t' e' he' hq' with⟨z1,z2⟩ | z
      ·rcases List.mem_cons.mp z2 with z2 | z2
       ·subst z2;rw[he]at he';cases he';rw[z1];exact .inr (List.mem_append_right _ (List.mem_singleton.mpr rfl))
       ·exact .inl ⟨z1,z2⟩
      ·exact .inr (List.mem_append_left _ z)
    ·rw[List.mem_singleton.mp hq]at h0;omega
  | some u=>
    rw[hv]at hPf;simp only;obtain⟨f,hf,hfe,hPn⟩:=K.two _ _ hPf;have htf:tieE es u=f:=by have:=A8 (gM hf).1;rw[hf]at this;exact(oj this).symm
    rw[htf];obtain⟨g1,g2,g3,g4,g5⟩:=H.far hf hfe
    have hn2:farE f (farE e p)∉keys cm:=fun z=>by
     obtain⟨c,hc,ec⟩:=List.mem_map.mp z;obtain⟨c1,c2⟩:=c;have ec:c1=farE f (farE e p):=ec;subst ec;have hv:=C.s0 _ _ hc (by omega);rw[hPn]at hv;have:c2=some u:=(oj hv).symm;subst this;obtain⟨i,hi⟩:=List.getElem?_of_mem hc;obtain⟨f',hf',_,hin⟩:=C.up i _ _ hi;rw[hf]at hf';cases hf';rw[g3]at hin;unfold keys at hin;rw[List.map_take]at hin;exact hk (List.mem_of_mem_take hin)
    have hne:farE f (farE e p)≠farE e p:=fun z=>by rw[z]at g2;omega
    rw[Cy hk,Cy (by rw[e7];intro z;rcases List.mem_append.mp z with z | z;exact hn2 z;exact hne (List.mem_singleton.mp z))];have C':=C.two H hk he f4 (by rw[f3];exact pk) fs K hPf hf hfe hn2
    have cl':cm.length+1+1<=n:=by
     have:=C'.len;rw[List.length_append,List.length_append,List.length_singleton,List.length_singleton]at this;exact this
    refine⟨C',fun q hq=>?_,fun q hq h0=>?_,⟨by rw[e7,e7];exact List.mem_append_left _ (List.mem_append_left _ pk),p0⟩,?_⟩
    ·show q∈keys (cm++[(farE e p,some t)]++[(farE f (farE e p),some u)])/\_;rw[e7,e7];rcases List.mem_append.mp hq with hq | hq
     ·exact⟨List.mem_append_left _ (List.mem_append_left _ (wk q hq).1),(wk q hq).2⟩
     ·rw[List.mem_singleton.mp hq];exact⟨List.mem_append_right _ (List.mem_singleton.mpr rfl),by omega⟩
    ·show q∈wt++[farE f (farE e p)]\/_;have hq:q∈keys (cm++[(farE e p,some t)]++[(farE f (farE e p),some u)]):=hq;rw[e7,e7]at hq;rcases List.mem_append.mp hq with hq | hq
     ·rcases List.mem_append.mp hq with hq | hq
      ·rcases sh q hq h0 with z | z
       ·exact .inl (List.mem_append_left _ z)
       ·refine .inr fun t' e' he' hq'=>?_;show _\/farE e' q∈keys (cm++[(farE e p,some t)]++[(farE f (farE e p),some u)]);rw[e7,e7];rcases z t' e' he' hq' with⟨z1,z2⟩ | z
        ·rcases List.mem_cons.mp z2 with z2 | z2
         ·subst z2;rw[he]at he';cases he';rw[z1];exact .inr (List.mem_append_left _ (List.mem_append_right _ (List.mem_singleton.mpr rfl)))
         ·exact .inl ⟨z1,z2⟩
        ·exact .inr (List.mem_append_left _ (List.mem_append_left _ z))
      ·rw[List.mem_singleton.mp hq]at h0;omega
     ·exact .inl (List.mem_append_right _ hq)
    ·show(n - (cm++[(farE e p,some t)]++[(farE f (farE e p),some u)]).length)+(wt++[farE f (farE e p)]).length<=m;rw[List.length_append,List.length_append,List.length_append,List.length_singleton,List.length_singleton,List.length_singleton];have ms:(n - cm.length)+wt.length<=m:=ms;omega
theorem He(H:Sdd n es sd)(K:Cons n es P){p m:Nat}:∀{ts:List Nat} {st:Cm×List Nat},(∀ t∈ts,t<es.length/\(p=(tieE es t).1\/p=(tieE es t).2))->WInv n es sd P starts p m ts st->WInv n es sd P starts p m [] (ts.foldl (Fp es P p) st)
 | [],st,_,W=>W
 | t::ts,st,h,W=>He (ts:=ts) H K (fun t' ht'=>h t' (List.mem_cons_of_mem _ ht')) (Fs H K (h t (List.mem_cons_self ..)).1 (h t (List.mem_cons_self ..)).2 W)
theorem Hf{p:Nat}:∀ t∈c9 es p es.length,t<es.length/\(p=(tieE es t).1\/p=(tieE es t).2):=fun t ht=>by
 obtain⟨e,he,h⟩:=mem_tiesAt.mp ht;have hl:=(gM he).1;have:tieE es t=e:=by have:=A8 hl;rw[he]at this;exact(oj this).symm
 rw[this];exact⟨hl,h.imp Eq.symm Eq.symm⟩
structure WOut(n:Nat)(es:EE)(sd:Nat->Nat)(P:List (Option Nat))(starts:List Nat)(m:Nat)(st:Cm×List Nat):Prop where
 C:Came n es sd P starts st.1
 wk:∀ q∈st.2,q∈keys st.1/\sd q=0
 sh:∀ q∈keys st.1,sd q=0->q∈st.2\/∀(t:Nat) (e:Nat×Nat),es[t]?=some e->(q=e.1\/q=e.2)->farE e q∈keys st.1
 ms:(n - st.1.length)+st.2.length<=m
theorem WOut.go(H:Sdd n es sd)(K:Cons n es P){m p:Nat}{st:Cm×List Nat}(W:WOut n es sd P starts (m+1) st)(hp:st.2.getLast?=some p):WInv n es sd P starts p m (c9 es p es.length) (st.1,st.2.dropLast):=by
 obtain⟨cm,wt⟩:=st;have hne:wt≠[]:=fun z=>by rw[z]at hp;cases hp
 have hw:wt.dropLast++[p]=wt:=by
  rw[List.getLast?_eq_some_getLast hne]at hp;have:=oj hp;rw[<-this];exact List.dropLast_concat_getLast hne
 have hm:p∈wt:=by rw[<-hw];exact List.mem_append_right _ (List.mem_singleton.mpr rfl)
 have hl:wt.length=wt.dropLast.length+1:=by
  have:=congrArg List.length hw;rw[List.length_append,List.length_singleton]at this;exact this.symm
 refine⟨W.C,fun q hq=>W.wk q (List.dropLast_subset _ hq),fun q hq h0=>?_,W.wk p hm,by show(n - cm.length)+wt.dropLast.length<=m;have ms:(n - cm.length)+wt.length<=m+1:=W.ms;omega⟩;rcases W.sh q hq h0 with z | z
 ·have z:q∈wt:=z;rw[<-hw]at z;rcases List.mem_append.mp z with z | z
  ·exact .inl z
  ·refine .inr fun t e he hq' => .inl ⟨List.mem_singleton.mp z,?_⟩;rw[List.mem_singleton.mp z]at hq';exact mem_tiesAt.mpr ⟨e,he,hq'.imp Eq.symm Eq.symm⟩
 ·exact .inr fun t e he hq' => .inr (z t e he hq')
theorem WInv.out{p m:Nat}{st:Cm×List Nat}(W:WInv n es sd P starts p m [] st):WOut n es sd P starts m st:=⟨W.C,W.wk,fun q hq h0=>(W.sh q hq h0).imp id fun z t e he hq'=>by
 rcases z t e he hq' with⟨_,z⟩ | z
 ·cases z
 ·exact z,W.ms⟩
structure Ways(n:Nat)(es:EE)(sd:Nat->Nat)(P:List (Option Nat))(starts:List Nat)(cm:Cm):Prop where
 C:Came n es sd P starts cm
 cl:∀ q∈keys cm,sd q=0->∀(t:Nat) (e:Nat×Nat),es[t]?=some e->(q=e.1\/q=e.2)->farE e q∈keys cm
theorem KJ(H:Sdd n es sd)(K:Cons n es P):∀{f:Nat} {st:Cm×List Nat},WOut n es sd P starts f st->Ways n es sd P starts (Eg es P (f+1) st)
 | f,st,W=>by
   unfold Eg;cases hl:st.2.getLast? with
   | none=>
     have:st.2=[]:=List.getLast?_eq_none_iff.mp hl;refine⟨W.C,fun q hq h0=>?_⟩;rcases W.sh q hq h0 with z | z
     ·rw[this]at z;cases z
     ·exact z
   | some p=>
     cases f with
     | zero=>
       have:=W.ms;have hz:st.2=[]:=List.length_eq_zero_iff.mp (by omega);rw[hz]at hl;cases hl
     | succ f=>exact KJ H K (He H K Hf (W.go H K hl)).out
theorem WOut.start(O:Open starts sd n P):WOut n es sd P starts n (starts.map fun p=>(p,none),starts):=by
 have C:Came n es sd P starts (starts.map fun p=>(p,none)):=Came.start O;have cl:=C.len;rw[List.length_map]at cl;have hk:keys (starts.map fun p=>(p,(none:Option Nat)))=starts:=by unfold keys;rw[List.map_map];exact List.map_id'' (fun _=>rfl) starts
 exact⟨C,fun q hq=>⟨C.hs q hq,(O.ok q hq).2.1⟩,fun q hq _ => .inl (by rw[hk]at hq;exact hq),by show(n - (starts.map fun p=>(p,(none:Option Nat))).length)+starts.length<=n;rw[List.length_map];omega⟩
theorem Hg(H:Sdd n es sd)(K:Cons n es P)(O:Open starts sd n P):Ways n es sd P starts (CS n es P starts):=KJ H K (WOut.start O)
end
open PySem L2
def turn(es:EE)(cm:Cm):Nat->List (Option Nat)->Nat->List (Option Nat)
 | 0,P,_=>P
 | f+1,P,q=>match (lk cm q).join with
   | none=>P
   | some t=>match (lk cm (farE (tieE es t) q)).join with
     | none=>(P.set q (some t)).set (farE (tieE es t) q) (some t)
     | some u=>turn es cm f ((P.set q (some t)).set (farE (tieE es t) q) (some t)) (farE (tieE es u) (farE (tieE es t) q))
section
variable{n:Nat}{es:EE}{sd:Nat->Nat}{P0:List (Option Nat)}{starts:List Nat}{cm:Cm}
structure Tn(n:Nat)(es:EE)(sd:Nat->Nat)(cm:Cm)(P:List (Option Nat))(q i:Nat):Prop where
 len:P.length=n
 at':∃ t,cm[i]?=some (q,some t)
 q1:sd q=1
 t1:∀ p,p≠q->∀ t,P[p]?=some (some t)->∃ e,es[t]?=some e/\(p=e.1\/p=e.2)/\farE e p≠q/\P[farE e p]?=some (some t)
 t2:∀(j p:Nat) (v:Option Nat),j<i->cm[j]?=some (p,v)->sd p=0->P[p]?=some v
structure Zc(es:EE)(sd:Nat->Nat)(P:List (Option Nat))(Z:Nat->Prop):Prop where
 z1:∀(p t:Nat) (e:Nat×Nat),es[t]?=some e->(p=e.1\/p=e.2)->Z p->sd p=0->Z (farE e p)
 z2:∀(q u:Nat) (f:Nat×Nat),Z q->sd q=1->P[q]?=some (some u)->es[u]?=some f->Z (farE f q)
structure TnP(n:Nat)(es:EE)(sd:Nat->Nat)(starts:List Nat)(P P':List (Option Nat))(q:Nat):Prop where
 co:Cons n es P'
 more:∀ p:Nat,P'[p]?=P[p]?\/∃ t,P'[p]?=some (some t)
 st:∃ s∈starts,∃ t,P'[s]?=some (some t)
 en:∃ t,P'[q]?=some (some t)
 z:∀ Z:Nat->Prop,Zc es sd P Z->¬ Z q->∀ p:Nat,Z p->P'[p]?=P[p]?
 old:∀ p:Nat,sd p=0->P[p]?=some none->p∉starts->P'[p]?=some none
theorem Vm{P:List (Option Nat)}{q r:Nat}{v w:Option Nat}(hq:q<P.length)(hr:r<P.length)(p:Nat):((P.set q v).set r w)[p]?=if p=r then some w else if p=q then some v else P[p]?:=by
 by_cases h1:p=r
 ·subst h1;rw[if_pos rfl,List.getElem?_set_self (by rw[List.length_set];exact hr)]
 ·rw[if_neg h1,List.getElem?_set_ne (Ne.symm h1)];by_cases h2:p=q
  ·subst h2;rw[if_pos rfl,List.getElem?_set_self hq]
  ·rw[if_neg h2,List.getElem?_set_ne (Ne.symm h2)]
theorem KK(C:Came n es sd P0 starts cm){p:Nat}{v:Option Nat}(h:(p,v)∈cm):(lk cm p).join=v:=by rw[Og C.nd h];cases v<;>rfl
theorem AU{t:Nat}{e:Nat×Nat}(h:es[t]?=some e):tieE es t=e:=by
 have:=A8 (gM h).1;rw[h]at this;exact(oj this).symm
theorem Ft(H:Sdd n es sd)(C:Came n es sd P0 starts cm)(O:Open starts sd n P0):∀{f i q:Nat} {P:List (Option Nat)},i<f->Tn n es sd cm P q i->TnP n es sd starts P (turn es cm f P q) q
 | f+1,i,q,P,hf,T=>by
   obtain⟨t,hi⟩:=T.at';have hm:=List.mem_of_getElem? hi;obtain⟨e,he,hqe,hin⟩:=C.up i q t hi;obtain⟨f1,f2,f3,f4,f5⟩:=H.far he hqe;have hq0:sd (farE e q)=0:=by have:=T.q1;omega
   have hqn:q<P.length:=by rw[T.len];exact f5
   have hrn:farE e q<P.length:=by rw[T.len];exact f1
   have hne:q≠farE e q:=fun z=>by rw[<-z]at hq0;have:=T.q1;omega
   have s2:=fun p=>Vm (v:=some t) (w:=some t) hqn hrn p;unfold turn;rw[KK C hm];simp only;rw[AU he];obtain⟨c,hc,ec⟩:=List.mem_map.mp hin;obtain⟨c1,v⟩:=c;have ec:c1=farE e q:=ec;subst ec;obtain⟨j,hj⟩:=List.getElem?_of_mem hc
   have hji:j<i:=by
    have:=(gM hj).1;rw[List.length_take]at this;omega
   have hj:cm[j]?=some (farE e q,v):=by rw[List.getElem?_take_of_lt hji]at hj;exact hj
   have hPn:=T.t2 j _ v hji hj hq0;rw[KK C (List.mem_of_getElem? hj)];cases v with
   | none=>
     simp only;have hst:=C.st _ (List.mem_of_getElem? hj);refine⟨⟨by rw[List.length_set,List.length_set,T.len],fun p s h=>?_⟩,fun p=>?_,⟨_,hst,t,by rw[s2,if_pos rfl]⟩,⟨t,by rw[s2,if_neg hne,if_pos rfl]⟩,fun Z z hz p hp=>?_,fun p h0 hpn hs=>?_⟩
     ·rw[s2]at h;by_cases h1:p=farE e q
      ·rw[if_pos h1]at h;cases h;subst h1;exact⟨e,he,f4,by rw[f3,s2,if_neg hne,if_pos rfl]⟩
      ·rw[if_neg h1]at h;by_cases h2:p=q
       ·rw[if_pos h2]at h;cases h;subst h2;exact⟨e,he,hqe,by rw[s2,if_pos rfl]⟩
       ·rw[if_neg h2]at h;obtain⟨e',he',hp',hfq,hPf⟩:=T.t1 p h2 s h;refine⟨e',he',hp',?_⟩;rw[s2,if_neg (fun z=>by rw[z,hPn]at hPf;cases hPf),if_neg hfq];exact hPf
     ·rw[s2];by_cases h1:p=farE e q
      ·rw[if_pos h1];exact .inr ⟨t,rfl⟩
      ·rw[if_neg h1];by_cases h2:p=q
       ·rw[if_pos h2];exact .inr ⟨t,rfl⟩
       ·rw[if_neg h2];exact .inl rfl
     ·have hz2:¬ Z (farE e q):=fun y=>hz (by have:=z.z1 _ t e he f4 y hq0;rw[f3]at this;exact this);have n1:p≠farE e q:=fun y=>hz2 (y▸hp);have n2:p≠q:=fun y=>hz (y▸hp);rw[s2,if_neg n1,if_neg n2]
     ·have n1:p≠farE e q:=fun y=>hs (y▸hst);rw[s2,if_neg n1,if_neg (fun y=>by rw[y]at h0;have:=T.q1;omega)];exact hpn
   | some u=>
     simp only;obtain⟨g,hg,hge,hgin⟩:=C.up j _ u hj;obtain⟨g1,g2,g3,g4,g5⟩:=H.far hg hge;rw[AU hg];have hq1:sd (farE g (farE e q))=1:=by omega
     obtain⟨c,hc',ec⟩:=List.mem_map.mp hgin;obtain⟨c1,v'⟩:=c;have ec:c1=farE g (farE e q):=ec;subst ec;obtain⟨i',hi'⟩:=List.getElem?_of_mem hc'
     have hij:i'<j:=by
      have:=(gM hi').1;rw[List.length_take]at this;omega
     have hi':cm[i']?=some (farE g (farE e q),v'):=by rw[List.getElem?_take_of_lt hij]at hi';exact hi'
     obtain⟨t',rfl⟩:∃ t',v'=some t':=by
      cases v' with
      | some t'=>exact⟨t',rfl⟩
      | none=>have:=(O.ok _ (C.st _ (List.mem_of_getElem? hi'))).2.1;omega
     obtain⟨g',hg',_,hfq,hPq'⟩:=T.t1 (farE e q) (Ne.symm hne) u hPn;rw[hg]at hg';cases hg';have hqq:farE g (farE e q)≠q:=hfq;have hqr:farE g (farE e q)≠farE e q:=fun z=>by rw[z]at hq1;omega
     have kne:∀(a b:Nat) (x y:Nat×Option Nat),cm[a]?=some x->cm[b]?=some y->a<b->x.1≠y.1:=fun a b x y ha hb hab=>by
      have al:=(gM ha).1;have bl:=(gM hb).1;have:=(List.pairwise_iff_getElem.mp C.nd) a b (by rw[BM];exact al) (by rw[BM];exact bl) hab;unfold keys at this;rw[List.getElem_map,List.getElem_map,(gM ha).2,(gM hb).2]at this;exact this
     have T':Tn n es sd cm ((P.set q (some t)).set (farE e q) (some t)) (farE g (farE e q)) i':=by
      refine⟨by rw[List.length_set,List.length_set,T.len],⟨t',hi'⟩,hq1,fun p hp s h=>?_,fun j' p v hj' hv h0=>?_⟩
      ·rw[s2]at h;by_cases h1:p=farE e q
       ·rw[if_pos h1]at h;cases h;subst h1;exact⟨e,he,f4,by rw[f3];exact Ne.symm hqq,by rw[f3,s2,if_neg hne,if_pos rfl]⟩
       ·rw[if_neg h1]at h;by_cases h2:p=q
        ·rw[if_pos h2]at h;cases h;subst h2;exact⟨e,he,hqe,Ne.symm hqr,by rw[s2,if_pos rfl]⟩
        ·rw[if_neg h2]at h;obtain⟨e',he',hp',hfq',hPf⟩:=T.t1 p h2 s h;obtain⟨k1,k2,k3,k4,k5⟩:=H.far he' hp';refine⟨e',he',hp',fun z=>?_,?_⟩
         ·rw[z,hPq']at hPf;cases hPf;rw[hg]at he';cases he';rw[z,g3]at k3;exact h1 k3.symm
         ·rw[s2,if_neg (fun z=>?_),if_neg hfq']
          ·exact hPf
          ·rw[z,hPn]at hPf;cases hPf;rw[hg]at he';cases he';rw[z]at k3;exact hp k3.symm
      ·have e1:p≠farE e q:=kne j' j _ _ hv hj (by omega);rw[s2,if_neg e1,if_neg (fun z=>by rw[z]at h0;have:=T.q1;omega)];exact T.t2 j' p v (by omega) hv h0
     have R:=Ft H C O (f:=f) (by omega) T';refine⟨R.co,fun p=>?_,R.st,?_,fun Z z hz p hp=>?_,fun p h0 hpn hs=>?_⟩
     ·rcases R.more p with z | z
      ·rw[s2]at z;by_cases h1:p=farE e q
       ·rw[if_pos h1]at z;exact .inr ⟨t,z⟩
       ·rw[if_neg h1]at z;by_cases h2:p=q
        ·rw[if_pos h2]at z;exact .inr ⟨t,z⟩
        ·rw[if_neg h2]at z;exact .inl z
      ·exact .inr z
     ·rcases R.more q with z | z
      ·rw[s2,if_neg hne,if_pos rfl]at z;exact⟨t,z⟩
      ·exact z
     ·have hz2:¬ Z (farE e q):=fun y=>hz (by have:=z.z1 _ t e he f4 y hq0;rw[f3]at this;exact this);have hz3:¬ Z (farE g (farE e q)):=fun y=>hz2 (by have:=z.z2 _ u g y hq1 hPq' hg;rw[g3]at this;exact this)
      have keep:∀ r,Z r->((P.set q (some t)).set (farE e q) (some t))[r]?=P[r]?:=fun r hr=>by
       have n1:r≠farE e q:=fun y=>hz2 (y▸hr);have n2:r≠q:=fun y=>hz (y▸hr);rw[s2,if_neg n1,if_neg n2]
      have z':Zc es sd ((P.set q (some t)).set (farE e q) (some t)) Z:=⟨z.z1,fun r u f hr h1 hP hf=>z.z2 r u f hr h1 (by rw[<-keep r hr];exact hP) hf⟩
      rw[R.z Z z' hz3 p hp,keep p hp]
     ·refine R.old p h0 ?_ hs;rw[s2,if_neg (fun y=>by rw[y,hPn]at hpn;cases hpn),if_neg (fun y=>by rw[y]at h0;have:=T.q1;omega)];exact hpn
def cntAt(es:EE)(p:Nat):Nat:=(c9 es p es.length).length
def C0(es:EE)(cm:Cm)(P:List (Option Nat))(needed:Nat):List Nat->List (Option Nat)
 | []=>P
 | p::ps=>if P.getD p none=none then turn es cm (cm.length+1) P p else if P.getD p none=(lk cm p).join/\cntAt es p<needed then turn es cm (cm.length+1) (P.set p none) (farE (tieE es ((lk cm p).join.getD 0)) p) else C0 es cm P needed ps
def Cz(n:Nat)(es:EE)(P:List (Option Nat))(s needed:Nat):List (Option Nat):=C0 es (CS n es P [s]) P needed ((keys (CS n es P [s])).filter fun q=>!decide (q=s))
end
section
variable{n:Nat}{es:EE}{sd:Nat->Nat}{P:List (Option Nat)}
theorem Hh(H:Sdd n es sd){starts:List Nat}{cm:Cm}(C:Came n es sd P starts cm)(O:Open starts sd n P)(K:Cons n es P){q:Nat}(hq:q∈keys cm)(hs:q∉starts)(hP:P[q]?=some none):∃ i,i<cm.length/\Tn n es sd cm P q i:=by
 obtain⟨c,hc,ec⟩:=List.mem_map.mp hq;obtain⟨c1,v⟩:=c;have ec:c1=q:=ec;subst ec;obtain⟨i,hi⟩:=List.getElem?_of_mem hc;cases v with
 | none=>exact absurd (C.st _ hc) hs
 | some t=>
   have q1:sd c1=1:=by
    have h2:=H.two c1;by_cases h0:sd c1=0
    ·have:=C.s0 _ _ hc h0;rw[hP]at this;cases this
    ·omega
   refine⟨i,(gM hi).1,K.len,⟨t,hi⟩,q1,fun p hp s h=>?_,fun j p v hj hv h0=>C.s0 p v (List.mem_of_getElem? hv) h0⟩;obtain⟨e,he,hpe,hf⟩:=K.two p s h;exact⟨e,he,hpe,(fun z=>by rw[z,hP]at hf;cases hf),hf⟩
end
open PySem L2
def SE(k:Nat):List Stm:=[(.loop (.nm 2) (.seq (.var 1)) [(.expr (.call k (.cons (.var 0) (.cons (.var 2) .nil))))]),(.ret (.tup (.cons (.ix (.var 0) (.c (.int 0))) (.cons (.bi .tuple (.cons (.comp ["tie"] ["web"] [0] (.nm 0) (.seq (.var 1)) .no (.ix (.ix (.var 1) (.c (.int 1))) (.var 0))) .nil)) .nil))))]
def J9(s:Sn):Prop:=∀{n k:Nat} {es:EE} {js:List Nat} {S:Sto} {Q:QE},S[k]?=some (.lst (natS js))->js.length<=1000->(∀ j∈js,j<es.length)->(∀(S':Sto),Gw S S'->Q (i3 n (js.map fun j=>es.getD j (0,0))) S')->s [i3 n es,.loc k] S Q
theorem AK{xs:List Nat}{i:Nat}{x:SV}(h:(natS xs)[i]?=some x):∃ j,xs[i]?=some j/\x = .int j:=by
 unfold natS at h;rw[List.getElem?_map]at h;cases hx:xs[i]? with
 | none=>rw[hx]at h;cases h
 | some j=>rw[hx]at h;exact⟨j,rfl,(oj h).symm⟩
theorem R8{Δ:Nat->Sn}(hΔ:∀ f,MonoN (Δ f)){kc:Nat}(hc:BW (Δ kc)){D:Df}(hb:D.body=SE kc)(hN:D.N.length=3)(hp:D.ps.length=2):J9 (i8 Δ D):=by
 intro n k es js S Q hk hl hj q;unfold i8;rw[hb,hN];refine⟨hp.symm,_,rfl,_,c5 hk,?_⟩;refine v9 (j4 hΔ _) (fun i ρ S'=>∃ o,ρ=[some (i3 n es),some (.loc k),o]/\S'=S) ⟨none,rfl,rfl⟩ (fun _ _ _ ⟨_,_,h⟩=>by rw[h];exact rfl) ?_ ?_
 ·rintro i x ρ S' hx ⟨o,rfl,rfl⟩;obtain⟨j,hji,rfl⟩:=AK hx;exact⟨_,rfl,_,rfl,hc (hj j (List.mem_of_getElem? hji)) ⟨_,rfl,rfl⟩⟩
 ·rintro ρ S' ⟨o,rfl,rfl⟩;refine⟨_,rfl,_,_,rfl,rfl,_,rfl,_,c5 hk,?_⟩;refine l9 (i7 hΔ _).2 (a8 hΔ _).1 (fun i ys S2=>S2=S'/\ys=((js.take i).map fun j=>es.getD j (0,0)).map pairS) ⟨rfl,rfl⟩ (fun _ _ _ h=>by rw[h.1];exact rfl) ?_ ?_
  ·rintro i x ys S2 hx ⟨rfl,rfl⟩;obtain⟨j,hji,rfl⟩:=AK hx;have hjl:=hj j (List.mem_of_getElem? hji);have hil:=(gM hji).1;have he:=List.getElem?_eq_getElem hjl;refine⟨_,rfl,_,_,rfl,rfl,_,rfl,_,pairS es[j],rfl,f8 (by rw[List.getElem?_map,he];rfl),?_⟩;refine⟨by rw[List.length_map,List.length_map,List.length_take];show _<100000;omega,rfl,?_⟩;rw[List.take_succ,hji,List.map_append,List.map_append]
   congr 1
   show[pairS es[j]]=[pairS (es.getD j (0,0))]
   rw[List.getD_eq_getElem?_getD,he];rfl
  ·rintro ys S2 ⟨rfl,rfl⟩;rw[e6,List.take_length];exact⟨_,c5 c8,by show 2<=big;decide,q _ (Gw.refl S2).push⟩
theorem UJ(p:Nat)(xs:List Nat):inS (.int p) (natS xs)=decide (p∈xs):=by
 rw[Bool.eq_iff_iff,decide_eq_true_eq];unfold inS natS;rw[List.any_map,List.any_eq_true];constructor
 ·rintro⟨a,ha,h⟩;have h:((a:Int) == (p:Int))=true:=h;rw[beq_iff_eq]at h;have:=Int.natCast_inj.mp h;rw[<-this];exact ha
 ·intro h;exact⟨p,h,by show((p:Int) == (p:Int))=true;simp⟩
open PySem L2
theorem R9{k:Nat}{S:Sto}{kvs:List (Int×SV)}(h:S[k]?=some (.dct kvs)):Co (.loc k) S=some kvs:=by simp only[Co,h]
theorem De{k:Nat}{S:Sto}{o:Obj}{ks:List (Key×V)}{kvs:List (Int×SV)}(h:S[k]?=some (.dcf o ks kvs)):Co (.loc k) S=some kvs:=by simp only[Co,h]
open PySem L2
theorem JA(f:Nat->Int):∀ i,(PyProof.Rows.firstMet f i).Nodup
 | 0=>by rw[PyProof.Rows.firstMet_zero];exact List.nodup_nil
 | i+1=>by
   rw[PyProof.Rows.firstMet_succ];unfold PyProof.Rows.step_dedup;split
   ·exact JA f i
   ·rename_i h;rw[List.nodup_append];refine⟨JA f i,by simp,fun a ha b hb=>?_⟩;rw[List.mem_singleton.mp hb];intro z;exact h (List.any_eq_true.mpr ⟨a,ha,by simp[z]⟩)
section
variable{Δ:Nat->Sn}
theorem Hi{α:Type}{P:α->Bool}{xs:List α}{j:Nat}{x:α}(h:xs[j]?=some x):(xs.take (j+1)).filter P=(xs.take j).filter P++if P x=true then [x] else []:=by
 rw[List.take_succ,h,List.filter_append]
 congr 1
 show List.filter P [x]=_;rw[List.filter_cons];rfl
end
open PySem L2
theorem Fu{α:Type}[DecidableEq α]:∀{l1 l2:List α},l1.Nodup->(∀ x∈l1,x∈l2)->l1.length<=l2.length
 | [],l2,_,_=>Nat.zero_le _
 | a::l1,l2,nd,h=>by
   rw[List.nodup_cons]at nd;have ha:=h a (List.mem_cons_self ..)
   have:=Fu (l1:=l1) (l2:=l2.erase a) nd.2 fun x hx=>by
    have hx2:=h x (List.mem_cons_of_mem _ hx);have:x≠a:=fun z=>nd.1 (z▸hx);exact(List.mem_erase_of_ne this).mpr hx2
   rw[List.length_erase_of_mem ha]at this;have:0<l2.length:=List.length_pos_of_mem ha;rw[List.length_cons];omega
def Apart(es:EE)(ts:List Nat):Prop:=∀ t∈ts,∀ t'∈ts,∀ p,(p=(tieE es t).1\/p=(tieE es t).2)->(p=(tieE es t').1\/p=(tieE es t').2)->t=t'
def iN(xs:List Nat):List Int:=xs.map fun(i:Nat)=>(i:Int)
def tNs(P:List (Option Nat)):List Nat:=P.filterMap id
def Af(P:List (Option Nat)):List Nat:=(srt (CL (iN (tNs P)))).map Int.toNat
theorem mem_tNs{P:List (Option Nat)}{t:Nat}:t∈tNs P↔∃ p:Nat,P[p]?=some (some t):=by
 unfold tNs;rw[List.mem_filterMap];constructor
 ·rintro⟨a,ha,h⟩;obtain⟨i,hi⟩:=List.getElem?_of_mem ha;have h:a=some t:=h;exact⟨i,by rw[hi,h]⟩
 ·rintro⟨p,h⟩;exact⟨some t,List.mem_of_getElem? h,rfl⟩
theorem Oh(P:List (Option Nat)):srt (CL (iN (tNs P)))=iN (Af P):=by
 unfold Af
 have nn:∀ x∈srt (CL (iN (tNs P))),0<=x:=fun x hx=>by
  have h1:=(Bm _).mem_iff.mp hx;have h2:x∈iN (tNs P):=(GX _ _).mp h1;obtain⟨i,_,rfl⟩:=List.mem_map.mp h2;omega
 generalize srt (CL (iN (tNs P)))=l at *;unfold iN;rw[List.map_map]
 conv=>lhs;rw[<-List.map_id l]
 refine List.map_congr_left fun x hx=>?_;have:=nn x hx;show x=((x.toNat:Nat):Int)
 omega
theorem mem_tiesN{P:List (Option Nat)}{t:Nat}:t∈Af P↔∃ p:Nat,P[p]?=some (some t):=by
 rw[<-mem_tNs]
 have h:(t:Int)∈iN (Af P)↔(t:Int)∈iN (tNs P):=by
  rw[<-Oh];rw[(Bm _).mem_iff];exact GX _ _
 have inj:∀ l:List Nat,(t:Int)∈iN l↔t∈l:=fun l=>by
  unfold iN;rw[List.mem_map];exact⟨fun⟨a,ha,e⟩=>by rw[<-Int.natCast_inj.mp e];exact ha,fun h=>⟨t,h,rfl⟩⟩
 rw[inj,inj]at h;exact h
theorem Hj(P:List (Option Nat)):(Af P).Pairwise (·<·):=by
 have s:=Mu (CL (iN (tNs P)));have nd:(srt (CL (iN (tNs P)))).Nodup:=(Bm _).nodup_iff.mpr (JA _ _);rw[Oh]at s nd;unfold iN at s nd;rw[List.pairwise_map]at s;have nd:=List.pairwise_map.mp nd;refine(s.and nd).imp fun{a b} h=>?_;have h1:(a:Int)<=b:=h.1;have h2:(a:Int)≠b:=h.2;omega
theorem Vn{l:List Nat}(h:l.Pairwise (·<·)):l.Nodup:=h.imp fun h z=>by omega
section
variable{n:Nat}{es:EE}{sd:Nat->Nat}{P:List (Option Nat)}
theorem Cons.apart(K:Cons n es P):Apart es (Af P):=fun t ht t' ht' p hp hp'=>by
 have at':∀ t,t∈Af P->(p=(tieE es t).1\/p=(tieE es t).2)->P[p]?=some (some t):=fun t ht hp=>by
  obtain⟨r,hr⟩:=mem_tiesN.mp ht;obtain⟨e,he,hre,hf⟩:=K.two r t hr;rw[AU he]at hp;by_cases h:p=r
  ·rw[h];exact hr
  ·have:farE e r=p:=by
    unfold farE;rcases hre with z | z
    ·rw[if_pos z];rcases hp with y | y
     ·exact absurd (y.trans z.symm) h
     ·exact y.symm
    ·by_cases y:r=e.1
     ·rw[if_pos y];rcases hp with x | x
      ·exact absurd (x.trans y.symm) h
      ·exact x.symm
     ·rw[if_neg y];rcases hp with x | x
      ·exact x.symm
      ·exact absurd (x.trans z.symm) h
   rw[<-this];exact hf
 have a:=at' t ht hp;have b:=at' t' ht' hp';rw[a]at b;exact oj (oj b)
theorem Cons.tlt(K:Cons n es P):∀ t∈Af P,t<es.length:=fun t ht=>by
 obtain⟨r,hr⟩:=mem_tiesN.mp ht;obtain⟨e,he,_⟩:=K.two r t hr;exact(gM he).1
end
open PySem L2
def camS(cm:Cm):List (Int×SV):=cm.map fun c=>((c.1:Int),Aj c.2)
theorem CF(cm:Cm)(p:Nat):DQ (camS cm) p=(lk cm p).map Aj:=by
 unfold DQ camS lk
 induction cm with
 | nil=>rfl
 | cons c cm ih=>
   rw[List.map_cons,List.find?_cons,List.find?_cons];by_cases h:c.1=p
   ·rw[decide_eq_true (show(c.1:Int)=p from congrArg _ h),decide_eq_true h];rfl
   ·rw[decide_eq_false (fun z=>h (Int.natCast_inj.mp z)),decide_eq_false h];exact ih
theorem Fv(cm:Cm)(p:Nat)(v:Option Nat):Az (camS cm) p (Aj v)=camS (Ax cm p v):=by
 have ha:((camS cm).any fun q=>decide (q.1=(p:Int)))=cm.any fun c=>decide (c.1=p):=by
  unfold camS;rw[List.any_map]
  congr 1
  funext c
  show decide ((c.1:Int)=p)=decide (c.1=p);rw[decide_eq_decide];exact Int.natCast_inj
 unfold Az Ax;rw[ha];split
 ·unfold camS;rw[List.map_map,List.map_map];refine List.map_congr_left fun c _=>?_;show(if (c.1:Int)=p then ((c.1:Int),Aj v) else ((c.1:Int),Aj c.2))=(((if c.1=p then (c.1,v) else c).1:Int),Aj (if c.1=p then (c.1,v) else c).2)
  by_cases h:c.1=p
  ·rw[if_pos (congrArg _ h),if_pos h]
  ·rw[if_neg (fun z=>h (Int.natCast_inj.mp z)),if_neg h]
 ·unfold camS;rw[List.map_append];rfl
theorem KL(cm:Cm):(camS cm).length=cm.length:=by unfold camS;rw[List.length_map]
theorem Oi(cm:Cm):((camS cm).map fun p=>SV.int p.1)=natS (keys cm):=by unfold camS natS keys;rw[List.map_map,List.map_map];rfl
theorem Oj(cm:Cm)(p:Nat)(v:Option Nat):cm.length<=(Ax cm p v).length:=by
 unfold Ax;split
 ·rw[List.length_map];exact Nat.le_refl _
 ·rw[List.length_append];omega
theorem JB{keep:Sto->Prop}{g:Tg}{t:WT}{e f:WE}{ρ:EnvS}{Q:List (Int×SV)->Sto->Prop}(mt:MonoT t)(me:Mono e)(mf:Mono f)(I:Nat->List (Int×SV)->Sto->Prop){xs:List SV}{S:Sto}(h0:I 0 [] S)(hk:∀ i ys S,I i ys S->keep S)
 (hs:∀ i x ys S,xs[i]?=some x->I i ys S->wTg g x ρ fun ρ2=>t ρ2 S fun b S1=>if b=true then e ρ2 S1 fun y S2=>f ρ2 S2 fun z S3=>∃ j,y = .int j/\ys.length<big/\I (i+1) (Az ys j z) S3 else I (i+1) ys S1) (hd:∀ ys S,I xs.length ys S->Q ys S):v6 keep g t e f ρ Q xs [] S:=by
 have go:∀(zs:List SV) (i:Nat) (ys:List (Int×SV)) (S:Sto),xs.drop i=zs->i<=xs.length->I i ys S->v6 keep g t e f ρ Q zs ys S:=by
  intro zs
  induction zs with
  | nil=>
    intro i ys S e' hi h
    have:i=xs.length:=by
     have:=congrArg List.length e';rw[List.length_drop,List.length_nil]at this;omega
    subst this;unfold v6;exact⟨hk _ _ _ h,hd _ _ h⟩
  | cons y zs ih=>
    intro i ys S e' hi h;have hy:xs[i]?=some y:=by rw[<-List.head?_drop,e'];rfl
    have hlt:=(gM hy).1;have e2:xs.drop (i+1)=zs:=by rw[<-List.tail_drop,e'];rfl
    unfold v6;refine⟨hk _ _ _ h,j6 g (fun ρ2 q=>mt _ _ _ _ (fun b S1 q=>i4 (fun q=>me _ _ _ _ (fun v S2 q=>mf _ _ _ _ (fun z S3 hq=>by obtain⟨j,a,b,c⟩:=hq;exact⟨j,a,b,ih (i+1) _ S3 e2 hlt c⟩) q) q) (fun q=>ih (i+1) _ S1 e2 hlt q) q) q) (hs i y ys S hy h)⟩
 exact go xs 0 [] S rfl (Nat.zero_le _) h0
theorem JC{keep:Sto->Prop}{g:Tg}{t:WT}{e:WE}{ρ:EnvS}{Q:List Int->Sto->Prop}(mt:MonoT t)(me:Mono e)(I:Nat->List Int->Sto->Prop){xs:List SV}{S:Sto}(h0:I 0 [] S)(hk:∀ i ys S,I i ys S->keep S)
 (hs:∀ i x ys S,xs[i]?=some x->I i ys S->wTg g x ρ fun ρ2=>t ρ2 S fun b S1=>if b=true then e ρ2 S1 fun y S2=>∃ j,y = .int j/\ys.length<900/\I (i+1) (ys++[j]) S2 else I (i+1) ys S1) (hd:∀ ys S,I xs.length ys S->Q ys S):v7 keep g t e ρ Q xs [] S:=by
 have go:∀(zs:List SV) (i:Nat) (ys:List Int) (S:Sto),xs.drop i=zs->i<=xs.length->I i ys S->v7 keep g t e ρ Q zs ys S:=by
  intro zs
  induction zs with
  | nil=>
    intro i ys S e' hi h
    have:i=xs.length:=by
     have:=congrArg List.length e';rw[List.length_drop,List.length_nil]at this;omega
    subst this;unfold v7;exact⟨hk _ _ _ h,hd _ _ h⟩
  | cons y zs ih=>
    intro i ys S e' hi h;have hy:xs[i]?=some y:=by rw[<-List.head?_drop,e'];rfl
    have hlt:=(gM hy).1;have e2:xs.drop (i+1)=zs:=by rw[<-List.tail_drop,e'];rfl
    unfold v7;refine⟨hk _ _ _ h,j6 g (fun ρ2 q=>mt _ _ _ _ (fun b S1 q=>i4 (fun q=>me _ _ _ _ (fun v S2 hq=>by obtain⟨j,a,b,c⟩:=hq;exact⟨j,a,b,ih (i+1) _ S2 e2 hlt c⟩) q) (fun q=>ih (i+1) _ S1 e2 hlt q) q) q) (hs i y ys S hy h)⟩
 exact go xs 0 [] S rfl (Nat.zero_le _) h0
def va1:Stm:=(.asg (.nm 3) (.dcomp ["place"] [] [] (.nm 0) (.seq (.var 2)) .no (.var 0) (.c .non)))
def va2:Stm:=(.asg (.nm 4) (.bi .list (.cons (.var 2) .nil)))
def vin(kf:Nat):List Stm:=[(.asg (.nm 7) (.call kf (.cons (.var 0) (.cons (.var 6) (.cons (.var 5) .nil))))),(.iff (.din true (.var 7) (.var 3)) [(.dput (.var 3) (.var 7) (.var 6)),(.iff (.cmp .IsNot (.ix (.var 1) (.var 7)) (.c .non)) [(.asg (.nm 8) (.call kf (.cons (.var 0) (.cons (.ix (.var 1) (.var 7)) (.cons (.var 7) .nil))))),(.dput (.var 3) (.var 8) (.ix (.var 1) (.var 7))),(.expr (.mt .append (.var 4) (.cons (.var 8) .nil)))] [])] [])]
def va3(kt kf:Nat):Stm:=(.whl (.var 4) [(.asg (.nm 5) (.mt .pop (.var 4) .nil)),(.loop (.nm 6) (.seq (.call kt (.cons (.var 0) (.cons (.var 5) .nil)))) (vin kf))])
def SF(kt kf:Nat):List Stm:=[va1,va2,va3 kt kf,(.ret (.var 3))]
structure Wm(lp lc lw:Nat)(S0 S:Sto)(P:List (Option Nat))(st:Cm×List Nat):Prop where
 hp:S[lp]?=some (.lst (optsS P))
 hc:S[lc]?=some (.dct (camS st.1))
 hw:S[lw]?=some (.lst (natS st.2))
 g:Gw S0 S
 p0:lp<S0.length
 c0:S0.length<=lc
 w0:S0.length<=lw
 ne:lc≠lw
section
variable{lp lc lw:Nat}{S0 S:Sto}{P:List (Option Nat)}{st:Cm×List Nat}{cm':Cm}{wt':List Nat}
theorem Wm.push{o:SO}(M:Wm lp lc lw S0 S P st):Wm lp lc lw S0 (S++[o]) P st:=⟨f6 M.hp,f6 M.hc,f6 M.hw,M.g.push,M.p0,M.c0,M.w0,M.ne⟩
theorem Wm.setc(M:Wm lp lc lw S0 S P st):Wm lp lc lw S0 (S.set lc (.dct (camS cm'))) P (cm',st.2):=⟨by rw[j8 (by have:=M.p0;have:=M.c0;omega)];exact M.hp,j7 M.hc,by rw[j8 M.ne];exact M.hw,M.g.put M.c0,M.p0,M.c0,M.w0,M.ne⟩
theorem Wm.setw(M:Wm lp lc lw S0 S P st):Wm lp lc lw S0 (S.set lw (.lst (natS wt'))) P (st.1,wt'):=⟨by rw[j8 (by have:=M.p0;have:=M.w0;omega)];exact M.hp,by rw[j8 (Ne.symm M.ne)];exact M.hc,j7 M.hw,M.g.put M.w0,M.p0,M.c0,M.w0,M.ne⟩
end
section
variable{Δ:Nat->Sn}{kt kf:Nat}
theorem Lw(hf:A6 (Δ kf)){n p m t l lp lc lw ls:Nat}{o:SO}{es:EE}{sd:Nat->Nat}{starts ts:List Nat}{P:List (Option Nat)}{S0 S:Sto}{st:Cm×List Nat}{D:EndsS}{o7 o8:Option SV}(H:Sdd n es sd)(K:Cons n es P)(hn:n<=100)(hm:m<=100)(hl:S[l]?=some o)(lc':l≠lc)(lw':l≠lw)(ht:t<es.length)(hp:p=(tieE es t).1\/p=(tieE es t).2)(W:WInv n es sd P starts p m (t::ts) st)(M:Wm lp lc lw S0 S P st)
 (q:∀(o7 o8:Option SV) (S':Sto),S'[l]?=some o->Wm lp lc lw S0 S' P (Fp es P p st t)->D.nx [some (i3 n es),some (.loc lp),some (.loc ls),some (.loc lc),some (.loc lw),some (.int p),some (.int t),o7,o8] S'):
 wSs Δ (vin kf) D [some (i3 n es),some (.loc lp),some (.loc ls),some (.loc lc),some (.loc lw),some (.int p),some (.int t),o7,o8] S:=by
 obtain⟨cm,wt⟩:=st;have W1:=Fs H K ht hp W;have he:=A8 ht;have cl:=W.C.len;have cl1:=W1.C.len;have wl:wt.length<=m:=by have:=W.ms;show wt.length<=m;have:(n - cm.length)+wt.length<=m:=this;omega
 unfold Fp at q cl1;generalize tieE es t=e at *;obtain⟨f1,f2,f3,f4,f5⟩:=H.far he hp;have hfl:farE e p<P.length:=by rw[K.len];exact f1
 have hPf:=DF hfl;refine⟨_,rfl,_,rfl,_,rfl,hf he hp ?_⟩;generalize farE e p=fr at *;refine⟨_,rfl,_,rfl,_,_,R9 M.hc,rfl,_,rfl,?_⟩;rw[CF];by_cases hk:(lk cm fr).isSome=true
 ·rw[if_pos hk]at q;refine ifF ?_ (q _ _ S hl M);rw[Option.isSome_map];show(!(lk cm fr).isSome)=false;rw[hk];rfl
 ·rw[if_neg hk]at q cl1;refine ifT ?_ ?_
  ·rw[Option.isSome_map];show(!(lk cm fr).isSome)=true;rw[Bool.not_eq_true]at hk;rw[hk];rfl
  have cb:∀ cm':Cm,cm'.length<=100->(camS cm').length<big:=fun cm' h=>by rw[KL];show _<100000;omega
  have hM0:=M.hc;refine⟨_,rfl,_,rfl,_,rfl,_,_,_,rfl,rfl,.inl hM0,cb _ (by have:cm.length<=n:=cl;show cm.length<=100;omega),?_⟩;have e1:Az (camS cm) fr (.int t)=camS (Ax cm fr (some t)):=Fv cm fr (some t);have M1:=M.setc (cm':=Ax cm fr (some t));have hl1:(S.set lc (.dct (camS (Ax cm fr (some t)))))[l]?=some o:=by rw[j8 (Ne.symm lc')];exact hl
  show wSs Δ [(.iff (.cmp .IsNot (.ix (.var 1) (.var 7)) (.c .non)) [(.asg (.nm 8) (.call kf (.cons (.var 0) (.cons (.ix (.var 1) (.var 7)) (.cons (.var 7) .nil))))),(.dput (.var 3) (.var 8) (.ix (.var 1) (.var 7))),(.expr (.mt .append (.var 4) (.cons (.var 8) .nil)))] [])] _ _ (S.set lc (.dct (Az (camS cm) fr (.int t))));rw[e1];generalize S.set lc (.dct (camS (Ax cm fr (some t))))=S1 at *;cases hv:P.getD fr none with
  | none=>
    rw[hv]at hPf q;simp only at q;refine⟨_,rfl,_,rfl,_,_,c5 M1.hp,f8 (i6 hPf),.inl ⟨rfl,_,rfl,ifF rfl ?_⟩⟩;exact q _ _ S1 hl1 M1
  | some u=>
    rw[hv]at hPf q cl1;simp only at q cl1;obtain⟨f,hfu,hfe,_⟩:=K.two fr u hPf;rw[AU hfu]at q cl1
    have cl2:(Ax cm fr (some t)).length<=100:=by
     have:=Oj (Ax cm fr (some t)) (farE f fr) (some u);omega
    refine⟨_,rfl,_,rfl,_,_,c5 M1.hp,f8 (i6 hPf),.inl ⟨rfl,_,rfl,ifT rfl ?_⟩⟩;refine⟨_,rfl,_,rfl,_,rfl,_,_,c5 M1.hp,f8 (i6 hPf),_,rfl,hf hfu hfe ?_⟩;refine⟨_,rfl,_,rfl,_,_,c5 M1.hp,f8 (i6 hPf),_,rfl,_,rfl,_,_,_,rfl,rfl,.inl M1.hc,cb _ cl2,?_⟩;show wSs Δ [(.expr (.mt .append (.var 4) (.cons (.var 8) .nil)))] _ _ (S1.set lc (.dct (Az (camS (Ax cm fr (some t))) (farE f fr) (Aj (some u)))));rw[Fv];have M2:=M1.setc (cm':=Ax (Ax cm fr (some t)) (farE f fr) (some u));have hl2:(S1.set lc (.dct (camS (Ax (Ax cm fr (some t)) (farE f fr) (some u)))))[l]?=some o:=by rw[j8 (Ne.symm lc')];exact hl1
    generalize S1.set lc (.dct (camS (Ax (Ax cm fr (some t)) (farE f fr) (some u))))=S2 at *
    have wn:(natS wt).length<big:=by
     rw[e6];show _<100000;omega
    refine⟨_,rfl,⟨_,_,rfl,M2.hw⟩,_,rfl,_,M2.hw,wn,?_⟩;have M3:=M2.setw (wt':=wt++[farE f fr]);rw[j9]at M3;exact q _ _ _ (by rw[j8 (Ne.symm lw')];exact hl2) M3
end
section
variable{Δ:Nat->Sn}{kt kf:Nat}
theorem Hk{wt:List Nat}{p:Nat}:(wt++[p]).getLast?=some p:=List.getLast?_concat
theorem Lx{es:EE}{P:List (Option Nat)}{f p:Nat}{cm:Cm}{wt:List Nat}:Eg es P (f+1) (cm,wt++[p])=Eg es P f ((c9 es p es.length).foldl (Fp es P p) (cm,wt)):=by
 rw[Eg,show((cm,wt++[p]):Cm×List Nat).2.getLast?=some p from Hk];show Eg es P f (J8 es P (cm,wt++[p]) p)=_;unfold J8;rw[show((cm,wt++[p]):Cm×List Nat).2.dropLast=wt from List.dropLast_concat]
def JD(s:Sn):Prop:=∀{n lp ls:Nat} {es:EE} {sd:Nat->Nat} {starts:List Nat} {P:List (Option Nat)} {S:Sto} {Q:QE},Sdd n es sd->Cons n es P->Open starts sd n P->n<=99->es.length<=1000->S[lp]?=some (.lst (optsS P))->S[ls]?=some (.lst (natS starts))->
 (∀(l:Nat) (S':Sto),Gw S S'->S.length<=l->S'[l]?=some (.dct (camS (CS n es P starts)))->Q (.loc l) S')->s [i3 n es,.loc lp,.loc ls] S Q
theorem Ol(hΔ:∀ f,MonoN (Δ f))(ht:As (Δ kt))(hf:A6 (Δ kf)){n lp ls lc lw:Nat}{es:EE}{sd:Nat->Nat}{starts:List Nat}{P:List (Option Nat)}{S0 S:Sto}{Q:QE}(H:Sdd n es sd)(K:Cons n es P)(O:Open starts sd n P)(hn:n<=99)(hel:es.length<=1000)(M:Wm lp lc lw S0 S P (starts.map fun p=>(p,none),starts))
 (q:∀(S':Sto),Gw S0 S'->S'[lc]?=some (.dct (camS (CS n es P starts)))->Q (.loc lc) S'):wSs Δ [va3 kt kf,(.ret (.var 3))] (Ae Q) [some (i3 n es),some (.loc lp),some (.loc ls),some (.loc lc),some (.loc lw),none,none,none,none] S:=by
 refine⟨fun m ρ S'=>∃(st:Cm×List Nat) (o5 o6 o7 o8:Option SV),ρ=[some (i3 n es),some (.loc lp),some (.loc ls),some (.loc lc),some (.loc lw),o5,o6,o7,o8]/\Wm lp lc lw S0 S' P st/\WOut n es sd P starts m st/\Eg es P (m+1) st=CS n es P starts/\m<=100,⟨n,_,none,none,none,none,rfl,M,WOut.start O,rfl,by omega⟩,?_⟩;rintro m ρ S1 ⟨⟨cm,wt⟩,o5,o6,o7,o8,rfl,M1,W,ew,hm⟩;refine⟨_,rfl,_,Da M1.hw,?_⟩;rcases Aa wt with rfl | ⟨wt',p,rfl⟩
 ·refine ifF rfl ⟨_,rfl,?_⟩;have:Eg es P (m+1) (cm,[])=cm:=rfl;rw[this]at ew;rw[<-ew]at q;exact q S1 M1.g M1.hc
 refine ifT (by rw[j9];simp[natS]) (K9 fun Ew hw _=>?_);have hwl:=W.ms;have hwl:(n - cm.length)+(wt'++[p]).length<=m:=hwl;rw[List.length_append,List.length_singleton]at hwl;obtain⟨m',rfl⟩:∃ m',m=m'+1:=⟨m - 1,by omega⟩
 have WI:=W.go H K (p:=p) Hk;have hpk:=WI.pk;have hpn:=WI.C.lt p hpk.1;rw[show((cm,wt'++[p]):Cm×List Nat).2.dropLast=wt' from List.dropLast_concat]at WI;refine⟨_,rfl,⟨_,_,rfl,M1.hw⟩,_,_,M1.hw,CA,?_⟩;rw[Cu];have M2:=M1.setw (wt':=wt');refine⟨_,rfl,_,rfl,ht (by omega) hpn ⟨_,c5 c8,?_⟩⟩;have M3:=M2.push (o:=SO.lst (natS (c9 es p es.length)));have hnew:=c8 (S:=S1.set lw (.lst (natS wt'))) (o:=SO.lst (natS (c9 es p es.length)));have l2:=v5 M2.hc;have l3:=v5 M2.hw;generalize (S1.set lw (.lst (natS wt'))).length=l at *;generalize (S1.set lw (.lst (natS wt')))++[SO.lst (natS (c9 es p es.length))]=S3 at *
 refine BU (j4 hΔ _) (fun i ρ S2=>∃ o6 o7 o8,ρ=[some (i3 n es),some (.loc lp),some (.loc ls),some (.loc lc),some (.loc lw),some (.int p),o6,o7,o8]/\S2[l]?=some (.lst (natS (c9 es p es.length)))/\Wm lp lc lw S0 S2 P (((c9 es p es.length).take i).foldl (Fp es P p) (cm,wt'))/\WInv n es sd P starts p m' ((c9 es p es.length).drop i) (((c9 es p es.length).take i).foldl (Fp es P p) (cm,wt')))
  ⟨o6,o7,o8,rfl,hnew,M3,WI⟩ ?_ ?_ ?_
 ·rintro i ρ S2 ⟨_,_,_,_,h,_⟩;show S2[l]?=_;rw[h,hnew]
 ·rintro i x ρ S2 E hn _ hx ⟨o6,o7,o8,rfl,hl,M4,W4⟩;have hi:i<(c9 es p es.length).length:=by have:=(gM hx).1;rwa [e6]at this
  have hti:=List.getElem?_eq_getElem hi;have hx2:=AZ hti;rw[hx2]at hx;have hx:=oj hx;subst hx;obtain⟨h1,h2⟩:=Hf (p:=p) _ (List.getElem_mem hi);rw[List.drop_eq_getElem_cons hi]at W4;refine Lw hf H K (by omega) (by omega) hl (by omega) (by omega) h1 h2 W4 M4 fun o7 o8 S' hl' M'=>hn _ _ ⟨_,_,_,rfl,hl',?_,?_⟩
  ·rw[List.take_succ,hti,List.foldl_append];exact M'
  ·rw[List.take_succ,hti,List.foldl_append];exact Fs H K h1 h2 W4
 ·rintro ρ S2 ⟨o6,o7,o8,rfl,hl,M4,W4⟩;rw[e6,List.take_length]at M4 W4;rw[List.drop_length]at W4;refine hw _ _ ⟨m',by omega,_,_,_,_,_,rfl,M4,W4.out,?_,by omega⟩;rw[<-ew,Lx]
theorem RA(hΔ:∀ f,MonoN (Δ f))(ht:As (Δ kt))(hf:A6 (Δ kf)){D:Df}(hb:D.body=SF kt kf)(hN:D.N.length=9)(hp:D.ps.length=3):JD (i8 Δ D):=by
 intro n lp ls es sd starts P S Q H K O hn hel hlp hls q;unfold i8;rw[hb,hN];have C:Came n es sd P starts (starts.map fun p=>(p,none)):=Came.start O;have cl:=C.len;rw[List.length_map]at cl;refine⟨hp.symm,_,rfl,_,c5 hls,?_⟩;refine JB (i7 hΔ _).2 (a8 hΔ _).1 (a8 hΔ _).1 (fun i ys S'=>S'=S/\ys=camS ((starts.take i).map fun p=>(p,none))) ⟨rfl,rfl⟩ (fun _ _ _ h=>by rw[h.1];exact rfl) ?_ ?_
 ·rintro i x ys S' hx ⟨rfl,rfl⟩;obtain⟨p,hpi,rfl⟩:=AK hx;have hil:=(gM hpi).1;refine⟨_,rfl,_,rfl,by rw[KL,List.length_map,List.length_take];show _<100000;omega,rfl,?_⟩;show Az (camS ((starts.take i).map fun p=>(p,none))) p (Aj none)=_;rw[Fv,Cy,List.take_succ,hpi,List.map_append]
  ·rfl
  ·unfold keys;rw[List.map_map];intro z;obtain⟨r,hr,e⟩:=List.mem_map.mp z;have e:r=p:=e;subst e;obtain⟨j,hj⟩:=List.getElem?_of_mem hr
   have hji:j<i:=by
    have:=(gM hj).1;rw[List.length_take]at this;omega
   rw[List.getElem?_take_of_lt hji]at hj;have:=(List.pairwise_iff_getElem.mp O.nd) j i (gM hj).1 hil hji;rw[(gM hj).2,(gM hpi).2]at this;exact this rfl
 ·rintro ys S' ⟨rfl,rfl⟩;rw[e6,List.take_length];have h1:=f6 (o:=SO.dct (camS (starts.map fun p=>(p,none)))) hls;refine⟨_,rfl,_,c5 h1,?_⟩;have l0:=v5 hlp;refine Ol hΔ ht hf (S0:=S') H K O hn hel ⟨f6 (f6 hlp),f6 c8,c8,(Gw.refl S').push.push,l0,Nat.le_refl _,by rw[List.length_append];omega,by rw[List.length_append];simp⟩ fun S2 G2 h2=>q _ S2 G2 (Nat.le_refl _) h2
end
open PySem L2
section
variable{n:Nat}{es:EE}{sd:Nat->Nat}{P0:List (Option Nat)}{starts:List Nat}{cm:Cm}
theorem Fw(C:Came n es sd P0 starts cm):∀(a b:Nat) (x y:Nat×Option Nat),cm[a]?=some x->cm[b]?=some y->a<b->x.1≠y.1:=fun a b x y ha hb hab=>by
 have al:=(gM ha).1;have bl:=(gM hb).1;have:=(List.pairwise_iff_getElem.mp C.nd) a b (by rw[BM];exact al) (by rw[BM];exact bl) hab;unfold keys at this;rw[List.getElem_map,List.getElem_map,(gM ha).2,(gM hb).2]at this;exact this
theorem D0{m r:Nat}(h:r∈keys (cm.take m)):∃(j:Nat) (v:Option Nat),j<m/\cm[j]?=some (r,v):=by
 obtain⟨c,hc,ec⟩:=List.mem_map.mp h;obtain⟨c1,v⟩:=c;have ec:c1=r:=ec;subst ec;obtain⟨j,hj⟩:=List.getElem?_of_mem hc
 have hji:j<m:=by
  have:=(gM hj).1;rw[List.length_take]at this;omega
 rw[List.getElem?_take_of_lt hji]at hj;exact⟨j,v,hji,hj⟩
theorem RB(H:Sdd n es sd)(C:Came n es sd P0 starts cm)(O:Open starts sd n P0){P:List (Option Nat)}{q i:Nat}(T:Tn n es sd cm P q i):∃(t:Nat) (e:Nat×Nat) (v:Option Nat),lk cm q=some (some t)/\es[t]?=some e/\(q=e.1\/q=e.2)/\lk cm (farE e q)=some v/\
 (v=none\/∃(u:Nat) (g:Nat×Nat) (i':Nat),v=some u/\es[u]?=some g/\(farE e q=g.1\/farE e q=g.2)/\i'<i/\Tn n es sd cm ((P.set q (some t)).set (farE e q) (some t)) (farE g (farE e q)) i'):=by
 obtain⟨t,hi⟩:=T.at';obtain⟨e,he,hqe,hin⟩:=C.up i q t hi;obtain⟨f1,f2,f3,f4,f5⟩:=H.far he hqe;have hq0:sd (farE e q)=0:=by have:=T.q1;omega
 have hqn:q<P.length:=by rw[T.len];exact f5
 have hrn:farE e q<P.length:=by rw[T.len];exact f1
 have hne:q≠farE e q:=fun z=>by rw[<-z]at hq0;have:=T.q1;omega
 have s2:=fun p=>Vm (v:=some t) (w:=some t) hqn hrn p;obtain⟨j,v,hji,hj⟩:=D0 hin;have hPn:=T.t2 j _ v hji hj hq0;refine⟨t,e,v,Og C.nd (List.mem_of_getElem? hi),he,hqe,Og C.nd (List.mem_of_getElem? hj),?_⟩;cases v with
 | none=>exact .inl rfl
 | some u=>
   right;obtain⟨g,hg,hge,hgin⟩:=C.up j _ u hj;obtain⟨g1,g2,g3,g4,g5⟩:=H.far hg hge;have hq1:sd (farE g (farE e q))=1:=by omega
   obtain⟨i',v',hij,hi'⟩:=D0 hgin
   obtain⟨t',rfl⟩:∃ t',v'=some t':=by
    cases v' with
    | some t'=>exact⟨t',rfl⟩
    | none=>have:=(O.ok _ (C.st _ (List.mem_of_getElem? hi'))).2.1;omega
   obtain⟨g',hg',_,hfq,hPq'⟩:=T.t1 (farE e q) (Ne.symm hne) u hPn;rw[hg]at hg';cases hg';have hqr:farE g (farE e q)≠farE e q:=fun z=>by rw[z]at hq1;omega
   refine⟨u,g,i',rfl,hg,hge,by omega,by rw[List.length_set,List.length_set,T.len],⟨t',hi'⟩,hq1,fun p hp s h=>?_,fun j' p v hj' hv h0=>?_⟩
   ·rw[s2]at h;by_cases h1:p=farE e q
    ·rw[if_pos h1]at h;cases h;subst h1;exact⟨e,he,f4,by rw[f3];exact Ne.symm hfq,by rw[f3,s2,if_neg hne,if_pos rfl]⟩
    ·rw[if_neg h1]at h;by_cases h2:p=q
     ·rw[if_pos h2]at h;cases h;subst h2;exact⟨e,he,hqe,Ne.symm hqr,by rw[s2,if_pos rfl]⟩
     ·rw[if_neg h2]at h;obtain⟨e',he',hp',hfq',hPf⟩:=T.t1 p h2 s h;obtain⟨k1,k2,k3,k4,k5⟩:=H.far he' hp';refine⟨e',he',hp',fun z=>?_,?_⟩
      ·rw[z,hPq']at hPf;cases hPf;rw[hg]at he';cases he';rw[z,g3]at k3;exact h1 k3.symm
      ·rw[s2,if_neg (fun z=>?_),if_neg hfq']
       ·exact hPf
       ·rw[z,hPn]at hPf;cases hPf;rw[hg]at he';cases he';rw[z]at k3;exact hp k3.symm
   ·have e1:p≠farE e q:=Fw C j' j _ _ hv hj (by omega);rw[s2,if_neg e1,if_neg (fun z=>by rw[z]at h0;have:=T.q1;omega)];exact T.t2 j' p v (by omega) hv h0
theorem FE(H:Sdd n es sd)(C:Came n es sd P0 starts cm)(O:Open starts sd n P0)(K:Cons n es P0){p t:Nat}(hp:lk cm p=some (some t))(hP:P0[p]?=some (some t))(h0:sd p=0):∃(e:Nat×Nat) (i:Nat),es[t]?=some e/\(p=e.1\/p=e.2)/\i<cm.length/\Tn n es sd cm (P0.set p none) (farE e p) i:=by
 have hm:=EK hp;obtain⟨j,hj⟩:=List.getElem?_of_mem hm;obtain⟨e,he,hpe,hin⟩:=C.up j p t hj;obtain⟨f1,f2,f3,f4,f5⟩:=H.far he hpe;obtain⟨i,v,hij,hi⟩:=D0 hin;have hpl:p<P0.length:=by rw[K.len];exact f5
 obtain⟨e2,he2,_,hPq⟩:=K.two p t hP;rw[he]at he2;cases he2;have q1:sd (farE e p)=1:=by omega
 obtain⟨t',rfl⟩:∃ t',v=some t':=by
  cases v with
  | some t'=>exact⟨t',rfl⟩
  | none=>have:=(O.ok _ (C.st _ (List.mem_of_getElem? hi))).2.1;omega
 have s1:∀ r,r≠p->(P0.set p none)[r]?=P0[r]?:=fun r hr=>List.getElem?_set_ne (Ne.symm hr);have sp:(P0.set p none)[p]?=some none:=List.getElem?_set_self hpl;refine⟨e,i,he,hpe,(gM hi).1,by rw[List.length_set,K.len],⟨t',hi⟩,q1,fun r hr s h=>?_,fun j' r v hj' hv hr0=>?_⟩
 ·have hrp:r≠p:=fun z=>by rw[z,sp]at h;cases h
  rw[s1 r hrp]at h;obtain⟨e',he',hre,hf⟩:=K.two r s h;obtain⟨k1,k2,k3,k4,k5⟩:=H.far he' hre;refine⟨e',he',hre,fun z=>?_,?_⟩
  ·rw[z,hPq]at hf;cases hf;rw[he]at he';cases he';rw[z,f3]at k3;exact hrp k3.symm
  ·rw[s1]
   ·exact hf
   ·intro z;rw[z,hP]at hf;cases hf;rw[he]at he';cases he';rw[z]at k3;exact hr k3.symm
 ·have:=Fw C j' j _ _ hv hj (by omega);rw[s1 r this];exact C.s0 r v (List.mem_of_getElem? hv) hr0
end
structure Kp(l:Nat)(S S':Sto):Prop where
 len:S.length<=S'.length
 keep:∀(k:Nat) (o:SO),k≠l->S[k]?=some o->S'[k]?=some o
theorem Kp.refl(l:Nat)(S:Sto):Kp l S S:=⟨Nat.le_refl _,fun _ _ _ h=>h⟩
theorem Kp.put{l:Nat}{S S':Sto}{o:SO}(h:Kp l S S'):Kp l S (S'.set l o):=⟨by rw[List.length_set];exact h.len,fun k u n e=>by rw[j8 (Ne.symm n)];exact h.keep k u n e⟩
theorem Kp.trans{l:Nat}{S S' S'':Sto}(a:Kp l S S')(b:Kp l S' S''):Kp l S S'':=⟨Nat.le_trans a.len b.len,fun k o n h=>b.keep k o n (a.keep k o n h)⟩
theorem Gw.kp{l:Nat}{S S':Sto}(a:Gw S S'):Kp l S S':=⟨a.len,fun k o _ h=>a.keep k o h⟩
theorem Hl{l lc:Nat}{S S':Sto}{kvs:List (Int×SV)}(h:Co (.loc lc) S=some kvs)(k:Kp l S S')(ne:lc≠l):Co (.loc lc) S'=some kvs:=by
 cases ho:S[lc]? with
 | none=>simp only[Co,ho]at h;cases h
 | some o=>
   have h':=k.keep lc o ne ho;simp only[Co,ho]at h;simp only[Co,h'];exact h
section
variable{Δ:Nat->Sn}{kt kf:Nat}
def SG(kf:Nat):List Stm:=[(.whl (.cmp .IsNot (.var 3) (.c .non)) [(.asg (.nm 4) (.dget (.var 2) (.var 3))),(.asg (.nm 5) (.call kf (.cons (.var 0) (.cons (.var 4) (.cons (.var 3) .nil))))),(.put (.var 1) (.var 3) (.var 4)),(.put (.var 1) (.var 5) (.var 4)),(.asg (.nm 3) (.ife (.cmp .Is (.dget (.var 2) (.var 5)) (.c .non)) (.c .non) (.call kf (.cons (.var 0) (.cons (.dget (.var 2) (.var 5)) (.cons (.var 5) .nil))))))])]
def JE(s:Sn):Prop:=∀{n lp lc q i:Nat} {es:EE} {sd:Nat->Nat} {starts:List Nat} {P0 P:List (Option Nat)} {cm:Cm} {S:Sto} {Q:QE},Sdd n es sd->Came n es sd P0 starts cm->Open starts sd n P0->Tn n es sd cm P q i->S[lp]?=some (.lst (optsS P))->Co (.loc lc) S=some (camS cm)->lc≠lp->
 (∀(S':Sto),Kp lp S S'->S'[lp]?=some (.lst (optsS (turn es cm (cm.length+1) P q)))->Q .non S')->s [i3 n es,.loc lp,.loc lc,.int q] S Q
theorem DG{xs:List (Option Nat)}{j:Nat}{v:Option Nat}:(optsS xs).set j (Aj v)=optsS (xs.set j v):=by unfold optsS;rw[List.map_set]
theorem RC(hf:A6 (Δ kf)){D:Df}(hb:D.body=SG kf)(hN:D.N.length=6)(hp:D.ps.length=4):JE (i8 Δ D):=by
 intro n lp lc q i es sd starts P0 P cm S Q H C O T hlp hlc ne k;unfold i8;rw[hb,hN];refine⟨hp.symm,?_⟩;have hil:i<cm.length:=by obtain⟨t,h⟩:=T.at';exact(gM h).1
 refine⟨fun m ρ S'=>Kp lp S S'/\∃ o4 o5,(∃(P':List (Option Nat)) (q' i' f:Nat),ρ=[some (i3 n es),some (.loc lp),some (.loc lc),some (.int q'),o4,o5]/\S'[lp]?=some (.lst (optsS P'))/\Tn n es sd cm P' q' i'/\i'<f/\turn es cm f P' q'=turn es cm (cm.length+1) P q/\m=i'+1)\/(ρ=[some (i3 n es),some (.loc lp),some (.loc lc),some .non,o4,o5]/\S'[lp]?=some (.lst (optsS (turn es cm (cm.length+1) P q)))),⟨i+1,Kp.refl lp S,none,none,.inl ⟨P,q,i,cm.length+1,rfl,hlp,T,by omega,rfl,rfl⟩⟩,?_⟩;rintro m ρ S1 ⟨K1,o4,o5,⟨P',q',i',f,rfl,h1,T1,hf1,e1,rfl⟩ | ⟨rfl,h1⟩⟩
 ·refine⟨_,rfl,.inl ⟨rfl,_,rfl,ifT rfl (K9 fun Ew hw _=>?_)⟩⟩;obtain⟨t,e,v,l1,he,hqe,l2,z⟩:=RB H C O T1;obtain⟨f1,f2,f3,f4,f5⟩:=H.far he hqe;have hc1:=Hl hlc K1 ne;refine⟨_,rfl,_,rfl,_,_,_,hc1,rfl,by rw[CF,l1];rfl,?_⟩;refine⟨_,rfl,_,rfl,_,rfl,hf he hqe ?_⟩;refine⟨_,rfl,_,rfl,_,rfl,_,_,h1,Cf (by rw[m9,T1.len];exact f5),?_⟩;have k2:Kp lp S (S1.set lp (.lst ((optsS P').set q' (Aj (some t))))):=K1.put
  have h2:(S1.set lp (.lst ((optsS P').set q' (Aj (some t)))))[lp]?=some (.lst (optsS (P'.set q' (some t)))):=by
   rw[j7 h1,DG]
  generalize S1.set lp (.lst ((optsS P').set q' (Aj (some t))))=S2 at *;refine⟨_,rfl,_,rfl,_,rfl,_,_,h2,Cf (by rw[m9,List.length_set,T1.len];exact f1),?_⟩;have k3:Kp lp S (S2.set lp (.lst ((optsS (P'.set q' (some t))).set (farE e q') (Aj (some t))))):=k2.put
  have h3:(S2.set lp (.lst ((optsS (P'.set q' (some t))).set (farE e q') (Aj (some t)))))[lp]?=some (.lst (optsS ((P'.set q' (some t)).set (farE e q') (some t)))):=by
   rw[j7 h2,DG]
  generalize S2.set lp (.lst ((optsS (P'.set q' (some t))).set (farE e q') (Aj (some t))))=S3 at *;have hc3:=Hl hlc k3 ne;obtain⟨f',rfl⟩:∃ f',f=f'+1:=⟨f - 1,by omega⟩
  have et:turn es cm (f'+1) P' q'=match (lk cm (farE e q')).join with | none=>(P'.set q' (some t)).set (farE e q') (some t) | some u=>turn es cm f' ((P'.set q' (some t)).set (farE e q') (some t)) (farE (tieE es u) (farE e q')):=by
   rw[turn,l1];simp only[Option.join_some];rw[AU he]<;>rfl
  rw[et,l2]at e1;refine⟨_,rfl,_,rfl,_,_,_,hc3,rfl,by rw[CF,l2];rfl,.inl ⟨rfl,_,rfl,?_⟩⟩;rcases z with rfl | ⟨u,g,i2,rfl,hg,hge,hi2,T2⟩
  ·refine ifT rfl ?_;refine hw _ _ ⟨0,by omega,k3,_,_,.inr ⟨rfl,?_⟩⟩;rw[<-e1];exact h3
  ·refine ifF rfl ?_;refine⟨_,rfl,_,rfl,_,rfl,_,_,_,hc3,rfl,by rw[CF,l2];rfl,_,rfl,hf hg hge ?_⟩;refine hw _ _ ⟨i2+1,by omega,k3,_,_,.inl ⟨_,_,i2,f',rfl,h3,T2,by omega,?_,rfl⟩⟩;rw[<-e1];show _=turn es cm f' _ (farE (tieE es u) (farE e q'));rw[AU hg]
 ·refine⟨_,rfl,.inl ⟨rfl,_,rfl,ifF rfl ?_⟩⟩;exact k S1 K1 h1
end
open PySem L2
theorem Hm{n:Nat}{es:EE}{sd:Nat->Nat}{P:List (Option Nat)}{starts:List Nat}{cm:Cm}(H:Sdd n es sd)(C:Came n es sd P starts cm)(K:Cons n es P){p t:Nat}(hl:lk cm p=some (some t))(hP:P[p]?=some (some t)):sd p=0:=by
 have h2:=H.two p;refine Classical.byContradiction fun z=>?_;obtain⟨i,hi⟩:=List.getElem?_of_mem (EK hl);obtain⟨e,he,hpe,hin⟩:=C.up i p t hi;obtain⟨f1,f2,f3,f4,f5⟩:=H.far he hpe;obtain⟨j,v,hji,hj⟩:=D0 hin;obtain⟨e',he',_,hPf⟩:=K.two p t hP;rw[he]at he';cases he';have hv:=C.s0 _ v (List.mem_of_getElem? hj) (by omega);rw[hPf]at hv;have hv:v=some t:=(oj hv).symm;subst hv;obtain⟨e2,he2,_,hin2⟩:=C.up j _ t hj;rw[he]at he2;cases he2;rw[f3]at hin2;obtain⟨k,w,hkj,hk⟩:=D0 hin2;exact Fw C k i _ _ hk hi (by omega) rfl
section
variable{Δ:Nat->Sn}
def Om(kt:Nat):List Stm:=[(.ret (.bi .len (.cons (.call kt (.cons (.var 0) (.cons (.var 1) .nil))) .nil)))]
def Dg(s:Sn):Prop:=∀{n p:Nat} {es:EE} {S:Sto} {Q:QE},es.length<=5000->p<n->(∀ S',Gw S S'->Q (.int (cntAt es p)) S')->s [i3 n es,.int p] S Q
theorem Oo{kt:Nat}(ht:As (Δ kt)){D:Df}(hb:D.body=Om kt)(hN:D.N.length=2)(hp:D.ps.length=2):Dg (i8 Δ D):=by
 intro n p es S Q hel hpn q;unfold i8;rw[hb,hN];refine⟨hp.symm,_,rfl,_,rfl,ht hel hpn ⟨_,c5 c8,?_⟩⟩;have:=q _ ((Gw.refl S).push (o:=SO.lst (natS (c9 es p es.length))));rw[e6];exact this
def gb1(kw:Nat):Stm:=(.asg (.nm 4) (.call kw (.cons (.var 0) (.cons (.var 1) (.cons (.lst (.cons (.var 2) .nil)) .nil)))))
def gbA(ku:Nat):Stm:=(.iff (.cmp .Is (.ix (.var 1) (.var 5)) (.c .non)) [(.expr (.call ku (.cons (.var 0) (.cons (.var 1) (.cons (.var 4) (.cons (.var 5) .nil)))))),.retN] [])
def gbB(kc kf ku:Nat):Stm:=(.iff (.and (.cmp .Eq (.ix (.var 1) (.var 5)) (.dget (.var 4) (.var 5))) (.cmp .Lt (.call kc (.cons (.var 0) (.cons (.var 5) .nil))) (.var 3))) [(.put (.var 1) (.var 5) (.c .non)),(.expr (.call ku (.cons (.var 0) (.cons (.var 1) (.cons (.var 4) (.cons (.call kf (.cons (.var 0) (.cons (.dget (.var 4) (.var 5)) (.cons (.var 5) .nil)))) .nil)))))),.retN] [])
def gb2(kc kf ku:Nat):Stm:=(.loop (.nm 5) (.seq (.comp ["other"] ["start"] [2] (.nm 0) (.dk (.var 4)) (.yes (.cmp .NotEq (.var 0) (.var 1))) (.var 0))) [gbA ku,gbB kc kf ku])
def Op(kw kc kf ku:Nat):List Stm:=[gb1 kw,gb2 kc kf ku]
def Fx(s:Sn):Prop:=∀{n lp st nd:Nat} {es:EE} {sd:Nat->Nat} {P:List (Option Nat)} {S:Sto} {Q:QE},Sdd n es sd->Cons n es P->Open [st] sd n P->n<=99->es.length<=1000->S[lp]?=some (.lst (optsS P))->(∀(S':Sto),Kp lp S S'->S'[lp]?=some (.lst (optsS (Cz n es P st nd)))->Q .non S')->s [i3 n es,.loc lp,.int st,.int nd] S Q
theorem Oq(hΔ:∀ f,MonoN (Δ f)){kw kc kf ku:Nat}(hw:JD (Δ kw))(hcn:Dg (Δ kc))(hf:A6 (Δ kf))(hu:JE (Δ ku)){D:Df}(hb:D.body=Op kw kc kf ku)(hN:D.N.length=6)(hp:D.ps.length=4):Fx (i8 Δ D):=by
 intro n lp st nd es sd P S Q H K O hn hel hlp q;unfold i8;rw[hb,hN];refine⟨hp.symm,_,rfl,_,rfl,_,rfl,by show 1<=big;decide,?_⟩;refine hw (starts:=[st]) H K O hn hel (f6 hlp) c8 fun lc S1 G1 hl1 h1=>?_;have W:=Hg H K O;have hlp0:=v5 hlp;have ek:Cz n es P st nd=C0 es (CS n es P [st]) P nd ((keys (CS n es P [st])).filter fun q=>!decide (q=st)):=rfl;rw[ek]at q;generalize CS n es P [st]=cm at *;rw[List.length_append,List.length_singleton]at hl1;have K1:Kp lp S S1:=((Gw.refl S).push.trans G1).kp;have hp1:=G1.keep _ _ (f6 (o:=SO.lst [SV.int st]) hlp);have cl:=W.C.len;refine⟨_,rfl,_,_,rfl,h1,fun o ks=>?_⟩;have nlc:lc≠lp:=by omega
 have h2:(S1.set lc (.dcf o ks (camS cm)))[lc]?=some (.dcf o ks (camS cm)):=j7 h1;have hp2:(S1.set lc (.dcf o ks (camS cm)))[lp]?=some (.lst (optsS P)):=by rw[j8 nlc];exact hp1
 have K2:Kp lp S (S1.set lc (.dcf o ks (camS cm))):=⟨by rw[List.length_set];exact K1.len,fun k u hk e=>by
  rw[j8 (fun z=>by have:=v5 e;omega)];exact K1.keep k u hk e⟩
 generalize S1.set lc (.dcf o ks (camS cm))=S2 at *;rw[Oi];refine l9 (i7 hΔ _).2 (a8 hΔ _).1 (fun i ys S3=>S3=S2/\ys=natS (((keys cm).take i).filter fun q=>!decide (q=st))) ⟨rfl,rfl⟩ (fun _ _ _ h=>by rw[h.1];exact h2) ?_ ?_
 ·rintro i x ys S3 hx ⟨rfl,rfl⟩;obtain⟨p,hpi,rfl⟩:=AK hx;have hil:=(gM hpi).1;rw[BM]at hil;have hs:=Hi (P:=fun q=>!decide (q=st)) hpi
  have hlen:(((keys cm).take i).filter fun q=>!decide (q=st)).length<=i:=by
   have:=List.length_filter_le (fun q=>!decide (q=st)) ((keys cm).take i);rw[List.length_take]at this;omega
  refine⟨_,rfl,_,rfl,_,rfl,?_⟩;show if (!((p:Int) == (st:Int)))=true then _ else _
  by_cases h:p=st
  ·rw[if_neg (by simp[h]),List.append_nil]at hs;exact ifF (by simp[h]) ⟨rfl,by rw[hs]⟩
  ·rw[if_pos (by simpa using h)]at hs;refine ifT ?_ ⟨_,rfl,by rw[e6];show _<100000;omega,rfl,by rw[hs,j9];rfl⟩;have:((p:Int) == (st:Int))=false:=by rw[beq_eq_false_iff_ne];exact fun z=>h (Int.natCast_inj.mp z)
   rw[this];rfl
 ·rintro ys S3 ⟨rfl,rfl⟩;rw[e6,List.take_length]
  have hks:∀ q∈(keys cm).filter fun q=>!decide (q=st),q∈keys cm/\q≠st:=fun q hq=>by
   have:=List.mem_filter.mp hq;exact⟨this.1,by simpa using this.2⟩
  generalize (keys cm).filter (fun q=>!decide (q=st))=kl at *;refine⟨_,c5 c8,?_⟩;have hl3:(S3++[SO.lst (natS kl)])[S3.length]?=some (.lst (natS kl)):=c8;have h3:(S3++[SO.lst (natS kl)])[lc]?=some (.dcf o ks (camS cm)):=f6 h2;have hp3:(S3++[SO.lst (natS kl)])[lp]?=some (.lst (optsS P)):=f6 hp2;have K3:Kp lp S (S3++[SO.lst (natS kl)]):=K2.trans ((Gw.refl S3).push).kp;generalize S3++[SO.lst (natS kl)]=S4 at *;refine v9 (j4 hΔ _) (fun i ρ S5=>∃ o5,ρ=[some (i3 n es),some (.loc lp),some (.int st),some (.int nd),some (.loc lc),o5]/\Gw S4 S5/\C0 es cm P nd (kl.drop i)=C0 es cm P nd kl) ⟨none,rfl,Gw.refl S4,rfl⟩ (fun _ _ S5 ⟨_,_,G,_⟩=>(G.keep _ _ hl3).trans hl3.symm) ?_ ?_
  ·rintro i x ρ S5 hx ⟨o5,rfl,G5,e5⟩;obtain⟨p,hpi,rfl⟩:=AK hx;have hil:=(gM hpi).1;obtain⟨hpk,hps⟩:=hks p (List.mem_of_getElem? hpi);have hpn:=W.C.lt p hpk;have hPp:=DF (show p<P.length by rw[K.len];exact hpn);rw[List.drop_eq_getElem_cons hil,(gM hpi).2,C0]at e5;have h5:=G5.keep _ _ h3;have hp5:=G5.keep _ _ hp3;cases hv:P.getD p none with
   | none=>
     rw[hv]at hPp;rw[if_pos hv]at e5;obtain⟨i0,_,T⟩:=Hh H W.C O K hpk (by simpa using hps) hPp;refine⟨_,rfl,_,rfl,_,_,c5 hp5,f8 (i6 hPp),.inl ⟨rfl,_,rfl,ifT rfl ?_⟩⟩;refine⟨_,rfl,_,rfl,_,rfl,_,rfl,hu H W.C O T hp5 (De h5) nlc fun S6 K6 h6=>?_⟩;refine q S6 ((K3.trans G5.kp).trans K6) ?_;rw[<-e5];exact h6
   | some u=>
     rw[hv]at hPp;rw[if_neg (by rw[hv];exact nofun),hv]at e5;refine⟨_,rfl,_,rfl,_,_,c5 hp5,f8 (i6 hPp),.inl ⟨rfl,_,rfl,ifF rfl (m3 ?_)⟩⟩;obtain⟨v,hlv⟩:=Option.isSome_iff_exists.mp (lk_some.mpr hpk)
     obtain⟨t,rfl⟩:∃ t,v=some t:=by
      cases v with
      | some t=>exact⟨t,rfl⟩
      | none=>exact absurd (List.mem_singleton.mp (W.C.st p (EK hlv))) hps
     rw[hlv]at e5;refine⟨_,rfl,_,rfl,_,SV.int u,c5 hp5,f8 (v:=SV.int u) (i6 hPp),_,rfl,_,rfl,_,_,SV.int t,De h5,rfl,by rw[CF,hlv];rfl,_,rfl,?_⟩;show if decide ((u:Int)=(t:Int))=true then _ else _
     refine ifD (fun he=>?_) (fun he=>ifF rfl (m3 ⟨_,rfl,G5,?_⟩))
     ·have he:u=t:=Int.natCast_inj.mp he;subst he;refine⟨_,rfl,_,rfl,hcn (by omega) hpn fun S6 G6=>⟨_,rfl,_,rfl,?_⟩⟩;refine ifD (fun hc=>?_) (fun hc=>m3 ⟨_,rfl,G5.trans G6,?_⟩)
      ·have hc:cntAt es p<nd:=by have:((cntAt es p:Nat):Int)<(nd:Int):=hc;omega
       rw[if_pos ⟨rfl,hc⟩]at e5;have h0:sd p=0:=Hm H W.C K hlv hPp;obtain⟨e,i0,he,hpe,_,T⟩:=FE H W.C O K hlv hPp h0;have h6:=G6.keep _ _ h5;have hp6:=G6.keep _ _ hp5;refine⟨_,rfl,_,rfl,_,_,hp6,Cf (by rw[m9,K.len];exact hpn),?_⟩;have k7:Kp lp S (S6.set lp (.lst ((optsS P).set p (Aj none)))):=((K3.trans G5.kp).trans G6.kp).put;have h7:(S6.set lp (.lst ((optsS P).set p (Aj none))))[lp]?=some (.lst (optsS (P.set p none))):=by rw[j7 hp6,DG]
       have c7:(S6.set lp (.lst ((optsS P).set p (Aj none))))[lc]?=some (.dcf o ks (camS cm)):=by rw[j8 (Ne.symm nlc)];exact h6
       show wSs Δ _ _ _ (S6.set lp (.lst ((optsS P).set p (Aj none))));generalize S6.set lp (.lst ((optsS P).set p (Aj none)))=S7 at *;refine⟨_,rfl,_,rfl,_,rfl,_,rfl,_,rfl,_,rfl,_,_,_,De c7,rfl,by rw[CF,hlv];rfl,_,rfl,hf he hpe ?_⟩;refine hu H W.C O T h7 (De c7) nlc fun S8 K8 h8=>?_;refine q S8 (k7.trans K8) ?_;rw[<-e5];show S8[lp]?=some (.lst (optsS (turn es cm (cm.length+1) (P.set p none) (farE (tieE es u) p))));rw[AU he];exact h8
      ·have hc:¬ cntAt es p<nd:=fun z=>hc (by show((cntAt es p:Nat):Int)<(nd:Int);omega);rw[if_neg (fun z=>hc z.2)]at e5;exact e5
     ·have he:¬ u=t:=fun z=>he (congrArg _ z);rw[if_neg (fun z=>he (oj z.1))]at e5;exact e5
  ·rintro ρ S5 ⟨o5,rfl,G5,e5⟩;rw[e6,List.drop_length]at e5;refine q S5 (K3.trans G5.kp) ?_;rw[<-e5];exact G5.keep _ _ hp3
end
open PySem L2
def w5(p:Nat)(e:Nat×Nat):Bool:=decide (e.1=p)||decide (e.2=p)
theorem endB_iff{p:Nat}{e:Nat×Nat}:w5 p e=true↔(p=e.1\/p=e.2):=by
 unfold w5;simp only[Bool.or_eq_true,decide_eq_true_eq];exact⟨fun h=>h.imp Eq.symm Eq.symm,fun h=>h.imp Eq.symm Eq.symm⟩
theorem Hn(es:EE)(p:Nat):∀ i,i<=es.length->(c9 es p i).length=(es.take i).countP (w5 p)
 | 0,_=>by simp[c9]
 | i+1,h=>by
   have he:es[i]?=some es[i]:=List.getElem?_eq_getElem (by omega);rw[By es p i he,List.length_append,Hn es p i (by omega),List.take_succ,he,List.countP_append];show _+_=_+List.countP (w5 p) [es[i]];rw[List.countP_cons,List.countP_nil];unfold w5;by_cases z:(decide (es[i].1=p)||decide (es[i].2=p))=true
   ·rw[if_pos z,if_pos z];rfl
   ·rw[if_neg z,if_neg z];rfl
theorem EL(es:EE)(p:Nat):cntAt es p=es.countP (w5 p):=by
 unfold cntAt;rw[Hn es p _ (Nat.le_refl _),List.take_length]
theorem Ho(A:List Nat):∀ es:EE,(A.map fun a=>es.countP (w5 a)).sum=(es.map fun e=>A.countP fun a=>w5 a e).sum
 | []=>by
   induction A with
   | nil=>rfl
   | cons a A ih=>simp only[List.map_cons,List.sum_cons,List.countP_nil,List.map_nil,List.sum_nil]at ih ⊢;omega
 | e::es=>by
   rw[List.map_cons,List.sum_cons,<-Ho A es]
   induction A with
   | nil=>rfl
   | cons a A ih=>
     simp only[List.map_cons,List.sum_cons,List.countP_cons]at ih ⊢;omega
theorem Os(f g:Nat×Nat->Nat):∀ es:EE,(∀ e∈es,f e<=g e)->(es.map f).sum<=(es.map g).sum
 | [],_=>Nat.le_refl _
 | e::es,h=>by
   simp only[List.map_cons,List.sum_cons];have h1:=h e (List.mem_cons_self ..);have h2:=Os f g es fun x hx=>h x (List.mem_cons_of_mem _ hx);omega
theorem UK{A:List Nat}{q:Nat->Bool}(nd:A.Nodup)(h:∀ a∈A,∀ b∈A,q a=true->q b=true->a=b):A.countP q<=1:=by
 rw[List.countP_eq_length_filter];have nf:=nd.filter q
 match hf:A.filter q,nf with
 | [],_=>exact Nat.zero_le _
 | [_],_=>exact Nat.le_refl _
 | a::b::r,nf=>
   have ha:=List.mem_filter.mp (hf▸List.mem_cons_self ..:a∈A.filter q);have hb:=List.mem_filter.mp (hf▸List.mem_cons_of_mem _ (List.mem_cons_self ..):b∈A.filter q);have:=h a ha.1 b hb.1 ha.2 hb.2;exact absurd this ((List.pairwise_cons.mp nf).1 b (List.mem_cons_self ..))
theorem Ot{f:Nat->Nat}:∀{l:List Nat},l.Nodup->(∀ a∈l,∀ b∈l,f a=f b->a=b)->(l.map f).Nodup
 | [],_,_=>List.Pairwise.nil
 | a::l,nd,h=>by
   rw[List.nodup_cons]at nd;rw[List.map_cons,List.nodup_cons];refine⟨fun z=>?_,Ot nd.2 fun x hx y hy=>h x (List.mem_cons_of_mem _ hx) y (List.mem_cons_of_mem _ hy)⟩;obtain⟨b,hb,e⟩:=List.mem_map.mp z;exact nd.1 (h a (List.mem_cons_self ..) b (List.mem_cons_of_mem _ hb) e.symm▸hb)
theorem FF{c:Nat}{f:Nat->Nat}:∀{A:List Nat},(∀ a∈A,f a=c)->(A.map f).sum=A.length * c
 | [],_=>by simp
 | a::A,h=>by
   rw[List.map_cons,List.sum_cons,h a (List.mem_cons_self ..),FF fun x hx=>h x (List.mem_cons_of_mem _ hx),List.length_cons,Nat.succ_mul];omega
theorem Hq{c:Nat}{f:Nat->Nat}:∀{A:List Nat},(∀ a∈A,f a<=c)->(A.map f).sum<=A.length * c
 | [],_=>by simp
 | a::A,h=>by
   rw[List.map_cons,List.sum_cons,List.length_cons,Nat.succ_mul];have h1:=h a (List.mem_cons_self ..);have h2:=Hq (f:=f) fun x hx=>h x (List.mem_cons_of_mem _ hx);omega
section
variable{n:Nat}{es:EE}{sd:Nat->Nat}{P:List (Option Nat)}
theorem Ou(H:Sdd n es sd){A B:List Nat}{m:Nat}(nd:A.Nodup)(a0:∀ a∈A,sd a=0)(hA:∀ a∈A,cntAt es a=m)(hB:∀ b∈B,cntAt es b<=m)(hl:∀ e∈es,∀ a∈A,(a=e.1\/a=e.2)->farE e a∈B)(hm:0<m):A.length<=B.length:=by
 have s1:(A.map fun a=>es.countP (w5 a)).sum=A.length * m:=FF fun a ha=>by rw[<-EL];exact hA a ha
 have s2:(B.map fun a=>es.countP (w5 a)).sum<=B.length * m:=Hq fun a ha=>by rw[<-EL];exact hB a ha
 rw[Ho]at s1 s2
 have s3:=Os (fun e=>A.countP fun a=>w5 a e) (fun e=>B.countP fun a=>w5 a e) es fun e he=>by
  have le1:(A.countP fun a=>w5 a e)<=1:=UK nd fun a ha b hb qa qb=>by
   rw[endB_iff]at qa qb;have h1:=a0 a ha;have h2:=a0 b hb;have h3:=H.ne e he;rcases qa with z | z<;>rcases qb with y | y
   ·rw[z,y]
   ·rw[z]at h1;rw[y]at h2;omega
   ·rw[z]at h1;rw[y]at h2;omega
   ·rw[z,y]
  by_cases z:(A.countP fun a=>w5 a e)=0
  ·omega
  ·obtain⟨a,ha,qa⟩:=List.countP_pos_iff.mp (Nat.pos_of_ne_zero z);rw[endB_iff]at qa;have hb:=hl e he a ha qa;have:0<B.countP fun a=>w5 a e:=List.countP_pos_iff.mpr ⟨_,hb,endB_iff.mpr (AJ qa)⟩;omega
 have s4:A.length * m<=B.length * m:=by omega
 exact Nat.le_of_mul_le_mul_right s4 hm
theorem FG(H:Sdd n es sd){s nd:Nat}{cm:Cm}(C:Came n es sd P [s] cm)(O:Open [s] sd n P)(K:Cons n es P):∀{ks:List Nat},(∀ q∈ks,q∈keys cm/\q≠s)->
 (C0 es cm P nd ks=P/\∀ q∈ks,(∃ u,P[q]?=some (some u))/\(P.getD q none=(lk cm q).join->nd<=cntAt es q))\/
 (Cons n es (C0 es cm P nd ks)/\(∃ t,(C0 es cm P nd ks)[s]?=some (some t))/\∀ p t,nd<=cntAt es p->P[p]?=some (some t)->∃ t',(C0 es cm P nd ks)[p]?=some (some t'))
 | [],_ => .inl ⟨rfl,fun _ h=>nomatch h⟩
 | q::ks,h=>by
   obtain⟨hk,hs⟩:=h q (List.mem_cons_self ..);have hql:q<P.length:=by rw[K.len];exact C.lt q hk
   have hPq:=DF hql;unfold C0;by_cases hp:P.getD q none=none
   ·rw[if_pos hp];rw[hp]at hPq;obtain⟨i,hi,T⟩:=Hh H C O K hk (by simpa using hs) hPq;have R:=Ft H C O (f:=cm.length+1) (by omega) T;refine .inr ⟨R.co,?_,fun p t _ ht=>?_⟩
    ·obtain⟨s',hs',t,ht⟩:=R.st;rw[List.mem_singleton.mp hs']at ht;exact⟨t,ht⟩
    ·rcases R.more p with z | z
     ·exact⟨t,by rw[z];exact ht⟩
     ·exact z
   ·rw[if_neg hp]
    obtain⟨u,hu⟩:∃ u,P.getD q none=some u:=by
     cases hv:P.getD q none with
     | none=>exact absurd hv hp
     | some u=>exact⟨u,rfl⟩
    rw[hu]at hPq;by_cases hc:P.getD q none=(lk cm q).join/\cntAt es q<nd
    ·rw[if_pos hc];obtain⟨c1,c2⟩:=hc;rw[hu]at c1
     have hlk:lk cm q=some (some u):=by
      cases hz:lk cm q with
      | none=>rw[hz]at c1;cases c1
      | some v=>rw[hz]at c1;cases v with
        | none=>cases c1
        | some w=>cases c1;rfl
     have h0:=Hm H C K hlk hPq;obtain⟨e,i,he,hqe,hi,T⟩:=FE H C O K hlk hPq h0;have ee:farE (tieE es ((lk cm q).join.getD 0)) q=farE e q:=by rw[hlk];show farE (tieE es u) q=_;rw[AU he]
     rw[ee];have R:=Ft H C O (f:=cm.length+1) (by omega) T;refine .inr ⟨R.co,?_,fun p t hn ht=>?_⟩
     ·obtain⟨s',hs',t,ht⟩:=R.st;rw[List.mem_singleton.mp hs']at ht;exact⟨t,ht⟩
     ·have hpq:p≠q:=fun z=>by rw[z]at hn;omega
      rcases R.more p with z | z
      ·exact⟨t,by rw[z,List.getElem?_set_ne (Ne.symm hpq)];exact ht⟩
      ·exact z
    ·rw[if_neg hc];rcases FG H C O K (nd:=nd) (ks:=ks) fun r hr=>h r (List.mem_cons_of_mem _ hr) with⟨a,b⟩ | z
     ·exact .inl ⟨a,fun r hr=>by
       rcases List.mem_cons.mp hr with rfl | hr
       ·exact⟨⟨u,hPq⟩,fun z=>by
         by_cases y:cntAt es r<nd
         ·exact absurd ⟨z,y⟩ hc
         ·omega⟩
       ·exact b r hr⟩
     ·exact .inr z
theorem JF(H:Sdd n es sd){s m:Nat}(hs:s<n)(h0:sd s=0)(hP:P[s]?=some none)(K:Cons n es P)(hc:cntAt es s=m)(hmx:∀ p,p<n->cntAt es p<=m):
 Cons n es (Cz n es P s m)/\(0<m->∃ t,(Cz n es P s m)[s]?=some (some t))/\∀ p t,cntAt es p=m->P[p]?=some (some t)->∃ t',(Cz n es P s m)[p]?=some (some t'):=by
 have O:Open [s] sd n P:=⟨by simp,fun p hp=>by rw[List.mem_singleton.mp hp];exact⟨hs,h0,hP⟩⟩
 have W:=Hg H K O;unfold Cz;generalize CS n es P [s]=cm at *
 have hks:∀ q∈(keys cm).filter fun q=>!decide (q=s),q∈keys cm/\q≠s:=fun q hq=>by
  have:=List.mem_filter.mp hq;exact⟨this.1,by simpa using this.2⟩
 rcases FG H W.C O K (nd:=m) hks with⟨e,all⟩ | ⟨a,b,c⟩
 ·rw[e];refine⟨K,fun hm=>False.elim ?_,fun p t _ h=>⟨t,h⟩⟩;have all':∀ q∈keys cm,q≠s->(∃ u,P[q]?=some (some u))/\(P.getD q none=(lk cm q).join->m<=cntAt es q):=fun q hq hqs=>all q (List.mem_filter.mpr ⟨hq,by simpa using hqs⟩)
  let A:=(keys cm).filter fun q=>decide (sd q=0)
  let B:=(keys cm).filter fun q=>decide (sd q=1)
  have mA:∀{q},q∈A↔q∈keys cm/\sd q=0:=fun{q}=>by show q∈(keys cm).filter _↔_;rw[List.mem_filter,decide_eq_true_eq]
  have mB:∀{q},q∈B↔q∈keys cm/\sd q=1:=fun{q}=>by show q∈(keys cm).filter _↔_;rw[List.mem_filter,decide_eq_true_eq]
  have ndA:A.Nodup:=W.C.nd.filter _;have ndB:B.Nodup:=W.C.nd.filter _
  have l1:A.length<=B.length:=by
   refine Ou H ndA (fun a ha=>(mA.mp ha).2) (m:=m) (fun a ha=>?_) (fun b hb=>hmx b (W.C.lt b (mB.mp hb).1)) (fun e he a ha hae=>?_) hm
   ·obtain⟨hk,ha0⟩:=mA.mp ha;by_cases z:a=s
    ·rw[z];exact hc
    ·obtain⟨⟨u,hu⟩,hle⟩:=all' a hk z;obtain⟨v,hv⟩:=Option.isSome_iff_exists.mp (lk_some.mpr hk);have h3:=W.C.s0 a v (EK hv) ha0;have:=hle (by rw[hv,KI h3];cases v<;>rfl);have:=hmx a (W.C.lt a hk);omega
   ·obtain⟨hk,ha0⟩:=mA.mp ha;obtain⟨t,ht⟩:=List.getElem?_of_mem he;exact mB.mpr ⟨W.cl a hk ha0 t e ht hae,by have:=(H.far ht hae).2.1;omega⟩
  have l2:B.length+1<=A.length:=by
   have par:∀ b∈B,∃ u e,P[b]?=some (some u)/\es[u]?=some e/\(b=e.1\/b=e.2)/\P[farE e b]?=some (some u):=fun b hb=>by
    obtain⟨hk,h1⟩:=mB.mp hb;obtain⟨⟨u,hu⟩,_⟩:=all' b hk (fun z=>by rw[z]at h1;omega);obtain⟨e,he,hbe,hf⟩:=K.two b u hu;exact⟨u,e,hu,he,hbe,hf⟩
   let f:Nat->Nat:=fun b=>farE (tieE es ((P.getD b none).getD 0)) b
   have fb:∀ b∈B,∃ u e,P[b]?=some (some u)/\es[u]?=some e/\(b=e.1\/b=e.2)/\P[f b]?=some (some u)/\f b=farE e b:=fun b hb=>by
    obtain⟨u,e,h1,h2,h3,h4⟩:=par b hb;have:f b=farE e b:=by show farE (tieE es ((P.getD b none).getD 0)) b=_;rw[KI h1];show farE (tieE es u) b=_;rw[AU h2]
    exact⟨u,e,h1,h2,h3,by rw[this];exact h4,this⟩
   have nd2:(s::B.map f).Nodup:=by
    rw[List.nodup_cons];refine⟨fun z=>?_,?_⟩
    ·obtain⟨b,hb,e⟩:=List.mem_map.mp z;obtain⟨u,_,_,_,_,h4,_⟩:=fb b hb;rw[e,hP]at h4;cases h4
    ·refine Ot ndB fun a ha b hb e=>?_;obtain⟨u,e1,h1,h2,h3,h4,h5⟩:=fb a ha;obtain⟨u',e1',h1',h2',h3',h4',h5'⟩:=fb b hb;rw[<-e,h4]at h4';cases h4';rw[h2]at h2';cases h2';have q1:=(H.far h2 h3).2.2.1;have q2:=(H.far h2 h3').2.2.1;rw[h5,h5']at e;rw[<-q1,<-q2,e]
   have:=Fu nd2 (l2:=A) fun x hx=>by
    rcases List.mem_cons.mp hx with rfl | hx
    ·exact mA.mpr ⟨W.C.hs _ (List.mem_singleton.mpr rfl),h0⟩
    ·obtain⟨b,hb,e⟩:=List.mem_map.mp hx;obtain⟨u,e',h1,h2,h3,h4,h5⟩:=fb b hb;obtain⟨hk,hb1⟩:=mB.mp hb;rw[<-e,h5];exact mA.mpr ⟨W.C.pr b hk hb1 u e' h1 h2,by have:=(H.far h2 h3).2.1;omega⟩
   rw[List.length_cons,List.length_map]at this;exact this
  omega
 ·exact⟨a,fun _=>b,fun p t hp h=>c p t (by omega) h⟩
end
open PySem L2
section
variable{Δ:Nat->Sn}
def KM:List Stm:=[(.ret (.srtsc ["tie"] [] [] (.nm 0) (.seq (.var 0)) (.yes (.cmp .IsNot (.var 0) (.c .non))) (.var 0)))]
def EM(s:Sn):Prop:=∀{lp:Nat} {P:List (Option Nat)} {S:Sto} {Q:QE},S[lp]?=some (.lst (optsS P))->P.length<=60->Q (.loc S.length) (S++[.lst (natS (Af P))])->s [.loc lp] S Q
theorem RD{xs:List (Option Nat)}{i:Nat}{x:SV}(h:(optsS xs)[i]?=some x):∃ v,xs[i]?=some v/\x=Aj v:=by
 unfold optsS at h;rw[List.getElem?_map]at h;cases hx:xs[i]? with
 | none=>rw[hx]at h;cases h
 | some v=>rw[hx]at h;exact⟨v,rfl,(oj h).symm⟩
theorem RE(xs:List Nat):(iN xs).map SV.int=natS xs:=by unfold iN natS;rw[List.map_map];rfl
theorem Ly(hΔ:∀ f,MonoN (Δ f)){D:Df}(hb:D.body=KM)(hN:D.N.length=1)(hp:D.ps.length=1):EM (i8 Δ D):=by
 intro lp P S Q hlp hl q;unfold i8;rw[hb,hN];refine⟨hp.symm,_,rfl,_,c5 hlp,?_⟩
 have len:∀ i,(iN ((P.take i).filterMap id)).length<=60:=fun i=>by
  unfold iN;rw[List.length_map];have:=List.length_filterMap_le id (P.take i);rw[List.length_take]at this;omega
 refine JC (i7 hΔ _).2 (a8 hΔ _).1 (fun i ns S'=>S'=S/\ns=iN ((P.take i).filterMap id)) ⟨rfl,rfl⟩ (fun _ _ _ h=>by rw[h.1];exact rfl) ?_ ?_
 ·rintro i x ns S' hx ⟨rfl,rfl⟩;obtain⟨v,hv,rfl⟩:=RD hx
  have e:(P.take (i+1)).filterMap id=(P.take i).filterMap id++v.toList:=by
   rw[List.take_succ,hv,List.filterMap_append];cases v<;>rfl
  cases v with
  | none=>exact⟨_,rfl,.inl ⟨rfl,_,rfl,ifF rfl ⟨rfl,by rw[e,Option.toList_none,List.append_nil]⟩⟩⟩
  | some t=>
    refine⟨_,rfl,.inl ⟨rfl,_,rfl,ifT rfl ⟨_,rfl,t,rfl,by have:=len i;omega,rfl,?_⟩⟩⟩;rw[e];unfold iN;rw[List.map_append];rfl
 ·rintro ns S' ⟨rfl,rfl⟩;rw[m9,List.take_length];have l:=len P.length;rw[List.take_length]at l;refine⟨by omega,?_⟩;have:srt (CL (iN (P.filterMap id)))=iN (Af P):=Oh P;rw[this,RE];exact q
structure Web2(n:Nat)(es:EE):Prop where
 en:∀ e∈es,e.1<e.2/\e.2<n
 len:es.length<=1000
 few:n<=60
 two:∃ c:Nat->Nat,(∀ p,c p<2)/\∀ e∈es,c e.1≠c e.2
theorem EN:∀ n:Nat,(List.replicate n [SV.non]).flatten=optsS (List.replicate n none)
 | 0=>rfl
 | n+1=>by rw[List.replicate_succ,List.replicate_succ,List.flatten_cons,EN n];rfl
end
open PySem L2
theorem Lz(fs:EE)(k:Nat)(e:Nat×Nat):(fs.map pairS).take k++pairS e::(fs.map pairS).drop k=(fs.take k++e::fs.drop k).map pairS:=by
 rw[List.map_append,List.map_cons,List.map_take,List.map_drop]
theorem RF{fs:EE}{k:Nat}{e:Nat×Nat}{P:Nat×Nat->Prop}(h:∀ f∈fs,P f)(he:P e):∀ f∈fs.take k++e::fs.drop k,P f:=fun f hf=>by
 rcases List.mem_append.mp hf with hf | hf
 ·exact h f (List.mem_of_mem_take hf)
 ·rcases List.mem_cons.mp hf with hf | hf
  ·rw[hf];exact he
  ·exact h f (List.mem_of_mem_drop hf)
theorem RG(fs:EE)(k:Nat)(e:Nat×Nat):(fs.take k++e::fs.drop k).length=fs.length+1:=by
 rw[List.length_append,List.length_cons,List.length_take,List.length_drop];omega
open PySem L2
def t2(kd:Nat):Stm:=(.asg (.nm 2) (.ix (.lst (.cons (.call kd (.cons (.var 0) (.cons (.c (.int 8)) .nil))) (.cons (.op .Add (.c (.int 8)) (.call kd (.cons (.var 0) (.cons (.c (.int 23)) .nil)))) .nil))) (.bi .int (.cons (.var 1) .nil))))
def t3(kd:Nat):Stm:=(.asg (.nm 3) (.comp ["_law_k"] ["_law_tape_here"] [0] (.nm 0) (.rng1 (.var 2)) .no (.call kd (.cons (.var 1) (.cons (.c (.int 2)) .nil)))))
def t4:Stm:=(.asg (.nm 4) (.comp ["_law_k"] ["_law_sides"] [3] (.nm 0) (.rng1 (.var 2)) (.yes (.cmp .Eq (.ix (.var 1) (.var 0)) (.c (.int 0)))) (.var 0)))
def t5:Stm:=(.asg (.nm 5) (.comp ["_law_k"] ["_law_sides"] [3] (.nm 0) (.rng1 (.var 2)) (.yes (.cmp .Eq (.ix (.var 1) (.var 0)) (.c (.int 1)))) (.var 0)))
def t6(kd:Nat):Stm:=(.asg (.nm 6) (.call kd (.cons (.var 0) (.cons (.c (.int 6)) .nil))))
def t7:Stm:=(.asg (.nm 7) (.lst .nil))
def t8a:Stm:=(.iff (.cmp .Eq (.var 6) (.c (.int 0))) [(.loop (.nm 8) (.seq (.var 4)) [(.expr (.mt .extend (.var 7) (.cons (.comp ["_law_other"] ["_law_one"] [8] (.nm 0) (.seq (.var 5)) .no (.tup (.cons (.var 1) (.cons (.var 0) .nil)))) .nil)))])] [])
def t8b:Stm:=(.iff (.cmp .Eq (.var 6) (.c (.int 1))) [(.asg (.nm 7) (.comp ["_law_other"] ["_law_left"] [4] (.nm 0) (.seq (.var 5)) .no (.tup (.cons (.ix (.var 1) (.c (.int 0))) (.cons (.var 0) .nil)))))] [])
def t8c(kd:Nat):Stm:=(.iff (.cmp .Gt (.var 6) (.c (.int 1))) [(.loop (.nm 9) (.rng1 (.call kd (.cons (.var 0) (.cons (.ix (.lst (.cons (.op .Add (.var 2) (.c (.int 2))) (.cons (.op .Mult (.c (.int 3)) (.var 2)) .nil))) (.op .Mod (.var 6) (.c (.int 2)))) .nil)))) [(.expr (.mt .append (.var 7) (.cons (.tup (.cons (.ix (.var 4) (.call kd (.cons (.var 0) (.cons (.bi .len (.cons (.var 4) .nil)) .nil)))) (.cons (.ix (.var 5) (.call kd (.cons (.var 0) (.cons (.bi .len (.cons (.var 5) .nil)) .nil)))) .nil))) .nil)))])] [])
def t8(kd:Nat):Stm:=(.iff (.and (.cmp .NotEq (.var 4) (.lst .nil)) (.cmp .NotEq (.var 5) (.lst .nil))) [t8a,t8b,t8c kd] [])
def t9(kd:Nat):Stm:=(.iff (.and (.cmp .NotEq (.var 7) (.lst .nil)) (.cmp .Eq (.call kd (.cons (.var 0) (.cons (.c (.int 3)) .nil))) (.c (.int 0)))) [(.asg (.nm 7) (.op .Add (.var 7) (.comp ["_law_turn"] ["_law_found","_law_tape_here"] [7,0] (.nm 0) (.rng1 (.op .Add (.c (.int 1)) (.call kd (.cons (.var 0) (.cons (.c (.int 6)) .nil))))) .no (.ix (.var 1) (.call kd (.cons (.var 2) (.cons (.bi .len (.cons (.var 1) .nil)) .nil)))))))] [])
def t10:Stm:=(.asg (.nm 10) (.lst .nil))
def t11(kd:Nat):Stm:=(.loop (.tup (.cons (.nm 8) (.cons (.nm 11) .nil))) (.seq (.slc (.var 7) .no (.yes (.c (.int 90))))) [(.expr (.mt .insert (.var 10) (.cons (.call kd (.cons (.var 0) (.cons (.op .Add (.bi .len (.cons (.var 10) .nil)) (.c (.int 1))) .nil))) (.cons (.tup (.cons (.bi .min (.cons (.var 8) (.cons (.var 11) .nil))) (.cons (.bi .max (.cons (.var 8) (.cons (.var 11) .nil))) .nil))) .nil))))])
def t12:Stm:=(.ret (.tup (.cons (.var 2) (.cons (.bi .tuple (.cons (.var 10) .nil)) .nil))))
def Hr(kd:Nat):List Stm:=[t2 kd,t3 kd,t4,t5,t6 kd,t7,t8 kd,t9 kd,t10,t11 kd,t12]
def Un(n:Nat)(c:Nat->Nat)(fs:EE):Prop:=∀ f∈fs,f.1<n/\f.2<n/\c f.1≠c f.2
theorem Un.app{n:Nat}{c:Nat->Nat}{fs gs:EE}(a:Un n c fs)(b:Un n c gs):Un n c (fs++gs):=fun f hf=>(List.mem_append.mp hf).elim (a f) (b f)
section
variable{Δ:Nat->Sn}{kd:Nat}
theorem Fy(hΔ:∀ f,MonoN (Δ f))(hd:Bx (Δ kd)){t l n:Nat}{c:Nat->Nat}{S0 S:Sto}{fs:EE}{Q:QE}{o1 o3 o4 o5 o6 o8 o9:Option SV}(A:Ah t S0 S l fs)(hf:Un n c fs)(fl:fs.length<=990)
 (q:∀(es:EE) (S':Sto),(∀ e∈es,e.1<e.2/\e.2<n/\c e.1≠c e.2)->es.length<=90->TapeS S' t->On t S0 S'->Q (i3 n es) S'):
 wSs Δ [t10,t11 kd,t12] (Ae Q) [some (.loc t),o1,some (.int n),o3,o4,o5,o6,some (.loc l),o8,o9,none,none] S:=by
 refine⟨by show 0<=big;decide,?_⟩;have A1:=A.push (o:=SO.lst []);have B1:Ah t S0 (S++[SO.lst []]) S.length []:=⟨A.tape.push,A.on.push,c8,A.on.len,A.t0⟩
 have nl:l≠S.length:=Nat.ne_of_lt (v5 A.at');generalize S.length=lk' at *;generalize S++[SO.lst []]=S1 at *;refine⟨_,rfl,_,rfl,_,A1.at',_,c5 c8,?_⟩
 have ec:Fd (fs.map pairS) none (some 90)=((fs.drop (HT.sIx (fs.map pairS).length 0 none)).take (HT.sIx (fs.map pairS).length (fs.map pairS).length (some 90) - HT.sIx (fs.map pairS).length 0 none)).map pairS:=by
  unfold Fd;rw[List.map_take,List.map_drop]
 have gm:∀ f∈(fs.drop (HT.sIx (fs.map pairS).length 0 none)).take (HT.sIx (fs.map pairS).length (fs.map pairS).length (some 90) - HT.sIx (fs.map pairS).length 0 none),f∈fs:=fun f h=>List.mem_of_mem_drop (List.mem_of_mem_take h)
 have gl:((fs.drop (HT.sIx (fs.map pairS).length 0 none)).take (HT.sIx (fs.map pairS).length (fs.map pairS).length (some 90) - HT.sIx (fs.map pairS).length 0 none)).length<=90:=by
  have:=HT.sIx_nat (fs.map pairS).length (fs.map pairS).length 90;have e:HT.sIx (fs.map pairS).length (fs.map pairS).length (some 90)=min 90 (fs.map pairS).length:=this;rw[List.length_take,List.length_drop,e];omega
 rw[ec];generalize (fs.drop (HT.sIx (fs.map pairS).length 0 none)).take (HT.sIx (fs.map pairS).length (fs.map pairS).length (some 90) - HT.sIx (fs.map pairS).length 0 none)=gs at *;have hg:(S1++[SO.lst (gs.map pairS)])[S1.length]?=some (.lst (gs.map pairS)):=c8;have B2:=B1.push (o:=SO.lst (gs.map pairS));have ng:S1.length≠t:=by have:=A1.tape.lt;omega
 have ng2:S1.length≠lk':=by have:=v5 B1.at';omega
 generalize S1.length=lg at *;generalize S1++[SO.lst (gs.map pairS)]=S2 at *;refine v9 (j4 hΔ _) (fun i ρ S3=>∃(es:EE) (o8 o11:Option SV),ρ=[some (.loc t),o1,some (.int n),o3,o4,o5,o6,some (.loc l),o8,o9,some (.loc lk'),o11]/\Ah t S0 S3 lk' es/\S3[lg]?=some (.lst (gs.map pairS))/\(∀ e∈es,e.1<e.2/\e.2<n/\c e.1≠c e.2)/\es.length=i) ⟨[],o8,none,rfl,B2,hg,(fun _ h=>nomatch h),rfl⟩ (fun _ _ S3 ⟨_,_,_,_,_,h,_⟩=>h.trans hg.symm) ?_ ?_
 ·rintro i x ρ S3 hx ⟨es,p8,p11,rfl,A3,h3,he,el⟩;obtain⟨f,hfi,rfl⟩:=At hx;have hil:=(gM hfi).1;obtain⟨u1,u2,u3⟩:=hf f (gm f (List.mem_of_getElem? hfi));have une:f.1≠f.2:=fun z=>u3 (by rw[z]);refine⟨_,rfl,⟨_,_,rfl,A3.at'⟩,_,rfl,_,rfl,_,c5 A3.at',hd A3.tape (by omega) (by rw[List.length_map];omega) fun r S4 r0 r1 T4 O4 _=>?_⟩;have A4:=A3.draw T4 O4;rw[List.length_map]at r1;refine⟨_,rfl,_,rfl,_,rfl,_,rfl,by show 2<=big;decide,?_⟩;refine⟨_,A4.at',⟨r0,by rw[List.length_map];omega⟩,by rw[List.length_map];show _<100000;omega,?_⟩
  have key:∀ z1 z2:Int,z1=((min f.1 f.2:Nat):Int)->z2=((max f.1 f.2:Nat):Int)->∃(es':EE) (o8 o11:Option SV),([some (.loc t),o1,some (.int n),o3,o4,o5,o6,some (.loc l),some (.int f.1),o9,some (.loc lk'),some (.int f.2)]:EnvS)=[some (.loc t),o1,some (.int n),o3,o4,o5,o6,some (.loc l),o8,o9,some (.loc lk'),o11]/\Ah t S0 (S4.set lk' (.lst ((es.map pairS).take r.toNat ++ .tup [.int z1,.int z2]::(es.map pairS).drop r.toNat))) lk' es'/\(S4.set lk' (.lst ((es.map pairS).take r.toNat ++ .tup [.int z1,.int z2]::(es.map pairS).drop r.toNat)))[lg]?=some (.lst (gs.map pairS))/\(∀ e∈es',e.1<e.2/\e.2<n/\c e.1≠c e.2)/\es'.length=i+1:=by
   rintro _ _ rfl rfl;have ip:(es.map pairS).take r.toNat++SV.tup [.int ((min f.1 f.2:Nat):Int),.int ((max f.1 f.2:Nat):Int)]::(es.map pairS).drop r.toNat=(es.take r.toNat++(min f.1 f.2,max f.1 f.2)::es.drop r.toNat).map pairS:=Lz es r.toNat (min f.1 f.2,max f.1 f.2);rw[ip];refine⟨_,_,_,rfl,A4.put,by rw[j8 (Ne.symm ng2)];exact O4.keep _ _ ng h3,RF he ⟨by show min f.1 f.2<max f.1 f.2;omega,by show max f.1 f.2<n;omega,?_⟩,by rw[RG,el]⟩;show c (min f.1 f.2)≠c (max f.1 f.2);rcases Nat.le_total f.1 f.2 with z | z
   ·rw[Nat.min_eq_left z,Nat.max_eq_right z];exact u3
   ·rw[Nat.min_eq_right z,Nat.max_eq_left z];exact Ne.symm u3
  exact key _ _ (Qy _ _) (Qz _ _)
 ·rintro ρ S3 ⟨es,p8,p11,rfl,A3,h3,he,el⟩;rw[List.length_map]at el;exact⟨_,rfl,_,rfl,_,c5 A3.at',by show 2<=big;decide,q es S3 he (by omega) A3.tape A3.on⟩
theorem Fz(hΔ:∀ f,MonoN (Δ f))(hd:Bx (Δ kd)){t l n:Nat}{c:Nat->Nat}{S0 S:Sto}{fs:EE}{Q:QE}{o1 o3 o4 o5 o6 o8 o9:Option SV}(A:Ah t S0 S l fs)(hf:Un n c fs)(fl:fs.length<=980)
 (q:∀(es:EE) (S':Sto),(∀ e∈es,e.1<e.2/\e.2<n/\c e.1≠c e.2)->es.length<=90->TapeS S' t->On t S0 S'->Q (i3 n es) S'):
 wSs Δ [t9 kd,t10,t11 kd,t12] (Ae Q) [some (.loc t),o1,some (.int n),o3,o4,o5,o6,some (.loc l),o8,o9,none,none] S:=by
 refine⟨_,rfl,by show 0<=big;decide,?_⟩;have A1:=A.push (o:=SO.lst []);refine⟨_,_,A1.at',c8,.inr (.inr rfl),_,rfl,?_⟩;rw[EF];refine ifB (fun h1=>?_) (fun h1=>ifF rfl (m3 (Fy hΔ hd A1 hf (by omega) q)))
 have hpos:0<fs.length:=by
  cases fs with
  | nil=>cases h1
  | cons _ _=>simp
 refine⟨_,rfl,hd A1.tape (by decide) (by decide) fun r S2 r0 r1 T2 O2 _=>⟨_,rfl,?_⟩⟩;have A2:=A1.draw T2 O2;refine ifD (fun _=>?_) (fun _=>m3 (Fy hΔ hd A2 hf (by omega) q));refine⟨_,rfl,_,rfl,hd A2.tape (by decide) (by decide) fun r3 S3 a0 a1 T3 O3 _=>⟨_,rfl,⟨by omega,by omega⟩,?_⟩⟩;have A3:=A2.draw T3 O3;refine l9 (i7 hΔ _).2 (a8 hΔ _).1 (fun i ys S4=>Ah t S0 S4 l fs/\∃ gs:EE,ys=gs.map pairS/\(∀ e∈gs,e∈fs)/\gs.length=i) ⟨A3,[],rfl,(fun _ h=>nomatch h),rfl⟩ (fun _ _ _ _=>trivial) ?_ ?_
 ·rintro i x ys S4 hx ⟨A4,gs,rfl,hg,gl⟩;obtain⟨rfl,hi⟩:=AT hx;refine⟨_,rfl,_,rfl,_,rfl,_,c5 A4.at',hd A4.tape (by rw[List.length_map];omega) (by rw[List.length_map];omega) fun r5 S5 b0 b1 T5 O5 _=>?_⟩;have A5:=A4.draw T5 O5;rw[List.length_map]at b1;have hr:r5.toNat<fs.length:=by omega
  refine⟨_,pairS fs[r5.toNat],c5 A5.at',?_,by rw[List.length_map];show _<100000;omega,A5,gs++[fs[r5.toNat]],?_,fun e h=>?_,by simp[gl]⟩
  ·have:=f8 (xs:=fs.map pairS) (j:=r5.toNat) (v:=pairS fs[r5.toNat]) (by rw[List.getElem?_map,List.getElem?_eq_getElem hr];rfl)
   rwa [Int.toNat_of_nonneg b0]at this
  ·rw[List.map_append];rfl
  ·rcases List.mem_append.mp h with h | h
   ·exact hg e h
   ·rw[List.mem_singleton.mp h];exact List.getElem_mem hr
 ·rintro ys S4 ⟨A4,gs,rfl,hg,gl⟩;rw[B4]at gl;have A5:=A4.push (o := .lst (gs.map pairS));refine⟨_,_,A5.at',c8,by simp;show _<=100000;omega,?_⟩;rw[<-List.map_append];refine Fy hΔ hd (fs:=fs++gs) ⟨A5.tape.push,A5.on.push,c8,A5.on.len,A.t0⟩ (hf.app fun e he=>hf e (hg e he)) (by rw[List.length_append];omega) q
structure Lr(n:Nat)(c:Nat->Nat)(ls rs:List Nat):Prop where
 l:∀ a∈ls,a<n/\c a=0
 r:∀ b∈rs,b<n/\c b=1
 ll:ls.length<=31
 rl:rs.length<=31
theorem Vo(hΔ:∀ f,MonoN (Δ f)){t l l4 l5 n:Nat}{w:Int}{c:Nat->Nat}{ls rs:List Nat}{S0 S:Sto}{D:EndsS}{rest:List Stm}{o1 o2 o3 o8 o9:Option SV}(A:Ah t S0 S l [])(L:Lr n c ls rs)(h4:S0[l4]?=some (.lst (natS ls)))(h5:S0[l5]?=some (.lst (natS rs)))(n4:l4≠t)(n5:l5≠t)
 (q:∀(fs:EE) (o8:Option SV) (S':Sto),Ah t S0 S' l fs->Un n c fs->fs.length<=961->wSs Δ rest D [some (.loc t),o1,o2,o3,some (.loc l4),some (.loc l5),some (.int w),some (.loc l),o8,o9,none,none] S'):
 wSs Δ (t8a::rest) D [some (.loc t),o1,o2,o3,some (.loc l4),some (.loc l5),some (.int w),some (.loc l),o8,o9,none,none] S:=by
 refine⟨_,rfl,_,rfl,ifD (fun h=>?_) (fun h=>m3 (q [] _ S A (fun _ h=>nomatch h) (by simp)))⟩;have e4:=A.on.keep _ _ n4 h4;refine⟨_,rfl,_,c5 e4,?_⟩;refine v9 (j4 hΔ _) (fun i ρ S'=>∃(fs:EE) (o8:Option SV),ρ=[some (.loc t),o1,o2,o3,some (.loc l4),some (.loc l5),some (.int w),some (.loc l),o8,o9,none,none]/\Ah t S0 S' l fs/\Un n c fs/\fs.length<=31 * i) ⟨[],o8,rfl,A,(fun _ h=>nomatch h),by simp⟩ (fun _ _ S' ⟨_,_,_,A',_⟩=>(A'.on.keep _ _ n4 h4).trans e4.symm) ?_ ?_
 ·rintro i x ρ S2 hx ⟨fs,p8,rfl,A2,hf,fl⟩;obtain⟨a,ha,rfl⟩:=AK hx;have hil:=(gM ha).1;obtain⟨a1,a2⟩:=L.l a (List.mem_of_getElem? ha);have ll:=L.ll;have rl:=L.rl;have e5:=A2.on.keep _ _ n5 h5;refine⟨_,rfl,⟨_,_,rfl,A2.at'⟩,_,rfl,_,c5 e5,?_⟩;refine l9 (i7 hΔ _).2 (a8 hΔ _).1 (fun j ys S3=>S3=S2/\ys=((rs.take j).map fun b=>(a,b)).map pairS) ⟨rfl,rfl⟩ (fun _ _ _ h=>by rw[h.1];exact rfl) ?_ ?_
  ·rintro j y ys S3 hy ⟨rfl,rfl⟩;obtain⟨b,hb,rfl⟩:=AK hy;have hjl:=(gM hb).1;refine⟨_,rfl,_,rfl,by show 2<=big;decide,by rw[List.length_map,List.length_map,List.length_take];show _<100000;omega,rfl,?_⟩;rw[List.take_succ,hb,List.map_append,List.map_append];rfl
  ·rintro ys S3 ⟨rfl,rfl⟩;rw[e6,List.take_length];have A3:=A2.push (o:=SO.lst ((rs.map fun b=>(a,b)).map pairS));refine⟨_,_,A3.at',c8,by rw[List.length_map,List.length_map,List.length_map];show _<=100000;omega,?_⟩;rw[<-List.map_append];refine⟨_,_,rfl,A3.put,hf.app fun f hf'=>?_,by rw[List.length_append,List.length_map];omega⟩;obtain⟨b,hb,rfl⟩:=List.mem_map.mp hf';obtain⟨b1,b2⟩:=L.r b hb;exact⟨a1,b1,by show c a≠c b;omega⟩
 ·rintro ρ S2 ⟨fs,p8,rfl,A2,hf,fl⟩;rw[e6]at fl;have ll:=L.ll;exact q fs _ S2 A2 hf (by omega)
theorem Vp(hΔ:∀ f,MonoN (Δ f)){t l l4 l5 n:Nat}{w:Int}{c:Nat->Nat}{ls rs:List Nat}{S0 S:Sto}{D:EndsS}{rest:List Stm}{fs:EE}{o1 o2 o3 o8 o9:Option SV}(A:Ah t S0 S l fs)(hf:Un n c fs)(fl:fs.length<=961)(L:Lr n c ls rs)(h4:S0[l4]?=some (.lst (natS ls)))(h5:S0[l5]?=some (.lst (natS rs)))(n4:l4≠t)(n5:l5≠t)(hp:0<ls.length)
 (q:∀(l:Nat) (fs:EE) (S':Sto),Ah t S0 S' l fs->Un n c fs->fs.length<=961->wSs Δ rest D [some (.loc t),o1,o2,o3,some (.loc l4),some (.loc l5),some (.int w),some (.loc l),o8,o9,none,none] S'):
 wSs Δ (t8b::rest) D [some (.loc t),o1,o2,o3,some (.loc l4),some (.loc l5),some (.int w),some (.loc l),o8,o9,none,none] S:=by
 refine⟨_,rfl,_,rfl,ifD (fun h=>?_) (fun h=>m3 (q l fs S A hf fl))⟩;have e4:=A.on.keep _ _ n4 h4;have e5:=A.on.keep _ _ n5 h5;have rl:=L.rl;have g0:=List.getElem?_eq_getElem hp;obtain⟨a1,a2⟩:=L.l _ (List.mem_of_getElem? g0);generalize ls[0]=a at *;refine⟨_,rfl,_,c5 e5,?_⟩;refine l9 (i7 hΔ _).2 (a8 hΔ _).1 (fun j ys S3=>S3=S/\ys=((rs.take j).map fun b=>(a,b)).map pairS) ⟨rfl,rfl⟩ (fun _ _ _ h=>by rw[h.1];exact rfl) ?_ ?_
 ·rintro j y ys S3 hy ⟨rfl,rfl⟩;obtain⟨b,hb,rfl⟩:=AK hy;have hjl:=(gM hb).1;refine⟨_,rfl,_,_,c5 e4,f8 (j:=0) (AZ g0),_,rfl,by show 2<=big;decide,by rw[List.length_map,List.length_map,List.length_take];show _<100000;omega,rfl,?_⟩;rw[List.take_succ,hb,List.map_append,List.map_append];rfl
 ·rintro ys S3 ⟨rfl,rfl⟩;rw[e6,List.take_length];refine q _ (rs.map fun b=>(a,b)) _ ⟨A.tape.push,A.on.push,c8,A.on.len,A.t0⟩ (fun f hf'=>?_) (by rw[List.length_map];omega);obtain⟨b,hb,rfl⟩:=List.mem_map.mp hf';obtain⟨b1,b2⟩:=L.r b hb;exact⟨a1,b1,by show c a≠c b;omega⟩
end
open PySem L2
section
variable{Δ:Nat->Sn}{kd:Nat}
theorem Ov{xs:List Nat}{r:Int}(r0:0<=r)(h:r.toNat<xs.length):atI (natS xs) r=some (.int (xs[r.toNat]:Nat)):=by
 have:=f8 (xs:=natS xs) (j:=r.toNat) (v := .int (xs[r.toNat]:Nat)) (AZ (List.getElem?_eq_getElem h))
 rwa [Int.toNat_of_nonneg r0]at this
theorem SH(hΔ:∀ f,MonoN (Δ f))(hd:Bx (Δ kd)){t l l4 l5 n:Nat}{w:Int}{c:Nat->Nat}{ls rs:List Nat}{S0 S:Sto}{D:EndsS}{fs:EE}{o1 o3 o8 o9:Option SV}(A:Ah t S0 S l fs)(hf:Un n c fs)(fl:fs.length<=961)(he:1<w->fs=[])(L:Lr n c ls rs)(h4:S0[l4]?=some (.lst (natS ls)))(h5:S0[l5]?=some (.lst (natS rs)))(n4:l4≠t)(n5:l5≠t)(hp:0<ls.length)(hp2:0<rs.length)(hn:n<=31)
 (q:∀(o9:Option SV) (fs:EE) (S':Sto),Ah t S0 S' l fs->Un n c fs->fs.length<=961->D.nx [some (.loc t),o1,some (.int n),o3,some (.loc l4),some (.loc l5),some (.int w),some (.loc l),o8,o9,none,none] S'):
 wSs Δ [t8c kd] D [some (.loc t),o1,some (.int n),o3,some (.loc l4),some (.loc l5),some (.int w),some (.loc l),o8,o9,none,none] S:=by
 refine⟨_,rfl,_,rfl,ifD (fun h=>?_) (fun h=>m3 (q _ fs S A hf fl))⟩;have h:1<w:=h;obtain rfl:=he h;have n0:0<n:=by obtain⟨a1,_⟩:=L.l _ (List.getElem_mem hp);omega
 refine⟨_,rfl,_,rfl,_,rfl,.inl ⟨by decide,by decide⟩,by show 2<=big;decide,_,rfl,show(0:Int)<2 by decide,?_⟩;have A1:=A.push (o:=SO.lst [SV.int ((n:Int)+2),SV.int (3 * (n:Int))])
 have hm:∃ m:Int,atI [SV.int ((n:Int)+2),SV.int (3 * (n:Int))] (w % 2)=some (.int m)/\0<m/\m<=93:=by
  have:w % 2=0\/w % 2=1:=by omega
  rcases this with z | z
  ·rw[z];exact⟨(n:Int)+2,rfl,by omega,by omega⟩
  ·rw[z];exact⟨3 * (n:Int),rfl,by omega,by omega⟩
 obtain⟨m,em,m0,m1⟩:=hm;refine⟨_,SV.int m,c5 c8,em,?_⟩;generalize S++[SO.lst [SV.int ((n:Int)+2),SV.int (3 * (n:Int))]]=S1 at *;refine hd A1.tape m0 (by omega) fun r S2 r0 r1 T2 O2 _=>⟨_,rfl,⟨by omega,by omega⟩,?_⟩
 refine v9 (j4 hΔ _) (fun i ρ S'=>∃(fs:EE) (o9:Option SV),ρ=[some (.loc t),o1,some (.int n),o3,some (.loc l4),some (.loc l5),some (.int w),some (.loc l),o8,o9,none,none]/\Ah t S0 S' l fs/\Un n c fs/\fs.length=i) ⟨[],o9,rfl,A1.draw T2 O2,(fun _ h=>nomatch h),rfl⟩ (fun _ _ _ _=>trivial) ?_ ?_
 ·rintro i x ρ S3 hx ⟨fs,p9,rfl,A3,hf3,fl3⟩;obtain⟨rfl,hi⟩:=AT hx;have ll:=L.ll;have rl:=L.rl;have e4:=A3.on.keep _ _ n4 h4;refine⟨_,rfl,⟨_,_,rfl,A3.at'⟩,_,rfl,_,rfl,_,rfl,_,c5 e4,hd A3.tape (by rw[e6];omega) (by rw[e6];omega) fun a S4 a0 a1 T4 O4 _=>?_⟩;have A4:=A3.draw T4 O4;rw[e6]at a1;have ha:a.toNat<ls.length:=by omega
  refine⟨_,SV.int (ls[a.toNat]:Nat),c5 (A4.on.keep _ _ n4 h4),Ov a0 ha,_,rfl,_,rfl,_,rfl,_,c5 (A4.on.keep _ _ n5 h5),hd A4.tape (by rw[e6];omega) (by rw[e6];omega) fun b S5 b0 b1 T5 O5 _=>?_⟩;have A5:=A4.draw T5 O5;rw[e6]at b1;have hb:b.toNat<rs.length:=by omega
  refine⟨_,SV.int (rs[b.toNat]:Nat),c5 (A5.on.keep _ _ n5 h5),Ov b0 hb,by show 2<=big;decide,_,A5.at',by rw[List.length_map];show _<100000;omega,?_⟩;obtain⟨u1,u2⟩:=L.l _ (List.getElem_mem ha);obtain⟨v1,v2⟩:=L.r _ (List.getElem_mem hb);have e1:fs.map pairS++[SV.tup [.int (ls[a.toNat]:Nat),.int (rs[b.toNat]:Nat)]]=(fs++[(ls[a.toNat],rs[b.toNat])]).map pairS:=by rw[List.map_append];rfl
  rw[e1];refine⟨_,_,rfl,A5.put,hf3.app fun f hf'=>?_,by rw[List.length_append,fl3];rfl⟩;rw[List.mem_singleton.mp hf'];exact⟨u1,v1,by show c ls[a.toNat]≠c rs[b.toNat];omega⟩
 ·rintro ρ S3 ⟨fs,p9,rfl,A3,hf3,fl3⟩;rw[B4]at fl3;exact q _ fs S3 A3 hf3 (by omega)
theorem RH(hΔ:∀ f,MonoN (Δ f))(hd:Bx (Δ kd)){t l4 l5 n:Nat}{c:Nat->Nat}{ls rs:List Nat}{S0:Sto}{Q:QE}{o1 o3:Option SV}(T:TapeS S0 t)(L:Lr n c ls rs)(h4:S0[l4]?=some (.lst (natS ls)))(h5:S0[l5]?=some (.lst (natS rs)))(n4:l4≠t)(n5:l5≠t)(hn:n<=31)
 (q:∀(es:EE) (S':Sto),(∀ e∈es,e.1<e.2/\e.2<n/\c e.1≠c e.2)->es.length<=90->TapeS S' t->On t S0 S'->Q (i3 n es) S'):
 wSs Δ [t6 kd,t7,t8 kd,t9 kd,t10,t11 kd,t12] (Ae Q) [some (.loc t),o1,some (.int n),o3,some (.loc l4),some (.loc l5),none,none,none,none,none,none] S0:=by
 refine⟨_,rfl,hd T (by decide) (by decide) fun w S1 w0 w1 T1 O1 _=>?_⟩;refine⟨by show 0<=big;decide,?_⟩;have A1:Ah t S0 (S1++[SO.lst []]) S1.length []:=⟨T1.push,O1.push,c8,O1.len,T.lt⟩
 generalize S1.length=l at *;generalize S1++[SO.lst []]=S2 at *;have stay:∀ S,Ah t S0 S l []->wSs Δ [t9 kd,t10,t11 kd,t12] (Ae Q) [some (.loc t),o1,some (.int n),o3,some (.loc l4),some (.loc l5),some (.int w),some (.loc l),none,none,none,none] S:=fun S A=>Fz hΔ hd A (fun _ h=>nomatch h) (by simp) q;refine⟨_,rfl,by show 0<=big;decide,?_⟩;have A2:=A1.push (o:=SO.lst []);refine⟨_,_,A2.on.keep _ _ n4 h4,c8,.inr (.inr rfl),_,rfl,?_⟩;rw[EF];refine ifB (fun h1=>?_) (fun h1=>ifF rfl (m3 (stay _ A2)))
 have hp:0<ls.length:=by
  cases ls with
  | nil=>cases h1
  | cons _ _=>simp
 refine⟨_,rfl,by show 0<=big;decide,?_⟩;have A3:=A2.push (o:=SO.lst []);refine⟨_,_,A3.on.keep _ _ n5 h5,c8,.inr (.inr rfl),_,rfl,?_⟩;rw[EF];refine ifB (fun h2=>?_) (fun h2=>m3 (stay _ A3))
 have hp2:0<rs.length:=by
  cases rs with
  | nil=>cases h2
  | cons _ _=>simp
 by_cases hw:1<w
 ·
  refine⟨_,rfl,_,rfl,ifF (decide_eq_false (by omega)) (m3 ?_)⟩;refine⟨_,rfl,_,rfl,ifF (decide_eq_false (by omega)) (m3 ?_)⟩;exact SH hΔ hd A3 (fun _ h=>nomatch h) (by simp) (fun _=>rfl) L h4 h5 n4 n5 hp hp2 hn fun o9 fs S' A' hf fl=>Fz hΔ hd A' hf (by omega) q
 ·refine Vo (rest:=[t8b,t8c kd]) hΔ A3 L h4 h5 n4 n5 fun fs o8 S' A' hf fl=>?_;refine Vp (rest:=[t8c kd]) hΔ A' hf fl L h4 h5 n4 n5 hp fun l' fs' S'' A'' hf' fl'=>?_;exact SH hΔ hd A'' hf' fl' (fun z=>absurd z hw) L h4 h5 n4 n5 hp hp2 hn fun o9 fs S' A' hf fl=>Fz hΔ hd A' hf (by omega) q
def BN(s:Sn):Prop:=∀{t:Nat} {g:Bool} {S:Sto} {Q:QE},TapeS S t->(∀(n:Nat) (es:EE) (S':Sto),Web2 n es->n<=31->es.length<=90->TapeS S' t->On t S S'->Q (i3 n es) S')->s [.loc t,.bl g] S Q
theorem M5(f:Nat->Bool)(i:Nat):(List.range (i+1)).filter f=(List.range i).filter f++if f i=true then [i] else []:=by
 rw[List.range_succ,List.filter_append]
 congr 1
 rw[List.filter_cons];rfl
theorem EO(f:Nat->Bool)(i:Nat):((List.range i).filter f).length<=i:=by
 have:=List.length_filter_le f (List.range i)
 rwa [List.length_range]at this
theorem FH(hΔ:∀ f,MonoN (Δ f)){l3 n:Nat}{v:Nat}{cs:List Nat}{S:Sto}{ρ:EnvS}{Q:List SV->Sto->Prop}(h3:S[l3]?=some (.lst (natS cs)))(hl:cs.length=n)(hn:n<=31)(hρ:ρ=[none,some (.loc l3)])
 (q:Q (natS ((List.range n).filter fun k=>decide (cs.getD k 0=v))) S):w9 (fun _=>True) (.nm 0) (wEo Δ (.yes (.cmp .Eq (.ix (.var 1) (.var 0)) (.c (.int v))))).2 (wEx Δ (.var 0)).1 ρ Q (CN 0 (n:Int)) [] S:=by
 subst hρ;refine l9 (i7 hΔ _).2 (a8 hΔ _).1 (fun i ys S2=>S2=S/\ys=natS ((List.range i).filter fun k=>decide (cs.getD k 0=v))) ⟨rfl,rfl⟩ (fun _ _ _ _=>trivial) ?_ ?_
 ·rintro i x ys S2 hx ⟨rfl,rfl⟩;obtain⟨rfl,hi⟩:=AT hx;rw[Int.zero_add]at hi ⊢;have hil:i<cs.length:=by omega
  have hs:=M5 (fun k=>decide (cs.getD k 0=v)) i;have hlen:=EO (fun k=>decide (cs.getD k 0=v)) i;have hg:cs.getD i 0=cs[i]:=by rw[List.getD_eq_getElem?_getD,List.getElem?_eq_getElem hil];rfl
  refine⟨_,rfl,_,rfl,_,SV.int (cs[i]:Nat),c5 h3,f8 (AZ (List.getElem?_eq_getElem hil)),_,rfl,?_⟩;refine ifD (fun h=>?_) (fun h=>?_)
  ·have h:cs[i]=v:=by have:((cs[i]:Nat):Int)=(v:Int):=h;omega
   rw[if_pos (decide_eq_true (hg.trans h))]at hs;exact⟨_,rfl,by rw[e6];show _<100000;omega,rfl,by rw[hs,j9];rfl⟩
  ·have h:¬ cs[i]=v:=fun z=>h (by show((cs[i]:Nat):Int)=(v:Int);omega);rw[if_neg (by simp only[hg];simpa using h),List.append_nil]at hs;exact⟨rfl,by rw[hs]⟩
 ·rintro ys S2 ⟨rfl,rfl⟩;rw[B4,show((n:Int) - 0).toNat=n by omega];exact q
theorem Ow(hΔ:∀ f,MonoN (Δ f))(hd:Bx (Δ kd)){t n:Nat}{S0 S:Sto}{Q:QE}{o1:Option SV}(T:TapeS S t)(O:On t S0 S)(hn:n<=31)
 (q:∀(es:EE) (S':Sto),Web2 n es->es.length<=90->TapeS S' t->On t S0 S'->Q (i3 n es) S'):
 wSs Δ [t3 kd,t4,t5,t6 kd,t7,t8 kd,t9 kd,t10,t11 kd,t12] (Ae Q) [some (.loc t),o1,some (.int n),none,none,none,none,none,none,none,none,none] S:=by
 refine⟨_,rfl,_,rfl,⟨by omega,by omega⟩,?_⟩;refine l9 (i7 hΔ _).2 (a8 hΔ _).1 (fun i ys S2=>TapeS S2 t/\On t S0 S2/\∃ cs:List Nat,ys=natS cs/\cs.length=i/\∀ v∈cs,v<2) ⟨T,O,[],rfl,rfl,(fun _ h=>nomatch h)⟩ (fun _ _ _ _=>trivial) ?_ ?_
 ·rintro i x ys S2 hx ⟨T2,O2,cs,rfl,cl,c2⟩;obtain⟨rfl,hi⟩:=AT hx;refine⟨_,rfl,hd T2 (by decide) (by decide) fun r S3 r0 r1 T3 O3 _=>⟨by rw[e6];show _<100000;omega,T3,O2.trans O3,cs++[r.toNat],?_,by rw[List.length_append,cl];rfl,fun v hv=>?_⟩⟩
  ·rw[j9];have:(r.toNat:Int)=r:=Int.toNat_of_nonneg r0;show _=natS cs++[SV.int (r.toNat:Int)];rw[this]
  ·rcases List.mem_append.mp hv with hv | hv
   ·exact c2 v hv
   ·rw[List.mem_singleton.mp hv];omega
 ·rintro ys S2 ⟨T2,O2,cs,rfl,cl,c2⟩;rw[B4,show((n:Int) - 0).toNat=n by omega]at cl
  have c2':∀ p,cs.getD p 0<2:=fun p=>by
   rw[List.getD_eq_getElem?_getD];cases hp:cs[p]? with
   | none=>show 0<2;omega
   | some v=>exact c2 v (List.mem_of_getElem? hp)
  have T3:=T2.push (o:=SO.lst (natS cs));have O3:=O2.push (o:=SO.lst (natS cs));have h3:(S2++[SO.lst (natS cs)])[S2.length]?=some (.lst (natS cs)):=c8;have n3:S2.length≠t:=by have:=T2.lt;omega
  generalize S2.length=l3 at *;generalize S2++[SO.lst (natS cs)]=S3 at *;refine⟨_,rfl,_,rfl,⟨by omega,by omega⟩,?_⟩;refine FH (v:=0) hΔ h3 cl hn rfl ?_;have T4:=T3.push (o:=SO.lst (natS ((List.range n).filter fun k=>decide (cs.getD k 0=0))));have O4:=O3.push (o:=SO.lst (natS ((List.range n).filter fun k=>decide (cs.getD k 0=0))));have h4:(S3++[SO.lst (natS ((List.range n).filter fun k=>decide (cs.getD k 0=0)))])[S3.length]?=some (.lst (natS ((List.range n).filter fun k=>decide (cs.getD k 0=0)))):=c8;have h34:=f6 (o:=SO.lst (natS ((List.range n).filter fun k=>decide (cs.getD k 0=0)))) h3;have n4:S3.length≠t:=by have:=T3.lt;omega
  generalize S3.length=l4 at *;generalize S3++[SO.lst (natS ((List.range n).filter fun k=>decide (cs.getD k 0=0)))]=S4 at *;refine⟨_,rfl,_,rfl,⟨by omega,by omega⟩,?_⟩;refine FH (v:=1) hΔ h34 cl hn rfl ?_;have T5:=T4.push (o:=SO.lst (natS ((List.range n).filter fun k=>decide (cs.getD k 0=1))));have O5:=O4.push (o:=SO.lst (natS ((List.range n).filter fun k=>decide (cs.getD k 0=1))));have h5:(S4++[SO.lst (natS ((List.range n).filter fun k=>decide (cs.getD k 0=1)))])[S4.length]?=some (.lst (natS ((List.range n).filter fun k=>decide (cs.getD k 0=1)))):=c8;have h45:=f6 (o:=SO.lst (natS ((List.range n).filter fun k=>decide (cs.getD k 0=1)))) h4;have n5:S4.length≠t:=by have:=T4.lt;omega
  generalize S4.length=l5 at *;generalize S4++[SO.lst (natS ((List.range n).filter fun k=>decide (cs.getD k 0=1)))]=S5 at *
  have L:Lr n (fun k=>cs.getD k 0) ((List.range n).filter fun k=>decide (cs.getD k 0=0)) ((List.range n).filter fun k=>decide (cs.getD k 0=1)):=by
   refine⟨fun a ha=>?_,fun b hb=>?_,Nat.le_trans (EO _ _) hn,Nat.le_trans (EO _ _) hn⟩
   ·have:=List.mem_filter.mp ha;exact⟨List.mem_range.mp this.1,of_decide_eq_true this.2⟩
   ·have:=List.mem_filter.mp hb;exact⟨List.mem_range.mp this.1,of_decide_eq_true this.2⟩
  exact RH hΔ hd T5 L h45 h5 n4 n5 hn fun es S' he hl T' O'=>q es S' ⟨fun e h=>⟨(he e h).1,(he e h).2.1⟩,by omega,by omega,⟨fun k=>cs.getD k 0,c2',fun e h=>(he e h).2.2⟩⟩ hl T' (O5.trans O')
theorem JG(hΔ:∀ f,MonoN (Δ f))(hd:Bx (Δ kd)){D:Df}(hb:D.body=Hr kd)(hN:D.N.length=12)(hp:D.ps.length=2):BN (i8 Δ D):=by
 intro t g S Q T q;unfold i8;rw[hb,hN];refine⟨hp.symm,?_⟩;refine⟨_,rfl,hd T (by decide) (by decide) fun r1 S2 a0 a1 T2 O2 _=>⟨_,rfl,hd T2 (by decide) (by decide) fun r2 S3 b0 b1 T3 O3 _=>⟨by show 2<=big;decide,_,rfl,_,(if g=true then .int (8+r2) else .int r1),c5 c8,?_⟩⟩⟩;have O:=(O2.trans O3).push (o := .lst [.int r1,.int (8+r2)])
 have key:∀(z:Int) (n:Nat),z=n->n<=31->wSs Δ [t3 kd,t4,t5,t6 kd,t7,t8 kd,t9 kd,t10,t11 kd,t12] (Ae Q) [some (.loc t),some (.bl g),some (.int z),none,none,none,none,none,none,none,none,none] (S3++[SO.lst [.int r1,.int (8+r2)]]):=by
  rintro _ n rfl hn;exact Ow hΔ hd T3.push O hn fun es S' W hl T' O'=>q n es S' W hn hl T' O'
 cases g with
 | false=>exact⟨rfl,key r1 r1.toNat (by omega) (by omega)⟩
 | true=>exact⟨rfl,key (8+r2) (8+r2).toNat (by omega) (by omega)⟩
def FI(k:Nat):List Stm:=[(.asg (.nm 2) (.call k (.cons (.var 0) (.cons (.var 1) .nil)))),(.loop (.nm 3) (.rng1 (.c (.int 3))) [(.iff (.eqt0 (.ix (.var 2) (.c (.int 1))) (.tup .nil)) [(.asg (.nm 2) (.call k (.cons (.var 0) (.cons (.var 1) .nil))))] [])]),(.ret (.var 2))]
theorem Hs(hΔ:∀ f,MonoN (Δ f)){k:Nat}(h1:BN (Δ k)){D:Df}(hb:D.body=FI k)(hN:D.N.length=4)(hp:D.ps.length=2):BN (i8 Δ D):=by
 intro t g S Q T q;unfold i8;rw[hb,hN];refine⟨hp.symm,_,rfl,_,rfl,h1 T fun n es S1 W hn hl T1 O1=>?_⟩;refine⟨_,rfl,⟨by decide,by decide⟩,?_⟩;refine v9 (j4 hΔ _) (fun i ρ S'=>∃(n:Nat) (es:EE) (o3:Option SV),ρ=[some (.loc t),some (.bl g),some (i3 n es),o3]/\Web2 n es/\n<=31/\es.length<=90/\TapeS S' t/\On t S S') ⟨n,es,none,rfl,W,hn,hl,T1,O1⟩ (fun _ _ _ _=>trivial) ?_ ?_
 ·rintro i x ρ S2 hx ⟨n,es,o3,rfl,W,hn,hl,T2,O2⟩;refine⟨_,rfl,_,_,rfl,rfl,by show 0<=big;decide,_,rfl,rfl,_,rfl,ifB (fun h=>?_) (fun h=>m3 ⟨n,es,_,rfl,W,hn,hl,T2,O2⟩)⟩;exact⟨_,rfl,_,rfl,h1 T2 fun n' es' S3 W' hn' hl' T3 O3=>⟨n',es',_,rfl,W',hn',hl',T3,O2.trans O3⟩⟩
 ·rintro ρ S2 ⟨n,es,o3,rfl,W,hn,hl,T2,O2⟩;exact⟨_,rfl,q n es S2 W hn hl T2 O2⟩
end
open PySem L2
theorem Ox(xs:List Nat):FU (natS xs) (natS xs)=true:=by
 unfold FU natS;simp only[beq_self_eq_true,Bool.true_and];rw[List.all_eq_true];intro p hp;rw[List.zip_map']at hp;obtain⟨i,_,rfl⟩:=List.mem_map.mp hp;simp[eqF]
section
variable{Δ:Nat->Sn}
def endsT(es:EE)(ts:List Nat):List Nat:=ts.flatMap fun t=>[(tieE es t).1,(tieE es t).2]
end
open PySem L2
section
variable{Δ:Nat->Sn}{kt kf:Nat}
def Ht(s:Sn):Prop:=∀{n:Nat} {es:EE} {c:Nat->Nat} {S:Sto} {Q:QE},Sdd n es c->es.length<=5000->n<=249->(∀(a:Nat) (S':Sto),Gw S S'->Q (.loc a) S')->s [i3 n es] S Q
end
open PySem L2
def mostN(es:EE):Nat->Nat
 | 0=>0
 | n+1=>max (mostN es n) (cntAt es n)
theorem Au(es:EE):∀{n p:Nat},p<n->cntAt es p<=mostN es n
 | 0,_,h=>absurd h (Nat.not_lt_zero _)
 | n+1,p,h=>by
   show _<=max (mostN es n) (cntAt es n);by_cases e:p=n
   ·subst e;omega
   ·have:=Au es (n:=n) (p:=p) (by omega);omega
theorem EQ(es:EE):∀ n:Nat,mostN es n=0\/∃ p,p<n/\mostN es n=cntAt es p
 | 0 => .inl rfl
 | n+1=>by
   show max (mostN es n) (cntAt es n)=0\/∃ p,p<n+1/\max (mostN es n) (cntAt es n)=cntAt es p;by_cases h:mostN es n<=cntAt es n
   ·right;exact⟨n,by omega,by omega⟩
   ·rcases EQ es n with z | ⟨p,hp,e⟩
    ·left;omega
    ·right;exact⟨p,by omega,by omega⟩
theorem FJ{es:EE}{n:Nat}{m:Int}(h1:∀ p,p<n->((cntAt es p:Nat):Int)<=m)(h2:m=0\/∃ p,p<n/\m=(cntAt es p:Nat))(h0:0<=m):m=(mostN es n:Nat):=by
 have a:m<=(mostN es n:Nat):=by
  rcases h2 with z | ⟨p,hp,z⟩
  ·omega
  ·have:=Au es hp;omega
 have b:((mostN es n:Nat):Int)<=m:=by
  rcases EQ es n with z | ⟨p,hp,z⟩
  ·omega
  ·have:=h1 p hp;omega
 omega
def u8(n:Nat)(es:EE)(m:Nat):Nat->List (Option Nat)
 | 0=>List.replicate n none
 | i+1=>if (u8 n es m i).getD i none=none/\cntAt es i=m then Cz n es (u8 n es m i) i m else u8 n es m i
theorem Sdd.flip{n:Nat}{es:EE}{sd:Nat->Nat}(H:Sdd n es sd):Sdd n es fun p=>1 - sd p:=⟨H.en,fun p=>by show 1 - sd p<2;omega,fun e he=>by
 have h1:=H.ne e he;have h2:=H.two e.1;have h3:=H.two e.2;show 1 - sd e.1≠1 - sd e.2;omega⟩
theorem Sdd.at0{n:Nat}{es:EE}{sd:Nat->Nat}(H:Sdd n es sd)(s:Nat):∃ sd',Sdd n es sd'/\sd' s=0:=by
 by_cases h:sd s=0
 ·exact⟨sd,H,h⟩
 ·exact⟨_,H.flip,by show 1 - sd s=0;omega⟩
theorem CG{n m:Nat}{es:EE}{sd:Nat->Nat}(H:Sdd n es sd)(hmx:∀ p,p<n->cntAt es p<=m):∀ i,i<=n->Cons n es (u8 n es m i)/\(0<m->∀ p,p<i->cntAt es p=m->∃ t,(u8 n es m i)[p]?=some (some t))
 | 0,_=>by
   refine⟨⟨by simp[u8],fun p t h=>?_⟩,fun _ p hp=>absurd hp (Nat.not_lt_zero p)⟩;replace h:(List.replicate n (none:Option Nat))[p]?=some (some t):=h;rw[List.getElem?_replicate]at h;split at h<;>cases h
 | i+1,hi=>by
   obtain⟨K,all⟩:=CG H hmx i (by omega);have ef:u8 n es m (i+1)=if (u8 n es m i).getD i none=none/\cntAt es i=m then Cz n es (u8 n es m i) i m else u8 n es m i:=rfl
   have hg:=DF (xs:=u8 n es m i) (p:=i) (by rw[K.len];omega);generalize u8 n es m i=P at *;by_cases c:P.getD i none=none/\cntAt es i=m
   ·rw[ef,if_pos c];obtain⟨sd',H',h0⟩:=H.at0 i;rw[c.1]at hg;obtain⟨a,b,d⟩:=JF H' (by omega) h0 hg K c.2 hmx;refine⟨a,fun hm p hp hc=>?_⟩;by_cases e:p=i
    ·rw[e];exact b hm
    ·obtain⟨t,ht⟩:=all hm p (by omega) hc;exact d p t hc ht
   ·rw[ef,if_neg c];refine⟨K,fun hm p hp hc=>?_⟩;by_cases e:p=i
    ·subst e;cases hv:P.getD p none with
     | none=>exact absurd ⟨hv,hc⟩ c
     | some t=>rw[hv]at hg;exact⟨t,hg⟩
    ·exact all hm p (by omega) hc
def CT(n:Nat)(es:EE):List (Option Nat):=u8 n es (mostN es n) n
def cS(n:Nat)(f:Nat->Nat):List SV:=(List.range n).map fun p=>SV.int (f p:Nat)
theorem ER{n p:Nat}{f:Nat->Nat}(h:p<n):(cS n f)[p]?=some (.int (f p:Nat)):=by unfold cS;rw[List.getElem?_map,List.getElem?_range h];rfl
theorem C1{n:Nat}{f:Nat->Nat}:(cS n f).length=n:=by unfold cS;rw[List.length_map,List.length_range]
theorem KN(n:Nat)(f:Nat->Nat):cS n f=((List.range n).map fun p=>((f p:Nat):Int)).map SV.int:=by unfold cS;rw[List.map_map];rfl
theorem SJ{n p:Nat}{f:Nat->Nat}(h:p<n):(cS n f).set p (.int ((f p:Nat)+1))=cS n fun q=>f q+if q=p then 1 else 0:=by
 apply List.ext_getElem?;intro i;by_cases hi:i<n
 ·rw[ER hi];by_cases e:i=p
  ·subst e;rw[List.getElem?_set_self (by rw[C1];exact hi),if_pos rfl];rfl
  ·rw[List.getElem?_set_ne (Ne.symm e),ER hi,if_neg e];rfl
 ·rw[List.getElem?_eq_none (by rw[List.length_set,C1];omega),List.getElem?_eq_none (by rw[C1];omega)]
theorem Oy:∀ n:Nat,(List.replicate n [SV.int 0]).flatten=cS n fun _=>0:=by
 intro n
 have e:(List.replicate n [SV.int 0]).flatten=List.replicate n (SV.int 0):=by
  induction n with
  | zero=>rfl
  | succ n ih=>rw[List.replicate_succ,List.flatten_cons,ih];rfl
 rw[e];apply List.ext_getElem?;intro i;rw[List.getElem?_replicate];by_cases hi:i<n
 ·rw[if_pos hi,ER hi];rfl
 ·rw[if_neg hi,List.getElem?_eq_none (by rw[C1];omega)]
def SK:List Stm:=[(.asg (.nm 1) (.op .Mult (.lst (.cons (.c (.int 0)) .nil)) (.ix (.var 0) (.c (.int 0))))),(.loop (.tup (.cons (.nm 2) (.cons (.nm 3) .nil))) (.seq (.ix (.var 0) (.c (.int 1)))) [(.augS (.var 1) (.var 2) (.c (.int 1))),(.augS (.var 1) (.var 3) (.c (.int 1)))]),(.ret (.maxd (.var 1) (.c (.int 0))))]
def G8(s:Sn):Prop:=∀{n:Nat} {es:EE} {S:Sto} {Q:QE},(∀ e∈es,e.1<e.2/\e.2<n)->n<=1000->(∀ S',Gw S S'->Q (.int (mostN es n:Nat)) S')->s [i3 n es] S Q
theorem Oz{n:Nat}{es:EE}{m:Int}(h:Grt ((List.range n).map fun p=>((cntAt es p:Nat):Int)) m):m=(mostN es n:Nat):=by
 obtain⟨h1,h2⟩:=h;obtain⟨p,hp,e⟩:=List.mem_map.mp h1;rw[List.mem_range]at hp;exact FJ (fun q hq=>h2 _ (List.mem_map.mpr ⟨q,List.mem_range.mpr hq,rfl⟩)) (.inr ⟨p,hp,e.symm⟩) (by rw[<-e];omega)
section
variable{Δ:Nat->Sn}
theorem RI(hΔ:∀ f,MonoN (Δ f)){D:Df}(hb:D.body=SK)(hN:D.N.length=4)(hp:D.ps.length=1):G8 (i8 Δ D):=by
 intro n es S Q hen hn q;unfold i8;rw[hb,hN];refine⟨hp.symm,by show 1<=big;decide,_,rfl,_,_,rfl,rfl,_,c8,⟨by omega,by omega⟩,by show 1 * _<=100000;omega,?_⟩;have er:(List.replicate ((n:Int)).toNat [SV.int 0]).flatten=cS n fun _=>0:=by rw[Int.toNat_natCast,Oy]
 rw[er];have p1:((S++[SO.lst [SV.int 0]])++[SO.lst (cS n fun _=>0)])[(S++[SO.lst [SV.int 0]]).length]?=some (.lst (cS n fun _=>0)):=c8;have G1:Gw S ((S++[SO.lst [SV.int 0]])++[SO.lst (cS n fun _=>0)]):=(Gw.refl S).push.push;have kl:S.length<=(S++[SO.lst [SV.int 0]]).length:=by rw[List.length_append];omega
 generalize (S++[SO.lst [SV.int 0]]).length=k at *;generalize (S++[SO.lst [SV.int 0]])++[SO.lst (cS n fun _=>0)]=S1 at *;refine⟨_,rfl,_,_,rfl,rfl,_,rfl,?_⟩;refine BU (j4 hΔ _) (fun i ρ S2=>∃ o2 o3,ρ=[some (i3 n es),some (.loc k),o2,o3]/\Gw S S2/\S2[k]?=some (.lst (cS n fun p=>(es.take i).countP (w5 p)))) ⟨none,none,rfl,G1,by rw[p1];simp⟩ (fun _ _ _ _=>trivial) ?_ ?_
 ·rintro i x ρ S2 E hn _ hx ⟨o2,o3,rfl,G2,h2⟩;obtain⟨e,he,rfl⟩:=At hx;have hee:=hen e (List.mem_of_getElem? he);refine⟨_,rfl,_,rfl,k,e.1,_,_,rfl,rfl,h2,ER (by omega),_,_,rfl,h2,by rw[C1];omega,?_⟩;rw[SJ (by omega)];have h3:(S2.set k (.lst (cS n fun q=>(es.take i).countP (w5 q)+if q=e.1 then 1 else 0)))[k]?=some (.lst (cS n fun q=>(es.take i).countP (w5 q)+if q=e.1 then 1 else 0)):=j7 h2;have G3:Gw S (S2.set k (.lst (cS n fun q=>(es.take i).countP (w5 q)+if q=e.1 then 1 else 0))):=G2.put kl;generalize S2.set k (.lst (cS n fun q=>(es.take i).countP (w5 q)+if q=e.1 then 1 else 0))=S3 at *;refine⟨_,rfl,_,rfl,k,e.2,_,_,rfl,rfl,h3,ER (by omega),_,_,rfl,h3,by rw[C1];omega,?_⟩;rw[SJ (by omega)];refine hn _ _ ⟨_,_,rfl,G3.put kl,?_⟩;rw[j7 h3]
  congr 3
  funext p
  rw[List.take_succ,he,List.countP_append];show _=_+List.countP (w5 p) [e];rw[List.countP_cons,List.countP_nil];by_cases z:w5 p e=true
  ·rw[if_pos z];rcases endB_iff.mp z with y | y
   ·rw[if_pos y,if_neg (by omega)]
   ·rw[if_pos y,if_neg (by omega)]
  ·have z':¬ (p=e.1\/p=e.2):=fun y=>z (endB_iff.mpr y);rw[if_neg z,if_neg (fun y=>z' (.inl y)),if_neg (fun y=>z' (.inr y))]
 ·rintro ρ S2 ⟨o2,o3,rfl,G2,h2⟩;rw[List.length_map,List.take_length]at h2;have ec:(cS n fun p=>es.countP (w5 p))=cS n (cntAt es):=by congr 1;funext p;exact(EL es p).symm
  rw[ec,KN]at h2;refine⟨_,rfl,k,_,_,rfl,rfl,h2,fun z=>?_,fun m g=>?_⟩
  ·have hn0:n=0:=by cases n with
    | zero=>rfl
    | succ n=>simp[List.range_succ]at z
   have:=q S2 G2;rw[hn0]at this;exact this
  ·rw[Oz g];exact q S2 G2
def P1(ks km kc kg ko:Nat):List Stm:=[(.expr (.call ks (.cons (.var 0) .nil))),(.asg (.nm 1) (.op .Mult (.lst (.cons (.c .non) .nil)) (.ix (.var 0) (.c (.int 0))))),(.asg (.nm 2) (.call km (.cons (.var 0) .nil))),(.loop (.nm 3) (.rng1 (.ix (.var 0) (.c (.int 0)))) [(.iff (.and (.cmp .Is (.ix (.var 1) (.var 3)) (.c .non)) (.cmp .Eq (.call kc (.cons (.var 0) (.cons (.var 3) .nil))) (.var 2))) [(.expr (.call kg (.cons (.var 0) (.cons (.var 1) (.cons (.var 3) (.cons (.var 2) .nil))))))] [])]),(.ret (.call ko (.cons (.var 1) .nil)))]
def Dh(s:Sn):Prop:=∀{n:Nat} {es:EE} {S:Sto} {Q:QE},Web2 n es->(∀(l:Nat) (S':Sto),Gw S S'->S.length<=l->S'[l]?=some (.lst (natS (Af (CT n es))))->Q (.loc l) S')->s [i3 n es] S Q
theorem P2(hΔ:∀ f,MonoN (Δ f)){ks km kc kg ko:Nat}(hs:Ht (Δ ks))(hm:G8 (Δ km))(hc:Dg (Δ kc))(hg:Fx (Δ kg))(ho:EM (Δ ko)){D:Df}(hb:D.body=P1 ks km kc kg ko)(hN:D.N.length=4)(hp:D.ps.length=1):Dh (i8 Δ D):=by
 intro n es S Q W q;have hn:=W.few;have hel:=W.len;obtain⟨c,c2,cn⟩:=W.two;have H:Sdd n es c:=⟨W.en,c2,cn⟩
 unfold i8;rw[hb,hN];refine⟨hp.symm,_,rfl,hs H (by omega) (by omega) fun ld S1 G1=>?_⟩;refine⟨by show 1<=big;decide,_,rfl,_,_,rfl,rfl,_,c8,⟨by omega,by omega⟩,by show 1 * _<=100000;omega,?_⟩;have er:(List.replicate ((n:Int)).toNat [SV.non]).flatten=optsS (List.replicate n none):=by rw[Int.toNat_natCast,EN]
 rw[er];have hlp2:((S1++[SO.lst [SV.non]])++[SO.lst (optsS (List.replicate n none))])[(S1++[SO.lst [SV.non]]).length]?=some (.lst (optsS (List.replicate n none))):=c8;have G2:Gw S ((S1++[SO.lst [SV.non]])++[SO.lst (optsS (List.replicate n none))]):=G1.push.push;have lpl:S.length<=(S1++[SO.lst [SV.non]]).length:=by rw[List.length_append];have:=G1.len;omega
 generalize (S1++[SO.lst [SV.non]]).length=lp at *;generalize (S1++[SO.lst [SV.non]])++[SO.lst (optsS (List.replicate n none))]=S2 at *;refine⟨_,rfl,hm W.en (by omega) fun S3 G3=>?_⟩;have hlp3:=G3.keep _ _ hlp2;have mx:∀ p,p<n->cntAt es p<=mostN es n:=fun p hp=>Au es hp;refine⟨_,rfl,_,_,rfl,rfl,_,rfl,⟨by omega,by omega⟩,?_⟩;refine BU (j4 hΔ _) (fun i ρ S4=>∃ o3,ρ=[some (i3 n es),some (.loc lp),some (.int (mostN es n:Nat)),o3]/\Kp lp S3 S4/\S4[lp]?=some (.lst (optsS (u8 n es (mostN es n) i)))) ⟨none,rfl,Kp.refl lp S3,hlp3⟩ (fun _ _ _ _=>trivial) ?_ ?_
 ·rintro i x ρ S4 E hnx _ hx ⟨o3,rfl,K4,h4⟩;obtain⟨rfl,hi⟩:=AT hx;rw[Int.zero_add]at hi ⊢;have hi:i<n:=by omega
  obtain⟨K,_⟩:=CG H mx i (by omega);have ef:u8 n es (mostN es n) (i+1)=if (u8 n es (mostN es n) i).getD i none=none/\cntAt es i=mostN es n then Cz n es (u8 n es (mostN es n) i) i (mostN es n) else u8 n es (mostN es n) i:=rfl
  have hgt:=DF (xs:=u8 n es (mostN es n) i) (p:=i) (by rw[K.len];omega);generalize u8 n es (mostN es n) i=P at *;have ha:=f8 (v:=Aj (P.getD i none)) (i6 hgt);cases hv:P.getD i none with
  | some t=>
    rw[hv]at ha;rw[if_neg (fun z=>by rw[hv]at z;cases z.1)]at ef;exact⟨_,rfl,_,rfl,_,_,c5 h4,ha,.inl ⟨rfl,_,rfl,ifF rfl (m3 (Δ:=Δ) (hnx _ _ ⟨_,rfl,K4,by rw[ef];exact h4⟩))⟩⟩
  | none=>
    rw[hv]at ha hgt;refine⟨_,rfl,_,rfl,_,_,c5 h4,ha,.inl ⟨rfl,_,rfl,ifT rfl ?_⟩⟩;refine⟨_,rfl,_,rfl,hc (by omega) hi fun S5 G5=>⟨_,rfl,_,rfl,?_⟩⟩;have h5:=G5.keep _ _ h4;refine ifD (fun z=>?_) (fun z=>m3 ?_)
    ·have z:cntAt es i=mostN es n:=by have:((cntAt es i:Nat):Int)=(mostN es n:Nat):=z;omega
     rw[if_pos ⟨hv,z⟩]at ef;obtain⟨sd',H',h0⟩:=H.at0 i;have O:Open [i] sd' n P:=⟨by simp,fun p hp=>by rw[List.mem_singleton.mp hp];exact⟨hi,h0,hgt⟩⟩
     refine⟨_,rfl,_,rfl,_,rfl,_,rfl,hg (nd:=mostN es n) H' K O (by omega) W.len h5 fun S6 K6 h6=>?_⟩;exact hnx _ _ ⟨_,rfl,(K4.trans G5.kp).trans K6,by rw[ef];exact h6⟩
    ·rw[if_neg (fun y=>z (by show((cntAt es i:Nat):Int)=(mostN es n:Nat);omega))]at ef;exact hnx _ _ ⟨_,rfl,K4.trans G5.kp,by rw[ef];exact h5⟩
 ·rintro ρ S4 ⟨o3,rfl,K4,h4⟩;rw[B4,show((n:Int) - 0).toNat=n by omega]at h4;have G4:Gw S S4:=⟨by have:=G2.len;have:=G3.len;have:=K4.len;omega,fun k o e=>K4.keep k o (fun z=>by have:=v5 e;omega) ((G2.trans G3).keep k o e)⟩
  refine⟨_,rfl,ho h4 (by rw[(CG H mx n (Nat.le_refl _)).1.len];omega) (q _ _ G4.push (by have:=G4.len;omega) c8)⟩
end
open PySem L2
section
variable{Δ:Nat->Sn}
def KO:List Stm:=[(.ret (.bi .len (.cons (.comp ["_law_pair"] ["_law_place"] [1] (.nm 0) (.seq (.ix (.var 0) (.c (.int 1)))) (.yes (.cmp .In (.var 1) (.var 0))) (.var 0)) .nil)))]
def ES(s:Sn):Prop:=∀{n p:Nat} {es:EE} {S:Sto} {Q:QE},es.length<=5000->(∀ S',Gw S S'->Q (.int (cntAt es p:Nat)) S')->s [i3 n es,.int p] S Q
theorem M6(hΔ:∀ f,MonoN (Δ f)){D:Df}(hb:D.body=KO)(hN:D.N.length=2)(hp:D.ps.length=2):ES (i8 Δ D):=by
 intro n p es S Q hel q;unfold i8;rw[hb,hN];refine⟨hp.symm,_,rfl,_,_,rfl,rfl,_,rfl,?_⟩;refine l9 (i7 hΔ _).2 (a8 hΔ _).1 (fun i ys S'=>S'=S/\ys.length=(es.take i).countP (w5 p)) ⟨rfl,by simp⟩ (fun _ _ _ _=>trivial) ?_ ?_
 ·rintro i x ys S' hx ⟨rfl,hy⟩;obtain⟨e,he,rfl⟩:=At hx;have hi:=(gM he).1;have hcl:(es.take i).countP (w5 p)<=i:=Nat.le_trans (List.countP_le_length ..) (by rw[List.length_take];omega)
  have hs:(es.take (i+1)).countP (w5 p)=(es.take i).countP (w5 p)+if w5 p e=true then 1 else 0:=by
   rw[List.take_succ,he,List.countP_append];show _+List.countP (w5 p) [e]=_;rw[List.countP_cons,List.countP_nil,Nat.zero_add]
  refine⟨_,rfl,_,rfl,rfl,_,rfl,rfl,_,rfl,?_⟩;show if inS (.int p) [.int e.1,.int e.2]=true then _ else _
  rw[Dd];refine ifB (fun h=>?_) (fun h=>?_)
  ·refine⟨_,rfl,by rw[hy];show _<100000;omega,rfl,?_⟩;rw[List.length_append,hy,hs,if_pos (show w5 p e=true from h)];rfl
  ·refine⟨rfl,?_⟩;rw[hy,hs,if_neg (show ¬ w5 p e=true by unfold w5;rw[h];decide)];rfl
 ·rintro ys S' ⟨rfl,hy⟩;rw[List.length_map,List.take_length,<-EL]at hy;refine⟨_,c5 c8,?_⟩;rw[hy];exact q _ (Gw.refl _).push
def P3(kc:Nat):List Stm:=[(.ret (.max1 (.op .Add (.lst (.cons (.c (.int 0)) .nil)) (.comp ["_law_place"] ["_law_web"] [0] (.nm 0) (.rng1 (.ix (.var 0) (.c (.int 0)))) .no (.call kc (.cons (.var 1) (.cons (.var 0) .nil)))))))]
theorem M7{n:Nat}{es:EE}{m:Int}(h:Grt (0::(List.range n).map fun p=>((cntAt es p:Nat):Int)) m):m=(mostN es n:Nat):=by
 obtain⟨h1,h2⟩:=h;have h0:=h2 0 (List.mem_cons_self ..);refine FJ (fun q hq=>h2 _ (List.mem_cons_of_mem _ (List.mem_map.mpr ⟨q,List.mem_range.mpr hq,rfl⟩))) ?_ h0;rcases List.mem_cons.mp h1 with z | z
 ·exact .inl z
 ·obtain⟨p,hp,e⟩:=List.mem_map.mp z;exact .inr ⟨p,List.mem_range.mp hp,e.symm⟩
def KP(s:Sn):Prop:=∀{n:Nat} {es:EE} {S:Sto} {Q:QE},es.length<=5000->n<=1000->(∀ S',Gw S S'->Q (.int (mostN es n:Nat)) S')->s [i3 n es] S Q
theorem P4(hΔ:∀ f,MonoN (Δ f)){kc:Nat}(hc:ES (Δ kc)){D:Df}(hb:D.body=P3 kc)(hN:D.N.length=1)(hp:D.ps.length=1):KP (i8 Δ D):=by
 intro n es S Q hel hn q;unfold i8;rw[hb,hN];refine⟨hp.symm,by show 1<=big;decide,_,rfl,_,_,rfl,rfl,_,rfl,⟨by omega,by omega⟩,?_⟩;have h0:(S++[SO.lst [SV.int 0]])[S.length]?=some (.lst [SV.int 0]):=c8;have G0:Gw S (S++[SO.lst [SV.int 0]]):=(Gw.refl S).push;generalize hk:S.length=k at *;generalize S++[SO.lst [SV.int 0]]=S1 at *;refine l9 (i7 hΔ _).2 (a8 hΔ _).1 (fun i ys S2=>Gw S1 S2/\ys=cS i (cntAt es)) ⟨Gw.refl S1,rfl⟩ (fun _ _ _ _=>trivial) ?_ ?_
 ·rintro i x ys S2 hx ⟨G2,rfl⟩;obtain⟨rfl,hi⟩:=AT hx;rw[Int.zero_add]at hi ⊢;refine⟨_,rfl,_,rfl,hc hel fun S3 G3=>⟨by rw[C1];show _<100000;omega,G2.trans G3,?_⟩⟩;unfold cS;rw[List.range_succ,List.map_append];rfl
 ·rintro ys S2 ⟨G2,rfl⟩;rw[B4,show((n:Int) - 0).toNat=n by omega];refine⟨_,_,f6 (G2.keep _ _ h0),c8,by rw[C1];show 1+n<=100000;omega,S2.length+1,(0::(List.range n).map fun p=>((cntAt es p:Nat):Int)),?_,?_,Nat.succ_pos _,fun m g=>?_⟩
  ·rw[List.length_append];rfl
  ·rw[KN,show S2.length+1=(S2++[SO.lst (((List.range n).map fun p=>((cntAt es p:Nat):Int)).map SV.int)]).length by rw[List.length_append];rfl,c8];rfl
  ·rw[M7 g];exact q _ (G0.trans G2).push.push
structure Rf28(n:Nat)(es:EE)(T:List Nat):Prop where
 tu:T.Pairwise (·<·)
 tl:∀ t∈T,t<es.length
 ap:Apart es T
 up:∀ e∈es,e.1<e.2
 few:T.length<=62
 nl:n<=60
 el:es.length<=1000
 all:0<mostN es n->∀ p,p<n->cntAt es p=mostN es n->p∈endsT es T
end
theorem G9{n:Nat}{es:EE}(W:Web2 n es):Rf28 n es (Af (CT n es)):=by
 obtain⟨c,c2,cn⟩:=W.two;have H:Sdd n es c:=⟨W.en,c2,cn⟩
 obtain⟨K,all⟩:=CG H (fun p hp=>Au es hp) n (Nat.le_refl _);refine⟨Hj _,K.tlt,K.apart,fun e he=>(W.en e he).1,?_,W.few,W.len,fun hm p hp hc=>?_⟩
 ·have h1:(Af (CT n es)).length<=(tNs (CT n es)).length:=Fu (Vn (Hj _)) fun t ht=>by
   obtain⟨p,hp⟩:=mem_tiesN.mp ht;exact mem_tNs.mpr ⟨p,hp⟩
  have h2:(tNs (CT n es)).length<=(CT n es).length:=List.length_filterMap_le _ _;have h3:(CT n es).length=n:=K.len;have:=W.few;omega
 ·obtain⟨t,ht⟩:=all hm p hp hc;obtain⟨e,he,hpe,_⟩:=K.two p t ht;unfold endsT;rw[List.mem_flatMap];refine⟨t,mem_tiesN.mpr ⟨p,ht⟩,?_⟩;rw[AU he];rcases hpe with z | z
  ·rw[z];exact List.mem_cons_self ..
  ·rw[z];exact List.mem_cons_of_mem _ (List.mem_cons_self ..)
open PySem L2
structure Norm(n:Nat)(es:EE)(s:List (Option Nat)):Prop where
 len:s.length=n
 all:∀ p,p<n->∃ v,v<2/\s[p]?=some (some v)
 un:∀ e∈es,s[e.1]?≠s[e.2]?
 zero:∀ f,f<n->(Hue.marks n es)[f]?=some f->s[f]?=some (some 0)
theorem M8{n:Nat}{es:EE}{s s':List (Option Nat)}(hn:∀ e∈es,e.1<n/\e.2<n)(a:Norm n es s)(b:Norm n es s'):s=s':=by
 refine List.ext_getElem? fun p=>?_;by_cases hp:p<n
 ·have M:Hue.Mk n (Hue.marks n es):=Hue.mk_marks (Hue.mk_range n) hn;have hpl:p<(Hue.marks n es).length:=by rw[M.len];exact hp
  refine(Hue.cl_marks (C:=fun p=>s[p]?=s'[p]?) hn (fun e he=>?_) hp).mpr ?_
  ·obtain⟨h1,h2⟩:=hn e he;obtain⟨v1,w1,x1⟩:=a.all _ h1;obtain⟨v2,w2,x2⟩:=a.all _ h2;obtain⟨v3,w3,x3⟩:=b.all _ h1;obtain⟨v4,w4,x4⟩:=b.all _ h2;have u:=a.un e he;have u':=b.un e he;rw[x1,x2]at u;rw[x3,x4]at u';show s[e.1]?=s'[e.1]?↔s[e.2]?=s'[e.2]?;rw[x1,x2,x3,x4];simp only[Option.some.injEq,ne_eq]at u u' ⊢;omega
  ·have hm:(Hue.marks n es).getD p 0=(Hue.marks n es)[p]:=by rw[List.getD_eq_getElem?_getD,List.getElem?_eq_getElem hpl];rfl
   have hmn:(Hue.marks n es)[p]<n:=Nat.lt_of_le_of_lt (M.le p hpl) hp;show s[(Hue.marks n es).getD p 0]?=s'[(Hue.marks n es).getD p 0]?;rw[hm,a.zero _ hmn (M.fix p hpl),b.zero _ hmn (M.fix p hpl)]
 ·rw[List.getElem?_eq_none (by rw[a.len];omega),List.getElem?_eq_none (by rw[b.len];omega)]
theorem M9{n:Nat}{es:EE}{sd bk:List (Option Nat)}{dep rt:Nat->Nat}(F:Full n es sd bk dep rt)(hen:∀ e∈es,e.1<e.2/\e.2<n)(h:∀ e∈es,dep e.1 % 2≠dep e.2 % 2):Norm n es sd:=by
 have hn:∀ e∈es,e.1<n/\e.2<n:=fun e he=>by have:=hen e he;omega
 refine⟨F.gs.ls,fun p hp=>⟨_,Nat.mod_lt _ (by decide),F.all p hp⟩,fun e he=>?_,fun f hf hm=>?_⟩
 ·rw[F.all _ (hn e he).1,F.all _ (hn e he).2];exact fun z=>h e he (oj (oj z))
 ·rw[F.all f hf,J6 F (Oc hn) hm]
open Classical in
noncomputable def sdF(n:Nat)(es:EE):List (Option Nat):=if h:∃ s,Norm n es s then h.choose else []
theorem UL{n:Nat}{es:EE}{s:List (Option Nat)}(hn:∀ e∈es,e.1<n/\e.2<n)(N:Norm n es s):sdF n es=s:=by
 have h:∃ s,Norm n es s:=⟨s,N⟩
 unfold sdF;rw[dif_pos h];exact M8 hn h.choose_spec N
theorem P5{n:Nat}{es:EE}{c:Nat->Nat}(W:Sdd n es c):∀ ts,Odd es ts->False:=fun ts O=>by
 obtain⟨p,vs,P,_⟩:=O.ex;have:=KG (c:=c) (fun e he=>⟨W.two _,W.two _,W.ne e he⟩) P;have h2:=O.odd;omega
section
variable{Δ:Nat->Sn}
def C2(s:Sn):Prop:=∀{n:Nat} {es:EE} {S:Sto} {Q:QE},(∀ e∈es,e.1<e.2/\e.2<n)->es.length<=5000->n<=249->(∀ ts,Odd es ts->False)->
 (∀(l:Nat) (S':Sto),Norm n es (sdF n es)->One S S' l (sdF n es)->Q (.loc l) S')->s [i3 n es] S Q
theorem MA{k:Nat}(h2:OX (Δ k)){D:Df}(hb:D.body=Hc k)(hN:D.N.length=3)(hp:D.ps.length=1):C2 (i8 Δ D):=by
 intro n es S Q hen hel hn hno q;unfold i8;rw[hb,hN];refine⟨hp.symm,_,rfl,h2 hen hel (by omega) (fun sd bk dep rt a S' F hd G ha hSa=>?_) (fun sd bk dep rt j e us ds a S' F he hd C G ha hSa=>(hno _ (R6 F hn hen he hd C)).elim)⟩;refine⟨_,rfl,_,rfl,ifF (decide_eq_false (by decide)) ⟨_,rfl,?_⟩⟩;have N:=M9 F hen hd;have e1:=UL (fun e he=>by have:=hen e he;omega) N;exact q a S' (by rw[e1];exact N) ⟨G,ha,by rw[e1];exact hSa⟩
end
open PySem L2
section
variable{n:Nat}{es:EE}
def cplW(n:Nat)(es:EE):EE:=(List.range n).flatMap fun p=>B9 (c9 es p es.length)
noncomputable def hsF(n:Nat)(es:EE):List (Option Nat):=sdF es.length (cplW n es)
noncomputable def onH(n:Nat)(es:EE)(v t:Nat):Bool:=decide ((hsF n es)[t]?=some (some v))
noncomputable def m7(n:Nat)(es:EE)(v:Nat):List Nat:=(List.range es.length).filter (onH n es v)
structure HalfOk(n:Nat)(es:EE):Prop where
 un:Unl (hsF n es) (cplW n es)
 all:∀ t,t<es.length->∃ v,v<2/\(hsF n es)[t]?=some (some v)
theorem RJ(N:Norm es.length (cplW n es) (hsF n es))(he:∀ e∈cplW n es,e.1<es.length/\e.2<es.length):HalfOk n es:=by
 refine⟨fun e h=>?_,N.all⟩;obtain⟨a,a2,ha⟩:=N.all _ (he e h).1;obtain⟨b,b2,hb⟩:=N.all _ (he e h).2;have u:=N.un e h;rw[ha,hb]at u;exact⟨a,b,a2,b2,fun z=>u (by rw[z]),ha,hb⟩
theorem mem_cplW{e:Nat×Nat}:e∈cplW n es↔∃ p,p<n/\e∈B9 (c9 es p es.length):=by
 unfold cplW;rw[List.mem_flatMap];exact⟨fun⟨p,h,z⟩=>⟨p,List.mem_range.mp h,z⟩,fun⟨p,h,z⟩=>⟨p,List.mem_range.mpr h,z⟩⟩
theorem GA:∀ e∈cplW n es,e.1<e.2/\e.2<es.length:=by
 intro e he;obtain⟨p,_,h⟩:=mem_cplW.mp he;obtain⟨i,_,h1,h2⟩:=Cv h;exact⟨Oe (FD es p es.length) h1 h2 (by omega),(CD (List.mem_of_getElem? h2)).1⟩
theorem KQ{α:Type}{f:Nat->List α}{B:Nat}(h:∀ p,(f p).length<=B):∀ n:Nat,((List.range n).flatMap f).length<=n * B
 | 0=>by simp
 | n+1=>by
   rw[List.range_succ,List.flatMap_append,List.length_append,Nat.add_mul,Nat.one_mul];have:=KQ h n;have h1:=h n;simp only[List.flatMap_cons,List.flatMap_nil,List.append_nil];omega
theorem Hu(hn:n<=60)(hl:es.length<=90):(cplW n es).length<=2700:=by
 have:(cplW n es).length<=n * 45:=KQ (fun p=>by rw[Cw];have:=BX es p es.length;omega) n;omega
theorem RK{ts:List Nat}(U:ts.Pairwise (·<·)){e e':Nat×Nat}(h:e∈B9 ts)(h':e'∈B9 ts){v:Nat}(hv:v=e.1\/v=e.2)(hv':v=e'.1\/v=e'.2):e=e':=by
 obtain⟨i,_,a,b⟩:=Cv h;obtain⟨j,_,a',b'⟩:=Cv h'
 have hij:i=j:=by
  rcases hv with z | z<;>rcases hv' with z' | z'
  ·rw[<-z]at a;rw[<-z']at a';have:=Fo U a a';omega
  ·rw[<-z]at a;rw[<-z']at b';have:=Fo U a b';omega
  ·rw[<-z]at b;rw[<-z']at a';have:=Fo U b a';omega
  ·rw[<-z]at b;rw[<-z']at b';have:=Fo U b b';omega
 subst hij;rw[a]at a';rw[b]at b';exact Prod.ext (oj a') (oj b')
theorem KR{p:Nat}{e:Nat×Nat}(h:e∈B9 (c9 es p es.length)){v:Nat}(hv:v=e.1\/v=e.2):v∈c9 es p es.length:=by
 obtain⟨i,_,a,b⟩:=Cv h;rcases hv with rfl | rfl
 ·exact List.mem_of_getElem? a
 ·exact List.mem_of_getElem? b
theorem RL(W:Web2 n es):∀ ts,Odd (cplW n es) ts->False:=by
 intro ts O;obtain⟨c,c2,cn⟩:=W.two
 open Classical in
 refine UG (b:=fun e=>decide (∃ p,p<n/\c p=0/\e∈B9 (c9 es p es.length))) (fun e he=>Nat.ne_of_lt (GA e he).1) (fun e he e' he' v hv hv' hb=>?_) O
 have same:∀{p q:Nat},v∈c9 es p es.length->v∈c9 es q es.length->c p=c q->p=q:=fun{p q} hp hq hc=>by
  obtain⟨hl,h1⟩:=CD hp;obtain⟨_,h2⟩:=CD hq;have:=cn _ (Hb hl);rcases h1 with h1 | h1<;>rcases h2 with h2 | h2
  ·omega
  ·rw[h1,h2]at this;exact absurd hc this
  ·rw[h2,h1]at this;exact absurd hc.symm this
  ·omega
 obtain⟨p,hp,h1⟩:=mem_cplW.mp he;obtain⟨q,hq,h2⟩:=mem_cplW.mp he'
 have key:∃ p q,e∈B9 (c9 es p es.length)/\e'∈B9 (c9 es q es.length)/\c p=c q:=by
  by_cases z:∃ p,p<n/\c p=0/\e∈B9 (c9 es p es.length)
  ·have z':∃ p,p<n/\c p=0/\e'∈B9 (c9 es p es.length):=by
    rw[decide_eq_true z]at hb;exact of_decide_eq_true hb.symm
   obtain⟨p,_,a,b⟩:=z;obtain⟨q,_,a',b'⟩:=z';exact⟨p,q,b,b',a.trans a'.symm⟩
  ·have z':¬ ∃ p,p<n/\c p=0/\e'∈B9 (c9 es p es.length):=by
    rw[decide_eq_false z]at hb;exact of_decide_eq_false hb.symm
   have a:c p≠0:=fun y=>z ⟨p,hp,y,h1⟩;have a':c q≠0:=fun y=>z' ⟨q,hq,y,h2⟩;have:=c2 p;have:=c2 q;exact⟨p,q,h1,h2,by omega⟩
 obtain⟨p,q,h1,h2,hc⟩:=key;have hpq:=same (KR h1 hv) (KR h2 hv') hc;subst hpq;exact RK (FD es p es.length) h1 h2 hv hv'
theorem P6(H:HalfOk n es){p:Nat}(hp:p<n):(c9 es p es.length).countP (onH n es 0)+(c9 es p es.length).countP (onH n es 1)=cntAt es p/\(c9 es p es.length).countP (onH n es 0)<=(c9 es p es.length).countP (onH n es 1)+1/\(c9 es p es.length).countP (onH n es 1)<=(c9 es p es.length).countP (onH n es 0)+1:=by
 have e1:(c9 es p es.length).countP (onH n es 1)=(c9 es p es.length).countP (fun t=>!onH n es 0 t):=by
  refine List.countP_congr fun t ht=>?_;obtain⟨v,hv,hs⟩:=H.all t (CD ht).1;unfold onH;rw[hs];rcases(by omega:v=0\/v=1) with rfl | rfl<;>simp
 have b:=bal (f:=onH n es 0) (c9 es p es.length).length (c9 es p es.length) (Nat.le_refl _) (fun i a b ha hb=>by
  have hi:i<(c9 es p es.length).length / 2:=by have:=(gM hb).1;omega
  have hm:(a,b)∈cplW n es:=by
   refine mem_cplW.mpr ⟨p,hp,?_⟩;obtain⟨c1,c2⟩:=J7 hi;rw[ha]at c1;rw[hb]at c2;unfold B9;exact List.mem_map.mpr ⟨i,List.mem_range.mpr hi,by rw[<-oj c1,<-oj c2]⟩
  obtain⟨x,y,hx,hy,hxy,h1,h2⟩:=H.un _ hm;have h1:(hsF n es)[a]?=some (some x):=h1;have h2:(hsF n es)[b]?=some (some y):=h2;unfold onH;rw[h1,h2];rcases(by omega:(x=0/\y=1)\/(x=1/\y=0)) with⟨rfl,rfl⟩ | ⟨rfl,rfl⟩<;>simp)
 rw[e1];refine⟨?_,b.1,b.2⟩;unfold cntAt;have:=List.length_eq_countP_add_countP (onH n es 0) (l:=c9 es p es.length)
 have e2:(c9 es p es.length).countP (fun a=>decide ¬onH n es 0 a=true)=(c9 es p es.length).countP (fun t=>!onH n es 0 t):=by
  refine List.countP_congr fun t _=>?_;cases onH n es 0 t<;>simp
 rw[e2]at this;omega
def amg(es:EE)(ties:List Nat):EE:=ties.map (tieE es)
theorem CH(L:List Nat)(p:Nat):cntAt (amg es L) p=L.countP fun t=>w5 p (tieE es t):=by
 rw[EL];unfold amg;rw[List.countP_map];rfl
theorem P7(v p:Nat):cntAt (amg es (m7 n es v)) p=(c9 es p es.length).countP (onH n es v):=by
 rw[CH];unfold m7 c9;rw[List.countP_filter,List.countP_filter];refine List.countP_congr fun t ht=>?_;have hl:t<es.length:=List.mem_range.mp ht;rw[A8 hl];simp only[Bool.and_eq_true];rw[endB_iff];simp only[Bool.or_eq_true,decide_eq_true_eq];constructor
 ·rintro⟨a,b⟩;exact⟨b,a.imp Eq.symm Eq.symm⟩
 ·rintro⟨a,b⟩;exact⟨b.imp Eq.symm Eq.symm,a⟩
theorem Di{es:EE}{n m:Nat}(h:∀ p,p<n->cntAt es p<=m):mostN es n<=m:=by
 rcases EQ es n with z | ⟨p,hp,z⟩
 ·omega
 ·rw[z];exact h p hp
theorem MB(H:HalfOk n es)(hm:mostN es n % 2=0){v:Nat}(hv:v<2):mostN (amg es (m7 n es v)) n<=mostN es n / 2:=by
 refine Di fun p hp=>?_;rw[P7];obtain⟨h1,h2,h3⟩:=P6 H hp;have h4:=Au es hp;rcases(by omega:v=0\/v=1) with rfl | rfl<;>omega
theorem RM(v:Nat):(m7 n es v).Nodup:=List.Pairwise.filter _ List.nodup_range
theorem RN{v t:Nat}(h:t∈m7 n es v):t<es.length:=List.mem_range.mp (List.mem_filter.mp h).1
theorem P8(H:HalfOk n es){t:Nat}(h:t<es.length):t∈m7 n es 0\/t∈m7 n es 1:=by
 obtain⟨v,hv,hs⟩:=H.all t h;rcases(by omega:v=0\/v=1) with rfl | rfl
 ·exact .inl (List.mem_filter.mpr ⟨List.mem_range.mpr h,decide_eq_true hs⟩)
 ·exact .inr (List.mem_filter.mpr ⟨List.mem_range.mpr h,decide_eq_true hs⟩)
structure Gt(es:EE)(ties:List Nat):Prop where
 nd:ties.Nodup
 lt:∀ t∈ties,t<es.length
 len:ties.length<=90
theorem Gt.web{ties:List Nat}(G:Gt es ties)(W:Web2 n es):Web2 n (amg es ties):=by
 obtain⟨c,c2,cn⟩:=W.two
 have m:∀ e∈amg es ties,e∈es:=fun e he=>by
  obtain⟨t,ht,rfl⟩:=List.mem_map.mp he;exact Hb (G.lt t ht)
 exact⟨fun e he=>W.en e (m e he),by unfold amg;rw[List.length_map];have:=G.len;omega,W.few,c,c2,fun e he=>cn e (m e he)⟩
theorem Dj(ties:List Nat):(amg es ties).length=ties.length:=List.length_map _
theorem Dk{ties:List Nat}{a:Nat}(h:a<ties.length):tieE (amg es ties) a=tieE es (ties.getD a 0):=by
 unfold amg;rw[tieE,List.getD_eq_getElem?_getD,List.getElem?_map,List.getD_eq_getElem?_getD,List.getElem?_eq_getElem h];rfl
def pick(ties L:List Nat):List Nat:=L.map fun a=>ties.getD a 0
theorem D1{ties:List Nat}{a:Nat}(h:a<ties.length):ties.getD a 0∈ties:=by
 rw[List.getD_eq_getElem?_getD,List.getElem?_eq_getElem h];exact List.getElem_mem h
theorem P9{ties:List Nat}(nd:ties.Nodup){a b:Nat}(ha:a<ties.length)(hb:b<ties.length)(h:ties.getD a 0=ties.getD b 0):a=b:=by
 rw[List.getD_eq_getElem?_getD,List.getD_eq_getElem?_getD,List.getElem?_eq_getElem ha,List.getElem?_eq_getElem hb]at h;have h:ties[a]=ties[b]:=h;rcases Nat.lt_trichotomy a b with z | z | z
 ·exact absurd h ((List.pairwise_iff_getElem.mp nd) a b ha hb z)
 ·exact z
 ·exact absurd h.symm ((List.pairwise_iff_getElem.mp nd) b a hb ha z)
theorem Gt.pick{ties L:List Nat}(G:Gt es ties)(hl:∀ a∈L,a<ties.length)(nd:L.Nodup):Gt es (pick ties L):=by
 refine⟨?_,fun t ht=>?_,?_⟩
 ·unfold Rf.pick;refine List.pairwise_map.mpr (List.Pairwise.imp_of_mem (fun{a b} ha hb hab h=>hab (P9 G.nd (hl a ha) (hl b hb) h)) nd)
 ·obtain⟨a,ha,rfl⟩:=List.mem_map.mp ht;exact G.lt _ (D1 (hl a ha))
 ·unfold Rf.pick;rw[List.length_map];have:=List.Nodup.length_le_of_subset nd (l₂:=List.range ties.length) fun a ha=>List.mem_range.mpr (hl a ha);rw[List.length_range]at this;exact Nat.le_trans this G.len
theorem PB{ties L:List Nat}(hl:∀ a∈L,a<ties.length):amg es (pick ties L)=amg (amg es ties) L:=by
 unfold pick;show(L.map _).map _=L.map _;rw[List.map_map];exact List.map_congr_left fun a ha=>(Dk (hl a ha)).symm
structure RowsOk(n:Nat)(es:EE)(ties:List Nat)(R:List (List Nat)):Prop where
 len:R.length<=mostN (amg es ties) n
 ap:∀ r∈R,Apart es r
 sub:∀ r∈R,∀ t∈r,t∈ties
 cov:∀ t∈ties,∃ r∈R,t∈r
def Ak(n:Nat)(es:EE)(ties:List Nat):List Nat:=pick ties (Af (CT n (amg es ties)))
noncomputable def Ag(n:Nat)(es:EE):Nat->List Nat->List (List Nat)
 | 0,_=>[]
 | f+1,ties=>if mostN (amg es ties) n=0 then [] else if mostN (amg es ties) n % 2=1 then Ak n es ties::Ag n es f (ties.filter fun t=>decide (t∉Ak n es ties))
   else Ag n es f (pick ties (m7 n (amg es ties) 0))++Ag n es f (pick ties (m7 n (amg es ties) 1))
theorem MC(W:Web2 n es){ties:List Nat}(G:Gt es ties)(h:mostN (amg es ties) n=0):ties=[]:=by
 cases ties with
 | nil=>rfl
 | cons t r=>
   have he:=(G.web W).en (tieE es t) (by unfold amg;simp);have h1:=Au (amg es (t::r)) (n:=n) (p:=(tieE es t).1) (by omega)
   have h2:0<cntAt (amg es (t::r)) (tieE es t).1:=by
    rw[CH];exact List.countP_pos_iff.mpr ⟨t,List.mem_cons_self ..,endB_iff.mpr (.inl rfl)⟩
   omega
theorem MD(W:Web2 n es){ties:List Nat}(G:Gt es ties)(h:mostN (amg es ties) n=0):RowsOk n es ties []:=by
 have e:=MC W G h;subst e;exact⟨Nat.zero_le _,(fun _ h=>nomatch h),(fun _ h=>nomatch h),fun _ h=>nomatch h⟩
theorem JH(W:Web2 n es){ties:List Nat}(G:Gt es ties):Apart es (Ak n es ties)/\(∀ t∈Ak n es ties,t∈ties)/\∀ a∈Af (CT n (amg es ties)),a<ties.length:=by
 have R:=G9 (G.web W);have hl:∀ a∈Af (CT n (amg es ties)),a<ties.length:=fun a ha=>by have:=R.tl a ha;rwa [Dj]at this
 refine⟨fun t ht t' ht' p hp hp'=>?_,fun t ht=>?_,hl⟩
 ·obtain⟨a,ha,rfl⟩:=List.mem_map.mp ht;obtain⟨b,hb,rfl⟩:=List.mem_map.mp ht';rw[<-Dk (hl a ha)]at hp;rw[<-Dk (hl b hb)]at hp';rw[R.ap a ha b hb p hp hp']
 ·obtain⟨a,ha,rfl⟩:=List.mem_map.mp ht;exact D1 (hl a ha)
theorem Gt.off{ties:List Nat}(G:Gt es ties)(q:Nat->Bool):Gt es (ties.filter q):=⟨List.Pairwise.filter _ G.nd,fun t ht=>G.lt t (List.mem_filter.mp ht).1,Nat.le_trans (List.length_filter_le _ _) G.len⟩
theorem Hv{f q:Nat->Bool}{u:Nat}(hu:f u=true)(hq:q u=false):∀{l:List Nat},u∈l->l.countP (fun t=>f t&&q t)<l.countP f
 | t::r,h=>by
   rw[List.countP_cons,List.countP_cons];have mono:r.countP (fun t=>f t&&q t)<=r.countP f:=List.countP_mono_left fun t _ h=>(Bool.and_eq_true_iff.mp h).1;rcases List.mem_cons.mp h with e | h
   ·subst e;rw[hu,hq];simp only[Bool.and_false,Bool.false_eq_true,if_false,if_true];omega
   ·have:=Hv hu hq h;cases f t<;>cases q t<;>simp<;>omega
theorem Hw(W:Web2 n es){ties:List Nat}(G:Gt es ties)(h:0<mostN (amg es ties) n):mostN (amg es (ties.filter fun t=>decide (t∉Ak n es ties))) n+1<=mostN (amg es ties) n:=by
 have R:=G9 (G.web W);obtain⟨_,_,hl⟩:=JH W G;refine Nat.add_le_of_le_sub h (Di fun p hp=>?_);rw[CH,List.countP_filter];have h1:=Au (amg es ties) hp
 have h2:(ties.countP fun t=>w5 p (tieE es t)&&decide (t∉Ak n es ties))<=cntAt (amg es ties) p:=by
  rw[CH];exact List.countP_mono_left fun t _ h=>(Bool.and_eq_true_iff.mp h).1
 by_cases z:cntAt (amg es ties) p=mostN (amg es ties) n
 ·have hm:=R.all h p hp z;obtain⟨a,ha,hpa⟩:=List.mem_flatMap.mp hm
  have hpe:w5 p (tieE es (ties.getD a 0))=true:=by
   rw[<-Dk (hl a ha)];refine endB_iff.mpr ?_;simpa using hpa
  have hlt:(ties.countP fun t=>w5 p (tieE es t)&&decide (t∉Ak n es ties))<ties.countP fun t=>w5 p (tieE es t):=by
   exact Hv (f:=fun t=>w5 p (tieE es t)) (q:=fun t=>decide (t∉Ak n es ties)) hpe (decide_eq_false fun z=>z (List.mem_map.mpr ⟨a,ha,rfl⟩)) (D1 (hl a ha))
  rw[<-CH]at hlt;omega
 ·omega
theorem PD(W:Web2 n es){ties:List Nat}(G:Gt es ties)(h:0<mostN (amg es ties) n){R:List (List Nat)}(K:RowsOk n es (ties.filter fun t=>decide (t∉Ak n es ties)) R):RowsOk n es ties (Ak n es ties::R):=by
 obtain⟨h1,h2,_⟩:=JH W G;have h3:=Hw W G h;refine⟨by rw[List.length_cons];exact Nat.le_trans (Nat.add_le_add_right K.len 1) h3,fun r hr=>?_,fun r hr=>?_,fun t ht=>?_⟩
 ·rcases List.mem_cons.mp hr with rfl | hr
  ·exact h1
  ·exact K.ap r hr
 ·rcases List.mem_cons.mp hr with rfl | hr
  ·exact h2
  ·exact fun t ht=>(List.mem_filter.mp (K.sub r hr t ht)).1
 ·by_cases z:t∈Ak n es ties
  ·exact⟨_,List.mem_cons_self ..,z⟩
  ·obtain⟨r,hr,y⟩:=K.cov t (List.mem_filter.mpr ⟨ht,decide_eq_true z⟩);exact⟨r,List.mem_cons_of_mem _ hr,y⟩
theorem CI{ties:List Nat}(G:Gt es ties)(v:Nat):(∀ a∈m7 n (amg es ties) v,a<ties.length)/\Gt es (pick ties (m7 n (amg es ties) v)):=by
 have h:∀ a∈m7 n (amg es ties) v,a<ties.length:=fun a ha=>by have:=RN ha;rwa [Dj]at this
 exact⟨h,G.pick h (RM v)⟩
theorem CJ{ties:List Nat}(G:Gt es ties)(H:HalfOk n (amg es ties))(he:mostN (amg es ties) n % 2=0){v:Nat}(hv:v<2):mostN (amg es (pick ties (m7 n (amg es ties) v))) n<=mostN (amg es ties) n / 2:=by
 rw[PB (CI G v).1];exact MB H he hv
theorem ME{ties:List Nat}(G:Gt es ties)(H:HalfOk n (amg es ties))(he:mostN (amg es ties) n % 2=0){R R':List (List Nat)}(K:RowsOk n es (pick ties (m7 n (amg es ties) 0)) R)(K':RowsOk n es (pick ties (m7 n (amg es ties) 1)) R'):RowsOk n es ties (R++R'):=by
 have m0:=CJ G H he (v:=0) (by omega);have m1:=CJ G H he (v:=1) (by omega)
 have sub:∀ v,∀ t∈pick ties (m7 n (amg es ties) v),t∈ties:=fun v t ht=>by
  obtain⟨a,ha,rfl⟩:=List.mem_map.mp ht;exact D1 ((CI G v).1 a ha)
 refine⟨?_,fun r hr=>?_,fun r hr t ht=>?_,fun t ht=>?_⟩
 ·rw[List.length_append];have:=K.len;have:=K'.len;omega
 ·exact(List.mem_append.mp hr).elim (K.ap r) (K'.ap r)
 ·exact(List.mem_append.mp hr).elim (fun hr=>sub 0 t (K.sub r hr t ht)) (fun hr=>sub 1 t (K'.sub r hr t ht))
 ·obtain⟨a,ha,rfl⟩:=List.getElem_of_mem ht;have e:ties.getD a 0=ties[a]:=by rw[List.getD_eq_getElem?_getD,List.getElem?_eq_getElem ha];rfl
  have hm:∀ v,a∈m7 n (amg es ties) v->ties[a]∈pick ties (m7 n (amg es ties) v):=fun v h=>List.mem_map.mpr ⟨a,h,e⟩;rcases P8 H (t:=a) (by rw[Dj];exact ha) with z | z
  ·obtain⟨r,hr,y⟩:=K.cov _ (hm 0 z);exact⟨r,List.mem_append_left _ hr,y⟩
  ·obtain⟨r,hr,y⟩:=K'.cov _ (hm 1 z);exact⟨r,List.mem_append_right _ hr,y⟩
end
open PySem L2
theorem JI{keep:Sto->Prop}{g g2:Tg}{t t2:WT}{i2:WI}{e:WE}{ρ:EnvS}{Q:List SV->Sto->Prop}(mt:MonoT t)(mi2:MonoI i2)(mt2:MonoT t2)(me:Mono e)(I:Nat->List SV->Sto->Prop){xs:List SV}{S:Sto}(h0:I 0 [] S)(hk:∀ i ys S,I i ys S->keep S)
 (hs:∀ i x ys S,xs[i]?=some x->I i ys S->wTg g x ρ fun ρ2=>t ρ2 S fun b S1=>if b=true then i2 ρ2 S1 fun keep2 xs2 S2=>u4 keep2 g2 t2 e (I (i+1)) xs2 ρ2 ys S2 else I (i+1) ys S1) (hd:∀ ys S,I xs.length ys S->Q ys S):r6 keep g t g2 i2 t2 e ρ Q xs [] S:=by
 have go:∀(zs:List SV) (i:Nat) (ys:List SV) (S:Sto),xs.drop i=zs->i<=xs.length->I i ys S->r6 keep g t g2 i2 t2 e ρ Q zs ys S:=by
  intro zs
  induction zs with
  | nil=>
    intro i ys S e' hi h
    have:i=xs.length:=by
     have:=congrArg List.length e';rw[List.length_drop,List.length_nil]at this;omega
    subst this;unfold r6;exact⟨hk _ _ _ h,hd _ _ h⟩
  | cons y zs ih=>
    intro i ys S e' hi h;have hy:xs[i]?=some y:=by rw[<-List.head?_drop,e'];rfl
    have hlt:=(gM hy).1;have e2:xs.drop (i+1)=zs:=by rw[<-List.tail_drop,e'];rfl
    unfold r6;refine⟨hk _ _ _ h,j6 g (fun ρ2 q=>mt _ _ _ _ (fun b S1 q=>i4 (fun q=>mi2 _ _ _ _ (fun k2 x2 S2 q=>B3 mt2 me (fun ys' S3 q=>ih (i+1) ys' S3 e2 hlt q) _ _ _ _ q) q) (fun q=>ih (i+1) _ S1 e2 hlt q) q) q) (hs i y ys S hy h)⟩
 exact go xs 0 [] S rfl (Nat.zero_le _) h0
theorem JJ{keep:Sto->Prop}{g:Tg}{t:WT}{e:WE}{Q:List SV->Sto->Prop}(mt:MonoT t)(me:Mono e)(I:Nat->EnvS->List SV->Sto->Prop){xs:List SV}{ρ:EnvS}{ys:List SV}{S:Sto}(h0:I 0 ρ ys S)(hk:∀ i ρ ys S,I i ρ ys S->keep S)
 (hs:∀ i x ρ ys S,xs[i]?=some x->I i ρ ys S->wTg g x ρ fun ρ2=>t ρ2 S fun b S1=>if b=true then e ρ2 S1 fun y S2=>ys.length<big/\I (i+1) ρ2 (ys++[y]) S2 else I (i+1) ρ2 ys S1) (hd:∀ ρ ys S,I xs.length ρ ys S->Q ys S):u4 keep g t e Q xs ρ ys S:=by
 have go:∀(zs:List SV) (i:Nat) (ρ:EnvS) (ys:List SV) (S:Sto),xs.drop i=zs->i<=xs.length->I i ρ ys S->u4 keep g t e Q zs ρ ys S:=by
  intro zs
  induction zs with
  | nil=>
    intro i ρ ys S e' hi h
    have:i=xs.length:=by
     have:=congrArg List.length e';rw[List.length_drop,List.length_nil]at this;omega
    subst this;unfold u4;exact⟨hk _ _ _ _ h,hd _ _ _ h⟩
  | cons y zs ih=>
    intro i ρ ys S e' hi h;have hy:xs[i]?=some y:=by rw[<-List.head?_drop,e'];rfl
    have hlt:=(gM hy).1;have e2:xs.drop (i+1)=zs:=by rw[<-List.tail_drop,e'];rfl
    unfold u4;refine⟨hk _ _ _ _ h,j6 g (fun ρ2 q=>mt _ _ _ _ (fun b S1 q=>i4 (fun q=>me _ _ _ _ (fun v S2 q=>⟨q.1,ih (i+1) _ _ S2 e2 hlt q.2⟩) q) (fun q=>ih (i+1) _ _ S1 e2 hlt q) q) q) (hs i y ρ ys S hy h)⟩
 exact go xs 0 ρ ys S rfl (Nat.zero_le _) h0
section
variable{Δ:Nat->Sn}
def hv1(kc:Nat):Stm:=(.asg (.nm 1) (.comp2 ["place","couple"] ["web"] [0] (.nm 0) (.rng1 (.ix (.var 0) (.c (.int 0)))) .no (.nm 1) (.seq (.call kc (.cons (.var 2) (.cons (.var 0) .nil)))) .no (.var 1)))
def hv2(ks:Nat):Stm:=(.asg (.nm 2) (.call ks (.cons (.tup (.cons (.bi .len (.cons (.ix (.var 0) (.c (.int 1))) .nil)) (.cons (.bi .tuple (.cons (.var 1) .nil)) .nil))) .nil)))
def hvC(v:Int):Ex:=(.comp ["tie","side"] [] [] (.tup (.cons (.nm 0) (.cons (.nm 1) .nil))) (.enum (.var 2)) (.yes (.cmp .Eq (.var 1) (.c (.int v)))) (.var 0))
def hv3:Stm:=(.ret (.tup (.cons (hvC 0) (.cons (hvC 1) .nil))))
def KS(ks kc:Nat):List Stm:=[(.expr (.call ks (.cons (.var 0) .nil))),hv1 kc,hv2 ks,hv3]
def D2(s:Sn):Prop:=∀{n:Nat} {es:EE} {S:Sto} {Q:QE},Web2 n es->es.length<=90->(∀(l1 l2:Nat) (S':Sto),HalfOk n es->Gw S S'->S'[l1]?=some (.lst (natS (m7 n es 0)))->S'[l2]?=some (.lst (natS (m7 n es 1)))->Q (.tup [.loc l1,.loc l2]) S')->s [i3 n es] S Q
theorem PF{n:Nat}{es:EE}(W:Web2 n es):∀ ts,Odd es ts->False:=by
 obtain⟨c,c2,cn⟩:=W.two;exact P5 ⟨W.en,c2,cn⟩
theorem MF{s:Sn}(h:C2 s):Ht s:=fun H he hn q=>h H.en he hn (P5 H) fun l S' _ O=>q l S' O.g
theorem JK(hΔ:∀ f,MonoN (Δ f)){kc:Nat}(hc:KH (Δ kc)){n:Nat}{es:EE}{S:Sto}{D:EndsS}{o1 o2:Option SV}(hn:n<=60)(hl:es.length<=90)(q:∀(l:Nat) (S':Sto),Gw S S'->S'[l]?=some (.lst ((cplW n es).map pairS))->D.nx [some (i3 n es),some (.loc l),o2] S'):
 wSt Δ (hv1 kc) D [some (i3 n es),o1,o2] S:=by
 refine⟨_,rfl,_,_,rfl,rfl,_,rfl,⟨by omega,by omega⟩,?_⟩;refine JI (i7 hΔ _).2 (Ar hΔ _) (i7 hΔ _).2 (a8 hΔ _).1 (fun i ys S1=>Gw S S1/\i<=n/\ys=(cplW i es).map pairS) ⟨Gw.refl S,Nat.zero_le _,rfl⟩ (fun _ _ _ _=>trivial) ?_ ?_
 ·rintro i x ys S1 hx ⟨G1,_,rfl⟩;obtain⟨rfl,hi⟩:=AT hx;rw[Int.zero_add]at hi ⊢;have hi:i<n:=by omega
  refine⟨_,rfl,_,rfl,hc (by omega) hi fun l S2 G2 hl2 h2=>⟨_,c5 h2,?_⟩⟩;refine JJ (i7 hΔ _).2 (a8 hΔ _).1 (fun j ρ ys S3=>∃ o,ρ=[some (.int (i:Int)),o,some (i3 n es)]/\S3=S2/\ys=(cplW i es++(B9 (c9 es i es.length)).take j).map pairS) ⟨none,rfl,rfl,by simp⟩ (fun _ _ _ _ h=>by obtain⟨_,_,h,_⟩:=h;rw[h];exact rfl) ?_ ?_
  ·rintro j x ρ ys S3 hx ⟨o,rfl,rfl,rfl⟩;obtain⟨e,he,rfl⟩:=At hx;have b1:=Hu (n:=i) (es:=es) (by omega) hl;have b2:=Cw (c9 es i es.length);have b3:=BX es i es.length;refine⟨_,rfl,by rw[List.length_map,List.length_append,List.length_take];show _<100000;omega,_,rfl,rfl,?_⟩;rw[List.take_succ,he];simp
  ·rintro ρ ys S3 ⟨o,rfl,rfl,rfl⟩;refine⟨G1.trans G2,hi,?_⟩;rw[List.length_map,List.take_length];unfold cplW;rw[List.range_succ,List.flatMap_append];simp
 ·rintro ys S1 ⟨G1,_,rfl⟩;rw[B4,show((n:Int) - 0).toNat=n by omega];exact q _ _ G1.push c8
theorem FK(n:Nat)(es:EE)(v:Nat){i:Nat}(h:i<es.length):((List.range (i+1)).filter (onH n es v))=(List.range i).filter (onH n es v)++if onH n es v i=true then [i] else []:=by
 rw[List.range_succ,List.filter_append]
 congr 1
 rw[List.filter_cons];rfl
theorem Hx(hΔ:∀ f,MonoN (Δ f)){n k:Nat}{es:EE}{S:Sto}{Q:QE}{o0 o1:Option SV}(v:Nat)(vi:Int)(hvi:vi=v)(hl:es.length<=90)(H:HalfOk n es)(hS:S[k]?=some (.lst (optsS (hsF n es))))(hlen:(hsF n es).length=es.length)(q:Q (.loc S.length) (S++[.lst (natS (m7 n es v))])):
 (wEx Δ (hvC vi)).1 [o0,o1,some (.loc k)] S Q:=by
 subst hvi;refine⟨_,rfl,_,c5 hS,?_⟩;refine l9 (i7 hΔ _).2 (a8 hΔ _).1 (fun i ys S3=>S3=S/\ys=natS ((List.range i).filter (onH n es v))) ⟨rfl,rfl⟩ (fun _ _ _ h=>by rw[h.1];exact rfl) ?_ ?_
 ·rintro i x ys S3 hx ⟨rfl,rfl⟩;obtain⟨y,hy,rfl⟩:=EH hx;have hi:i<es.length:=by have:=(gM hy).1;unfold optsS at this;rw[List.length_map,hlen]at this;exact this
  obtain⟨w,hw,hs⟩:=H.all i hi;have hy2:=i6 hs;rw[hy2]at hy;have hy:=(oj hy).symm;subst hy;have hf:=List.length_filter_le (onH n es v) (List.range i);rw[List.length_range]at hf
  have on:onH n es v i=decide (w=v):=by
   unfold onH;rw[hs];by_cases z:w=v
   ·subst z;simp
   ·rw[decide_eq_false z,decide_eq_false (fun y=>z (oj (oj y)))]
  refine⟨_,rfl,_,rfl,ifD (fun z=>?_) (fun z=>?_)⟩
  ·have z:w=v:=Int.natCast_inj.mp z;refine⟨_,rfl,by rw[e6];show _<100000;omega,rfl,?_⟩;rw[FK n es v hi,on,decide_eq_true z,if_pos rfl,j9];rfl
  ·have z:w≠v:=fun y=>z (by show((w:Nat):Int)=((v:Nat):Int);rw[y]);refine⟨rfl,?_⟩;rw[FK n es v hi,on,decide_eq_false z,if_neg (by decide),List.append_nil]
 ·rintro ys S3 ⟨rfl,rfl⟩;rw[Dc,show(optsS (hsF n es)).length=es.length by unfold optsS;rw[List.length_map,hlen]];exact q
theorem UM{e:Ex}{D:EndsS}{ρ:EnvS}{S:Sto}(h:(wEx Δ e).1 ρ S D.rt):wSs Δ [.ret e] D ρ S:=h
theorem RO{a b:Ex}{ρ:EnvS}{S:Sto}{Q:QE}(h:(wEx Δ a).1 ρ S fun x S1=>(wEx Δ b).1 ρ S1 fun y S2=>2<=big/\Q (.tup [x,y]) S2):(wEx Δ (.tup (.cons a (.cons b .nil)))).1 ρ S Q:=h
theorem PH(hΔ:∀ f,MonoN (Δ f)){n k:Nat}{es:EE}{S:Sto}{Q:QE}{o0 o1:Option SV}(hl:es.length<=90)(H:HalfOk n es)(hS:S[k]?=some (.lst (optsS (hsF n es))))(hlen:(hsF n es).length=es.length)(q:Q (.tup [.loc S.length,.loc (S++[SO.lst (natS (m7 n es 0))]).length]) ((S++[SO.lst (natS (m7 n es 0))])++[.lst (natS (m7 n es 1))])):
 wSs Δ [hv3] (Ae Q) [o0,o1,some (.loc k)] S:=
 UM (RO (Hx hΔ 0 0 rfl hl H hS hlen (Hx hΔ 1 1 rfl hl H (f6 hS) hlen ⟨by decide,q⟩)))
theorem MG(hΔ:∀ f,MonoN (Δ f)){ks kc:Nat}(hs:C2 (Δ ks))(hc:KH (Δ kc)){D:Df}(hb:D.body=KS ks kc)(hN:D.N.length=3)(hp:D.ps.length=1):D2 (i8 Δ D):=by
 intro n es S Q W hl q;have hn:=W.few;unfold i8;rw[hb,hN];refine⟨hp.symm,_,rfl,hs W.en (by have:=W.len;omega) (by omega) (PF W) fun l0 S0 _ O0=>?_⟩;refine JK hΔ hc hn hl fun l S1 G1 h1=>?_;have cl:=Hu (n:=n) (es:=es) hn hl;refine⟨_,rfl,_,_,rfl,rfl,_,rfl,_,rfl,_,c5 h1,by show 2<=big;decide,?_⟩;refine UH (y:=i3 es.length (cplW n es)) ?_ (hs GA (by omega) (by omega) (RL W) fun k S2 N O=>?_)
 ·unfold i3;rw[List.length_map]
 ·have H:HalfOk n es:=RJ N fun e he=>by have:=GA e he;omega
  have hlen:(hsF n es).length=es.length:=N.len;exact PH hΔ hl H O.at' hlen (q _ _ _ H ((O0.g.trans (G1.trans O.g)).push.push) (f6 c8) c8)
end
open PySem L2
section
variable{Δ:Nat->Sn}
structure Rw(S:Sto)(k:Nat)(ls:List Nat)(R:List (List Nat)):Prop where
 at':S[k]?=some (SO.lst (ls.map SV.loc))
 len:ls.length=R.length
 rows:∀(i l:Nat) (r:List Nat),ls[i]?=some l->R[i]?=some r->S[l]?=some (SO.lst (natS r))
theorem Rw.mono{S S':Sto}{k:Nat}{ls:List Nat}{R:List (List Nat)}(h:Rw S k ls R)(g:Gw S S'):Rw S' k ls R:=⟨g.keep _ _ h.at',h.len,fun i l r a b=>g.keep _ _ (h.rows i l r a b)⟩
theorem Rw.app{S S':Sto}{k k' j:Nat}{ls ls':List Nat}{R R':List (List Nat)}(h:Rw S k ls R)(h':Rw S k' ls' R')(g:Gw S S')(hj:S'[j]?=some (SO.lst (ls.map SV.loc++ls'.map SV.loc))):Rw S' j (ls++ls') (R++R'):=by
 refine⟨by rw[List.map_append];exact hj,by rw[List.length_append,List.length_append,h.len,h'.len],fun i l r a b=>g.keep _ _ ?_⟩;by_cases z:i<ls.length
 ·rw[List.getElem?_append_left z]at a;rw[List.getElem?_append_left (by rw[<-h.len];exact z)]at b;exact h.rows i l r a b
 ·rw[List.getElem?_append_right (by omega)]at a;rw[List.getElem?_append_right (by rw[<-h.len];omega),<-h.len]at b;exact h'.rows _ l r a b
def pkE:Ex:=(.ix (.var 1) (.var 0))
theorem Cg(hΔ:∀ f,MonoN (Δ f)){lj lt:Nat}{L ties:List Nat}{S:Sto}{Q:List SV->Sto->Prop}{ρ:EnvS}(hρ:ρ=[none,some (.loc lt)])(hj:S[lj]?=some (SO.lst (natS L)))(ht:S[lt]?=some (SO.lst (natS ties)))(hl:∀ a∈L,a<ties.length)(hb:L.length<=90)(q:Q (natS (pick ties L)) S):
 w9 (DL (.loc lj) S) (.nm 0) (wEo Δ .no).2 (wEx Δ pkE).1 ρ Q (natS L) [] S:=by
 subst hρ;refine l9 (i7 hΔ _).2 (a8 hΔ _).1 (fun i ys S2=>S2=S/\ys=natS ((pick ties L).take i)) ⟨rfl,rfl⟩ (fun _ _ _ h=>by rw[h.1];exact rfl) ?_ ?_
 ·rintro i x ys S2 hx ⟨rfl,rfl⟩;obtain⟨a,ha,rfl⟩:=AK hx;have hil:=(gM ha).1;have hal:=hl a (List.mem_of_getElem? ha);have e:ties[a]?=some (ties.getD a 0):=by rw[List.getD_eq_getElem?_getD,List.getElem?_eq_getElem hal];rfl
  have hp:(pick ties L)[i]?=some (ties.getD a 0):=by unfold pick;rw[List.getElem?_map,ha];rfl
  refine⟨_,rfl,_,rfl,_,_,c5 ht,f8 (AZ e),?_,rfl,?_⟩
  ·rw[e6,List.length_take];show _<100000;omega
  ·rw[List.take_succ,hp,j9];rfl
 ·rintro ys S2 ⟨rfl,rfl⟩;rw[e6,show L.length=(pick ties L).length by unfold pick;rw[List.length_map],List.take_length];exact q
def Vq:Ex:=(.comp ["tie"] ["row"] [4] (.nm 0) (.seq (.var 1)) (.yes (.cmp .NotIn (.var 0) (.var 1))) (.var 0))
theorem MH(hΔ:∀ f,MonoN (Δ f)){lr lt:Nat}{row ties:List Nat}{S:Sto}{Q:QE}{o0 o2 o3 o5 o6:Option SV}(hr:S[lr]?=some (SO.lst (natS row)))(ht:S[lt]?=some (SO.lst (natS ties)))(hb:ties.length<=90)(q:Q (.loc S.length) (S++[SO.lst (natS (ties.filter fun t=>decide (t∉row)))])):
 (wEx Δ Vq).1 [o0,some (.loc lt),o2,o3,some (.loc lr),o5,o6] S Q:=by
 refine⟨_,rfl,_,c5 ht,?_⟩;refine l9 (i7 hΔ _).2 (a8 hΔ _).1 (fun i ys S2=>S2=S/\ys=natS ((ties.take i).filter fun t=>decide (t∉row))) ⟨rfl,rfl⟩ (fun _ _ _ h=>by rw[h.1];exact rfl) ?_ ?_
 ·rintro i x ys S2 hx ⟨rfl,rfl⟩;obtain⟨t,hti,rfl⟩:=AK hx;have hf:=List.length_filter_le (fun t=>decide (t∉row)) (ties.take i);rw[List.length_take]at hf
  have es:(ties.take (i+1)).filter (fun t=>decide (t∉row))=(ties.take i).filter (fun t=>decide (t∉row))++if decide (t∉row)=true then [t] else []:=by
   rw[List.take_succ,hti,List.filter_append]
   congr 1
   show List.filter _ [t]=_;rw[List.filter_cons];rfl
  refine⟨_,rfl,_,rfl,?_⟩;show match F1 (.loc lr) S2 with | some ms=>_ | none=>_
  rw[OP hr];refine⟨rfl,_,c5 hr,DD _,_,rfl,?_⟩;show if (!inS (.int t) (natS row))=true then _ else _
  rw[UJ,es];by_cases z:t∈row
  ·rw[decide_eq_true z,decide_eq_false (fun y=>y z)];refine ifF rfl ⟨rfl,?_⟩;rw[if_neg (by decide),List.append_nil]
  ·rw[decide_eq_false z,decide_eq_true z];refine ifT rfl ⟨_,rfl,by rw[e6];show _<100000;omega,rfl,?_⟩;rw[if_pos rfl,j9];rfl
 ·rintro ys S2 ⟨rfl,rfl⟩;rw[e6,List.take_length];exact q
def rb1(ko:Nat):Stm:=(.asg (.nm 2) (.call ko (.cons (.var 0) (.cons (.var 1) .nil))))
def rb2(km:Nat):Stm:=(.asg (.nm 3) (.call km (.cons (.var 2) .nil)))
def rb3:Stm:=(.iff (.cmp .Eq (.var 3) (.c (.int 0))) [(.ret (.lst .nil))] [])
def rb4(kf:Nat):Stm:=(.asg (.nm 4) (.comp ["at"] ["ties"] [1] (.nm 0) (.seq (.call kf (.cons (.var 2) .nil))) .no pkE))
def rb5(kr:Nat):Stm:=(.ret (.op .Add (.lst (.cons (.var 4) .nil)) (.call kr (.cons (.var 0) (.cons Vq .nil)))))
def rb6(kh:Nat):Stm:=(.asg (.tup (.cons (.nm 5) (.cons (.nm 6) .nil))) (.call kh (.cons (.var 2) .nil)))
def rb7(kr:Nat):Stm:=(.ret (.op .Add (.call kr (.cons (.var 0) (.cons (.comp ["at"] ["ties"] [1] (.nm 0) (.seq (.var 5)) .no pkE) .nil))) (.call kr (.cons (.var 0) (.cons (.comp ["at"] ["ties"] [1] (.nm 0) (.seq (.var 6)) .no pkE) .nil)))))
def SL(ko km kf kr kh:Nat):List Stm:=[rb1 ko,rb2 km,rb3,(.iff (.cmp .Eq (.op .Mod (.var 3) (.c (.int 2))) (.c (.int 1))) [rb4 kf,rb5 kr] []),rb6 kh,rb7 kr]
def DH(f:Nat)(s:Sn):Prop:=∀{n l:Nat} {es:EE} {ties:List Nat} {S:Sto} {Q:QE},Web2 n es->Gt es ties->S[l]?=some (SO.lst (natS ties))->mostN (amg es ties) n<f->(∀(k:Nat) (ls:List Nat) (S':Sto),RowsOk n es ties (Ag n es f ties)->Gw S S'->Rw S' k ls (Ag n es f ties)->Q (.loc k) S')->s [i3 n es,.loc l] S Q
theorem D3{n:Nat}{es:EE}{ties:List Nat}(G:Gt es ties):mostN (amg es ties) n<=90:=by
 refine Di fun p _=>?_;rw[CH];exact Nat.le_trans (List.countP_le_length) G.len
theorem MI(hΔ:∀ f,MonoN (Δ f)){kf kr f:Nat}(hf:Dh (Δ kf))(hr:DH f (Δ kr)){n l:Nat}{es:EE}{ties:List Nat}{S:Sto}{D:EndsS}{o4 o5 o6:Option SV}(W:Web2 n es)(G:Gt es ties)(hl:S[l]?=some (SO.lst (natS ties)))(hm:mostN (amg es ties) n<f+1)(h0:mostN (amg es ties) n≠0)(h1:mostN (amg es ties) n % 2=1)
 (q:∀(k:Nat) (ls:List Nat) (S':Sto),RowsOk n es ties (Ag n es (f+1) ties)->Gw S S'->Rw S' k ls (Ag n es (f+1) ties)->D.rt (.loc k) S'):wSs Δ [rb4 kf,rb5 kr] D [some (i3 n es),some (.loc l),some (i3 n (amg es ties)),some (.int (mostN (amg es ties) n:Nat)),o4,o5,o6] S:=by
 obtain⟨_,_,hal⟩:=JH W G;have R0:=G9 (G.web W);have om:=Hw W G (by omega);refine⟨_,rfl,hf (G.web W) fun lj S1 G1 hlj hj=>⟨_,c5 hj,?_⟩⟩;refine Cg hΔ rfl hj (G1.keep _ _ hl) hal (by have:=R0.few;omega) ?_;have G2:Gw S (S1++[SO.lst (natS (Ak n es ties))]):=G1.push;have hrow:(S1++[SO.lst (natS (Ak n es ties))])[S1.length]?=some (SO.lst (natS (Ak n es ties))):=c8;have g1:=G1.len;have hl2:=G2.keep _ _ hl;generalize S1.length=lr at *;show wSs Δ [rb5 kr] D [some (i3 n es),some (.loc l),some (i3 n (amg es ties)),some (.int (mostN (amg es ties) n:Nat)),some (.loc lr),o5,o6] (S1++[SO.lst (natS (Ak n es ties))]);generalize S1++[SO.lst (natS (Ak n es ties))]=S2 at *;refine⟨_,rfl,by show 1<=big;decide,_,rfl,?_⟩;have h3:(S2++[SO.lst [.loc lr]])[S2.length]?=some (SO.lst [.loc lr]):=c8;have G3:Gw S (S2++[SO.lst [.loc lr]]):=G2.push;have hrow3:=f6 (o:=SO.lst [.loc lr]) hrow;have hl3:=f6 (o:=SO.lst [.loc lr]) hl2;generalize S2.length=l3 at *;generalize S2++[SO.lst [.loc lr]]=S3 at *;refine MH hΔ hrow3 hl3 G.len ?_;have h4:(S3++[SO.lst (natS (ties.filter fun t=>decide (t∉Ak n es ties)))])[S3.length]?=some (SO.lst (natS (ties.filter fun t=>decide (t∉Ak n es ties)))):=c8;have G4:Gw S3 (S3++[SO.lst (natS (ties.filter fun t=>decide (t∉Ak n es ties)))]):=(Gw.refl S3).push;generalize S3.length=l4 at *;generalize S3++[SO.lst (natS (ties.filter fun t=>decide (t∉Ak n es ties)))]=S4 at *;refine hr W (G.off _) h4 (by omega) fun k ls S5 K G5 R5=>?_;have G45:=G4.trans G5
 have e1:Ag n es (f+1) ties=Ak n es ties::Ag n es f (ties.filter fun t=>decide (t∉Ak n es ties)):=by
  show(if _ then _ else _)=_;rw[if_neg h0,if_pos h1]
 have R1:Rw S5 l3 [lr] [Ak n es ties]:=⟨G45.keep _ _ h3,rfl,fun i a r ha hb=>by
  cases i with
  | zero=>cases ha;cases hb;exact G45.keep _ _ hrow3
  | succ i=>cases ha⟩
 refine⟨_,_,R1.at',R5.at',?_,?_⟩
 ·have h6:=D3 (n:=n) (G.off fun t=>decide (t∉Ak n es ties));have h7:=K.len;rw[List.length_map,List.length_map,R5.len];show 1+_<=100000;omega
 ·refine q _ ([lr]++ls) _ (by rw[e1];exact PD W G (by omega) K) (G3.trans (G45.push)) ?_;rw[e1];exact R1.app R5 (Gw.refl S5).push c8
theorem JL(hΔ:∀ f,MonoN (Δ f)){kh kr f:Nat}(hh:D2 (Δ kh))(hr:DH f (Δ kr)){n l:Nat}{es:EE}{ties:List Nat}{S:Sto}{D:EndsS}{o4 o5 o6:Option SV}(W:Web2 n es)(G:Gt es ties)(hl:S[l]?=some (SO.lst (natS ties)))(hm:mostN (amg es ties) n<f+1)(h0:mostN (amg es ties) n≠0)(h1:mostN (amg es ties) n % 2≠1)
 (q:∀(k:Nat) (ls:List Nat) (S':Sto),RowsOk n es ties (Ag n es (f+1) ties)->Gw S S'->Rw S' k ls (Ag n es (f+1) ties)->D.rt (.loc k) S'):wSs Δ [rb6 kh,rb7 kr] D [some (i3 n es),some (.loc l),some (i3 n (amg es ties)),some (.int (mostN (amg es ties) n:Nat)),o4,o5,o6] S:=by
 refine⟨_,rfl,hh (G.web W) (by rw[Dj];exact G.len) fun l1 l2 S1 H G1 a1 a2=>?_⟩;have he:mostN (amg es ties) n % 2=0:=by omega
 have m0:=CJ G H he (v:=0) (by omega);have m1:=CJ G H he (v:=1) (by omega);obtain⟨p0,q0⟩:=CI (n:=n) G 0;obtain⟨p1,q1⟩:=CI (n:=n) G 1;have n0:(m7 n (amg es ties) 0).length<=90:=by have:=q0.len;unfold pick at this;rwa [List.length_map]at this
 have n1:(m7 n (amg es ties) 1).length<=90:=by have:=q1.len;unfold pick at this;rwa [List.length_map]at this
 show wSs Δ [rb7 kr] D [some (i3 n es),some (.loc l),some (i3 n (amg es ties)),some (.int (mostN (amg es ties) n:Nat)),o4,some (.loc l1),some (.loc l2)] S1;refine⟨_,rfl,_,rfl,_,c5 a1,?_⟩;refine Cg hΔ rfl a1 (G1.keep _ _ hl) p0 n0 ?_;refine hr W q0 c8 (by omega) fun k ls S2 K G2 R2=>?_;have G2':=((Gw.refl S1).push (o:=SO.lst (natS (pick ties (m7 n (amg es ties) 0))))).trans G2;refine⟨_,rfl,_,rfl,_,c5 (G2'.keep _ _ a2),?_⟩;refine Cg hΔ rfl (G2'.keep _ _ a2) (G2'.keep _ _ (G1.keep _ _ hl)) p1 n1 ?_;refine hr W q1 c8 (by omega) fun k' ls' S3 K' G3 R3=>?_;have G3':=((Gw.refl S2).push (o:=SO.lst (natS (pick ties (m7 n (amg es ties) 1))))).trans G3
 have e1:Ag n es (f+1) ties=Ag n es f (pick ties (m7 n (amg es ties) 0))++Ag n es f (pick ties (m7 n (amg es ties) 1)):=by
  show(if _ then _ else _)=_;rw[if_neg h0,if_neg h1]
 have R2':=R2.mono G3';refine⟨_,_,R2'.at',R3.at',?_,?_⟩
 ·have h6:=D3 (n:=n) q0;have h7:=D3 (n:=n) q1;have h8:=K.len;have h9:=K'.len;rw[List.length_map,List.length_map,R2'.len,R3.len];show _<=100000;omega
 ·refine q _ (ls++ls') _ (by rw[e1];exact ME G H he K K') ((G1.trans G2').trans G3'.push) ?_;rw[e1];exact R2'.app R3 (Gw.refl S3).push c8
theorem RP(hΔ:∀ f,MonoN (Δ f)){ko km kf kr kh f:Nat}(ho:J9 (Δ ko))(hmo:G8 (Δ km))(hf:Dh (Δ kf))(hh:D2 (Δ kh))(hr:DH f (Δ kr)){D:Df}(hb:D.body=SL ko km kf kr kh)(hN:D.N.length=7)(hp:D.ps.length=2):DH (f+1) (i8 Δ D):=by
 intro n l es ties S Q W G hl hm q;unfold i8;rw[hb,hN];refine⟨hp.symm,_,rfl,_,rfl,ho hl (by have:=G.len;omega) G.lt fun S1 G1=>?_⟩;refine⟨_,rfl,hmo (G.web W).en (by have:=W.few;omega) fun S2 G2=>?_⟩;have G12:=G1.trans G2;refine⟨_,rfl,_,rfl,ifD (fun z=>?_) (fun z=>?_)⟩
 ·have z:mostN (amg es ties) n=0:=Int.natCast_inj.mp z
  have e1:Ag n es (f+1) ties=[]:=by
   show(if _ then _ else _)=_;rw[if_pos z]
  refine⟨by show 0<=big;decide,q _ [] _ (by rw[e1];exact MD W G z) G12.push ?_⟩;rw[e1];exact⟨c8,rfl,fun i a r ha=>by cases ha⟩
 ·have z:mostN (amg es ties) n≠0:=fun y=>z (by show((mostN (amg es ties) n:Nat):Int)=0;rw[y];rfl);refine m3 ?_;refine⟨_,rfl,(by show(0:Int)<2;decide),_,rfl,ifD (fun y=>?_) (fun y=>m3 ?_)⟩
  ·have y:mostN (amg es ties) n % 2=1:=by have y:((mostN (amg es ties) n:Nat):Int) % 2=1:=y;omega
   exact MI hΔ hf hr W G (G12.keep _ _ hl) hm z y fun k ls S' a b c=>q k ls S' a (G12.trans b) c
  ·have y:mostN (amg es ties) n % 2≠1:=fun x=>y (by show((mostN (amg es ties) n:Nat):Int) % 2=1;omega);exact JL hΔ hh hr W G (G12.keep _ _ hl) hm z y fun k ls S' a b c=>q k ls S' a (G12.trans b) c
end
open PySem L2
def BO(h:Nat)(row:List Nat)(hs:List (Option Nat)):List (Option Nat):=row.foldl (fun hs t=>hs.set t (some h)) hs
theorem DI(h:Nat):∀(row:List Nat) (hs:List (Option Nat)),(BO h row hs).length=hs.length
 | [],_=>rfl
 | t::r,hs=>by show(BO h r (hs.set t (some h))).length=_;rw[DI h r,List.length_set]
theorem ET(h:Nat):∀(row:List Nat) (hs:List (Option Nat)) (t:Nat),t<hs.length->(BO h row hs)[t]?=if t∈row then some (some h) else hs[t]?
 | [],_,_,_=>by simp[BO]
 | u::r,hs,t,ht=>by
   show(BO h r (hs.set u (some h)))[t]?=_;rw[ET h r _ t (by rw[List.length_set];exact ht)];by_cases z:t∈r
   ·rw[if_pos z,if_pos (List.mem_cons_of_mem _ z)]
   ·rw[if_neg z];by_cases y:t=u
    ·subst y;rw[if_pos (List.mem_cons_self ..),List.getElem?_set_self ht]
    ·rw[if_neg (fun x=>(List.mem_cons.mp x).elim y z),List.getElem?_set_ne (Ne.symm y)]
def Av(m:Nat)(R:List (List Nat)):Nat->List (Option Nat)
 | 0=>List.replicate m none
 | i+1=>BO i (R.getD i []) (Av m R i)
theorem AA(m:Nat)(R:List (List Nat)):∀ i,(Av m R i).length=m
 | 0=>List.length_replicate
 | i+1=>by show(BO _ _ _).length=_;rw[DI,AA m R i]
theorem CK{m:Nat}{R:List (List Nat)}:∀(i t h:Nat),(Av m R i)[t]?=some (some h)->h<i/\t∈R.getD h []
 | 0,t,h,e=>by
   have:=List.mem_of_getElem? e;rw[show Av m R 0=List.replicate m none from rfl,List.mem_replicate]at this;cases this.2
 | i+1,t,h,e=>by
   have ht:t<m:=by have:=(gM e).1;rwa [AA]at this
   have e:(BO i (R.getD i []) (Av m R i))[t]?=some (some h):=e;rw[ET _ _ _ _ (by rw[AA];exact ht)]at e;by_cases z:t∈R.getD i []
   ·rw[if_pos z]at e;have e:=oj (oj e);subst e;exact⟨Nat.lt_succ_self _,z⟩
   ·rw[if_neg z]at e;obtain⟨a,b⟩:=CK i t h e;exact⟨by omega,b⟩
theorem EU{m:Nat}{R:List (List Nat)}{t:Nat}(ht:t<m):∀(i h:Nat),h<i->t∈R.getD h []->∃ h',(Av m R i)[t]?=some (some h')
 | i+1,h,hh,hm=>by
   show ∃ h',(BO i (R.getD i []) (Av m R i))[t]?=some (some h');rw[ET _ _ _ _ (by rw[AA];exact ht)];by_cases z:t∈R.getD i []
   ·exact⟨i,if_pos z⟩
   ·rw[if_neg z];have:h≠i:=fun y=>z (y▸hm);exact EU ht i h (by omega) hm
structure HueOk(n:Nat)(es:EE)(hs:List (Option Nat)):Prop where
 len:hs.length=es.length
 all:∀ t,t<es.length->∃ h,hs[t]?=some (some h)/\h<mostN es n
 ap:∀ t u h p,hs[t]?=some (some h)->hs[u]?=some (some h)->(p=(tieE es t).1\/p=(tieE es t).2)->(p=(tieE es u).1\/p=(tieE es u).2)->t=u
theorem KU(es:EE):amg es (List.range es.length)=es:=by
 refine List.ext_getElem? fun i=>?_;unfold amg;rw[List.getElem?_map];by_cases h:i<es.length
 ·rw[List.getElem?_range h,A8 h];rfl
 ·rw[List.getElem?_eq_none (by rw[List.length_range];omega),List.getElem?_eq_none (by omega)];rfl
theorem PJ{es:EE}(h:es.length<=90):Gt es (List.range es.length):=⟨List.nodup_range,fun t ht=>List.mem_range.mp ht,by rw[List.length_range];exact h⟩
noncomputable def BP(n:Nat)(es:EE):List (List Nat):=Ag n es 91 (List.range es.length)
noncomputable def DR(n:Nat)(es:EE):List (Option Nat):=Av es.length (BP n es) (BP n es).length
theorem UN{n:Nat}{es:EE}(K:RowsOk n es (List.range es.length) (BP n es)):HueOk n es (DR n es):=by
 have kl:=K.len;rw[KU]at kl
 have row:∀{h:Nat},h<(BP n es).length->(BP n es).getD h []∈BP n es:=fun{h} hh=>by
  rw[List.getD_eq_getElem?_getD,List.getElem?_eq_getElem hh];exact List.getElem_mem hh
 refine⟨AA _ _ _,fun t ht=>?_,fun t u h p a b hp hp'=>?_⟩
 ·obtain⟨r,hr,htr⟩:=K.cov t (List.mem_range.mpr ht);obtain⟨j,hj,rfl⟩:=List.getElem_of_mem hr;obtain⟨h,hh⟩:=EU (R:=BP n es) ht (BP n es).length j hj (by rw[List.getD_eq_getElem?_getD,List.getElem?_eq_getElem hj];exact htr);have:=(CK _ _ _ hh).1;exact⟨h,hh,by omega⟩
 ·obtain⟨a1,a2⟩:=CK _ _ _ a;obtain⟨b1,b2⟩:=CK _ _ _ b;exact K.ap _ (row a1) t a2 u b2 p hp hp'
section
variable{Δ:Nat->Sn}
def bh3:Stm:=(.loop (.nm 4) (.seq (.var 3)) [(.put (.var 1) (.var 4) (.var 2))])
def Vr(ks kr:Nat):List Stm:=[(.expr (.call ks (.cons (.var 0) .nil))),(.asg (.nm 1) (.op .Mult (.lst (.cons (.c .non) .nil)) (.bi .len (.cons (.ix (.var 0) (.c (.int 1))) .nil)))),(.loop (.tup (.cons (.nm 2) (.cons (.nm 3) .nil))) (.enum (.call kr (.cons (.var 0) (.cons (.lrng1 (.bi .len (.cons (.ix (.var 0) (.c (.int 1))) .nil))) .nil)))) [bh3]),(.ret (.var 1))]
def SM(s:Sn):Prop:=∀{n:Nat} {es:EE} {S:Sto} {Q:QE},Web2 n es->es.length<=90->(∀(l:Nat) (S':Sto),HueOk n es (DR n es)->Gw S S'->S'[l]?=some (SO.lst (optsS (DR n es)))->Q (.loc l) S')->s [i3 n es] S Q
theorem EV{S:Sto}{k:Nat}{o:SO}(h:S[k]?=some o):S.set k o=S:=by
 refine List.ext_getElem? fun i=>?_;by_cases z:k=i
 ·subst z;rw[j7 h,h]
 ·rw[j8 z]
theorem PL(hΔ:∀ f,MonoN (Δ f)){n lh lr i:Nat}{es:EE}{row:List Nat}{hs:List (Option Nat)}{S:Sto}{D:EndsS}{o4:Option SV}(ne:lh≠lr)(hh:S[lh]?=some (SO.lst (optsS hs)))(hr:S[lr]?=some (SO.lst (natS row)))(hl:∀ t∈row,t<hs.length)
 (q:∀(o4:Option SV),D.nx [some (i3 n es),some (.loc lh),some (.int (i:Int)),some (.loc lr),o4] (S.set lh (SO.lst (optsS (BO i row hs))))):wSs Δ [bh3] D [some (i3 n es),some (.loc lh),some (.int (i:Int)),some (.loc lr),o4] S:=by
 refine⟨_,rfl,_,c5 hr,?_⟩;refine BU (j4 hΔ _) (fun j ρ S1=>∃ o4,ρ=[some (i3 n es),some (.loc lh),some (.int (i:Int)),some (.loc lr),o4]/\S1=S.set lh (SO.lst (optsS (BO i (row.take j) hs)))) ⟨o4,rfl,?_⟩ (fun j ρ S1 h=>?_) ?_ ?_
 ·rw[List.take_zero];exact(EV hh).symm
 ·obtain⟨_,_,rfl⟩:=h;show(S.set lh _)[lr]?=S[lr]?;rw[j8 ne]
 ·rintro j x ρ S1 E hn _ hx ⟨o,rfl,rfl⟩;obtain⟨t,ht,rfl⟩:=AK hx;have htl:=hl t (List.mem_of_getElem? ht);refine⟨_,rfl,_,rfl,_,rfl,_,t,j7 hh,Cf (by rw[m9,DI];exact htl),?_⟩;refine hn _ _ ⟨_,rfl,?_⟩;rw[List.set_set,CB]
  congr 3
  rw[List.take_succ,ht];unfold BO;rw[List.foldl_append];rfl
 ·rintro ρ S1 ⟨o,rfl,rfl⟩;rw[e6,List.take_length];exact q o
theorem UO(hΔ:∀ f,MonoN (Δ f)){ks kr:Nat}(hs:C2 (Δ ks))(hr:DH 91 (Δ kr)){D:Df}(hb:D.body=Vr ks kr)(hN:D.N.length=5)(hp:D.ps.length=1):SM (i8 Δ D):=by
 intro n es S Q W hl q;have hn:=W.few;unfold i8;rw[hb,hN];refine⟨hp.symm,_,rfl,hs W.en (by have:=W.len;omega) (by omega) (PF W) fun l0 S0 _ O0=>?_⟩;have G0:=O0.g;refine⟨by show 1<=big;decide,_,rfl,_,_,rfl,rfl,_,rfl,_,c8,⟨by rw[List.length_map];omega,by rw[List.length_map];omega⟩,by rw[List.length_map];show 1 * _<=100000;omega,?_⟩;have er:(List.replicate (((es.map pairS).length:Int)).toNat [SV.non]).flatten=optsS (List.replicate es.length none):=by rw[List.length_map,Int.toNat_natCast,EN]
 rw[er];have hh:((S0++[SO.lst [SV.non]])++[SO.lst (optsS (List.replicate es.length none))])[(S0++[SO.lst [SV.non]]).length]?=some (SO.lst (optsS (List.replicate es.length none))):=c8;have G1:Gw S ((S0++[SO.lst [SV.non]])++[SO.lst (optsS (List.replicate es.length none))]):=G0.push.push;have lhl:S.length<=(S0++[SO.lst [SV.non]]).length:=by rw[List.length_append];have:=G0.len;omega
 generalize (S0++[SO.lst [SV.non]]).length=lh at *;generalize (S0++[SO.lst [SV.non]])++[SO.lst (optsS (List.replicate es.length none))]=S1 at *;refine⟨_,rfl,_,rfl,_,_,rfl,rfl,_,rfl,_,rfl,⟨by rw[List.length_map];omega,by rw[List.length_map];omega⟩,?_⟩;rw[List.length_map,Qv];have hlt:=v5 hh;refine hr W (PJ hl) c8 (by have:=D3 (n:=n) (PJ hl);omega) fun k ls S2 K G2 R2=>?_;have G12:Gw S1 S2:=(Gw.refl S1).push.trans G2;have hh2:=G12.keep _ _ hh;have K:RowsOk n es (List.range es.length) (BP n es):=K;have R2:Rw S2 k ls (BP n es):=R2;have kl:=K.len;rw[KU]at kl;have sub:=K.sub;have ok:=UN K
 have hk0:lh≠k\/es.length=0:=by
  by_cases z:lh=k
  ·right;have e:=R2.at';rw[<-z,hh2]at e;have e:=SO.lst.inj (oj e);cases hm:es.length with
   | zero=>rfl
   | succ m=>
     rw[hm]at e;cases ls with
     | nil=>cases e
     | cons a r=>cases e
  ·exact .inl z
 have most0:es.length=0->(BP n es).length=0:=fun z=>by
  have:es=[]:=List.length_eq_zero_iff.mp z;rw[this]at kl ⊢;have:mostN [] n<=0:=Di fun p _=>by unfold cntAt c9;simp
  omega
 have hrow:∀(i l:Nat) (r:List Nat),ls[i]?=some l->(BP n es)[i]?=some r->lh≠l:=fun i l r a b z=>by
  have e:=R2.rows i l r a b;rw[<-z,hh2]at e;have e:=SO.lst.inj (oj e);cases hm:es.length with
  | zero=>have:=most0 hm;have:=(gM b).1;omega
  | succ m=>
    rw[hm]at e;cases r with
    | nil=>cases e
    | cons a r=>cases e
 generalize hR:BP n es=R at *;refine⟨_,c5 R2.at',?_⟩;refine BU (j4 hΔ _) (fun j ρ S3=>∃ o2 o3 o4,ρ=[some (i3 n es),some (.loc lh),o2,o3,o4]/\S3=S2.set lh (SO.lst (optsS (Av es.length R j)))) ⟨_,_,_,rfl,(EV hh2).symm⟩ (fun j ρ S3 h=>?_) ?_ ?_
 ·obtain⟨_,_,_,_,rfl⟩:=h;show(S2.set lh _)[k]?=S2[k]?;rcases hk0 with z | z
  ·rw[j8 z]
  ·have e:Av es.length R j=List.replicate es.length none:=by
    have h1:=AA es.length R j;rw[z]at h1 ⊢;exact List.length_eq_zero_iff.mp h1
   rw[e,EV hh2]
 ·rintro j x ρ S3 E hnx _ hx ⟨o2,o3,o4,rfl,rfl⟩;obtain⟨y,hy,rfl⟩:=EH hx;rw[List.getElem?_map]at hy;cases ha:ls[j]? with
  | none=>rw[ha]at hy;cases hy
  | some lr=>
    rw[ha]at hy;have hy:=(oj hy).symm;subst hy;have hj:j<R.length:=by rw[<-R2.len];exact(gM ha).1
    have hb:=List.getElem?_eq_getElem hj;have hne:=hrow j lr _ ha hb;refine PL hΔ hne (j7 hh2) (by rw[j8 hne];exact R2.rows j lr _ ha hb) (fun t ht=>?_) fun o=>hnx _ _ ⟨_,_,_,rfl,?_⟩
    ·rw[AA];exact List.mem_range.mp (sub _ (List.getElem_mem hj) t ht)
    ·rw[List.set_set]
     congr 3
     show _=BO j (R.getD j []) _;rw[List.getD_eq_getElem?_getD,hb];rfl
 ·rintro ρ S3 ⟨o2,o3,o4,rfl,rfl⟩;rw[Dc,List.length_map,R2.len];have e:DR n es=Av es.length R R.length:=by unfold DR;rw[hR]
  refine⟨_,rfl,q _ _ ok ?_ (by rw[e];exact j7 hh2)⟩;exact⟨by rw[List.length_set];exact Nat.le_trans G1.len G12.len,fun a o ho=>by rw[j8 (by have:=v5 ho;omega)];exact G12.keep _ _ (G1.keep _ _ ho)⟩
end
open PySem L2
section
variable{Δ:Nat->Sn}
def SN:List Stm:=[(.ret (.or (.cmp .In (.ix (.ix (.ix (.var 0) (.c (.int 1))) (.var 1)) (.c (.int 0))) (.ix (.ix (.var 0) (.c (.int 1))) (.var 2))) (.cmp .In (.ix (.ix (.ix (.var 0) (.c (.int 1))) (.var 1)) (.c (.int 1))) (.ix (.ix (.var 0) (.c (.int 1))) (.var 2)))))]
def Shr(es:EE)(t u:Nat):Prop:=∃ p,(p=(tieE es t).1\/p=(tieE es t).2)/\(p=(tieE es u).1\/p=(tieE es u).2)
def JM(s:Sn):Prop:=∀{n t u:Nat} {es:EE} {S:Sto} {Q:QE},t<es.length->u<es.length->(∀ v:Bool,(v=true->Shr es t u)->Q (.bl v) S)->s [i3 n es,.int t,.int u] S Q
theorem RQ{D:Df}(hb:D.body=SN)(hN:D.N.length=3)(hp:D.ps.length=3):JM (i8 Δ D):=by
 intro n t u es S Q ht hu q;unfold i8;rw[hb,hN];have h1:atI (es.map pairS) (t:Int)=some (pairS (tieE es t)):=f8 (by rw[List.getElem?_map,A8 ht];rfl);have h2:atI (es.map pairS) (u:Int)=some (pairS (tieE es u)):=f8 (by rw[List.getElem?_map,A8 hu];rfl);refine⟨hp.symm,_,rfl,_,_,rfl,rfl,_,rfl,_,_,rfl,h1,_,.int ((tieE es t).1:Nat),rfl,rfl,_,rfl,_,_,rfl,rfl,_,rfl,_,_,rfl,h2,rfl,_,rfl,rfl,_,rfl,?_⟩;show if inS (.int (tieE es t).1) [.int (tieE es u).1,.int (tieE es u).2]=true then _ else _
 rw[Dd];refine ifB (fun z=>q true fun _=>?_) (fun z=>?_)
 ·refine⟨(tieE es t).1,.inl rfl,?_⟩;simp only[Bool.or_eq_true,decide_eq_true_eq]at z;exact z.imp Eq.symm Eq.symm
 ·refine⟨_,rfl,_,_,rfl,rfl,_,rfl,_,_,rfl,h1,_,.int ((tieE es t).2:Nat),rfl,rfl,_,rfl,_,_,rfl,rfl,_,rfl,_,_,rfl,h2,rfl,_,rfl,rfl,?_⟩;show Q (.bl (inS (.int (tieE es t).2) [.int (tieE es u).1,.int (tieE es u).2])) S;rw[Dd];refine q _ fun z=>⟨(tieE es t).2,.inr rfl,?_⟩
  simp only[Bool.or_eq_true,decide_eq_true_eq]at z;exact z.imp Eq.symm Eq.symm
def ih1:Stm:=(.iff (.or (.not (.bi .isi (.cons (.var 1) (.cons (.tup (.cons (.tyc .list) (.cons (.tyc .tuple) .nil))) .nil)))) (.cmp .NotEq (.bi .len (.cons (.var 1) .nil)) (.bi .len (.cons (.ix (.var 0) (.c (.int 1))) .nil)))) [(.ret (.c (.bl false)))] [])
def ih2:Stm:=(.iff (.and (.cmp .IsNot (.var 3) (.c .non)) (.or (.not (.bi .isi (.cons (.var 3) (.cons (.tyc .int) .nil)))) (.or (.bi .isi (.cons (.var 3) (.cons (.tyc .bool) .nil))) (.cmp .Lt (.var 3) (.c (.int 0)))))) [(.ret (.c (.bl false)))] [])
def ih3(km:Nat):Stm:=(.iff (.and (.cmp .IsNot (.var 3) (.c .non)) (.and (.cmp .Eq (.ix (.var 1) (.var 4)) (.var 3)) (.call km (.cons (.var 0) (.cons (.var 4) (.cons (.var 2) .nil)))))) [(.ret (.c (.bl false)))] [])
def PM(km:Nat):List Stm:=[ih1,(.loop (.tup (.cons (.nm 2) (.cons (.nm 3) .nil))) (.enum (.var 1)) [ih2,(.loop (.nm 4) (.rng1 (.var 2)) [ih3 km])]),(.ret (.c (.bl true)))]
def KW(s:Sn):Prop:=∀{n l:Nat} {es:EE} {hs:List (Option Nat)} {S:Sto} {Q:QE},HueOk n es hs->es.length<=90->S[l]?=some (SO.lst (optsS hs))->Q (.bl true) S->s [i3 n es,.loc l] S Q
theorem PN(hΔ:∀ f,MonoN (Δ f)){km:Nat}(hm:JM (Δ km)){D:Df}(hb:D.body=PM km)(hN:D.N.length=5)(hp:D.ps.length=2):KW (i8 Δ D):=by
 intro n l es hs S Q H hel hl q;unfold i8;rw[hb,hN];have hle:=H.len;refine⟨hp.symm,_,rfl,by show 2<=big;decide,.list,[.list,.tuple],by decide,OQ hl,rfl,_,rfl,ifF rfl ⟨_,rfl,_,c5 hl,_,rfl,_,_,rfl,rfl,_,rfl,_,rfl,ifF ?_ (m3 ?_)⟩⟩
 ·show(!decide (((optsS hs).length:Int)=((es.map pairS).length:Int)))=false;rw[m9,List.length_map,hle];simp
 refine⟨_,rfl,_,c5 hl,?_⟩;refine BU (j4 hΔ _) (fun i ρ S1=>∃ o2 o3 o4,ρ=[some (i3 n es),some (.loc l),o2,o3,o4]/\S1=S) ⟨_,_,_,rfl,rfl⟩ (fun _ _ _ h=>by obtain⟨_,_,_,_,h⟩:=h;rw[h];exact rfl) ?_ ?_
 ·rintro i x ρ S1 E hn hrt hx ⟨o2,o3,o4,rfl,rfl⟩;obtain⟨y,hy,rfl⟩:=EH hx;have hi:i<es.length:=by have:=(gM hy).1;rw[m9,hle]at this;exact this
  obtain⟨h,hh,_⟩:=H.all i hi;rw[i6 hh]at hy;have hy:=(oj hy).symm;subst hy;refine⟨_,rfl,.inl ⟨rfl,_,rfl,ifT rfl ⟨_,rfl,_,nofun,rfl,_,rfl,ifF rfl ⟨_,rfl,_,nofun,rfl,_,rfl,ifF rfl ⟨_,rfl,_,rfl,ifF (decide_eq_false (by omega)) (m3 ?_)⟩⟩⟩⟩⟩;refine⟨_,rfl,_,rfl,⟨by omega,by omega⟩,?_⟩;refine BU (j4 hΔ _) (fun j ρ S2=>∃ o4,ρ=[some (i3 n es),some (.loc l),some (.int (i:Int)),some (.int (h:Nat)),o4]/\S2=S1) ⟨_,rfl,rfl⟩ (fun _ _ _ _=>trivial) ?_ ?_
  ·rintro j x ρ S2 E' hn' _ hx ⟨o4,rfl,rfl⟩;obtain⟨rfl,hj⟩:=AT hx;rw[Int.zero_add]at hj ⊢;have hj:j<i:=by omega
   obtain⟨h',hh',_⟩:=H.all j (by omega);refine⟨_,rfl,.inl ⟨rfl,_,rfl,ifT rfl ⟨_,rfl,_,rfl,_,_,c5 hl,f8 (i6 hh'),_,rfl,_,rfl,ifD (fun z=>?_) (fun z=>?_)⟩⟩⟩
   ·have z:h'=h:=Int.natCast_inj.mp z;subst z;refine⟨_,rfl,_,rfl,_,rfl,hm (by omega) hi fun v hv=>⟨_,rfl,ifF ?_ (m3 (hn' _ _ ⟨_,rfl,rfl⟩))⟩⟩;cases v with
    | false=>rfl
    | true=>
      obtain⟨p,a,b⟩:=hv rfl;have:=H.ap j i h' p hh' hh a b;omega
   ·exact ifF rfl (m3 (hn' _ _ ⟨_,rfl,rfl⟩))
  ·rintro ρ S2 ⟨o4,rfl,rfl⟩;exact m3 (Δ:=Δ) (hn _ _ ⟨_,_,_,rfl,rfl⟩)
 ·rintro ρ S1 ⟨o2,o3,o4,rfl,rfl⟩;exact q
end
end Rf
namespace Hue
open PySem L2 Rf
def Lc:Stm:=(.asg (.nm 6) (.call 23 (.cons (.var 3) .nil)))
def Ld:Stm:=(.asg (.nm 7) (.call 31 (.cons (.var 3) .nil)))
def Le:Stm:=(.iff (.or (.not (.bi .isi (.cons (.var 6) (.cons (.tyc .list) .nil)))) (.not (.call 29 (.cons (.var 3) (.cons (.var 6) .nil))))) [(.ret (.c (.bl false)))] [])
def Lf:Stm:=(.iff (.not (.bi .all (.cons (.comp ["_law_hue"] ["_law_most_here"] [7] (.nm 0) (.seq (.var 6)) .no (.and (.cmp .IsNot (.var 0) (.c .non)) (.cmp .Lt (.var 0) (.var 1)))) .nil))) [(.ret (.c (.bl false)))] [])
def Lg:Stm:=(.asg (.nm 8) (.bi .list (.cons (.var 6) .nil)))
def Lh:Stm:=(.expr (.mt .append (.var 6) (.cons (.c (.int 0)) .nil)))
def Li:Stm:=(.expr (.mt .reverse (.var 6) .nil))
def Lj:Stm:=(.iff (.cmp .NotEq (.call 23 (.cons (.var 3) .nil)) (.var 8)) [(.ret (.c (.bl false)))] [])
def Lb:Stm:=(.iff (.and (.cmp .Eq (.call 25 (.cons (.var 2) (.cons (.c (.int 4)) .nil))) (.c (.int 0))) (.cmp .Lt (.bi .len (.cons (.ix (.var 3) (.c (.int 1))) .nil)) (.c (.int 12)))) [(.asg (.nm 4) (.lst .nil)),(.loop (.nm 5) (.seq (.ix (.var 3) (.c (.int 1)))) [(.expr (.mt .extend (.var 4) (.cons (.op .Mult (.lst (.cons (.var 5) .nil)) (.op .Add (.c (.int 1)) (.call 25 (.cons (.var 2) (.cons (.c (.int 4)) .nil))))) .nil)))]),(.asg (.nm 3) (.tup (.cons (.ix (.var 3) (.c (.int 0))) (.cons (.bi .tuple (.cons (.var 4) .nil)) .nil))))] [])
def top(i:Nat):Stmt:=PySem.Challenge.pw_huedties_k32_hued_by_halves.main.body.getD i (.Pass ⟨0,0,0,0⟩)
def b0:List Stm:=OS
def d0:Df:=⟨"is_number",top 6,["thing"],["thing"],b0⟩
def b1:List Stm:=FB 0
def d1:Df:=⟨"has_place",top 8,["web","place"],["web","place"],b1⟩
def b2:List Stm:=KA 0
def d2:Df:=⟨"has_tie",top 9,["web","tie"],["web","tie"],b2⟩
def b3:List Stm:=Fm 1
def d3:Df:=⟨"check_place",top 10,["web","place"],["web","place"],b3⟩
def b4:List Stm:=Fm 2
def d4:Df:=⟨"check_tie",top 11,["web","tie"],["web","tie"],b4⟩
def b5:List Stm:=KB 3
def d5:Df:=⟨"ties_at",top 12,["web","place"],["web","place"],b5⟩
def b6:List Stm:=Om 5
def d6:Df:=⟨"count_at",top 13,["web","place"],["web","place"],b6⟩
def b7:List Stm:=SK
def d7:Df:=⟨"most_at",top 14,["web"],["web","counts","one","other"],b7⟩
def b8:List Stm:=KC 4
def d8:Df:=⟨"far_end",top 15,["web","tie","place"],["web","tie","place","one","other"],b8⟩
def b9:List Stm:=SE 4
def d9:Df:=⟨"only",top 16,["web","ties"],["web","ties","tie"],b9⟩
def b10:List Stm:=SD 5 8
def d10:Df:=⟨"give_sides",top 18,["web","start","sides","back"],["web","start","sides","back","waiting","place","tie","far"],b10⟩
def b11:List Stm:=HW 8
def d11:Df:=⟨"way_back",top 19,["web","place","back"],["web","place","back","way"],b11⟩
def b12:List Stm:=SC 11
def d12:Df:=⟨"ring_through",top 20,["web","tie","back"],["web","tie","back","one","other","up","down"],b12⟩
def b13:List Stm:=Vk 10 12
def d13:Df:=⟨"two_sides",top 21,["web"],["web","sides","back","place","tie","one","other"],b13⟩
def b14:List Stm:=Hc 13
def d14:Df:=⟨"sides_of",top 22,["web"],["web","word","row"],b14⟩
def b15:List Stm:=Vl 5
def d15:Df:=⟨"couples_at",top 24,["web","place"],["web","place","ties"],b15⟩
def b16:List Stm:=KS 14 15
def d16:Df:=⟨"halves",top 25,["web"],["web","couples","half"],b16⟩
def b17:List Stm:=SF 5 8
def d17:Df:=⟨"ways_from",top 27,["web","pairs","starts"],["web","pairs","starts","came","waiting","place","tie","far","near"],b17⟩
def b18:List Stm:=SG 8
def d18:Df:=⟨"turn_way",top 28,["web","pairs","came","end"],["web","pairs","came","end","tie","near"],b18⟩
def b19:List Stm:=Op 17 6 8 18
def d19:Df:=⟨"give_pair",top 29,["web","pairs","start","needed"],["web","pairs","start","needed","came","place"],b19⟩
def b20:List Stm:=KM
def d20:Df:=⟨"ties_of",top 30,["pairs"],["pairs"],b20⟩
def b21:List Stm:=P1 14 7 6 19 20
def d21:Df:=⟨"full_pairing",top 31,["web"],["web","pairs","most","place"],b21⟩
def b22:List Stm:=SL 9 7 21 22 16
def d22:Df:=⟨"rows_by_halves",top 33,["web","ties"],["web","ties","among","most","row","one","other"],b22⟩
def b23:List Stm:=Vr 14 22
def d23:Df:=⟨"by_halves",top 34,["web"],["web","hueing","hue","row","tie"],b23⟩
def b24:List Stm:=SA
def d24:Df:=⟨"_law_tape",top 36,["_law_script","_law_k"],["_law_script","_law_k","_law_cell","_law_digits"],b24⟩
def b25:List Stm:=SB
def d25:Df:=⟨"_law_draw",top 37,["_law_tape_here","_law_many"],["_law_tape_here","_law_many","_law_found","_law_once"],b25⟩
def b26:List Stm:=Hr 25
def d26:Df:=⟨"_law_two_once",top 38,["_law_tape_here","_law_great"],["_law_tape_here","_law_great","_law_many","_law_sides","_law_left","_law_right","_law_way","_law_found","_law_one","_law_turn","_law_ties","_law_other"],b26⟩
def b27:List Stm:=FI 26
def d27:Df:=⟨"_law_two_sided",top 39,["_law_tape_here","_law_great"],["_law_tape_here","_law_great","_law_web","_law_turn"],b27⟩
def b28:List Stm:=SN
def d28:Df:=⟨"_law_meet",top 40,["_law_web","_law_one","_law_other"],["_law_web","_law_one","_law_other"],b28⟩
def b29:List Stm:=PM 28
def d29:Df:=⟨"_law_is_hueing",top 41,["_law_web","_law_row"],["_law_web","_law_row","_law_tie","_law_hue","_law_k"],b29⟩
def b30:List Stm:=KO
def d30:Df:=⟨"_law_count",top 42,["_law_web","_law_place"],["_law_web","_law_place"],b30⟩
def b31:List Stm:=P3 30
def d31:Df:=⟨"_law_most",top 43,["_law_web"],["_law_web"],b31⟩
def b32:List Stm:=[(.loop (.nm 1) (.rng1 (.op .Add (.c (.int 1)) (.bi .min (.cons (.c (.int 6)) (.cons (.bi .len (.cons (.var 0) .nil)) .nil))))) [(.asg (.nm 2) (.call 24 (.cons (.var 0) (.cons (.var 1) .nil)))),(.asg (.nm 3) (.call 27 (.cons (.var 2) (.cons (.and (.cmp .Eq (.var 1) (.c (.int 0))) (.cmp .Eq (.call 25 (.cons (.var 2) (.cons (.c (.int 8)) .nil))) (.c (.int 0)))) .nil)))),Lb,Lc,Ld,Le,Lf,Lg,Lh,Li,Lj]),(.ret (.and (.cmp .Eq (.call 23 (.cons (.tup (.cons (.c (.int 0)) (.cons (.tup .nil) .nil))) .nil)) (.lst .nil)) (.cmp .Eq (.call 23 (.cons (.tup (.cons (.c (.int 6)) (.cons (.tup .nil) .nil))) .nil)) (.lst .nil))))]
def d32:Df:=⟨"law",top 44,["_law_script"],["_law_script","_law_k","_law_tape_here","_law_web","_law_ties","_law_pair","_law_found","_law_most_here","_law_kept"],b32⟩
def prog:List Df:=[d0,d1,d2,d3,d4,d5,d6,d7,d8,d9,d10,d11,d12,d13,d14,d15,d16,d17,d18,d19,d20,d21,d22,d23,d24,d25,d26,d27,d28,d29,d30,d31,d32]
theorem Hy:prog.all (Qs (prog.map (·.name)))=true:=by decide +kernel
open PySem L2 Rf
theorem hW(d:Nat):∀ f,MonoN (W prog d f):=ED d
theorem s0(d:Nat):Db (W prog (d+1) 0):=OT (Δ:=W prog d) (D:=d0) rfl rfl rfl
theorem s1(d:Nat):Ce (W prog (d+2) 1):=HU (Δ:=W prog (d+1)) (D:=d1) (s0 d) rfl rfl rfl
theorem s2(d:Nat):EG (W prog (d+2) 2):=Lp (Δ:=W prog (d+1)) (D:=d2) (s0 d) rfl rfl rfl
theorem s3(d:Nat):BV (W prog (d+3) 3):=Ee (Δ:=W prog (d+2)) (D:=d3) (s1 d) rfl rfl rfl
theorem s4(d:Nat):BW (W prog (d+3) 4):=HV (Δ:=W prog (d+2)) (D:=d4) (s2 d) rfl rfl rfl
theorem s5(d:Nat):As (W prog (d+4) 5):=Lq (Δ:=W prog (d+3)) (D:=d5) (hW _) (s3 d) rfl rfl rfl
theorem s6(d:Nat):Dg (W prog (d+5) 6):=Oo (Δ:=W prog (d+4)) (D:=d6) (s5 d) rfl rfl rfl
theorem s7(d:Nat):G8 (W prog (d+1) 7):=RI (Δ:=W prog d) (D:=d7) (hW _) rfl rfl rfl
theorem s8(d:Nat):A6 (W prog (d+4) 8):=Ls (Δ:=W prog (d+3)) (D:=d8) (s4 d) rfl rfl rfl
theorem s9(d:Nat):J9 (W prog (d+4) 9):=R8 (Δ:=W prog (d+3)) (D:=d9) (hW _) (s4 d) rfl rfl rfl
theorem s10(d:Nat):J4 (W prog (d+5) 10):=Qx (Δ:=W prog (d+4)) (D:=d10) (hW _) (s5 d) (s8 d) rfl rfl rfl
theorem s11(d:Nat):DC (W prog (d+5) 11):=J3 (Δ:=W prog (d+4)) (D:=d11) (s8 d) rfl rfl rfl
theorem s12(d:Nat):Fn (W prog (d+6) 12):=Qw (Δ:=W prog (d+5)) (D:=d12) (s11 d) rfl rfl rfl
theorem s13(d:Nat):OX (W prog (d+7) 13):=UE (Δ:=W prog (d+6)) (D:=d13) (hW _) (s10 (d+1)) (s12 d) rfl rfl rfl
theorem s14(d:Nat):C2 (W prog (d+8) 14):=MA (Δ:=W prog (d+7)) (D:=d14) (s13 d) rfl rfl rfl
theorem s15(d:Nat):KH (W prog (d+5) 15):=UI (Δ:=W prog (d+4)) (D:=d15) (hW _) (s5 d) rfl rfl rfl
theorem s16(d:Nat):D2 (W prog (d+9) 16):=MG (Δ:=W prog (d+8)) (D:=d16) (hW _) (s14 d) (s15 (d+3)) rfl rfl rfl
theorem s17(d:Nat):JD (W prog (d+5) 17):=RA (Δ:=W prog (d+4)) (D:=d17) (hW _) (s5 d) (s8 d) rfl rfl rfl
theorem s18(d:Nat):JE (W prog (d+5) 18):=RC (Δ:=W prog (d+4)) (D:=d18) (s8 d) rfl rfl rfl
theorem s19(d:Nat):Fx (W prog (d+6) 19):=Oq (Δ:=W prog (d+5)) (D:=d19) (hW _) (s17 d) (s6 d) (s8 (d+1)) (s18 d) rfl rfl rfl
theorem s20(d:Nat):EM (W prog (d+1) 20):=Ly (Δ:=W prog d) (D:=d20) (hW _) rfl rfl rfl
theorem s21(d:Nat):Dh (W prog (d+9) 21):=P2 (Δ:=W prog (d+8)) (D:=d21) (hW _) (MF (s14 d)) (s7 (d+7)) (s6 (d+3)) (s19 (d+2)) (s20 (d+7)) rfl rfl rfl
theorem s22(d:Nat):∀ f,DH f (W prog (d+f+9) 22)
 | 0=>fun _ _ _ h=>absurd h (Nat.not_lt_zero _)
 | f+1=>RP (Δ:=W prog (d+f+9)) (D:=d22) (hW _) (s9 (d+f+5)) (s7 (d+f+8)) (s21 (d+f)) (s16 (d+f)) (s22 d f) rfl rfl rfl
theorem s23(d:Nat):SM (W prog (d+101) 23):=UO (Δ:=W prog (d+100)) (D:=d23) (hW _) (s14 (d+92)) (s22 d 91) rfl rfl rfl
theorem s24(d:Nat):OR (W prog (d+1) 24):=Qu (Δ:=W prog d) (D:=d24) rfl rfl rfl
theorem s25(d:Nat):Bx (W prog (d+1) 25):=Qt (Δ:=W prog d) (D:=d25) rfl rfl rfl
theorem s26(d:Nat):BN (W prog (d+2) 26):=JG (Δ:=W prog (d+1)) (D:=d26) (hW _) (s25 d) rfl rfl rfl
theorem s27(d:Nat):BN (W prog (d+3) 27):=Hs (Δ:=W prog (d+2)) (D:=d27) (hW _) (s26 d) rfl rfl rfl
theorem s28(d:Nat):JM (W prog (d+1) 28):=RQ (Δ:=W prog d) (D:=d28) rfl rfl rfl
theorem s29(d:Nat):KW (W prog (d+2) 29):=PN (Δ:=W prog (d+1)) (D:=d29) (hW _) (s28 d) rfl rfl rfl
theorem s30(d:Nat):ES (W prog (d+1) 30):=M6 (Δ:=W prog d) (D:=d30) (hW _) rfl rfl rfl
theorem s31(d:Nat):KP (W prog (d+2) 31):=P4 (Δ:=W prog (d+1)) (D:=d31) (hW _) (s30 d) rfl rfl rfl
noncomputable def hN(n:Nat)(es:EE):List Nat:=(DR n es).map fun o=>o.getD 0
theorem EW{n:Nat}{es:EE}(H:HueOk n es (DR n es)):optsS (DR n es)=natS (hN n es):=by
 unfold hN optsS natS;rw[List.map_map];refine List.map_congr_left fun o ho=>?_;obtain⟨t,ht,rfl⟩:=List.getElem_of_mem ho;obtain⟨h,hh,_⟩:=H.all t (by rw[<-H.len];exact ht);rw[List.getElem?_eq_getElem ht]at hh;rw[oj hh];rfl
theorem DJ{D:EndsS}{n:Nat}{es:EE}{S:Sto}{o0 o1 o2 o4 o5 o6 o7 o8:Option SV}(Wb:Web2 n es)(hel:es.length<=90)(q:∀(o6 o7 o8:Option SV) (S':Sto),D.nx [o0,o1,o2,some (i3 n es),o4,o5,o6,o7,o8] S'):wSs (W prog 101) [Lc,Ld,Le,Lf,Lg,Lh,Li,Lj] D [o0,o1,o2,some (i3 n es),o4,o5,o6,o7,o8] S:=by
 have hn:=Wb.few;refine⟨_,rfl,s23 0 Wb hel fun l S1 H G1 h1=>?_⟩;refine⟨_,rfl,s31 99 (by omega) (by omega) fun S2 G2=>?_⟩;have h2:=G2.keep _ _ h1;have hl:=H.len;refine⟨_,rfl,_,nofun,OQ h2,_,rfl,ifF rfl ⟨_,rfl,_,rfl,s29 99 H hel h2 ⟨_,rfl,ifF rfl (m3 ?_)⟩⟩⟩;refine⟨_,rfl,_,c5 h2,?_⟩;refine Oa (hW _) (b:=true) (by rw[m9];omega) (fun S' G=>by show S'[l]?=S2[l]?;rw[h2,G.keep _ _ h2]) ?_ ?_
 ·intro i y S' hy G;have hi:i<es.length:=by have:=(gM hy).1;rw[m9,hl]at this;exact this
  obtain⟨h,hh,hm⟩:=H.all i hi;rw[i6 hh]at hy;have hy:=(oj hy).symm;subst hy;refine⟨_,rfl,.inl ⟨rfl,_,rfl,ifT rfl ⟨_,rfl,_,rfl,?_,G⟩⟩⟩;exact congrArg SV.bl (decide_eq_true (by show(h:Int)<(mostN es n:Nat);omega))
 intro S3 G3;have G3':=G3.push (o:=SO.lst (List.replicate (optsS (DR n es)).length (.bl true)));refine⟨_,_,nofun,c5 c8,UF _ _,_,rfl,ifF (by rw[R4];rfl) (m3 ?_)⟩;have h3:=G3'.keep _ _ h2;rw[EW H]at h3;have hNl:(hN n es).length<=90:=by unfold hN;rw[List.length_map,hl];exact hel
 rw[EW H]at G3' ⊢;generalize S3++[SO.lst (List.replicate (natS (hN n es)).length (.bl true))]=S3 at *;refine⟨_,rfl,_,c5 h3,?_⟩;have h4:=f6 (o:=SO.lst (natS (hN n es))) h3;have k4:(S3++[SO.lst (natS (hN n es))])[S3.length]?=some (.lst (natS (hN n es))):=c8;have ne:l≠S3.length:=Nat.ne_of_lt (v5 h3);generalize S3.length=k at *;generalize S3++[SO.lst (natS (hN n es))]=S4 at *;refine⟨_,rfl,⟨_,_,rfl,h4⟩,_,h4,by rw[e6];show _<100000;omega,?_⟩;have h5:=j7 (u:=SO.lst (natS (hN n es)++[SV.int 0])) h4;have k5:(S4.set l (SO.lst (natS (hN n es)++[SV.int 0])))[k]?=some (.lst (natS (hN n es))):=by rw[j8 ne];exact k4
 generalize S4.set l (SO.lst (natS (hN n es)++[SV.int 0]))=S5 at *;refine⟨_,rfl,⟨_,_,rfl,h5⟩,_,h5,?_⟩;have k6:(S5.set l (SO.lst (natS (hN n es)++[SV.int 0]).reverse))[k]?=some (.lst (natS (hN n es))):=by rw[j8 ne];exact k5
 generalize S5.set l (SO.lst (natS (hN n es)++[SV.int 0]).reverse)=S6 at *;refine⟨_,rfl,s23 0 Wb hel fun l' S7 H7 G7 h7=>?_⟩;rw[EW H]at h7;refine⟨_,rfl,_,_,h7,G7.keep _ _ k6,.inl ⟨DD _,DD _⟩,_,rfl,ifF ?_ (m3 (q _ _ _ _))⟩;rw[Ox];rfl
theorem Hz{n:Nat}(hn:n<=60):Web2 n []:=⟨(fun _ h=>nomatch h),by simp,hn,⟨fun _=>0,(fun _=>by show 0<2;omega),(fun _ h=>nomatch h)⟩⟩
theorem PP(m:Nat)(e:Nat×Nat):(List.replicate m [pairS e]).flatten=(List.replicate m e).map pairS:=by
 induction m with
 | zero=>rfl
 | succ m ih=>rw[List.replicate_succ,List.flatten_cons,ih,List.replicate_succ,List.map_cons];rfl
theorem I0{E:EndsS}{n tp:Nat}{es:EE}{S3:Sto}{o0 o1 o4 o5 o6 o7 o8:Option SV}(Wb:Web2 n es)(hl:es.length<=90)(T3:TapeS S3 tp)(hE:∀(o3 o4 o5 o6 o7 o8:Option SV) (S':Sto),E.nx [o0,o1,some (.loc tp),o3,o4,o5,o6,o7,o8] S'):wSs (W prog 101) [Lb,Lc,Ld,Le,Lf,Lg,Lh,Li,Lj] E [o0,o1,some (.loc tp),some (i3 n es),o4,o5,o6,o7,o8] S3:=by
 refine⟨_,rfl,s25 100 T3 (by decide) (by decide) fun r' S4 r0' r1' T4 O4 _=>⟨_,rfl,?_⟩⟩;refine ifD (fun _=>?_) (fun _=>ifF rfl (m3 (DJ Wb hl fun o6 o7 o8 S'=>hE _ _ _ o6 o7 o8 S')));refine⟨_,rfl,_,_,rfl,rfl,_,rfl,_,rfl,?_⟩;refine ifD (fun hlt=>?_) (fun _=>m3 (DJ Wb hl fun o6 o7 o8 S'=>hE _ _ _ o6 o7 o8 S'))
 have hlt:es.length<12:=by
  have:(((es.map pairS).length:Nat):Int)<12:=hlt;rw[List.length_map]at this;omega
 refine⟨by show 0<=big;decide,?_⟩;have T5:=T4.push (o:=SO.lst []);have k5:(S4++[SO.lst []])[S4.length]?=some (.lst (([]:EE).map pairS)):=c8;have ne:S4.length≠tp:=by obtain⟨_,_,e,_⟩:=T4.ex;exact Ne.symm (Nat.ne_of_lt (v5 e))
 generalize S4.length=k at *;generalize S4++[SO.lst []]=S5 at *;refine⟨_,rfl,_,_,rfl,rfl,_,rfl,?_⟩;refine v9 (j4 (hW _) _) (fun j ρ S6=>∃(o5:Option SV) (fs:EE),ρ=[o0,o1,some (.loc tp),some (i3 n es),some (.loc k),o5,o6,o7,o8]/\TapeS S6 tp/\S6[k]?=some (.lst (fs.map pairS))/\fs.length<=4 * j/\∀ e∈fs,e∈es) ⟨_,[],rfl,T5,k5,Nat.le_refl _,fun _ h=>nomatch h⟩ (fun _ _ _ _=>trivial) ?_ ?_
 ·rintro j x ρ S6 hx ⟨o5,fs,rfl,T6,k6,hfl,hfs⟩;obtain⟨e,he,rfl⟩:=At hx;have hjl:=(gM he).1;refine⟨_,rfl,⟨_,_,rfl,k6⟩,_,rfl,by show 1<=big;decide,_,rfl,?_⟩;have T7:=T6.push (o:=SO.lst [pairS e]);have k7:=f6 (o:=SO.lst [pairS e]) k6;have p7:(S6++[SO.lst [pairS e]])[S6.length]?=some (.lst [pairS e]):=c8;have ne2:S6.length≠tp:=by obtain⟨_,_,e,_⟩:=T6.ex;exact Ne.symm (Nat.ne_of_lt (v5 e))
  generalize S6.length=kp at *;generalize S6++[SO.lst [pairS e]]=S7 at *;refine s25 100 T7 (by decide) (by decide) fun r8 S8 r80 r81 T8 O8 _=>?_;have k8:=O8.keep _ _ ne k7;have p8:=O8.keep _ _ ne2 p7;obtain⟨m8,rfl⟩:=Int.eq_ofNat_of_zero_le r80;have em:((1:Int)+(m8:Int)).toNat=m8+1:=by omega
  refine⟨_,p8,⟨by omega,by omega⟩,?_,?_⟩
  ·rw[em];show 1 * (m8+1)<=100000;omega
  rw[em,PP];refine⟨_,_,f6 k8,c8,?_,?_⟩
  ·rw[List.length_map,List.length_map,List.length_replicate];show _<=100000;omega
  refine⟨_,fs++List.replicate (m8+1) e,rfl,(T8.push).other ne,?_,?_,fun f hf=>?_⟩
  ·rw[j7 (f6 k8),List.map_append]
  ·rw[List.length_append,List.length_replicate];omega
  ·rcases List.mem_append.mp hf with hf | hf
   ·exact hfs f hf
   ·rw[(List.mem_replicate.mp hf).2];exact List.mem_of_getElem? he
 ·rintro ρ S6 ⟨o5,fs,rfl,T6,k6,hfl,hfs⟩;rw[List.length_map]at hfl
  have Wf:Web2 n fs:=by
   obtain⟨c,c2,cn⟩:=Wb.two;exact⟨fun e he=>Wb.en e (hfs e he),by omega,Wb.few,c,c2,fun e he=>cn e (hfs e he)⟩
  refine⟨_,rfl,_,_,rfl,rfl,_,rfl,_,c5 k6,by show 2<=big;decide,?_⟩;exact DJ Wf (by omega) fun o6 o7 o8 S'=>hE _ _ _ o6 o7 o8 S'
theorem IA{n:Nat}(H:HueOk n [] (DR n [])):optsS (DR n [])=[]:=by
 have h:=H.len;have:DR n []=[]:=List.length_eq_zero_iff.mp h;rw[this];rfl
theorem law_main(ns:List Int)(h:ns.length<=63):W prog 102 32 [.ro (ns.map SV.int)] [] fun x _=>x = .bl true:=by
 show i8 (W prog 101) d32 _ _ _
 have hj:∃ m:Nat,1+(if ((ns.map SV.int).length:Int)<6 then ((ns.map SV.int).length:Int) else 6)=(m:Int)/\m<=7:=by
  rw[List.length_map];refine⟨1+min 6 ns.length,?_,by omega⟩;split<;>omega
 obtain⟨m,hm,hm9⟩:=hj;refine⟨rfl,_,rfl,_,rfl,m,congrArg SV.int hm,⟨by omega,by omega⟩,?_⟩;refine v9 (j4 (hW _) _) (fun i ρ S'=>∃ o1 o2 o3 o4 o5 o6 o7 o8,ρ=[some (.ro (ns.map SV.int)),o1,o2,o3,o4,o5,o6,o7,o8]) ⟨none,none,none,none,none,none,none,none,rfl⟩ (fun _ _ _ _=>trivial) ?_ ?_
 ·rintro i x ρ S hx ⟨o1,o2,o3,o4,o5,o6,o7,o8,rfl⟩;obtain⟨rfl,hi⟩:=AT hx;rw[Int.zero_add]at hi ⊢;refine⟨_,rfl,_,rfl,s24 100 h (by omega) fun a b ha hb hb2=>?_⟩;have T1:TapeS (S++[SO.lst [.int a,.int b]]) S.length:=⟨a,b,c8,ha,hb,hb2⟩
  dsimp only[List.set];generalize S.length=tp at *;generalize S++[SO.lst [.int a,.int b]]=S1 at *;have go:∀(g:Bool) (S2:Sto) (Q:QE),TapeS S2 tp->(∀ n es S3,Web2 n es->es.length<=90->TapeS S3 tp->Q (i3 n es) S3)->W prog 101 27 [.loc tp,.bl g] S2 Q:=fun g S2 Q T2 q=>s27 98 T2 fun n es S3 Wb hn hl T3 O3=>q n es S3 Wb hl T3;refine⟨_,rfl,_,rfl,_,rfl,ifD (fun _=>?_) (fun _=>?_)⟩
  ·refine⟨_,rfl,s25 100 T1 (by decide) (by decide) fun r S2 r0 r1 T2 O2 _=>?_⟩;refine go _ S2 _ T2 fun n es S3 Wb hl T3=>?_;dsimp only[List.set];exact I0 Wb hl T3 fun _ _ _ _ _ _ _=>⟨_,_,_,_,_,_,_,_,rfl⟩
  ·refine go _ S1 _ T1 fun n es S3 Wb hl T3=>?_;dsimp only[List.set];exact I0 Wb hl T3 fun _ _ _ _ _ _ _=>⟨_,_,_,_,_,_,_,_,rfl⟩
 ·rintro ρ S ⟨o1,o2,o3,o4,o5,o6,o7,o8,rfl⟩;have b0:0<=big:=by decide
  have b2:2<=big:=by decide
  refine⟨b0,b2,s23 0 (Hz (n:=0) (by omega)) (by simp) fun l S1 H1 G1 h1=>?_⟩;rw[IA H1]at h1;refine⟨b0,_,_,f6 h1,c8,.inr (.inl rfl),_,rfl,ifT rfl ?_⟩;refine⟨b0,b2,s23 0 (Hz (n:=6) (by omega)) (by simp) fun l S2 H2 G2 h2=>?_⟩;rw[IA H2]at h2;exact⟨b0,_,_,f6 h2,c8,.inr (.inl rfl),rfl⟩
end Hue
namespace PySem.W.Fast
theorem tw14127910857192916416:True:=⟨⟩
theorem tw8378616411777533668:True:=⟨⟩
theorem tw12020812581237454942:True:=⟨⟩
theorem tw5853367293405831467:True:=⟨⟩
theorem tw9343785686555584713:True:=⟨⟩
theorem tw16547266467585277368:True:=⟨⟩
theorem tw11390290905375454756:True:=⟨⟩
theorem tw14501938343402211459:True:=⟨⟩
theorem tw1133789205519361790:True:=⟨⟩
theorem tw12034146814206569246:True:=⟨⟩
theorem tw6190564354734459525:True:=⟨⟩
theorem tw4424490139984334474:True:=⟨⟩
theorem tw9629624471987586766:True:=⟨⟩
theorem tw9937694316289402000:True:=⟨⟩
theorem tw12752424026916188273:True:=⟨⟩
theorem tw3754423552851351152:True:=⟨⟩
theorem tw15669222067669605280:True:=⟨⟩
theorem tw1776216726492750427:True:=⟨⟩
theorem tw3116107831071378739:True:=⟨⟩
theorem tw9479902336292300158:True:=⟨⟩
theorem tw1046761133131975967:True:=⟨⟩
theorem tw1229135270244022347:True:=⟨⟩
theorem tw17279844218676385728:True:=⟨⟩
theorem tw8290709936628998589:True:=⟨⟩
theorem tw9368994721766228115:True:=⟨⟩
theorem tw5696864649853942642:True:=⟨⟩
theorem tw5403749611018823975:True:=⟨⟩
theorem tw1945639336325993140:True:=⟨⟩
theorem tw18395307877573537094:True:=⟨⟩
theorem tw17566407220848266259:True:=⟨⟩
theorem tw474090981197013416:True:=⟨⟩
theorem tw15032778044620688059:True:=⟨⟩
theorem tw10313548872108005093:True:=⟨⟩
theorem tw11939538862553431428:True:=⟨⟩
theorem tw3490820673408986019:True:=⟨⟩
theorem tw3732770610318623192:True:=⟨⟩
theorem tw17216964095947045892:True:=⟨⟩
theorem tw10605296829398468769:True:=⟨⟩
theorem tw3130196430049114006:True:=⟨⟩
theorem tw1711665466418564648:True:=⟨⟩
theorem tw13375537698036168645:True:=⟨⟩
end PySem.W.Fast
namespace Hue
open PySem L2 Rf
def y6(K:PySem.W.Frag)(nm:Str)(i:Nat):Prop:=∃(f:Addr) (od an:Option Addr) (sl:Array (Option Value)) (oc kV dc pm cd ct:Value),PySem.W.nsIn K mainGlobals nm=some (some (.ref f))/\K.lookup f=some ⟨oc,od,.func (PySem.W.fnOf nm nm (defArgs (top i)) (defBody (top i)) (defScope (top i)) .none kV dc pm an cd ct),sl⟩/\PySem.W.codeIn K cd nm=true/\PySem.W.keepIn K (.ref f)=true
theorem lnkK_mk{K:PySem.W.Frag}{nm:Str}{i:Nat}{f:Addr}{od an:Option Addr}{sl:Array (Option Value)}{oc kV dc pm cd ct:Value}(a:PySem.W.nsIn K mainGlobals nm=some (some (.ref f)))(l:K.lookup f=some ⟨oc,od,.func (PySem.W.fnOf nm nm (defArgs (top i)) (defBody (top i)) (defScope (top i)) .none kV dc pm an cd ct),sl⟩)(c:PySem.W.codeIn K cd nm=true)(k:PySem.W.keepIn K (.ref f)=true):y6 K nm i:=⟨f,od,an,sl,oc,kV,dc,pm,cd,ct,a,l,c,k⟩
theorem j0{K:PySem.W.Frag}{h:Heap}{mg:Str->Option Value}(X:K.In h)(G:h.Ns mainGlobals mg)(D:Df){i:Nat}(x:y6 K D.name i)(e:D.st=top i)(b:∀(kV doc pm:Value) (an:Option Addr) (cdv ct:Value) (us:List Value),us.length=D.ps.length->bindArgs (PySem.W.fnOf D.name D.name (defArgs (top i)) (defBody (top i)) (defScope (top i)) .none kV doc pm an cdv ct) ⟨us,[]⟩=pure (D.ps.zip us)):PIn K mg D:=by
 obtain⟨_,_,_,_,_,_,_,_,_,_,a,l,c,k⟩:=x;exact⟨_,_,e▸IN (st:=top i) l c k,PySem.W.mg_of X G a,k,(IN (st:=top i) l c k).binds (ps:=D.ps) b⟩
theorem m6{P:Df->Prop}{D:Df}{l:List Df}(a:P D)(b:∀ x∈l,P x):∀ x∈D::l,P x:=List.forall_mem_cons.mpr ⟨a,b⟩
theorem all_mk{l:PySem.W.OpenLaw}{w:World}{K:PySem.W.Frag}{h:Heap}{mg:Str->Option Value}{fa:Addr}(X:K.In h)(G:h.Ns mainGlobals mg)(hfa:mg "law"=some (.ref fa))
 (x0:y6 K "is_number" 6)
 (x1:y6 K "has_place" 8)
 (x2:y6 K "has_tie" 9)
 (x3:y6 K "check_place" 10)
 (x4:y6 K "check_tie" 11)
 (x5:y6 K "ties_at" 12)
 (x6:y6 K "count_at" 13)
 (x7:y6 K "most_at" 14)
 (x8:y6 K "far_end" 15)
 (x9:y6 K "only" 16)
 (x10:y6 K "give_sides" 18)
 (x11:y6 K "way_back" 19)
 (x12:y6 K "ring_through" 20)
 (x13:y6 K "two_sides" 21)
 (x14:y6 K "sides_of" 22)
 (x15:y6 K "couples_at" 24)
 (x16:y6 K "halves" 25)
 (x17:y6 K "ways_from" 27)
 (x18:y6 K "turn_way" 28)
 (x19:y6 K "give_pair" 29)
 (x20:y6 K "ties_of" 30)
 (x21:y6 K "full_pairing" 31)
 (x22:y6 K "rows_by_halves" 33)
 (x23:y6 K "by_halves" 34)
 (x24:y6 K "_law_tape" 36)
 (x25:y6 K "_law_draw" 37)
 (x26:y6 K "_law_two_once" 38)
 (x27:y6 K "_law_two_sided" 39)
 (x28:y6 K "_law_meet" 40)
 (x29:y6 K "_law_is_hueing" 41)
 (x30:y6 K "_law_count" 42)
 (x31:y6 K "_law_most" 43)
 (x32:y6 K "law" 44)
 (z0:PySem.W.nsIn K mainGlobals "len"=some none)
 (z1:PySem.W.nsIn K mainGlobals "abs"=some none)
 (z2:PySem.W.nsIn K mainGlobals "min"=some none)
 (z3:PySem.W.nsIn K mainGlobals "max"=some none)
 (z4:PySem.W.nsIn K mainGlobals "int"=some none)
 (z5:PySem.W.nsIn K mainGlobals "list"=some none)
 (z6:PySem.W.nsIn K mainGlobals "tuple"=some none)
 (z7:PySem.W.nsIn K mainGlobals "all"=some none)
 (z8:PySem.W.nsIn K mainGlobals "any"=some none)
 (z9:PySem.W.nsIn K mainGlobals "sorted"=some none)
 (z10:PySem.W.nsIn K mainGlobals "isinstance"=some none)
 (z11:PySem.W.nsIn K mainGlobals "str"=some none)
 (z12:PySem.W.nsIn K mainGlobals "range"=some none)
 (z13:PySem.W.nsIn K mainGlobals "enumerate"=some none)
 (z14:PySem.W.nsIn K mainGlobals "zip"=some none)
 (z15:PySem.W.nsIn K mainGlobals "set"=some none)
 (z16:PySem.W.nsIn K mainGlobals "bool"=some none)
 (z17:PySem.W.nsIn K mainGlobals "dict"=some none)
 : ∃ fd:FuncData,(∀(s:Shared) (v:Value),BindsTo s fd ⟨[v],[]⟩ [("_law_script",v)])/\∀ base:Heap,K.In base->base.Ns mainGlobals mg->FnOk l.prog w K mg base CX0 102 fa fd ["_law_script"] (spS K (W prog 102 32)):=by
 have y:=x32;obtain⟨f32,od32,an32,sl32,oc32,kV32,dc32,pm32,cd32,ct32,a32,l32,c32,k32⟩:=x32;have e:=hfa.symm.trans (PySem.W.mg_of X G a32);cases e
 have B:Bl mg:=by
  refine⟨fun b=>?_,PySem.W.mg_none_of X G z12,PySem.W.mg_none_of X G z13,PySem.W.mg_none_of X G z14,PySem.W.mg_none_of X G z15,PySem.W.mg_none_of X G z17,fun t ht=>?_⟩
  ·cases b with
   | len=>exact PySem.W.mg_none_of X G z0
   | abs=>exact PySem.W.mg_none_of X G z1
   | min=>exact PySem.W.mg_none_of X G z2
   | max=>exact PySem.W.mg_none_of X G z3
   | int=>exact PySem.W.mg_none_of X G z4
   | list=>exact PySem.W.mg_none_of X G z5
   | tuple=>exact PySem.W.mg_none_of X G z6
   | all=>exact PySem.W.mg_none_of X G z7
   | any=>exact PySem.W.mg_none_of X G z8
   | sorted=>exact PySem.W.mg_none_of X G z9
   | isi=>exact PySem.W.mg_none_of X G z10
   | str=>exact PySem.W.mg_none_of X G z11
  ·cases t with
   | int=>exact PySem.W.mg_none_of X G z4
   | bool=>exact PySem.W.mg_none_of X G z16
   | str=>exact PySem.W.mg_none_of X G z11
   | list=>exact PySem.W.mg_none_of X G z5
   | tuple=>exact PySem.W.mg_none_of X G z6
   | none=>exact absurd rfl ht
 have hin:∀ D∈prog,PIn K mg D:=m6 (j0 X G d0 x0 rfl fun _ _ _ _ _ _=>Ed fun _=>rfl) (m6 (j0 X G d1 x1 rfl fun _ _ _ _ _ _=>Cd fun _ _=>rfl) (m6 (j0 X G d2 x2 rfl fun _ _ _ _ _ _=>Cd fun _ _=>rfl) (m6 (j0 X G d3 x3 rfl fun _ _ _ _ _ _=>Cd fun _ _=>rfl) (m6 (j0 X G d4 x4 rfl fun _ _ _ _ _ _=>Cd fun _ _=>rfl) (m6 (j0 X G d5 x5 rfl fun _ _ _ _ _ _=>Cd fun _ _=>rfl) (m6 (j0 X G d6 x6 rfl fun _ _ _ _ _ _=>Cd fun _ _=>rfl) (m6 (j0 X G d7 x7 rfl fun _ _ _ _ _ _=>Ed fun _=>rfl) (m6 (j0 X G d8 x8 rfl fun _ _ _ _ _ _=>OL fun _ _ _=>rfl) (m6 (j0 X G d9 x9 rfl fun _ _ _ _ _ _=>Cd fun _ _=>rfl) (m6 (j0 X G d10 x10 rfl fun _ _ _ _ _ _=>UB fun _ _ _ _=>rfl) (m6 (j0 X G d11 x11 rfl fun _ _ _ _ _ _=>OL fun _ _ _=>rfl) (m6 (j0 X G d12 x12 rfl fun _ _ _ _ _ _=>OL fun _ _ _=>rfl) (m6 (j0 X G d13 x13 rfl fun _ _ _ _ _ _=>Ed fun _=>rfl) (m6 (j0 X G d14 x14 rfl fun _ _ _ _ _ _=>Ed fun _=>rfl) (m6 (j0 X G d15 x15 rfl fun _ _ _ _ _ _=>Cd fun _ _=>rfl) (m6 (j0 X G d16 x16 rfl fun _ _ _ _ _ _=>Ed fun _=>rfl) (m6 (j0 X G d17 x17 rfl fun _ _ _ _ _ _=>OL fun _ _ _=>rfl) (m6 (j0 X G d18 x18 rfl fun _ _ _ _ _ _=>UB fun _ _ _ _=>rfl) (m6 (j0 X G d19 x19 rfl fun _ _ _ _ _ _=>UB fun _ _ _ _=>rfl) (m6 (j0 X G d20 x20 rfl fun _ _ _ _ _ _=>Ed fun _=>rfl) (m6 (j0 X G d21 x21 rfl fun _ _ _ _ _ _=>Ed fun _=>rfl) (m6 (j0 X G d22 x22 rfl fun _ _ _ _ _ _=>Cd fun _ _=>rfl) (m6 (j0 X G d23 x23 rfl fun _ _ _ _ _ _=>Ed fun _=>rfl) (m6 (j0 X G d24 x24 rfl fun _ _ _ _ _ _=>Cd fun _ _=>rfl) (m6 (j0 X G d25 x25 rfl fun _ _ _ _ _ _=>Cd fun _ _=>rfl) (m6 (j0 X G d26 x26 rfl fun _ _ _ _ _ _=>Cd fun _ _=>rfl) (m6 (j0 X G d27 x27 rfl fun _ _ _ _ _ _=>Cd fun _ _=>rfl) (m6 (j0 X G d28 x28 rfl fun _ _ _ _ _ _=>OL fun _ _ _=>rfl) (m6 (j0 X G d29 x29 rfl fun _ _ _ _ _ _=>Cd fun _ _=>rfl) (m6 (j0 X G d30 x30 rfl fun _ _ _ _ _ _=>Cd fun _ _=>rfl) (m6 (j0 X G d31 x31 rfl fun _ _ _ _ _ _=>Ed fun _=>rfl) (m6 (j0 X G d32 y rfl fun _ _ _ _ _ _=>Ed fun _=>rfl) (fun _ h=>nomatch h)))))))))))))))))))))))))))))))));refine⟨PySem.W.fnOf "law" "law" (defArgs (top 44)) (defBody (top 44)) (defScope (top 44)) .none kV32 dc32 pm32 an32 cd32 ct32,fun s v => .of_eq rfl,fun base _ _=>?_⟩
 exact OO (P:=l.prog) (w:=w) (base:=base) (k:=101) (Δ:=W prog 101) (D:=d32) (IN (st:=top 44) l32 c32 k32) (List.all_eq_true.mp Hy d32 (List.mem_of_getElem? (show prog[32]?=some d32 from rfl))) B (fun g x hx=>by
  rw[List.getElem?_map]at hx;cases hg:prog[g]? with
  | none=>rw[hg]at hx;cases hx
  | some D'=>
    rw[hg]at hx;have:D'.name=x:=by simpa using hx
    subst this;exact⟨D'.ps,K7 Hy B hin 101 g D' hg⟩) (ED 101)
theorem walkL{l:PySem.W.OpenLaw}{q:Program}{loose:List Str}{XP:(Str->Option Value)->Heap->Prop}{YP:World->Heap->Prop}{d:DefRec}{K:Params->PySem.W.Frag}(hn:l.most=some 63)(hdf:d.params.defaults=[])
 (hY:∀(w:World) (h:Heap),YP w h->(K w.params).In h)
 (F:∀(w:World) (mg:Str->Option Value) (fa:Addr) (h:Heap),(K w.params).In h->h.Ns mainGlobals mg->mg d.name=some (.ref fa)->
   ∃ fd:FuncData,(∀(s:Shared) (u:Value),BindsTo s fd ⟨[u],[]⟩ [("_law_script",u)])/\∀ base:Heap,(K w.params).In base->base.Ns mainGlobals mg->FnOk l.prog w (K w.params) mg base CX0 102 fa fd ["_law_script"] (spS (K w.params) (W prog 102 32))):
 PySem.W.WalkO q loose XP YP l.row.toRowW d [] (fun f vs=>PySem.call f vs):=
 L2.walk_of (n:=63) (k:=102) (x:="_law_script") (CX:=fun _=>CX0) (sp:=fun w=>spS (K w.params) (W prog 102 32)) hn (by decide) hdf ⟨rfl,by decide,by decide,rfl⟩ hY F (fun _ _ a ns hl hO hS=>UD (law_main ns hl) hO hS) fun _ _ _ _ _ z=>z
end Hue
open PySem PySem.W PyProof.Rows
set_option maxRecDepth 100000 in
set_option maxHeartbeats 0 in
theorem PySem.Challenge.cw_huedties_k32_hued_by_halves_holds : PySem.Challenge.rw_huedties_k32_hued_by_halves.Holds := by
 w_on;o_law;k_head;(case hw=>w_witness2)
 k_fill
 refine Hue.walkL (l:=PySem.Challenge.rw_huedties_k32_hued_by_halves) rfl rfl (fun w h Y=>PySem.W.kIn_of Y) ?F
 case F=>
  intro w mg fa h KX G hmg;refine' Hue.all_mk KX G hmg ?_ ?_ ?_ ?_ ?_ ?_ ?_ ?_ ?_ ?_ ?_ ?_ ?_ ?_ ?_ ?_ ?_ ?_ ?_ ?_ ?_ ?_ ?_ ?_ ?_ ?_ ?_ ?_ ?_ ?_ ?_ ?_ ?_ ?_ ?_ ?_ ?_ ?_ ?_ ?_ ?_ ?_ ?_ ?_ ?_ ?_ ?_ ?_ ?_ ?_ ?_
  all_goals first | exact Hue.lnkK_mk (by k_is) (by k_is) (by k_is) (by k_is) | k_is
#print axioms PySem.Challenge.cw_huedties_k32_hued_by_halves_holds
